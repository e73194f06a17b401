import PyProof.Rows.All
import Wide.All
import OpenK.AllK
import Wide.FinOn
import HandS.ForMost
import HandS.Evl
import HandS.TupAny
import HandS.TupLe
import HandS.IsInst
import HandS.Property
import HandS.Style
import HandS.Rev
import HandS.SortInts
import HandS.Deep
import HandS.Conv
import HandS.TupMul
import PyProof.TupleOfSeq
import HandS.Zip
import HandS.OwnEq
import HandS.SetFor
import KE.DataMinMax
import PyProof.WalkInts
import KE.KIndexOf
import KE.DataFind
import PyProof.Draws
import PyProof.ListRange
import PyProof.ListNew
import HandS.Flow
import HandS.NamedTupSort
import HandS.TupSets
import PyProof.SumWalkG
import PyProof.Rows.SumAny
import HandS.WideBits
import HandS.FStr
import HandS.WordsExc
import HandS.ExcIs
import PySem.Challenge.RW_neededrows_k01_network_refused
set_option Elab.async false
set_option linter.all false
set_option maxRecDepth 100000
set_option maxRecDepth 100000
namespace Dt
open PySem PySem.Spec PyProof.Rows L2
open Evl (Ex)

/-- plain data; net: an instance with two fields -/
inductive D where
  | non | bl (b : Bool) | int (i : Int) | str (s : Str) | tup (l : List D) | lst (l : List D) | net (w : Int) (c : D) | frz (l : List Int) | opq (a : Addr) | tmp (l : List D) | hol (n : Nat) | dic (ks vs : List D)

structure Cfg where
  net : Addr
  K : PySem.W.Frag
  /-- where the data's numbered lists stand -/
  cells : List Addr
  /-- what is true of a dict with keys that are nested tuples -/
  dicN : Addr → List V → List D → List V → Heap → Prop
/-- keys of dicts -/
def keyD : D → Option Key
  | .int i => some (.inl i)
  | .str x => some (.inr x)
  | _ => none
/-- a dict with number and text keys, or one whose keys are (nested) tuples; kxs: the keys, xs: the values -/
def DicAt (C : Cfg) (H : Hp) (a : Addr) (kxs : List V) (ks : List D) (xs : List V) : Prop :=
  (∃ kvs : List (Key × V), H a = some (.dK kvs) ∧ ks.map keyD = kvs.map (fun p => some p.1) ∧ kxs = kvs.map (fun p => kV p.1) ∧ xs = kvs.map (·.2)) ∨ H a = some (.ext (C.dicN a kxs ks xs))
theorem DicAt.mono {C : Cfg} {H H' : Hp} {a : Addr} {kxs : List V} {ks : List D} {xs : List V} (e : Ex H H') (h : DicAt C H a kxs ks xs) : DicAt C H' a kxs ks xs :=
  h.imp (fun ⟨k, h1, h2⟩ => ⟨k, e _ _ h1, h2⟩) (fun h1 => e _ _ h1)
theorem DicAt.obj {C : Cfg} {H : Hp} {a : Addr} {kxs : List V} {ks : List D} {xs : List V} (h : DicAt C H a kxs ks xs) : ∃ o, H a = some o ∧ (∀ l, o ≠ .lst l) ∧ ∀ H' : Hp, H' a = some o → DicAt C H' a kxs ks xs := by
  rcases h with ⟨k, h1, h2⟩ | h1
  · exact ⟨_, h1, (fun l z => by cases z), fun H' e => .inl ⟨k, e, h2⟩⟩
  · exact ⟨_, h1, (fun l z => by cases z), fun H' e => .inr e⟩
def FrzL (K : PySem.W.Frag) (H : Hp) (a : Addr) (ns : List Int) : Prop := (∃ o, H a = some (.frz o (.lst (ns.map V.int)))) ∨ ∀ H', SqL K H' a (ns.map V.int)
theorem FrzL.mono {K : PySem.W.Frag} {H H' : Hp} {a : Addr} {ns : List Int} (e : Ex H H') (h : FrzL K H a ns) : FrzL K H' a ns := h.imp (fun ⟨o, q⟩ => ⟨o, e _ _ q⟩) id
theorem FrzL.sq {K : PySem.W.Frag} {H : Hp} {a : Addr} {ns : List Int} (h : FrzL K H a ns) : SqL K H a (ns.map V.int) := h.elim (fun ⟨o, q⟩ => .inl (.inr ⟨o, q⟩)) fun q => q H
/-- a tuple, held to its object, without attributes of its own -/
def TupN (H : Hp) (a : Addr) (xs : List V) : Prop := ∃ ob : Obj, H a = some (.frz ob (.tup xs)) ∧ ob.dict = none
theorem TupN.mono {H H' : Hp} {a : Addr} {xs : List V} (e : Ex H H') (h : TupN H a xs) : TupN H' a xs := let ⟨o, h, d⟩ := h; ⟨o, e _ _ h, d⟩
theorem TupN.sq {K : PySem.W.Frag} {H : Hp} {a : Addr} {xs : List V} (h : TupN H a xs) : SqT K H a xs := let ⟨o, h, _⟩ := h; .inl (.inr ⟨o, h⟩)
inductive Fl | pure | fresh | bor
  deriving DecidableEq
abbrev E := List (Option (D × Bool))
abbrev M := E → Option (D × Fl)

mutual
inductive Rep (C : Cfg) (H : Hp) : V → D → Prop
  | non : Rep C H .non .non
  | bl (b : Bool) : Rep C H (.bl b) (.bl b)
  | int (i : Int) : Rep C H (.int i) (.int i)
  | str (x : Str) : Rep C H (.str x) (.str x)
  | tup {a : Addr} {xs : List V} {ds : List D} : TupN H a xs → Reps C H xs ds → Rep C H (.ref a) (.tup ds)
  | tmp {a : Addr} {xs : List V} {ds : List D} : H a = some (.tup xs) → Reps C H xs ds → Rep C H (.ref a) (.tmp ds)
  | lst {a : Addr} {xs : List V} {ds : List D} : H a = some (.lst xs) → Reps C H xs ds → Rep C H (.ref a) (.lst ds)
  | net {a dx : Addr} {x : V} {w : Int} {c : D} : H a = some (.ins C.net dx [("wires", .int w), ("comparers", x)]) → Rep C H x c → Rep C H (.ref a) (.net w c)
  | frz {a : Addr} {ns : List Int} : FrzL C.K H a ns → Rep C H (.ref a) (.frz ns)
  | opq (a : Addr) : Rep C H (.ref a) (.opq a)
  | hol {n : Nat} {a : Addr} : C.cells[n]? = some a → Rep C H (.ref a) (.hol n)
  | dic {a : Addr} {kxs xs : List V} {ks vs : List D} : DicAt C H a kxs ks xs → Reps C H kxs ks → Reps C H xs vs → Rep C H (.ref a) (.dic ks vs)
inductive Reps (C : Cfg) (H : Hp) : List V → List D → Prop
  | nil : Reps C H [] []
  | cons {v : V} {vs : List V} {d : D} {ds : List D} : Rep C H v d → Reps C H vs ds → Reps C H (v :: vs) (d :: ds)
end

variable {C : Cfg} {H H' H'' : Hp} {O O' O0 : List Addr}

mutual
theorem Rep.mono (e : Ex H H') : ∀ {d : D} {v : V}, Rep C H v d → Rep C H' v d
  | .non, _, h => by cases h; exact .non
  | .bl _, _, h => by cases h; exact .bl _
  | .int _, _, h => by cases h; exact .int _
  | .str _, _, h => by cases h; exact .str _
  | .tup ds, _, h => by cases h with | tup h1 h2 => exact .tup (h1.mono e) (Reps.mono e h2)
  | .tmp ds, _, h => by cases h with | tmp h1 h2 => exact .tmp (e _ _ h1) (Reps.mono e h2)
  | .lst ds, _, h => by cases h with | lst h1 h2 => exact .lst (e _ _ h1) (Reps.mono e h2)
  | .net w c, _, h => by cases h with | net h1 h2 => exact .net (e _ _ h1) (Rep.mono e h2)
  | .frz _, _, h => by cases h with | frz h1 => exact .frz (h1.mono e)
  | .opq _, _, h => by cases h; exact .opq _
  | .hol _, _, h => by cases h with | hol h1 => exact .hol h1
  | .dic ks vs, _, h => by cases h with | dic h1 h0 h2 => exact .dic (h1.mono e) (Reps.mono e h0) (Reps.mono e h2)
theorem Reps.mono (e : Ex H H') : ∀ {ds : List D} {vs : List V}, Reps C H vs ds → Reps C H' vs ds
  | [], _, h => by cases h; exact .nil
  | _ :: _, _, h => by cases h with | cons h1 h2 => exact .cons (Rep.mono e h1) (Reps.mono e h2)
end

theorem Reps.length : ∀ {ds : List D} {vs : List V}, Reps C H vs ds → vs.length = ds.length
  | [], _, h => by cases h; rfl
  | _ :: _, _, h => by cases h with | cons h1 h2 => simp [Reps.length h2]
theorem Reps.append : ∀ {ds es : List D} {vs ws : List V}, Reps C H vs ds → Reps C H ws es → Reps C H (vs ++ ws) (ds ++ es)
  | [], _, _, _, h, k => by cases h; exact k
  | _ :: _, _, _, _, h, k => by cases h with | cons h1 h2 => exact .cons h1 (Reps.append h2 k)
theorem Reps.get : ∀ {ds : List D} {vs : List V} {i : Nat} {d : D}, Reps C H vs ds → ds[i]? = some d → ∃ v, vs[i]? = some v ∧ Rep C H v d
  | [], _, i, d, h, e => by simp at e
  | _ :: _, _, 0, d, h, e => by cases h with | cons h1 h2 => simp at e; subst e; exact ⟨_, rfl, h1⟩
  | _ :: _, _, i + 1, d, h, e => by
    cases h with
    | cons h1 h2 =>
      obtain ⟨v, e1, r⟩ := Reps.get (i := i) h2 (by simpa using e)
      exact ⟨v, by simpa using e1, r⟩
theorem Reps.getV : ∀ {ds : List D} {vs : List V} {i : Nat} {v : V}, Reps C H vs ds → vs[i]? = some v → ∃ d, ds[i]? = some d ∧ Rep C H v d
  | [], _, i, d, h, e => by cases h; simp at e
  | _ :: _, _, 0, d, h, e => by cases h with | cons h1 h2 => simp at e; subst e; exact ⟨_, rfl, h1⟩
  | _ :: _, _, i + 1, d, h, e => by
    cases h with
    | cons h1 h2 =>
      obtain ⟨v, e1, r⟩ := Reps.getV (i := i) h2 (by simpa using e)
      exact ⟨v, by simpa using e1, r⟩
theorem Reps.set {v : V} {d : D} (r : Rep C H v d) : ∀ {ds : List D} {vs : List V} (i : Nat), Reps C H vs ds → Reps C H (vs.set i v) (ds.set i d)
  | [], _, _, h => by cases h; exact .nil
  | _ :: _, _, 0, h => by cases h with | cons h1 h2 => exact .cons r h2
  | _ :: _, _, i + 1, h => by cases h with | cons h1 h2 => exact .cons h1 (Reps.set r i h2)
theorem Reps.take : ∀ {ds : List D} {vs : List V} (n : Nat), Reps C H vs ds → Reps C H (vs.take n) (ds.take n)
  | _, _, 0, _ => by simpa using Reps.nil
  | [], _, n + 1, h => by cases h; exact .nil
  | _ :: _, _, n + 1, h => by cases h with | cons h1 h2 => exact .cons h1 (Reps.take n h2)
theorem Reps.drop : ∀ {ds : List D} {vs : List V} (n : Nat), Reps C H vs ds → Reps C H (vs.drop n) (ds.drop n)
  | _, _, 0, h => by simpa using h
  | [], _, n + 1, h => by cases h; exact .nil
  | _ :: _, _, n + 1, h => by cases h with | cons h1 h2 => exact Reps.drop n h2
theorem Reps.reverse : ∀ {ds : List D} {vs : List V}, Reps C H vs ds → Reps C H vs.reverse ds.reverse
  | [], _, h => by cases h; exact .nil
  | _ :: _, _, h => by
    cases h with
    | cons h1 h2 =>
      simp only [List.reverse_cons]
      exact Reps.append (Reps.reverse h2) (.cons h1 .nil)
theorem Reps.rep {ds : List D} {vs : List V} (h : Reps C H vs ds) : ∀ k : Nat, Reps C H (List.replicate k vs).flatten (List.replicate k ds).flatten
  | 0 => .nil
  | k + 1 => by
    simp only [List.replicate_succ, List.flatten_cons]
    exact Reps.append h (Reps.rep h k)
def cutD {α : Type} (xs : List α) (lo hi : Option Int) : List α := (xs.drop (HT.sIx xs.length 0 lo)).take (HT.sIx xs.length xs.length hi - HT.sIx xs.length 0 lo)
theorem cut_reps {ds : List D} {vs : List V} (h : Reps C H vs ds) (lo hi : Option Int) : Reps C H (cutV vs lo hi) (cutD ds lo hi) := by
  unfold cutV cutD
  rw [h.length]
  exact (h.drop _).take _

/-! ### hidden addresses -/
def hid (H : Hp) (O : List Addr) : Hp := fun a => if a ∈ O then none else H a
theorem hid_ex : Ex (hid H O) H := fun a o h => by
  unfold hid at h
  split at h
  · cases h
  · exact h
theorem hid_mono (e : Ex H H') : Ex (hid H O) (hid H' O) := fun a o h => by
  unfold hid at h ⊢
  split at h
  · cases h
  · rename_i q; rw [if_neg q]; exact e a o h
theorem hid_sub (s : ∀ a ∈ O0, a ∈ O) : Ex (hid H O) (hid H O0) := fun a o h => by
  unfold hid at h ⊢
  split at h
  · cases h
  · rename_i q; rw [if_neg fun z => q (s a z)]; exact h
theorem hid_new {a : Addr} (h : H a = none) : Ex (hid H O) (hid H (a :: O)) := fun b o e => by
  unfold hid at e ⊢
  split at e
  · cases e
  · rename_i q
    have : b ≠ a := fun z => by rw [z, h] at e; cases e
    rw [if_neg (by simp [this, q])]
    exact e
theorem hid_out {a : Addr} (h : a ∉ O) : hid H O a = H a := by unfold hid; rw [if_neg h]
theorem hid_upd {a : Addr} {o : HO} (h : a ∈ O) : hid (upd H a o) O = hid H O := by
  funext b
  unfold hid
  split
  · rfl
  · rename_i q
    rw [upd_ne]
    rintro rfl
    exact q h

/-! ### the state -/
structure SV (C : Cfg) (O0 O : List Addr) (H : Hp) (σ : L2.St) (ρ : E) : Prop where
  len : σ.length = ρ.length
  dom : ∀ a ∈ O, H a ≠ none
  sub : ∀ a ∈ O0, a ∈ O
  ll : ∀ a ∈ O, a ∉ O0 → ∃ xs, H a = some (.lst xs)
  sh : ∀ (i : Nat) (d : D), ρ[i]? = some (some (d, false)) → ∃ v, σ[i]? = some (some v) ∧ Rep C (hid H O) v d
  ow : ∀ (i : Nat) (d : D), ρ[i]? = some (some (d, true)) → ∃ a xs ds, d = .lst ds ∧ σ[i]? = some (some (.ref a)) ∧ a ∈ O ∧ a ∉ O0 ∧ H a = some (.lst xs) ∧ Reps C (hid H O) xs ds
  inj : ∀ (i j : Nat) (d e : D) (a : Addr), ρ[i]? = some (some (d, true)) → ρ[j]? = some (some (e, true)) → σ[i]? = some (some (.ref a)) → σ[j]? = some (some (.ref a)) → i = j
theorem SV.mono {σ : L2.St} {ρ : E} (e : Ex H H') (s : SV C O0 O H σ ρ) : SV C O0 O H' σ ρ where
  len := s.len
  dom := fun a h z => by
    cases q : H a with
    | none => exact s.dom a h q
    | some o => have := e a o q; rw [z] at this; cases this
  sub := s.sub
  ll := fun a h h0 => let ⟨xs, q⟩ := s.ll a h h0; ⟨xs, e _ _ q⟩
  sh := fun i d h => let ⟨v, a, b⟩ := s.sh i d h; ⟨v, a, b.mono (hid_mono e)⟩
  ow := fun i d h => let ⟨a, xs, ds, h1, h2, h3, h4, h5, h6⟩ := s.ow i d h; ⟨a, xs, ds, h1, h2, h3, h4, e _ _ h5, h6.mono (hid_mono e)⟩
  inj := s.inj

/-- what a value is, by its flag -/
inductive Res (C : Cfg) (O0 O : List Addr) (H H' : Hp) : V → D × Fl → Prop
  | pure {v d} : Rep C (hid H' O) v d → Res C O0 O H H' v (d, .pure)
  | fresh {a xs ds} : H a = none → H' a = some (.lst xs) → Reps C (hid H' (a :: O)) xs ds → Res C O0 O H H' (.ref a) (.lst ds, .fresh)
  | bor {a xs ds} : a ∈ O → a ∉ O0 → H' a = some (.lst xs) → Reps C (hid H' O) xs ds → Res C O0 O H H' (.ref a) (.lst ds, .bor)
theorem Res.mono {v : V} {r : D × Fl} (e : Ex H' H'') (h : Res C O0 O H H' v r) : Res C O0 O H H'' v r := by
  cases h with
  | pure q => exact .pure (q.mono (hid_mono e))
  | fresh h1 h2 h3 => exact .fresh h1 (e _ _ h2) (h3.mono (hid_mono e))
  | bor h1 h2 h3 h4 => exact .bor h1 h2 (e _ _ h3) (h4.mono (hid_mono e))
/-- ahead of an extension -/
theorem Res.back {v : V} {r : D × Fl} {H1 : Hp} (e : Ex H H1) (h : Res C O0 O H1 H' v r) : Res C O0 O H H' v r := by
  cases h with
  | pure q => exact .pure q
  | fresh h1 h2 h3 => exact .fresh (Evl.fresh_back e h1) h2 h3
  | bor h1 h2 h3 h4 => exact .bor h1 h2 h3 h4
theorem hid_cons {a : Addr} : Ex (hid H (a :: O)) (hid H O) := hid_sub fun _ h => List.mem_cons_of_mem _ h
/-- every value, the owned ones not hidden -/
theorem Res.any {v : V} {r : D × Fl} (s : ∀ a ∈ O0, a ∈ O) (dm : ∀ a ∈ O, H a ≠ none) (h : Res C O0 O H H' v r) : Rep C (hid H' O0) v r.1 := by
  cases h with
  | pure q => exact q.mono (hid_sub s)
  | fresh h1 h2 h3 =>
    refine .lst ?_ (h3.mono (hid_sub fun a h => List.mem_cons_of_mem _ (s a h)))
    rw [hid_out fun z => dm _ (s _ z) h1]; exact h2
  | bor h1 h2 h3 h4 => exact .lst (by rw [hid_out h2]; exact h3) (h4.mono (hid_sub s))
theorem Res.full {v : V} {r : D × Fl} (h : Res C O0 O H H' v r) : Rep C H' v r.1 := by
  cases h with
  | pure q => exact q.mono hid_ex
  | fresh h1 h2 h3 => exact .lst h2 (h3.mono hid_ex)
  | bor h1 h2 h3 h4 => exact .lst h3 (h4.mono hid_ex)
/-- .. as one that is shared from now on -/
theorem Res.sharedF {v : V} {r : D × Fl} (dm : ∀ a ∈ O, H a ≠ none) (hb : r.2 ≠ .bor) (h : Res C O0 O H H' v r) : Rep C (hid H' O) v r.1 := by
  cases h with
  | pure q => exact q
  | fresh h1 h2 h3 => exact .lst (by rw [hid_out fun z => dm _ z h1]; exact h2) (h3.mono hid_cons)
  | bor h1 h2 h3 h4 => exact absurd rfl hb
theorem Res.lstE {v : V} {ds : List D} {fl : Fl} (h : Res C O0 O H H' v (.lst ds, fl)) : ∃ a xs, v = .ref a ∧ H' a = some (.lst xs) ∧ Reps C (hid H' O) xs ds := by
  cases h with
  | pure q =>
    cases q with
    | lst h1 h2 => exact ⟨_, _, rfl, hid_ex _ _ h1, h2⟩
  | fresh h1 h2 h3 => exact ⟨_, _, rfl, h2, h3.mono hid_cons⟩
  | bor h1 h2 h3 h4 => exact ⟨_, _, rfl, h3, h4⟩
theorem Res.tupE {v : V} {ds : List D} {fl : Fl} (h : Res C O0 O H H' v (.tup ds, fl)) : ∃ a xs, v = .ref a ∧ TupN H' a xs ∧ Reps C (hid H' O) xs ds := by
  cases h with
  | pure q =>
    cases q with
    | tup h1 h2 => exact ⟨_, _, rfl, h1.mono hid_ex, h2⟩
theorem Res.intE {v : V} {i : Int} {fl : Fl} (h : Res C O0 O H H' v (.int i, fl)) : v = .int i := by
  cases h with | pure q => cases q; rfl
theorem Res.blE {v : V} {i : Bool} {fl : Fl} (h : Res C O0 O H H' v (.bl i, fl)) : v = .bl i := by
  cases h with | pure q => cases q; rfl
theorem Res.strE {v : V} {i : Str} {fl : Fl} (h : Res C O0 O H H' v (.str i, fl)) : v = .str i := by
  cases h with | pure q => cases q; rfl
theorem Res.nonE {v : V} {fl : Fl} (h : Res C O0 O H H' v (.non, fl)) : v = .non := by
  cases h with | pure q => cases q; rfl
theorem Res.int {i : Int} : Res C O0 O H H' (.int i) (.int i, .pure) := .pure (.int i)
theorem Res.bl {i : Bool} : Res C O0 O H H' (.bl i) (.bl i, .pure) := .pure (.bl i)

/-! no list within -/
mutual
def imm : D → Bool
  | .lst _ => false
  | .tup ds => imms ds
  | .tmp _ => false
  | .net _ c => imm c
  | .dic ks vs => imms ks && imms vs
  | .frz _ => true
  | _ => true
def imms : List D → Bool
  | [] => true
  | d :: ds => imm d && imms ds
end
mutual
theorem Rep.ofImm (l : ∀ a ∈ O, a ∉ O0 → ∃ xs, H a = some (.lst xs)) : ∀ {d : D} {v : V}, imm d = true → Rep C (hid H O0) v d → Rep C (hid H O) v d
  | .non, _, _, h => by cases h; exact .non
  | .bl _, _, _, h => by cases h; exact .bl _
  | .int _, _, _, h => by cases h; exact .int _
  | .str _, _, _, h => by cases h; exact .str _
  | .tup ds, _, i, h => by
    cases h with
    | @tup a xs _ h1 h2 =>
      obtain ⟨ob, h1, hd⟩ := h1
      refine .tup ⟨ob, ?_, hd⟩ (Reps.ofImm l (by simpa [imm] using i) h2)
      rw [hid_out]
      · exact hid_ex _ _ h1
      · intro z
        have hn : a ∉ O0 := fun q => by unfold hid at h1; rw [if_pos q] at h1; cases h1
        obtain ⟨ys, e⟩ := l a z hn
        rw [hid_out hn, e] at h1; cases h1
  | .tmp ds, _, i, h => by simp [imm] at i
  | .lst ds, _, i, h => by simp [imm] at i
  | .net w c, _, i, h => by
    cases h with
    | @net a dx x _ _ h1 h2 =>
      refine .net (dx := dx) (x := x) ?_ (Rep.ofImm l (by simpa [imm] using i) h2)
      rw [hid_out]
      · exact hid_ex _ _ h1
      · intro z
        have hn : a ∉ O0 := fun q => by unfold hid at h1; rw [if_pos q] at h1; cases h1
        obtain ⟨ys, e⟩ := l a z hn
        rw [hid_out hn, e] at h1; cases h1
  | .frz _, _, _, h => by
    cases h with
    | @frz a ns h1 =>
      refine .frz (h1.imp (fun ⟨o, h1⟩ => ⟨o, ?_⟩) id)
      rw [hid_out]
      · exact hid_ex _ _ h1
      · intro z
        have hn : a ∉ O0 := fun q => by unfold hid at h1; rw [if_pos q] at h1; cases h1
        obtain ⟨ys, e⟩ := l a z hn
        rw [hid_out hn, e] at h1; cases h1
  | .opq _, _, _, h => by cases h; exact .opq _
  | .hol _, _, _, h => by cases h with | hol h1 => exact .hol h1
  | .dic ks vs, _, i, h => by
    cases h with
    | @dic a kxs xs _ _ h1 h0 h2 =>
      simp only [imm, Bool.and_eq_true] at i
      refine .dic ?_ (Reps.ofImm l i.1 h0) (Reps.ofImm l i.2 h2)
      obtain ⟨o, e1, e2, e3⟩ := h1.obj
      refine e3 _ ?_
      rw [hid_out]
      · exact hid_ex _ _ e1
      · intro z
        have hn : a ∉ O0 := fun q => by unfold hid at e1; rw [if_pos q] at e1; cases e1
        obtain ⟨ys, e⟩ := l a z hn
        rw [hid_out hn, e] at e1; cases e1; exact e2 _ rfl
theorem Reps.ofImm (l : ∀ a ∈ O, a ∉ O0 → ∃ xs, H a = some (.lst xs)) : ∀ {ds : List D} {vs : List V}, imms ds = true → Reps C (hid H O0) vs ds → Reps C (hid H O) vs ds
  | [], _, _, h => by cases h; exact .nil
  | _ :: _, _, i, h => by
    cases h with
    | cons h1 h2 =>
      simp only [imms, Bool.and_eq_true] at i
      exact .cons (Rep.ofImm l i.1 h1) (Reps.ofImm l i.2 h2)
end

/-! ### an expression's reading and the function that says its value -/
def Snd (C : Cfg) (te : TE) (m : M) : Prop := ∀ O0 O H σ ρ r, SV C O0 O H σ ρ → m ρ = some r → ∀ Q : VK, (∀ v H', Ex H H' → Res C O0 O H H' v r → Q v H') → te σ H Q
structure DE (C : Cfg) (X : Cx) (e : Expr) (te : TE) (m : M) : Prop where
  pe : PE X e te
  sd : Snd C te m
/-- tests -/
abbrev B := E → Option Bool
def SndT (C : Cfg) (tt : TT) (m : B) : Prop := ∀ O0 O H σ ρ r, SV C O0 O H σ ρ → m ρ = some r → ∀ Q : Bool → Hp → Prop, (∀ H', Ex H H' → Q r H') → tt σ H Q
structure DT (C : Cfg) (X : Cx) (e : Expr) (tt : TT) (m : B) : Prop where
  pt : PT X e tt
  sd : SndT C tt m
/-- arguments -/
abbrev As := E → Option (List (D × Fl))
inductive Ress (C : Cfg) (O0 O : List Addr) (H H' : Hp) : List V → List (D × Fl) → Prop
  | nil : Ress C O0 O H H' [] []
  | cons {v vs r rs} : Res C O0 O H H' v r → Ress C O0 O H H' vs rs → Ress C O0 O H H' (v :: vs) (r :: rs)
theorem Ress.mono (e : Ex H' H'') {vs : List V} {rs : List (D × Fl)} (h : Ress C O0 O H H' vs rs) : Ress C O0 O H H'' vs rs := by
  induction h with
  | nil => exact .nil
  | cons h _ ih => exact .cons (h.mono e) ih
theorem Ress.back {H1 : Hp} (e : Ex H H1) {vs : List V} {rs : List (D × Fl)} (h : Ress C O0 O H1 H' vs rs) : Ress C O0 O H H' vs rs := by
  induction h with
  | nil => exact .nil
  | cons h _ ih => exact .cons (h.back e) ih
def SndA (C : Cfg) (ta : TA) (m : As) : Prop := ∀ O0 O H σ ρ rs, SV C O0 O H σ ρ → m ρ = some rs → ∀ Q : List V → Hp → Prop, (∀ vs H', Ex H H' → Ress C O0 O H H' vs rs → Q vs H') → ta σ H Q
structure DA (C : Cfg) (X : Cx) (es : List Expr) (ta : TA) (m : As) : Prop where
  pa : PA X es ta
  sd : SndA C ta m
end Dt

set_option maxRecDepth 100000
set_option maxHeartbeats 4000000
namespace Dt
open PySem PySem.Spec PyProof.Rows L2
open Evl (Ex)
/-! ### new tuples, held to their objects -/
section
variable {X : Cx} {pins : List (Addr × Obj)} {σ : L2.St} {H : Hp} {s : Shared} {es : List Expr} {t : TA} {pos : Pos}
abbrev tob (us : List Value) : Obj := { cls := .type "tuple", data := .seq us.toArray }
/-- what is asked of the end at a new tuple -/
def NewT (H : Hp) (xs : List V) (Q : VK) : Prop := ∀ p ob, H p = none → ob.dict = none → Q (.ref p) (upd H p (.frz ob (.tup xs)))
theorem laidN {h' : Heap} {tk : Nat} {xs : List V} {us : List Value} {Q : VK} (I : Inv X pins σ H { s with heap := h', toks := tk })
    (z : xs.length ≤ sizeLine) (r : Vals xs us) (q : NewT H xs Q) : EP X pins σ Q (.ref h'.objs.size) { s with heap := h'.push (tob us), toks := tk } := by
  have e : (h'.push (tob us)).get? h'.objs.size = some (tob us) := Heap.get?_push_size _ rfl
  have J := I.laid (t' := tk) (o := .frz (tob us) (.tup xs)) (fun b u w => Heap.get?_push_of_some (tob us) w) (Nat.le_refl _)
    ⟨e, z, us, r, ⟨_, e, rfl, _, rfl⟩⟩
  exact ⟨.ref h'.objs.size, _, J, rfl, q _ _ (I.hok.fresh (Nat.le_refl _)) rfl⟩
def tTupN (t : TA) : TE := fun σ H Q => t σ H fun xs H1 => xs.length ≤ sizeLine ∧ NewT H1 xs Q
theorem peN_tup {x1} (h : PA X es t) : PE X (.Tuple es x1 pos) (tTupN t) := .mk fun pins s σ H Q I hq => by
  refine wpAny_Tuple_spliced (thn (h.run pos pins s σ H _ I hq) ?_)
  rintro us s1 ⟨xs, H1, I1, r, z, q⟩
  exact ⟨by rw [← r.length]; exact z, laidN (s := s1) I1 z r q⟩
/-- two tuples put together -/
def rCatN (K : PySem.W.Frag) : R2 := fun x y H Q => ∃ a b xs ys, x = .ref a ∧ y = .ref b ∧ SqT K H a xs ∧ SqT K H b ys ∧ xs.length + ys.length ≤ sizeLine ∧
  (xs = [] → Q (.ref b) H) ∧ (ys = [] → Q (.ref a) H) ∧ (xs ≠ [] → ys ≠ [] → NewT H (xs ++ ys) Q)
theorem opN_cat : OpR X (binaryOp .Add) (rCatN X.K) := by
  intro pins s σ H x y v u Q I rx ry h
  obtain ⟨a, b, xs, ys, rfl, rfl, ha, hb, hz, q0, q1, q2⟩ := h
  cases rx; cases ry
  obtain ⟨us, r1, p1, _⟩ := I.tuple ha
  obtain ⟨ws, r2, p2, _⟩ := I.tuple hb
  have l1 := r1.length
  have l2 := r2.length
  by_cases hx : xs = []
  · subst hx
    cases r1
    exact cat_tup0 p1 p2 ⟨.ref b, _, I, rfl, q0 rfl⟩
  · have hu : us ≠ [] := fun z => hx (List.eq_nil_of_length_eq_zero (by rw [l1, z]; rfl))
    refine HT.cat_tup p1 p2 hu (fun z => ?_) (fun z => ?_) (by omega)
    · exact ⟨.ref a, _, I, rfl, q1 (List.eq_nil_of_length_eq_zero (by rw [l2, z]; rfl))⟩
    · exact laidN (s := s) (tk := s.toks) I (by rw [List.length_append]; exact hz) (r1.append r2) (q2 hx fun w => z (List.eq_nil_of_length_eq_zero (by rw [← l2, w]; rfl)))
/-- a slice of a tuple -/
def rSlN (K : PySem.W.Frag) : V → Option Int → Option Int → Hp → VK → Prop := fun x lo hi H Q => ∃ a xs, x = .ref a ∧ SqT K H a xs ∧
  (HT.sIx xs.length 0 lo = 0 ∧ HT.sIx xs.length xs.length hi = xs.length → Q (.ref a) H) ∧ (¬ (HT.sIx xs.length 0 lo = 0 ∧ HT.sIx xs.length xs.length hi = xs.length) → NewT H (cutV xs lo hi) Q)
theorem slN : SlR X (rSlN X.K) := by
  intro pins s σ H x v vl vu lo hi sl Q I rx hs pl pu h
  obtain ⟨a, xs, rfl, hx, q1, q2⟩ := h
  cases rx
  obtain ⟨us, r, ht, hz⟩ := I.tuple hx
  have hn : us.toArray.size = xs.length := by rw [List.size_toArray, r.length]
  refine ⟨"tuple", _, PyProof.Rows.slot_tuple_getitem.lookup, ht.typeIs, ?_⟩
  by_cases hw : HT.sIx xs.length 0 lo = 0 ∧ HT.sIx xs.length xs.length hi = xs.length
  · exact getItem_tuple_whole ht hs pl pu (by rw [hn]; exact hw) ⟨.ref a, _, I, rfl, q1 hw⟩
  · refine HT.getItem_tuple_cut ht hs pl pu (by rw [hn]; exact hw) ?_ (by rw [hn]; exact hz)
    rw [hn]
    exact laidN (s := s) (tk := s.toks) I (Nat.le_trans (cutV_length xs lo hi) hz) ((r.drop _).take _) (q2 hw)
/-- tuple(x) -/
def rTupN (K : PySem.W.Frag) : List V → Hp → VK → Prop := fun xs H Q => ∃ p ys, xs = [.ref p] ∧ ((SqL K H p ys ∧ NewT H ys Q) ∨ (SqT K H p ys ∧ Q (.ref p) H))
theorem callN_tuple : CallR X (.type "tuple") (rTupN X.K) := by
  intro pins s σ H xs us Q I r h
  obtain ⟨p, ys, rfl, h⟩ := h
  obtain ⟨u, rfl, ru⟩ := Vals.one r
  cases ru
  rcases h with ⟨hl, q⟩ | ⟨ht, q⟩
  · obtain ⟨ws, r', pl, hz⟩ := I.list hl
    have l1 := r'.length
    refine call_tuple_list pl.isList (fun h' kp => ?_) (by rw [List.size_toArray]; omega)
    exact laidN (s := s) (tk := s.toks) (I.kept (t' := s.toks) kp) hz r' q
  · obtain ⟨ws, _, p1, _⟩ := I.tuple ht
    exact call_tuple_tup p1 ⟨.ref p, _, I, rfl, q⟩
/-- tuple(range(..)) -/
def tTupRgN (te : L2.St → Hp → (Int → Int → Hp → Prop) → Prop) : TE := fun σ H Q => te σ H fun a b H1 => RgOk a b ∧ NewT H1 (rgV a b) Q
theorem peN_tupRg {e : Expr} {te : L2.St → Hp → (Int → Int → Hp → Prop) → Prop} {p pos : Pos} (hc : X.calm = true) (hg : Gl X "tuple") (hm : X.mg "tuple" = none) (he : PRg X e te) (na : starEach [e] X.env = (false, eval e X.env) :: starEach [] X.env := by rfl) :
    PE X (.Call (.Name "tuple" p) [e] [] pos) (tTupRgN te) := .mk fun pins s σ H Q I h => by
  refine Call_ (ld_blt I hg hm boot_tuple (PyProof.Rows.callWith_type1 (args_cons (thn (he pins s σ H _ I h) ?_) na) na))
  rintro x s1 ⟨r, a, b, t, u, v, H1, ex, hr, I1, ⟨b1, b2, b3, b4, b5⟩, q⟩
  subst ex
  refine args_nil (call_tuple_range (n := (b - a).toNat) (I1.ok.hd hc) hr (small_one b1 b2 b3 b4) (rangeSize_nat a b) b5 ?_)
  intro h' tk acc hk hi
  have I2 : Inv X pins σ H1 { s1 with heap := h', toks := tk } := I1.kept hk
  have := laidN (s := s1) I2 (by rw [rgV_length, sizeLine_eq]; omega) (vals_rg hi) q
  rwa [show tob acc.toList = { cls := .type "tuple", data := .seq acc } by rw [tob, Array.toArray_toList]] at this
/-- a tuple, so many times -/
def rRepN (K : PySem.W.Frag) : R2 := fun x y H Q => ∃ l k xs, x = .ref l ∧ y = .int k ∧ SqT K H l xs ∧ xs ≠ [] ∧ -1000 ≤ k ∧ k ≤ 1000 ∧ xs.length ≤ 1000 ∧
  (k = 1 → Q (.ref l) H) ∧ (k ≠ 1 → NewT H (List.replicate k.toNat xs).flatten Q)
theorem mulN_once (l : Addr) (items : Array Value) (n : Nat) (sl : Array (Option Value)) (dd : Option Addr) (u : Tok) :
    Meets (Builtin.«tuple.__mul__» ⟨[.ref l, .int 1 u], []⟩) (fun _ R s => s.heap.get? l = some { cls := .type "tuple", dict := dd, data := .seq items n, slots := sl } ∧ R (.ok (.ret (Value.ref l))) s) :=
  .of_wp fun prog w A R s h => by
    obtain ⟨hp, g, d, tk, os⟩ := s
    obtain ⟨hl, h⟩ := h
    have f1 := AutoSeq1.idx_int
    wp_walk using wpAny_loadPart' hl
    exact ⟨_, rfl, h⟩
theorem mulN_none (l : Addr) (items : Array Value) (n : Nat) (sl : Array (Option Value)) (dd : Option Addr) (x : Int) (u : Tok) (h0 : x ≤ 0) (h1 : -1000 ≤ x) (hne : items.isEmpty = false) :
    Meets (Builtin.«tuple.__mul__» ⟨[.ref l, .int x u], []⟩) (fun _ R s => s.heap.get? l = some { cls := .type "tuple", dict := dd, data := .seq items n, slots := sl } ∧
      R (.ok (.ret (Value.ref s.heap.objs.size))) { s with heap := s.heap.push (tob []) }) :=
  .of_wp fun prog w A R s h => by
    obtain ⟨hp, g, d, tk, os⟩ := s
    obtain ⟨hl, h⟩ := h
    have f1 := AutoSeq1.idx_int
    wp_walk using wpAny_loadPart' hl
    refine wpAny_ite_false (decide_eq_false (by rw [decide_eq_false (show ¬ x < -2 ^ 63 by omega), decide_eq_false (show ¬ x ≥ 2 ^ 63 by omega)]; exact Bool.false_ne_true)) ?_
    wp_walk using wpAny_loadPart' hl
    refine wpAny_ite_false (decide_eq_false (by rw [hne, Bool.false_or]; intro z; have := eq_of_beq z; omega)) ?_
    wp_walk using wpAny_loadPart' hl
    exact ⟨_, rfl, h⟩
theorem opN_rep : OpR X (binaryOp .Mult) (rRepN X.K) := by
  intro pins s σ H x y v u Q I rx ry h
  obtain ⟨l, k, xs, rfl, rfl, hT, hne, b1, b2, bz, q1, q⟩ := h
  cases rx
  obtain ⟨t, rfl⟩ := ry
  obtain ⟨us, r, ⟨⟨cls, dd, data, sl⟩, ho, hc, n, hd⟩, hs⟩ := I.tuple hT
  simp only at hc hd; subst hc hd
  have hl := r.length
  have hi : us.toArray.isEmpty = false := by
    cases us with
    | nil => exact absurd (List.eq_nil_of_length_eq_zero hl) hne
    | cons _ _ => rfl
  have fl : (List.replicate k.toNat us).flatten.length ≤ sizeLine := by
    rw [PyProof.Rows.lm_len_rep_flat, ← hl, sizeLine_eq]
    have := Nat.mul_le_mul (show k.toNat ≤ 1000 by omega) bz
    omega
  have rl : (List.replicate k.toNat xs).flatten.length ≤ sizeLine := by
    rw [PyProof.Rows.lm_len_rep_flat, sizeLine_eq]
    have := Nat.mul_le_mul (show k.toNat ≤ 1000 by omega) bz
    omega
  refine wpAny_binaryOp_repeat_ref (T := "tuple") (U := "int") (by decide) ⟨_, ho, rfl⟩ (fun s' => typeIs_int s' k t) noFill_tuple_mul F.fills_int_mul F.slot_int_rmul repeat_tuple F.slot_int_index.lookup ?_
  refine call_meets F.slot_int_rmul (typeIs_int s k t) F.entry_int_rmul (F.args_int_rmul_2 _ _) (int_rmul_tuple k t l us.toArray n dd sl) ⟨ho, rfl, ⟨_, ho, rfl⟩, ?_⟩
  by_cases k1 : k = 1
  · subst k1
    exact call_meets F.slot_tuple_mul ⟨_, ho, rfl⟩ F.entry_tuple_mul (F.args_tuple_mul_2 _ _) (mulN_once l us.toArray n sl dd t) ⟨ho, ⟨.ref l, H, I, rfl, q1 rfl⟩⟩
  · by_cases k0 : k ≤ 0
    · have e0 : k.toNat = 0 := by omega
      have q' := q k1
      rw [e0] at q'
      exact call_meets F.slot_tuple_mul ⟨_, ho, rfl⟩ F.entry_tuple_mul (F.args_tuple_mul_2 _ _) (mulN_none l us.toArray n sl dd k t k0 b1 hi) ⟨ho, laidN (s := s) (tk := s.toks) I (Nat.zero_le _) .nil q'⟩
    · have c0 : (decide (k < -(2 ^ 63)) || decide (k ≥ 2 ^ 63)) = false := by simp; omega
      have c1 : (us.toArray.isEmpty || k == 1) = false := by rw [hi]; simpa using k1
      have c2 : (decide (k ≤ 0) || us.toArray.isEmpty) = false := by rw [hi]; simpa using k0
      have c3 : ((us.toArray.size : Nat) : Int) * k ≤ 1000000 := by
        have a1 : ((xs.length : Nat) : Int) * k ≤ 1000 * k := Int.mul_le_mul_of_nonneg_right (by omega) (by omega)
        rw [List.size_toArray, ← hl]
        omega
      have c4 : Builtin.Tuple.tupleTooMany (((us.toArray.size : Nat) : Int) * k) = false := by
        unfold Builtin.Tuple.tupleTooMany
        rw [sizeLine_eq, List.size_toArray, ← hl]
        have a1 : ((xs.length : Nat) : Int) * k ≤ 1000 * k := Int.mul_le_mul_of_nonneg_right (by omega) (by omega)
        exact decide_eq_false (by omega)
      refine call_meets F.slot_tuple_mul ⟨_, ho, rfl⟩ F.entry_tuple_mul (F.args_tuple_mul_2 _ _) (tuple_mulW l us.toArray n dd sl k t c0 c1 c2 (by omega) c4 (by rw [size_rep, List.size_toArray]; exact fl)) ⟨ho, ?_⟩
      rw [size_rep]
      exact laidN (s := s) (tk := s.toks) I rl (r.rep k.toNat) (q k1)
/-! ### methods of tuples -/
variable {o e : Expr} {to : TE} {name : Str} {apos cpos : Pos} {id : String} {r : V → List V → Hp → VK → Prop}
def tBMN (r : V → List V → Hp → VK → Prop) (to : TE) (t : TA) : TE := fun σ H Q => to σ H fun x H1 => (∃ a xs, x = .ref a ∧ TupN H1 a xs) ∧ t σ H1 fun xs H2 => r x xs H2 Q
theorem peN_bm (slot : Slot "tuple" name id) (hty : typeOf (.builtin id) = pure (.type "method_descriptor")) (hm : MtR X id r) (ho : PE X o to) (ha : PA X (e :: es) t)
    (hbase : attributeBase o name X.env (eval o X.env) = eval o X.env := by rfl)
    (hfew : ((backTo cpos (starEach (e :: es) X.env)).all (fun x => !x.1) && (backToKw cpos (keywordEach [] X.env)).all (fun x => x.1.isSome)
      && decide ((e :: es).length + ([] : List Keyword).length + (if ([] : List Keyword).isEmpty then 0 else 1) < 30)) = true := by rfl)
    (hline : (apos.endLine == cpos.line) = true := by rfl) (hs : starEach (e :: es) X.env = (false, eval e X.env) :: starEach es X.env := by rfl) (hplain : (backTo cpos (starEach es X.env)).any (·.1) = false := by rfl) :
    PE X (.Call (.Attribute o name apos) (e :: es) [] cpos) (tBMN r to t) := .mk fun pins s σ H Q I h => by
  refine wpAny_Call_method_late hbase hfew hline rfl (thn (ho.run pins s σ H _ I h) ?_)
  rintro v s1 ⟨x, H1, I1, r1, ⟨a, xs, ex, ob, hN, hd⟩, q1⟩
  subst ex
  cases r1
  obtain ⟨eob, _, us, _, ob', eo, hc, _⟩ := I1.hok a _ hN
  rw [eob] at eo; cases eo
  refine ⟨"tuple", id, PySem.F.plainAttrs_tuple, slot, hty, ⟨_, eob, hc⟩, fun b hb => by cases hb; exact ⟨_, eob, hd⟩, ?_⟩
  have hA := ha.run cpos pins s1 σ H1 _ I1 q1
  rw [hs] at hA ⊢
  have hno : (false || (backTo cpos (starEach es X.env)).any (·.1)) = false := by rw [hplain]; rfl
  refine Calls.callWith_builtin hno (Calls.evalArgs_plain (thn hA ?_))
  rintro us s2 ⟨zs, H2, I2, r2, q2⟩
  exact hm pins s2 σ H2 (.ref a) zs _ us Q I2 rfl r2 q2
end
end Dt

set_option maxRecDepth 100000
set_option maxHeartbeats 4000000
namespace Dt
open PySem PySem.Spec PyProof.Rows L2
/-! ### t[::-1], t[::2], t[1::2] -/
def ev {α : Type} : List α → List α
  | [] => []
  | [x] => [x]
  | x :: _ :: r => x :: ev r
theorem ev_pick {α : Type} : ∀ l : List α, (List.range ((l.length + 1) / 2)).filterMap (fun k => l[2 * k]?) = ev l
  | [] => by simp [ev]
  | [x] => by simp [ev, List.range_succ]
  | x :: y :: r => by
    have e : ((x :: y :: r).length + 1) / 2 = (r.length + 1) / 2 + 1 := by simp only [List.length_cons]; omega
    rw [e, List.range_succ_eq_map, List.filterMap_cons]
    show x :: _ = x :: ev r
    rw [List.filterMap_map, ← ev_pick r]
    rfl
theorem pick_map {α : Type} (l : List α) (n : Nat) (f : Nat → Nat) (h : ∀ k, k < n → f k < l.length) : ∀ g : Nat → Option α, (∀ k, k < n → g k = l[f k]?) → ((List.range n).filterMap g).length = n ∧ ∀ k, k < n → ((List.range n).filterMap g)[k]? = l[f k]? := by
  induction n with
  | zero => intro g _; exact ⟨rfl, fun k hk => absurd hk (Nat.not_lt_zero _)⟩
  | succ n ih =>
    intro g hg
    obtain ⟨h1, h2⟩ := ih (fun k hk => h k (Nat.lt_succ_of_lt hk)) g fun k hk => hg k (Nat.lt_succ_of_lt hk)
    have e : (List.range (n + 1)).filterMap g = (List.range n).filterMap g ++ [l[f n]'(h n (Nat.lt_succ_self n))] := by
      rw [List.range_succ, List.filterMap_append, List.filterMap_cons, List.filterMap_nil, hg n (Nat.lt_succ_self n), List.getElem?_eq_getElem (h n (Nat.lt_succ_self n))]
    refine ⟨by rw [e, List.length_append, h1]; rfl, fun k hk => ?_⟩
    rw [e]
    by_cases hkn : k < n
    · rw [List.getElem?_append_left (by omega)]; exact h2 k hkn
    · have : k = n := by omega
      subst this
      rw [List.getElem?_append_right (by omega), h1, Nat.sub_self, List.getElem?_eq_getElem (h k (Nat.lt_succ_self k))]; rfl
theorem rev_pick {α : Type} (l : List α) {g : Nat → Option α} (hg : ∀ k, k < l.length → g k = l[l.length - 1 - k]?) : (List.range l.length).filterMap g = l.reverse := by
  obtain ⟨h1, h2⟩ := pick_map l l.length (fun k => l.length - 1 - k) (fun k hk => by omega) g hg
  apply List.ext_getElem?
  intro i
  by_cases hi : i < l.length
  · rw [h2 i hi, List.getElem?_reverse hi]
  · rw [List.getElem?_eq_none (by omega), List.getElem?_eq_none (by simp; omega)]
section
variable {prog : Program} {w : World} {A : Around} {E : Value → Shared → Prop} {s : Shared}
/-- a slice of a tuple with a step that is not 1 -/
theorem getItem_tuple_step {t sl : Addr} {items : Array Value} {vl vu vs : Value} {lo hi : Option Int} {c a b : Int} {m : Nat} {us : List Value} {Q : Value → Shared → Prop} (ht : IsTup s.heap t items) (hs : s.heap.IsSliceOf sl vl vu vs) (pl : IsPart vl lo) (pu : IsPart vu hi) (ps : IsPart vs (some c))
    (c0 : c ≠ 0) (c1 : c ≠ 1) (ha : Builtin.Slice.sliceAdjust lo hi c items.size = (a, b)) (hm : Builtin.Slice.slicePlaces a b c = m) (hu : (List.range m).filterMap (fun k : Nat => items[(a + (k : Int) * c).toNat]?) = us) (hz : us.length ≤ sizeLine)
    (h : Q (.ref s.heap.objs.size) { s with heap := s.heap.push (tob us) }) : wpAny (model prog w) A (getItem (.ref t) (.ref sl)) Q E s := by
  obtain ⟨o, ho, co, dso⟩ := id hs
  have tS : s.TypeIs (.ref sl) "slice" := ⟨o, ho, co⟩
  unfold getItem
  try with_reducible refine wpAny_holding ?_
  first | refine wpAny_bind (wpAny_pure ?_) | skip
  refine wpAny_bind (wpAny_sequenceKey ht.typeIs (by decide) ?_)
  have body : wpAny (model prog w) A.in1 (Builtin.«tuple.__getitem__» ⟨[.ref t, .ref sl], []⟩) (fun fin s' => ∃ v, fin = .done (.ret v) ∧ Q v s') E s := by
    show wpAny _ _ (Builtin.Tuple.tupleItemsOf (.ref t) >>= _) _ _ s
    refine wpAny_bind (tupleItemsOf_ ht (wpAny_bind (wpAny_typeOf tS ?_)))
    rw [if_pos (by decide)]
    refine wpAny_bind ?_
    · unfold Builtin.Slice.sliceApplied Builtin.Slice.sliceFields
      refine wpAny_bind (wpAny_bind (wpAny_field ho dso (x := vl) rfl (wpAny_bind (wpAny_field ho dso (x := vu) rfl (wpAny_bind (wpAny_field ho dso (x := vs) rfl (wpAny_pure ?_)))))))
      refine wpAny_bind (HT.slicePart_ ps ?_)
      have cc : ¬ ((some c).getD 1 == 0) = true := by simpa using c0
      show wpAny _ _ (if ((some c).getD 1 == 0) = true then _ else _) _ _ s
      rw [if_neg cc]
      refine wpAny_bind (HT.slicePart_ pl (wpAny_bind (HT.slicePart_ pu (wpAny_bind (wpAny_pure ?_)))))
      show wpAny _ _ (match Builtin.Slice.sliceAdjust lo hi c (items.size : Int) with | (lo, hi) => pure (lo, c, Builtin.Slice.slicePlaces lo hi c)) _ _ s
      rw [ha]
      show wpAny _ _ (pure (a, c, Builtin.Slice.slicePlaces a b c)) _ _ s
      rw [hm]
      refine wpAny_pure ?_
      have nn : ¬ ((a == 0 && c == 1 && m == items.size) = true) := by
        have : (c == 1) = false := by simpa using c1
        rw [this]; simp
      show wpAny _ _ (if (a == 0 && c == 1 && m == items.size) = true then _ else _) _ _ s
      rw [if_neg nn, hu]
      have hz' : sizeOk (.seq us.toArray) := by show us.toArray.size ≤ sizeLine; simpa using hz
      first
        | exact wpAny_bind (m := Builtin.Tuple.tupleExact _) (wpAny_newObj_type (wpAny_pure ⟨_, rfl, h⟩) hz')
        | exact wpAny_bind (m := Builtin.Tuple.tupleExact _) (wpAny_newObj_type (wpAny_bind (wpAny_pure (wpAny_pure ⟨_, rfl, h⟩))) hz')
        | exact wpAny_bind (wpAny_bind (m := Builtin.Tuple.tupleExact _) (wpAny_newObj_type (wpAny_pure (wpAny_pure ⟨_, rfl, h⟩)) hz'))
        | exact wpAny_bind (wpAny_bind (m := Builtin.Tuple.tupleExact _) (wpAny_newObj_type (wpAny_pure ⟨_, rfl, h⟩) hz'))
  refine wpAny_bind (wpAny_callSpecial?_slot (name := Str.ofString "__getitem__") ht.typeIs PyProof.Rows.slot_tuple_getitem (wpAny_call_entry PyProof.Rows.slot_tuple_getitem ht.typeIs entry_tuple_getitem (wpAny_mono body (fun fin s' ⟨v, e, q⟩ => ?_) fun _ _ e => e) (args_tuple_getitem _ _)))
  exact ⟨v, e, wpAny_pure q⟩
end

/-! picked places -/
theorem ev_pick' {α : Type} (l : List α) (z : Nat) {m : Nat} (hm : m = (l.length - z + 1) / 2) {g : Nat → Option α} (hg : ∀ k, g k = l[z + 2 * k]?) : (List.range m).filterMap g = ev (l.drop z) := by
  rw [← ev_pick (l.drop z), List.length_drop, hm]
  congr 1
  funext k
  rw [hg k, List.getElem?_drop]
def stp {α : Type} : Option Nat → List α → List α
  | none, xs => xs.reverse
  | some z, xs => ev (xs.drop z)
/-- the written parts: no first part and -1; no first part or a number, and 2 -/
def StpIs (o : Option Int) (c : Int) : Option Nat → Prop
  | none => o = none ∧ c = -1
  | some 0 => o = none ∧ c = 2
  | some z => o = some (z : Int) ∧ c = 2
theorem stp_tuple {o : Option Int} {c : Int} {z : Option Nat} (h : StpIs o c z) (us : Array Value) : ∃ a b, Builtin.Slice.sliceAdjust o none c us.size = (a, b) ∧
    (List.range (Builtin.Slice.slicePlaces a b c)).filterMap (fun k : Nat => us[(a + (k : Int) * c).toNat]?) = stp z us.toList := by
  obtain ⟨l⟩ := us
  match z, h with
  | none, h =>
    obtain ⟨rfl, rfl⟩ := h
    refine ⟨(l.length : Int) - 1, -1, by unfold Builtin.Slice.sliceAdjust; simp, ?_⟩
    have : Builtin.Slice.slicePlaces ((l.length : Int) - 1) (-1) (-1) = l.length := by unfold Builtin.Slice.slicePlaces; simp; omega
    rw [this]
    refine rev_pick l fun k hk => ?_
    have e : ((l.length : Int) - 1 + (k : Int) * -1).toNat = l.length - 1 - k := by omega
    rw [e]; simp
  | some 0, h =>
    obtain ⟨rfl, rfl⟩ := h
    refine ⟨0, (l.length : Int), by unfold Builtin.Slice.sliceAdjust; simp, ?_⟩
    refine ev_pick' l 0 ?_ fun k => ?_
    · unfold Builtin.Slice.slicePlaces
      simp only [show (2 : Int) > 0 by decide, if_true]
      split <;> omega
    · have e : (0 + (k : Int) * 2).toNat = 0 + 2 * k := by omega
      rw [e]; simp
  | some (z + 1), h =>
    obtain ⟨rfl, rfl⟩ := h
    refine ⟨((min (z + 1) l.length : Nat) : Int), (l.length : Int), ?_, ?_⟩
    · unfold Builtin.Slice.sliceAdjust
      have h1 : ¬ (((z + 1 : Nat) : Int) < 0) := by omega
      have h2 : ¬ ((2 : Int) < 0) := by decide
      simp only [h1, h2, if_false, List.size_toArray]
      congr 1
      omega
    · by_cases hz : z + 1 ≤ l.length
      · rw [Nat.min_eq_left hz]
        refine ev_pick' l (z + 1) ?_ fun k => ?_
        · unfold Builtin.Slice.slicePlaces
          simp only [show (2 : Int) > 0 by decide, if_true]
          split <;> omega
        · have e : (((z + 1 : Nat) : Int) + (k : Int) * 2).toNat = z + 1 + 2 * k := by omega
          rw [e]; simp
      · rw [Nat.min_eq_right (by omega)]
        have : Builtin.Slice.slicePlaces (l.length : Int) (l.length : Int) 2 = 0 := by unfold Builtin.Slice.slicePlaces; simp
        rw [this]
        show [] = ev (l.drop (z + 1))
        rw [List.drop_of_length_le (by omega)]; rfl
theorem stp_list {o : Option Int} {c : Int} {z : Option Nat} (h : StpIs o c z) (us : List Value) : slicePick us.toArray o none (some c) = (stp z us).toArray := by
  match z, h with
  | none, h =>
    obtain ⟨rfl, rfl⟩ := h
    exact PySem.W.krv_pick _
  | some 0, h =>
    obtain ⟨rfl, rfl⟩ := h
    unfold slicePick
    congr 1
    have hb : sliceBounds none none (some 2) us.toArray.size = (0, (us.length : Int), 2) := by simp [sliceBounds]
    rw [hb]
    unfold sliceRange
    simp only [show (2 : Int) > 0 by decide, if_true]
    rw [List.filterMap_map]
    refine ev_pick' us 0 ?_ fun k => ?_
    · split <;> omega
    · show us.toArray[(0 + 2 * (k : Int)).toNat]? = _
      have e : (0 + 2 * (k : Int)).toNat = 0 + 2 * k := by omega
      rw [e]; simp
  | some (z + 1), h =>
    obtain ⟨rfl, rfl⟩ := h
    unfold slicePick
    congr 1
    have hb : sliceBounds (some ((z + 1 : Nat) : Int)) none (some 2) us.toArray.size = (((min (z + 1) us.length : Nat) : Int), (us.length : Int), 2) := by
      have h1 : ¬ (((z + 1 : Nat) : Int) < 0) := by omega
      simp [sliceBounds]
      omega
    rw [hb]
    unfold sliceRange
    simp only [show (2 : Int) > 0 by decide, if_true]
    rw [List.filterMap_map]
    by_cases hz : z + 1 ≤ us.length
    · rw [Nat.min_eq_left hz]
      refine ev_pick' us (z + 1) ?_ fun k => ?_
      · split <;> omega
      · show us.toArray[(((z + 1 : Nat) : Int) + 2 * (k : Int)).toNat]? = _
        have e : (((z + 1 : Nat) : Int) + 2 * (k : Int)).toNat = z + 1 + 2 * k := by omega
        rw [e]; simp
    · rw [Nat.min_eq_right (by omega)]
      simp only [Int.lt_irrefl, if_false]
      show [] = ev (us.drop (z + 1))
      rw [List.drop_of_length_le (by omega)]; rfl
theorem ev_len {α : Type} : ∀ l : List α, (ev l).length ≤ l.length
  | [] => Nat.le_refl _
  | [x] => Nat.le_refl _
  | x :: y :: r => by
    have := ev_len r
    simp only [ev, List.length_cons]; omega
theorem stp_len {α : Type} (z : Option Nat) (l : List α) : (stp z l).length ≤ l.length := by
  cases z with
  | none => simp [stp]
  | some z => have := ev_len (l.drop z); simp only [stp]; rw [List.length_drop] at this; omega
theorem ev_vals : ∀ {xs : List V} {us : List Value}, Vals xs us → Vals (ev xs) (ev us)
  | _, _, .nil => .nil
  | _, _, .cons r .nil => .cons r .nil
  | _, _, .cons r (.cons _ t) => .cons r (ev_vals t)
theorem stp_vals {z : Option Nat} {xs : List V} {us : List Value} (r : Vals xs us) : Vals (stp z xs) (stp z us) := by
  cases z with
  | none => exact r.reverse
  | some z => exact ev_vals (r.drop z)
section
variable {X : Cx} {e ce : Expr} {te : TE} {tl tc : TO} {lo : Option Expr} {p3 pos : Pos} {c : Int}
def tStp (K : PySem.W.Frag) (c : Int) (te : TE) (tl : TO) : TE := fun σ H Q => te σ H fun x H1 => tl σ H1 fun o H2 => ∃ a xs z, x = .ref a ∧ StpIs o c z ∧
  ((SqL K H2 a xs ∧ ∀ p, H2 p = none → Q (.ref p) (upd H2 p (.lst (stp z xs)))) ∨ (SqT K H2 a xs ∧ NewT H2 (stp z xs) Q))
theorem peN_stp (he : PE X e te) (hl : PO X lo tl) (hc : PO X (some ce) tc) (hcc : ∀ σ H (Q : Option Int → Hp → Prop), Q (some c) H → tc σ H Q) : PE X (.Subscript e (.Slice lo none (some ce) p3) pos) (tStp X.K c te tl) := .mk fun pins s σ H Q I h => by
  refine Subscript_ (thn (he.run pins s σ H _ I h) ?_)
  rintro v s1 ⟨x, H1, I1, r1, q1⟩
  refine wpAny_Slice (thn (hl.run pins s1 σ H1 _ I1 q1) ?_)
  rintro vl s2 ⟨o, H2, I2, pl, a, xs, z, ex, hz, q⟩
  subst ex
  cases r1
  refine thn (po_none.run pins s2 σ H2 (fun o H3 => o = none ∧ H3 = H2) I2 ⟨rfl, rfl⟩) ?_
  rintro vu s3 ⟨u, H3, I3, pu, rfl, rfl⟩
  refine thn (hc.run pins s3 σ H3 (fun o H4 => o = some c ∧ H4 = H3) I3 (hcc _ _ _ ⟨rfl, rfl⟩)) ?_
  rintro vs s4 ⟨o4, H4, I4, ps, rfl, rfl⟩
  have I5 : Inv X pins σ H4 { s4 with heap := s4.heap.push { cls := .type "slice", data := .fields #[vl, vu, vs] } } := I4.kept (t' := s4.toks) fun b ob q => Heap.get?_push_of_some _ q
  have isS := Heap.IsSliceOf.new s4.heap vl vu vs
  have c0 : c ≠ 0 := by
    match z, hz with
    | none, hz => rw [hz.2]; decide
    | some 0, hz => rw [hz.2]; decide
    | some (_ + 1), hz => rw [hz.2]; decide
  have c1 : c ≠ 1 := by
    match z, hz with
    | none, hz => rw [hz.2]; decide
    | some 0, hz => rw [hz.2]; decide
    | some (_ + 1), hz => rw [hz.2]; decide
  show wpAny (model X.prog X.w) X.A (subscriptTail e (.Slice lo none (some ce) p3) (.ref a) (.ref s4.heap.objs.size)) (EP X pins σ Q) X.xe _
  rcases q with ⟨hx, q⟩ | ⟨hx, q⟩
  · obtain ⟨us, r, ht, hn⟩ := I5.list hx
    refine tail_any (ops := [.ref a, .ref s4.heap.objs.size]) ht.isList.typeIs PySem.slot_list_getitem.lookup ?_ (by with_unfolding_all rfl)
    refine wpAny_getItem_list_slice ht.isList isS pl pu ps (by intro w; exact c0 (Option.some.inj w)) ?_ (by rw [List.size_toArray, ← r.length]; exact hn)
    rw [stp_list hz]
    have J := I5.laid (t' := s4.toks) (o := .lst (stp z xs)) (fun b ob q => Heap.get?_push_of_some _ q) (Nat.le_refl _) ⟨Nat.le_trans (stp_len z xs) hn, _, 0, stp_vals r, Heap.get?_push_size _ rfl⟩
    exact ⟨.ref _, _, J, rfl, q _ (I5.hok.fresh (Nat.le_refl _))⟩
  · obtain ⟨us, r, ht, hn⟩ := I5.tuple hx
    obtain ⟨a1, b1, e1, e2⟩ := stp_tuple hz us.toArray
    refine tail_any (ops := [.ref a, .ref s4.heap.objs.size]) ht.typeIs PyProof.Rows.slot_tuple_getitem.lookup ?_ (by with_unfolding_all rfl)
    refine getItem_tuple_step ht isS pl pu ps c0 c1 e1 rfl e2 (Nat.le_trans (stp_len z _) (by rw [← r.length]; exact hn)) ?_
    exact laidN (tk := s4.toks) I5 (Nat.le_trans (stp_len z xs) hn) (stp_vals r) q
end
end Dt

set_option maxRecDepth 100000
namespace Dt
open PySem PySem.Spec PyProof.Rows L2
open Evl (Ex)

structure Co (O0 O : List Addr) (H : Hp) : Prop where
  dom : ∀ a ∈ O, H a ≠ none
  sub : ∀ a ∈ O0, a ∈ O
  ll : ∀ a ∈ O, a ∉ O0 → ∃ xs, H a = some (.lst xs)
section
variable {C : Cfg} {K : PySem.W.Frag} {X : Cx} {O0 O : List Addr} {H H' H1 : Hp} {σ : L2.St} {ρ : E}
theorem SV.co (s : SV C O0 O H σ ρ) : Co O0 O H := ⟨s.dom, s.sub, s.ll⟩
theorem Co.mono (e : Ex H H') (c : Co O0 O H) : Co O0 O H' where
  dom := fun a h z => by
    cases q : H a with
    | none => exact c.dom a h q
    | some o => have := e a o q; rw [z] at this; cases this
  sub := c.sub
  ll := fun a h h0 => let ⟨xs, q⟩ := c.ll a h h0; ⟨xs, e _ _ q⟩
def lim : Nat := 100000
theorem lim_line {n : Nat} (h : n ≤ lim) : n ≤ sizeLine := Nat.le_trans h (by decide)
theorem lim_lt {n : Nat} (h : n < lim) : n < sizeLine := Nat.lt_of_lt_of_le h (by decide)
theorem new_tup {p : Addr} {xs : List V} {ds : List D} {ob : Obj} (c : Co O0 O H') (hp : H' p = none) (hd : ob.dict = none) (r : Reps C (hid H' O) xs ds) : Rep C (hid (upd H' p (.frz ob (.tup xs))) O) (.ref p) (.tup ds) := by
  refine .tup ⟨ob, ?_, hd⟩ (r.mono (hid_mono (Ex_new hp)))
  rw [hid_out fun z => c.dom _ z hp, upd_same]
where Ex_new {p : Addr} {o : HO} (h : H' p = none) : Ex H' (upd H' p o) := Evl.Ex.new h
theorem res_tup {p : Addr} {xs : List V} {ds : List D} {ob : Obj} (c : Co O0 O H') (hp : H' p = none) (hd : ob.dict = none) (r : Reps C (hid H' O) xs ds) : Res C O0 O H (upd H' p (.frz ob (.tup xs))) (.ref p) (.tup ds, .pure) := .pure (new_tup c hp hd r)
theorem reps_hid {p : Addr} {o : HO} {xs : List V} {ds : List D} (hp : H' p = none) (r : Reps C (hid H' O) xs ds) : Reps C (hid (upd H' p o) (p :: O)) xs ds := by
  rw [hid_upd List.mem_cons_self]
  exact r.mono (hid_new hp)
theorem res_lst {p : Addr} {xs : List V} {ds : List D} (e : Ex H H') (hp : H' p = none) (r : Reps C (hid H' O) xs ds) : Res C O0 O H (upd H' p (.lst xs)) (.ref p) (.lst ds, .fresh) :=
  .fresh (Evl.fresh_back e hp) upd_same (reps_hid hp r)

/-! ### names, constants -/
def mVar (i : Nat) : M := fun ρ => match ρ[i]? with
  | some (some (d, o)) => some (d, if o then .bor else .pure)
  | _ => none
theorem snd_var {i : Nat} : Snd C (tVar i) (mVar i) := by
  intro O0 O H σ ρ r s h Q q
  unfold mVar at h
  split at h
  · rename_i d o e
    cases h
    cases o with
    | true =>
      obtain ⟨a, xs, ds, rfl, h1, h2, h3, h4, h5⟩ := s.ow i d e
      exact ⟨_, h1, q _ _ (Evl.Ex.refl _) (.bor h2 h3 h4 h5)⟩
    | false =>
      obtain ⟨v, h1, h2⟩ := s.sh i d e
      exact ⟨v, h1, q _ _ (Evl.Ex.refl _) (.pure h2)⟩
  · cases h
theorem de_var (i : Nat) {x : Str} {pos : Pos} (hN : X.N[i]? = some x := by rfl) (hv : Vis X.env.scope x := by first | exact Or.inl rfl | exact Or.inr (Or.inl rfl) | exact Or.inr (Or.inr rfl)) (hd : (x == ("__debug__" : Str)) = false := by decide)
    (hcd : (x == ("__classdict__" : Str)) = false := by decide) : DE C X (.Name x pos) (tVar i) (mVar i) := ⟨pe_var hN hv hd hcd, snd_var⟩
def mC (d : D) : M := fun _ => some (d, .pure)
theorem snd_c {v : V} {d : D} (h : ∀ H, Rep C H v d) : Snd C (tC v) (mC d) := by
  intro O0 O H σ ρ r s e Q q
  cases e
  exact q _ _ (Evl.Ex.refl _) (.pure (h _))
theorem de_int {i j pos} : DE C X (.Constant (.int i) j pos) (tC (.int i)) (mC (.int i)) := ⟨pe_int, snd_c fun _ => .int _⟩
theorem de_bl {b j pos} : DE C X (.Constant (.bool b) j pos) (tC (.bl b)) (mC (.bl b)) := ⟨pe_bl, snd_c fun _ => .bl _⟩
theorem de_non {j pos} : DE C X (.Constant .none j pos) (tC .non) (mC .non) := ⟨pe_non, snd_c fun _ => .non⟩
theorem de_str {x j pos} : DE C X (.Constant (.str x) j pos) (tC (.str x)) (mC (.str x)) := ⟨pe_str, snd_c fun _ => .str _⟩

/-! ### operations on two values -/
abbrev F2 := D × Fl → D × Fl → Option (D × Fl)
def VR (C : Cfg) (r : R2) (f : F2) : Prop := ∀ O0 O H H' x y rx ry rz, Co O0 O H → Co O0 O H' → Ex H H' → Res C O0 O H H' x rx → Res C O0 O H H' y ry → f rx ry = some rz →
  ∀ Q : VK, (∀ v H'', Ex H' H'' → Res C O0 O H H'' v rz → Q v H'') → r x y H' Q
def mOp (f : F2) (a b : M) : M := fun ρ => (a ρ).bind fun x => (b ρ).bind fun y => f x y
theorem snd_op {r : R2} {f : F2} {ta tb : TE} {a b : M} (hr : VR C r f) (ha : Snd C ta a) (hb : Snd C tb b) : Snd C (tOp r ta tb) (mOp f a b) := by
  intro O0 O H σ ρ rz s h Q q
  unfold mOp at h
  cases ea : a ρ with
  | none => rw [ea] at h; cases h
  | some rx =>
    cases eb : b ρ with
    | none => rw [ea, eb] at h; cases h
    | some ry =>
      rw [ea, eb] at h
      refine ha _ _ _ _ _ _ s ea _ fun x H1 e1 r1 => ?_
      refine hb _ _ _ _ _ _ (s.mono e1) eb _ fun y H2 e2 r2 => ?_
      exact hr _ _ _ _ _ _ _ _ _ s.co ((s.mono e1).mono e2).co (e1.trans e2) (r1.mono e2) (r2.back e1) h Q fun v H3 e3 r3 => q v H3 ((e1.trans e2).trans e3) r3
theorem VR.or {r r' : R2} {f f' : F2} (h : VR C r f) (h' : VR C r' f') : VR C (fun x y H Q => r x y H Q ∨ r' x y H Q) (fun x y => (f x y).or (f' x y)) := by
  intro O0 O H H' x y rx ry rz c c' e r1 r2 hf Q q
  replace hf : (f rx ry).or (f' rx ry) = some rz := hf
  cases ef : f rx ry with
  | some z => rw [ef] at hf; cases hf; exact .inl (h _ _ _ _ _ _ _ _ _ c c' e r1 r2 ef Q q)
  | none => rw [ef] at hf; exact .inr (h' _ _ _ _ _ _ _ _ _ c c' e r1 r2 hf Q q)
variable {a b c : Expr} {ta tb tc : TE} {ma mb mc : M} {pos : Pos}
theorem de_op {op : Operator} {r : R2} {f : F2} (ho : OpR X (binaryOp op) r) (hv : VR C r f) (ha : DE C X a ta ma) (hb : DE C X b tb mb) : DE C X (.BinOp a op b pos) (tOp r ta tb) (mOp f ma mb) :=
  ⟨pe_op ho ha.pe hb.pe, snd_op hv ha.sd hb.sd⟩
theorem de_cmp {op : CmpOp} {r : R2} {f : F2} (ho : OpR X (compareOp op) r) (hv : VR C r f) (ha : DE C X a ta ma) (hb : DE C X b tb mb) (hm : behindInMarks op b = false := by first | exact nobehind _ (by decide) (by decide) | rfl) : DE C X (.Compare a [op] [b] pos) (tOp r ta tb) (mOp f ma mb) :=
  ⟨pe_cmpR ho ha.pe hb.pe hm, snd_op hv ha.sd hb.sd⟩

/-! ints -/
def fI (g : Int → Int → Option D) : F2 := fun x y => match x.1, y.1 with
  | .int i, .int j => (g i j).map fun d => (d, .pure)
  | _, _ => none
theorem vr_I {P : Int → Int → Prop} [∀ i j, Decidable (P i j)] {g : Int → Int → Int} : VR C (rI P fun i j => .int (g i j)) (fI fun i j => if P i j then some (.int (g i j)) else none) := by
  intro O0 O H H' x y rx ry rz _ _ _ r1 r2 hf Q q
  obtain ⟨d1, f1⟩ := rx; obtain ⟨d2, f2⟩ := ry
  unfold fI at hf
  split at hf
  · rename_i i j e1 e2
    simp only at e1 e2; subst e1; subst e2
    dsimp only at hf
    split at hf
    · rename_i hp
      cases hf
      cases r1.intE; cases r2.intE
      exact ⟨i, j, rfl, rfl, hp, q _ _ (Evl.Ex.refl _) .int⟩
    · cases hf
  · cases hf
theorem vr_I0 {g : Int → Int → Int} : VR C (rI0 fun i j => .int (g i j)) (fI fun i j => some (.int (g i j))) := by
  intro O0 O H H' x y rx ry rz _ _ _ r1 r2 hf Q q
  obtain ⟨d1, f1⟩ := rx; obtain ⟨d2, f2⟩ := ry
  unfold fI at hf
  split at hf
  · rename_i i j e1 e2
    simp only at e1 e2; subst e1; subst e2
    cases hf
    cases r1.intE; cases r2.intE
    exact ⟨i, j, rfl, rfl, q _ _ (Evl.Ex.refl _) .int⟩
  · cases hf
theorem vr_Ib {g : Int → Int → Bool} : VR C (rI0 fun i j => .bl (g i j)) (fI fun i j => some (.bl (g i j))) := by
  intro O0 O H H' x y rx ry rz _ _ _ r1 r2 hf Q q
  obtain ⟨d1, f1⟩ := rx; obtain ⟨d2, f2⟩ := ry
  unfold fI at hf
  split at hf
  · rename_i i j e1 e2
    simp only at e1 e2; subst e1; subst e2
    cases hf
    cases r1.intE; cases r2.intE
    exact ⟨i, j, rfl, rfl, q _ _ (Evl.Ex.refl _) .bl⟩
  · cases hf
instance {i j : Int} : Decidable (CMul i j) := by unfold CMul; infer_instance
instance {i j : Int} : Decidable (CDiv i j) := by unfold CDiv; infer_instance
instance {i j : Int} : Decidable (CPow i j) := by unfold CPow; infer_instance

/-- tuples, lists put together -/
def fCatT : F2 := fun x y => match x.1, y.1 with
  | .tup ds, .tup es => if ds.length + es.length ≤ lim then some (.tup (ds ++ es), .pure) else none
  | _, _ => none
theorem vr_catT : VR C (rCatN K) fCatT := by
  intro O0 O H H' x y rx ry rz c c' e r1 r2 hf Q q
  obtain ⟨d1, f1⟩ := rx; obtain ⟨d2, f2⟩ := ry
  unfold fCatT at hf
  split at hf
  · rename_i ds es e1 e2
    simp only at e1 e2; subst e1; subst e2
    split at hf
    · rename_i hl
      cases hf
      obtain ⟨p, xs, rfl, h1, h2⟩ := r1.tupE
      obtain ⟨p', ys, rfl, h1', h2'⟩ := r2.tupE
      have l1 := h2.length
      have l2 := h2'.length
      refine ⟨p, p', xs, ys, rfl, rfl, h1.sq, h1'.sq, lim_line (by omega), fun z => ?_, fun z => ?_, fun _ _ a ob ha hd => ?_⟩
      · subst z
        cases h2
        refine q _ _ (Evl.Ex.refl _) ?_
        cases r2 with | pure w => exact .pure w
      · subst z
        cases h2'
        rw [List.append_nil] at q
        refine q _ _ (Evl.Ex.refl _) ?_
        cases r1 with | pure w => exact .pure w
      · exact q _ _ (Evl.Ex.new ha) (res_tup c' ha hd (h2.append h2'))
    · cases hf
  · cases hf
def fCatL : F2 := fun x y => match x.1, y.1 with
  | .lst ds, .lst es => if ds.length + es.length ≤ lim then some (.lst (ds ++ es), .fresh) else none
  | _, _ => none
theorem vr_catL : VR C rCat fCatL := by
  intro O0 O H H' x y rx ry rz c c' e r1 r2 hf Q q
  obtain ⟨d1, f1⟩ := rx; obtain ⟨d2, f2⟩ := ry
  unfold fCatL at hf
  split at hf
  · rename_i ds es e1 e2
    simp only at e1 e2; subst e1; subst e2
    split at hf
    · rename_i hl
      cases hf
      obtain ⟨p, xs, rfl, h1, h2⟩ := r1.lstE
      obtain ⟨p', ys, rfl, h1', h2'⟩ := r2.lstE
      have l1 := h2.length
      have l2 := h2'.length
      exact ⟨p, p', xs, ys, rfl, rfl, h1, h1', lim_line (by omega), fun a ha => q _ _ (Evl.Ex.new ha) (res_lst e ha (h2.append h2'))⟩
    · cases hf
  · cases hf
def fRepL : F2 := fun x y => match x.1, y.1 with
  | .lst ds, .int k => if 0 ≤ k ∧ k ≤ lim ∧ ds.length * k.toNat ≤ lim then some (.lst (List.replicate k.toNat ds).flatten, .fresh) else none
  | _, _ => none
theorem vr_repL : VR C rRep fRepL := by
  intro O0 O H H' x y rx ry rz c c' e r1 r2 hf Q q
  obtain ⟨d1, f1⟩ := rx; obtain ⟨d2, f2⟩ := ry
  unfold fRepL at hf
  split at hf
  · rename_i ds k e1 e2
    simp only at e1 e2; subst e1; subst e2
    split at hf
    · rename_i hl
      cases hf
      obtain ⟨p, xs, rfl, h1, h2⟩ := r1.lstE
      cases r2.intE
      have l1 := h2.length
      have hk := hl.2.1
      unfold lim at hk
      exact ⟨p, k, xs, rfl, rfl, h1, by omega, by omega, lim_line (by rw [l1]; exact hl.2.2), fun a ha => q _ _ (Evl.Ex.new ha) (res_lst e ha (h2.rep _))⟩
    · cases hf
  · cases hf
abbrev fAdd : F2 := fun x y => (fI (fun i j => some (.int (i + j))) x y).or ((fCatT x y).or (fCatL x y))
theorem de_add (hK : X.K = K) (ha : DE C X a ta ma) (hb : DE C X b tb mb) : DE C X (.BinOp a .Add b pos) (tOp (fun x y H Q => rI0 (fun i j => .int (i + j)) x y H Q ∨ (rCatN K x y H Q ∨ rCat x y H Q)) ta tb) (mOp fAdd ma mb) := by
  subst hK
  exact de_op (op_add.or (opN_cat.or op_cat)) (vr_I0.or (vr_catT.or vr_catL)) ha hb
abbrev fSub : F2 := fI fun i j => some (.int (i - j))
theorem de_sub (ha : DE C X a ta ma) (hb : DE C X b tb mb) : DE C X (.BinOp a .Sub b pos) (tOp (rI0 fun i j => .int (i - j)) ta tb) (mOp fSub ma mb) := de_op op_sub vr_I0 ha hb
abbrev fMul : F2 := fun x y => (fI (fun i j => if CMul i j then some (.int (i * j)) else none) x y).or (fRepL x y)
theorem de_mul (ha : DE C X a ta ma) (hb : DE C X b tb mb) : DE C X (.BinOp a .Mult b pos) (tOp (fun x y H Q => rI CMul (fun i j => .int (i * j)) x y H Q ∨ rRep x y H Q) ta tb) (mOp fMul ma mb) := de_op (op_mul.or op_rep) (vr_I.or vr_repL) ha hb
abbrev fDiv : F2 := fI fun i j => if CDiv i j then some (.int (i / j)) else none
theorem de_div (ha : DE C X a ta ma) (hb : DE C X b tb mb) : DE C X (.BinOp a .FloorDiv b pos) (tOp (rI CDiv fun i j => .int (i / j)) ta tb) (mOp fDiv ma mb) := de_op op_fdiv vr_I ha hb
abbrev fMod : F2 := fI fun i j => if 0 < j then some (.int (i % j)) else none
theorem de_mod (ha : DE C X a ta ma) (hb : DE C X b tb mb) : DE C X (.BinOp a .Mod b pos) (tOp (rI (fun _ j => 0 < j) fun i j => .int (i % j)) ta tb) (mOp fMod ma mb) := de_op op_mod (vr_I (P := fun _ j => 0 < j)) ha hb
abbrev fPow : F2 := fI fun i j => if CPow i j then some (.int (i ^ j.toNat)) else none
theorem de_pow (ha : DE C X a ta ma) (hb : DE C X b tb mb) : DE C X (.BinOp a .Pow b pos) (tOp (rI CPow fun i j => .int (i ^ j.toNat)) ta tb) (mOp fPow ma mb) := de_op op_pow vr_I ha hb
/-! comparisons of ints -/
abbrev fLt : F2 := fI fun i j => some (.bl (decide (i < j)))
abbrev fLe : F2 := fI fun i j => some (.bl (decide (i ≤ j)))
abbrev fGt : F2 := fI fun i j => some (.bl (decide (j < i)))
abbrev fGe : F2 := fI fun i j => some (.bl (decide (j ≤ i)))

/-! ### == -/
mutual
def py : D → PyData
  | .non => .none | .bl b => .bool b | .int i => .int i | .str s => .str s | .tup l => .tuple (pys l) | .lst l => .list (pys l) | .net _ _ => .dict [] | .frz _ => .dict [] | .opq _ => .dict [] | .tmp _ => .dict [] | .hol _ => .dict [] | .dic _ _ => .dict []
def pys : List D → List PyData
  | [] => []
  | d :: ds => py d :: pys ds
end
mutual
def isDat : D → Bool
  | .net _ _ => false | .frz _ => false | .opq _ => false | .hol _ => false | .dic _ _ => false | .tmp _ => false | .tup l => isDats l | .lst l => isDats l | _ => true
def isDats : List D → Bool
  | [] => true
  | d :: ds => isDat d && isDats ds
end
mutual
theorem Rep.dp : ∀ {d : D} {v : V}, isDat d = true → Rep C H v d → Dp K H v (py d)
  | .non, _, _, h => by cases h; exact .non
  | .bl _, _, _, h => by cases h; exact .bl _
  | .int _, _, _, h => by cases h; exact .int _
  | .str _, _, _, h => by cases h; exact .str _
  | .tup ds, _, i, h => by cases h with | tup h1 h2 => exact .tup h1.sq (Reps.dp (by simpa [isDat] using i) h2)
  | .tmp _, _, i, _ => by simp [isDat] at i
  | .lst ds, _, i, h => by cases h with | lst h1 h2 => exact .lst (.inl (.inl h1)) (Reps.dp (by simpa [isDat] using i) h2)
  | .net _ _, _, i, _ => by simp [isDat] at i
  | .frz _, _, i, _ => by simp [isDat] at i
  | .opq _, _, i, _ => by simp [isDat] at i
  | .hol _, _, i, _ => by simp [isDat] at i
  | .dic _ _, _, i, _ => by simp [isDat] at i
theorem Reps.dp : ∀ {ds : List D} {vs : List V}, isDats ds = true → Reps C H vs ds → DpAll K H vs (pys ds)
  | [], _, _, h => by cases h; exact .nil
  | _ :: _, _, i, h => by
    simp only [isDats, Bool.and_eq_true] at i
    cases h with | cons h1 h2 => exact .cons (Rep.dp i.1 h1) (Reps.dp i.2 h2)
end
def okD (d : D) : Bool := isDat d && SeqAt.shaped (py d)
def fEq : F2 := fun x y => if okD x.1 && okD y.1 then some (.bl (PyData.eqv (py x.1) (py y.1)), .pure) else none
def fNe : F2 := fun x y => if okD x.1 && okD y.1 then some (.bl (!PyData.eqv (py x.1) (py y.1)), .pure) else none
theorem vr_eq : VR C (rEqD K) fEq := by
  intro O0 O H H' x y rx ry rz c c' e r1 r2 hf Q q
  unfold fEq at hf
  split at hf
  · rename_i hk
    cases hf
    simp only [okD, Bool.and_eq_true] at hk
    exact ⟨_, _, r1.full.dp hk.1.1, r2.full.dp hk.2.1, hk.1.2, hk.2.2, q _ _ (Evl.Ex.refl _) .bl⟩
  · cases hf
theorem vr_ne : VR C (rNeD K) fNe := by
  intro O0 O H H' x y rx ry rz c c' e r1 r2 hf Q q
  unfold fNe at hf
  split at hf
  · rename_i hk
    cases hf
    simp only [okD, Bool.and_eq_true] at hk
    exact ⟨_, _, r1.full.dp hk.1.1, r2.full.dp hk.2.1, hk.1.2, hk.2.2, q _ _ (Evl.Ex.refl _) .bl⟩
  · cases hf
/-! in -/
def fIn : F2 := fun x y => match y.1 with
  | .lst ds => if okD x.1 && okD (.lst ds) then some (.bl ((pys ds).any fun z => PyData.eqv z (py x.1)), .pure) else none
  | _ => none
def fNotIn : F2 := fun x y => match y.1 with
  | .lst ds => if okD x.1 && okD (.lst ds) then some (.bl (!(pys ds).any fun z => PyData.eqv z (py x.1)), .pure) else none
  | _ => none
theorem vr_in : VR C (rInD K) fIn := by
  intro O0 O H H' x y rx ry rz c c' e r1 r2 hf Q q
  obtain ⟨d2, f2⟩ := ry
  unfold fIn at hf
  split at hf
  · rename_i ds e2
    simp only at e2; subst e2
    split at hf
    · rename_i hk
      cases hf
      simp only [okD, Bool.and_eq_true] at hk
      refine ⟨_, _, r1.full.dp hk.1.1, ?_, hk.1.2, ?_, q _ _ (Evl.Ex.refl _) .bl⟩
      · have := (r2.full).dp (K := K) hk.2.1
        simpa [py] using this
      · have := hk.2.2
        simpa [py] using this
    · cases hf
  · cases hf
theorem vr_notIn : VR C (rNotInD K) fNotIn := by
  intro O0 O H H' x y rx ry rz c c' e r1 r2 hf Q q
  obtain ⟨d2, f2⟩ := ry
  unfold fNotIn at hf
  split at hf
  · rename_i ds e2
    simp only at e2; subst e2
    split at hf
    · rename_i hk
      cases hf
      simp only [okD, Bool.and_eq_true] at hk
      refine ⟨_, _, r1.full.dp hk.1.1, ?_, hk.1.2, ?_, q _ _ (Evl.Ex.refl _) .bl⟩
      · have := (r2.full).dp (K := K) hk.2.1
        simpa [py] using this
      · have := hk.2.2
        simpa [py] using this
    · cases hf
  · cases hf
/-! flat in a tuple (or list) of flat ones -/
def flatD : D → Bool
  | .non => true | .bl _ => true | .int _ => true | .str _ => true | _ => false
def eqF : D → D → Bool
  | .non, .non => true
  | .bl a, .bl b => a == b
  | .bl a, .int b => (if a then 1 else 0) == b
  | .int a, .bl b => a == (if b then 1 else 0)
  | .int a, .int b => a == b
  | .str a, .str b => a == b
  | _, _ => false
theorem flat_rep {d : D} {v : V} (h : flatD d = true) (r : Rep C H v d) : flatV v = true ∧ ∀ {d' : D} {v' : V}, flatD d' = true → Rep C H v' d' → eqV v v' = eqF d d' := by
  cases d <;> simp [flatD] at h <;> cases r <;> refine ⟨rfl, fun {d' v'} h' r' => ?_⟩ <;> (cases d' <;> simp [flatD] at h' <;> cases r' <;> rfl)
theorem flats_rep {ds : List D} {vs : List V} (h : ds.all flatD = true) (r : Reps C H vs ds) {d : D} {v : V} (hd : flatD d = true) (rd : Rep C H v d) : vs.all flatV = true ∧ inV v vs = ds.any fun z => eqF z d := by
  induction ds generalizing vs with
  | nil => cases r; exact ⟨rfl, rfl⟩
  | cons e es ih =>
    cases r with
    | cons r1 r2 =>
      simp only [List.all_cons, Bool.and_eq_true] at h
      obtain ⟨i1, i2⟩ := ih h.2 r2
      obtain ⟨f1, f2⟩ := flat_rep h.1 r1
      refine ⟨by simp [f1, i1], ?_⟩
      unfold inV at i2 ⊢
      simp only [List.any_cons, i2, f2 hd rd]
def fInF (neg : Bool) : F2 := fun x y => match y.1 with
  | .tup ds => if flatD x.1 && ds.all flatD then some (.bl (if neg then !(ds.any fun z => eqF z x.1) else ds.any fun z => eqF z x.1), .pure) else none
  | .lst ds => if flatD x.1 && ds.all flatD then some (.bl (if neg then !(ds.any fun z => eqF z x.1) else ds.any fun z => eqF z x.1), .pure) else none
  | _ => none
theorem vr_inF {neg : Bool} : VR C (rIn K neg) (fInF neg) := by
  intro O0 O H H' x y rx ry rz c c' e r1 r2 hf Q q
  obtain ⟨d2, f2⟩ := ry
  unfold fInF at hf
  split at hf
  · rename_i ds e2
    simp only at e2; subst e2
    split at hf
    · rename_i hk
      cases hf
      simp only [Bool.and_eq_true] at hk
      obtain ⟨p, xs, rfl, h1, h2⟩ := r2.tupE
      have h2 := h2.mono hid_ex
      obtain ⟨g1, g2⟩ := flats_rep hk.2 h2 hk.1 r1.full
      exact ⟨p, xs, rfl, .inr h1.sq, (flat_rep hk.1 r1.full).1, g1, by rw [g2]; exact q _ _ (Evl.Ex.refl _) .bl⟩
    · cases hf
  · rename_i ds e2
    simp only at e2; subst e2
    split at hf
    · rename_i hk
      cases hf
      simp only [Bool.and_eq_true] at hk
      obtain ⟨p, xs, rfl, h1, h2⟩ := r2.lstE
      have h2 := h2.mono hid_ex
      obtain ⟨g1, g2⟩ := flats_rep hk.2 h2 hk.1 r1.full
      exact ⟨p, xs, rfl, .inl (.inl (.inl h1)), (flat_rep hk.1 r1.full).1, g1, by rw [g2]; exact q _ _ (Evl.Ex.refl _) .bl⟩
    · cases hf
  · cases hf
/-! is -/
def fIsN (neg : Bool) : F2 := fun x y => match y.1 with
  | .non => some (.bl (if neg then !(match x.1 with | .non => true | _ => false) else match x.1 with | .non => true | _ => false), .pure)
  | _ => none
theorem vr_isN : VR C (fun x y H Q => y = .non ∧ Q (.bl (decide (x = .non))) H) (fIsN false) := by
  intro O0 O H H' x y rx ry rz c c' e r1 r2 hf Q q
  obtain ⟨d1, f1⟩ := rx; obtain ⟨d2, f2⟩ := ry
  unfold fIsN at hf
  split at hf
  · rename_i e2
    simp only at e2; subst e2
    cases hf
    cases r2.nonE
    refine ⟨rfl, q _ _ (Evl.Ex.refl _) ?_⟩
    have k := r1.full
    cases d1 <;> cases k <;> exact .bl
  · cases hf
theorem vr_notN : VR C (fun x y H Q => y = .non ∧ Q (.bl (!decide (x = .non))) H) (fIsN true) := by
  intro O0 O H H' x y rx ry rz c c' e r1 r2 hf Q q
  obtain ⟨d1, f1⟩ := rx; obtain ⟨d2, f2⟩ := ry
  unfold fIsN at hf
  split at hf
  · rename_i e2
    simp only at e2; subst e2
    cases hf
    cases r2.nonE
    refine ⟨rfl, q _ _ (Evl.Ex.refl _) ?_⟩
    have k := r1.full
    cases d1 <;> cases k <;> exact .bl
  · cases hf
def fIsB (neg : Bool) : F2 := fun x y => match x.1, y.1 with
  | .bl a, .bl b => some (.bl (if neg then !decide (a = b) else decide (a = b)), .pure)
  | _, _ => none
theorem vr_isB : VR C rIsB (fIsB false) := by
  intro O0 O H H' x y rx ry rz c c' e r1 r2 hf Q q
  obtain ⟨d1, f1⟩ := rx; obtain ⟨d2, f2⟩ := ry
  unfold fIsB at hf
  split at hf
  · rename_i i j e1 e2
    simp only at e1 e2; subst e1; subst e2
    cases hf
    cases r1.blE; cases r2.blE
    exact ⟨i, j, rfl, rfl, q _ _ (Evl.Ex.refl _) .bl⟩
  · cases hf
theorem vr_notB : VR C rNotB (fIsB true) := by
  intro O0 O H H' x y rx ry rz c c' e r1 r2 hf Q q
  obtain ⟨d1, f1⟩ := rx; obtain ⟨d2, f2⟩ := ry
  unfold fIsB at hf
  split at hf
  · rename_i i j e1 e2
    simp only at e1 e2; subst e1; subst e2
    cases hf
    cases r1.blE; cases r2.blE
    exact ⟨i, j, rfl, rfl, q _ _ (Evl.Ex.refl _) .bl⟩
  · cases hf

/-! ### comparisons, all -/
section
variable {a b c : Expr} {ta tb tc : TE} {ma mb mc : M} {pos : Pos}
theorem de_lt (ha : DE C X a ta ma) (hb : DE C X b tb mb) : DE C X (.Compare a [.Lt] [b] pos) (tOp (rI0 fun i j => .bl (decide (i < j))) ta tb) (mOp fLt ma mb) := de_cmp op_lt vr_Ib ha hb
theorem de_le (ha : DE C X a ta ma) (hb : DE C X b tb mb) : DE C X (.Compare a [.LtE] [b] pos) (tOp (rI0 fun i j => .bl (decide (i ≤ j))) ta tb) (mOp fLe ma mb) := de_cmp op_le vr_Ib ha hb
theorem de_gt (ha : DE C X a ta ma) (hb : DE C X b tb mb) : DE C X (.Compare a [.Gt] [b] pos) (tOp (rI0 fun i j => .bl (decide (j < i))) ta tb) (mOp fGt ma mb) := de_cmp op_gt vr_Ib ha hb
theorem de_ge (ha : DE C X a ta ma) (hb : DE C X b tb mb) : DE C X (.Compare a [.GtE] [b] pos) (tOp (rI0 fun i j => .bl (decide (j ≤ i))) ta tb) (mOp fGe ma mb) := de_cmp op_ge vr_Ib ha hb
theorem de_eq {k : Nat} (hK : X.K = K) (hr : Room k X.A) (ha : DE C X a ta ma) (hb : DE C X b tb mb) : DE C X (.Compare a [.Eq] [b] pos) (tOp (rEqD K) ta tb) (mOp fEq ma mb) := by subst hK; exact de_cmp (op_eqD hr.units) vr_eq ha hb
theorem de_ne {k : Nat} (hK : X.K = K) (hr : Room k X.A) (ha : DE C X a ta ma) (hb : DE C X b tb mb) : DE C X (.Compare a [.NotEq] [b] pos) (tOp (rNeD K) ta tb) (mOp fNe ma mb) := by subst hK; exact de_cmp (op_neD hr.units) vr_ne ha hb
theorem un65 {k : Nat} {A : Around} (hr : Room k A) : A.units + 65 < cLine := by have := hr.un; omega
/-- in: a tuple of flat ones, a list of data -/
theorem de_in {k : Nat} (hK : X.K = K) (hr : Room k X.A) (ha : DE C X a ta ma) (hb : DE C X b tb mb) (hm : behindInMarks .In b = false := by rfl) : DE C X (.Compare a [.In] [b] pos) (tOp (fun x y H Q => rIn K false x y H Q ∨ rInD K x y H Q) ta tb) (mOp (fun x y => (fInF false x y).or (fIn x y)) ma mb) := by
  subst hK; exact de_cmp (op_in_seq.or (op_inD (un65 hr))) (vr_inF.or vr_in) ha hb hm
theorem de_notIn {k : Nat} (hK : X.K = K) (hr : Room k X.A) (ha : DE C X a ta ma) (hb : DE C X b tb mb) (hm : behindInMarks .NotIn b = false := by rfl) : DE C X (.Compare a [.NotIn] [b] pos) (tOp (fun x y H Q => rIn K true x y H Q ∨ rNotInD K x y H Q) ta tb) (mOp (fun x y => (fInF true x y).or (fNotIn x y)) ma mb) := by
  subst hK; exact de_cmp (op_notIn_seq.or (op_notInD (un65 hr))) (vr_inF.or vr_notIn) ha hb hm
theorem de_isN (ha : DE C X a ta ma) (hb : DE C X b tb mb) : DE C X (.Compare a [.Is] [b] pos) (tOp (fun x y H Q => y = .non ∧ Q (.bl (decide (x = .non))) H) ta tb) (mOp (fIsN false) ma mb) := de_cmp op_isN vr_isN ha hb
theorem de_notN (ha : DE C X a ta ma) (hb : DE C X b tb mb) : DE C X (.Compare a [.IsNot] [b] pos) (tOp (fun x y H Q => y = .non ∧ Q (.bl (!decide (x = .non))) H) ta tb) (mOp (fIsN true) ma mb) := de_cmp op_notN vr_notN ha hb
theorem de_isB (ha : DE C X a ta ma) (hb : DE C X b tb mb) : DE C X (.Compare a [.Is] [b] pos) (tOp rIsB ta tb) (mOp (fIsB false) ma mb) := de_cmp op_isBl vr_isB ha hb
theorem de_notB (ha : DE C X a ta ma) (hb : DE C X b tb mb) : DE C X (.Compare a [.IsNot] [b] pos) (tOp rNotB ta tb) (mOp (fIsB true) ma mb) := de_cmp op_notBl vr_notB ha hb
/-! chains of two: 0 <= i < n -/
def mChain (f f' : F2) (a b c : M) : M := fun ρ => (a ρ).bind fun x => (b ρ).bind fun y => (f x y).bind fun z => match z.1 with
  | .bl true => (c ρ).bind fun w => f' y w
  | .bl false => some (.bl false, .pure)
  | _ => none
theorem snd_chain {r r' : R2} {f f' : F2} (hr : VR C r f) (hr' : VR C r' f') (ha : Snd C ta ma) (hb : Snd C tb mb) (hc : Snd C tc mc) : Snd C (tChain r r' ta tb tc) (mChain f f' ma mb mc) := by
  intro O0 O H σ ρ rz s h Q q
  unfold mChain at h
  cases ea : ma ρ with
  | none => rw [ea] at h; cases h
  | some rx =>
    cases eb : mb ρ with
    | none => rw [ea, eb] at h; cases h
    | some ry =>
      rw [ea, eb] at h
      replace h : ((f rx ry).bind fun z => match z.1 with
        | .bl true => (mc ρ).bind fun w => f' ry w
        | .bl false => some (.bl false, .pure)
        | _ => none) = some rz := h
      cases ef : f rx ry with
      | none => rw [ef] at h; cases h
      | some rk =>
        rw [ef] at h
        refine ha _ _ _ _ _ _ s ea _ fun x H1 e1 r1 => ?_
        refine hb _ _ _ _ _ _ (s.mono e1) eb _ fun y H2 e2 r2 => ?_
        have s2 := (s.mono e1).mono e2
        refine hr _ _ _ _ _ _ _ _ _ s.co s2.co (e1.trans e2) (r1.mono e2) (r2.back e1) ef _ fun z H3 e3 r3 => ?_
        have s3 := s2.mono e3
        have e13 := (e1.trans e2).trans e3
        obtain ⟨d3, f3⟩ := rk
        cases d3 with
        | bl k =>
          cases r3.blE
          cases k with
          | true =>
            refine ⟨true, rfl, ?_⟩
            replace h : ((mc ρ).bind fun w => f' ry w) = some rz := h
            cases ec : mc ρ with
            | none => rw [ec] at h; cases h
            | some rw' =>
              rw [ec] at h
              refine hc _ _ _ _ _ _ s3 ec _ fun w H4 e4 r4 => ?_
              exact hr' _ _ _ _ _ _ _ _ _ s.co (s3.mono e4).co (e13.trans e4) (((r2.back e1).mono e3).mono e4) (r4.back e13) h Q fun v H5 e5 r5 => q v H5 ((e13.trans e4).trans e5) r5
          | false =>
            refine ⟨false, rfl, ?_⟩
            cases h
            exact q _ _ e13 .bl
        | _ => cases h
end
end
end Dt

set_option maxRecDepth 100000
namespace Dt
open PySem PySem.Spec PyProof.Rows L2
open Evl (Ex)
section
variable {C : Cfg} {K : PySem.W.Frag} {X : Cx} {O0 O : List Addr} {H H' H1 : Hp} {σ : L2.St} {ρ : E}
variable {a b c : Expr} {rest es : List Expr} {ta tb tc te : TE} {ma mb mc me : M} {pos : Pos} {tA tB' : TT} {bA bB : B}

/-! ### tests -/
def mB (m : M) : B := fun ρ => (m ρ).bind fun r => match r.1 with | .bl k => some k | _ => none
theorem snd_test (h : Snd C ta ma) : SndT C (fun σ H Q => ta σ H fun x H' => ∃ k, x = .bl k ∧ Q k H') (mB ma) := by
  intro O0 O H σ ρ r s h1 Q q
  unfold mB at h1
  cases ea : ma ρ with
  | none => rw [ea] at h1; cases h1
  | some rx =>
    rw [ea] at h1
    obtain ⟨d, fl⟩ := rx
    cases d with
    | bl k =>
      cases h1
      refine h _ _ _ _ _ _ s ea _ fun v H' e r => ?_
      exact ⟨_, r.blE, q _ e⟩
    | _ => cases h1
theorem dt_cmp {op : CmpOp} {r : R2} {f : F2} (ho : OpR X (compareOp op) r) (hv : VR C r f) (ha : DE C X a ta ma) (hb : DE C X b tb mb) (hm : behindInMarks op b = false := by first | exact nobehind _ (by decide) (by decide) | rfl) :
    DT C X (.Compare a [op] [b] pos) (tTest (tOp r ta tb)) (mB (mOp f ma mb)) := ⟨pt_cmpR ho ha.pe hb.pe hm, snd_test (snd_op hv ha.sd hb.sd)⟩
theorem dt_lt (ha : DE C X a ta ma) (hb : DE C X b tb mb) : DT C X (.Compare a [.Lt] [b] pos) (tTest (tOp (rI0 fun i j => .bl (decide (i < j))) ta tb)) (mB (mOp fLt ma mb)) := dt_cmp op_lt vr_Ib ha hb
theorem dt_le (ha : DE C X a ta ma) (hb : DE C X b tb mb) : DT C X (.Compare a [.LtE] [b] pos) (tTest (tOp (rI0 fun i j => .bl (decide (i ≤ j))) ta tb)) (mB (mOp fLe ma mb)) := dt_cmp op_le vr_Ib ha hb
theorem dt_gt (ha : DE C X a ta ma) (hb : DE C X b tb mb) : DT C X (.Compare a [.Gt] [b] pos) (tTest (tOp (rI0 fun i j => .bl (decide (j < i))) ta tb)) (mB (mOp fGt ma mb)) := dt_cmp op_gt vr_Ib ha hb
theorem dt_ge (ha : DE C X a ta ma) (hb : DE C X b tb mb) : DT C X (.Compare a [.GtE] [b] pos) (tTest (tOp (rI0 fun i j => .bl (decide (j ≤ i))) ta tb)) (mB (mOp fGe ma mb)) := dt_cmp op_ge vr_Ib ha hb
theorem dt_eq {k : Nat} (hK : X.K = K) (hr : Room k X.A) (ha : DE C X a ta ma) (hb : DE C X b tb mb) : DT C X (.Compare a [.Eq] [b] pos) (tTest (tOp (rEqD K) ta tb)) (mB (mOp fEq ma mb)) := by subst hK; exact dt_cmp (op_eqD hr.units) vr_eq ha hb
theorem dt_ne {k : Nat} (hK : X.K = K) (hr : Room k X.A) (ha : DE C X a ta ma) (hb : DE C X b tb mb) : DT C X (.Compare a [.NotEq] [b] pos) (tTest (tOp (rNeD K) ta tb)) (mB (mOp fNe ma mb)) := by subst hK; exact dt_cmp (op_neD hr.units) vr_ne ha hb
theorem dt_in {k : Nat} (hK : X.K = K) (hr : Room k X.A) (ha : DE C X a ta ma) (hb : DE C X b tb mb) (hm : behindInMarks .In b = false := by rfl) : DT C X (.Compare a [.In] [b] pos) (tTest (tOp (fun x y H Q => rIn K false x y H Q ∨ rInD K x y H Q) ta tb)) (mB (mOp (fun x y => (fInF false x y).or (fIn x y)) ma mb)) := by
  subst hK; exact dt_cmp (op_in_seq.or (op_inD (un65 hr))) (vr_inF.or vr_in) ha hb hm
theorem dt_notIn {k : Nat} (hK : X.K = K) (hr : Room k X.A) (ha : DE C X a ta ma) (hb : DE C X b tb mb) (hm : behindInMarks .NotIn b = false := by rfl) : DT C X (.Compare a [.NotIn] [b] pos) (tTest (tOp (fun x y H Q => rIn K true x y H Q ∨ rNotInD K x y H Q) ta tb)) (mB (mOp (fun x y => (fInF true x y).or (fNotIn x y)) ma mb)) := by
  subst hK; exact dt_cmp (op_notIn_seq.or (op_notInD (un65 hr))) (vr_inF.or vr_notIn) ha hb hm
theorem dt_isN (ha : DE C X a ta ma) (hb : DE C X b tb mb) : DT C X (.Compare a [.Is] [b] pos) (tTest (tOp (fun x y H Q => y = .non ∧ Q (.bl (decide (x = .non))) H) ta tb)) (mB (mOp (fIsN false) ma mb)) := dt_cmp op_isN vr_isN ha hb
theorem dt_notN (ha : DE C X a ta ma) (hb : DE C X b tb mb) : DT C X (.Compare a [.IsNot] [b] pos) (tTest (tOp (fun x y H Q => y = .non ∧ Q (.bl (!decide (x = .non))) H) ta tb)) (mB (mOp (fIsN true) ma mb)) := dt_cmp op_notN vr_notN ha hb
theorem dt_isB (ha : DE C X a ta ma) (hb : DE C X b tb mb) : DT C X (.Compare a [.Is] [b] pos) (tTest (tOp rIsB ta tb)) (mB (mOp (fIsB false) ma mb)) := dt_cmp op_isBl vr_isB ha hb
theorem dt_notB (ha : DE C X a ta ma) (hb : DE C X b tb mb) : DT C X (.Compare a [.IsNot] [b] pos) (tTest (tOp rNotB ta tb)) (mB (mOp (fIsB true) ma mb)) := dt_cmp op_notBl vr_notB ha hb
/-- 0 <= i < n -/
abbrev rLe : R2 := rI0 fun i j => .bl (decide (i ≤ j))
abbrev rLt : R2 := rI0 fun i j => .bl (decide (i < j))
theorem de_leLt (ha : DE C X a ta ma) (hb : DE C X b tb mb) (hc : DE C X c tc mc) (hm : lastMarks [.LtE, .Lt] [b, c] = false := by with_unfolding_all rfl) : DE C X (.Compare a [.LtE, .Lt] [b, c] pos) (tChain rLe rLt ta tb tc) (mChain fLe fLt ma mb mc) :=
  ⟨pe_chain op_le op_lt ha.pe hb.pe hc.pe hm, snd_chain vr_Ib vr_Ib ha.sd hb.sd hc.sd⟩
theorem dt_leLt (ha : DE C X a ta ma) (hb : DE C X b tb mb) (hc : DE C X c tc mc) (hm : lastMarks [.LtE, .Lt] [b, c] = false := by with_unfolding_all rfl) : DT C X (.Compare a [.LtE, .Lt] [b, c] pos) (tTest (tChain rLe rLt ta tb tc)) (mB (mChain fLe fLt ma mb mc)) :=
  ⟨pt_chain op_le op_lt ha.pe hb.pe hc.pe hm, snd_test (snd_chain vr_Ib vr_Ib ha.sd hb.sd hc.sd)⟩
/-- a value that is a bool, as a test -/
theorem dt_val (h : DE C X a ta ma) (he : ∀ whole, isTrue a X.env whole = (do let v ← whole; standAt a.pos; holding [v] (truthy v)) := by intro _; rfl) : DT C X a (tB ta) (mB ma) := ⟨pt_val h.pe he, snd_test h.sd⟩
def bNot (m : B) : B := fun ρ => (m ρ).map (!·)
theorem dt_not (h : DT C X a tA bA) : DT C X (.UnaryOp .Not a pos) (tNot tA) (bNot bA) := by
  refine ⟨pt_not h.pt, fun O0 O H σ ρ r s h1 Q q => ?_⟩
  unfold bNot at h1
  cases e : bA ρ with
  | none => rw [e] at h1; cases h1
  | some k => rw [e] at h1; cases h1; exact h.sd _ _ _ _ _ _ s e _ fun H' e' => q H' e'
structure DW (C : Cfg) (X : Cx) (e : Expr) (tt : TT) (m : B) : Prop where
  pw : PW X e tt
  sd : SndT C tt m
theorem DW.t (h : DW C X a tA bA) : DT C X a tA bA := ⟨h.pw.pt, h.sd⟩
def bAnd (m n : B) : B := fun ρ => (m ρ).bind fun k => if k then n ρ else some false
def bOr (m n : B) : B := fun ρ => (m ρ).bind fun k => if k then some true else n ρ
theorem dw_and1 (h : DT C X a tA bA) : DW C X (.BoolOp .And [a] pos) tA bA := ⟨pw_and1 h.pt, h.sd⟩
theorem dw_or1 (h : DT C X a tA bA) : DW C X (.BoolOp .Or [a] pos) tA bA := ⟨pw_or1 h.pt, h.sd⟩
theorem dw_and (ha : DT C X a tA bA) (hb : DW C X (.BoolOp .And (b :: rest) pos) tB' bB) : DW C X (.BoolOp .And (a :: b :: rest) pos) (tAnd tA tB') (bAnd bA bB) := by
  refine ⟨pw_and ha.pt hb.pw, fun O0 O H σ ρ r s h1 Q q => ?_⟩
  unfold bAnd at h1
  cases e : bA ρ with
  | none => rw [e] at h1; cases h1
  | some k =>
    rw [e] at h1
    refine ha.sd _ _ _ _ _ _ s e _ fun H' e' => ?_
    cases k with
    | true => exact hb.sd _ _ _ _ _ _ (s.mono e') h1 _ fun H2 e2 => q H2 (e'.trans e2)
    | false => cases h1; exact q H' e'
theorem dw_or (ha : DT C X a tA bA) (hb : DW C X (.BoolOp .Or (b :: rest) pos) tB' bB) : DW C X (.BoolOp .Or (a :: b :: rest) pos) (tOr tA tB') (bOr bA bB) := by
  refine ⟨pw_or ha.pt hb.pw, fun O0 O H σ ρ r s h1 Q q => ?_⟩
  unfold bOr at h1
  cases e : bA ρ with
  | none => rw [e] at h1; cases h1
  | some k =>
    rw [e] at h1
    refine ha.sd _ _ _ _ _ _ s e _ fun H' e' => ?_
    cases k with
    | true => cases h1; exact q H' e'
    | false => exact hb.sd _ _ _ _ _ _ (s.mono e') h1 _ fun H2 e2 => q H2 (e'.trans e2)
/-! as values -/
def mNot (m : M) : M := fun ρ => (m ρ).bind fun r => match r.1 with | .bl k => some (.bl (!k), .pure) | _ => none
theorem de_not (h : DE C X a ta ma) : DE C X (.UnaryOp .Not a pos) (tNotV ta) (mNot ma) := by
  refine ⟨pe_not h.pe, fun O0 O H σ ρ r s h1 Q q => ?_⟩
  unfold mNot at h1
  cases ea : ma ρ with
  | none => rw [ea] at h1; cases h1
  | some rx =>
    rw [ea] at h1
    obtain ⟨d, fl⟩ := rx
    cases d with
    | bl k =>
      cases h1
      exact h.sd _ _ _ _ _ _ s ea _ fun v H' e r => ⟨k, r.blE, q _ _ e .bl⟩
    | _ => cases h1
def mAnd (m n : M) : M := fun ρ => (m ρ).bind fun r => match r.1 with | .bl k => if k then n ρ else some (.bl false, .pure) | _ => none
def mOr (m n : M) : M := fun ρ => (m ρ).bind fun r => match r.1 with | .bl k => if k then some (.bl true, .pure) else n ρ | _ => none
theorem de_one {op : BoolOp} (h : DE C X a ta ma) : DE C X (.BoolOp op [a] pos) ta ma := ⟨pe_one h.pe, h.sd⟩
theorem de_and (ha : DE C X a ta ma) (hb : DE C X (.BoolOp .And (b :: rest) pos) tb mb) : DE C X (.BoolOp .And (a :: b :: rest) pos) (tAndV ta tb) (mAnd ma mb) := by
  refine ⟨pe_and ha.pe hb.pe, fun O0 O H σ ρ r s h1 Q q => ?_⟩
  unfold mAnd at h1
  cases ea : ma ρ with
  | none => rw [ea] at h1; cases h1
  | some rx =>
    rw [ea] at h1
    obtain ⟨d, fl⟩ := rx
    cases d with
    | bl k =>
      refine ha.sd _ _ _ _ _ _ s ea _ fun v H' e r => ⟨k, r.blE, ?_⟩
      cases k with
      | true => exact hb.sd _ _ _ _ _ _ (s.mono e) h1 _ fun v H2 e2 r2 => q v H2 (e.trans e2) (r2.back e)
      | false => cases h1; exact q _ H' e .bl
    | _ => cases h1
theorem de_or (ha : DE C X a ta ma) (hb : DE C X (.BoolOp .Or (b :: rest) pos) tb mb) : DE C X (.BoolOp .Or (a :: b :: rest) pos) (tOrV ta tb) (mOr ma mb) := by
  refine ⟨pe_or ha.pe hb.pe, fun O0 O H σ ρ r s h1 Q q => ?_⟩
  unfold mOr at h1
  cases ea : ma ρ with
  | none => rw [ea] at h1; cases h1
  | some rx =>
    rw [ea] at h1
    obtain ⟨d, fl⟩ := rx
    cases d with
    | bl k =>
      refine ha.sd _ _ _ _ _ _ s ea _ fun v H' e r => ⟨k, r.blE, ?_⟩
      cases k with
      | false => exact hb.sd _ _ _ _ _ _ (s.mono e) h1 _ fun v H2 e2 r2 => q v H2 (e.trans e2) (r2.back e)
      | true => cases h1; exact q _ H' e .bl
    | _ => cases h1
def mIf (t : B) (m n : M) : M := fun ρ => (t ρ).bind fun k => if k then m ρ else n ρ
theorem de_if (hc : DT C X c tA bA) (ha : DE C X a ta ma) (hb : DE C X b tb mb) : DE C X (.IfExp c a b pos) (tIf tA ta tb) (mIf bA ma mb) := by
  refine ⟨pe_ifExp hc.pt ha.pe hb.pe, fun O0 O H σ ρ r s h1 Q q => ?_⟩
  unfold mIf at h1
  cases e : bA ρ with
  | none => rw [e] at h1; cases h1
  | some k =>
    rw [e] at h1
    refine hc.sd _ _ _ _ _ _ s e _ fun H' e' => ?_
    cases k with
    | true => exact ha.sd _ _ _ _ _ _ (s.mono e') h1 _ fun v H2 e2 r2 => q v H2 (e'.trans e2) (r2.back e')
    | false => exact hb.sd _ _ _ _ _ _ (s.mono e') h1 _ fun v H2 e2 r2 => q v H2 (e'.trans e2) (r2.back e')
def mNeg (m : M) : M := fun ρ => (m ρ).bind fun r => match r.1 with | .int i => some (.int (-i), .pure) | _ => none
theorem de_neg (h : DE C X a ta ma) : DE C X (.UnaryOp .USub a pos) (tUn (rU fun i => .int (-i)) ta) (mNeg ma) := by
  refine ⟨pe_un un_neg h.pe, fun O0 O H σ ρ r s h1 Q q => ?_⟩
  unfold mNeg at h1
  cases ea : ma ρ with
  | none => rw [ea] at h1; cases h1
  | some rx =>
    rw [ea] at h1
    obtain ⟨d, fl⟩ := rx
    cases d with
    | int i =>
      cases h1
      exact h.sd _ _ _ _ _ _ s ea _ fun v H' e r => ⟨i, r.intE, q _ _ e .int⟩
    | _ => cases h1

/-! ### arguments, displays -/
def aNil : As := fun _ => some []
def aCons (m : M) (n : As) : As := fun ρ => (m ρ).bind fun r => (n ρ).map fun rs => r :: rs
theorem da_nil : DA C X [] tNil aNil := ⟨pa_nil, fun O0 O H σ ρ rs s h Q q => by cases h; exact q _ _ (Evl.Ex.refl _) .nil⟩
theorem da_cons {tr : TA} {n : As} (ha : DE C X a ta ma) (hr : DA C X es tr n) (hs : starEach (a :: es) X.env = (false, eval a X.env) :: starEach es X.env := by rfl) : DA C X (a :: es) (tCons ta tr) (aCons ma n) := by
  refine ⟨pa_cons ha.pe hr.pa hs, fun O0 O H σ ρ rs s h1 Q q => ?_⟩
  unfold aCons at h1
  cases ea : ma ρ with
  | none => rw [ea] at h1; cases h1
  | some rx =>
    cases en : n ρ with
    | none => rw [ea, en] at h1; cases h1
    | some rs' =>
      rw [ea, en] at h1
      cases h1
      refine ha.sd _ _ _ _ _ _ s ea _ fun v H1 e1 r1 => ?_
      exact hr.sd _ _ _ _ _ _ (s.mono e1) en _ fun vs H2 e2 r2 => q _ H2 (e1.trans e2) (.cons (r1.mono e2) (r2.back e1))
def nb (rs : List (D × Fl)) : Bool := rs.all fun r => decide (r.2 ≠ .bor)
theorem Ress.shared (dm : ∀ a ∈ O, H a ≠ none) {vs : List V} {rs : List (D × Fl)} (hb : nb rs = true) (h : Ress C O0 O H H' vs rs) : Reps C (hid H' O) vs (rs.map (·.1)) := by
  induction h with
  | nil => exact .nil
  | cons h _ ih =>
    simp only [nb, List.all_cons, Bool.and_eq_true, decide_eq_true_eq] at hb
    exact .cons (h.sharedF dm hb.1) (ih hb.2)
theorem Ress.anys (s : ∀ a ∈ O0, a ∈ O) (dm : ∀ a ∈ O, H a ≠ none) {vs : List V} {rs : List (D × Fl)} (h : Ress C O0 O H H' vs rs) : Reps C (hid H' O0) vs (rs.map (·.1)) := by
  induction h with
  | nil => exact .nil
  | cons h _ ih => exact .cons (h.any s dm) ih
theorem Ress.length {vs : List V} {rs : List (D × Fl)} (h : Ress C O0 O H H' vs rs) : vs.length = rs.length := by
  induction h with
  | nil => rfl
  | cons h _ ih => simp [ih]
def mTup (n : As) : M := fun ρ => (n ρ).bind fun rs => if nb rs && decide (rs.length ≤ lim) then some (.tup (rs.map (·.1)), .pure) else none
def mLst (n : As) : M := fun ρ => (n ρ).bind fun rs => if nb rs && decide (rs.length ≤ lim) then some (.lst (rs.map (·.1)), .fresh) else none
theorem de_tup {t : TA} {n : As} {x1} (h : DA C X es t n) : DE C X (.Tuple es x1 pos) (tTupN t) (mTup n) := by
  refine ⟨peN_tup h.pa, fun O0 O H σ ρ r s h1 Q q => ?_⟩
  unfold mTup at h1
  cases en : n ρ with
  | none => rw [en] at h1; cases h1
  | some rs =>
    rw [en] at h1
    replace h1 : (if nb rs && decide (rs.length ≤ lim) then some ((.tup (rs.map (·.1)), .pure) : D × Fl) else none) = some r := h1
    split at h1
    · rename_i hk
      cases h1
      simp only [Bool.and_eq_true, decide_eq_true_eq] at hk
      refine h.sd _ _ _ _ _ _ s en _ fun vs H1 e1 r1 => ⟨lim_line (by rw [r1.length]; exact hk.2), fun p ob hp hd => ?_⟩
      exact q _ _ (e1.trans (Evl.Ex.new hp)) (res_tup (s.mono e1).co hp hd (r1.shared s.dom hk.1))
    · cases h1
theorem de_lst {t : TA} {n : As} (h : DA C X es t n) : DE C X (.List es pos) (tLst t) (mLst n) := by
  refine ⟨pe_lst h.pa, fun O0 O H σ ρ r s h1 Q q => ?_⟩
  unfold mLst at h1
  cases en : n ρ with
  | none => rw [en] at h1; cases h1
  | some rs =>
    rw [en] at h1
    replace h1 : (if nb rs && decide (rs.length ≤ lim) then some ((.lst (rs.map (·.1)), .fresh) : D × Fl) else none) = some r := h1
    split at h1
    · rename_i hk
      cases h1
      simp only [Bool.and_eq_true, decide_eq_true_eq] at hk
      refine h.sd _ _ _ _ _ _ s en _ fun vs H1 e1 r1 => ⟨lim_line (by rw [r1.length]; exact hk.2), fun p hp => ?_⟩
      exact q _ _ (e1.trans (Evl.Ex.new hp)) (res_lst e1 hp (r1.shared s.dom hk.1))
    · cases h1

/-! ### subscripts, slices -/
def fIx : F2 := fun x y => match x.1, y.1 with
  | .lst ds, .int i => (atI ds i).map fun d => (d, .pure)
  | .tup ds, .int i => (atI ds i).map fun d => (d, .pure)
  | .frz ns, .int i => (atI ns i).map fun k => (.int k, .pure)
  | _, _ => none
theorem atI_reps {ds : List D} {vs : List V} {i : Int} {d : D} (h : Reps C H vs ds) (e : atI ds i = some d) : ∃ v, atI vs i = some v ∧ Rep C H v d := by
  unfold atI at e ⊢
  rw [h.length]
  cases q : ixN ds.length i with
  | none => rw [q] at e; cases e
  | some j => rw [q] at e; exact h.get e
theorem vr_ix (hC : C.K = K) : VR C (fun x y H Q => rIxL K x y H Q ∨ rIxT K x y H Q) fIx := by
  intro O0 O H H' x y rx ry rz c c' e r1 r2 hf Q q
  obtain ⟨d1, f1⟩ := rx; obtain ⟨d2, f2⟩ := ry
  unfold fIx at hf
  split at hf
  · rename_i ds i e1 e2
    simp only at e1 e2; subst e1; subst e2
    cases ea : atI ds i with
    | none => rw [ea] at hf; cases hf
    | some d =>
      rw [ea] at hf; cases hf
      obtain ⟨p, xs, rfl, h1, h2⟩ := r1.lstE
      cases r2.intE
      obtain ⟨v, e1, r⟩ := atI_reps h2 ea
      exact .inl ⟨p, xs, i, v, rfl, rfl, .inl (.inl h1), e1, q _ _ (Evl.Ex.refl _) (.pure r)⟩
  · rename_i ds i e1 e2
    simp only at e1 e2; subst e1; subst e2
    cases ea : atI ds i with
    | none => rw [ea] at hf; cases hf
    | some d =>
      rw [ea] at hf; cases hf
      obtain ⟨p, xs, rfl, h1, h2⟩ := r1.tupE
      cases r2.intE
      obtain ⟨v, e1, r⟩ := atI_reps h2 ea
      exact .inr ⟨p, xs, i, v, rfl, rfl, h1.sq, e1, q _ _ (Evl.Ex.refl _) (.pure r)⟩
  · rename_i ns i e1 e2
    simp only at e1 e2; subst e1; subst e2
    cases ea : atI ns i with
    | none => rw [ea] at hf; cases hf
    | some k =>
      rw [ea] at hf; cases hf
      cases r2.intE
      cases r1 with
      | pure w =>
        cases w with
        | @frz p _ h1 =>
          have h2 := (h1.mono hid_ex).sq
          rw [hC] at h2
          refine .inl ⟨p, ns.map V.int, i, .int k, rfl, rfl, h2, ?_, q _ _ (Evl.Ex.refl _) .int⟩
          unfold atI at ea ⊢
          rw [List.length_map]
          cases qq : ixN ns.length i with
          | none => rw [qq] at ea; cases ea
          | some j =>
            rw [qq] at ea
            show (ns.map V.int)[j]? = _
            rw [List.getElem?_map, show ns[j]? = some k from ea]; rfl
  · cases hf
theorem de_ix (hK : X.K = K) (hC : C.K = K) (ha : DE C X a ta ma) (hb : DE C X b tb mb) (hs : PlainIx b := by exact fun _ _ => rfl) : DE C X (.Subscript a b pos) (tOp (fun x y H Q => rIxL K x y H Q ∨ rIxT K x y H Q) ta tb) (mOp fIx ma mb) := by
  subst hK; exact ⟨pe_ix (ix_list.or ix_tup) ha.pe hb.pe hs, snd_op (vr_ix hC) ha.sd hb.sd⟩
/-- a part of a slice -/
abbrev P := E → Option (Option Int)
structure DO (C : Cfg) (X : Cx) (e : Option Expr) (t : TO) (m : P) : Prop where
  po : PO X e t
  sd : ∀ O0 O H σ ρ o, SV C O0 O H σ ρ → m ρ = some o → ∀ Q : Option Int → Hp → Prop, (∀ H', Ex H H' → Q o H') → t σ H Q
def pNone : P := fun _ => some none
def pSome (m : M) : P := fun ρ => (m ρ).bind fun r => match r.1 with | .int i => some (some i) | _ => none
theorem do_none : DO C X none tNoPart pNone := ⟨po_none, fun O0 O H σ ρ o s h Q q => by cases h; exact q _ (Evl.Ex.refl _)⟩
theorem do_some (h : DE C X a ta ma) : DO C X (some a) (tPart ta) (pSome ma) := by
  refine ⟨po_some h.pe, fun O0 O H σ ρ o s h1 Q q => ?_⟩
  unfold pSome at h1
  cases ea : ma ρ with
  | none => rw [ea] at h1; cases h1
  | some rx =>
    rw [ea] at h1
    obtain ⟨d, fl⟩ := rx
    cases d with
    | int i =>
      cases h1
      exact h.sd _ _ _ _ _ _ s ea _ fun v H' e r => ⟨i, r.intE, q _ e⟩
    | _ => cases h1
def mSl (m : M) (lo hi : P) : M := fun ρ => (m ρ).bind fun r => (lo ρ).bind fun l => (hi ρ).bind fun u => match r.1 with
  | .lst ds => some (.lst (cutD ds l u), .fresh)
  | .tup ds => some (.tup (cutD ds l u), .pure)
  | _ => none
theorem cut_whole {α : Type} {xs : List α} {lo hi : Option Int} (h1 : HT.sIx xs.length 0 lo = 0) (h2 : HT.sIx xs.length xs.length hi = xs.length) : cutD xs lo hi = xs := by
  unfold cutD; rw [h1, h2]; simp
theorem de_sl {lo hi : Option Expr} {tl th : TO} {pl ph : P} {p2 : Pos} (hK : X.K = K) (he : DE C X a ta ma) (hl : DO C X lo tl pl) (hu : DO C X hi th ph) :
    DE C X (.Subscript a (.Slice lo hi none p2) pos) (tSl (fun x l u H Q => rSlL K x l u H Q ∨ rSlN K x l u H Q) ta tl th) (mSl ma pl ph) := by
  subst hK
  refine ⟨pe_slice (sl_list.or slN) he.pe hl.po hu.po, fun O0 O H σ ρ r s h1 Q q => ?_⟩
  unfold mSl at h1
  cases ea : ma ρ with
  | none => rw [ea] at h1; cases h1
  | some rx =>
    cases el : pl ρ with
    | none => rw [ea, el] at h1; cases h1
    | some l =>
      cases eh : ph ρ with
      | none => rw [ea, el, eh] at h1; cases h1
      | some u =>
        rw [ea, el, eh] at h1
        obtain ⟨d, fl⟩ := rx
        refine he.sd _ _ _ _ _ _ s ea _ fun v H1 e1 r1 => ?_
        refine hl.sd _ _ _ _ _ _ (s.mono e1) el _ fun H2 e2 => ?_
        refine hu.sd _ _ _ _ _ _ ((s.mono e1).mono e2) eh _ fun H3 e3 => ?_
        have e13 := (e1.trans e2).trans e3
        have r3 := (r1.mono e2).mono e3
        cases d with
        | lst ds =>
          cases h1
          obtain ⟨p, xs, rfl, g1, g2⟩ := r3.lstE
          exact .inl ⟨p, xs, rfl, .inl (.inl g1), fun p' hp => q _ _ (e13.trans (Evl.Ex.new hp)) (res_lst e13 hp (cut_reps g2 l u))⟩
        | tup ds =>
          cases h1
          obtain ⟨p, xs, rfl, g1, g2⟩ := r3.tupE
          refine .inr ⟨p, xs, rfl, g1.sq, fun ⟨w1, w2⟩ => ?_, fun _ p' ob hp hd => ?_⟩
          · rw [g2.length] at w1 w2
            refine q _ _ e13 ?_
            rw [cut_whole w1 w2]
            cases r3 with | pure w => exact .pure w
          · exact q _ _ (e13.trans (Evl.Ex.new hp)) (res_tup (s.mono e13).co hp hd (cut_reps g2 l u))
        | _ => cases h1
end
end Dt

set_option maxRecDepth 100000
namespace Dt
open PySem PySem.Spec PyProof.Rows L2
open Evl (Ex)

/-! ### lists of ints, of bools -/
def getInts : List D → Option (List Int)
  | [] => some []
  | .int i :: r => (getInts r).map (i :: ·)
  | _ => none
def getBls : List D → Option (List Bool)
  | [] => some []
  | .bl i :: r => (getBls r).map (i :: ·)
  | _ => none
theorem ints_of {C : Cfg} {H : Hp} : ∀ {ds : List D} {xs : List V} {ns : List Int}, getInts ds = some ns → Reps C H xs ds → xs = ns.map V.int
  | [], _, _, h, r => by cases h; cases r; rfl
  | d :: ds, _, _, h, r => by
    cases r with
    | cons r1 r2 =>
      cases d <;> first | (simp [getInts] at h; done) | skip
      rename_i i
      simp only [getInts, Option.map_eq_some_iff] at h
      obtain ⟨ns, h1, rfl⟩ := h
      cases r1
      rw [ints_of h1 r2]; rfl
theorem bls_of {C : Cfg} {H : Hp} : ∀ {ds : List D} {xs : List V} {ns : List Bool}, getBls ds = some ns → Reps C H xs ds → xs = ns.map V.bl
  | [], _, _, h, r => by cases h; cases r; rfl
  | d :: ds, _, _, h, r => by
    cases r with
    | cons r1 r2 =>
      cases d <;> first | (simp [getBls] at h; done) | skip
      rename_i i
      simp only [getBls, Option.map_eq_some_iff] at h
      obtain ⟨ns, h1, rfl⟩ := h
      cases r1
      rw [bls_of h1 r2]; rfl
theorem reps_ints {C : Cfg} {H : Hp} : ∀ ns : List Int, Reps C H (ns.map V.int) (ns.map D.int)
  | [] => .nil
  | n :: ns => .cons (.int n) (reps_ints ns)
theorem getInts_map : ∀ ns : List Int, getInts (ns.map D.int) = some ns
  | [] => rfl
  | n :: ns => by simp [getInts, getInts_map ns]
theorem getBls_map : ∀ ns : List Bool, getBls (ns.map D.bl) = some ns
  | [] => rfl
  | n :: ns => by simp [getBls, getBls_map ns]

/-! sorting, by insertion -/
def ins (x : Int) : List Int → List Int
  | [] => [x]
  | y :: r => if x ≤ y then x :: y :: r else y :: ins x r
def isort : List Int → List Int
  | [] => []
  | x :: r => ins x (isort r)
theorem ins_perm (x : Int) : ∀ l : List Int, (ins x l).Perm (x :: l)
  | [] => .refl _
  | y :: r => by
    unfold ins
    split
    · exact .refl _
    · exact .trans (.cons y (ins_perm x r)) (.swap x y r)
theorem isort_perm : ∀ l : List Int, (isort l).Perm l
  | [] => .refl _
  | x :: r => (ins_perm x (isort r)).trans (.cons x (isort_perm r))
theorem ins_sorted (x : Int) : ∀ {l : List Int}, l.Pairwise (· ≤ ·) → (ins x l).Pairwise (· ≤ ·)
  | [], _ => by simp [ins]
  | y :: r, h => by
    unfold ins
    cases h with
    | cons h1 h2 =>
      split
      · rename_i hxy
        refine .cons (fun z hz => ?_) (.cons h1 h2)
        rcases List.mem_cons.mp hz with rfl | hz
        · exact hxy
        · exact Int.le_trans hxy (h1 z hz)
      · rename_i hxy
        refine .cons (fun z hz => ?_) (ins_sorted x h2)
        rcases List.mem_cons.mp ((ins_perm x r).mem_iff.mp hz) with rfl | hz
        · omega
        · exact h1 z hz
theorem isort_sorted : ∀ l : List Int, (isort l).Pairwise (· ≤ ·)
  | [] => .nil
  | x :: r => ins_sorted x (isort_sorted r)
theorem sorted_unique : ∀ {l m : List Int}, l.Perm m → l.Pairwise (· ≤ ·) → m.Pairwise (· ≤ ·) → l = m
  | [], m, p, _, _ => (List.Perm.nil_eq p)
  | x :: l, [], p, _, _ => absurd p.length_eq (by simp)
  | x :: l, y :: m, p, h1, h2 => by
    cases h1 with
    | cons a1 a2 =>
      cases h2 with
      | cons b1 b2 =>
        have e : x = y := by
          have hx : x ∈ y :: m := p.mem_iff.mp List.mem_cons_self
          have hy : y ∈ x :: l := p.mem_iff.mpr List.mem_cons_self
          rcases List.mem_cons.mp hx with e | hx
          · exact e
          · rcases List.mem_cons.mp hy with e | hy
            · exact e.symm
            · exact Int.le_antisymm (a1 y hy) (b1 x hx)
        subst e
        rw [sorted_unique (List.Perm.cons_inv p) a2 b2]
theorem isort_eq {l m : List Int} (p : m.Perm l) (h : m.Pairwise (· ≤ ·)) : m = isort l := sorted_unique (p.trans (isort_perm l).symm) h (isort_sorted l)
def maxL : List Int → Int
  | [] => 0
  | x :: r => r.foldl (fun a b => if b > a then b else a) x
def minL : List Int → Int
  | [] => 0
  | x :: r => r.foldl (fun a b => if b < a then b else a) x
theorem fmax_spec : ∀ (r : List Int) (x : Int), r.foldl (fun a b => if b > a then b else a) x ∈ x :: r ∧ ∀ y ∈ x :: r, y ≤ r.foldl (fun a b => if b > a then b else a) x
  | [], x => by simp
  | z :: r, x => by
    obtain ⟨h1, h2⟩ := fmax_spec r (if z > x then z else x)
    simp only [List.foldl_cons]
    refine ⟨?_, fun y hy => ?_⟩
    · rcases List.mem_cons.mp h1 with e | e
      · rw [e]; split <;> simp
      · exact List.mem_cons_of_mem _ (List.mem_cons_of_mem _ e)
    · have h0 := h2 _ List.mem_cons_self
      rcases List.mem_cons.mp hy with rfl | hy
      · exact Int.le_trans (by split <;> omega) h0
      · rcases List.mem_cons.mp hy with rfl | hy
        · exact Int.le_trans (by split <;> omega) h0
        · exact h2 y (List.mem_cons_of_mem _ hy)
theorem fmin_spec : ∀ (r : List Int) (x : Int), r.foldl (fun a b => if b < a then b else a) x ∈ x :: r ∧ ∀ y ∈ x :: r, r.foldl (fun a b => if b < a then b else a) x ≤ y
  | [], x => by simp
  | z :: r, x => by
    obtain ⟨h1, h2⟩ := fmin_spec r (if z < x then z else x)
    simp only [List.foldl_cons]
    refine ⟨?_, fun y hy => ?_⟩
    · rcases List.mem_cons.mp h1 with e | e
      · rw [e]; split <;> simp
      · exact List.mem_cons_of_mem _ (List.mem_cons_of_mem _ e)
    · have h0 := h2 _ List.mem_cons_self
      rcases List.mem_cons.mp hy with rfl | hy
      · exact Int.le_trans h0 (by split <;> omega)
      · rcases List.mem_cons.mp hy with rfl | hy
        · exact Int.le_trans h0 (by split <;> omega)
        · exact h2 y (List.mem_cons_of_mem _ hy)
theorem maxL_spec {l : List Int} (h : l ≠ []) : maxL l ∈ l ∧ ∀ y ∈ l, y ≤ maxL l := by
  cases l with
  | nil => exact absurd rfl h
  | cons x r => exact fmax_spec r x
theorem minL_spec {l : List Int} (h : l ≠ []) : minL l ∈ l ∧ ∀ y ∈ l, minL l ≤ y := by
  cases l with
  | nil => exact absurd rfl h
  | cons x r => exact fmin_spec r x

section
variable {C : Cfg} {K : PySem.W.Frag} {X : Cx} {O0 O : List Addr} {H H' H1 : Hp} {σ : L2.St} {ρ : E}
variable {a b c e : Expr} {rest es : List Expr} {ta tb tc te : TE} {ma mb mc me : M} {p pos : Pos} {x : Str} {t : TA} {n : As}

/-! ### calls by values -/
abbrev FN := List (D × Fl) → Option (D × Fl)
def VC (C : Cfg) (r : List V → Hp → VK → Prop) (f : FN) : Prop := ∀ O0 O H H' vs rs rz, Co O0 O H → Co O0 O H' → Ex H H' → Ress C O0 O H H' vs rs → f rs = some rz →
  ∀ Q : VK, (∀ v H'', Ex H' H'' → Res C O0 O H H'' v rz → Q v H'') → r vs H' Q
theorem VC.or {r r' : List V → Hp → VK → Prop} {f f' : FN} (h : VC C r f) (h' : VC C r' f') : VC C (fun xs H Q => r xs H Q ∨ r' xs H Q) (fun x => (f x).or (f' x)) := by
  intro O0 O H H' vs rs rz c c' e r1 hf Q q
  replace hf : (f rs).or (f' rs) = some rz := hf
  cases ef : f rs with
  | some z => rw [ef] at hf; cases hf; exact .inl (h _ _ _ _ _ _ _ c c' e r1 ef Q q)
  | none => rw [ef] at hf; exact .inr (h' _ _ _ _ _ _ _ c c' e r1 hf Q q)
def mFn (f : FN) (n : As) : M := fun ρ => (n ρ).bind f
theorem snd_fn {r : List V → Hp → VK → Prop} {f : FN} (hv : VC C r f) (ha : SndA C t n) : Snd C (tCB r t) (mFn f n) := by
  intro O0 O H σ ρ rz s h Q q
  unfold mFn at h
  cases en : n ρ with
  | none => rw [en] at h; cases h
  | some rs =>
    rw [en] at h
    refine ha _ _ _ _ _ _ s en _ fun vs H1 e1 r1 => ?_
    exact hv _ _ _ _ _ _ _ s.co (s.mono e1).co e1 r1 h Q fun v H2 e2 r2 => q v H2 (e1.trans e2) r2
theorem de_callB {id : String} {r : List V → Hp → VK → Prop} {f : FN} (hc : CallR X (.builtin id) r) (hv : VC C r f) (hg : Gl X x) (hm : X.mg x = none) (hb : bootBuiltins x = some (.builtin id)) (ha : DA C X (e :: es) t n) (hn : x ≠ "__name__" := by decide) (hdb : (x == ("__debug__" : Str)) = false := by decide)
    (he : starEach (e :: es) X.env = (false, eval e X.env) :: starEach es X.env := by rfl) (hpl : (backTo pos (starEach es X.env)).any (·.1) = false := by rfl) : DE C X (.Call (.Name x p) (e :: es) [] pos) (tCB r t) (mFn f n) :=
  ⟨pe_callB hc hg hm hb ha.pa hn hdb he hpl, snd_fn hv ha.sd⟩
theorem de_callTy {T : String} {r : List V → Hp → VK → Prop} {f : FN} (hc : CallR X (.type T) r) (hv : VC C r f) (hg : Gl X x) (hm : X.mg x = none) (hb : bootBuiltins x = some (.type T)) (ha : DA C X (e :: es) t n) (hn : x ≠ "__name__" := by decide) (hdb : (x == ("__debug__" : Str)) = false := by decide)
    (he : starEach (e :: es) X.env = (false, eval e X.env) :: starEach es X.env := by rfl) (hpl : (backTo pos (starEach es X.env)).any (·.1) = false := by rfl) : DE C X (.Call (.Name x p) (e :: es) [] pos) (tCB r t) (mFn f n) :=
  ⟨pe_callTy hc hg hm hb ha.pa hn hdb he hpl, snd_fn hv ha.sd⟩
theorem ress1 {vs : List V} {r : D × Fl} (h : Ress C O0 O H H' vs [r]) : ∃ v, vs = [v] ∧ Res C O0 O H H' v r := by
  cases h with | cons h1 h2 => cases h2; exact ⟨_, rfl, h1⟩
theorem ress2 {vs : List V} {r r' : D × Fl} (h : Ress C O0 O H H' vs [r, r']) : ∃ v v', vs = [v, v'] ∧ Res C O0 O H H' v r ∧ Res C O0 O H H' v' r' := by
  cases h with
  | cons h1 h2 =>
    obtain ⟨v', rfl, h3⟩ := ress1 h2
    exact ⟨_, _, rfl, h1, h3⟩

def fLen : FN := fun rs => match rs with
  | [(.lst ds, _)] => some (.int ds.length, .pure)
  | [(.tup ds, _)] => some (.int ds.length, .pure)
  | [(.frz ns, _)] => some (.int ns.length, .pure)
  | _ => none
theorem vc_len (hC : C.K = K) : VC C (fun xs H Q => ∃ p ys, xs = [.ref p] ∧ (SqL K H p ys ∨ SqT K H p ys) ∧ Q (.int ys.length) H) fLen := by
  intro O0 O H H' vs rs rz c c' e r1 hf Q q
  unfold fLen at hf
  split at hf
  · cases hf
    obtain ⟨v, rfl, h⟩ := ress1 r1
    obtain ⟨p, xs, rfl, h1, h2⟩ := h.lstE
    exact ⟨p, xs, rfl, .inl (.inl (.inl h1)), by rw [h2.length]; exact q _ _ (Evl.Ex.refl _) .int⟩
  · cases hf
    obtain ⟨v, rfl, h⟩ := ress1 r1
    obtain ⟨p, xs, rfl, h1, h2⟩ := h.tupE
    exact ⟨p, xs, rfl, .inr h1.sq, by rw [h2.length]; exact q _ _ (Evl.Ex.refl _) .int⟩
  · cases hf
    obtain ⟨v, rfl, h⟩ := ress1 r1
    cases h with
    | pure w =>
      cases w with
      | @frz p _ h1 => exact ⟨p, _, rfl, .inl (by have h2 := (h1.mono hid_ex).sq; rw [hC] at h2; exact h2), by rw [List.length_map]; exact q _ _ (Evl.Ex.refl _) .int⟩
  · cases hf
theorem de_len (hK : X.K = K) (hC : C.K = K) (hg : Gl X "len") (hm : X.mg "len" = none) (ha : DA C X [e] t n) (hs : starEach [e] X.env = (false, eval e X.env) :: starEach [] X.env := by rfl) (hpl : (backTo pos (starEach [] X.env)).any (·.1) = false := by rfl) :
    DE C X (.Call (.Name "len" p) [e] [] pos) (tCB (fun xs H Q => ∃ p ys, xs = [.ref p] ∧ (SqL K H p ys ∨ SqT K H p ys) ∧ Q (.int ys.length) H) t) (mFn fLen n) := by
  subst hK; exact de_callB call_len_seq (vc_len hC) hg hm boot_len ha (by decide) (by decide) hs hpl
def fList : FN := fun rs => match rs with
  | [(.lst ds, _)] => some (.lst ds, .fresh)
  | [(.tup ds, _)] => some (.lst ds, .fresh)
  | [(.frz ns, _)] => some (.lst (ns.map .int), .fresh)
  | _ => none
theorem vc_list (hC : C.K = K) : VC C (fun xs H Q => ∃ p ys, xs = [.ref p] ∧ (SqL K H p ys ∨ SqT K H p ys) ∧ ∀ l, H l = none → Q (.ref l) (upd H l (.lst ys))) fList := by
  intro O0 O H H' vs rs rz c c' e r1 hf Q q
  unfold fList at hf
  split at hf
  · cases hf
    obtain ⟨v, rfl, h⟩ := ress1 r1
    obtain ⟨p, xs, rfl, h1, h2⟩ := h.lstE
    exact ⟨p, xs, rfl, .inl (.inl (.inl h1)), fun l hl => q _ _ (Evl.Ex.new hl) (res_lst e hl h2)⟩
  · cases hf
    obtain ⟨v, rfl, h⟩ := ress1 r1
    obtain ⟨p, xs, rfl, h1, h2⟩ := h.tupE
    exact ⟨p, xs, rfl, .inr h1.sq, fun l hl => q _ _ (Evl.Ex.new hl) (res_lst e hl h2)⟩
  · cases hf
    obtain ⟨v, rfl, h⟩ := ress1 r1
    cases h with
    | pure w =>
      cases w with
      | @frz p _ h1 => exact ⟨p, _, rfl, .inl (by have h2 := (h1.mono hid_ex).sq; rw [hC] at h2; exact h2), fun l hl => q _ _ (Evl.Ex.new hl) (res_lst e hl (reps_ints _))⟩
  · cases hf
theorem de_list (hK : X.K = K) (hC : C.K = K) (hg : Gl X "list") (hm : X.mg "list" = none) (ha : DA C X [e] t n) (hs : starEach [e] X.env = (false, eval e X.env) :: starEach [] X.env := by rfl) (hpl : (backTo pos (starEach [] X.env)).any (·.1) = false := by rfl) :
    DE C X (.Call (.Name "list" p) [e] [] pos) (tCB (fun xs H Q => ∃ p ys, xs = [.ref p] ∧ (SqL K H p ys ∨ SqT K H p ys) ∧ ∀ l, H l = none → Q (.ref l) (upd H l (.lst ys))) t) (mFn fList n) := by
  subst hK; exact de_callTy call_list_of (vc_list hC) hg hm (by decide +kernel) ha (by decide) (by decide) hs hpl
def fTuple : FN := fun rs => match rs with
  | [(.lst ds, _)] => some (.tup ds, .pure)
  | [(.tup ds, _)] => some (.tup ds, .pure)
  | _ => none
theorem vc_tuple : VC C (rTupN K) fTuple := by
  intro O0 O H H' vs rs rz c c' e r1 hf Q q
  unfold fTuple at hf
  split at hf
  · cases hf
    obtain ⟨v, rfl, h⟩ := ress1 r1
    obtain ⟨p, xs, rfl, h1, h2⟩ := h.lstE
    exact ⟨p, xs, rfl, .inl ⟨.inl (.inl h1), fun l ob hl hd => q _ _ (Evl.Ex.new hl) (res_tup c' hl hd h2)⟩⟩
  · cases hf
    obtain ⟨v, rfl, h⟩ := ress1 r1
    obtain ⟨p, xs, rfl, h1, h2⟩ := h.tupE
    refine ⟨p, xs, rfl, .inr ⟨h1.sq, q _ _ (Evl.Ex.refl _) ?_⟩⟩
    cases h with | pure w => exact .pure w
  · cases hf
theorem de_tuple (hK : X.K = K) (hg : Gl X "tuple") (hm : X.mg "tuple" = none) (ha : DA C X [e] t n) (hs : starEach [e] X.env = (false, eval e X.env) :: starEach [] X.env := by rfl) (hpl : (backTo pos (starEach [] X.env)).any (·.1) = false := by rfl) :
    DE C X (.Call (.Name "tuple" p) [e] [] pos) (tCB (rTupN K) t) (mFn fTuple n) := by
  subst hK; exact de_callTy callN_tuple vc_tuple hg hm (by decide +kernel) ha (by decide) (by decide) hs hpl
def fMax2 : FN := fun rs => match rs with
  | [(.int i, _), (.int j, _)] => some (.int (if j > i then j else i), .pure)
  | _ => none
def fMin2 : FN := fun rs => match rs with
  | [(.int i, _), (.int j, _)] => some (.int (if j < i then j else i), .pure)
  | _ => none
theorem vc_max2 : VC C (fun xs H Q => ∃ i j, xs = [.int i, .int j] ∧ Q (.int (if j > i then j else i)) H) fMax2 := by
  intro O0 O H H' vs rs rz c c' e r1 hf Q q
  unfold fMax2 at hf
  split at hf
  · cases hf
    obtain ⟨v, v', rfl, h, h'⟩ := ress2 r1
    exact ⟨_, _, by rw [h.intE, h'.intE], q _ _ (Evl.Ex.refl _) .int⟩
  · cases hf
theorem vc_min2 : VC C (fun xs H Q => ∃ i j, xs = [.int i, .int j] ∧ Q (.int (if j < i then j else i)) H) fMin2 := by
  intro O0 O H H' vs rs rz c c' e r1 hf Q q
  unfold fMin2 at hf
  split at hf
  · cases hf
    obtain ⟨v, v', rfl, h, h'⟩ := ress2 r1
    exact ⟨_, _, by rw [h.intE, h'.intE], q _ _ (Evl.Ex.refl _) .int⟩
  · cases hf
theorem de_max2 (hc : X.calm = true) (hg : Gl X "max") (hm : X.mg "max" = none) (ha : DA C X [a, b] t n) (he : starEach [a, b] X.env = (false, eval a X.env) :: starEach [b] X.env := by rfl) (hpl : (backTo pos (starEach [b] X.env)).any (·.1) = false := by rfl) :
    DE C X (.Call (.Name "max" p) [a, b] [] pos) (tCB (fun xs H Q => ∃ i j, xs = [.int i, .int j] ∧ Q (.int (if j > i then j else i)) H) t) (mFn fMax2 n) := de_callB (call_max2 hc) vc_max2 hg hm (by decide +kernel) ha (by decide) (by decide) he hpl
theorem de_min2 (hc : X.calm = true) (hg : Gl X "min") (hm : X.mg "min" = none) (ha : DA C X [a, b] t n) (he : starEach [a, b] X.env = (false, eval a X.env) :: starEach [b] X.env := by rfl) (hpl : (backTo pos (starEach [b] X.env)).any (·.1) = false := by rfl) :
    DE C X (.Call (.Name "min" p) [a, b] [] pos) (tCB (fun xs H Q => ∃ i j, xs = [.int i, .int j] ∧ Q (.int (if j < i then j else i)) H) t) (mFn fMin2 n) := de_callB (call_min2 hc) vc_min2 hg hm (by decide +kernel) ha (by decide) (by decide) he hpl
/-! all, any of a list of bools -/
def fAll : FN := fun rs => match rs with
  | [(.lst ds, _)] => (getBls ds).map fun bs => (.bl (bs.all id), .pure)
  | _ => none
def fAny : FN := fun rs => match rs with
  | [(.lst ds, _)] => (getBls ds).map fun bs => (.bl (bs.any id), .pure)
  | _ => none
theorem vc_all : VC C (rAll K) fAll := by
  intro O0 O H H' vs rs rz c c' e r1 hf Q q
  unfold fAll at hf
  split at hf
  · rename_i ds _
    cases eb : getBls ds with
    | none => rw [eb] at hf; cases hf
    | some bs =>
      rw [eb] at hf; cases hf
      obtain ⟨v, rfl, h⟩ := ress1 r1
      obtain ⟨p, xs, rfl, h1, h2⟩ := h.lstE
      have := bls_of eb h2; subst this
      exact ⟨p, bs, rfl, .inl (.inl h1), q _ _ (Evl.Ex.refl _) .bl⟩
  · cases hf
theorem vc_any : VC C (rAny K) fAny := by
  intro O0 O H H' vs rs rz c c' e r1 hf Q q
  unfold fAny at hf
  split at hf
  · rename_i ds _
    cases eb : getBls ds with
    | none => rw [eb] at hf; cases hf
    | some bs =>
      rw [eb] at hf; cases hf
      obtain ⟨v, rfl, h⟩ := ress1 r1
      obtain ⟨p, xs, rfl, h1, h2⟩ := h.lstE
      have := bls_of eb h2; subst this
      exact ⟨p, bs, rfl, .inl (.inl h1), q _ _ (Evl.Ex.refl _) .bl⟩
  · cases hf
theorem de_all (hK : X.K = K) (hc : X.calm = true) (hg : Gl X "all") (hm : X.mg "all" = none) (ha : DA C X [e] t n) (hs : starEach [e] X.env = (false, eval e X.env) :: starEach [] X.env := by rfl) (hpl : (backTo pos (starEach [] X.env)).any (·.1) = false := by rfl) :
    DE C X (.Call (.Name "all" p) [e] [] pos) (tCB (rAll K) t) (mFn fAll n) := by subst hK; exact de_callB (cr_all hc) vc_all hg hm (by decide +kernel) ha (by decide) (by decide) hs hpl
theorem de_any (hK : X.K = K) (hc : X.calm = true) (hg : Gl X "any") (hm : X.mg "any" = none) (ha : DA C X [e] t n) (hs : starEach [e] X.env = (false, eval e X.env) :: starEach [] X.env := by rfl) (hpl : (backTo pos (starEach [] X.env)).any (·.1) = false := by rfl) :
    DE C X (.Call (.Name "any" p) [e] [] pos) (tCB (rAny K) t) (mFn fAny n) := by subst hK; exact de_callB (cr_any hc) vc_any hg hm (by decide +kernel) ha (by decide) (by decide) hs hpl
/-! sorted, max, min of a list of ints -/
def fSortL : FN := fun rs => match rs with
  | [(.lst ds, _)] => (getInts ds).map fun ns => (.lst ((isort ns).map .int), .fresh)
  | _ => none
theorem vc_sortL : VC C (rSortedI K) fSortL := by
  intro O0 O H H' vs rs rz c c' e r1 hf Q q
  unfold fSortL at hf
  split at hf
  · rename_i ds _
    cases eb : getInts ds with
    | none => rw [eb] at hf; cases hf
    | some ns =>
      rw [eb] at hf; cases hf
      obtain ⟨v, rfl, h⟩ := ress1 r1
      obtain ⟨p, xs, rfl, h1, h2⟩ := h.lstE
      have := ints_of eb h2; subst this
      refine ⟨p, ns, rfl, .inl (.inl h1), fun ns' l hp hs hl => ?_⟩
      rw [isort_eq hp hs]
      exact q _ _ (Evl.Ex.new hl) (res_lst e hl (reps_ints _))
  · cases hf
def fMaxL : FN := fun rs => match rs with
  | [(.lst ds, _)] => (getInts ds).bind fun ns => if ns = [] then none else some (.int (maxL ns), .pure)
  | _ => none
def fMinL : FN := fun rs => match rs with
  | [(.lst ds, _)] => (getInts ds).bind fun ns => if ns = [] then none else some (.int (minL ns), .pure)
  | _ => none
theorem vc_maxL : VC C (rMax K) fMaxL := by
  intro O0 O H H' vs rs rz c c' e r1 hf Q q
  unfold fMaxL at hf
  split at hf
  · rename_i ds _
    cases eb : getInts ds with
    | none => rw [eb] at hf; cases hf
    | some ns =>
      rw [eb] at hf
      replace hf : (if ns = [] then none else some ((.int (maxL ns), .pure) : D × Fl)) = some rz := hf
      split at hf
      · cases hf
      · rename_i hne
        cases hf
        obtain ⟨v, rfl, h⟩ := ress1 r1
        obtain ⟨p, xs, rfl, h1, h2⟩ := h.lstE
        have := ints_of eb h2; subst this
        refine ⟨p, ns, rfl, .inl (.inl h1), List.length_pos_iff.mpr hne, fun m hm hall => ?_⟩
        obtain ⟨g1, g2⟩ := maxL_spec hne
        have : m = maxL ns := Int.le_antisymm (g2 m hm) (hall _ g1)
        subst this
        exact q _ _ (Evl.Ex.refl _) .int
  · cases hf
theorem vc_minL : VC C (rMin K) fMinL := by
  intro O0 O H H' vs rs rz c c' e r1 hf Q q
  unfold fMinL at hf
  split at hf
  · rename_i ds _
    cases eb : getInts ds with
    | none => rw [eb] at hf; cases hf
    | some ns =>
      rw [eb] at hf
      replace hf : (if ns = [] then none else some ((.int (minL ns), .pure) : D × Fl)) = some rz := hf
      split at hf
      · cases hf
      · rename_i hne
        cases hf
        obtain ⟨v, rfl, h⟩ := ress1 r1
        obtain ⟨p, xs, rfl, h1, h2⟩ := h.lstE
        have := ints_of eb h2; subst this
        refine ⟨p, ns, rfl, .inl (.inl h1), List.length_pos_iff.mpr hne, fun m hm hall => ?_⟩
        obtain ⟨g1, g2⟩ := minL_spec hne
        have : m = minL ns := Int.le_antisymm (hall _ g1) (g2 m hm)
        subst this
        exact q _ _ (Evl.Ex.refl _) .int
  · cases hf

/-! ### isinstance, fields -/
def tyName : D → Option String
  | .non => some "NoneType" | .bl _ => some "bool" | .int _ => some "int" | .str _ => some "str" | .tup _ => some "tuple" | .lst _ => some "list" | .frz _ => none | .net _ _ => none | .opq _ => none | .tmp _ => none | .hol _ => none | .dic _ _ => none
def isT (T : String) (d : D) : Option Bool := (tyName d).bind fun s => kitB s T
def mIsT (T : String) (m : M) : M := fun ρ => (m ρ).bind fun r => (isT T r.1).map fun k => (.bl k, .pure)
theorem ty_of {d : D} {v : V} {s : String} (h : tyName d = some s) (r : Rep C H v d) : TyX K H v (.type s) := by
  cases d <;> cases h <;> cases r
  · exact .base .non
  · exact .base (.bl _)
  · exact .base (.int _)
  · exact .base (.str _)
  · rename_i h1 _; obtain ⟨_, h1, _⟩ := h1; exact .fTuple h1
  · rename_i h1 _; exact .base (.lst h1)
theorem de_isT {T : String} {tn : Str} {p2 : Pos} (hK : X.K = K) (hg : Gl X "isinstance") (hm : X.mg "isinstance" = none) (hg2 : Gl X tn) (hm2 : X.mg tn = none) (hb2 : bootBuiltins tn = some (.type T)) (ha : DE C X a ta ma)
    (hn : tn ≠ "__name__" := by decide) (hd : (tn == ("__debug__" : Str)) = false := by decide)
    (hs : starEach [a, .Name tn p2] X.env = (false, eval a X.env) :: starEach [.Name tn p2] X.env := by rfl) (hs2 : starEach [.Name tn p2] X.env = (false, eval (.Name tn p2) X.env) :: starEach [] X.env := by rfl)
    (hpl : (backTo pos (starEach [.Name tn p2] X.env)).any (·.1) = false := by rfl) :
    DE C X (.Call (.Name "isinstance" p) [a, .Name tn p2] [] pos) (tCB (rIsi K) (tCons ta (tCons (tC (.ty T)) tNil))) (mIsT T ma) := by
  subst hK
  refine ⟨pe_callB call_isi hg hm (by decide +kernel) (pa_cons ha.pe (pa_cons (pe_bltn (v := .ty T) hg2 hm2 hb2 rfl hn hd) pa_nil hs2) hs) (by decide) (by decide) hs hpl, fun O0 O H σ ρ r s h1 Q q => ?_⟩
  unfold mIsT at h1
  cases ea : ma ρ with
  | none => rw [ea] at h1; cases h1
  | some rx =>
    rw [ea] at h1
    cases ek : isT T rx.1 with
    | none =>
      replace h1 : (isT T rx.1).map (fun k => ((.bl k, .pure) : D × Fl)) = some r := h1
      rw [ek] at h1; cases h1
    | some k =>
      replace h1 : (isT T rx.1).map (fun k => ((.bl k, .pure) : D × Fl)) = some r := h1
      rw [ek] at h1; cases h1
      unfold isT at ek
      cases en : tyName rx.1 with
      | none => rw [en] at ek; cases ek
      | some sn =>
        rw [en] at ek
        refine ha.sd _ _ _ _ _ _ s ea _ fun v H1 e1 r1 => ?_
        exact ⟨v, .ty T, .type sn, .type T, k, rfl, .ty T, ty_of en r1.full, kit_ty ek, q _ _ e1 .bl⟩
/-- what of the class Network is asked -/
structure NetC (K : PySem.W.Frag) (C : Addr) : Prop where
  cl : Cls K C
  nw : NoAttr K C "wires"
  nc : NoAttr K C "comparers"
  ha : PySem.W.findIn K (.ref C) "__class__" = some (some (.builtin "object.__class__"))
  hn : PySem.W.specialIn K (.builtin "object.__class__") "__get__" = some (some (.builtin "getset_descriptor.__get__"))
  ht : PySem.W.takesIn K (.builtin "object.__class__") = some true
  hm : PySem.W.mroIn K C (.type "object") = some true
  hk : PySem.W.kitOne K (.ref C) (.ref C) = some true
def mIsNet (m : M) : M := fun ρ => (m ρ).bind fun r => match r.1 with | .net _ _ => some (.bl true, .pure) | _ => none
theorem Res.netE {v : V} {w : Int} {c : D} {fl : Fl} (h : Res C O0 O H H' v (.net w c, fl)) : ∃ a dx x, v = .ref a ∧ H' a = some (.ins C.net dx [("wires", .int w), ("comparers", x)]) ∧ Rep C (hid H' O) x c := by
  cases h with
  | pure q => cases q with | net h1 h2 => exact ⟨_, _, _, rfl, hid_ex _ _ h1, h2⟩
theorem de_isNet {p2 : Pos} (N : NetC K C.net) (hK : X.K = K) (hg : Gl X "isinstance") (hm : X.mg "isinstance" = none) (hg2 : Gl X "Network") (hm2 : X.mg "Network" = some (.ref C.net)) (ha : DE C X a ta ma)
    (hs : starEach [a, .Name "Network" p2] X.env = (false, eval a X.env) :: starEach [.Name "Network" p2] X.env := by rfl) (hs2 : starEach [.Name "Network" p2] X.env = (false, eval (.Name "Network" p2) X.env) :: starEach [] X.env := by rfl)
    (hpl : (backTo pos (starEach [.Name "Network" p2] X.env)).any (·.1) = false := by rfl) :
    DE C X (.Call (.Name "isinstance" p) [a, .Name "Network" p2] [] pos) (tCB (rIsi K) (tCons ta (tCons (tC (.ref C.net)) tNil))) (mIsNet ma) := by
  subst hK
  refine ⟨pe_callB call_isi hg hm (by decide +kernel) (pa_cons ha.pe (pa_cons (pe_glob hg2 hm2 rfl (by decide)) pa_nil hs2) hs) (by decide) (by decide) hs hpl, fun O0 O H σ ρ r s h1 Q q => ?_⟩
  unfold mIsNet at h1
  cases ea : ma ρ with
  | none => rw [ea] at h1; cases h1
  | some rx =>
    rw [ea] at h1
    obtain ⟨d, fl⟩ := rx
    cases d with
    | net w c =>
      cases h1
      refine ha.sd _ _ _ _ _ _ s ea _ fun v H1 e1 r1 => ?_
      obtain ⟨a', dx, x, rfl, h2, _⟩ := r1.netE
      exact ⟨.ref a', .ref C.net, .ref C.net, .ref C.net, true, rfl, .own C.net, .base (.ins h2 N.cl N.ha N.hn N.ht N.hm), N.hk, q _ _ e1 .bl⟩
    | _ => cases h1
theorem look_comps {w : Int} {x : V} : List.lookup ("comparers" : Str) [(("wires" : Str), V.int w), (("comparers" : Str), x)] = some x := by
  have e : (("comparers" : Str) == ("wires" : Str)) = false := by decide +kernel
  rw [List.lookup_cons, e, List.lookup_cons, beq_self_eq_true]
def mWires (m : M) : M := fun ρ => (m ρ).bind fun r => match r.1 with | .net w _ => some (.int w, .pure) | _ => none
def mComps (m : M) : M := fun ρ => (m ρ).bind fun r => match r.1 with | .net _ c => some (c, .pure) | _ => none
theorem de_wires (N : NetC K C.net) (hK : X.K = K) (ha : DE C X a ta ma) (hb : attributeBase a "wires" X.env (eval a X.env) = eval a X.env := by rfl) : DE C X (.Attribute a "wires" pos) (tFld K ta "wires") (mWires ma) := by
  subst hK
  refine ⟨pe_fld ha.pe hb, fun O0 O H σ ρ r s h1 Q q => ?_⟩
  unfold mWires at h1
  cases ea : ma ρ with
  | none => rw [ea] at h1; cases h1
  | some rx =>
    rw [ea] at h1
    obtain ⟨d, fl⟩ := rx
    cases d with
    | net w c =>
      cases h1
      refine ha.sd _ _ _ _ _ _ s ea _ fun v H1 e1 r1 => ?_
      obtain ⟨a', dx, x, rfl, h2, _⟩ := r1.netE
      exact ⟨a', C.net, dx, _, _, rfl, h2, N.cl, N.nw, rfl, q _ _ e1 .int⟩
    | _ => cases h1
theorem de_comps (N : NetC K C.net) (hK : X.K = K) (ha : DE C X a ta ma) (hb : attributeBase a "comparers" X.env (eval a X.env) = eval a X.env := by rfl) : DE C X (.Attribute a "comparers" pos) (tFld K ta "comparers") (mComps ma) := by
  subst hK
  refine ⟨pe_fld ha.pe hb, fun O0 O H σ ρ r s h1 Q q => ?_⟩
  unfold mComps at h1
  cases ea : ma ρ with
  | none => rw [ea] at h1; cases h1
  | some rx =>
    rw [ea] at h1
    obtain ⟨d, fl⟩ := rx
    cases d with
    | net w c =>
      cases h1
      refine ha.sd _ _ _ _ _ _ s ea _ fun v H1 e1 r1 => ?_
      obtain ⟨a', dx, x, rfl, h2, h3⟩ := r1.netE
      exact ⟨a', C.net, dx, _, _, rfl, h2, N.cl, N.nc, look_comps, q _ _ e1 (.pure h3)⟩
    | _ => cases h1
end
theorem isT_int_int {i : Int} : isT "int" (.int i) = some true := by show kitB "int" "int" = some true; decide +kernel
theorem isT_int_bl {i : Bool} : isT "int" (.bl i) = some true := by show kitB "bool" "int" = some true; decide +kernel
theorem isT_bool_int {i : Int} : isT "bool" (.int i) = some false := by show kitB "int" "bool" = some false; decide +kernel
theorem isT_bool_bl {i : Bool} : isT "bool" (.bl i) = some true := by show kitB "bool" "bool" = some true; decide +kernel
theorem isT_tuple_tup {l : List D} : isT "tuple" (.tup l) = some true := by show kitB "tuple" "tuple" = some true; decide +kernel
theorem isT_list_lst {l : List D} : isT "list" (.lst l) = some true := by show kitB "list" "list" = some true; decide +kernel
theorem isT_tuple_lst {l : List D} : isT "tuple" (.lst l) = some false := by show kitB "list" "tuple" = some false; decide +kernel
theorem isT_tuple_non : isT "tuple" .non = some false := by show kitB "NoneType" "tuple" = some false; decide +kernel
theorem isT_tuple_int {i : Int} : isT "tuple" (.int i) = some false := by show kitB "int" "tuple" = some false; decide +kernel
end Dt

set_option maxRecDepth 100000
namespace Dt
open PySem PySem.Spec PyProof.Rows L2
open Evl (Ex)
section
variable {C : Cfg} {K : PySem.W.Frag} {X : Cx} {O0 O : List Addr} {H H' H1 : Hp} {σ : L2.St} {ρ : E}

/-! ### what is walked -/
/-- from H1 on (O hidden there): the iterator gives just these; w: only while nothing of H1 changes -/
def ItOk (C : Cfg) (w : Bool) (O : List Addr) (H1 : Hp) (J : It) (ds : List D) : Prop := ∀ H2 O2, (w = true → Ex H1 H2) → Ex (hid H1 O) (hid H2 O2) → (∀ a ∈ O2, H2 a ≠ none) →
  ∀ i : Nat, (∀ d, ds[i]? = some d → J.go i H2 ∧ ∀ x H3, J.yld i H2 x H3 → Ex H2 H3 ∧ Rep C (hid H3 O2) x d) ∧ (ds.length ≤ i → J.stop i H2)
abbrev I := E → Option (List D)
structure DI (C : Cfg) (w : Bool) (X : Cx) (tg e : Expr) (wi : TI) (m : I) : Prop where
  pi : PI X tg e wi
  sd : ∀ O0 O H σ ρ ds, SV C O0 O H σ ρ → m ρ = some ds → ∀ R : It → Hp → Prop, (∀ J H1, Ex H H1 → ItOk C w O H1 J ds → R J H1) → wi σ H R
theorem itl_ok {w : Bool} {a : Addr} {xs : List V} {ds : List D} (h1 : H1 a = some (.lst xs)) (hw : w = false → a ∉ O) (h2 : Reps C (hid H1 O) xs ds) : ItOk C w O H1 (Itl K a) ds := by
  intro H2 O2 hx e dm i
  have ha : H2 a = some (.lst xs) := by
    cases w with
    | true => exact hx rfl a _ h1
    | false => exact hid_ex _ _ (e a _ (by rw [hid_out (hw rfl)]; exact h1))
  refine ⟨fun d hd => ?_, fun hl => ?_⟩
  · obtain ⟨v, e1, r⟩ := h2.get hd
    refine ⟨⟨xs, v, .inl (.inl ha), e1⟩, fun x H3 y => ?_⟩
    obtain ⟨rfl, y⟩ := y
    have := y xs (.inl (.inl ha))
    rw [e1] at this; cases this
    exact ⟨Evl.Ex.refl _, r.mono e⟩
  · exact ⟨xs, .inl (.inl ha), by rw [h2.length]; exact hl⟩
theorem itt_ok {w : Bool} {a : Addr} {xs : List V} {ds : List D} (h1 : TupN (hid H1 O) a xs) (h2 : Reps C (hid H1 O) xs ds) : ItOk C w O H1 (Itt K a) ds := by
  intro H2 O2 hx e dm i
  have ha : TupN H2 a xs := (h1.mono e).mono hid_ex
  refine ⟨fun d hd => ?_, fun hl => ?_⟩
  · obtain ⟨v, e1, r⟩ := h2.get hd
    refine ⟨⟨xs, v, ha.sq, e1⟩, fun x H3 y => ?_⟩
    obtain ⟨rfl, y⟩ := y
    have := y xs ha.sq
    rw [e1] at this; cases this
    exact ⟨Evl.Ex.refl _, r.mono e⟩
  · exact ⟨xs, ha.sq, by rw [h2.length]; exact hl⟩
theorem Res.tupH {v : V} {ds : List D} {fl : Fl} (h : Res C O0 O H H' v (.tup ds, fl)) : ∃ a xs, v = .ref a ∧ TupN (hid H' O) a xs ∧ Reps C (hid H' O) xs ds := by
  cases h with
  | pure q => cases q with | tup h1 h2 => exact ⟨_, _, rfl, h1, h2⟩
/-- a list or a tuple -/
def iSeq (K : PySem.W.Frag) (tl : TE) : TI := fun σ H R => tl σ H fun x H1 => ∃ a, x = .ref a ∧ (((∃ xs, SqL K H1 a xs) ∧ R (Itl K a) H1) ∨ ((∃ xs, SqT K H1 a xs) ∧ R (Itt K a) H1))
theorem pi_seq {tg l : Expr} {tl : TE} (hl : PE X l tl) : PI X tg l (iSeq X.K tl) := by
  refine ⟨fun pins s σ H R I h => ?_⟩
  refine thn (hl.run pins s σ H _ I h) fun v s1 ⟨x, H1, I1, r1, q1⟩ => ?_
  obtain ⟨a, e, q⟩ := q1
  subst e
  cases r1
  rcases q with ⟨⟨xs, hq⟩, q⟩ | ⟨⟨xs, hq⟩, q⟩
  · obtain ⟨its, rv, p, hz⟩ := I1.list hq
    refine wpAny_pyIter_list p.isList ?_
    refine ⟨s1.heap.objs.size, [s1.heap.objs.size], _, _, H1, rfl, I1.kept (t' := s1.toks) fun b o e => Heap.get?_push_of_some _ e, turn_list a _, ⟨_, Heap.get?_push_size _ rfl, rfl, rfl⟩, fun b hb => ?_, q⟩
    have e : b = s1.heap.objs.size := by simpa using hb
    subst e
    exact I1.fpOk (Nat.le_refl _) (I1.hok.fresh (Nat.le_refl _))
  · obtain ⟨its, rv, p, hz⟩ := I1.tuple hq
    refine wpAny_pyIter_tuple (show s1.heap.IsTuple a its.toArray from p) ?_
    refine ⟨s1.heap.objs.size, [s1.heap.objs.size], _, _, H1, rfl, I1.kept (t' := s1.toks) fun b o e => Heap.get?_push_of_some _ e, turn_tuple a _, ⟨_, Heap.get?_push_size _ rfl, rfl, rfl⟩, fun b hb => ?_, q⟩
    have e : b = s1.heap.objs.size := by simpa using hb
    subst e
    exact I1.fpOk (Nat.le_refl _) (I1.hok.fresh (Nat.le_refl _))
def iS (w : Bool) (m : M) : I := fun ρ => (m ρ).bind fun r => match r.1 with
  | .lst ds => if w || decide (r.2 ≠ .bor) then some ds else none
  | .tup ds => some ds
  | _ => none
theorem di_seq {w : Bool} {tg l : Expr} {tl : TE} {ml : M} (hK : X.K = K) (hl : DE C X l tl ml) : DI C w X tg l (iSeq K tl) (iS w ml) := by
  subst hK
  refine ⟨pi_seq hl.pe, fun O0 O H σ ρ ds s h R q => ?_⟩
  unfold iS at h
  cases el : ml ρ with
  | none => rw [el] at h; cases h
  | some rx =>
    rw [el] at h
    obtain ⟨d, fl⟩ := rx
    refine hl.sd _ _ _ _ _ _ s el _ fun v H1 e r => ?_
    cases d with
    | lst ds' =>
      replace h : (if w || decide (fl ≠ .bor) then some ds' else none) = some ds := h
      split at h
      · rename_i hk
        cases h
        obtain ⟨a, xs, rfl, h1, h2⟩ := r.lstE
        refine ⟨a, rfl, .inl ⟨⟨xs, .inl (.inl h1)⟩, q _ _ e (itl_ok h1 (fun hw => ?_) h2)⟩⟩
        subst hw
        simp only [Bool.false_or, decide_eq_true_eq] at hk
        cases r with
        | pure w => cases w with
          | lst g _ => intro z; unfold hid at g; rw [if_pos z] at g; cases g
        | fresh g _ _ => exact fun z => s.dom _ z g
        | bor _ _ _ _ => exact absurd rfl hk
      · cases h
    | tup ds' =>
      cases h
      obtain ⟨a, xs, rfl, h1, h2⟩ := r.tupH
      exact ⟨a, rfl, .inr ⟨⟨xs, (h1.mono hid_ex).sq⟩, q _ _ e (itt_ok h1 h2)⟩⟩
    | _ => cases h
/-! ranges -/
def rngD (lo : Int) (n : Nat) : List D := (List.range n).map fun k : Nat => D.int (lo + (k : Int))
theorem itr_ok {w : Bool} {lo : Int} {n : Nat} : ItOk C w O H1 (Itr lo n) (rngD lo n) := by
  intro H2 O2 hx e dm i
  unfold rngD
  refine ⟨fun d hd => ?_, fun hl => ?_⟩
  · rw [List.getElem?_map] at hd
    cases hr : (List.range n)[i]? with
    | none => rw [hr] at hd; cases hd
    | some k =>
      rw [hr] at hd
      obtain ⟨hlt, ek⟩ := List.getElem?_eq_some_iff.mp hr
      simp only [List.getElem_range] at ek
      subst ek
      cases hd
      simp only [List.length_range] at hlt
      refine ⟨hlt, fun x H3 y => ?_⟩
      obtain ⟨rfl, rfl⟩ := y
      exact ⟨Evl.Ex.refl _, .int _⟩
  · rw [List.length_map, List.length_range] at hl
    exact hl
theorem itc_ok {w : Bool} {lo c : Int} {n : Nat} : ItOk C w O H1 (Itc lo c n) ((List.range n).map fun k : Nat => D.int (lo + k * c)) := by
  intro H2 O2 hx e dm i
  refine ⟨fun d hd => ?_, fun hl => ?_⟩
  · rw [List.getElem?_map] at hd
    cases hr : (List.range n)[i]? with
    | none => rw [hr] at hd; cases hd
    | some k =>
      rw [hr] at hd
      obtain ⟨hlt, ek⟩ := List.getElem?_eq_some_iff.mp hr
      simp only [List.getElem_range] at ek
      subst ek
      cases hd
      simp only [List.length_range] at hlt
      refine ⟨hlt, fun x H3 y => ?_⟩
      obtain ⟨rfl, rfl⟩ := y
      exact ⟨Evl.Ex.refl _, .int _⟩
  · rw [List.length_map, List.length_range] at hl
    exact hl
def iR1f : List (D × Fl) → Option (List D) := fun rs => match rs with
  | [(.int j, _)] => if -(2 ^ 62) ≤ j ∧ j < 2 ^ 62 then some (rngD 0 j.toNat) else none
  | _ => none
def iR1 (n : As) : I := fun ρ => (n ρ).bind iR1f
def iR2f : List (D × Fl) → Option (List D) := fun rs => match rs with
  | [(.int i, _), (.int j, _)] => if -(2 ^ 62) ≤ i ∧ i < 2 ^ 62 ∧ -(2 ^ 62) ≤ j ∧ j < 2 ^ 62 then some (rngD i (j - i).toNat) else none
  | _ => none
def iR2 (n : As) : I := fun ρ => (n ρ).bind iR2f
/-- down by ones -/
def iR3f : List (D × Fl) → Option (List D) := fun rs => match rs with
  | [(.int i, _), (.int j, _), (.int c, _)] => if c = -1 ∧ -(2 ^ 62) ≤ i ∧ i < 2 ^ 62 ∧ -(2 ^ 62) ≤ j ∧ j < 2 ^ 62 then some ((List.range (i - j).toNat).map fun k : Nat => D.int (i + k * (-1))) else none
  | _ => none
def iR3 (n : As) : I := fun ρ => (n ρ).bind iR3f
theorem di_r1 {w : Bool} {tg a : Expr} {ta : TA} {n : As} {p pos : Pos} (hg : Gl X "range") (hm : X.mg "range" = none) (ha : DA C X [a] ta n) (hs : starEach [a] X.env = [(false, eval a X.env)] := by rfl) : DI C w X tg (.Call (.Name "range" p) [a] [] pos) (iRng1 ta) (iR1 n) := by
  refine ⟨pi_range1 hg hm ha.pa hs, fun O0 O H σ ρ ds s h R q => ?_⟩
  unfold iR1 at h
  cases en : n ρ with
  | none => rw [en] at h; cases h
  | some rs =>
    rw [en] at h
    replace h : iR1f rs = some ds := h
    unfold iR1f at h
    split at h
    · split at h
      · rename_i hk
        cases h
        refine ha.sd _ _ _ _ _ _ s en _ fun vs H1 e r => ?_
        obtain ⟨v, rfl, r1⟩ := ress1 r
        cases r1.intE
        exact ⟨_, rfl, hk.1, hk.2, q _ _ e itr_ok⟩
      · cases h
    · cases h
theorem di_r2 {w : Bool} {tg a b : Expr} {ta : TA} {n : As} {p pos : Pos} (hg : Gl X "range") (hm : X.mg "range" = none) (ha : DA C X [a, b] ta n) (hs : starEach [a, b] X.env = [(false, eval a X.env), (false, eval b X.env)] := by rfl) (hs2 : starEach [b] X.env = [(false, eval b X.env)] := by rfl) :
    DI C w X tg (.Call (.Name "range" p) [a, b] [] pos) (iRng2 ta) (iR2 n) := by
  refine ⟨pi_range2 hg hm ha.pa hs hs2, fun O0 O H σ ρ ds s h R q => ?_⟩
  unfold iR2 at h
  cases en : n ρ with
  | none => rw [en] at h; cases h
  | some rs =>
    rw [en] at h
    replace h : iR2f rs = some ds := h
    unfold iR2f at h
    split at h
    · split at h
      · rename_i hk
        cases h
        refine ha.sd _ _ _ _ _ _ s en _ fun vs H1 e r => ?_
        obtain ⟨v, v', rfl, r1, r2⟩ := ress2 r
        cases r1.intE; cases r2.intE
        exact ⟨_, _, rfl, hk, q _ _ e itr_ok⟩
      · cases h
    · cases h
theorem di_r3 {w : Bool} {tg a b c : Expr} {ta : TA} {n : As} {p pos : Pos} (hg : Gl X "range") (hm : X.mg "range" = none) (ha : DA C X [a, b, c] ta n) (hs : starEach [a, b, c] X.env = (false, eval a X.env) :: starEach [b, c] X.env := by rfl) (hpl : (backTo pos (starEach [b, c] X.env)).any (·.1) = false := by rfl) :
    DI C w X tg (.Call (.Name "range" p) [a, b, c] [] pos) (iRng3 ta) (iR3 n) := by
  refine ⟨pi_range3 hg hm ha.pa hs hpl, fun O0 O H σ ρ ds s h R q => ?_⟩
  unfold iR3 at h
  cases en : n ρ with
  | none => rw [en] at h; cases h
  | some rs =>
    rw [en] at h
    replace h : iR3f rs = some ds := h
    unfold iR3f at h
    split at h
    · split at h
      · rename_i i _ j _ c _ hk
        obtain ⟨hc, h1, h2, h3, h4⟩ := hk
        subst hc
        cases h
        refine ha.sd _ _ _ _ _ _ s en _ fun vs H1 e r => ?_
        cases r with
        | cons r1 r =>
          obtain ⟨v, v', rfl, r2, r3⟩ := ress2 r
          cases r1.intE; cases r2.intE; cases r3.intE
          exact ⟨_, _, _, _, rfl, RgC.neg h1 h2 h3 h4, q _ _ e itc_ok⟩
      · cases h
    · cases h
/-! zip of two lists, of two tuples -/
def zipD : List D → List D → List D
  | a :: r, b :: s => .tmp [a, b] :: zipD r s
  | _, _ => []
theorem zipD_get : ∀ {ds es : List D} {i : Nat} {d : D}, (zipD ds es)[i]? = some d → ∃ x y, ds[i]? = some x ∧ es[i]? = some y ∧ d = .tmp [x, y]
  | [], _, i, d, h => by simp [zipD] at h
  | _ :: _, [], i, d, h => by simp [zipD] at h
  | a :: r, b :: s, 0, d, h => by simp [zipD] at h; exact ⟨a, b, rfl, rfl, h.symm⟩
  | a :: r, b :: s, i + 1, d, h => by simpa using zipD_get (i := i) (by simpa [zipD] using h)
theorem zipD_len : ∀ {ds es : List D}, (zipD ds es).length = min ds.length es.length
  | [], _ => by simp [zipD]
  | _ :: _, [] => by simp [zipD]
  | a :: r, b :: s => by simp only [zipD, List.length_cons, zipD_len (ds := r) (es := s)]; omega
theorem pair_new {H2 : Hp} {O2 : List Addr} {T : Addr} {x y : V} {d1 d2 : D} (dm : ∀ a ∈ O2, H2 a ≠ none) (hT : H2 T = none) (r1 : Rep C (hid H2 O2) x d1) (r2 : Rep C (hid H2 O2) y d2) : Rep C (hid (upd H2 T (.tup [x, y])) O2) (.ref T) (.tmp [d1, d2]) := by
  refine .tmp (by rw [hid_out fun z => dm _ z hT, upd_same]) ?_
  exact .cons (r1.mono (hid_mono (Evl.Ex.new hT))) (.cons (r2.mono (hid_mono (Evl.Ex.new hT))) .nil)
theorem itz_ok {a b : Addr} {xs ys : List V} {ds es : List D} (h1 : H1 a = some (.lst xs)) (h2 : Reps C (hid H1 O) xs ds) (k1 : H1 b = some (.lst ys)) (k2 : Reps C (hid H1 O) ys es) : ItOk C true O H1 (Itz K a b) (zipD ds es) := by
  intro H2 O2 hx e dm i
  have ha : H2 a = some (.lst xs) := hx rfl a _ h1
  have hb : H2 b = some (.lst ys) := hx rfl b _ k1
  refine ⟨fun d hd => ?_, fun hl => ?_⟩
  · obtain ⟨x, y, g1, g2, rfl⟩ := zipD_get hd
    obtain ⟨v, e1, r⟩ := h2.get g1
    obtain ⟨u, e2, r'⟩ := k2.get g2
    refine ⟨⟨xs, ys, v, u, .inl (.inl ha), .inl (.inl hb), e1, e2⟩, fun z H3 yl => ?_⟩
    obtain ⟨T, x', y', rfl, hT, rfl, q1, q2⟩ := yl
    have z1 := q1 xs (.inl (.inl ha))
    rw [e1] at z1; cases z1
    have z2 := q2 ys (.inl (.inl hb))
    rw [e2] at z2; cases z2
    exact ⟨Evl.Ex.new hT, pair_new dm hT (r.mono e) (r'.mono e)⟩
  · rw [zipD_len] at hl
    exact ⟨xs, ys, .inl (.inl ha), .inl (.inl hb), by rw [h2.length, k2.length]; omega⟩
theorem itzT_ok {a b : Addr} {xs ys : List V} {ds es : List D} (h1 : TupN (hid H1 O) a xs) (h2 : Reps C (hid H1 O) xs ds) (k1 : TupN (hid H1 O) b ys) (k2 : Reps C (hid H1 O) ys es) {w : Bool} : ItOk C w O H1 (RZ.ItzT K a b) (zipD ds es) := by
  intro H2 O2 hx e dm i
  have ha : TupN H2 a xs := (h1.mono e).mono hid_ex
  have hb : TupN H2 b ys := (k1.mono e).mono hid_ex
  refine ⟨fun d hd => ?_, fun hl => ?_⟩
  · obtain ⟨x, y, g1, g2, rfl⟩ := zipD_get hd
    obtain ⟨v, e1, r⟩ := h2.get g1
    obtain ⟨u, e2, r'⟩ := k2.get g2
    refine ⟨⟨xs, ys, v, u, ha.sq, hb.sq, e1, e2⟩, fun z H3 yl => ?_⟩
    obtain ⟨T, x', y', rfl, hT, rfl, q1, q2⟩ := yl
    have z1 := q1 xs ha.sq
    rw [e1] at z1; cases z1
    have z2 := q2 ys hb.sq
    rw [e2] at z2; cases z2
    exact ⟨Evl.Ex.new hT, pair_new dm hT (r.mono e) (r'.mono e)⟩
  · rw [zipD_len] at hl
    exact ⟨xs, ys, ha.sq, hb.sq, by rw [h2.length, k2.length]; omega⟩
def iZf : List (D × Fl) → Option (List D) := fun rs => match rs with
  | [(.lst ds, _), (.lst es, _)] => some (zipD ds es)
  | [(.tup ds, _), (.tup es, _)] => some (zipD ds es)
  | _ => none
def iZ (n : As) : I := fun ρ => (n ρ).bind iZf
theorem di_zip {a b : Expr} {ta : TA} {n : As} {p pos tpos : Pos} {elts : List Expr} {kk : Nat} (hK : X.K = K) (hg : Gl X "zip") (hm : X.mg "zip" = none) (ha : DA C X [a, b] ta n)
    (hs : starEach [a, b] X.env = (false, eval a X.env) :: starEach [b] X.env := by rfl) (hpl : (backTo pos (starEach [b] X.env)).any (·.1) = false := by rfl) :
    DI C true X (.Tuple elts kk tpos) (.Call (.Name "zip" p) [a, b] [] pos) (RZ.iZipA K ta) (iZ n) := by
  subst hK
  refine ⟨RZ.pi_zipA hg hm ha.pa hs hpl, fun O0 O H σ ρ ds s h R q => ?_⟩
  unfold iZ at h
  cases en : n ρ with
  | none => rw [en] at h; cases h
  | some rs =>
    rw [en] at h
    replace h : iZf rs = some ds := h
    unfold iZf at h
    split at h
    · cases h
      refine ha.sd _ _ _ _ _ _ s en _ fun vs H1 e r => ?_
      obtain ⟨v, v', rfl, r1, r2⟩ := ress2 r
      obtain ⟨p1, xs, rfl, g1, g2⟩ := r1.lstE
      obtain ⟨p2, ys, rfl, k1, k2⟩ := r2.lstE
      exact ⟨p1, p2, xs, ys, rfl, .inl ⟨.inl (.inl g1), .inl (.inl k1), q _ _ e (itz_ok g1 g2 k1 k2)⟩⟩
    · cases h
      refine ha.sd _ _ _ _ _ _ s en _ fun vs H1 e r => ?_
      obtain ⟨v, v', rfl, r1, r2⟩ := ress2 r
      obtain ⟨p1, xs, rfl, g1, g2⟩ := r1.tupH
      obtain ⟨p2, ys, rfl, k1, k2⟩ := r2.tupH
      exact ⟨p1, p2, xs, ys, rfl, .inr ⟨(g1.mono hid_ex).sq, (k1.mono hid_ex).sq, q _ _ e (itzT_ok g1 g2 k1 k2)⟩⟩
    · cases h

/-! ### targets that are names -/
def wipeE (ρ : E) : List Nat → E
  | [] => ρ
  | v :: vs => (wipeE ρ vs).set v none
theorem wipe_get {σ : L2.St} {i : Nat} : ∀ {vs : List Nat}, (wipe σ vs)[i]? = if i ∈ vs ∧ i < σ.length then some none else σ[i]?
  | [] => by simp [wipe]
  | v :: vs => by
    unfold wipe
    have hl := wipe_length σ vs
    by_cases hv : v = i
    · subst hv
      by_cases hlt : v < σ.length
      · rw [List.getElem?_set_self (by rw [hl]; exact hlt), if_pos ⟨List.mem_cons_self, hlt⟩]
      · rw [if_neg (by intro z; exact hlt z.2), List.getElem?_eq_none (by rw [List.length_set, hl]; omega), List.getElem?_eq_none (by omega)]
    · rw [List.getElem?_set_ne hv, wipe_get]
      simp only [List.mem_cons, show (i = v) = False by simp [Ne.symm hv], false_or]
theorem wipeE_len {ρ : E} : ∀ {vs : List Nat}, (wipeE ρ vs).length = ρ.length
  | [] => rfl
  | v :: vs => by unfold wipeE; rw [List.length_set, wipeE_len]
theorem wipeE_get {ρ : E} {i : Nat} : ∀ {vs : List Nat}, (wipeE ρ vs)[i]? = if i ∈ vs ∧ i < ρ.length then some none else ρ[i]?
  | [] => by simp [wipeE]
  | v :: vs => by
    unfold wipeE
    have hl := wipeE_len (ρ := ρ) (vs := vs)
    by_cases hv : v = i
    · subst hv
      by_cases hlt : v < ρ.length
      · rw [List.getElem?_set_self (by rw [hl]; exact hlt), if_pos ⟨List.mem_cons_self, hlt⟩]
      · rw [if_neg (by intro z; exact hlt z.2), List.getElem?_eq_none (by rw [List.length_set, hl]; omega), List.getElem?_eq_none (by omega)]
    · rw [List.getElem?_set_ne hv, wipeE_get]
      simp only [List.mem_cons, show (i = v) = False by simp [Ne.symm hv], false_or]
theorem wipe_set {j : Nat} {v : Option V} {vs : List Nat} (h : j ∈ vs) : wipe (σ.set j v) vs = wipe σ vs := by
  apply List.ext_getElem?
  intro i
  rw [wipe_get, wipe_get, List.length_set]
  by_cases hi : i ∈ vs ∧ i < σ.length
  · rw [if_pos hi, if_pos hi]
  · rw [if_neg hi, if_neg hi]
    by_cases hj : j = i
    · subst hj
      rw [List.getElem?_eq_none (by rw [List.length_set]; by_cases z : j < σ.length; exact absurd ⟨h, z⟩ hi; omega), List.getElem?_eq_none (by by_cases z : j < σ.length; exact absurd ⟨h, z⟩ hi; omega)]
    · rw [List.getElem?_set_ne hj]
theorem wipe_wipe {vs : List Nat} : wipe (wipe σ vs) vs = wipe σ vs := by
  apply List.ext_getElem?
  intro i
  rw [wipe_get, wipe_get, wipe_length]
  by_cases hi : i ∈ vs ∧ i < σ.length
  · rw [if_pos hi, if_pos hi]
  · rw [if_neg hi, if_neg hi]
theorem SV.wipe {vs : List Nat} (s : SV C O0 O H σ ρ) : SV C O0 O H (wipe σ vs) (wipeE ρ vs) where
  len := by rw [wipe_length, wipeE_len, s.len]
  dom := s.dom
  sub := s.sub
  ll := s.ll
  sh := fun i d h => by
    rw [wipeE_get] at h
    split at h
    · cases h
    · rename_i hn
      obtain ⟨v, e, r⟩ := s.sh i d h
      exact ⟨v, by rw [wipe_get, if_neg (by rw [s.len]; exact hn)]; exact e, r⟩
  ow := fun i d h => by
    rw [wipeE_get] at h
    split at h
    · cases h
    · rename_i hn
      obtain ⟨a, xs, ds, e1, e2, r⟩ := s.ow i d h
      exact ⟨a, xs, ds, e1, by rw [wipe_get, if_neg (by rw [s.len]; exact hn)]; exact e2, r⟩
  inj := fun i j d e a h1 h2 h3 h4 => by
    rw [wipeE_get] at h1 h2
    split at h1
    · cases h1
    · split at h2
      · cases h2
      · rw [wipe_get] at h3 h4
        split at h3
        · cases h3
        · split at h4
          · cases h4
          · exact s.inj i j d e a h1 h2 h3 h4
/-- a slot takes a value that is shared -/
theorem SV.set {i : Nat} {v : V} {d : D} (s : SV C O0 O H σ ρ) (r : Rep C (hid H O) v d) : SV C O0 O H (σ.set i (some v)) (ρ.set i (some (d, false))) where
  len := by rw [List.length_set, List.length_set, s.len]
  dom := s.dom
  sub := s.sub
  ll := s.ll
  sh := fun j e h => by
    by_cases hj : i = j
    · subst hj
      have hl : i < ρ.length := by
        by_cases z : i < ρ.length
        · exact z
        · rw [List.getElem?_eq_none (by rw [List.length_set]; omega)] at h; cases h
      rw [List.getElem?_set_self hl] at h
      cases h
      exact ⟨v, by rw [List.getElem?_set_self (by rw [s.len]; exact hl)], r⟩
    · rw [List.getElem?_set_ne hj] at h ⊢
      exact s.sh j e h
  ow := fun j e h => by
    by_cases hj : i = j
    · subst hj
      have hl : i < ρ.length := by
        by_cases z : i < ρ.length
        · exact z
        · rw [List.getElem?_eq_none (by rw [List.length_set]; omega)] at h; cases h
      rw [List.getElem?_set_self hl] at h
      cases h
    · rw [List.getElem?_set_ne hj] at h ⊢
      exact s.ow j e h
  inj := fun j k e f a h1 h2 h3 h4 => by
    have key : ∀ {j : Nat} {e : D}, (ρ.set i (some (d, false)))[j]? = some (some (e, true)) → i ≠ j := fun {j e} h z => by
      subst z
      by_cases hl : i < ρ.length
      · rw [List.getElem?_set_self hl] at h; cases h
      · rw [List.getElem?_eq_none (by rw [List.length_set]; omega)] at h; cases h
    have n1 := key h1
    have n2 := key h2
    rw [List.getElem?_set_ne n1] at h1 h3
    rw [List.getElem?_set_ne n2] at h2 h4
    exact s.inj j k e f a h1 h2 h3 h4
/-- targets in a comprehension: names, tuples of names -/
structure DG (C : Cfg) (X : Cx) (tg : Expr) (t : TG) (g : D → E → Option E) (js : List Nat) : Prop where
  pg : PG X tg t
  sd : ∀ O0 O H σ ρ ρ' d v, SV C O0 O H σ ρ → Rep C (hid H O) v d → g d ρ = some ρ' → ∀ Q : L2.St → Hp → Prop, (∀ σ', SV C O0 O H σ' ρ' → (∀ vs, (∀ j ∈ js, j ∈ vs) → wipe σ' vs = wipe σ vs) → Q σ' H) → t v σ H Q
def gN (i : Nat) : D → E → Option E := fun d ρ => some (ρ.set i (some (d, false)))
theorem dg_name (i : Nat) {x : Str} {pos : Pos} (hN : X.N.Nodup) (hi : X.N[i]? = some x := by rfl) (hx : Loc X.env.scope x := by first | exact .inl rfl | exact .inr rfl) (hf : X.fn x = true ∨ X.env.scope.names.lookup x = some .local := by first | exact .inl rfl | exact .inr rfl) :
    DG C X (.Name x pos) (gName i) (gN i) [i] := by
  refine ⟨pg_name hN hi hx hf, fun O0 O H σ ρ ρ' d v s r e Q q => ?_⟩
  cases e
  exact q _ (s.set r) fun vs h => wipe_set (h i (by simp))
structure DGs (C : Cfg) (X : Cx) (tgs : List Expr) (t : TGs) (g : List D → E → Option E) (js : List Nat) : Prop where
  pg : PGs X tgs t
  sd : ∀ O0 O H σ ρ ρ' ds vs, SV C O0 O H σ ρ → Reps C (hid H O) vs ds → g ds ρ = some ρ' → ∀ Q : L2.St → Hp → Prop, (∀ σ', SV C O0 O H σ' ρ' → (∀ vs, (∀ j ∈ js, j ∈ vs) → wipe σ' vs = wipe σ vs) → Q σ' H) → t vs σ H Q
def gsN : List Nat → List D → E → Option E
  | [], [], ρ => some ρ
  | i :: is, d :: ds, ρ => gsN is ds (ρ.set i (some (d, false)))
  | _, _, _ => none
theorem dgs_nil : DGs C X [] gNil (gsN []) [] := by
  refine ⟨pgs_nil, fun O0 O H σ ρ ρ' ds vs s r e Q q => ?_⟩
  cases ds with
  | nil => cases r; cases e; exact ⟨rfl, q _ s fun _ _ => rfl⟩
  | cons d ds => cases e
theorem dgs_cons {i : Nat} {is : List Nat} {x : Str} {pos : Pos} {es : List Expr} {u : TGs} (hN : X.N.Nodup) (h2 : DGs C X es u (gsN is) is) (hi : X.N[i]? = some x := by rfl) (hx : Loc X.env.scope x := by first | exact .inl rfl | exact .inr rfl)
    (hf : X.fn x = true ∨ X.env.scope.names.lookup x = some .local := by first | exact .inl rfl | exact .inr rfl) (hs : (assignEach (.Name x pos :: es) X.env).map (·.2) = assign (.Name x pos) X.env :: (assignEach es X.env).map (·.2) := by rfl) :
    DGs C X (.Name x pos :: es) (gCons (gName i) u) (gsN (i :: is)) (i :: is) := by
  refine ⟨pgs_cons (pg_name hN hi hx hf) h2.pg hs, fun O0 O H σ ρ ρ' ds vs s r e Q q => ?_⟩
  cases ds with
  | nil => cases e
  | cons d ds =>
    cases r with
    | cons r1 r2 =>
      refine ⟨_, _, rfl, ?_⟩
      exact h2.sd _ _ _ _ _ _ _ _ (s.set r1) r2 e _ fun σ' s' w => q _ s' fun vs h => (w vs fun j hj => h j (List.mem_cons_of_mem _ hj)).trans (wipe_set (h i List.mem_cons_self))
def gT (is : List Nat) : D → E → Option E := fun d ρ => match d with | .tup ds => gsN is ds ρ | .tmp ds => gsN is ds ρ | _ => none
theorem gsN_len : ∀ {is : List Nat} {ds : List D} {ρ ρ' : E}, gsN is ds ρ = some ρ' → ds.length = is.length
  | [], [], _, _, _ => rfl
  | [], _ :: _, _, _, h => by cases h
  | _ :: _, [], _, _, h => by cases h
  | i :: is, d :: ds, ρ, ρ', h => by simp [gsN_len (is := is) (ds := ds) h]
theorem dg_tup {is : List Nat} {es : List Expr} {k n : Nat} {t : TGs} {pos : Pos} (hK : X.K = K) (hc : X.calm = true) (h : DGs C X es t (gsN is) is) (hl : is.length = n := by rfl) (hn : (assignEach es X.env).length = n := by rfl) (hst : (assignEach es X.env).findIdx? (·.1) = none := by rfl) :
    DG C X (.Tuple es k pos) (gTup K n t) (gT is) is := by
  subst hK
  refine ⟨pg_tup hc h.pg hn hst, fun O0 O H σ ρ ρ' d v s r e Q q => ?_⟩
  unfold gT at e
  split at e
  · rename_i ds
    cases r with
    | tup h1 h2 =>
      exact ⟨_, _, rfl, (h1.mono hid_ex).sq, by rw [h2.length, gsN_len e, hl], h.sd _ _ _ _ _ _ _ _ s h2 e _ q⟩
  · rename_i ds
    cases r with
    | tmp h1 h2 =>
      exact ⟨_, _, rfl, .inl (.inl (hid_ex _ _ h1)), by rw [h2.length, gsN_len e, hl], h.sd _ _ _ _ _ _ _ _ s h2 e _ q⟩
  · cases e

/-! ### comprehensions -/
structure DTs (C : Cfg) (X : Cx) (ifs : List Expr) (tt : TT) (m : B) : Prop where
  pt : PTs X ifs tt
  sd : SndT C tt m
def bYes : B := fun _ => some true
theorem dts_nil : DTs C X [] tYes bYes := ⟨pts_nil, fun O0 O H σ ρ r s h Q q => by cases h; exact q _ (Evl.Ex.refl _)⟩
theorem dts_one {c : Expr} {t : TT} {m : B} (h : DT C X c t m) : DTs C X [c] t m := ⟨pts_one h.pt, h.sd⟩
def lcGo (g : D → E → Option E) (mt : B) (me : M) : List D → E → Option (List D)
  | [], _ => some []
  | d :: ds, ρ => (g d ρ).bind fun ρ1 => (mt ρ1).bind fun k => if k then (me ρ1).bind fun r => if r.2 = .bor then none else (lcGo g mt me ds ρ).map fun es => r.1 :: es else lcGo g mt me ds ρ
def mLc (mi : I) (g : D → E → Option E) (mt : B) (me : M) (vs : List Nat) : M := fun ρ => (mi ρ).bind fun ds => if ds.length ≤ lim then (lcGo g mt me ds (wipeE ρ vs)).map fun es => (.lst es, .fresh) else none
/-- one more address is hidden: a list that is new -/
theorem SV.hide {a : Addr} {xs : List V} (s : SV C O0 O H1 σ ρ) (hn : H1 a = none) (e : Ex H1 H') (ha : H' a = some (.lst xs)) : SV C O0 (a :: O) H' σ ρ where
  len := s.len
  dom := fun b hb z => by
    rcases List.mem_cons.mp hb with rfl | hb
    · rw [ha] at z; cases z
    · exact (s.mono e).dom b hb z
  sub := fun b hb => List.mem_cons_of_mem _ (s.sub b hb)
  ll := fun b hb h0 => by
    rcases List.mem_cons.mp hb with rfl | hb
    · exact ⟨xs, ha⟩
    · exact (s.mono e).ll b hb h0
  sh := fun i d h => let ⟨v, q, r⟩ := s.sh i d h; ⟨v, q, (r.mono (hid_new hn)).mono (hid_mono e)⟩
  ow := fun i d h => let ⟨b, ys, ds, q1, q2, q3, q4, q5, q6⟩ := s.ow i d h; ⟨b, ys, ds, q1, q2, List.mem_cons_of_mem _ q3, q4, e _ _ q5, (q6.mono (hid_new hn)).mono (hid_mono e)⟩
  inj := s.inj
theorem lcGo_len {g : D → E → Option E} {mt : B} {me : M} : ∀ {ds : List D} {ρ : E} {es : List D}, lcGo g mt me ds ρ = some es → es.length ≤ ds.length
  | [], _, _, h => by cases h; simp
  | d :: ds, ρ, es, h => by
    unfold lcGo at h
    cases e1 : g d ρ with
    | none => rw [e1] at h; cases h
    | some ρ1 =>
      rw [e1] at h
      replace h : ((mt ρ1).bind fun k => if k then (me ρ1).bind fun r => if r.2 = .bor then none else (lcGo g mt me ds ρ).map fun es => r.1 :: es else lcGo g mt me ds ρ) = some es := h
      cases e2 : mt ρ1 with
      | none => rw [e2] at h; cases h
      | some k =>
        rw [e2] at h
        cases k with
        | false => have := lcGo_len (es := es) h; simp only [List.length_cons]; omega
        | true =>
          replace h : ((me ρ1).bind fun r => if r.2 = .bor then none else (lcGo g mt me ds ρ).map fun es => r.1 :: es) = some es := h
          cases e3 : me ρ1 with
          | none => rw [e3] at h; cases h
          | some r =>
            rw [e3] at h
            replace h : (if r.2 = .bor then none else (lcGo g mt me ds ρ).map fun es => r.1 :: es) = some es := h
            split at h
            · cases h
            · cases e4 : lcGo g mt me ds ρ with
              | none => rw [e4] at h; cases h
              | some es' =>
                rw [e4] at h; cases h
                have := lcGo_len e4
                simp only [List.length_cons]; omega
variable {elt tg iter : Expr} {ifs : List Expr} {scope : Scope} {own : List (Str × Nat)} {wi : TI} {g : TG} {tt : TT} {te : TE} {mi : I} {mg : D → E → Option E} {mt : B} {me : M} {js : List Nat}
theorem snd_lc {vs : List Nat} (hi : ∀ O0 O H σ ρ ds, SV C O0 O H σ ρ → mi ρ = some ds → ∀ R : It → Hp → Prop, (∀ J H1, Ex H H1 → ItOk C true O H1 J ds → R J H1) → wi σ H R)
    (hg : ∀ O0 O H σ ρ ρ' d v, SV C O0 O H σ ρ → Rep C (hid H O) v d → mg d ρ = some ρ' → ∀ Q : L2.St → Hp → Prop, (∀ σ', SV C O0 O H σ' ρ' → (∀ vs, (∀ j ∈ js, j ∈ vs) → wipe σ' vs = wipe σ vs) → Q σ' H) → g v σ H Q)
    (ht : SndT C tt mt) (he : Snd C te me) (hj : ∀ j ∈ js, j ∈ vs) : Snd C (tLc wi g tt te vs) (mLc mi mg mt me vs) := by
  intro O0 O H σ ρ r s h Q q
  unfold mLc at h
  cases ei : mi ρ with
  | none => rw [ei] at h; cases h
  | some ds =>
    rw [ei] at h
    replace h : (if ds.length ≤ lim then (lcGo mg mt me ds (wipeE ρ vs)).map fun es => ((.lst es, .fresh) : D × Fl) else none) = some r := h
    split at h
    · rename_i hlen
      cases el : lcGo mg mt me ds (wipeE ρ vs) with
      | none => rw [el] at h; cases h
      | some es =>
        rw [el] at h; cases h
        refine hi _ _ _ _ _ _ s ei _ fun J H1 e1 ok => fun Dl hD => ?_
        have s1 := s.mono e1
        refine ⟨fun i m Hc => m = ds.length - i ∧ i ≤ ds.length ∧ Ex H1 Hc ∧ ∃ acc da dr, Hc Dl = some (.lst acc) ∧ Reps C (hid Hc (Dl :: O)) acc da ∧ da.length ≤ i ∧ lcGo mg mt me (ds.drop i) (wipeE ρ vs) = some dr ∧ es = da ++ dr,
          ⟨_, rfl, Nat.zero_le _, Evl.Ex.new hD, [], [], es, upd_same, .nil, Nat.le_refl _, by simpa using el, rfl⟩, ?_⟩
        rintro i m Hc ⟨rfl, hi', ex, acc, da, dr, ha, hr, hdl, hgo, hes⟩
        have dmc : ∀ b ∈ Dl :: O, Hc b ≠ none := fun b hb z => by
          rcases List.mem_cons.mp hb with rfl | hb
          · rw [ha] at z; cases z
          · exact (s1.mono ex).dom b hb z
        have exh : Ex (hid H1 O) (hid Hc (Dl :: O)) := (hid_new hD).trans (hid_mono ex)
        obtain ⟨okg, oks⟩ := ok Hc (Dl :: O) (fun _ => ex) exh dmc i
        by_cases hlt : i < ds.length
        · have hd : ds[i]? = some ds[i] := List.getElem?_eq_getElem hlt
          obtain ⟨go, yl⟩ := okg _ hd
          rw [List.drop_eq_getElem_cons hlt] at hgo
          unfold lcGo at hgo
          refine .inr ⟨go, fun Hn => Ex H1 Hn ∧ ∃ acc da dr, Hn Dl = some (.lst acc) ∧ Reps C (hid Hn (Dl :: O)) acc da ∧ da.length ≤ i + 1 ∧ lcGo mg mt me (ds.drop (i + 1)) (wipeE ρ vs) = some dr ∧ es = da ++ dr,
            fun H' hn => ⟨_, by omega, rfl, hlt, hn.1, hn.2⟩, fun x H3 y => ?_⟩
          obtain ⟨e3, rx⟩ := yl x H3 y
          have ex3 : Ex H1 H3 := ex.trans e3
          have ha3 : H3 Dl = some (.lst acc) := e3 _ _ ha
          have s3 : SV C O0 (Dl :: O) H3 (wipe σ vs) (wipeE ρ vs) := (s1.wipe).hide hD ex3 ha3
          have hr3 : Reps C (hid H3 (Dl :: O)) acc da := hr.mono (hid_mono e3)
          cases eg : mg ds[i] (wipeE ρ vs) with
          | none => rw [eg] at hgo; cases hgo
          | some ρ1 =>
            rw [eg] at hgo
            replace hgo : ((mt ρ1).bind fun k => if k then (me ρ1).bind fun r => if r.2 = .bor then none else (lcGo mg mt me (ds.drop (i + 1)) (wipeE ρ vs)).map fun es => r.1 :: es else lcGo mg mt me (ds.drop (i + 1)) (wipeE ρ vs)) = some dr := hgo
            refine hg _ _ _ _ _ _ _ _ s3 rx eg _ fun σ2 s4 w => ⟨(w vs hj).trans wipe_wipe, ?_⟩
            cases et : mt ρ1 with
            | none => rw [et] at hgo; cases hgo
            | some k =>
              rw [et] at hgo
              refine ht _ _ _ _ _ _ s4 et _ fun H4 e4 => ?_
              cases k with
              | false =>
                rw [if_neg Bool.false_ne_true]
                exact ⟨ex3.trans e4, acc, da, dr, e4 _ _ ha3, hr3.mono (hid_mono e4), by omega, hgo, hes⟩
              | true =>
                rw [if_pos rfl]
                replace hgo : ((me ρ1).bind fun r => if r.2 = .bor then none else (lcGo mg mt me (ds.drop (i + 1)) (wipeE ρ vs)).map fun es => r.1 :: es) = some dr := hgo
                cases em : me ρ1 with
                | none => rw [em] at hgo; cases hgo
                | some rz =>
                  rw [em] at hgo
                  replace hgo : (if rz.2 = .bor then none else (lcGo mg mt me (ds.drop (i + 1)) (wipeE ρ vs)).map fun es => rz.1 :: es) = some dr := hgo
                  split at hgo
                  · cases hgo
                  · rename_i hnb
                    cases eo : lcGo mg mt me (ds.drop (i + 1)) (wipeE ρ vs) with
                    | none => rw [eo] at hgo; cases hgo
                    | some dr' =>
                      rw [eo] at hgo
                      cases hgo
                      refine he _ _ _ _ _ _ (s4.mono e4) em _ fun v5 H5 e5 r5 => ?_
                      have ha5 : H5 Dl = some (.lst acc) := e5 _ _ (e4 _ _ ha3)
                      have hr5 : Reps C (hid H5 (Dl :: O)) acc da := (hr3.mono (hid_mono e4)).mono (hid_mono e5)
                      have hal := hr5.length
                      have rv : Rep C (hid H5 (Dl :: O)) v5 rz.1 := r5.sharedF (s4.mono e4).dom hnb
                      refine ⟨acc, ha5, lim_lt (by omega), ((ex3.trans e4).trans e5).mut hD, acc ++ [v5], da ++ [rz.1], dr', upd_same, ?_, by simp; omega, rfl, by rw [hes]; simp⟩
                      rw [hid_upd List.mem_cons_self]
                      exact hr5.append (.cons rv .nil)
        · have hie : ds.length ≤ i := by omega
          rw [List.drop_eq_nil_of_le hie] at hgo
          cases hgo
          rw [List.append_nil] at hes
          subst hes
          exact .inl ⟨oks hie, q _ _ (e1.trans ex) (.fresh (Evl.fresh_back e1 hD) ha hr)⟩
    · cases h
theorem de_lc {pos : Pos} (hc : X.calm = true) (hN : X.N.Nodup) (hi : DI C true X tg iter wi mi) (ok : BlkOk X.N X.env.scope scope own)
    (hg : ∀ (s : Shared) (H : Hp) (A : Addr) (cl : List (Str × Addr)) (fp : List Addr), DG C (X.blk s H scope (compEnvC scope cl A X.env) fp) tg g mg js) (ht : ∀ (s : Shared) (H : Hp) (A : Addr) (cl : List (Str × Addr)) (fp : List Addr), DTs C (X.blk s H scope (compEnvC scope cl A X.env) fp) ifs tt mt)
    (he : ∀ (s : Shared) (H : Hp) (A : Addr) (cl : List (Str × Addr)) (fp : List Addr), DE C (X.blk s H scope (compEnvC scope cl A X.env) fp) elt te me) (hj : ∀ j ∈ js, j ∈ own.map (·.2) := by decide) (hs : ∀ x, foldedSetIterable iter X.env x = pure x := by intro _; rfl) :
    DE C X (.ListComp elt [⟨tg, iter, ifs, 0⟩] scope pos) (tLc wi g tt te (own.map (·.2))) (mLc mi mg mt me (own.map (·.2))) :=
  ⟨pe_lc hc hN hi.pi ok (fun s H A cl fp => (hg s H A cl fp).pg) (fun s H A cl fp => (ht s H A cl fp).pt) (fun s H A cl fp => (he s H A cl fp).pe) hs,
    snd_lc hi.sd (hg {} (fun _ => none) 0 [] []).sd (ht {} (fun _ => none) 0 [] []).sd (he {} (fun _ => none) 0 [] []).sd hj⟩
end
end Dt

set_option maxRecDepth 100000
namespace Dt
open PySem PySem.Spec PyProof.Rows L2
open Evl (Ex)

inductive Out | nx (ρ : E) | rt (d : D) (fr : Bool)
abbrev S := E → Option Out
structure SS (C : Cfg) (H0 : Hp) (O0 O : List Addr) (H : Hp) (σ : L2.St) (ρ : E) : Prop extends SV C O0 O H σ ρ where
  base : Ex H0 H
  new : ∀ a ∈ O, a ∉ O0 → H0 a = none
def RetOk (C : Cfg) (O : List Addr) (H H' : Hp) (v : V) (d : D) (fr : Bool) : Prop :=
  if fr = true then ∃ a xs ds, v = .ref a ∧ d = .lst ds ∧ H a = none ∧ H' a = some (.lst xs) ∧ Reps C (hid H' (a :: O)) xs ds else Rep C (hid H' O) v d
section
variable {C : Cfg} {K : PySem.W.Frag} {X : Cx} {O0 O O' : List Addr} {H0 H H' H1 : Hp} {σ : L2.St} {ρ : E}
theorem SS.mono (e : Ex H H') (s : SS C H0 O0 O H σ ρ) : SS C H0 O0 O H' σ ρ := ⟨s.toSV.mono e, s.base.trans e, s.new⟩
/-- what follows a statement -/
def Goes (C : Cfg) (H0 : Hp) (O0 O : List Addr) (H : Hp) (D : Ends) : Out → Prop
  | .nx ρ' => ∀ O' H' σ', SS C H0 O0 O' H' σ' ρ' → Ex (hid H O) (hid H' O') → D.nx σ' H'
  | .rt d fr => ∀ v H', Ex H0 H' → RetOk C O0 H0 H' v d fr → D.rt v H'
def SndS (C : Cfg) (ts : TS) (m : S) : Prop := ∀ H0 O0 O H σ ρ o, SS C H0 O0 O H σ ρ → m ρ = some o → ∀ D : Ends, Goes C H0 O0 O H D o → ts D σ H
structure DS (C : Cfg) (X : Cx) (st : Stmt) (t : TS) (m : S) : Prop where
  ps : PS X st t
  sd : SndS C t m
structure DSs (C : Cfg) (X : Cx) (st : List Stmt) (t : TS) (m : S) : Prop where
  ps : PSs X st t
  sd : SndS C t m
theorem Goes.back {D : Ends} {o : Out} (e : Ex (hid H O) (hid H' O')) (g : Goes C H0 O0 O H D o) : Goes C H0 O0 O' H' D o := by
  cases o with
  | nx ρ' => exact fun O2 H2 σ2 s e2 => g O2 H2 σ2 s (e.trans e2)
  | rt d fr => exact g
variable {st : Stmt} {rest sts : List Stmt} {t u : TS} {m n : S} {pos : Pos} {e : Expr} {te : TE} {me : M}
def sNil : S := fun ρ => some (.nx ρ)
def sSeq (m n : S) : S := fun ρ => (m ρ).bind fun o => match o with | .nx ρ' => n ρ' | .rt d f => some (.rt d f)
theorem dss_nil : DSs C X [] tNext sNil := ⟨pss_nil, fun H0 O0 O H σ ρ o s h D g => by cases h; exact g _ _ _ s (Evl.Ex.refl _)⟩
theorem dss_cons (h1 : DS C X st t m) (h2 : DSs C X rest u n) : DSs C X (st :: rest) (tSeq t u) (sSeq m n) := by
  refine ⟨pss_cons h1.ps h2.ps, fun H0 O0 O H σ ρ o s h D g => ?_⟩
  unfold sSeq at h
  cases em : m ρ with
  | none => rw [em] at h; cases h
  | some o1 =>
    rw [em] at h
    refine h1.sd _ _ _ _ _ _ _ s em _ ?_
    cases o1 with
    | nx ρ1 => exact fun O' H' σ' s' e' => h2.sd _ _ _ _ _ _ _ s' h D (g.back e')
    | rt d f => cases h; exact g
theorem dss_one (h1 : DS C X st t m) : DSs C X [st] t m := ⟨pss_one h1.ps, h1.sd⟩
def sNo : S := fun _ => none
theorem ds_never : DS C X st tNever sNo := ⟨ps_never, fun _ _ _ _ _ _ _ _ h => by cases h⟩
theorem dss_never : DSs C X sts tNever sNo := ⟨pss_never, fun _ _ _ _ _ _ _ _ h => by cases h⟩
theorem ds_pass : DS C X (.Pass pos) tNext sNil := ⟨ps_pass, fun H0 O0 O H σ ρ o s h D g => by cases h; exact g _ _ _ s (Evl.Ex.refl _)⟩

/-! ### name = e -/
theorem SS.setP {i : Nat} {v : V} {d : D} (s : SS C H0 O0 O H σ ρ) (r : Rep C (hid H O) v d) : SS C H0 O0 O H (σ.set i (some v)) (ρ.set i (some (d, false))) := ⟨s.toSV.set r, s.base, s.new⟩
/-- a new list is owned -/
theorem SS.setF {i : Nat} {a : Addr} {xs : List V} {ds : List D} (s : SS C H0 O0 O H σ ρ) (e : Ex H H') (hn : H a = none) (ha : H' a = some (.lst xs)) (r : Reps C (hid H' (a :: O)) xs ds) :
    SS C H0 O0 (a :: O) H' (σ.set i (some (.ref a))) (ρ.set i (some (.lst ds, true))) := by
  have hO : a ∉ O := fun z => s.dom a z hn
  have hO0 : a ∉ O0 := fun z => hO (s.sub a z)
  have s2 := s.toSV.hide hn e ha
  have lt_of : ∀ {j : Nat} {x : D × Bool}, (ρ.set i (some (.lst ds, true)))[j]? = some (some x) → j < ρ.length := fun {j x} h => by
    have := (List.getElem?_eq_some_iff.mp h).1
    rwa [List.length_set] at this
  refine ⟨⟨by rw [List.length_set, List.length_set, s.len], s2.dom, s2.sub, s2.ll, fun j d h => ?_, fun j d h => ?_, fun j k d d' b h1 h2 h3 h4 => ?_⟩, s.base.trans e, fun b hb h0 => ?_⟩
  · have hl := lt_of h
    by_cases hj : i = j
    · subst hj; rw [List.getElem?_set_self hl] at h; cases h
    · rw [List.getElem?_set_ne hj] at h ⊢; exact s2.sh j d h
  · have hl := lt_of h
    by_cases hj : i = j
    · subst hj
      rw [List.getElem?_set_self hl] at h
      cases h
      exact ⟨a, xs, ds, rfl, by rw [List.getElem?_set_self (by rw [s.len]; exact hl)], List.mem_cons_self, hO0, ha, r⟩
    · rw [List.getElem?_set_ne hj] at h ⊢; exact s2.ow j d h
  · have l1 := lt_of h1
    have l2 := lt_of h2
    have old : ∀ {j : Nat} {d : D}, i ≠ j → (ρ.set i (some (.lst ds, true)))[j]? = some (some (d, true)) → (σ.set i (some (.ref a)))[j]? = some (some (.ref b)) → b ∈ O := fun {j d} hj h h' => by
      rw [List.getElem?_set_ne hj] at h h'
      obtain ⟨a', _, _, _, q, q2, _⟩ := s.ow j d h
      rw [q] at h'; cases h'; exact q2
    by_cases hj : i = j
    · by_cases hk : i = k
      · rw [← hj, ← hk]
      · have hb := old hk h2 h4
        subst hj
        rw [List.getElem?_set_self (by rw [s.len]; exact l1)] at h3
        cases h3
        exact absurd hb hO
    · by_cases hk : i = k
      · have hb := old hj h1 h3
        subst hk
        rw [List.getElem?_set_self (by rw [s.len]; exact l2)] at h4
        cases h4
        exact absurd hb hO
      · rw [List.getElem?_set_ne hj] at h1 h3
        rw [List.getElem?_set_ne hk] at h2 h4
        exact s.inj j k d d' b h1 h2 h3 h4
  · rcases List.mem_cons.mp hb with rfl | hb
    · exact Evl.fresh_back s.base hn
    · exact s.new b hb h0
def sSet (i : Nat) (m : M) : S := fun ρ => (m ρ).bind fun r => match r.2 with
  | .pure => some (.nx (ρ.set i (some (r.1, false))))
  | .fresh => some (.nx (ρ.set i (some (r.1, true))))
  | .bor => none
theorem snd_set {i : Nat} (h : Snd C te me) : SndS C (tAsg te (gName i)) (sSet i me) := by
  intro H0 O0 O H σ ρ o s h1 D g
  unfold sSet at h1
  cases em : me ρ with
  | none => rw [em] at h1; cases h1
  | some r =>
    rw [em] at h1
    obtain ⟨d, fl⟩ := r
    refine h _ _ _ _ _ _ s.toSV em _ fun v H' e r => ?_
    cases fl with
    | pure =>
      cases h1
      cases r with
      | pure w => exact g _ _ _ ((s.mono e).setP w) (hid_mono e)
    | fresh =>
      cases h1
      cases r with
      | fresh h1 h2 h3 => exact g _ _ _ (s.setF e h1 h2 h3) ((hid_new h1).trans (hid_mono e))
    | bor => cases h1
theorem ds_set (i : Nat) {x : Str} {pos' : Pos} (hN : X.N.Nodup) (he : DE C X e te me) (hi : X.N[i]? = some x := by rfl) (hx : Loc X.env.scope x := by first | exact .inl rfl | exact .inr rfl) (hs : swapsWith e (some (.Name x pos')) pos.line X.env = pure false := by rfl)
    (hf : X.fn x = true ∨ X.env.scope.names.lookup x = some .local := by first | exact .inl rfl | exact .inr rfl) : DS C X (.Assign [.Name x pos'] e pos) (tAsg te (gName i)) (sSet i me) := ⟨ps_set hN hi hx he.pe hs hf, snd_set he.sd⟩
/-- name = [.. for ..] on one line -/
theorem ds_setLc (i : Nat) {y : Str} {py : Pos} {elt tg iter : Expr} {ifs : List Expr} {scope : Scope} {own : List (Str × Nat)} {pos spos : Pos} {wi : TI} {g : TG} {tt : TT} {mi : I} {mg : D → E → Option E} {mt : B} {js : List Nat}
    (hc : X.calm = true) (hN : X.N.Nodup) (hi : DI C true X tg iter wi mi) (ok : BlkOk X.N X.env.scope scope own)
    (hg : ∀ (s : Shared) (H : Hp) (A : Addr) (cl : List (Str × Addr)) (fp : List Addr), DG C (X.blk s H scope (compEnvC scope cl A X.env) fp) tg g mg js) (ht : ∀ (s : Shared) (H : Hp) (A : Addr) (cl : List (Str × Addr)) (fp : List Addr), DTs C (X.blk s H scope (compEnvC scope cl A X.env) fp) ifs tt mt)
    (he : ∀ (s : Shared) (H : Hp) (A : Addr) (cl : List (Str × Addr)) (fp : List Addr), DE C (X.blk s H scope (compEnvC scope cl A X.env) fp) elt te me) (hj : ∀ j ∈ js, j ∈ own.map (·.2) := by decide)
    (hy : X.N[i]? = some y := by rfl) (hyl : X.env.scope.names.lookup y = some .local := by rfl)
    (hsw : swapsWith (.ListComp elt [⟨tg, iter, ifs, 0⟩] scope pos) (some (.Name y py)) spos.line X.env = pure true := by exact sw_true rfl rfl rfl (by decide +kernel)) (hs : ∀ x, foldedSetIterable iter X.env x = pure x := by intro _; rfl) :
    DS C X (.Assign [.Name y py] (.ListComp elt [⟨tg, iter, ifs, 0⟩] scope pos) spos) (tAsg (tLc wi g tt te (own.map (·.2))) (gName i)) (sSet i (mLc mi mg mt me (own.map (·.2)))) :=
  ⟨ps_setLc hc hN hy hyl hsw hi.pi ok (fun s H A cl fp => (hg s H A cl fp).pg) (fun s H A cl fp => (ht s H A cl fp).pt) (fun s H A cl fp => (he s H A cl fp).pe) hs,
    snd_set (snd_lc hi.sd (hg {} (fun _ => none) 0 [] []).sd (ht {} (fun _ => none) 0 [] []).sd (he {} (fun _ => none) 0 [] []).sd hj)⟩

/-! ### targets of any kind, by a state -/
structure DGS (C : Cfg) (X : Cx) (tg : Expr) (t : TG) (g : D → E → Option E) : Prop where
  pg : PG X tg t
  sd : ∀ H0 O0 O H σ ρ ρ' d v, SS C H0 O0 O H σ ρ → Rep C (hid H O) v d → g d ρ = some ρ' → ∀ Q : L2.St → Hp → Prop, (∀ σ' H', SS C H0 O0 O H' σ' ρ' → Ex (hid H O) (hid H' O) → Q σ' H') → t v σ H Q
structure DGSs (C : Cfg) (X : Cx) (tgs : List Expr) (t : TGs) (g : List D → E → Option E) : Prop where
  pg : PGs X tgs t
  sd : ∀ H0 O0 O H σ ρ ρ' ds vs, SS C H0 O0 O H σ ρ → Reps C (hid H O) vs ds → g ds ρ = some ρ' → ∀ Q : L2.St → Hp → Prop, (∀ σ' H', SS C H0 O0 O H' σ' ρ' → Ex (hid H O) (hid H' O) → Q σ' H') → t vs σ H Q
theorem dgs_n (i : Nat) {x : Str} {pos : Pos} (hN : X.N.Nodup) (hi : X.N[i]? = some x := by rfl) (hx : Loc X.env.scope x := by first | exact .inl rfl | exact .inr rfl) (hf : X.fn x = true ∨ X.env.scope.names.lookup x = some .local := by first | exact .inl rfl | exact .inr rfl) :
    DGS C X (.Name x pos) (gName i) (gN i) := by
  refine ⟨pg_name hN hi hx hf, fun H0 O0 O H σ ρ ρ' d v s r e Q q => ?_⟩
  cases e
  exact q _ _ (s.setP r) (Evl.Ex.refl _)
def gsNil : List D → E → Option E := fun ds ρ => match ds with | [] => some ρ | _ => none
def gsCons (g : D → E → Option E) (gs : List D → E → Option E) : List D → E → Option E := fun ds ρ => match ds with | d :: ds => (g d ρ).bind fun ρ1 => gs ds ρ1 | _ => none
theorem dgss_nil : DGSs C X [] gNil gsNil := by
  refine ⟨pgs_nil, fun H0 O0 O H σ ρ ρ' ds vs s r e Q q => ?_⟩
  cases ds with
  | nil => cases r; cases e; exact ⟨rfl, q _ _ s (Evl.Ex.refl _)⟩
  | cons d ds => cases e
theorem dgss_cons {a : Expr} {es : List Expr} {t1 : TG} {g1 : D → E → Option E} {u1 : TGs} {gs : List D → E → Option E} (h1 : DGS C X a t1 g1) (h2 : DGSs C X es u1 gs) (hs : (assignEach (a :: es) X.env).map (·.2) = assign a X.env :: (assignEach es X.env).map (·.2) := by rfl) :
    DGSs C X (a :: es) (gCons t1 u1) (gsCons g1 gs) := by
  refine ⟨pgs_cons h1.pg h2.pg hs, fun H0 O0 O H σ ρ ρ' ds vs s r e Q q => ?_⟩
  cases ds with
  | nil => cases e
  | cons d ds =>
    cases r with
    | cons r1 r2 =>
      unfold gsCons at e
      replace e : ((g1 d ρ).bind fun ρ1 => gs ds ρ1) = some ρ' := e
      cases e1 : g1 d ρ with
      | none => rw [e1] at e; cases e
      | some ρ1 =>
        rw [e1] at e
        refine ⟨_, _, rfl, ?_⟩
        refine h1.sd _ _ _ _ _ _ _ _ _ s r1 e1 _ fun σ1 H1 s1 x1 => ?_
        exact h2.sd _ _ _ _ _ _ _ _ _ s1 (r2.mono x1) e _ fun σ2 H2 s2 x2 => q _ _ s2 (x1.trans x2)
def gTs (k : Nat) (gs : List D → E → Option E) : D → E → Option E := fun d ρ => match d with | .tup ds => if ds.length = k then gs ds ρ else none | .tmp ds => if ds.length = k then gs ds ρ else none | _ => none
theorem dgs_t {es : List Expr} {k n : Nat} {t : TGs} {gs : List D → E → Option E} {pos : Pos} (hK : X.K = K) (hc : X.calm = true) (h : DGSs C X es t gs) (hn : (assignEach es X.env).length = n := by rfl) (hst : (assignEach es X.env).findIdx? (·.1) = none := by rfl) :
    DGS C X (.Tuple es k pos) (gTup K n t) (gTs n gs) := by
  subst hK
  refine ⟨pg_tup hc h.pg hn hst, fun H0 O0 O H σ ρ ρ' d v s r e Q q => ?_⟩
  unfold gTs at e
  split at e
  · rename_i ds
    split at e
    · rename_i hl
      cases r with
      | tup h1 h2 => exact ⟨_, _, rfl, (h1.mono hid_ex).sq, by rw [h2.length, hl], h.sd _ _ _ _ _ _ _ _ _ s h2 e _ q⟩
    · cases e
  · rename_i ds
    split at e
    · rename_i hl
      cases r with
      | tmp h1 h2 => exact ⟨_, _, rfl, .inl (.inl (hid_ex _ _ h1)), by rw [h2.length, hl], h.sd _ _ _ _ _ _ _ _ _ s h2 e _ q⟩
    · cases e
  · cases e
/-- an owned list changes -/
theorem SS.write {i : Nat} {a : Addr} {xs : List V} {ds es : List D} (s : SS C H0 O0 O H σ ρ) (hi : ρ[i]? = some (some (.lst ds, true))) (ha : σ[i]? = some (some (.ref a))) (hO : a ∈ O) (hO0 : a ∉ O0) (r : Reps C (hid H O) xs es) :
    SS C H0 O0 O (upd H a (.lst xs)) σ (ρ.set i (some (.lst es, true))) := by
  have hh : hid (upd H a (.lst xs)) O = hid H O := hid_upd hO
  have hil : i < ρ.length := (List.getElem?_eq_some_iff.mp hi).1
  refine ⟨⟨by rw [List.length_set, s.len], fun b hb z => ?_, s.sub, fun b hb h0 => ?_, fun j d h => ?_, fun j d h => ?_, fun j k d d' b h1 h2 h3 h4 => ?_⟩, s.base.mut (s.new a hO hO0), s.new⟩
  · by_cases hba : b = a
    · subst hba; rw [upd_same] at z; cases z
    · rw [upd_ne hba] at z; exact s.dom b hb z
  · by_cases hba : b = a
    · subst hba; exact ⟨xs, upd_same⟩
    · rw [upd_ne hba]; exact s.ll b hb h0
  · rw [hh]
    by_cases hj : i = j
    · subst hj; rw [List.getElem?_set_self hil] at h; cases h
    · rw [List.getElem?_set_ne hj] at h; exact s.sh j d h
  · rw [hh]
    by_cases hj : i = j
    · subst hj
      rw [List.getElem?_set_self hil] at h
      cases h
      exact ⟨a, xs, es, rfl, ha, hO, hO0, upd_same, r⟩
    · rw [List.getElem?_set_ne hj] at h
      obtain ⟨b, ys, fs, q1, q2, q3, q4, q5, q6⟩ := s.ow j d h
      have hba : b ≠ a := fun z => hj (s.inj i j _ _ a hi h ha (by rw [← z]; exact q2))
      exact ⟨b, ys, fs, q1, q2, q3, q4, by rw [upd_ne hba]; exact q5, q6⟩
  · have key : ∀ {j : Nat} {d : D}, (ρ.set i (some (.lst es, true)))[j]? = some (some (d, true)) → ∃ d', ρ[j]? = some (some (d', true)) := fun {j d} h => by
      by_cases hj : i = j
      · subst hj; exact ⟨_, hi⟩
      · rw [List.getElem?_set_ne hj] at h; exact ⟨_, h⟩
    obtain ⟨e1, k1⟩ := key h1
    obtain ⟨e2, k2⟩ := key h2
    exact s.inj j k e1 e2 b k1 k2 h3 h4
/-- xs[i] = v -/
def gIx (k : Nat) (mi : M) : D → E → Option E := fun d ρ => match ρ[k]? with
  | some (some (.lst ds, true)) => (mi ρ).bind fun r => match r.1 with
    | .int j => (ixN ds.length j).map fun n => ρ.set k (some (.lst (ds.set n d), true))
    | _ => none
  | _ => none
theorem dgs_ix (k : Nat) {x : Str} {i : Expr} {ti : TE} {mi : M} {p : Pos} (hi : DE C X i ti mi) (hN : X.N[k]? = some x := by rfl) (hv : Vis X.env.scope x := by first | exact Or.inl rfl | exact Or.inr (Or.inl rfl) | exact Or.inr (Or.inr rfl))
    (hd : (x == ("__debug__" : Str)) = false := by decide) (hcd : (x == ("__classdict__" : Str)) = false := by decide)
    (ha : ∀ v, assign (.Subscript (.Name x p) i pos) X.env v = (do
      let ov ← holding [v] (eval (.Name x p) X.env)
      let iv ← holding [v, ov] (eval i X.env)
      standAt pos
      holding [v, ov, iv] (setItem ov iv v)
      release [v, ov, iv] []) := by intro _; rfl) :
    DGS C X (.Subscript (.Name x p) i pos) (gSub (tVar k) ti rSetL) (gIx k mi) := by
  refine ⟨pg_sub (pe_var hN hv hd hcd) hi.pe set_list ha, fun H0 O0 O H σ ρ ρ' d v s r e Q q => ?_⟩
  unfold gIx at e
  split at e
  · rename_i ds ek
    cases ei : mi ρ with
    | none => rw [ei] at e; cases e
    | some ri =>
      rw [ei] at e
      obtain ⟨di, fi⟩ := ri
      cases di with
      | int j =>
        replace e : ((ixN ds.length j).map fun n => ρ.set k (some (.lst (ds.set n d), true))) = some ρ' := e
        cases en : ixN ds.length j with
        | none => rw [en] at e; cases e
        | some n =>
          rw [en] at e; cases e
          obtain ⟨a, xs, ds', h0, h1, h2, h3, h4, h5⟩ := s.ow k _ ek
          cases h0
          refine ⟨_, h1, ?_⟩
          refine hi.sd _ _ _ _ _ _ s.toSV ei _ fun w H1 e1 rw' => ?_
          cases rw'.intE
          have h5' := h5.mono (hid_mono (O := O) e1)
          refine ⟨a, xs, j, n, rfl, rfl, e1 _ _ h4, by rw [h5.length]; exact en, ?_⟩
          refine q _ _ ((s.mono e1).write ek h1 h2 h3 (h5'.set (r.mono (hid_mono e1)) n)) ?_
          rw [hid_upd h2]
          exact hid_mono e1
      | _ => cases e
  · cases e
def sAsg (m : M) (g : D → E → Option E) : S := fun ρ => (m ρ).bind fun r => if r.2 = .pure then (g r.1 ρ).map .nx else none
theorem ds_asg {tg : Expr} {g : TG} {mg : D → E → Option E} (he : DE C X e te me) (hg : DGS C X tg g mg) (hs : swapsWithSole [tg] e pos.line X.env = pure false := by rfl) (hw : swappedStores [tg] e X.env = pure none := by rfl)
    (h1 : (assignEach [tg] X.env).map (·.2) = [assign tg X.env] := by rfl) : DS C X (.Assign [tg] e pos) (tAsg te g) (sAsg me mg) := by
  refine ⟨ps_asg he.pe hg.pg hs hw h1, fun H0 O0 O H σ ρ o s h D gq => ?_⟩
  unfold sAsg at h
  cases em : me ρ with
  | none => rw [em] at h; cases h
  | some r =>
    rw [em] at h
    obtain ⟨d, fl⟩ := r
    replace h : (if fl = .pure then (mg d ρ).map Out.nx else none) = some o := h
    split at h
    · rename_i hf
      subst hf
      cases eg : mg d ρ with
      | none => rw [eg] at h; cases h
      | some ρ1 =>
        rw [eg] at h; cases h
        refine he.sd _ _ _ _ _ _ s.toSV em _ fun v H1 e1 r1 => ?_
        cases r1 with
        | pure w => exact hg.sd _ _ _ _ _ _ _ _ _ (s.mono e1) w eg _ fun σ2 H2 s2 x2 => gq _ _ _ s2 ((hid_mono e1).trans x2)
    · cases h
/-- a, b = x, y: names -/
def sPar (i j : Nat) (n : As) : S := fun ρ => (n ρ).bind fun rs => match rs with
  | [(d, .pure), (e, .pure)] => some (.nx ((ρ.set i (some (d, false))).set j (some (e, false))))
  | _ => none
/-- name op= e, ints -/
def sAug (i : Nat) (f : Int → Int → Int) (m : M) : S := fun ρ => match ρ[i]? with
  | some (some (.int a, false)) => (m ρ).bind fun r => match r.1 with
    | .int b => some (.nx (ρ.set i (some (.int (f a b), false))))
    | _ => none
  | _ => none
theorem ds_aug (i : Nat) {x : Str} {op : Operator} {f : Int → Int → Int} {pos' : Pos} (hN : X.N.Nodup) (ho : PIp X op (ipI f)) (he : DE C X e te me) (hi : X.N[i]? = some x := by rfl) (hx : Loc X.env.scope x := by first | exact .inl rfl | exact .inr rfl)
    (hf : X.fn x = true ∨ X.env.scope.names.lookup x = some .local := by first | exact .inl rfl | exact .inr rfl) : DS C X (.AugAssign (.Name x pos') op e pos) (tAug i te (ipI f)) (sAug i f me) := by
  refine ⟨ps_aug hN hi hx he.pe ho hf, fun H0 O0 O H σ ρ o s h D g => ?_⟩
  unfold sAug at h
  split at h
  · rename_i a ea
    cases em : me ρ with
    | none => rw [em] at h; cases h
    | some r =>
      rw [em] at h
      obtain ⟨d, fl⟩ := r
      cases d with
      | int b =>
        cases h
        obtain ⟨v, h1, h2⟩ := s.sh i _ ea
        cases h2
        refine ⟨_, h1, ?_⟩
        refine he.sd _ _ _ _ _ _ s.toSV em _ fun w H1 e1 r1 => ?_
        cases r1.intE
        exact ⟨a, b, rfl, rfl, g _ _ _ ((s.mono e1).setP (.int _)) (hid_mono e1)⟩
      | _ => cases h
  · cases h

/-! ### xs.append(e), xs.reverse() -/
def sApp (k : Nat) (m : M) : S := fun ρ => (m ρ).bind fun r => if r.2 = .bor then none else match ρ[k]? with
  | some (some (.lst ds, true)) => if ds.length < lim then some (.nx (ρ.set k (some (.lst (ds ++ [r.1]), true)))) else none
  | _ => none
theorem ds_append (k : Nat) {x : Str} {p apos cpos : Pos} (hK : X.K = K) (he : DE C X e te me) (hN : X.N[k]? = some x := by rfl) (hv : Vis X.env.scope x := by first | exact Or.inl rfl | exact Or.inr (Or.inl rfl) | exact Or.inr (Or.inr rfl))
    (hd : (x == ("__debug__" : Str)) = false := by decide) (hcd : (x == ("__classdict__" : Str)) = false := by decide)
    (hbase : attributeBase (.Name x p) "append" X.env (eval (.Name x p) X.env) = eval (.Name x p) X.env := by rfl)
    (hfew : ((backTo cpos (starEach [e] X.env)).all (fun x => !x.1) && (backToKw cpos (keywordEach [] X.env)).all (fun x => x.1.isSome)
      && decide (([e] : List Expr).length + ([] : List Keyword).length + (if ([] : List Keyword).isEmpty then 0 else 1) < 30)) = true := by rfl)
    (hline : (apos.endLine == cpos.line) = true := by rfl) (hs : starEach [e] X.env = (false, eval e X.env) :: starEach [] X.env := by rfl) (hplain : (backTo cpos (starEach [] X.env)).any (·.1) = false := by rfl)
    (hsw : swapsWith (.Call (.Attribute (.Name x p) "append" apos) [e] [] cpos) none pos.line X.env = pure false := by rfl) :
    DS C X (.Expr (.Call (.Attribute (.Name x p) "append" apos) [e] [] cpos) pos) (tDrop (tBM K "list" rAppend (tVar k) (tCons te tNil))) (sApp k me) := by
  subst hK
  refine ⟨ps_expr (pe_bm PySem.F.plainAttrs_list PySem.F.slot_list_append PySem.F.type_list_append mt_append (pe_var hN hv hd hcd) (pa_cons he.pe pa_nil hs) hbase hfew hline hs hplain) hsw, fun H0 O0 O H σ ρ o s h D g => ?_⟩
  unfold sApp at h
  cases em : me ρ with
  | none => rw [em] at h; cases h
  | some r =>
    rw [em] at h
    obtain ⟨d, fl⟩ := r
    replace h : (if fl = .bor then none else match ρ[k]? with
      | some (some (.lst ds, true)) => if ds.length < lim then some (Out.nx (ρ.set k (some (.lst (ds ++ [d]), true)))) else none
      | _ => none) = some o := h
    split at h
    · cases h
    · rename_i hnb
      split at h
      · rename_i ds ek
        split at h
        · rename_i hl
          cases h
          obtain ⟨a, xs, ds', h0, h1, h2, h3, h4, h5⟩ := s.ow k _ ek
          cases h0
          refine ⟨_, h1, .inl ⟨rfl, _, .inl (.inl h4)⟩, ?_⟩
          refine he.sd _ _ _ _ _ _ s.toSV em _ fun v H1 e1 r1 => ?_
          have h5' := h5.mono (hid_mono (O := O) e1)
          refine ⟨a, xs, v, rfl, rfl, e1 _ _ h4, lim_lt (by rw [h5.length]; exact hl), ?_⟩
          refine g _ _ _ ((s.mono e1).write ek h1 h2 h3 (h5'.append (.cons (r1.sharedF s.dom hnb) .nil))) ?_
          rw [hid_upd h2]
          exact hid_mono e1
        · cases h
      · cases h
def sRev (k : Nat) : S := fun ρ => match ρ[k]? with
  | some (some (.lst ds, true)) => some (.nx (ρ.set k (some (.lst ds.reverse, true))))
  | _ => none
theorem ds_reverse (k : Nat) {x : Str} {p apos cpos : Pos} (hK : X.K = K) (hN : X.N[k]? = some x := by rfl) (hv : Vis X.env.scope x := by first | exact Or.inl rfl | exact Or.inr (Or.inl rfl) | exact Or.inr (Or.inr rfl))
    (hd : (x == ("__debug__" : Str)) = false := by decide) (hcd : (x == ("__classdict__" : Str)) = false := by decide)
    (hbase : attributeBase (.Name x p) "reverse" X.env (eval (.Name x p) X.env) = eval (.Name x p) X.env := by rfl) (hline : (apos.endLine == cpos.line) = true := by rfl)
    (hsw : swapsWith (.Call (.Attribute (.Name x p) "reverse" apos) [] [] cpos) none pos.line X.env = pure false := by rfl) :
    DS C X (.Expr (.Call (.Attribute (.Name x p) "reverse" apos) [] [] cpos) pos) (tDrop (tBM0 K "list" rReverse (tVar k))) (sRev k) := by
  subst hK
  refine ⟨ps_expr (pe_bm0 PySem.F.plainAttrs_list PySem.F.slot_list_reverse PySem.F.type_list_reverse mt_reverse (pe_var hN hv hd hcd) hbase hline) hsw, fun H0 O0 O H σ ρ o s h D g => ?_⟩
  unfold sRev at h
  split at h
  · rename_i ds ek
    cases h
    obtain ⟨a, xs, ds', h0, h1, h2, h3, h4, h5⟩ := s.ow k _ ek
    cases h0
    refine ⟨_, h1, .inl ⟨rfl, _, .inl (.inl h4)⟩, a, xs, rfl, rfl, h4, ?_⟩
    refine g _ _ _ (s.write ek h1 h2 h3 h5.reverse) ?_
    rw [hid_upd h2]
    exact Evl.Ex.refl _
  · cases h

/-! ### if, for, while, return -/
def sIf (c : B) (m n : S) : S := fun ρ => (c ρ).bind fun k => if k then m ρ else n ρ
theorem ds_if {c : Expr} {a b : List Stmt} {tc : TT} {mc : B} (hc : DT C X c tc mc) (ha : DSs C X a t m) (hb : DSs C X b u n) : DS C X (.If c a b pos) (tIfS tc t u) (sIf mc m n) := by
  refine ⟨ps_if hc.pt ha.ps hb.ps, fun H0 O0 O H σ ρ o s h D g => ?_⟩
  unfold sIf at h
  cases ec : mc ρ with
  | none => rw [ec] at h; cases h
  | some k =>
    rw [ec] at h
    refine hc.sd _ _ _ _ _ _ s.toSV ec _ fun H1 e1 => ?_
    cases k with
    | true => exact ha.sd _ _ _ _ _ _ _ (s.mono e1) h D (g.back (hid_mono e1))
    | false => exact hb.sd _ _ _ _ _ _ _ (s.mono e1) h D (g.back (hid_mono e1))
/-- a slot's list is shared from now on -/
def frz1 (i : Nat) (ρ : E) : E := match ρ[i]? with
  | some (some (d, true)) => ρ.set i (some (d, false))
  | _ => ρ
theorem SS.frz1 {i : Nat} (s : SS C H0 O0 O H σ ρ) : ∃ O', SS C H0 O0 O' H σ (frz1 i ρ) ∧ Ex (hid H O) (hid H O') := by
  unfold Dt.frz1
  split
  · rename_i d ei
    obtain ⟨a, xs, ds, rfl, h1, h2, h3, h4, h5⟩ := s.ow i _ ei
    have hil : i < ρ.length := (List.getElem?_eq_some_iff.mp ei).1
    have sub : ∀ b ∈ O.filter (fun b => decide (b ≠ a)), b ∈ O := fun b hb => (List.mem_filter.mp hb).1
    have ex : Ex (hid H O) (hid H (O.filter fun b => decide (b ≠ a))) := hid_sub sub
    refine ⟨O.filter fun b => decide (b ≠ a), ⟨⟨by rw [List.length_set, s.len], fun b hb => s.dom b (sub b hb), fun b hb => List.mem_filter.mpr ⟨s.sub b hb, decide_eq_true fun z => h3 (z ▸ hb)⟩, fun b hb h0 => s.ll b (sub b hb) h0, fun j d h => ?_, fun j d h => ?_, fun j k d d' b q1 q2 q3 q4 => ?_⟩, s.base, fun b hb => s.new b (sub b hb)⟩, ex⟩
    · by_cases hj : i = j
      · subst hj
        rw [List.getElem?_set_self hil] at h
        cases h
        refine ⟨_, h1, .lst ?_ (h5.mono ex)⟩
        rw [hid_out (by simp)]; exact h4
      · rw [List.getElem?_set_ne hj] at h
        obtain ⟨v, q1, q2⟩ := s.sh j d h
        exact ⟨v, q1, q2.mono ex⟩
    · by_cases hj : i = j
      · subst hj; rw [List.getElem?_set_self hil] at h; cases h
      · rw [List.getElem?_set_ne hj] at h
        obtain ⟨b, ys, fs, q1, q2, q3, q4, q5, q6⟩ := s.ow j d h
        exact ⟨b, ys, fs, q1, q2, List.mem_filter.mpr ⟨q3, decide_eq_true fun z => hj (s.inj i j _ _ a ei h h1 (z ▸ q2))⟩, q4, q5, q6.mono ex⟩
    · have key : ∀ {j : Nat} {d : D}, (ρ.set i (some (.lst ds, false)))[j]? = some (some (d, true)) → ρ[j]? = some (some (d, true)) := fun {j d} h => by
        by_cases hj : i = j
        · subst hj; rw [List.getElem?_set_self hil] at h; cases h
        · rwa [List.getElem?_set_ne hj] at h
      exact s.inj j k d d' b (key q1) (key q2) q3 q4
  · exact ⟨O, s, Evl.Ex.refl _⟩
/-- any statement, a slot's list shared ahead of it -/
def sFrz (i : Nat) (m : S) : S := fun ρ => m (frz1 i ρ)
theorem ds_frz (i : Nat) (h : DS C X st t m) : DS C X st t (sFrz i m) := by
  refine ⟨h.ps, fun H0 O0 O H σ ρ o s e D g => ?_⟩
  obtain ⟨O', s', x⟩ := s.frz1 (i := i)
  exact h.sd _ _ _ _ _ _ _ s' e D (g.back x)
def forGo (g : D → E → Option E) (m : S) : List D → E → Option Out
  | [], ρ => some (.nx ρ)
  | d :: ds, ρ => (g d ρ).bind fun ρ1 => (m ρ1).bind fun o => match o with | .nx ρ2 => forGo g m ds ρ2 | .rt d f => some (.rt d f)
def sFor (mi : I) (g : D → E → Option E) (m : S) : S := fun ρ => (mi ρ).bind fun ds => forGo g m ds ρ
theorem snd_for {wi : TI} {g : TG} {tb : TS} {mi : I} {mg : D → E → Option E} (hi : ∀ O0 O H σ ρ ds, SV C O0 O H σ ρ → mi ρ = some ds → ∀ R : It → Hp → Prop, (∀ J H1, Ex H H1 → ItOk C false O H1 J ds → R J H1) → wi σ H R)
    (hg : ∀ H0 O0 O H σ ρ ρ' d v, SS C H0 O0 O H σ ρ → Rep C (hid H O) v d → mg d ρ = some ρ' → ∀ Q : L2.St → Hp → Prop, (∀ σ' H', SS C H0 O0 O H' σ' ρ' → Ex (hid H O) (hid H' O) → Q σ' H') → g v σ H Q)
    (hb : SndS C tb m) : SndS C (tFor wi g tb) (sFor mi mg m) := by
  intro H0 O0 O H σ ρ o s h D gq
  unfold sFor at h
  cases ei : mi ρ with
  | none => rw [ei] at h; cases h
  | some ds =>
    rw [ei] at h
    replace h : forGo mg m ds ρ = some o := h
    refine hi _ _ _ _ _ _ s.toSV ei _ fun J H1 e1 ok => ?_
    refine ⟨fun i m' σ' Hc => m' = ds.length - i ∧ i ≤ ds.length ∧ ∃ O2 ρ2, SS C H0 O0 O2 Hc σ' ρ2 ∧ Ex (hid H1 O) (hid Hc O2) ∧ forGo mg m (ds.drop i) ρ2 = some o, ⟨_, rfl, Nat.zero_le _, O, ρ, s.mono e1, Evl.Ex.refl _, by simpa using h⟩, ?_⟩
    rintro i m' σ' Hc ⟨rfl, hle, O2, ρ2, s2, x2, hgo⟩
    obtain ⟨okg, oks⟩ := ok Hc O2 (fun z => by cases z) x2 s2.dom i
    by_cases hlt : i < ds.length
    · have hd : ds[i]? = some ds[i] := List.getElem?_eq_getElem hlt
      obtain ⟨go, yl⟩ := okg _ hd
      rw [List.drop_eq_getElem_cons hlt] at hgo
      unfold forGo at hgo
      refine .inr ⟨go, fun σ3 H3 => ∃ O3 ρ3, SS C H0 O0 O3 H3 σ3 ρ3 ∧ Ex (hid H1 O) (hid H3 O3) ∧ forGo mg m (ds.drop (i + 1)) ρ3 = some o, fun σ3 H3 hn => ⟨_, by omega, rfl, hlt, hn⟩, fun x H3 y => ?_⟩
      obtain ⟨e3, rx⟩ := yl x H3 y
      cases eg : mg ds[i] ρ2 with
      | none => rw [eg] at hgo; cases hgo
      | some ρ3 =>
        rw [eg] at hgo
        replace hgo : ((m ρ3).bind fun o => match o with | .nx ρ2 => forGo mg m (ds.drop (i + 1)) ρ2 | .rt d f => some (.rt d f)) = some o := hgo
        refine hg _ _ _ _ _ _ _ _ _ (s2.mono e3) rx eg _ fun σ4 H4 s4 x4 => ?_
        have x14 : Ex (hid H1 O) (hid H4 O2) := (x2.trans (hid_mono e3)).trans x4
        cases em : m ρ3 with
        | none => rw [em] at hgo; cases hgo
        | some o1 =>
          rw [em] at hgo
          refine hb _ _ _ _ _ _ _ s4 em _ ?_
          cases o1 with
          | nx ρ5 => exact fun O5 H5 σ5 s5 x5 => ⟨O5, ρ5, s5, x14.trans x5, hgo⟩
          | rt d f => cases hgo; exact gq
    · have hie : ds.length ≤ i := by omega
      rw [List.drop_eq_nil_of_le hie] at hgo
      cases hgo
      exact .inl ⟨oks hie, gq _ _ _ s2 ((hid_mono e1).trans x2)⟩
theorem ds_for {tg iter : Expr} {body : List Stmt} {wi : TI} {g : TG} {tb : TS} {mi : I} {mg : D → E → Option E} (hp : PassesOwn (model X.prog X.w) X.A X.env X.xe) (hc : X.calm = true) (hi : DI C false X tg iter wi mi) (hg : DGS C X tg g mg) (hb : DSs C X body tb m)
    (hs : ∀ x, foldedSetIterable iter X.env x = pure x := by intro _; rfl) : DS C X (.For tg iter body [] pos) (tFor wi g tb) (sFor mi mg m) := ⟨ps_for hp hc hi.pi hg.pg hb.ps hs, snd_for hi.sd hg.sd hb.sd⟩
def whGo (c : B) (m : S) : Nat → E → Option Out
  | 0, _ => none
  | n + 1, ρ => (c ρ).bind fun k => if k then (m ρ).bind fun o => match o with | .nx ρ2 => whGo c m n ρ2 | .rt d f => some (.rt d f) else some (.nx ρ)
def sWh (n : Nat) (c : B) (m : S) : S := whGo c m n
theorem ds_while (N : Nat) {c : Expr} {body : List Stmt} {tc : TT} {mc : B} (hp : PassesOwn (model X.prog X.w) X.A X.env X.xe) (hc : DT C X c tc mc) (hb : DSs C X body t m) : DS C X (.While c body [] pos) (tWhile tc t) (sWh N mc m) := by
  refine ⟨ps_while hp hc.pt hb.ps, fun H0 O0 O H σ ρ o s h D g => ?_⟩
  refine ⟨fun k σ' Hc => ∃ O2 ρ2, SS C H0 O0 O2 Hc σ' ρ2 ∧ Ex (hid H O) (hid Hc O2) ∧ whGo mc m k ρ2 = some o, ⟨N, O, ρ, s, Evl.Ex.refl _, h⟩, ?_⟩
  rintro k σ' Hc ⟨O2, ρ2, s2, x2, hgo⟩
  cases k with
  | zero => cases hgo
  | succ k =>
    unfold whGo at hgo
    cases ec : mc ρ2 with
    | none => rw [ec] at hgo; cases hgo
    | some b =>
      rw [ec] at hgo
      refine hc.sd _ _ _ _ _ _ s2.toSV ec _ fun H3 e3 => ?_
      have s3 := s2.mono e3
      have x3 := x2.trans (hid_mono e3)
      cases b with
      | false => cases hgo; exact g _ _ _ s3 x3
      | true =>
        rw [if_pos rfl]
        replace hgo : ((m ρ2).bind fun o => match o with | .nx ρ2 => whGo mc m k ρ2 | .rt d f => some (.rt d f)) = some o := hgo
        refine ⟨fun σ5 H5 => ∃ O2 ρ2, SS C H0 O0 O2 H5 σ5 ρ2 ∧ Ex (hid H O) (hid H5 O2) ∧ whGo mc m k ρ2 = some o, fun σ5 H5 hn => ⟨k, Nat.lt_succ_self _, hn⟩, ?_⟩
        cases em : m ρ2 with
        | none => rw [em] at hgo; cases hgo
        | some o1 =>
          rw [em] at hgo
          refine hb.sd _ _ _ _ _ _ _ s3 em _ ?_
          cases o1 with
          | nx ρ5 => exact fun O5 H5 σ5 s5 x5 => ⟨O5, ρ5, s5, x3.trans x5, hgo⟩
          | rt d f => cases hgo; exact g
def sRet (m : M) : S := fun ρ => (m ρ).map fun r => .rt r.1 (decide (r.2 ≠ .pure))
theorem ds_ret (he : DE C X e te me) : DS C X (.Return (some e) pos) (tRet te) (sRet me) := by
  refine ⟨ps_ret he.pe, fun H0 O0 O H σ ρ o s h D g => ?_⟩
  unfold sRet at h
  cases em : me ρ with
  | none => rw [em] at h; cases h
  | some r =>
    rw [em] at h; cases h
    obtain ⟨d, fl⟩ := r
    refine he.sd _ _ _ _ _ _ s.toSV em _ fun v H1 e1 r1 => ?_
    refine g v H1 (s.base.trans e1) ?_
    cases r1 with
    | pure w => exact w.mono (hid_sub s.sub)
    | fresh h1 h2 h3 => exact ⟨_, _, _, rfl, rfl, Evl.fresh_back s.base h1, h2, h3.mono (hid_sub fun b hb => by
        rcases List.mem_cons.mp hb with rfl | hb
        · exact List.mem_cons_self
        · exact List.mem_cons_of_mem _ (s.sub b hb))⟩
    | bor h1 h2 h3 h4 => exact ⟨_, _, _, rfl, rfl, s.new _ h1 h2, h3, h4.mono (hid_sub fun b hb => by
        rcases List.mem_cons.mp hb with rfl | hb
        · exact h1
        · exact s.sub b hb)⟩

/-! ### defs -/
abbrev FD := List D → Option (D × Bool)
def spD (C : Cfg) (n : Nat) (F : FD) : Sp := fun vs H Q _ => ∃ O ds d fr, vs.length = n ∧ (∀ a ∈ O, H a ≠ none) ∧ Reps C (hid H O) vs ds ∧ F ds = some (d, fr) ∧ ∀ v H', Ex H H' → RetOk C O H H' v d fr → Q v H'
def runF (n : Nat) (m : S) : FD := fun ds => match m (ds.map (fun d => some (d, false)) ++ List.replicate (n - ds.length) none) with
  | some (.rt d fr) => some (d, fr)
  | some (.nx _) => some (.non, false)
  | none => none
theorem fn_ok {P : Program} {w : World} {mg : Str → Option Value} {base : Heap} {x qual : Str} {st : Stmt} {f : Addr} {fd : FuncData} {N ps : List Str} {k : Nat} {m : S} (F : Fun K x qual st f fd) (S : FnScope N ps (defScope st))
    (hb : ∀ (cdv : Value) (A : Around) (outer : List Env) (s : Shared) (H : Hp) (E : XK), Room k (A.deeper (envOfC qual (defScope st) s.heap.objs.size f cdv)) →
      ∃ t, DSs C (cxOf CX0 P w K mg base N qual (defScope st) f cdv A outer s H E).nox (defBody st) t m) : FnOk P w K mg base CX0 (k + 1) f fd ps (spD C ps.length (runF N.length m)) := by
  refine F.ok S (fun vs H Q E h => by obtain ⟨_, _, _, _, h, _⟩ := h; exact h) fun cdv A outer s H vs Q E hr h => ?_
  obtain ⟨O, ds, d, fr, hl, dm, r, hF, q⟩ := h
  obtain ⟨t, T⟩ := hb cdv A outer s H E hr
  refine ⟨t, T.ps, ?_⟩
  have rl := r.length
  have s0 : SS C H O O H (L2.start N vs) (ds.map (fun d => some (d, false)) ++ List.replicate (N.length - ds.length) none) := by
    unfold L2.start
    have own : ∀ (i : Nat) (d : D), (ds.map (fun d => some (d, false)) ++ List.replicate (N.length - ds.length) none)[i]? = some (some (d, true)) → False := fun i d h => by
      by_cases hi : i < ds.length
      · rw [List.getElem?_append_left (by simpa using hi), List.getElem?_map] at h
        cases e : ds[i]? with
        | none => rw [e] at h; cases h
        | some d' => rw [e] at h; cases h
      · rw [List.getElem?_append_right (by simpa using hi), List.getElem?_replicate] at h
        split at h <;> cases h
    refine ⟨⟨by simp [rl], dm, fun _ h => h, fun a h h0 => absurd h h0, fun i d h => ?_, fun i d h => (own i d h).elim, fun i j d e a h => (own i d h).elim⟩, Evl.Ex.refl _, fun a h h0 => absurd h h0⟩
    by_cases hi : i < ds.length
    · rw [List.getElem?_append_left (by simpa using hi), List.getElem?_map] at h
      cases e : ds[i]? with
      | none => rw [e] at h; cases h
      | some d' =>
        rw [e] at h; cases h
        obtain ⟨v, e1, r1⟩ := r.get e
        exact ⟨v, by rw [List.getElem?_append_left (by simpa [rl] using hi), List.getElem?_map, e1]; rfl, r1⟩
    · rw [List.getElem?_append_right (by simpa using hi), List.getElem?_replicate] at h
      split at h <;> cases h
  unfold runF at hF
  split at hF
  · rename_i d' fr' em
    cases hF
    exact T.sd _ _ _ _ _ _ _ s0 em _ q
  · rename_i ρ' em
    cases hF
    refine T.sd _ _ _ _ _ _ _ s0 em _ fun O' H' σ' s' _ => ?_
    exact q _ _ s'.base .non
  · cases hF

/-! ### calls of defs -/
def postC (rs : List (D × Fl)) (p : D × Bool) : Option (D × Fl) :=
  if nb rs then some (p.1, if p.2 then .fresh else .pure)
  else if p.2 then (match p.1 with | .lst ds => if imms ds then some (.lst ds, .fresh) else none | _ => none)
  else if imm p.1 then some (p.1, .pure) else none
def mCall (F : FD) (n : As) : M := fun ρ => (n ρ).bind fun rs => (F (rs.map (·.1))).bind (postC rs)
theorem ret_res {F : FD} {rs : List (D × Fl)} {r : D × Fl} {vs : List V} {N : Nat} {Q : VK} (s : Co O0 O H1) (s0 : Co O0 O H) (e : Ex H H1) (hl : rs.length = N) (h : (F (rs.map (·.1))).bind (postC rs) = some r) (rr : Ress C O0 O H H1 vs rs) (q : ∀ v H', Ex H1 H' → Res C O0 O H H' v r → Q v H') {E : XK} : spD C N F vs H1 Q E := by
  cases eF : F (rs.map (·.1)) with
  | none => rw [eF] at h; cases h
  | some p =>
    rw [eF] at h
    obtain ⟨d, fr⟩ := p
    replace h : postC rs (d, fr) = some r := h
    unfold postC at h
    have hvl : vs.length = N := by rw [rr.length, hl]
    split at h
    · rename_i hnb
      cases h
      refine ⟨O, _, d, fr, hvl, s.dom, rr.shared s0.dom hnb, eF, fun v H2 e2 ro => q v H2 e2 ?_⟩
      unfold RetOk at ro
      cases fr with
      | true =>
        obtain ⟨a, xs, ds, rfl, rfl, h1, h2, h3⟩ := ro
        exact .fresh (Evl.fresh_back e h1) h2 h3
      | false => exact .pure ro
    · refine ⟨O0, _, d, fr, hvl, fun a ha => s.dom a (s.sub a ha), rr.anys s0.sub s0.dom, eF, fun v H2 e2 ro => q v H2 e2 ?_⟩
      have ll2 := (s.mono e2).ll
      unfold RetOk at ro
      cases fr with
      | true =>
        obtain ⟨a, xs, ds, rfl, rfl, h1, h2, h3⟩ := ro
        replace h : (if imms ds then some ((.lst ds, .fresh) : D × Fl) else none) = some r := h
        split at h
        · rename_i hi
          cases h
          refine .fresh (Evl.fresh_back e h1) h2 (Reps.ofImm (fun b hb hb0 => ?_) hi h3)
          rcases List.mem_cons.mp hb with rfl | hb
          · exact ⟨xs, h2⟩
          · exact ll2 b hb fun z => hb0 (List.mem_cons_of_mem _ z)
        · cases h
      | false =>
        replace h : (if imm d then some ((d, .pure) : D × Fl) else none) = some r := h
        split at h
        · rename_i hi
          cases h
          exact .pure (Rep.ofImm ll2 hi ro)
        · cases h
theorem bind2 {α β : Type} {o : Option α} {f : α → Option β} {b : β} (h : o.bind f = some b) : ∃ a, o = some a ∧ f a = some b := by
  cases o with
  | none => cases h
  | some a => exact ⟨a, rfl, h⟩
theorem snd_call {F : FD} {ta : TA} {na : As} {N : Nat} (ha : SndA C ta na) (hl : ∀ ρ rs, na ρ = some rs → rs.length = N) : Snd C (tCall (spD C N F) [] E0 ta) (mCall F na) := by
  intro O0 O H σ ρ r s h Q q
  obtain ⟨rs, en, h⟩ := bind2 h
  refine ha _ _ _ _ _ _ s en _ fun vs H1 e1 rr => ?_
  rw [List.append_nil]
  exact ret_res (s.mono e1).co s.co e1 (hl _ _ en) h rr fun v H2 e2 r2 => q v H2 (e1.trans e2) r2
theorem aNil_len : ∀ ρ rs, aNil ρ = some rs → rs.length = 0 := fun _ _ h => by cases h; rfl
theorem aCons_len {m : M} {n : As} {N : Nat} (h : ∀ ρ rs, n ρ = some rs → rs.length = N) : ∀ ρ rs, aCons m n ρ = some rs → rs.length = N + 1 := fun ρ rs hh => by
  unfold aCons at hh
  obtain ⟨r, _, hh⟩ := bind2 hh
  cases e : n ρ with
  | none => rw [e] at hh; cases hh
  | some rs' => rw [e] at hh; cases hh; simp [h _ _ e]
theorem de_call {k N : Nat} {f : Addr} {fd : FuncData} {ps : List Str} {F : FD} {x : Str} {p pos : Pos} {e : Expr} {es : List Expr} {ta : TA} {na : As} (G : FnOk X.prog X.w X.K X.mg X.base CX0 k f fd ps (spD C N F)) (hr : Room k X.A) (hm : X.mg x = some (.ref f)) (hk : PySem.W.keepIn X.K (.ref f) = true) (hb : Binds X.K fd ps [])
    (ha : DA C X (e :: es) ta na) (hl : ∀ ρ rs, na ρ = some rs → rs.length = N) (hg : Gl X x := by rfl) (hdb : (x == ("__debug__" : Str)) = false := by decide) (he : starEach (e :: es) X.env = (false, eval e X.env) :: starEach es X.env := by rfl) (hpl : (backTo pos (starEach es X.env)).any (·.1) = false := by rfl) :
    DE C X (.Call (.Name x p) (e :: es) [] pos) (tCall (spD C N F) [] E0 ta) (mCall F na) := ⟨pe_call G hr hg hm hk hb .nil pass0 ha.pa hdb he hpl, snd_call ha.sd hl⟩
end
end Dt

set_option maxRecDepth 100000
namespace Dt
open PySem PySem.Spec PyProof.Rows L2
open Evl (Ex)

structure DefAt (K : PySem.W.Frag) (mg : Str → Option Value) (nm : Str) (st : Stmt) (ps : List Str) where
  f : Addr
  fd : FuncData
  F : Fun K nm nm st f fd
  b : Binds K fd ps []
  m : mg nm = some (.ref f)
structure MethAt (K : PySem.W.Frag) (C : Addr) (nm qual : Str) (st : Stmt) (ps : List Str) where
  f : Addr
  fd : FuncData
  F : Fun K nm qual st f fd
  b : Binds K fd ps []
  me : Meth K C nm f
section
variable {C : Cfg} {K : PySem.W.Frag} {X : Cx} {O0 O O' : List Addr} {H0 H H' H1 : Hp} {σ : L2.St} {ρ : E}
variable {e o : Expr} {es : List Expr} {te to : TE} {me mo : M} {ta : TA} {na : As} {pos apos p : Pos}
def sExpr (m : M) : S := fun ρ => (m ρ).map fun _ => .nx ρ
theorem ds_expr (he : DE C X e te me) (hs : swapsWith e none pos.line X.env = pure false := by rfl) : DS C X (.Expr e pos) (tDrop te) (sExpr me) := by
  refine ⟨ps_expr he.pe hs, fun H0 O0 O H σ ρ o s h D g => ?_⟩
  unfold sExpr at h
  cases em : me ρ with
  | none => rw [em] at h; cases h
  | some r =>
    rw [em] at h; cases h
    exact he.sd _ _ _ _ _ _ s.toSV em _ fun v H1 e1 r1 => g _ _ _ (s.mono e1) (hid_mono e1)
def sRetN : S := fun ρ => some (.rt .non false)
theorem ds_retN : DS C X (.Return none pos) tRetN sRetN := ⟨ps_retN, fun H0 O0 O H σ ρ o s h D g => by cases h; exact g _ _ s.base (by unfold RetOk; simp; exact .non)⟩
/-- a, b = x, y -/
theorem ds_par (i j : Nat) {x y : Str} {a b : Expr} {px py pt : Pos} {kt k2 pt2} (hc : X.calm = true) (hN : X.N.Nodup) (ha : DA C X [a, b] ta na) (hi : X.N[i]? = some x := by rfl) (hj : X.N[j]? = some y := by rfl) (hij : i ≠ j := by decide)
    (hx : X.env.scope.names.lookup x = some .local := by rfl) (hy : X.env.scope.names.lookup y = some .local := by rfl)
    (hw : swappedStores [.Tuple [.Name x px, .Name y py] kt pt] (.Tuple [a, b] k2 pt2) X.env = pure (some [x, y]) := by rfl)
    (hs : swapsWithSole [.Tuple [.Name x px, .Name y py] kt pt] (.Tuple [a, b] k2 pt2) pos.line X.env = pure false := by rfl) :
    DS C X (.Assign [.Tuple [.Name x px, .Name y py] kt pt] (.Tuple [a, b] k2 pt2) pos) (tPar i j ta) (sPar i j na) := by
  refine ⟨ps_par hc hN hi hj hij hx hy ha.pa hw hs, fun H0 O0 O H σ ρ o s h D g => ?_⟩
  unfold sPar at h
  obtain ⟨rs, en, h⟩ := bind2 h
  split at h
  · rename_i d e'
    cases h
    refine ha.sd _ _ _ _ _ _ s.toSV en _ fun vs H1 e1 r1 => ?_
    obtain ⟨v, v', rfl, h1, h2⟩ := ress2 r1
    cases h1 with
    | pure w1 => cases h2 with
      | pure w2 => exact ⟨v, v', rfl, g _ _ _ (((s.mono e1).setP w1).setP w2) (hid_mono e1)⟩
  · cases h

/-! ### methods of a network -/
def isNetD : D → Bool | .net _ _ => true | _ => false
def mMeth (F : FD) (mo : M) (n : As) : M := fun ρ => (mo ρ).bind fun r => if isNetD r.1 then (n ρ).bind fun rs => (F (r.1 :: rs.map (·.1))).bind (postC (r :: rs)) else none
theorem de_meth {k N : Nat} {nm qual : Str} {st : Stmt} {ps : List Str} {F : FD} (NC : NetC X.K C.net) (A : MethAt X.K C.net nm qual st ps) (G : FnOk X.prog X.w X.K X.mg X.base CX0 k A.f A.fd ps (spD C (N + 1) F)) (hr : Room k X.A)
    (hlk : ∀ (w : Int) (x : V), List.lookup nm [(("wires" : Str), V.int w), (("comparers" : Str), x)] = none) (ho : DE C X o to mo) (ha : DA C X (e :: es) ta na) (hl : ∀ ρ rs, na ρ = some rs → rs.length = N) {pl : Sem Bool}
    (hst : starEach (e :: es) X.env = (false, eval e X.env) :: starEach es X.env := by rfl) (hpl : (backTo pos (starEach es X.env)).any (·.1) = false := by rfl)
    (ht : eval (.Call (.Attribute o nm apos) (e :: es) [] pos) X.env = (do
      let ov ← eval o X.env
      standAt apos.atName
      let (f, first) ← holding [ov] (getMethod ov nm pl)
      callWith pos f first (backTo pos (starEach (e :: es) X.env)) (backToKw pos (keywordEach [] X.env))) := by rfl) :
    DE C X (.Call (.Attribute o nm apos) (e :: es) [] pos) (tMeth C.net nm (spD C (N + 1) F) [] E0 to ta) (mMeth F mo na) := by
  refine ⟨pe_meth ho.pe NC.cl A.me G hr A.b .nil pass0 ha.pa hst hpl ht, fun O0 O H σ ρ r s h Q q => ?_⟩
  unfold mMeth at h
  obtain ⟨ro, eo, h⟩ := bind2 h
  split at h
  · rename_i hd
    obtain ⟨rs, en, h⟩ := bind2 h
    obtain ⟨d, fl⟩ := ro
    obtain ⟨w, c, rfl⟩ : ∃ w c, d = .net w c := by
      cases d <;> first | exact ⟨_, _, rfl⟩ | (simp [isNetD] at hd)
    refine ho.sd _ _ _ _ _ _ s eo _ fun v H1 e1 r1 => ?_
    obtain ⟨a, dx, x, rfl, h2, h3⟩ := r1.netE
    refine ⟨a, dx, _, rfl, h2, hlk w x, ?_⟩
    refine ha.sd _ _ _ _ _ _ (s.mono e1) en _ fun vs H2 e2 rr => ?_
    rw [List.append_nil]
    exact ret_res (rs := (.net w c, fl) :: rs) ((s.mono e1).mono e2).co s.co (e1.trans e2) (by simp [hl _ _ en]) h (.cons (r1.mono e2) (rr.back e1)) fun v H3 e3 r3 => q v H3 ((e1.trans e2).trans e3) r3
  · cases h

theorem look_run (w : Int) (x : V) : List.lookup ("run" : Str) [(("wires" : Str), V.int w), (("comparers" : Str), x)] = none := by
  have e1 : (("run" : Str) == ("wires" : Str)) = false := by decide +kernel
  have e2 : (("run" : Str) == ("comparers" : Str)) = false := by decide +kernel
  rw [List.lookup_cons, e1, List.lookup_cons, e2]; rfl

/-! ### networks made -/
def pairsOf : D → Option (List D)
  | .lst ds => some ds
  | .tup ds => some ds
  | _ => none
def okPair (w : Int) : D → Bool
  | .tup [.int i, .int j] => decide (0 ≤ i ∧ i < w ∧ 0 ≤ j ∧ j < w ∧ i ≠ j)
  | _ => false
def okPairs (w : Int) (ds : List D) : Bool := ds.all (okPair w)
theorem okPair_imm {w : Int} {d : D} (h : okPair w d = true) : imm d = true := by
  unfold okPair at h
  split at h
  · simp [imm, imms]
  · cases h
theorem okPairs_imms {w : Int} : ∀ {ds : List D}, okPairs w ds = true → imms ds = true
  | [], _ => by simp [imms]
  | d :: ds, h => by
    simp only [okPairs, List.all_cons, Bool.and_eq_true] at h
    simp only [imms, Bool.and_eq_true]
    exact ⟨okPair_imm h.1, okPairs_imms h.2⟩
def fNet : FN := fun rs => match rs with
  | [(.int w, _), (c, _)] => (pairsOf c).bind fun ds => if 1 ≤ w ∧ okPairs w ds = true ∧ ds.length ≤ lim then some (.net w (.tup ds), .pure) else none
  | _ => none
def spInit (C : Cfg) : Sp := fun vs H Q _ => ∃ O x dx cv w c ds, vs = [.ref x, .int w, cv] ∧ H x = some (.ins C.net dx []) ∧ x ∉ O ∧ (∀ a ∈ O, H a ≠ none) ∧ Rep C (hid H O) cv c ∧ pairsOf c = some ds ∧ 1 ≤ w ∧ okPairs w ds = true ∧ ds.length ≤ lim ∧
  ∀ H', (∀ b o, b ≠ x → H b = some o → H' b = some o) → Rep C (hid H' O) (.ref x) (.net w (.tup ds)) → Q .non H'
theorem snd_net (ha : SndA C ta na) : Snd C (tMake C.net (spInit C) [] E0 ta) (mFn fNet na) := by
  intro O0 O H σ ρ r s h Q q
  unfold mFn at h
  obtain ⟨rs, en, h⟩ := bind2 h
  unfold fNet at h
  split at h
  · rename_i w _ c _
    obtain ⟨ds, ec, h⟩ := bind2 h
    split at h
    · rename_i hk
      cases h
      refine ha _ _ _ _ _ _ s en _ fun vs H1 e1 rr => ?_
      intro x dx hx hdx hne
      obtain ⟨v1, v2, rfl, r1, r2⟩ := ress2 rr
      cases r1.intE
      have s1 := s.mono e1
      have xO : x ∉ O0 := fun z => s1.dom x (s.sub x z) hx
      have dO : dx ∉ O0 := fun z => s1.dom dx (s.sub dx z) hdx
      have e2 : Ex H1 (upd (upd H1 dx (.own x)) x (.ins C.net dx [])) := (Evl.Ex.new hdx).trans (Evl.Ex.new (by rw [upd_ne (Ne.symm hne)]; exact hx))
      refine ⟨O0, x, dx, v2, w, c, ds, rfl, upd_same, xO, fun a ha => (s1.mono e2).dom a (s.sub a ha), (r2.any s.sub s.dom).mono (hid_mono e2), ec, hk.1, hk.2.1, hk.2.2, fun H2 k rep => ⟨rfl, ?_⟩⟩
      have e12 : Ex H1 H2 := fun b o hb => by
        have hbx : b ≠ x := fun z => by rw [z, hx] at hb; cases hb
        exact k b o hbx (e2 b o hb)
      refine q _ _ (e1.trans e12) (.pure (Rep.ofImm (s1.mono e12).ll ?_ rep))
      simp only [imm]
      exact okPairs_imms hk.2.1
    · cases h
  · cases h
theorem de_net {k : Nat} {st : Stmt} {ps : List Str} {a b : Expr} {A : MethAt X.K C.net "__init__" "Network.__init__" st ps} (M : Mk X.K C.net A.f) (G : FnOk X.prog X.w X.K X.mg X.base CX0 k A.f A.fd ps (spInit C)) (hr : Room (k + 1) X.A) (hm : X.mg "Network" = some (.ref C.net)) (ha : DA C X [a, b] ta na)
    (hg : Gl X "Network" := by rfl) (he : starEach [a, b] X.env = (false, eval a X.env) :: starEach [b] X.env := by rfl) (hpl : (backTo pos (starEach [b] X.env)).any (·.1) = false := by rfl) :
    DE C X (.Call (.Name "Network" p) [a, b] [] pos) (tMake C.net (spInit C) [] E0 ta) (mFn fNet na) := ⟨pe_make M G hr hg hm A.b .nil pass0 ha.pa (by decide) he hpl, snd_net ha.sd⟩


/-! data of tuples and scalars alone -/
mutual
def okT : D → Bool
  | .tup ds => okTs ds | .lst _ => false | .net _ _ => false | .frz _ => false | .tmp _ => false | .dic _ _ => false | _ => true
def okTs : List D → Bool
  | [] => true
  | d :: ds => okT d && okTs ds
end
theorem okT_pairs {w : Int} {ds : List D} (h : okPairs w ds = true) : okT (.tup ds) = true := by
  simp only [okT]
  induction ds with
  | nil => simp [okTs]
  | cons d ds ih =>
    simp only [okPairs, List.all_cons, Bool.and_eq_true] at h
    simp only [okTs, Bool.and_eq_true]
    refine ⟨?_, ih h.2⟩
    have h1 := h.1
    unfold okPair at h1
    split at h1
    · simp [okT, okTs]
    · cases h1
mutual
theorem Rep.noNet {C : Cfg} {H : Hp} {O : List Addr} {x B dx : Addr} {fs gs : List (Str × V)} (hx : H x = some (.ins B dx fs)) : ∀ {d : D} {v : V}, okT d = true → Rep C (hid H O) v d → Rep C (hid (upd H x (.ins B dx gs)) O) v d
  | .non, _, _, h => by cases h; exact .non
  | .bl _, _, _, h => by cases h; exact .bl _
  | .int _, _, _, h => by cases h; exact .int _
  | .str _, _, _, h => by cases h; exact .str _
  | .opq _, _, _, h => by cases h; exact .opq _
  | .hol _, _, _, h => by cases h with | hol h1 => exact .hol h1
  | .dic _ _, _, i, _ => by simp [okT] at i
  | .lst _, _, i, _ => by simp [okT] at i
  | .net _ _, _, i, _ => by simp [okT] at i
  | .frz _, _, i, _ => by simp [okT] at i
  | .tmp _, _, i, _ => by simp [okT] at i
  | .tup ds, _, i, h => by
    cases h with
    | @tup a xs _ h1 h2 =>
      obtain ⟨ob, h1, hd⟩ := h1
      refine .tup (xs := xs) ⟨ob, ?_, hd⟩ (Reps.noNet hx (by simpa [okT] using i) h2)
      have hO : a ∉ O := fun z => by unfold hid at h1; rw [if_pos z] at h1; cases h1
      rw [hid_out hO] at h1 ⊢
      rw [upd_ne]
      · exact h1
      · intro z; rw [z, hx] at h1; cases h1
theorem Reps.noNet {C : Cfg} {H : Hp} {O : List Addr} {x B dx : Addr} {fs gs : List (Str × V)} (hx : H x = some (.ins B dx fs)) : ∀ {ds : List D} {vs : List V}, okTs ds = true → Reps C (hid H O) vs ds → Reps C (hid (upd H x (.ins B dx gs)) O) vs ds
  | [], _, _, h => by cases h; exact .nil
  | d :: ds, _, i, h => by
    simp only [okTs, Bool.and_eq_true] at i
    cases h with | cons h1 h2 => exact .cons (Rep.noNet hx i.1 h1) (Reps.noNet hx i.2 h2)
end

theorem putF2 {w : Int} {x : V} : putF ("comparers" : Str) x (putF ("wires" : Str) (V.int w) []) = [(("wires" : Str), V.int w), (("comparers" : Str), x)] := by
  have e : ¬ (("wires" : Str) = ("comparers" : Str)) := by decide +kernel
  show (if ("wires" : Str) = ("comparers" : Str) then _ else _) = _
  rw [if_neg e]; rfl
/-- __init__: its first three statements by the data layer, then the two stores -/
theorem init_ok {P : Program} {w : World} {mg : Str → Option Value} {base : Heap} {st s1 s2 s3 s4 s5 : Stmt} {f : Addr} {fd : FuncData} {N : List Str} {k : Nat} {m1 m2 m3 : S} (F : Fun K "__init__" "Network.__init__" st f fd) (NC : NetC K C.net) (Sc : FnScope N ["self", "wires", "comparers"] (defScope st))
    (hbody : defBody st = [s1, s2, s3, s4, s5]) (hN : N.length = 6)
    (hb : ∀ (cdv : Value) (A : Around) (outer : List Env) (s : Shared) (H : Hp) (E : XK), Room k (A.deeper (envOfC "Network.__init__" (defScope st) s.heap.objs.size f cdv)) →
      ∃ t1 t2 t3, DS C (cxOf CX0 P w K mg base N "Network.__init__" (defScope st) f cdv A outer s H E).nox s1 t1 m1 ∧ DS C (cxOf CX0 P w K mg base N "Network.__init__" (defScope st) f cdv A outer s H E).nox s2 t2 m2 ∧
        DS C (cxOf CX0 P w K mg base N "Network.__init__" (defScope st) f cdv A outer s H E).nox s3 t3 m3 ∧ PS (cxOf CX0 P w K mg base N "Network.__init__" (defScope st) f cdv A outer s H E).nox s4 (sFld K (tVar 0) (tVar 1) "wires") ∧
        PS (cxOf CX0 P w K mg base N "Network.__init__" (defScope st) f cdv A outer s H E).nox s5 (sFld K (tVar 0) (tVar 3) "comparers"))
    (hm : ∀ x w c ds, pairsOf c = some ds → 1 ≤ w → okPairs w ds = true → ds.length ≤ lim → ∃ ρ', sSeq m1 (sSeq m2 m3) [some (.opq x, false), some (.int w, false), some (c, false), none, none, none] = some (.nx ρ') ∧
      ρ'[0]? = some (some (.opq x, false)) ∧ ρ'[1]? = some (some (.int w, false)) ∧ ρ'[3]? = some (some (.tup ds, false))) :
    FnOk P w K mg base CX0 (k + 1) f fd ["self", "wires", "comparers"] (spInit C) := by
  refine F.ok Sc (fun vs H Q E h => ?_) fun cdv A outer s H vs Q E hr h => ?_
  · obtain ⟨O, x, dx, cv, w, c, ds, rfl, _⟩ := h; rfl
  · obtain ⟨O, x, dx, cv, w, c, ds, rfl, hx, xO, dm, rc, ec, hw, hok, hl, q⟩ := h
    obtain ⟨t1, t2, t3, d1, d2, d3, p4, p5⟩ := hb cdv A outer s H E hr
    rw [hbody]
    refine ⟨_, pss_cons d1.ps (pss_cons d2.ps (pss_cons d3.ps (pss_cons p4 (pss_one p5)))), ?_⟩
    obtain ⟨ρ', em, g0, g1, g3⟩ := hm x w c ds ec hw hok hl
    have s0 : SS C H O O H (L2.start N [.ref x, .int w, cv]) [some (.opq x, false), some (.int w, false), some (c, false), none, none, none] := by
      have est : L2.start N [.ref x, .int w, cv] = [some (.ref x), some (.int w), some cv, none, none, none] := by
        unfold L2.start; rw [hN]; rfl
      rw [est]
      refine ⟨⟨rfl, dm, fun _ h => h, fun a h h0 => absurd h h0, fun i d h => ?_, fun i d h => ?_, fun i j d e a h => ?_⟩, Evl.Ex.refl _, fun a h h0 => absurd h h0⟩
      · match i, h with
        | 0, h => cases h; exact ⟨_, rfl, .opq _⟩
        | 1, h => cases h; exact ⟨_, rfl, .int _⟩
        | 2, h => cases h; exact ⟨_, rfl, rc⟩
        | 3, h => cases h
        | 4, h => cases h
        | 5, h => cases h
        | n + 6, h => simp at h
      · match i, h with
        | 0, h => cases h
        | 1, h => cases h
        | 2, h => cases h
        | 3, h => cases h
        | 4, h => cases h
        | 5, h => cases h
        | n + 6, h => simp at h
      · match i, h with
        | 0, h => cases h
        | 1, h => cases h
        | 2, h => cases h
        | 3, h => cases h
        | 4, h => cases h
        | 5, h => cases h
        | n + 6, h => simp at h
    have key : SndS C (tSeq t1 (tSeq t2 t3)) (sSeq m1 (sSeq m2 m3)) := (dss_cons d1 (dss_cons d2 (dss_one d3))).sd
    have fin := key _ _ _ _ _ _ _ s0 em { nx := fun σ' H' => tSeq (sFld K (tVar 0) (tVar 1) "wires") (sFld K (tVar 0) (tVar 3) "comparers") { nx := fun _ H' => Q .non H', rt := Q } σ' H', rt := Q } fun O' H' σ' s' ex => by
      obtain ⟨v0, q0, r0⟩ := s'.sh 0 _ g0
      obtain ⟨v1, q1, r1⟩ := s'.sh 1 _ g1
      obtain ⟨v3, q3, r3⟩ := s'.sh 3 _ g3
      cases r0; cases r1
      have hx' : H' x = some (.ins C.net dx []) := s'.base _ _ hx
      refine ⟨_, q1, _, q0, x, C.net, dx, [], rfl, hx', NC.cl, NC.nw, by decide, ?_⟩
      refine ⟨_, q3, _, q0, x, C.net, dx, _, rfl, upd_same, NC.cl, NC.nc, by show 1 < 1000; omega, ?_⟩
      rw [upd_upd, putF2]
      have r3' : Rep C (hid H' O) v3 (.tup ds) := r3.mono (hid_sub s'.sub)
      refine q _ (fun b o hb h => by rw [upd_ne hb]; exact s'.base _ _ h) (.net (dx := dx) (x := v3) (by rw [hid_out xO, upd_same]) ?_)
      have imt : ∀ {v : V} {d : D}, okT d = true → Rep C (hid H' O) v d → Rep C (hid (upd H' x (.ins C.net dx [(("wires" : Str), V.int w), (("comparers" : Str), v3)])) O) v d := fun {v d} ho r => r.noNet hx' ho
      exact imt (okT_pairs hok) r3'
    exact fin
end
end Dt

set_option maxRecDepth 100000
namespace Dt
open PySem PySem.Spec PyProof.Rows L2
open Evl (Ex)
theorem kit_self {K : PySem.W.Frag} {C : Addr} : PySem.W.kitOne K (.ref C) (.ref C) = some true := by
  unfold PySem.W.kitOne
  rw [if_pos (by simp)]
def spLaw (K : PySem.W.Frag) : Sp := fun vs H Q _ => ∃ (a : Addr) (ns : List Int), vs = [.ref a] ∧ FrzL K H a ns ∧ ns.length ≤ 63 ∧ ∀ H', Q (.bl true) H'
theorem frz_of {K : PySem.W.Frag} {H : Hp} {a : Addr} {ns : List Int} (o : Only H) (h : SqL K H a (ns.map V.int)) : FrzL K H a ns := by
  rcases h with (h | ⟨ob, h⟩) | h
  · rcases o a with q | ⟨ob, xs, q⟩
    · rw [q] at h; cases h
    · rw [q] at h; cases h
  · exact .inl ⟨ob, h⟩
  · exact .inr fun H' => .inr h
theorem law_imp {P : Program} {w : World} {K : PySem.W.Frag} {mg : Str → Option Value} {base : Heap} {k : Nat} {f Cn : Addr} {fd : FuncData} {ps : List Str} {F : FD} {cs : List Addr} {dn : Addr → List V → List D → List V → Heap → Prop} (G : FnOk P w K mg base CX0 k f fd ps (spD ⟨Cn, K, cs, dn⟩ 1 F)) (h : ∀ ns : List Int, ns.length ≤ 63 → F [.frz ns] = some (.bl true, false)) : FnOk P w K mg base CX0 k f fd ps (spLaw K) :=
  G.imp fun vs H Q E ⟨a, ns, e, fr, hl, q⟩ => ⟨[], [.frz ns], .bl true, false, by rw [e]; rfl, (fun a h => by cases h), by rw [e]; exact .cons (.frz (fr.imp (fun ⟨o, z⟩ => ⟨o, by rw [hid_out (by simp)]; exact z⟩) id)) .nil, h ns hl, fun v H' _ r => by
    unfold RetOk at r
    have r' : Rep ⟨Cn, K, cs, dn⟩ (hid H' []) v (.bl true) := r
    cases r'
    exact q H'⟩
section
variable {K : PySem.W.Frag} {h : Heap} {mg : Str → Option Value} {nm qual : Str} {st : Stmt} {ps : List Str} {f C : Addr} {oc : Value} {od an : Option Addr} {osl : Array (Option Value)} {kV doc pm cdv ct : Value}
def defAt (X : K.In h) (G : h.Ns mainGlobals mg) (a : PySem.W.nsIn K mainGlobals nm = some (some (.ref f))) (l : K.lookup f = some ⟨oc, od, .func (PySem.W.fnOf nm nm (defArgs st) (defBody st) (defScope st) .none kV doc pm an cdv ct), osl⟩)
    (c : PySem.W.codeIn K cdv nm = true) (k : PySem.W.keepIn K (.ref f) = true)
    (hb : ∀ (kV doc pm : Value) (an : Option Addr) (cdv ct : Value) (us : List Value), us.length = ps.length → bindArgs (PySem.W.fnOf nm nm (defArgs st) (defBody st) (defScope st) .none kV doc pm an cdv ct) ⟨us, []⟩ = pure (ps.zip us)) : DefAt K mg nm st ps :=
  ⟨f, _, fun_mk l c k, (fun_mk l c k).binds hb, PySem.W.mg_of X G a⟩
def methAt (a : PySem.W.findIn K (.ref C) nm = some (some (.ref f))) (i : PySem.W.isFn K (.ref f) = true) (l : K.lookup f = some ⟨oc, od, .func (PySem.W.fnOf nm qual (defArgs st) (defBody st) (defScope st) .none kV doc pm an cdv ct), osl⟩)
    (c : PySem.W.codeIn K cdv qual = true) (k : PySem.W.keepIn K (.ref f) = true)
    (hb : ∀ (kV doc pm : Value) (an : Option Addr) (cdv ct : Value) (us : List Value), us.length = ps.length → bindArgs (PySem.W.fnOf nm qual (defArgs st) (defBody st) (defScope st) .none kV doc pm an cdv ct) ⟨us, []⟩ = pure (ps.zip us)) : MethAt K C nm qual st ps :=
  ⟨f, _, fun_mk l c k, (fun_mk l c k).binds hb, ⟨a, i, k⟩⟩
end
end Dt

set_option maxRecDepth 100000
namespace Dt
open PySem PySem.Spec PyProof.Rows L2
open Evl (Ex)
section
variable {C : Cfg} {K : PySem.W.Frag} {X : Cx} {O0 O O' : List Addr} {H0 H H' H1 : Hp} {σ : L2.St} {ρ : E}
variable {a b c e o : Expr} {es : List Expr} {ta tb te to : TE} {ma mb me mo : M} {t : TA} {n : As} {p p2 pos pos2 apos : Pos}

/-! ### a property -/
structure PropAt (K : PySem.W.Frag) (qual : Str) (st : Stmt) (ps : List Str) where
  f : Addr
  fd : FuncData
  F : Fun K "is_standard" qual st f fd
  b : Binds K fd ps []
def propAt {qual : Str} {st : Stmt} {ps : List Str} {f : Addr} {oc : Value} {od an : Option Addr} {osl : Array (Option Value)} {kV doc pm cdv ct : Value} (l : K.lookup f = some ⟨oc, od, .func (PySem.W.fnOf "is_standard" qual (defArgs st) (defBody st) (defScope st) .none kV doc pm an cdv ct), osl⟩)
    (c : PySem.W.codeIn K cdv qual = true) (k : PySem.W.keepIn K (.ref f) = true)
    (hb : ∀ (kV doc pm : Value) (an : Option Addr) (cdv ct : Value) (us : List Value), us.length = ps.length → bindArgs (PySem.W.fnOf "is_standard" qual (defArgs st) (defBody st) (defScope st) .none kV doc pm an cdv ct) ⟨us, []⟩ = pure (ps.zip us)) : PropAt K qual st ps :=
  ⟨f, _, fun_mk l c k, (fun_mk l c k).binds hb⟩
def mProp (F : FD) (mo : M) : M := fun ρ => (mo ρ).bind fun r => if isNetD r.1 then (F [r.1]).bind (postC [r]) else none
theorem de_prop {k : Nat} {nm : Str} {qual : Str} {st : Stmt} {ps : List Str} {F : FD} {A : PropAt X.K qual st ps} (NC : NetC X.K C.net) (hp : ∃ q, PropOf X.K C.net nm q A.f) (G : FnOk X.prog X.w X.K X.mg X.base CX0 k A.f A.fd ps (spD C 1 F)) (hr : Room (k + 1) X.A) (ho : DE C X o to mo)
    (hab : attributeBase o nm X.env (eval o X.env) = eval o X.env := by rfl) : DE C X (.Attribute o nm pos) (tProp C.net (spD C 1 F) [] E0 to) (mProp F mo) := by
  obtain ⟨q, hp⟩ := hp
  refine ⟨pe_prop ho.pe NC.cl hp G hr A.b .nil pass0 hab, fun O0 O H σ ρ r s h Q q => ?_⟩
  unfold mProp at h
  obtain ⟨ro, eo, h⟩ := bind2 h
  split at h
  · rename_i hd
    obtain ⟨d, fl⟩ := ro
    obtain ⟨w, c, rfl⟩ : ∃ w c, d = .net w c := by
      cases d <;> first | exact ⟨_, _, rfl⟩ | (simp [isNetD] at hd)
    refine ho.sd _ _ _ _ _ _ s eo _ fun v H1 e1 r1 => ?_
    obtain ⟨a, dx, x, rfl, h2, h3⟩ := r1.netE
    exact ⟨a, dx, _, rfl, h2, ret_res (rs := [(.net w c, fl)]) (s.mono e1).co s.co e1 rfl h (.cons r1 .nil) fun v H3 e3 r3 => q v H3 (e1.trans e3) r3⟩
  · cases h

/-! ### two networks equal -/
def eqRel (C : Cfg) (F : FD) (a b : Addr) (H : Hp) : Prop := ∃ d e, Rep C H (.ref a) d ∧ Rep C H (.ref b) e ∧ F [d, e] = some (.bl true, false)
def fNetEq (F : FD) : F2 := fun x y => if isNetD x.1 && isNetD y.1 then match F [x.1, y.1] with | some (.bl true, false) => some (.bl true, .pure) | _ => none else none
theorem de_netEq {k : Nat} {st : Stmt} {ps : List Str} {F : FD} {A : MethAt X.K C.net "__eq__" "Network.__eq__" st ps} (G : FnOk X.prog X.w X.K X.mg X.base CX0 k A.f A.fd ps (spD C 2 F)) (hr : Room k X.A) (ha : DE C X a ta ma) (hb : DE C X b tb mb) :
    DE C X (.Compare a [.Eq] [b] pos) (tOp (rEqG (DIns C.net (eqRel C F))) ta tb) (mOp (fNetEq F) ma mb) := by
  have G2 : FnOk X.prog X.w X.K X.mg X.base CX0 k A.f A.fd ps (spEq (eqRel C F)) := G.imp fun vs H Q E ⟨a, b, hv, ⟨d, e, r1, r2, hF⟩, q⟩ => by
    subst hv
    refine ⟨[], [d, e], .bl true, false, rfl, (fun a h => by cases h), .cons ?_ (.cons ?_ .nil), hF, fun v H' x r => ?_⟩
    · exact r1.mono fun a o h => by rw [hid_out (by simp)]; exact h
    · exact r2.mono fun a o h => by rw [hid_out (by simp)]; exact h
    · have r' : Rep C (hid H' []) v (.bl true) := r
      cases r'
      exact q H' x
  refine de_cmp (op_eqG (rcG_ins G2 A.me.at_ A.me.fn A.b pass0) hr) ?_ ha hb
  intro O0 O H H' x y rx ry rz c c' e r1 r2 hf Q q
  unfold fNetEq at hf
  split at hf
  · rename_i hk
    simp only [Bool.and_eq_true] at hk
    obtain ⟨d1, f1⟩ := rx
    obtain ⟨d2, f2⟩ := ry
    obtain ⟨w1, c1, rfl⟩ : ∃ w c, d1 = .net w c := by
      cases d1 <;> first | exact ⟨_, _, rfl⟩ | (simp [isNetD] at hk)
    obtain ⟨w2, c2, rfl⟩ : ∃ w c, d2 = .net w c := by
      cases d2 <;> first | exact ⟨_, _, rfl⟩ | (simp [isNetD] at hk)
    split at hf
    · rename_i hF
      cases hf
      have g1 := r1.full
      have g2 := r2.full
      obtain ⟨a, dx, xx, rfl, h1, _⟩ := r1.netE
      obtain ⟨b, dy, yy, rfl, h2, _⟩ := r2.netE
      exact ⟨⟨a, b, dx, dy, _, _, rfl, rfl, h1, h2, _, _, g1, g2, hF⟩, fun H'' x => q _ _ x .bl⟩
    · cases hf
  · cases hf

/-! ### list(range(n)), tuple(range(n)) -/
def fRng1 (f : List D → D × Fl) (m : M) : M := fun ρ => (m ρ).bind fun r => match r.1 with
  | .int j => if 0 ≤ j ∧ j ≤ 100000 then some (f (rngD 0 j.toNat)) else none
  | _ => none
theorem rgV_reps {j : Int} : Reps C H (rgV 0 j) (rngD 0 j.toNat) := by
  unfold rgV rngD
  rw [Int.sub_zero]
  generalize List.range j.toNat = l
  induction l with
  | nil => exact .nil
  | cons x l ih => exact .cons (.int _) ih
theorem de_listRg (hc : X.calm = true) (hg : Gl X "list") (hm : X.mg "list" = none) (hg2 : Gl X "range") (hm2 : X.mg "range" = none) (ha : DE C X a ta ma) (na : starEach [a] X.env = (false, eval a X.env) :: starEach [] X.env := by rfl)
    (na2 : starEach [.Call (.Name "range" p2) [a] [] pos2] X.env = (false, eval (.Call (.Name "range" p2) [a] [] pos2) X.env) :: starEach [] X.env := by rfl) :
    DE C X (.Call (.Name "list" p) [.Call (.Name "range" p2) [a] [] pos2] [] pos) (tLstRg (tRg1 ta)) (fRng1 (fun ds => (.lst ds, .fresh)) ma) := by
  refine ⟨pe_listRg hc hg hm (prg_1 hg2 hm2 ha.pe na) na2, fun O0 O H σ ρ r s h Q q => ?_⟩
  unfold fRng1 at h
  obtain ⟨rx, ea, h⟩ := bind2 h
  obtain ⟨d, fl⟩ := rx
  cases d with
  | int j =>
    replace h : (if 0 ≤ j ∧ j ≤ 100000 then some ((D.lst (rngD 0 j.toNat), Fl.fresh)) else none) = some r := h
    split at h
    · rename_i hk
      cases h
      refine ha.sd _ _ _ _ _ _ s ea _ fun v H1 e1 r1 => ⟨j, r1.intE, RgOk.of_le (by omega) (by omega) (by omega) (by omega), fun q' hq => ?_⟩
      exact q _ _ (e1.trans (Evl.Ex.new hq)) (res_lst e1 hq rgV_reps)
    · cases h
  | _ => cases h
theorem de_tupRg (hc : X.calm = true) (hg : Gl X "tuple") (hm : X.mg "tuple" = none) (hg2 : Gl X "range") (hm2 : X.mg "range" = none) (ha : DE C X a ta ma) (na : starEach [a] X.env = (false, eval a X.env) :: starEach [] X.env := by rfl)
    (na2 : starEach [.Call (.Name "range" p2) [a] [] pos2] X.env = (false, eval (.Call (.Name "range" p2) [a] [] pos2) X.env) :: starEach [] X.env := by rfl) :
    DE C X (.Call (.Name "tuple" p) [.Call (.Name "range" p2) [a] [] pos2] [] pos) (tTupRgN (tRg1 ta)) (fRng1 (fun ds => (.tup ds, .pure)) ma) := by
  refine ⟨peN_tupRg hc hg hm (prg_1 hg2 hm2 ha.pe na) na2, fun O0 O H σ ρ r s h Q q => ?_⟩
  unfold fRng1 at h
  obtain ⟨rx, ea, h⟩ := bind2 h
  obtain ⟨d, fl⟩ := rx
  cases d with
  | int j =>
    replace h : (if 0 ≤ j ∧ j ≤ 100000 then some ((D.tup (rngD 0 j.toNat), Fl.pure)) else none) = some r := h
    split at h
    · rename_i hk
      cases h
      refine ha.sd _ _ _ _ _ _ s ea _ fun v H1 e1 r1 => ⟨j, r1.intE, RgOk.of_le (by omega) (by omega) (by omega) (by omega), fun q' ob hq hd => ?_⟩
      exact q _ _ (e1.trans (Evl.Ex.new hq)) (res_tup (s.mono e1).co hq hd rgV_reps)
    · cases h
  | _ => cases h

/-! ### reversed(..), walked -/
theorem itv_ok {w : Bool} {a : Addr} {xs : List V} {ds : List D} (h1 : H1 a = some (.lst xs)) (hw : w = false → a ∉ O) (h2 : Reps C (hid H1 O) xs ds) : ItOk C w O H1 (Itv K a xs.length) ds.reverse := by
  intro H2 O2 hx e dm i
  have hl := h2.length
  have ha : H2 a = some (.lst xs) := by
    cases w with
    | true => exact hx rfl a _ h1
    | false => exact hid_ex _ _ (e a _ (by rw [hid_out (hw rfl)]; exact h1))
  refine ⟨fun d hd => ?_, fun hle => ?_⟩
  · have hi : i < ds.length := by have := (List.getElem?_eq_some_iff.mp hd).1; simpa using this
    have e2 : ds[xs.length - 1 - i]? = some d := by
      rw [List.getElem?_reverse hi] at hd
      rw [hl]; exact hd
    obtain ⟨v, e1, r⟩ := h2.get e2
    refine ⟨⟨by omega, xs, v, .inl (.inl ha), e1⟩, fun x H3 y => ?_⟩
    obtain ⟨rfl, y⟩ := y
    have := y xs (.inl (.inl ha))
    rw [e1] at this; cases this
    exact ⟨Evl.Ex.refl _, r.mono e⟩
  · have hx2 : xs.length ≤ i := by rw [List.length_reverse] at hle; omega
    exact hx2
theorem itvT_ok {w : Bool} {a : Addr} {xs : List V} {ds : List D} (h1 : TupN (hid H1 O) a xs) (h2 : Reps C (hid H1 O) xs ds) : ItOk C w O H1 (RT.ItvT K a xs.length) ds.reverse := by
  intro H2 O2 hx e dm i
  have hl := h2.length
  have ha : TupN H2 a xs := (h1.mono e).mono hid_ex
  refine ⟨fun d hd => ?_, fun hle => ?_⟩
  · have hi : i < ds.length := by have := (List.getElem?_eq_some_iff.mp hd).1; simpa using this
    have e2 : ds[xs.length - 1 - i]? = some d := by
      rw [List.getElem?_reverse hi] at hd
      rw [hl]; exact hd
    obtain ⟨v, e1, r⟩ := h2.get e2
    refine ⟨⟨by omega, xs, v, ha.sq, e1⟩, fun x H3 y => ?_⟩
    obtain ⟨rfl, y⟩ := y
    have := y xs ha.sq
    rw [e1] at this; cases this
    exact ⟨Evl.Ex.refl _, r.mono e⟩
  · have hx2 : xs.length ≤ i := by rw [List.length_reverse] at hle; omega
    exact hx2
def iRv (w : Bool) (m : M) : I := fun ρ => (iS w m ρ).map List.reverse
theorem di_rev {w : Bool} {tg : Expr} (hK : X.K = K) (hg : Gl X "reversed") (hm : X.mg "reversed" = none) (ha : DE C X a ta ma) (hs : starEach [a] X.env = (false, eval a X.env) :: starEach [] X.env := by rfl) : DI C w X tg (.Call (.Name "reversed" p) [a] [] pos) (RT.iRevA K ta) (iRv w ma) := by
  subst hK
  refine ⟨RT.pi_revA hg hm ha.pe hs, fun O0 O H σ ρ ds s h R q => ?_⟩
  unfold iRv iS at h
  cases ea : ma ρ with
  | none => rw [ea] at h; cases h
  | some rx =>
    rw [ea] at h
    obtain ⟨d, fl⟩ := rx
    refine ha.sd _ _ _ _ _ _ s ea _ fun v H1 e r => ?_
    cases d with
    | lst ds' =>
      replace h : ((if w || decide (fl ≠ .bor) then some ds' else none).map List.reverse) = some ds := h
      split at h
      · rename_i hk
        cases h
        obtain ⟨a, xs, rfl, h1, h2⟩ := r.lstE
        refine ⟨a, xs, rfl, .inl ⟨.inl (.inl h1), q _ _ e (itv_ok h1 (fun hw => ?_) h2)⟩⟩
        subst hw
        simp only [Bool.false_or, decide_eq_true_eq] at hk
        cases r with
        | pure w => cases w with
          | lst g _ => intro z; unfold hid at g; rw [if_pos z] at g; cases g
        | fresh g _ _ => exact fun z => s.dom _ z g
        | bor _ _ _ _ => exact absurd rfl hk
      · cases h
    | tup ds' =>
      cases h
      obtain ⟨a, xs, rfl, h1, h2⟩ := r.tupH
      exact ⟨a, xs, rfl, .inr ⟨(h1.mono hid_ex).sq, q _ _ e (itvT_ok h1 h2)⟩⟩
    | _ => cases h

/-! ### sorted of a tuple -/
def rSortT (K : PySem.W.Frag) : List V → Hp → VK → Prop := fun vs H Q => ∃ (a : Addr) (ns : List Int), vs = [V.ref a] ∧ SqT K H a (ns.map V.int) ∧
  ∀ (ns' : List Int) (p : Addr), ns'.Perm ns → ns'.Pairwise (· ≤ ·) → H p = none → Q (.ref p) (upd H p (.lst (ns'.map V.int)))
end
end Dt

set_option maxRecDepth 100000
namespace Dt
open PySem PySem.Spec PyProof.Rows L2
open Evl (Ex)
section
variable {prog : Program} {w : World} {A : Around} {E : Value → Shared → Prop} {s : Shared}
/-- sorted(t), t a tuple: the new list stands behind all that was -/
theorem sorted_ordT {l : Addr} {vs : List Value} {ltv : Value → Value → Bool} {Q : Value → Shared → Prop} (O : SrtO.Swo ltv) (hl : IsTup s.heap l vs.toArray) (hz : vs.length ≤ sizeLine)
    (hS : ∀ (h₁ : Heap) (a : Addr), 2 ≤ vs.length → SrtO.SortableO prog w A.in1.in1 { s with heap := h₁ } a vs ltv)
    (h : ∀ (out : List Value) (h1 h2 : Heap), SrtO.Srtd ltv out → SrtO.Stb ltv out vs → (∀ b o, s.heap.get? b = some o → h1.get? b = some o) → (∀ b o, h1.get? b = some o → h2.get? b = some o) → (∃ ep, h2.get? h1.objs.size = some (seqObj "list" out.toArray ep)) → Q (.ref h1.objs.size) { s with heap := h2 }) :
    wpAny (model prog w) A (call (.builtin "sorted") [.ref l]) Q E s := by
  obtain ⟨o, ho, hc, n, hd⟩ := hl
  have goal : wpAny (model prog w) A.in1 (Builtin.«sorted» ⟨[.ref l], []⟩) (fun f s' => ∃ v, f = .done (.ret v) ∧ Q v s') E s := by
    unfold Builtin.«sorted»
    refine wpAny_bind (m := checkCount "sorted" 1 1 _) (wpAny_pure (wpAny_bind (wpAny_collect_seq l (.inr rfl) ho hc hd (fun h1 k1 => wpAny_bind (wpAny_newList ?_ hz)) (by rw [List.size_toArray]; exact hz))))
    have hoL : (h1.push (seqObj "list" vs.toArray 0)).get? h1.objs.size = some (seqObj "list" vs.toArray 0) := Heap.get?_push_size _ rfl
    have fin : ∀ out : List Value, SrtO.Srtd ltv out → SrtO.Stb ltv out vs → Q (.ref h1.objs.size) { s with heap := sortedHeap (h1.push (seqObj "list" vs.toArray 0)) h1.objs.size vs out.toArray } := fun out hs hb =>
      h out h1 _ hs hb k1 (fun b o q => by
        have q2 := Heap.get?_push_of_some (seqObj "list" vs.toArray 0) q
        rw [sortedHeap_old (Nat.ne_of_lt (Heap.lt_size q)) (Heap.lt_size q2)]; exact q2) (sortedHeap_at (vs := vs) (out := out.toArray) hoL)
    exact wpAny_bind (wpAny_holding (wpAny_call_entry slot_list_sort ⟨_, hoL, rfl⟩ entry_list_sort (SrtO.list_sort_ord O hoL hz (fun h2 => hS _ _ h2) (fun out hs hb => ⟨_, rfl, wpAny_pure ⟨_, rfl, fin out hs hb⟩⟩)) (args_list_sort _)))
  exact Calls.call_function_entry kind_sorted plain_sorted entry_sorted (args_sorted1 _) goal
end
section
variable {C : Cfg} {K : PySem.W.Frag} {X : Cx} {O0 O O' : List Addr} {H0 H H' H1 : Hp} {σ : L2.St} {ρ : E}
variable {a b c e o : Expr} {es : List Expr} {ta tb te to : TE} {ma mb me mo : M} {t : TA} {n : As} {p p2 pos pos2 apos : Pos}
theorem cr_sortT : CallR X (.builtin "sorted") (rSortT X.K) := by
  intro pins s σ H vs us Q I r h
  obtain ⟨a, ns, rfl, hs, q⟩ := h
  obtain ⟨its, rv, hl, hz⟩ := I.tuple hs
  have hi := rv.ints
  rw [Vals.ref1 r]
  refine sorted_ordT SrtO.swo_int hl (by rw [← rv.length]; exact hz) (fun _ _ h2 => SrtO.ints_sortable hi h2) fun out h1 h2 o1 o2 k1 k2 he => ?_
  obtain ⟨w1, w2, w3⟩ := SrtO.ints_out hi o1 o2
  obtain ⟨ep, he⟩ := he
  have I1 := I.kept (t' := s.toks) k1
  have hlen : ((out.map SrtO.iv).map V.int).length ≤ sizeLine := by
    rw [List.length_map] at hz ⊢
    rw [w2.length_eq]; exact hz
  exact ⟨.ref h1.objs.size, upd H h1.objs.size (.lst ((out.map SrtO.iv).map V.int)), I1.laid (o := .lst ((out.map SrtO.iv).map V.int)) (t' := s.toks) k2 (Nat.le_refl _) ⟨hlen, out, ep, vals_of_ints w1, he⟩, rfl, q _ _ w2 w3 (I1.hok.fresh (Nat.le_refl _))⟩
/-! sorted of ints, on plain data -/
def getIs : List D → Option (List Int)
  | [] => some []
  | .int i :: ds => (getIs ds).map (i :: ·)
  | _ :: _ => none
theorem getIs_int : ∀ ns : List Int, getIs (ns.map .int) = some ns
  | [] => rfl
  | n :: ns => by simp [getIs, getIs_int ns]
theorem getIs_reps : ∀ {ds : List D} {xs : List V} {ns : List Int}, Reps C H xs ds → getIs ds = some ns → xs = ns.map V.int
  | [], xs, ns, h, e => by cases e; cases h; rfl
  | d :: ds, xs, ns, h, e => by
    cases h with
    | cons h1 h2 =>
      cases d with
      | int i =>
        cases h1
        unfold getIs at e
        cases er : getIs ds with
        | none => rw [er] at e; cases e
        | some ms =>
          rw [er] at e; cases e
          exact congrArg (V.int i :: ·) (getIs_reps h2 er)
      | _ => cases e
theorem reps_intsD : ∀ ns : List Int, Reps C H (ns.map V.int) (ns.map .int)
  | [] => .nil
  | n :: ns => .cons (.int n) (reps_intsD ns)
/-- ascending, by insertion -/
def insI (x : Int) : List Int → List Int
  | [] => [x]
  | y :: ys => if x ≤ y then x :: y :: ys else y :: insI x ys
def srtI : List Int → List Int
  | [] => []
  | x :: xs => insI x (srtI xs)
theorem insI_perm (x : Int) : ∀ ys, (insI x ys).Perm (x :: ys)
  | [] => .refl _
  | y :: ys => by
    unfold insI
    by_cases h : x ≤ y
    · rw [if_pos h]
    · rw [if_neg h]; exact ((insI_perm x ys).cons y).trans (.swap x y ys)
theorem srtI_perm : ∀ xs, (srtI xs).Perm xs
  | [] => .refl _
  | x :: xs => (insI_perm x _).trans ((srtI_perm xs).cons x)
theorem insI_srt (x : Int) : ∀ ys : List Int, ys.Pairwise (· ≤ ·) → (insI x ys).Pairwise (· ≤ ·)
  | [], _ => List.pairwise_singleton _ _
  | y :: ys, h => by
    have h1 := List.pairwise_cons.mp h
    unfold insI
    by_cases hx : x ≤ y
    · rw [if_pos hx]
      exact List.pairwise_cons.mpr ⟨fun z hz => by
        rcases List.mem_cons.mp hz with rfl | hz
        · exact hx
        · exact Int.le_trans hx (h1.1 z hz), h⟩
    · rw [if_neg hx]
      exact List.pairwise_cons.mpr ⟨fun z hz => by
        rcases List.mem_cons.mp ((insI_perm x ys).mem_iff.mp hz) with rfl | hz
        · omega
        · exact h1.1 z hz, insI_srt x ys h1.2⟩
theorem srtI_srt : ∀ xs : List Int, (srtI xs).Pairwise (· ≤ ·)
  | [] => .nil
  | x :: xs => insI_srt x _ (srtI_srt xs)
theorem srt_unique : ∀ {xs ys : List Int}, xs.Perm ys → xs.Pairwise (· ≤ ·) → ys.Pairwise (· ≤ ·) → xs = ys
  | [], ys, p, _, _ => (List.nil_perm.mp p).symm
  | x :: xs, [], p, _, _ => by have := p.length_eq; simp at this
  | x :: xs, y :: ys, p, h1, h2 => by
    have e1 := List.pairwise_cons.mp h1
    have e2 := List.pairwise_cons.mp h2
    have hxy : x = y := by
      have a : x ∈ y :: ys := p.mem_iff.mp List.mem_cons_self
      have b : y ∈ x :: xs := p.mem_iff.mpr List.mem_cons_self
      rcases List.mem_cons.mp a with h | h
      · exact h
      · rcases List.mem_cons.mp b with h' | h'
        · exact h'.symm
        · exact Int.le_antisymm (e1.1 y h') (e2.1 x h)
    subst hxy
    rw [srt_unique (List.perm_cons x |>.mp p) e1.2 e2.2]
def fSorted : FN := fun rs => match rs with
  | [(.lst ds, _)] => (getIs ds).map fun ns => (.lst ((srtI ns).map .int), .fresh)
  | [(.tup ds, _)] => (getIs ds).map fun ns => (.lst ((srtI ns).map .int), .fresh)
  | _ => none
theorem vc_sorted (hC : C.K = K) : VC C (fun xs H Q => rSortedI K xs H Q ∨ rSortT K xs H Q) fSorted := by
  intro O0 O H H' vs rs rz c c' e r1 hf Q q
  unfold fSorted at hf
  split at hf
  · rename_i ds _
    cases en : getIs ds with
    | none => rw [en] at hf; cases hf
    | some ns =>
      rw [en] at hf; cases hf
      obtain ⟨v, rfl, h⟩ := ress1 r1
      obtain ⟨p, xs, rfl, h1, h2⟩ := h.lstE
      have k1 := getIs_reps h2 en
      subst k1
      refine .inl ⟨p, ns, rfl, .inl (.inl h1), fun ns' l hp hs hl => ?_⟩
      have := srt_unique (hp.trans (srtI_perm ns).symm) hs (srtI_srt ns)
      subst this
      exact q _ _ (Evl.Ex.new hl) (res_lst e hl (reps_intsD _))
  · rename_i ds _
    cases en : getIs ds with
    | none => rw [en] at hf; cases hf
    | some ns =>
      rw [en] at hf; cases hf
      obtain ⟨v, rfl, h⟩ := ress1 r1
      obtain ⟨p, xs, rfl, h1, h2⟩ := h.tupE
      have k1 := getIs_reps h2 en
      subst k1
      refine .inr ⟨p, ns, rfl, h1.sq, fun ns' l hp hs hl => ?_⟩
      have := srt_unique (hp.trans (srtI_perm ns).symm) hs (srtI_srt ns)
      subst this
      exact q _ _ (Evl.Ex.new hl) (res_lst e hl (reps_intsD _))
  · cases hf
theorem de_sorted (hK : X.K = K) (hC : C.K = K) (hg : Gl X "sorted") (hm : X.mg "sorted" = none) (ha : DA C X [e] t n) (hs : starEach [e] X.env = (false, eval e X.env) :: starEach [] X.env := by rfl) (hpl : (backTo pos (starEach [] X.env)).any (·.1) = false := by rfl) :
    DE C X (.Call (.Name "sorted" p) [e] [] pos) (tCB (fun xs H Q => rSortedI K xs H Q ∨ rSortT K xs H Q) t) (mFn fSorted n) := by
  subst hK; exact de_callB (cr_sortedI.or cr_sortT) (vc_sorted hC) hg hm (by decide +kernel) ha (by decide) (by decide) hs hpl
end
end Dt

set_option maxRecDepth 100000
namespace Dt
open PySem PySem.Spec PyProof.Rows L2
open Evl (Ex)
section
variable {prog : Program} {w : World} {A : Around} {E : Value → Shared → Prop} {s : Shared}
theorem max_intTup {l : Addr} {xs : Array (Int × Nat)} {Q : Value → Shared → Prop} (hh : A.handled = none) (hl : s.heap.IsTuple l (intItems xs)) (hne : 0 < xs.size)
    (h : ∀ v h' tk, (intItems xs)[argBest (fun i j => decide (numAt xs i > numAt xs j)) (xs.size - 1)]? = some v → (∀ b o, s.heap.get? b = some o → h'.get? b = some o) → Q v { s with heap := h', toks := tk }) :
    wpAny (model prog w) A (call (.builtin "max") [.ref l]) Q E s := by
  have hlt : l < s.heap.objs.size := let ⟨_, e, _⟩ := hl; Heap.lt_size e
  have zlt : ∀ b ∈ [s.heap.objs.size, l], b < (s.heap.push { cls := .type "tuple_iterator", data := .fields #[.ref l, .int 0 0] }).objs.size := fun b hb => by
    rw [Heap.size_push]
    simp only [List.mem_cons, List.not_mem_nil, or_false] at hb
    rcases hb with rfl | rfl
    · exact Nat.lt_succ_self _
    · exact Nat.lt_succ_of_lt hlt
  refine call_max_walk (wpAny_pyIter_tuple hl ?_)
  refine ⟨_, _, _, _, _, _, _, rfl, Walks.tuple (A := A.in1) hh _ l (Nat.ne_of_lt hlt) (intItems xs), ⟨⟨_, Heap.get?_push_size _ rfl, rfl, rfl⟩, hl.push _⟩, zlt, by simpa [intItems] using hne, CmpOf.ints_gt (numAt xs) (fun _ _ => intItems_at), fun v h' tk hP hk => ?_⟩
  refine h v h' tk (by simpa [intItems] using hP) fun b o e => hk b o (fun hm => ?_) (Heap.get?_push_of_some _ e)
  simp only [List.mem_cons, List.not_mem_nil, or_false] at hm
  subst hm
  exact absurd (Heap.lt_size e) (Nat.lt_irrefl _)
theorem min_intTup {l : Addr} {xs : Array (Int × Nat)} {Q : Value → Shared → Prop} (hh : A.handled = none) (hl : s.heap.IsTuple l (intItems xs)) (hne : 0 < xs.size)
    (h : ∀ v h' tk, (intItems xs)[argBest (fun i j => decide (numAt xs i < numAt xs j)) (xs.size - 1)]? = some v → (∀ b o, s.heap.get? b = some o → h'.get? b = some o) → Q v { s with heap := h', toks := tk }) :
    wpAny (model prog w) A (call (.builtin "min") [.ref l]) Q E s := by
  have hlt : l < s.heap.objs.size := let ⟨_, e, _⟩ := hl; Heap.lt_size e
  have zlt : ∀ b ∈ [s.heap.objs.size, l], b < (s.heap.push { cls := .type "tuple_iterator", data := .fields #[.ref l, .int 0 0] }).objs.size := fun b hb => by
    rw [Heap.size_push]
    simp only [List.mem_cons, List.not_mem_nil, or_false] at hb
    rcases hb with rfl | rfl
    · exact Nat.lt_succ_self _
    · exact Nat.lt_succ_of_lt hlt
  refine call_min_walk (wpAny_pyIter_tuple hl ?_)
  refine ⟨_, _, _, _, _, _, _, rfl, Walks.tuple (A := A.in1) hh _ l (Nat.ne_of_lt hlt) (intItems xs), ⟨⟨_, Heap.get?_push_size _ rfl, rfl, rfl⟩, hl.push _⟩, zlt, by simpa [intItems] using hne, CmpOf.ints_lt (numAt xs) (fun _ _ => intItems_at), fun v h' tk hP hk => ?_⟩
  refine h v h' tk (by simpa [intItems] using hP) fun b o e => hk b o (fun hm => ?_) (Heap.get?_push_of_some _ e)
  simp only [List.mem_cons, List.not_mem_nil, or_false] at hm
  subst hm
  exact absurd (Heap.lt_size e) (Nat.lt_irrefl _)
theorem max_rawT {l : Addr} {its : List Value} {ns : List Int} {Q : Value → Shared → Prop} (hh : A.handled = none) (hl : s.heap.IsTuple l its.toArray) (hi : IntsAre its ns) (hne : 0 < ns.length)
    (h : ∀ h' tk M t', (∀ b o, s.heap.get? b = some o → h'.get? b = some o) → M ∈ ns → (∀ a, a ∈ ns → a ≤ M) → Q (.int M t') { s with heap := h', toks := tk }) : wpAny (model prog w) A (call (.builtin "max") [.ref l]) Q E s := by
  obtain ⟨xs, e⟩ := hi.allInts.items
  have hn : numsOf (intItems xs).toList = ns := by rw [← e]; exact hi.numsOf
  rw [nums_intItems] at hn; subst hn
  rw [e] at hl
  refine max_intTup hh hl (by simpa using hne) fun v h' tk hv hk => ?_
  obtain ⟨t, rfl⟩ := intItems_at hv
  obtain ⟨q1, q2⟩ := argBest_gt (numAt xs) (xs.size - 1)
  have hsz : 0 < xs.size := by simpa using hne
  refine h h' tk _ t hk (by rw [numAt_eq]; exact PySem.getD_mem (by rw [List.length_map, Array.length_toList]; omega)) fun a ha => ?_
  obtain ⟨j, hj, rfl⟩ := mem_getD ha
  rw [List.length_map, Array.length_toList] at hj; rw [← numAt_eq]; exact q2 j (by omega)
theorem min_rawT {l : Addr} {its : List Value} {ns : List Int} {Q : Value → Shared → Prop} (hh : A.handled = none) (hl : s.heap.IsTuple l its.toArray) (hi : IntsAre its ns) (hne : 0 < ns.length)
    (h : ∀ h' tk M t', (∀ b o, s.heap.get? b = some o → h'.get? b = some o) → M ∈ ns → (∀ a, a ∈ ns → M ≤ a) → Q (.int M t') { s with heap := h', toks := tk }) : wpAny (model prog w) A (call (.builtin "min") [.ref l]) Q E s := by
  obtain ⟨xs, e⟩ := hi.allInts.items
  have hn : numsOf (intItems xs).toList = ns := by rw [← e]; exact hi.numsOf
  rw [nums_intItems] at hn; subst hn
  rw [e] at hl
  refine min_intTup hh hl (by simpa using hne) fun v h' tk hv hk => ?_
  obtain ⟨t, rfl⟩ := intItems_at hv
  obtain ⟨q1, q2⟩ := argBest_lt (numAt xs) (xs.size - 1)
  have hsz : 0 < xs.size := by simpa using hne
  refine h h' tk _ t hk (by rw [numAt_eq]; exact PySem.getD_mem (by rw [List.length_map, Array.length_toList]; omega)) fun a ha => ?_
  obtain ⟨j, hj, rfl⟩ := mem_getD ha
  rw [List.length_map, Array.length_toList] at hj; rw [← numAt_eq]; exact q2 j (by omega)
end
section
variable {C : Cfg} {K : PySem.W.Frag} {X : Cx} {O0 O O' : List Addr} {H0 H H' H1 : Hp} {σ : L2.St} {ρ : E}
variable {a b c e o : Expr} {es : List Expr} {ta tb te to : TE} {ma mb me mo : M} {t : TA} {n : As} {p p2 pos pos2 apos : Pos}
def rMaxT (K : PySem.W.Frag) : List V → Hp → VK → Prop := fun vs H Q => ∃ (a : Addr) (ns : List Int), vs = [V.ref a] ∧ SqT K H a (ns.map V.int) ∧ 0 < ns.length ∧ ∀ m, m ∈ ns → (∀ y, y ∈ ns → y ≤ m) → Q (.int m) H
theorem cr_maxT (hc : X.calm = true) : CallR X (.builtin "max") (rMaxT X.K) := by
  intro pins s σ H vs us Q I r h
  obtain ⟨a, ns, rfl, hs, hne, q⟩ := h
  obtain ⟨its, rv, hl, _⟩ := I.tuple hs
  rw [Vals.ref1 r]
  exact max_rawT (I.ok.hd hc) hl rv.ints hne fun h' tk m t' hk h1 h2 => ⟨.int _, H, I.kept hk, ⟨_, rfl⟩, q m h1 h2⟩
def rMinT (K : PySem.W.Frag) : List V → Hp → VK → Prop := fun vs H Q => ∃ (a : Addr) (ns : List Int), vs = [V.ref a] ∧ SqT K H a (ns.map V.int) ∧ 0 < ns.length ∧ ∀ m, m ∈ ns → (∀ y, y ∈ ns → m ≤ y) → Q (.int m) H
theorem cr_minT (hc : X.calm = true) : CallR X (.builtin "min") (rMinT X.K) := by
  intro pins s σ H vs us Q I r h
  obtain ⟨a, ns, rfl, hs, hne, q⟩ := h
  obtain ⟨its, rv, hl, _⟩ := I.tuple hs
  rw [Vals.ref1 r]
  exact min_rawT (I.ok.hd hc) hl rv.ints hne fun h' tk m t' hk h1 h2 => ⟨.int _, H, I.kept hk, ⟨_, rfl⟩, q m h1 h2⟩
def bestMax (x : Int) (xs : List Int) : Int := xs.foldl (fun a b => if b > a then b else a) x
theorem bestMax_in (x : Int) : ∀ xs : List Int, bestMax x xs ∈ x :: xs
  | [] => List.mem_singleton.mpr rfl
  | y :: ys => by
    show bestMax (if y > x then y else x) ys ∈ _
    have := bestMax_in (if y > x then y else x) ys
    rcases List.mem_cons.mp this with h | h
    · rw [h]; split <;> simp
    · simp [h]
theorem bestMax_le (x : Int) : ∀ (xs : List Int), ∀ y ∈ x :: xs, y ≤ bestMax x xs
  | [], y, hy => by rw [List.mem_singleton] at hy; subst hy; exact Int.le_refl _
  | z :: zs, y, hy => by
    show y ≤ bestMax (if z > x then z else x) zs
    have ih := bestMax_le (if z > x then z else x) zs
    rcases List.mem_cons.mp hy with h | h
    · have h0 := ih _ List.mem_cons_self
      subst h
      by_cases hz : z > y
      · rw [if_pos hz] at h0 ⊢; omega
      · rw [if_neg hz] at h0 ⊢; omega
    · rcases List.mem_cons.mp h with h | h
      · have h0 := ih _ List.mem_cons_self
        subst h
        by_cases hz : y > x
        · rw [if_pos hz] at h0 ⊢; omega
        · rw [if_neg hz] at h0 ⊢; omega
      · exact ih y (List.mem_cons_of_mem _ h)
def fMax1 : FN := fun rs => match rs with
  | [(.lst ds, _)] => (getIs ds).bind fun ns => match ns with | [] => none | x :: xs => some (.int (bestMax x xs), .pure)
  | [(.tup ds, _)] => (getIs ds).bind fun ns => match ns with | [] => none | x :: xs => some (.int (bestMax x xs), .pure)
  | _ => none
theorem vc_max1 (hC : C.K = K) : VC C (fun xs H Q => rMax K xs H Q ∨ rMaxT K xs H Q) fMax1 := by
  intro O0 O H H' vs rs rz c c' e r1 hf Q q
  have uniq : ∀ {x : Int} {xs : List Int} {m : Int}, m ∈ x :: xs → (∀ y, y ∈ x :: xs → y ≤ m) → m = bestMax x xs := fun {x xs m} h1 h2 => by
    have a := bestMax_in x xs
    have b := bestMax_le x xs m h1
    have c := h2 _ a
    omega
  unfold fMax1 at hf
  split at hf
  · rename_i ds _
    obtain ⟨ns, en, hf⟩ := bind2 hf
    cases ns with
    | nil => cases hf
    | cons x xs =>
      cases hf
      obtain ⟨v, rfl, h⟩ := ress1 r1
      obtain ⟨p, ys, rfl, h1, h2⟩ := h.lstE
      have k1 := getIs_reps h2 en
      subst k1
      exact .inl ⟨p, x :: xs, rfl, .inl (.inl h1), Nat.succ_pos _, fun m hm hy => by rw [uniq hm hy]; exact q _ _ (Evl.Ex.refl _) .int⟩
  · rename_i ds _
    obtain ⟨ns, en, hf⟩ := bind2 hf
    cases ns with
    | nil => cases hf
    | cons x xs =>
      cases hf
      obtain ⟨v, rfl, h⟩ := ress1 r1
      obtain ⟨p, ys, rfl, h1, h2⟩ := h.tupE
      have k1 := getIs_reps h2 en
      subst k1
      exact .inr ⟨p, x :: xs, rfl, h1.sq, Nat.succ_pos _, fun m hm hy => by rw [uniq hm hy]; exact q _ _ (Evl.Ex.refl _) .int⟩
  · cases hf
theorem de_max1 (hK : X.K = K) (hC : C.K = K) (hc : X.calm = true) (hg : Gl X "max") (hm : X.mg "max" = none) (ha : DA C X [e] t n) (hs : starEach [e] X.env = (false, eval e X.env) :: starEach [] X.env := by rfl) (hpl : (backTo pos (starEach [] X.env)).any (·.1) = false := by rfl) :
    DE C X (.Call (.Name "max" p) [e] [] pos) (tCB (fun xs H Q => rMax K xs H Q ∨ rMaxT K xs H Q) t) (mFn fMax1 n) := by
  subst hK; exact de_callB ((cr_max hc).or (cr_maxT hc)) (vc_max1 hC) hg hm (by decide +kernel) ha (by decide) (by decide) hs hpl
def bestMin (x : Int) (xs : List Int) : Int := xs.foldl (fun a b => if b < a then b else a) x
theorem bestMin_in (x : Int) : ∀ xs : List Int, bestMin x xs ∈ x :: xs
  | [] => List.mem_singleton.mpr rfl
  | y :: ys => by
    show bestMin (if y < x then y else x) ys ∈ _
    have := bestMin_in (if y < x then y else x) ys
    rcases List.mem_cons.mp this with h | h
    · rw [h]; split <;> simp
    · simp [h]
theorem bestMin_le (x : Int) : ∀ (xs : List Int), ∀ y ∈ x :: xs, bestMin x xs ≤ y
  | [], y, hy => by rw [List.mem_singleton] at hy; subst hy; exact Int.le_refl _
  | z :: zs, y, hy => by
    show bestMin (if z < x then z else x) zs ≤ y
    have ih := bestMin_le (if z < x then z else x) zs
    rcases List.mem_cons.mp hy with h | h
    · have h0 := ih _ List.mem_cons_self
      subst h
      by_cases hz : z < y
      · rw [if_pos hz] at h0 ⊢; omega
      · rw [if_neg hz] at h0 ⊢; omega
    · rcases List.mem_cons.mp h with h | h
      · have h0 := ih _ List.mem_cons_self
        subst h
        by_cases hz : y < x
        · rw [if_pos hz] at h0 ⊢; omega
        · rw [if_neg hz] at h0 ⊢; omega
      · exact ih y (List.mem_cons_of_mem _ h)
def fMin1 : FN := fun rs => match rs with
  | [(.lst ds, _)] => (getIs ds).bind fun ns => match ns with | [] => none | x :: xs => some (.int (bestMin x xs), .pure)
  | [(.tup ds, _)] => (getIs ds).bind fun ns => match ns with | [] => none | x :: xs => some (.int (bestMin x xs), .pure)
  | _ => none
theorem vc_min1 (hC : C.K = K) : VC C (fun xs H Q => rMin K xs H Q ∨ rMinT K xs H Q) fMin1 := by
  intro O0 O H H' vs rs rz c c' e r1 hf Q q
  have uniq : ∀ {x : Int} {xs : List Int} {m : Int}, m ∈ x :: xs → (∀ y, y ∈ x :: xs → m ≤ y) → m = bestMin x xs := fun {x xs m} h1 h2 => by
    have a := bestMin_in x xs
    have b := bestMin_le x xs m h1
    have c := h2 _ a
    omega
  unfold fMin1 at hf
  split at hf
  · rename_i ds _
    obtain ⟨ns, en, hf⟩ := bind2 hf
    cases ns with
    | nil => cases hf
    | cons x xs =>
      cases hf
      obtain ⟨v, rfl, h⟩ := ress1 r1
      obtain ⟨p, ys, rfl, h1, h2⟩ := h.lstE
      have k1 := getIs_reps h2 en
      subst k1
      exact .inl ⟨p, x :: xs, rfl, .inl (.inl h1), Nat.succ_pos _, fun m hm hy => by rw [uniq hm hy]; exact q _ _ (Evl.Ex.refl _) .int⟩
  · rename_i ds _
    obtain ⟨ns, en, hf⟩ := bind2 hf
    cases ns with
    | nil => cases hf
    | cons x xs =>
      cases hf
      obtain ⟨v, rfl, h⟩ := ress1 r1
      obtain ⟨p, ys, rfl, h1, h2⟩ := h.tupE
      have k1 := getIs_reps h2 en
      subst k1
      exact .inr ⟨p, x :: xs, rfl, h1.sq, Nat.succ_pos _, fun m hm hy => by rw [uniq hm hy]; exact q _ _ (Evl.Ex.refl _) .int⟩
  · cases hf
theorem de_min1 (hK : X.K = K) (hC : C.K = K) (hc : X.calm = true) (hg : Gl X "min") (hm : X.mg "min" = none) (ha : DA C X [e] t n) (hs : starEach [e] X.env = (false, eval e X.env) :: starEach [] X.env := by rfl) (hpl : (backTo pos (starEach [] X.env)).any (·.1) = false := by rfl) :
    DE C X (.Call (.Name "min" p) [e] [] pos) (tCB (fun xs H Q => rMin K xs H Q ∨ rMinT K xs H Q) t) (mFn fMin1 n) := by
  subst hK; exact de_callB ((cr_min hc).or (cr_minT hc)) (vc_min1 hC) hg hm (by decide +kernel) ha (by decide) (by decide) hs hpl
end
end Dt

set_option maxRecDepth 100000
namespace Dt
open PySem PySem.Spec PyProof.Rows L2
open Evl (Ex)
section
variable {C : Cfg} {K : PySem.W.Frag} {X : Cx} {O0 O O' : List Addr} {H0 H H' H1 H2 : Hp} {σ : L2.St} {ρ : E}
/-- kept, but for one list -/
def ExD (Dl : Addr) (H H' : Hp) : Prop := ∀ b o, b ≠ Dl → H b = some o → H' b = some o
theorem ExD.refl {Dl : Addr} : ExD Dl H H := fun _ _ _ h => h
theorem ExD.of (e : Ex H H') {Dl : Addr} : ExD Dl H H' := fun b o _ h => e b o h
theorem ExD.trans {Dl : Addr} (a : ExD Dl H H1) (b : ExD Dl H1 H2) : ExD Dl H H2 := fun c o n h => b c o n (a c o n h)
theorem ExD.put {Dl : Addr} {o : HO} : ExD Dl H (upd H Dl o) := fun b u n h => by rw [upd_ne n]; exact h
theorem ExD.ex {Dl : Addr} (a : ExD Dl H H1) (h0 : H0 Dl = none) (e : Ex H0 H) : Ex H0 H1 := fun b o h => a b o (fun z => by subst z; rw [h0] at h; cases h) (e b o h)
theorem ExD.hid {Dl : Addr} (a : ExD Dl H H1) (m : Dl ∈ O) : Ex (hid H O) (hid H1 O) := fun b o h => by
  unfold Dt.hid at h ⊢
  split at h
  · cases h
  · rename_i n
    rw [if_neg n]
    exact a b o (fun z => n (z ▸ m)) h
theorem SV.exD {Dl : Addr} {xs : List V} (s : SV C (Dl :: O0) (Dl :: O) H σ ρ) (x : ExD Dl H H') (ha : H' Dl = some (.lst xs)) : SV C (Dl :: O0) (Dl :: O) H' σ ρ where
  len := s.len
  dom := fun b hb z => by
    by_cases hd : b = Dl
    · subst hd; rw [ha] at z; cases z
    · cases q : H b with
      | none => exact s.dom b hb q
      | some o => have := x b o hd q; rw [z] at this; cases this
  sub := s.sub
  ll := fun b hb h0 => by
    obtain ⟨ys, e⟩ := s.ll b hb h0
    exact ⟨ys, x _ _ (fun z => h0 (z ▸ List.mem_cons_self)) e⟩
  sh := fun i d h => let ⟨v, q, r⟩ := s.sh i d h; ⟨v, q, r.mono (x.hid List.mem_cons_self)⟩
  ow := fun i d h => let ⟨b, ys, ds, q1, q2, q3, q4, q5, q6⟩ := s.ow i d h; ⟨b, ys, ds, q1, q2, q3, q4, x _ _ (fun z => q4 (z ▸ List.mem_cons_self)) q5, q6.mono (x.hid List.mem_cons_self)⟩
  inj := s.inj
theorem SV.hide2 {a : Addr} {xs : List V} (s : SV C O0 O H1 σ ρ) (hn : H1 a = none) (e : Ex H1 H') (ha : H' a = some (.lst xs)) : SV C (a :: O0) (a :: O) H' σ ρ where
  len := s.len
  dom := (s.hide hn e ha).dom
  sub := fun b hb => by
    rcases List.mem_cons.mp hb with rfl | hb
    · exact List.mem_cons_self
    · exact List.mem_cons_of_mem _ (s.sub b hb)
  ll := fun b hb h0 => (s.hide hn e ha).ll b hb fun z => h0 (List.mem_cons_of_mem _ z)
  sh := (s.hide hn e ha).sh
  ow := fun i d h => by
    obtain ⟨b, ys, ds, q1, q2, q3, q4, q5, q6⟩ := s.ow i d h
    exact ⟨b, ys, ds, q1, q2, List.mem_cons_of_mem _ q3, fun z => by
      rcases List.mem_cons.mp z with rfl | z
      · rw [hn] at q5; cases q5
      · exact q4 z, e _ _ q5, (q6.mono (hid_new hn)).mono (hid_mono e)⟩
  inj := s.inj
/-! ### a comprehension with two for -/
def lcGo2 (g : D → E → Option E) (mt : B) (mi1 : I) (g1 : D → E → Option E) (mt1 : B) (me : M) (vs1 : List Nat) : List D → E → Option (List D)
  | [], _ => some []
  | d :: ds, ρ => (g d ρ).bind fun ρ1 => (mt ρ1).bind fun k => if k then (mi1 ρ1).bind fun ds1 => (lcGo g1 mt1 me ds1 (wipeE ρ1 vs1)).bind fun es => (lcGo2 g mt mi1 g1 mt1 me vs1 ds ρ).map fun fs => es ++ fs else lcGo2 g mt mi1 g1 mt1 me vs1 ds ρ
def mLc2 (mi : I) (g : D → E → Option E) (mt : B) (mi1 : I) (g1 : D → E → Option E) (mt1 : B) (me : M) (vs vs1 : List Nat) : M := fun ρ => (mi ρ).bind fun ds => (lcGo2 g mt mi1 g1 mt1 me vs1 ds (wipeE ρ vs)).bind fun es => if es.length ≤ lim then some (.lst es, .fresh) else none
variable {wi wi1 : TI} {g g1 : TG} {tt tt1 : TT} {te : TE} {mi mi1 : I} {mg mg1 : D → E → Option E} {mt mt1 : B} {me : M} {js js1 : List Nat}
theorem snd_lc2 {vs vs1 : List Nat} (hi : ∀ O0 O H σ ρ ds, SV C O0 O H σ ρ → mi ρ = some ds → ∀ R : It → Hp → Prop, (∀ J H1, Ex H H1 → ItOk C true O H1 J ds → R J H1) → wi σ H R)
    (hg : ∀ O0 O H σ ρ ρ' d v, SV C O0 O H σ ρ → Rep C (hid H O) v d → mg d ρ = some ρ' → ∀ Q : L2.St → Hp → Prop, (∀ σ', SV C O0 O H σ' ρ' → (∀ vs, (∀ j ∈ js, j ∈ vs) → wipe σ' vs = wipe σ vs) → Q σ' H) → g v σ H Q)
    (ht : SndT C tt mt)
    (hi1 : ∀ O0 O H σ ρ ds, SV C O0 O H σ ρ → mi1 ρ = some ds → ∀ R : It → Hp → Prop, (∀ J H1, Ex H H1 → ItOk C false O H1 J ds → R J H1) → wi1 σ H R)
    (hg1 : ∀ O0 O H σ ρ ρ' d v, SV C O0 O H σ ρ → Rep C (hid H O) v d → mg1 d ρ = some ρ' → ∀ Q : L2.St → Hp → Prop, (∀ σ', SV C O0 O H σ' ρ' → (∀ vs, (∀ j ∈ js1, j ∈ vs) → wipe σ' vs = wipe σ vs) → Q σ' H) → g1 v σ H Q)
    (ht1 : SndT C tt1 mt1) (he : Snd C te me) (hj : ∀ j ∈ js, j ∈ vs) (hj1 : ∀ j ∈ js1, j ∈ vs1) : Snd C (tLc2 wi g tt wi1 g1 tt1 te vs vs1) (mLc2 mi mg mt mi1 mg1 mt1 me vs vs1) := by
  intro O0 O H σ ρ r s h Q q
  unfold mLc2 at h
  obtain ⟨ds, ei, h⟩ := bind2 h
  obtain ⟨es, el, h⟩ := bind2 h
  split at h
  · rename_i hlen
    cases h
    refine hi _ _ _ _ _ _ s ei _ fun J H1 e1 ok => fun Dl hD => ?_
    have s1 := s.mono e1
    refine ⟨fun i m Hc => m = ds.length - i ∧ i ≤ ds.length ∧ Ex H1 Hc ∧ ∃ acc da dr, Hc Dl = some (.lst acc) ∧ Reps C (hid Hc (Dl :: O)) acc da ∧ lcGo2 mg mt mi1 mg1 mt1 me vs1 (ds.drop i) (wipeE ρ vs) = some dr ∧ es = da ++ dr,
      ⟨_, rfl, Nat.zero_le _, Evl.Ex.new hD, [], [], es, upd_same, .nil, by simpa using el, rfl⟩, ?_⟩
    rintro i m Hc ⟨rfl, hi', ex, acc, da, dr, ha, hr, hgo, hes⟩
    have dmc : ∀ b ∈ Dl :: O, Hc b ≠ none := fun b hb z => by
      rcases List.mem_cons.mp hb with rfl | hb
      · rw [ha] at z; cases z
      · exact (s1.mono ex).dom b hb z
    have exh : Ex (hid H1 O) (hid Hc (Dl :: O)) := (hid_new hD).trans (hid_mono ex)
    obtain ⟨okg, oks⟩ := ok Hc (Dl :: O) (fun _ => ex) exh dmc i
    by_cases hlt : i < ds.length
    · have hd : ds[i]? = some ds[i] := List.getElem?_eq_getElem hlt
      obtain ⟨go, yl⟩ := okg _ hd
      rw [List.drop_eq_getElem_cons hlt] at hgo
      unfold lcGo2 at hgo
      refine .inr ⟨go, fun Hn => Ex H1 Hn ∧ ∃ acc da dr, Hn Dl = some (.lst acc) ∧ Reps C (hid Hn (Dl :: O)) acc da ∧ lcGo2 mg mt mi1 mg1 mt1 me vs1 (ds.drop (i + 1)) (wipeE ρ vs) = some dr ∧ es = da ++ dr,
        fun H' hn => ⟨_, by omega, rfl, hlt, hn.1, hn.2⟩, fun x H3 y => ?_⟩
      obtain ⟨e3, rx⟩ := yl x H3 y
      have ex3 : Ex H1 H3 := ex.trans e3
      have ha3 : H3 Dl = some (.lst acc) := e3 _ _ ha
      have s3 : SV C (Dl :: O0) (Dl :: O) H3 (wipe σ vs) (wipeE ρ vs) := (s1.wipe).hide2 hD ex3 ha3
      have hr3 : Reps C (hid H3 (Dl :: O)) acc da := hr.mono (hid_mono e3)
      obtain ⟨ρ1, eg, hgo⟩ := bind2 hgo
      obtain ⟨k, et, hgo⟩ := bind2 hgo
      refine hg _ _ _ _ _ _ _ _ s3 rx eg _ fun σ2 s4 w => ⟨(w vs hj).trans wipe_wipe, ?_⟩
      refine ht _ _ _ _ _ _ s4 et _ fun H4 e4 => ?_
      have ha4 : H4 Dl = some (.lst acc) := e4 _ _ ha3
      have hr4 : Reps C (hid H4 (Dl :: O)) acc da := hr3.mono (hid_mono e4)
      cases k with
      | false =>
        rw [if_neg Bool.false_ne_true]
        exact ⟨ex3.trans e4, acc, da, dr, ha4, hr4, hgo, hes⟩
      | true =>
        rw [if_pos rfl]
        rw [if_pos rfl] at hgo
        obtain ⟨ds1, e1i, hgo⟩ := bind2 hgo
        obtain ⟨es1, e1l, hgo⟩ := bind2 hgo
        cases eo : lcGo2 mg mt mi1 mg1 mt1 me vs1 (ds.drop (i + 1)) (wipeE ρ vs) with
        | none => rw [eo] at hgo; cases hgo
        | some fs =>
          rw [eo] at hgo
          replace hgo : some (es1 ++ fs) = some dr := hgo
          cases hgo
          refine hi1 _ _ _ _ _ _ (s4.mono e4) e1i _ fun J1 H5 e5 ok1 => ?_
          have s5 := (s4.mono e4).mono e5
          have ex5 : Ex H1 H5 := (ex3.trans e4).trans e5
          refine ⟨fun j k Hd => k = ds1.length - j ∧ j ≤ ds1.length ∧ ExD Dl H5 Hd ∧ ∃ acc da dr1, Hd Dl = some (.lst acc) ∧ Reps C (hid Hd (Dl :: O)) acc da ∧ lcGo mg1 mt1 me (ds1.drop j) (wipeE ρ1 vs1) = some dr1 ∧ es = da ++ (dr1 ++ fs),
            ⟨_, rfl, Nat.zero_le _, .refl, acc, da, es1, e5 _ _ ha4, hr4.mono (hid_mono e5), by simpa using e1l, hes⟩, ?_⟩
          rintro j kk Hd ⟨rfl, hj', exd, acc2, da2, dr1, had, hrd, hgd, hesd⟩
          have dmd : ∀ b ∈ Dl :: O, Hd b ≠ none := (s5.exD exd had).dom
          obtain ⟨okg1, oks1⟩ := ok1 Hd (Dl :: O) (fun z => by cases z) (exd.hid List.mem_cons_self) dmd j
          by_cases hlt1 : j < ds1.length
          · have hd1 : ds1[j]? = some ds1[j] := List.getElem?_eq_getElem hlt1
            obtain ⟨go1, yl1⟩ := okg1 _ hd1
            rw [List.drop_eq_getElem_cons hlt1] at hgd
            unfold lcGo at hgd
            refine .inr ⟨go1, fun Hn => ExD Dl H5 Hn ∧ ∃ acc da dr1, Hn Dl = some (.lst acc) ∧ Reps C (hid Hn (Dl :: O)) acc da ∧ lcGo mg1 mt1 me (ds1.drop (j + 1)) (wipeE ρ1 vs1) = some dr1 ∧ es = da ++ (dr1 ++ fs),
              fun H' hn => ⟨_, by omega, rfl, hlt1, hn.1, hn.2⟩, fun x1 H6 y1 => ?_⟩
            obtain ⟨e6, rx1⟩ := yl1 x1 H6 y1
            have ha6 : H6 Dl = some (.lst acc2) := e6 _ _ had
            have hr6 : Reps C (hid H6 (Dl :: O)) acc2 da2 := hrd.mono (hid_mono e6)
            have exd6 : ExD Dl H5 H6 := exd.trans (.of e6)
            have s6 : SV C (Dl :: O0) (Dl :: O) H6 (wipe σ2 vs1) (wipeE ρ1 vs1) := (s5.wipe).exD exd6 ha6
            obtain ⟨ρ2, eg1, hgd⟩ := bind2 hgd
            obtain ⟨k1, et1, hgd⟩ := bind2 hgd
            refine hg1 _ _ _ _ _ _ _ _ s6 rx1 eg1 _ fun σ3 s7 w1 => ⟨(w1 vs1 hj1).trans wipe_wipe, ?_⟩
            refine ht1 _ _ _ _ _ _ s7 et1 _ fun H7 e7 => ?_
            have ha7 : H7 Dl = some (.lst acc2) := e7 _ _ ha6
            have hr7 : Reps C (hid H7 (Dl :: O)) acc2 da2 := hr6.mono (hid_mono e7)
            cases k1 with
            | false =>
              rw [if_neg Bool.false_ne_true]
              exact ⟨exd6.trans (.of e7), acc2, da2, dr1, ha7, hr7, hgd, hesd⟩
            | true =>
              rw [if_pos rfl]
              rw [if_pos rfl] at hgd
              obtain ⟨rz, em, hgd⟩ := bind2 hgd
              split at hgd
              · cases hgd
              · rename_i hnb
                cases eo1 : lcGo mg1 mt1 me (ds1.drop (j + 1)) (wipeE ρ1 vs1) with
                | none => rw [eo1] at hgd; cases hgd
                | some dr2 =>
                  rw [eo1] at hgd
                  cases hgd
                  refine he _ _ _ _ _ _ (s7.mono e7) em _ fun v8 H8 e8 r8 => ?_
                  have ha8 : H8 Dl = some (.lst acc2) := e8 _ _ ha7
                  have hr8 : Reps C (hid H8 (Dl :: O)) acc2 da2 := hr7.mono (hid_mono e8)
                  have hal := hr8.length
                  have rv : Rep C (hid H8 (Dl :: O)) v8 rz.1 := r8.sharedF (s7.mono e7).dom hnb
                  have hle : es.length = da2.length + (dr2.length + 1 + fs.length) := by
                    rw [hesd]; simp only [List.length_append, List.length_cons]
                  refine ⟨acc2, ha8, lim_lt (by omega), ((exd6.trans (.of e7)).trans (.of e8)).trans .put, acc2 ++ [v8], da2 ++ [rz.1], dr2, upd_same, ?_, rfl, by rw [hesd]; simp⟩
                  rw [hid_upd List.mem_cons_self]
                  exact hr8.append (.cons rv .nil)
          · have hie : ds1.length ≤ j := by omega
            rw [List.drop_eq_nil_of_le hie] at hgd
            cases hgd
            exact .inl ⟨oks1 hie, exd.ex hD ex5, acc2, da2, fs, had, hrd, rfl, hesd⟩
    · have hie : ds.length ≤ i := by omega
      rw [List.drop_eq_nil_of_le hie] at hgo
      cases hgo
      rw [List.append_nil] at hes
      subst hes
      exact .inl ⟨oks hie, q _ _ (e1.trans ex) (.fresh (Evl.fresh_back e1 hD) ha hr)⟩
  · cases h
variable {elt tg iter tg1 iter1 : Expr} {ifs ifs1 : List Expr} {scope : Scope} {own : List (Str × Nat)} {vs1 : List Nat}
theorem de_lc2 {pos : Pos} (hc : X.calm = true) (hN : X.N.Nodup) (hi : DI C true X tg iter wi mi) (ok : BlkOk X.N X.env.scope scope own)
    (hg : ∀ (s : Shared) (H : Hp) (A : Addr) (cl : List (Str × Addr)) (fp : List Addr), DG C (X.blk s H scope (compEnvC scope cl A X.env) fp) tg g mg js) (ht : ∀ (s : Shared) (H : Hp) (A : Addr) (cl : List (Str × Addr)) (fp : List Addr), DTs C (X.blk s H scope (compEnvC scope cl A X.env) fp) ifs tt mt)
    (hi1 : ∀ (s : Shared) (H : Hp) (A : Addr) (cl : List (Str × Addr)) (fp : List Addr), DI C false (X.blk s H scope (compEnvC scope cl A X.env) fp) tg1 iter1 wi1 mi1)
    (hg1 : ∀ (s : Shared) (H : Hp) (A : Addr) (cl : List (Str × Addr)) (fp : List Addr), DG C (X.blk s H scope (compEnvC scope cl A X.env) fp) tg1 g1 mg1 vs1) (ht1 : ∀ (s : Shared) (H : Hp) (A : Addr) (cl : List (Str × Addr)) (fp : List Addr), DTs C (X.blk s H scope (compEnvC scope cl A X.env) fp) ifs1 tt1 mt1)
    (he : ∀ (s : Shared) (H : Hp) (A : Addr) (cl : List (Str × Addr)) (fp : List Addr), DE C (X.blk s H scope (compEnvC scope cl A X.env) fp) elt te me) (hj : ∀ j ∈ js, j ∈ own.map (·.2) := by decide) (hv : ∀ j ∈ vs1, j ∈ own.map (·.2) := by decide)
    (hs : ∀ x, foldedSetIterable iter X.env x = pure x := by intro _; rfl) (hs1 : ∀ env x, foldedSetIterable iter1 env x = pure x := by intro _ _; rfl) :
    DE C X (.ListComp elt [⟨tg, iter, ifs, 0⟩, ⟨tg1, iter1, ifs1, 0⟩] scope pos) (tLc2 wi g tt wi1 g1 tt1 te (own.map (·.2)) vs1) (mLc2 mi mg mt mi1 mg1 mt1 me (own.map (·.2)) vs1) :=
  ⟨pe_lc2 hc hN hi.pi ok hv (fun s H A cl fp => (hg s H A cl fp).pg) (fun s H A cl fp => (ht s H A cl fp).pt) (fun s H A cl fp => (hi1 s H A cl fp).pi) (fun s H A cl fp => (hg1 s H A cl fp).pg) (fun s H A cl fp => (ht1 s H A cl fp).pt) (fun s H A cl fp => (he s H A cl fp).pe) hs hs1,
    snd_lc2 hi.sd (hg {} (fun _ => none) 0 [] []).sd (ht {} (fun _ => none) 0 [] []).sd (hi1 {} (fun _ => none) 0 [] []).sd (hg1 {} (fun _ => none) 0 [] []).sd (ht1 {} (fun _ => none) 0 [] []).sd (he {} (fun _ => none) 0 [] []).sd hj fun _ h => h⟩
theorem ds_setLc2 (i : Nat) {y : Str} {py : Pos} {pos spos : Pos} (hc : X.calm = true) (hN : X.N.Nodup) (hi : DI C true X tg iter wi mi) (ok : BlkOk X.N X.env.scope scope own)
    (hg : ∀ (s : Shared) (H : Hp) (A : Addr) (cl : List (Str × Addr)) (fp : List Addr), DG C (X.blk s H scope (compEnvC scope cl A X.env) fp) tg g mg js) (ht : ∀ (s : Shared) (H : Hp) (A : Addr) (cl : List (Str × Addr)) (fp : List Addr), DTs C (X.blk s H scope (compEnvC scope cl A X.env) fp) ifs tt mt)
    (hi1 : ∀ (s : Shared) (H : Hp) (A : Addr) (cl : List (Str × Addr)) (fp : List Addr), DI C false (X.blk s H scope (compEnvC scope cl A X.env) fp) tg1 iter1 wi1 mi1)
    (hg1 : ∀ (s : Shared) (H : Hp) (A : Addr) (cl : List (Str × Addr)) (fp : List Addr), DG C (X.blk s H scope (compEnvC scope cl A X.env) fp) tg1 g1 mg1 vs1) (ht1 : ∀ (s : Shared) (H : Hp) (A : Addr) (cl : List (Str × Addr)) (fp : List Addr), DTs C (X.blk s H scope (compEnvC scope cl A X.env) fp) ifs1 tt1 mt1)
    (he : ∀ (s : Shared) (H : Hp) (A : Addr) (cl : List (Str × Addr)) (fp : List Addr), DE C (X.blk s H scope (compEnvC scope cl A X.env) fp) elt te me) (hj : ∀ j ∈ js, j ∈ own.map (·.2) := by decide) (hv : ∀ j ∈ vs1, j ∈ own.map (·.2) := by decide)
    (hy : X.N[i]? = some y := by rfl) (hyl : X.env.scope.names.lookup y = some .local := by rfl)
    (hsw : swapsWith (.ListComp elt [⟨tg, iter, ifs, 0⟩, ⟨tg1, iter1, ifs1, 0⟩] scope pos) (some (.Name y py)) spos.line X.env = pure true := by exact sw_true rfl rfl rfl (by decide +kernel))
    (hs : ∀ x, foldedSetIterable iter X.env x = pure x := by intro _; rfl) (hs1 : ∀ env x, foldedSetIterable iter1 env x = pure x := by intro _ _; rfl) :
    DS C X (.Assign [.Name y py] (.ListComp elt [⟨tg, iter, ifs, 0⟩, ⟨tg1, iter1, ifs1, 0⟩] scope pos) spos) (tAsg (tLc2 wi g tt wi1 g1 tt1 te (own.map (·.2)) vs1) (gName i)) (sSet i (mLc2 mi mg mt mi1 mg1 mt1 me (own.map (·.2)) vs1)) :=
  ⟨ps_setLc2 hc hN hy hyl hsw hi.pi ok hv (fun s H A cl fp => (hg s H A cl fp).pg) (fun s H A cl fp => (ht s H A cl fp).pt) (fun s H A cl fp => (hi1 s H A cl fp).pi) (fun s H A cl fp => (hg1 s H A cl fp).pg) (fun s H A cl fp => (ht1 s H A cl fp).pt) (fun s H A cl fp => (he s H A cl fp).pe) hs hs1,
    snd_set (snd_lc2 hi.sd (hg {} (fun _ => none) 0 [] []).sd (ht {} (fun _ => none) 0 [] []).sd (hi1 {} (fun _ => none) 0 [] []).sd (hg1 {} (fun _ => none) 0 [] []).sd (ht1 {} (fun _ => none) 0 [] []).sd (he {} (fun _ => none) 0 [] []).sd hj fun _ h => h)⟩
end
end Dt

set_option maxRecDepth 100000
set_option maxHeartbeats 4000000
namespace Dt
open PySem PySem.Spec PyProof.Rows L2
open Evl (Ex)
section
variable {C : Cfg} {K : PySem.W.Frag} {X : Cx} {O0 O O' : List Addr} {H0 H H' H1 : Hp} {σ : L2.St} {ρ : E}
variable {a b c e o : Expr} {es : List Expr} {ta tb te to : TE} {ma mb me mo : M} {t : TA} {n : As} {p p2 pos pos2 apos : Pos}
def fMulT : F2 := fun x y => match x.1, y.1 with
  | .tup (d :: ds), .int k => if -1000 ≤ k ∧ k ≤ 1000 ∧ (d :: ds).length ≤ 1000 then some (.tup (List.replicate k.toNat (d :: ds)).flatten, .pure) else none
  | _, _ => none
theorem vr_repT : VR C (rRepN K) fMulT := by
  intro O0 O H H' x y rx ry rz c c' e r1 r2 hf Q q
  obtain ⟨d1, f1⟩ := rx; obtain ⟨d2, f2⟩ := ry
  unfold fMulT at hf
  split at hf
  · rename_i d ds k e1 e2
    simp only at e1 e2; subst e1; subst e2
    split at hf
    · rename_i hl
      cases hf
      have r1f := r1
      obtain ⟨p, xs, rfl, h1, h2⟩ := r1.tupE
      cases r2.intE
      have l1 := h2.length
      have hne : xs ≠ [] := fun z => by subst z; simp at l1
      refine ⟨p, k, xs, rfl, rfl, h1.sq, hne, hl.1, hl.2.1, by rw [l1]; exact hl.2.2, fun k1 => ?_, fun k1 a ob ha hd => q _ _ (Evl.Ex.new ha) (res_tup c' ha hd (h2.rep _))⟩
      subst k1
      refine q _ _ (Evl.Ex.refl _) ?_
      have e1 : (List.replicate (1 : Int).toNat (d :: ds)).flatten = d :: ds := by simp
      rw [e1]
      cases r1f with | pure w => exact .pure w
    · cases hf
  · cases hf
theorem de_mulT (hK : X.K = K) (ha : DE C X a ta ma) (hb : DE C X b tb mb) : DE C X (.BinOp a .Mult b pos) (tOp (rRepN K) ta tb) (mOp fMulT ma mb) := by
  subst hK; exact de_op opN_rep vr_repT ha hb
end
end Dt

set_option maxRecDepth 100000
set_option maxHeartbeats 4000000
namespace Dt
open PySem PySem.Spec PyProof.Rows L2
open Evl (Ex)
section
variable {C : Cfg} {K : PySem.W.Frag} {X : Cx} {O0 O O' : List Addr} {H0 H H' H1 : Hp} {σ : L2.St} {ρ : E}
variable {a b c e o : Expr} {es : List Expr} {ta tb te to : TE} {ma mb me mo : M} {t : TA} {n : As} {p p2 pos pos2 apos cpos : Pos} {st : Stmt} {ts : TS} {m : S}
/-! ### lists that are shared from now on -/
def shF : Fl → Fl | .fresh => .pure | f => f
def mSh (m : M) : M := fun ρ => (m ρ).map fun r => (r.1, shF r.2)
theorem de_sh {me : M} (h : DE C X e te me) : DE C X e te (mSh me) := by
  refine ⟨h.pe, fun O0 O H σ ρ r s hr Q q => ?_⟩
  unfold mSh at hr
  cases em : me ρ with
  | none => rw [em] at hr; cases hr
  | some r0 =>
    rw [em] at hr
    cases hr
    refine h.sd _ _ _ _ _ _ s em _ fun v H' ex res => q v H' ex ?_
    obtain ⟨d, f⟩ := r0
    cases f with
    | pure => exact res
    | bor => exact res
    | fresh => exact .pure (res.sharedF s.dom (by simp))
def sFzA (i : Nat) (m : S) : S := fun ρ => (m ρ).map fun o => match o with | .nx ρ' => .nx (frz1 i ρ') | o => o
theorem ds_fza (i : Nat) (h : DS C X st ts m) : DS C X st ts (sFzA i m) := by
  refine ⟨h.ps, fun H0 O0 O H σ ρ o s e D g => ?_⟩
  unfold sFzA at e
  cases em : m ρ with
  | none => rw [em] at e; cases e
  | some o0 =>
    rw [em] at e
    cases o0 with
    | rt d f => cases e; exact h.sd _ _ _ _ _ _ _ s em D g
    | nx ρ' =>
      cases e
      refine h.sd _ _ _ _ _ _ _ s em D ?_
      intro O' H' σ' s' x
      obtain ⟨O2, s2, x2⟩ := s'.frz1 (i := i)
      exact g O2 H' σ' s2 (x.trans x2)

/-! ### what the further rules (Dat15) compute -/
def fCnt : F2 := fun x y => match x.1, y.1 with
  | .tup ds, .int k => (getIs ds).map fun ns => (.int (ns.count k : Nat), .pure)
  | .lst ds, .int k => (getIs ds).map fun ns => (.int (ns.count k : Nat), .pure)
  | _, _ => none
def mCnt (mo : M) (n : As) : M := fun ρ => (mo ρ).bind fun x => (n ρ).bind fun rs => match rs with | [y] => fCnt x y | _ => none
def fIdx : F2 := fun x y => match x.1, y.1 with
  | .tup ds, .int k => (getIs ds).bind fun ns => if k ∈ ns then some (.int (ns.idxOf k : Nat), .pure) else none
  | .lst ds, .int k => (getIs ds).bind fun ns => if k ∈ ns then some (.int (ns.idxOf k : Nat), .pure) else none
  | _, _ => none
def mIdx (mo : M) (n : As) : M := fun ρ => (mo ρ).bind fun x => (n ρ).bind fun rs => match rs with | [y] => fIdx x y | _ => none
def mRevS (m : M) : M := fun ρ => (m ρ).bind fun r => match r.1 with
  | .lst ds => some (.lst ds.reverse, .fresh)
  | .tup ds => some (.tup ds.reverse, .pure)
  | _ => none
def mTupleRev (m : M) : M := fun ρ => (m ρ).bind fun r => match r.1 with
  | .tup ds => some (.tup ds.reverse, .pure)
  | _ => none
def mListRev (m : M) : M := fun ρ => (m ρ).bind fun r => match r.1 with
  | .lst ds => some (.lst ds.reverse, .fresh)
  | _ => none
def enD : Nat → List D → List D
  | _, [] => []
  | i, d :: ds => .tmp [.int (i : Nat), d] :: enD (i + 1) ds
def seqOf (w : Bool) (r : D × Fl) : Option (List D) := match r.1 with
  | .lst ds => if w || decide (r.2 ≠ .bor) then some ds else none
  | .tup ds => some ds
  | _ => none
def iEnf (w : Bool) : List (D × Fl) → Option (List D) := fun rs => match rs with
  | [r] => (seqOf w r).map (enD 0)
  | _ => none
def iEn (w : Bool) (n : As) : I := fun ρ => (n ρ).bind (iEnf w)
def iZKf (w : Bool) : List (D × Fl) → Option (List D) := fun rs => match rs with
  | [r, q] => (seqOf w r).bind fun a => (seqOf w q).map fun b => zipD a b
  | _ => none
def iZK (w : Bool) (n : As) : I := fun ρ => (n ρ).bind (iZKf w)
def fInt1 : FN := fun rs => match rs with
  | [(.int i, _)] => some (.int i, .pure)
  | [(.bl k, _)] => some (.int (if k then 1 else 0), .pure)
  | _ => none
def fAbs : FN := fun rs => match rs with
  | [(.int i, _)] => some (.int (if i < 0 then -i else i), .pure)
  | _ => none
/-- the order of rows -/
def lexLe : List Int → List Int → Bool
  | [], _ => true
  | _ :: _, [] => false
  | x :: xs, y :: ys => if x = y then lexLe xs ys else decide (x < y)
def fLeT : F2 := fun x y => match x.1, y.1 with
  | .tup ds, .tup es => (getIs ds).bind fun ns => (getIs es).map fun ms => (.bl (lexLe ns ms), .pure)
  | _, _ => none
def mChain3 (a b c d : M) : M := fun ρ => (a ρ).bind fun x => (b ρ).bind fun y => (fLe x y).bind fun z => match z.1 with
  | .bl true => (c ρ).bind fun w => (fLt y w).bind fun z => match z.1 with
    | .bl true => (d ρ).bind fun v => fLt w v
    | .bl false => some (.bl false, .pure)
    | _ => none
  | .bl false => some (.bl false, .pure)
  | _ => none
def sPop (k : Nat) : S := fun ρ => match ρ[k]? with
  | some (some (.lst (d :: ds), true)) => some (.nx (ρ.set k (some (.lst (d :: ds).dropLast, true))))
  | _ => none
end
end Dt

set_option maxRecDepth 100000
set_option maxHeartbeats 4000000
namespace Dt
open PySem PySem.Spec PyProof.Rows L2
open Evl (Ex)
section
variable {C : Cfg} {K : PySem.W.Frag} {X : Cx} {O0 O O' : List Addr} {H0 H H' H1 : Hp} {σ : L2.St} {ρ : E}
variable {a b c e o : Expr} {es : List Expr} {ta tb te to : TE} {ma mb me mo : M} {t : TA} {n : As} {p p1 p2 p3 pos pos2 apos cpos : Pos} {kk : Nat}
/-! ### slices with a step -/
def iv {α : Type} (f : List α → List α) (z : Option Nat) : Prop := ∀ xs : List α, stp z xs = f xs
theorem reps_ev : ∀ {ds : List D} {xs : List V}, Reps C H xs ds → Reps C H (ev xs) (ev ds)
  | [], _, h => by cases h; exact .nil
  | [_], _, h => by cases h with | cons h1 h2 => cases h2; exact .cons h1 .nil
  | _ :: _ :: ds, _, h => by cases h with | cons h1 h2 => cases h2 with | cons h3 h4 => exact .cons h1 (reps_ev h4)
theorem reps_stp {z : Option Nat} {ds : List D} {xs : List V} (h : Reps C H xs ds) : Reps C H (stp z xs) (stp z ds) := by
  cases z with
  | none => exact h.reverse
  | some z => exact reps_ev (h.drop z)
def mStp (z : Option Nat) (m : M) : M := fun ρ => (m ρ).bind fun r => match r.1 with
  | .lst ds => some (.lst (stp z ds), .fresh)
  | .tup ds => some (.tup (stp z ds), .pure)
  | _ => none
theorem snd_stp {z : Option Nat} {c : Int} {tl : TO} {o : Option Int} (hz : StpIs o c z) (hl : ∀ σ H (Q : Option Int → Hp → Prop), Q o H → tl σ H Q) (ha : Snd C ta ma) : Snd C (tStp K c ta tl) (mStp z ma) := by
  intro O0 O H σ ρ r s h Q q
  unfold mStp at h
  cases ea : ma ρ with
  | none => rw [ea] at h; cases h
  | some rx =>
    rw [ea] at h
    obtain ⟨d, fl⟩ := rx
    refine ha _ _ _ _ _ _ s ea _ fun v H1 e1 r1 => hl _ _ _ ?_
    cases d with
    | lst ds =>
      cases h
      obtain ⟨p, xs, rfl, g1, g2⟩ := r1.lstE
      exact ⟨p, xs, z, rfl, hz, .inl ⟨.inl (.inl g1), fun p' hp => q _ _ (e1.trans (Evl.Ex.new hp)) (res_lst e1 hp (reps_stp g2))⟩⟩
    | tup ds =>
      cases h
      obtain ⟨p, xs, rfl, g1, g2⟩ := r1.tupE
      exact ⟨p, xs, z, rfl, hz, .inr ⟨g1.sq, fun p' ob hp hd => q _ _ (e1.trans (Evl.Ex.new hp)) (res_tup (s.mono e1).co hp hd (reps_stp g2))⟩⟩
    | _ => cases h
theorem de_revS (hK : X.K = K) (ha : DE C X a ta ma) : DE C X (.Subscript a (.Slice none none (some (.UnaryOp .USub (.Constant (.int 1) kk p1) p2)) p3) pos) (tStp K (-1) ta tNoPart) (mRevS ma) := by
  subst hK
  refine ⟨peN_stp ha.pe po_none (po_some (pe_un un_neg pe_int)) fun σ H Q q => ⟨1, rfl, -1, rfl, q⟩, ?_⟩
  have : mRevS ma = mStp none ma := by funext ρ; unfold mRevS mStp; rfl
  rw [this]
  exact snd_stp ⟨rfl, rfl⟩ (fun _ _ _ q => q) ha.sd
theorem de_stp0 (hK : X.K = K) (ha : DE C X a ta ma) : DE C X (.Subscript a (.Slice none none (some (.Constant (.int 2) kk p1)) p3) pos) (tStp K 2 ta tNoPart) (mStp (some 0) ma) := by
  subst hK
  exact ⟨peN_stp ha.pe po_none (po_some pe_int) fun σ H Q q => ⟨2, rfl, q⟩, snd_stp (o := none) ⟨rfl, rfl⟩ (fun _ _ _ q => q) ha.sd⟩
theorem de_stp1 {k2 : Nat} (hK : X.K = K) (ha : DE C X a ta ma) : DE C X (.Subscript a (.Slice (some (.Constant (.int 1) k2 p2)) none (some (.Constant (.int 2) kk p1)) p3) pos) (tStp K 2 ta (tPart (tC (.int 1)))) (mStp (some 1) ma) := by
  subst hK
  exact ⟨peN_stp ha.pe (po_some pe_int) (po_some pe_int) fun σ H Q q => ⟨2, rfl, q⟩, snd_stp (o := some 1) ⟨rfl, rfl⟩ (fun _ _ _ q => ⟨1, rfl, q⟩) ha.sd⟩

/-! ### methods of lists and of tuples -/
def tBM2 (K : PySem.W.Frag) (rT rL : V → List V → Hp → VK → Prop) (to : TE) (t : TA) : TE := fun σ H Q => to σ H fun x H1 => (∃ a xs, x = .ref a ∧ TupN H1 a xs ∧ t σ H1 fun zs H2 => rT x zs H2 Q) ∨ (∃ a xs, x = .ref a ∧ SqL K H1 a xs ∧ t σ H1 fun zs H2 => rL x zs H2 Q)
theorem peN_bm2 {name : Str} {idT idL : String} {rT rL : V → List V → Hp → VK → Prop} (slT : Slot "tuple" name idT) (tyT : typeOf (.builtin idT) = pure (.type "method_descriptor")) (slL : Slot "list" name idL) (tyL : typeOf (.builtin idL) = pure (.type "method_descriptor"))
    (hT : MtR X idT rT) (hL : MtR X idL rL) (ho : PE X o to) (ha : PA X (e :: es) t) (hbase : attributeBase o name X.env (eval o X.env) = eval o X.env := by rfl)
    (hfew : ((backTo cpos (starEach (e :: es) X.env)).all (fun x => !x.1) && (backToKw cpos (keywordEach [] X.env)).all (fun x => x.1.isSome) && decide ((e :: es).length + ([] : List Keyword).length + (if ([] : List Keyword).isEmpty then 0 else 1) < 30)) = true := by rfl)
    (hline : (apos.endLine == cpos.line) = true := by rfl) (hs : starEach (e :: es) X.env = (false, eval e X.env) :: starEach es X.env := by rfl) (hplain : (backTo cpos (starEach es X.env)).any (·.1) = false := by rfl) :
    PE X (.Call (.Attribute o name apos) (e :: es) [] cpos) (tBM2 X.K rT rL to t) := .mk fun pins s σ H Q I h => by
  have hno : (false || (backTo cpos (starEach es X.env)).any (·.1)) = false := by rw [hplain]; rfl
  refine wpAny_Call_method_late hbase hfew hline rfl (thn (ho.run pins s σ H _ I h) ?_)
  rintro v s1 ⟨x, H1, I1, r1, hx⟩
  rcases hx with ⟨a, xs, ex, ⟨ob, hN, hd⟩, q1⟩ | ⟨a, xs, ex, hS, q1⟩
  · subst ex
    cases r1
    obtain ⟨eob, _, us, _, ob', eo, hc, _⟩ := I1.hok a _ hN
    rw [eob] at eo; cases eo
    refine ⟨"tuple", idT, PySem.F.plainAttrs_tuple, slT, tyT, ⟨_, eob, hc⟩, fun b hb => by cases hb; exact ⟨_, eob, hd⟩, ?_⟩
    have hA := ha.run cpos pins s1 σ H1 _ I1 q1
    rw [hs] at hA ⊢
    refine Calls.callWith_builtin hno (Calls.evalArgs_plain (thn hA ?_))
    rintro ws s2 ⟨zs, H2, I2, r2, q2⟩
    exact hT pins s2 σ H2 (.ref a) zs _ ws Q I2 rfl r2 q2
  · subst ex
    cases r1
    obtain ⟨us, _, ⟨ob, nn, eob, hc, hd, _⟩, _⟩ := I1.list hS
    refine ⟨"list", idL, PySem.F.plainAttrs_list, slL, tyL, ⟨_, eob, hc⟩, fun b hb => by cases hb; exact ⟨_, eob, hd⟩, ?_⟩
    have hA := ha.run cpos pins s1 σ H1 _ I1 q1
    rw [hs] at hA ⊢
    refine Calls.callWith_builtin hno (Calls.evalArgs_plain (thn hA ?_))
    rintro ws s2 ⟨zs, H2, I2, r2, q2⟩
    exact hL pins s2 σ H2 (.ref a) zs _ ws Q I2 rfl r2 q2
/-- of a sequence of ints and an int -/
def rSq1 (K : PySem.W.Frag) (tu : Bool) (P : List Int → Int → Prop) (f : List Int → Int → Int) : V → List V → Hp → VK → Prop := fun x xs H Q => ∃ (p : Addr) (ns : List Int) (k : Int), x = .ref p ∧ xs = [.int k] ∧ (if tu then SqT K H p (ns.map V.int) else SqL K H p (ns.map V.int)) ∧ P ns k ∧ Q (.int (f ns k)) H
abbrev cntI (ns : List Int) (k : Int) : Int := (ns.count k : Nat)
abbrev idxI (ns : List Int) (k : Int) : Int := (ns.idxOf k : Nat)
theorem mtT_count : MtR X "tuple.count" (rSq1 X.K true (fun _ _ => True) cntI) := by
  intro pins s σ H x xs v us Q I rx rxs h
  obtain ⟨p, ns, k, rfl, rfl, hs, _, q⟩ := h
  cases rx
  obtain ⟨u, rfl, t, rfl⟩ := rxs.one
  obtain ⟨its, rv, ⟨⟨cls, dd, data, sl⟩, ho, hc, n, hd⟩, hlen⟩ := I.tuple hs
  simp only at hc hd; subst hc hd
  have hi := ints_of_vals rv
  refine call_meets PySem.F.slot_tuple_count ⟨_, ho, rfl⟩ PySem.F.entry_tuple_count (PySem.F.args_tuple_count_2 _ _) (SeqAt.tuple_countAt p its.toArray n dd sl (.int k t) (eqk k))
    ⟨ho, fun y hy => (eqk_gives hi y (by simpa using hy)).at _ _, .int (ns.count k : Nat), H, I.tok _, ⟨s.toks, ?_⟩, q⟩
  have ec : its.toArray.toList.countP (eqk k) = ns.count k := eqk_count hi
  rw [← ec]
theorem mtL_count : MtR X "list.count" (rSq1 X.K false (fun _ _ => True) cntI) := fun pins s σ H x xs v us Q I rx rxs ⟨p, ns, k, e1, e2, hs, _, q⟩ => mt_lcount pins s σ H x xs v us Q I rx rxs ⟨p, ns, k, e1, e2, hs, q⟩
theorem mtT_index : MtR X "tuple.index" (rSq1 X.K true (fun ns k => k ∈ ns) idxI) := by
  intro pins s σ H x xs v us Q I rx rxs h
  obtain ⟨p, ns, k, rfl, rfl, hs, hk, q⟩ := h
  cases rx
  obtain ⟨u, rfl, t, rfl⟩ := rxs.one
  obtain ⟨its, rv, pl, hlen⟩ := I.tuple hs
  exact SeqAt.tuple_index_ints (show s.heap.IsTuple p its.toArray from pl) (ints_of_vals rv) hk ⟨.int (ns.idxOf k : Nat), H, I.tok _, ⟨s.toks, rfl⟩, q⟩
theorem mtL_index : MtR X "list.index" (rSq1 X.K false (fun ns k => k ∈ ns) idxI) := by
  intro pins s σ H x xs v us Q I rx rxs h
  obtain ⟨p, ns, k, rfl, rfl, hs, hk, q⟩ := h
  cases rx
  obtain ⟨u, rfl, t, rfl⟩ := rxs.one
  obtain ⟨its, rv, pl, hlen⟩ := I.list hs
  exact SeqAt.list_index_ints pl.isList (ints_of_vals rv) (by rw [List.length_map] at hlen; exact hlen) hk ⟨.int (ns.idxOf k : Nat), H, I.tok _, ⟨s.toks, rfl⟩, q⟩
/-- the data functions of such methods -/
theorem snd_bm2 {P : List Int → Int → Prop} {f : List Int → Int → Int} {g : F2} (hg : ∀ x y z, g x y = some z → ∃ ds ns k, (x.1 = .tup ds ∨ x.1 = .lst ds) ∧ y.1 = .int k ∧ getIs ds = some ns ∧ P ns k ∧ z = (.int (f ns k), .pure)) (ho : Snd C to mo) (ha : SndA C t n) :
    Snd C (tBM2 K (rSq1 K true P f) (rSq1 K false P f) to t) (fun ρ => (mo ρ).bind fun x => (n ρ).bind fun rs => match rs with | [y] => g x y | _ => none) := by
  intro O0 O H σ ρ r s h Q q
  dsimp only at h
  cases eo : mo ρ with
  | none => rw [eo] at h; cases h
  | some rx =>
    rw [eo, Option.bind_some] at h
    cases en : n ρ with
    | none => rw [en] at h; cases h
    | some rs =>
      rw [en] at h
      match rs, h with
      | [], h => cases h
      | _ :: _ :: _, h => cases h
      | [ry], h =>
        obtain ⟨ds, ns, k, hx, hy, hi, hP, rfl⟩ := hg rx ry r h
        obtain ⟨d1, f1⟩ := rx
        obtain ⟨d2, f2⟩ := ry
        simp only at hx hy
        subst hy
        refine ho _ _ _ _ _ _ s eo _ fun v H1 e1 r1 => ?_
        rcases hx with hx | hx
        · subst hx
          obtain ⟨p, xs, rfl, h1, h2⟩ := r1.tupE
          refine .inl ⟨p, xs, rfl, h1, ?_⟩
          refine ha _ _ _ _ _ _ (s.mono e1) en _ fun vs H2 e2 r2 => ?_
          obtain ⟨v, rfl, r3⟩ := ress1 r2
          cases r3.intE
          have k1 := getIs_reps h2 hi
          subst k1
          exact ⟨p, ns, k, rfl, rfl, (h1.mono e2).sq, hP, q _ _ (e1.trans e2) .int⟩
        · subst hx
          obtain ⟨p, xs, rfl, h1, h2⟩ := r1.lstE
          refine .inr ⟨p, xs, rfl, .inl (.inl h1), ?_⟩
          refine ha _ _ _ _ _ _ (s.mono e1) en _ fun vs H2 e2 r2 => ?_
          obtain ⟨v, rfl, r3⟩ := ress1 r2
          cases r3.intE
          have k1 := getIs_reps h2 hi
          subst k1
          exact ⟨p, ns, k, rfl, rfl, .inl (.inl (e2 _ _ h1)), hP, q _ _ (e1.trans e2) .int⟩
theorem de_count (hK : X.K = K) (ho : DE C X o to mo) (ha : DA C X [e] t n) (hbase : attributeBase o "count" X.env (eval o X.env) = eval o X.env := by rfl)
    (hfew : ((backTo cpos (starEach [e] X.env)).all (fun x => !x.1) && (backToKw cpos (keywordEach [] X.env)).all (fun x => x.1.isSome) && decide (([e] : List Expr).length + ([] : List Keyword).length + (if ([] : List Keyword).isEmpty then 0 else 1) < 30)) = true := by rfl)
    (hline : (apos.endLine == cpos.line) = true := by rfl) (hs : starEach [e] X.env = (false, eval e X.env) :: starEach [] X.env := by rfl) (hplain : (backTo cpos (starEach [] X.env)).any (·.1) = false := by rfl) :
    DE C X (.Call (.Attribute o "count" apos) [e] [] cpos) (tBM2 K (rSq1 K true (fun _ _ => True) cntI) (rSq1 K false (fun _ _ => True) cntI) to t) (mCnt mo n) := by
  subst hK
  refine ⟨peN_bm2 PySem.F.slot_tuple_count PySem.F.type_tuple_count PySem.F.slot_list_count PySem.F.type_list_count mtT_count mtL_count ho.pe ha.pa hbase hfew hline hs hplain, snd_bm2 (g := fCnt) (fun x y z hz => ?_) ho.sd ha.sd⟩
  unfold fCnt at hz
  split at hz
  · rename_i ds k e1 e2
    cases ei : getIs ds with
    | none => rw [ei] at hz; cases hz
    | some ns => rw [ei] at hz; cases hz; exact ⟨ds, ns, k, .inl e1, e2, ei, trivial, rfl⟩
  · rename_i ds k e1 e2
    cases ei : getIs ds with
    | none => rw [ei] at hz; cases hz
    | some ns => rw [ei] at hz; cases hz; exact ⟨ds, ns, k, .inr e1, e2, ei, trivial, rfl⟩
  · cases hz
theorem de_index {k0 : Nat} (hK : X.K = K) (hr : Room k0 X.A) (ho : DE C X o to mo) (ha : DA C X [e] t n) (hbase : attributeBase o "index" X.env (eval o X.env) = eval o X.env := by rfl)
    (hfew : ((backTo cpos (starEach [e] X.env)).all (fun x => !x.1) && (backToKw cpos (keywordEach [] X.env)).all (fun x => x.1.isSome) && decide (([e] : List Expr).length + ([] : List Keyword).length + (if ([] : List Keyword).isEmpty then 0 else 1) < 30)) = true := by rfl)
    (hline : (apos.endLine == cpos.line) = true := by rfl) (hs : starEach [e] X.env = (false, eval e X.env) :: starEach [] X.env := by rfl) (hplain : (backTo cpos (starEach [] X.env)).any (·.1) = false := by rfl) :
    DE C X (.Call (.Attribute o "index" apos) [e] [] cpos) (tBM2 K (rSq1 K true (fun ns k => k ∈ ns) idxI) (rSq1 K false (fun ns k => k ∈ ns) idxI) to t) (mIdx mo n) := by
  subst hK
  refine ⟨peN_bm2 PySem.F.slot_tuple_index PySem.F.type_tuple_index PySem.F.slot_list_index PySem.F.type_list_index mtT_index mtL_index ho.pe ha.pa hbase hfew hline hs hplain, snd_bm2 (g := fIdx) (fun x y z hz => ?_) ho.sd ha.sd⟩
  unfold fIdx at hz
  split at hz
  · rename_i ds k e1 e2
    obtain ⟨ns, ei, hz⟩ := bind2 hz
    split at hz
    · rename_i hk; cases hz; exact ⟨ds, ns, k, .inl e1, e2, ei, hk, rfl⟩
    · cases hz
  · rename_i ds k e1 e2
    obtain ⟨ns, ei, hz⟩ := bind2 hz
    split at hz
    · rename_i hk; cases hz; exact ⟨ds, ns, k, .inr e1, e2, ei, hk, rfl⟩
    · cases hz
  · cases hz
/-! ### int of a truth value, abs -/
theorem de_int1 (hg : Gl X "int") (hm : X.mg "int" = none) (ha : DA C X [e] t n) (hs : starEach [e] X.env = (false, eval e X.env) :: starEach [] X.env := by rfl) (hpl : (backTo pos (starEach [] X.env)).any (·.1) = false := by rfl) :
    DE C X (.Call (.Name "int" p) [e] [] pos) (tCB (fun xs H Q => (∃ i, xs = [.int i] ∧ Q (.int i) H) ∨ ∃ k, xs = [.bl k] ∧ Q (.int (if k then 1 else 0)) H) t) (mFn fInt1 n) := by
  refine de_callTy call_int1 ?_ hg hm (by decide +kernel) ha (by decide) (by decide) hs hpl
  intro O0 O H H' vs rs rz c c' e r1 hf Q q
  unfold fInt1 at hf
  split at hf
  · cases hf
    obtain ⟨v, rfl, h⟩ := ress1 r1
    cases h.intE
    exact .inl ⟨_, rfl, q _ _ (Evl.Ex.refl _) .int⟩
  · cases hf
    obtain ⟨v, rfl, h⟩ := ress1 r1
    cases h.blE
    exact .inr ⟨_, rfl, q _ _ (Evl.Ex.refl _) .int⟩
  · cases hf
theorem de_abs (hg : Gl X "abs") (hm : X.mg "abs" = none) (ha : DA C X [e] t n) (hs : starEach [e] X.env = (false, eval e X.env) :: starEach [] X.env := by rfl) (hpl : (backTo pos (starEach [] X.env)).any (·.1) = false := by rfl) :
    DE C X (.Call (.Name "abs" p) [e] [] pos) (tCB (fun xs H Q => ∃ i, xs = [.int i] ∧ Q (.int (if i < 0 then -i else i)) H) t) (mFn fAbs n) := by
  refine de_callB call_abs ?_ hg hm (by decide +kernel) ha (by decide) (by decide) hs hpl
  intro O0 O H H' vs rs rz c c' e r1 hf Q q
  unfold fAbs at hf
  split at hf
  · cases hf
    obtain ⟨v, rfl, h⟩ := ress1 r1
    cases h.intE
    exact ⟨_, rfl, q _ _ (Evl.Ex.refl _) .int⟩
  · cases hf
/-! ### the order of rows -/
theorem lexAt_le : ∀ (i k : Nat) (ns ms : List Int), k = min ns.length ms.length - i → i ≤ min ns.length ms.length →
    Ob.lexAt (fun j => decide (ns.getD j 0 = ms.getD j 0)) (fun j => decide (ns.getD j 0 ≤ ms.getD j 0)) (decide (ns.length ≤ ms.length)) i k = lexLe (ns.drop i) (ms.drop i)
  | i, 0, ns, ms, hk, hi => by
    show decide (ns.length ≤ ms.length) = _
    by_cases h : ns.length ≤ ms.length
    · rw [List.drop_of_length_le (l := ns) (by omega)]; simp [lexLe, h]
    · rw [List.drop_of_length_le (l := ms) (by omega)]
      have : ns.drop i ≠ [] := by intro z; have := List.drop_eq_nil_iff.mp z; omega
      cases hd : ns.drop i with
      | nil => exact absurd hd this
      | cons x r => simp [lexLe, h]
  | i, k + 1, ns, ms, hk, hi => by
    have h1 : i < ns.length := by omega
    have h2 : i < ms.length := by omega
    have ih := lexAt_le (i + 1) k ns ms (by omega) (by omega)
    rw [List.drop_eq_getElem_cons h1, List.drop_eq_getElem_cons h2]
    show (if decide (ns.getD i 0 = ms.getD i 0) = true then Ob.lexAt _ _ _ (i + 1) k else decide (ns.getD i 0 ≤ ms.getD i 0)) = _
    rw [ih]
    have g1 : ns.getD i 0 = ns[i] := by simp [List.getD, h1]
    have g2 : ms.getD i 0 = ms[i] := by simp [List.getD, h2]
    rw [g1, g2]
    show _ = (if ns[i] = ms[i] then lexLe (ns.drop (i + 1)) (ms.drop (i + 1)) else decide (ns[i] < ms[i]))
    by_cases hq : ns[i] = ms[i]
    · simp [hq]
    · have : (ns[i] ≤ ms[i]) ↔ (ns[i] < ms[i]) := by omega
      simp [hq, this]
theorem vr_leT : VR C (rLeT K) fLeT := by
  intro O0 O H H' x y rx ry rz c c' e r1 r2 hf Q q
  obtain ⟨d1, f1⟩ := rx; obtain ⟨d2, f2⟩ := ry
  unfold fLeT at hf
  split at hf
  · rename_i ds es e1 e2
    simp only at e1 e2; subst e1; subst e2
    obtain ⟨ns, en, hf⟩ := bind2 hf
    cases em : getIs es with
    | none => rw [em] at hf; cases hf
    | some ms =>
      rw [em] at hf; cases hf
      obtain ⟨p, xs, rfl, h1, h2⟩ := r1.tupE
      obtain ⟨p', ys, rfl, h1', h2'⟩ := r2.tupE
      have k1 := getIs_reps h2 en
      have k2 := getIs_reps h2' em
      subst k1; subst k2
      refine ⟨p, p', ns, ms, rfl, rfl, h1.sq, h1'.sq, ?_⟩
      rw [lexAt_le 0 _ ns ms (by omega) (by omega)]
      exact q _ _ (Evl.Ex.refl _) .bl
  · cases hf
theorem de_leT {k : Nat} (hK : X.K = K) (hr : Room k X.A) (ha : DE C X a ta ma) (hb : DE C X b tb mb) : DE C X (.Compare a [.LtE] [b] pos) (tOp (rLeT K) ta tb) (mOp fLeT ma mb) := by
  subst hK; exact de_cmp (op_leT (by have := hr.un; omega)) vr_leT ha hb
theorem dt_leT {k : Nat} (hK : X.K = K) (hr : Room k X.A) (ha : DE C X a ta ma) (hb : DE C X b tb mb) : DT C X (.Compare a [.LtE] [b] pos) (tTest (tOp (rLeT K) ta tb)) (mB (mOp fLeT ma mb)) := by
  subst hK; exact dt_cmp (op_leT (by have := hr.un; omega)) vr_leT ha hb
/-! ### pop -/
theorem reps_dropLast : ∀ {ds : List D} {xs : List V}, Reps C H xs ds → Reps C H xs.dropLast ds.dropLast
  | [], _, h => by cases h; exact .nil
  | [_], _, h => by cases h with | cons h1 h2 => cases h2; exact .nil
  | _ :: _ :: ds, _, h => by cases h with | cons h1 h2 => cases h2 with | cons h3 h4 => exact .cons h1 (reps_dropLast (.cons h3 h4))
theorem ds_pop (k : Nat) {x : Str} (hK : X.K = K) (hN : X.N[k]? = some x := by rfl) (hv : Vis X.env.scope x := by first | exact Or.inl rfl | exact Or.inr (Or.inl rfl) | exact Or.inr (Or.inr rfl))
    (hd : (x == ("__debug__" : Str)) = false := by decide) (hcd : (x == ("__classdict__" : Str)) = false := by decide)
    (hbase : attributeBase (.Name x p) "pop" X.env (eval (.Name x p) X.env) = eval (.Name x p) X.env := by rfl) (hline : (apos.endLine == cpos.line) = true := by rfl)
    (hsw : swapsWith (.Call (.Attribute (.Name x p) "pop" apos) [] [] cpos) none pos.line X.env = pure false := by rfl) :
    DS C X (.Expr (.Call (.Attribute (.Name x p) "pop" apos) [] [] cpos) pos) (tDrop (tBM0 K "list" rPop (tVar k))) (sPop k) := by
  subst hK
  refine ⟨ps_expr (pe_bm0 PySem.F.plainAttrs_list PySem.F.slot_list_pop PySem.F.type_list_pop mt_pop (pe_var hN hv hd hcd) hbase hline) hsw, fun H0 O0 O H σ ρ o s h D g => ?_⟩
  unfold sPop at h
  split at h
  · rename_i d ds ek
    cases h
    obtain ⟨a, xs, ds', h0, h1, h2, h3, h4, h5⟩ := s.ow k _ ek
    cases h0
    cases xs with
    | nil => cases h5
    | cons v r =>
      have hl : (v :: r)[(v :: r).length - 1]? = some ((v :: r)[(v :: r).length - 1]'(by simp)) := List.getElem?_eq_getElem _
      refine ⟨_, h1, .inl ⟨rfl, _, .inl (.inl h4)⟩, a, _, _, rfl, rfl, h4, hl, ?_⟩
      refine g _ _ _ (s.write ek h1 h2 h3 (reps_dropLast h5)) ?_
      rw [hid_upd h2]
      exact Evl.Ex.refl _
  · cases h
end
end Dt

set_option maxRecDepth 100000
set_option maxHeartbeats 4000000
namespace Dt
open PySem PySem.Spec PyProof.Rows L2
open Evl (Ex)
/-! ### a <= b < c < d -/
section
variable {C : Cfg} {K : PySem.W.Frag} {X : Cx} {O0 O O' : List Addr} {H0 H H' H1 : Hp} {σ : L2.St} {ρ : E}
variable {a b c d e o : Expr} {es : List Expr} {ta tb tc td te to : TE} {ma mb mc md me mo : M} {t : TA} {n : As} {p p1 p2 p3 pos pos2 apos cpos : Pos} {kk : Nat}
def tChain3 (ta tb tc td : TE) : TE := fun σ H Q => ta σ H fun x H1 => tb σ H1 fun y H2 => rLe x y H2 fun z H3 => ∃ k, z = .bl k ∧
  (if k = true then tc σ H3 fun u H4 => rLt y u H4 fun z' H5 => ∃ k', z' = .bl k' ∧ (if k' = true then td σ H5 fun v H6 => rLt u v H6 Q else Q (.bl false) H5) else Q (.bl false) H3)
theorem peN_chain3 (ha : PE X a ta) (hb : PE X b tb) (hc : PE X c tc) (hd : PE X d td) (hm : lastMarks [.LtE, .Lt, .Lt] [b, c, d] = false := by with_unfolding_all rfl) : PE X (.Compare a [.LtE, .Lt, .Lt] [b, c, d] pos) (tChain3 ta tb tc td) := .mk fun pins s σ H Q I h => by
  refine Compare_chain (thn (ha.run pins s σ H _ I h) ?_) hm
  rintro v s1 ⟨x, H1, I1, r1, q1⟩
  refine chain_link (thn (hb.run pins s1 σ H1 _ I1 q1) ?_)
  rintro u s2 ⟨y, H2, I2, r2, q2⟩
  refine thn (op_le pins s2 σ H2 x y v u _ I2 r1 r2 q2) ?_
  rintro d1 s3 ⟨z, H3, I3, r3, k, e1, q3⟩
  subst e1
  cases r3
  refine wpAny_truthy_bool ?_
  cases k with
  | false => exact ite_ff ⟨.bl false, H3, I3, rfl, q3⟩
  | true =>
    refine ite_tt (chain_link (thn (hc.run pins s3 σ H3 _ I3 q3) ?_))
    rintro w' s4 ⟨u', H4, I4, r4, q4⟩
    refine thn (op_lt pins s4 σ H4 y u' u w' _ I4 r2 r4 q4) ?_
    rintro d2 s5 ⟨z', H5, I5, r5, k', e2, q5⟩
    subst e2
    cases r5
    refine wpAny_truthy_bool ?_
    cases k' with
    | false => exact ite_ff ⟨.bl false, H5, I5, rfl, q5⟩
    | true =>
      refine ite_tt (chain_last (thn (hd.run pins s5 σ H5 _ I5 q5) ?_))
      rintro w2 s6 ⟨v', H6, I6, r6, q6⟩
      exact op_lt pins s6 σ H6 u' v' w' w2 Q I6 r4 r6 q6
theorem ptN_chain3 (ha : PE X a ta) (hb : PE X b tb) (hc : PE X c tc) (hd : PE X d td) (hm : lastMarks [.LtE, .Lt, .Lt] [b, c, d] = false := by with_unfolding_all rfl) : PT X (.Compare a [.LtE, .Lt, .Lt] [b, c, d] pos) (tTest (tChain3 ta tb tc td)) := .mk fun pins s σ H Q I h => by
  refine isTrue_chain (thn (ha.run pins s σ H _ I h) ?_) hm
  rintro v s1 ⟨x, H1, I1, r1, q1⟩
  refine test_link (thn (hb.run pins s1 σ H1 _ I1 q1) ?_)
  rintro u s2 ⟨y, H2, I2, r2, q2⟩
  refine thn (op_le pins s2 σ H2 x y v u _ I2 r1 r2 q2) ?_
  rintro d1 s3 ⟨z, H3, I3, r3, k, e1, q3⟩
  subst e1
  cases r3
  refine wpAny_truthy_bool ?_
  cases k with
  | false =>
    obtain ⟨k2, e2, q'⟩ := q3
    cases e2
    exact ite_ff ⟨H3, I3, q'⟩
  | true =>
    refine ite_tt (test_link (thn (hc.run pins s3 σ H3 _ I3 q3) ?_))
    rintro w' s4 ⟨u', H4, I4, r4, q4⟩
    refine thn (op_lt pins s4 σ H4 y u' u w' _ I4 r2 r4 q4) ?_
    rintro d2 s5 ⟨z', H5, I5, r5, k', e2, q5⟩
    subst e2
    cases r5
    refine wpAny_truthy_bool ?_
    cases k' with
    | false =>
      obtain ⟨k2, e2, q'⟩ := q5
      cases e2
      exact ite_ff ⟨H5, I5, q'⟩
    | true =>
      refine ite_tt (test_last (thn (hd.run pins s5 σ H5 _ I5 q5) ?_))
      rintro w2 s6 ⟨v', H6, I6, r6, q6⟩
      refine thn (op_lt pins s6 σ H6 u' v' w' w2 _ I6 r4 r6 q6) ?_
      rintro d3 s7 ⟨z3, H7, I7, r7, k3, e3, q7⟩
      subst e3
      cases r7
      exact wpAny_truthy_bool ⟨H7, I7, q7⟩
theorem snd_chain3 (ha : Snd C ta ma) (hb : Snd C tb mb) (hc : Snd C tc mc) (hd : Snd C td md) : Snd C (tChain3 ta tb tc td) (mChain3 ma mb mc md) := by
  intro O0 O H σ ρ rz s h Q q
  unfold mChain3 at h
  obtain ⟨rx, ea, h⟩ := bind2 h
  obtain ⟨ry, eb, h⟩ := bind2 h
  obtain ⟨rk, ef, h⟩ := bind2 h
  refine ha _ _ _ _ _ _ s ea _ fun x H1 e1 r1 => ?_
  refine hb _ _ _ _ _ _ (s.mono e1) eb _ fun y H2 e2 r2 => ?_
  have s2 := (s.mono e1).mono e2
  refine vr_Ib _ _ _ _ _ _ _ _ _ s.co s2.co (e1.trans e2) (r1.mono e2) (r2.back e1) ef _ fun z H3 e3 r3 => ?_
  have s3 := s2.mono e3
  have e13 := (e1.trans e2).trans e3
  obtain ⟨d3, f3⟩ := rk
  cases d3 with
  | bl k =>
    cases r3.blE
    refine ⟨k, rfl, ?_⟩
    cases k with
    | false => cases h; exact q _ _ e13 .bl
    | true =>
      replace h : ((mc ρ).bind fun w => (fLt ry w).bind fun z => match z.1 with
        | .bl true => (md ρ).bind fun v => fLt w v
        | .bl false => some (.bl false, .pure)
        | _ => none) = some rz := h
      obtain ⟨rw', ec, h⟩ := bind2 h
      obtain ⟨rk2, ef2, h⟩ := bind2 h
      rw [if_pos rfl]
      refine hc _ _ _ _ _ _ s3 ec _ fun u H4 e4 r4 => ?_
      have s4 := s3.mono e4
      refine vr_Ib _ _ _ _ _ _ _ _ _ s.co s4.co (e13.trans e4) (((r2.back e1).mono e3).mono e4) (r4.back e13) ef2 _ fun z2 H5 e5 r5 => ?_
      have s5 := s4.mono e5
      have e15 := (e13.trans e4).trans e5
      obtain ⟨d5, f5⟩ := rk2
      cases d5 with
      | bl k2 =>
        cases r5.blE
        refine ⟨k2, rfl, ?_⟩
        cases k2 with
        | false => cases h; exact q _ _ e15 .bl
        | true =>
          rw [if_pos rfl]
          obtain ⟨rv, ed, h⟩ := bind2 (show ((md ρ).bind fun v => fLt rw' v) = some rz from h)
          refine hd _ _ _ _ _ _ s5 ed _ fun v H6 e6 r6 => ?_
          exact vr_Ib _ _ _ _ _ _ _ _ _ s.co (s5.mono e6).co (e15.trans e6) (((r4.back e13).mono e5).mono e6) (r6.back e15) h Q fun v' H7 e7 r7 => q v' H7 (e15.trans e6 |>.trans e7) r7
      | _ => cases h
  | _ => cases h
theorem de_leLtLt (ha : DE C X a ta ma) (hb : DE C X b tb mb) (hc : DE C X c tc mc) (hd : DE C X d td md) (hm : lastMarks [.LtE, .Lt, .Lt] [b, c, d] = false := by with_unfolding_all rfl) : DE C X (.Compare a [.LtE, .Lt, .Lt] [b, c, d] pos) (tChain3 ta tb tc td) (mChain3 ma mb mc md) :=
  ⟨peN_chain3 ha.pe hb.pe hc.pe hd.pe hm, snd_chain3 ha.sd hb.sd hc.sd hd.sd⟩
theorem dt_leLtLt (ha : DE C X a ta ma) (hb : DE C X b tb mb) (hc : DE C X c tc mc) (hd : DE C X d td md) (hm : lastMarks [.LtE, .Lt, .Lt] [b, c, d] = false := by with_unfolding_all rfl) : DT C X (.Compare a [.LtE, .Lt, .Lt] [b, c, d] pos) (tTest (tChain3 ta tb tc td)) (mB (mChain3 ma mb mc md)) :=
  ⟨ptN_chain3 ha.pe hb.pe hc.pe hd.pe hm, snd_test (snd_chain3 ha.sd hb.sd hc.sd hd.sd)⟩
end
end Dt

set_option maxRecDepth 100000
set_option maxHeartbeats 4000000
/-! lists and tuples, walked alike: enumerate(s), zip(s, s) -/
namespace Dt
open PySem PySem.Spec PyProof.Rows L2
def HpK (h : Heap) (a : Addr) (its : Array Value) : Bool → Prop
  | true => h.IsTuple a its
  | false => h.IsList a its
def ItK (h : Heap) (it a : Addr) (i : Nat) : Bool → Prop
  | true => h.IsTupleIter it a i
  | false => h.IsListIter it a i
def SqK (K : PySem.W.Frag) (H : Hp) (a : Addr) (xs : List V) : Bool → Prop
  | true => SqT K H a xs
  | false => SqL K H a xs
def itObj (a : Addr) : Bool → Obj
  | true => { cls := .type "tuple_iterator", data := .fields #[.ref a, .int 0 0] }
  | false => { cls := .type "list_iterator", data := .fields #[.ref a, .int 0 0] }
section
variable {h h' : Heap} {a b it : Addr} {i : Nat} {its : Array Value} {tu : Bool}
theorem HpK.ext (x : HpK h a its tu) (k : ∀ o, h.get? a = some o → h'.get? a = some o) : HpK h' a its tu := by
  cases tu with
  | true => obtain ⟨o, e, r⟩ := x; exact ⟨o, k o e, r⟩
  | false => obtain ⟨o, e, r⟩ := x; exact ⟨o, k o e, r⟩
theorem HpK.lt (x : HpK h a its tu) : a < h.objs.size := by
  cases tu with
  | true => obtain ⟨o, e, r⟩ := x; exact Heap.lt_size e
  | false => obtain ⟨o, e, r⟩ := x; exact Heap.lt_size e
theorem ItK.ext (x : ItK h it a i tu) (k : ∀ o, h.get? it = some o → h'.get? it = some o) : ItK h' it a i tu := by
  cases tu with
  | true => obtain ⟨o, e, r⟩ := x; exact ⟨o, k o e, r⟩
  | false => obtain ⟨o, e, r⟩ := x; exact ⟨o, k o e, r⟩
theorem ItK.obj (x : ItK h it a i tu) : ∃ o, h.get? it = some o ∧ ∀ v, o.data ≠ .cell v := by
  cases tu with
  | true => obtain ⟨o, e, _, d⟩ := x; exact ⟨o, e, fun v q => by rw [d] at q; cases q⟩
  | false => obtain ⟨o, e, _, d⟩ := x; exact ⟨o, e, fun v q => by rw [d] at q; cases q⟩
theorem ItK.mk' (e : h.get? it = some (itObj a tu)) : ItK h it a 0 tu := by
  cases tu with
  | true => exact ⟨_, e, rfl, rfl⟩
  | false => exact ⟨_, e, rfl, rfl⟩
variable {prog : Program} {w : World} {A : Around} {E : Value → Shared → Prop} {s : Shared}
theorem iterK {Q : Value → Shared → Prop} (x : HpK s.heap a its tu) (q : Q (.ref s.heap.objs.size) { s with heap := s.heap.push (itObj a tu) }) : wpAny (model prog w) A (pyIter (.ref a)) Q E s := by
  cases tu with
  | true => exact wpAny_pyIter_tuple x q
  | false => exact wpAny_pyIter_list x q
theorem nextK_item {x : Value} {Q : Value → Shared → Prop} (hit : ItK s.heap it a i tu) (hl : HpK s.heap a its tu) (hx : its[i]? = some x)
    (hQ : ∀ h', ItK h' it a (i + 1) tu → Heap.SameBut it s.heap h' → Q x { s with heap := h' }) : wpAny (model prog w) A (Builtin.SmallTypes.nextOf (.ref it)) Q E s := by
  cases tu with
  | true => exact RZ.nextOf_tuple_item hit hl hx hQ
  | false => exact wpAny_nextOf_list_item hit hl hx hQ
theorem nextK_end {Q : Value → Shared → Prop} (hh : A.handled = none) (hit : ItK s.heap it a i tu) (hl : HpK s.heap a its tu) (hx : its[i]? = none)
    (hE : ∀ h' e, Heap.ExtBut it s.heap h' → (∃ o, h'.get? e = some o ∧ o.cls = .type "StopIteration") → E (.ref e) { s with heap := h' }) : wpAny (model prog w) A (Builtin.SmallTypes.nextOf (.ref it)) Q E s := by
  cases tu with
  | true => exact RZ.nextOf_tuple_end hh hit hl hx hE
  | false => exact wpAny_nextOf_list_end hh hit hl hx hE
theorem drawsK (hh : A.handled = none) (hne : a ≠ it) : Draws prog w A it [it, a] its.size (fun i v => its[i]? = some v) (fun i h => ItK h it a i tu ∧ HpK h a its tu) where
  live := fun _ _ st => let ⟨o, e, _⟩ := st.1.obj; ⟨o, e⟩
  frame := fun _ _ _ st k => ⟨st.1.ext fun o e => k it (by simp) o e, st.2.ext fun o e => k a (by simp) o e⟩
  item := fun i s Q E hi st hQ => nextK_item st.1 st.2 (x := its[i]) (by simp [hi]) fun h' hit' hs' => hQ _ h' s.toks (by simp [hi]) ⟨hit', st.2.ext fun o e => hs'.extBut _ _ hne e⟩ hs'
  done := fun s Q E st hE => nextK_end hh st.1 st.2 (by simp) hE
end
section
variable {X : Cx} {pins : List (Addr × Obj)} {σ : L2.St} {H : Hp} {s : Shared} {a b : Addr} {xs ys : List V} {tu tv : Bool}
theorem invK (I : Inv X pins σ H s) (h : SqK X.K H a xs tu) : ∃ its : List Value, Vals xs its ∧ HpK s.heap a its.toArray tu := by
  cases tu with
  | true => obtain ⟨its, r, p, _⟩ := I.tuple h; exact ⟨its, r, p⟩
  | false => obtain ⟨its, r, p, _⟩ := I.list h; exact ⟨its, r, p.isList⟩
theorem injK (I : Inv X pins σ H s) (h : SqK X.K H a xs tu) (h' : SqK X.K H a ys tu) : xs = ys := by
  cases tu with
  | true => exact I.tuple_inj h h'
  | false => exact I.list_inj h h'
/-! ### enumerate -/
def EnK (K : PySem.W.Frag) (a : Addr) (tu : Bool) : It :=
  ⟨fun i H => ∃ (xs : List V) (x : V), SqK K H a xs tu ∧ xs[i]? = some x,
   fun i H v H' => ∃ T x, v = .ref T ∧ H T = none ∧ H' = upd H T (.tup [.int (i : Nat), x]) ∧ ∀ xs, SqK K H a xs tu → xs[i]? = some x,
   fun i H => ∃ xs : List V, SqK K H a xs tu ∧ xs.length ≤ i⟩
theorem turnEn {P : Program} {w : World} {K : PySem.W.Frag} {elts : List Expr} {kk : Nat} {tpos : Pos} (a e it : Addr) (hai : a ≠ it) (hae : a ≠ e) :
    Turn P w K (.Tuple elts kk tpos) (EnK K a tu) [e, it] e (fun i h => (∃ old, IsEnum h e it ((i : Nat) : Int) old) ∧ ItK h it a i tu ∧ e ≠ it) where
  mem := by simp
  obj := fun i h ⟨⟨old, he⟩, hi, _⟩ b hb => by
    rcases List.mem_cons.mp hb with z | z
    · subst z; exact ⟨_, he, fun v q => nomatch q⟩
    · rw [List.mem_singleton.mp z]; exact hi.obj
  keep := fun i h h' ⟨⟨old, he⟩, hi, hne⟩ k => ⟨⟨old, k e (by simp) _ he⟩, hi.ext fun o q => k it (by simp) o q, hne⟩
  item := by
    intro X hP hw hK hc i pins s σ H E I hf ⟨⟨old, he⟩, hit, hne⟩ ⟨xs, x, hq, hx⟩
    subst hP hw hK
    obtain ⟨its, rv, p⟩ := invK I hq
    obtain ⟨u, hu, ru⟩ := rv.get hx
    have le : e < s.heap.objs.size := Heap.lt_size he
    have li : it < s.heap.objs.size := by obtain ⟨o, q, _⟩ := hit.obj; exact Heap.lt_size q
    have hlt : i < its.toArray.size := by have := (List.getElem?_eq_some_iff.mp hu).1; simpa using this
    refine wpAny_pyNext_enum_itemD (drawsK (tu := tu) (I.ok.hd hc) hai) he ⟨hit, p⟩ hlt hne (by simp [hne, Ne.symm hae]) ?_
    intro y h1 tk hy ho ⟨hit', _⟩ hT hsz hk
    have ey : y = u := by
      have : its.toArray[i]? = some u := by simpa using hu
      rw [this] at hy; exact (Option.some.inj hy).symm
    subst ey
    refine ⟨_, rfl, wpAny_letOwnedTupleGo_enum (s := { s with heap := h1, toks := tk + 1 }) ho ?_⟩
    intro h2 he2 sb
    have keepB : ∀ b o, b ∉ [e, it] → s.heap.get? b = some o → h2.get? b = some o := fun b o hb q => (sb.2 b fun z => hb (by simp [z])).trans (hk b o (fun z => hb (by simp [z])) (fun z => hb (by simp [z])) q)
    have eT : h2.get? s.heap.objs.size = some { cls := .type "tuple", data := .seq #[.int i tk, y] } := (sb.2 _ (Nat.ne_of_gt le)).trans hT
    have new : ObjOk X.prog X.w (upd H s.heap.objs.size (.tup [.int (i : Nat), x])) h2 s.heap.objs.size (.tup [.int (i : Nat), x]) := ⟨by show 2 ≤ sizeLine; decide, [.int i tk, y], .cons ⟨_, rfl⟩ (.cons ru .nil), _, eT, rfl, _, rfl⟩
    have J : Inv X pins σ (upd H s.heap.objs.size (.tup [.int (i : Nat), x])) { s with heap := h2, toks := tk + 1 } := I.turnedNew (ch := [e, it]) keepB hf (Nat.le_refl _) new
    refine ⟨.ref s.heap.objs.size, _, J, rfl, ⟨_, x, rfl, I.hok.fresh (Nat.le_refl _), rfl, fun zs hz => by rw [injK I hz hq]; exact hx⟩, ⟨⟨y, ?_⟩, hit'.ext fun o q => (sb.2 it (Ne.symm hne)).trans q, hne⟩, fun b hb => ?_⟩
    · rw [show ((i + 1 : Nat) : Int) = (i : Int) + 1 by omega]; exact he2
    · have lb : b < s.heap.objs.size := by
        rcases List.mem_cons.mp hb with z | z
        · rw [z]; exact le
        · rw [List.mem_singleton.mp z]; exact li
      rw [upd_ne (Nat.ne_of_lt lb)]
      exact (hf b hb).1
  done := by
    intro X hP hw hK hc i pins s σ H E I hf ⟨⟨old, he⟩, hit, hne⟩ ⟨xs, hq, hx⟩
    subst hP hw hK
    obtain ⟨its, rv, p⟩ := invK I hq
    obtain ⟨f0, f1, f2, f3, f4, f5⟩ := hf it (by simp)
    have hl := rv.length
    have nx : its.toArray[i]? = none := by simp; omega
    have hT : s.TypeIs (.ref e) "enumerate" := ⟨_, he, rfl⟩
    unfold pyNext
    refine wpAny_bind (wpAny_attempt (wpAny_callSpecial?_slot (name := Str.ofString "__next__") hT F.slot_enumerate_next (wpAny_call_entry F.slot_enumerate_next hT F.entry_enumerate_next ?_ (F.args_enumerate_next_1 _))))
    show wpAny _ _ (field (.ref e) 2 >>= _) _ _ _
    refine wpAny_bind (wpAny_field he rfl (x := .ref it) rfl (wpAny_bind (nextK_end (I.ok.hd hc) hit p nx ?_)))
    intro h1 x1 eb ⟨o, ho, hcl⟩
    exact wpAny_bind (wpAny_isInstance (T := "StopIteration") (b := true) ⟨o, ho, hcl⟩ isSubtype_stop (wpAny_pure ⟨rfl, I.turned (t' := s.toks) (fun b o hb q => eb b o hb q) f0 f1 f3 f4 f5⟩))
  self := fun A i s Q E ⟨⟨_, he⟩, _⟩ h => wpAny_pyIter_enum he h
theorem meetsN_enum (l : Addr) (items : Array Value) :
    Meets (Builtin.«enumerate.__new__» ⟨[.type "enumerate", .ref l], []⟩) (fun _ R s => s.heap.IsTuple l items ∧
      R (.ok (.ret (.ref (s.heap.push (itObj l true)).objs.size))) { s with heap := (s.heap.push (itObj l true)).push { cls := .type "enumerate", data := .fields #[.none, .bool false, .ref s.heap.objs.size, rawInt 0, .none, .none] } }) :=
  .of_wp fun prog w A R s h => by
    obtain ⟨hp, g, d, tk, os⟩ := s
    obtain ⟨hl, h⟩ := h
    have hsub := sub_enumerate
    have hL : Heap.IsTuple (Shared.heap ⟨hp, g, d, tk, os⟩) l items := hl
    obtain ⟨o, ho, hc, n, hd⟩ := hl
    obtain ⟨cc, dd, dt, sl⟩ := o
    simp only at hc hd; subst hc hd
    wp_walk using wpAny_loadPart' ho
    refine wpAny_stack_any fun st => wpAny_pure ?_
    split
    · rename_i c _ _ _ _ _
      cases (c == Value.type "enumerate") <;> (wp_walk using wpAny_loadPart' ho, wpAny_pyIter_tuple hL; exact ⟨_, rfl, h⟩)
    · wp_walk using wpAny_loadPart' ho, wpAny_pyIter_tuple hL
      exact ⟨_, rfl, h⟩
end

section
variable {X : Cx} {pins : List (Addr × Obj)} {σ : L2.St} {H : Hp} {s : Shared} {a b : Addr} {xs ys : List V} {tu tv : Bool} {P : Program} {w : World} {A : Around} {E : Value → Shared → Prop}
theorem callK_enum {l : Addr} {items : Array Value} {Q : Value → Shared → Prop} (hl : HpK s.heap l items tu)
    (h : ∀ h', IsEnum h' (s.heap.objs.size + 1) s.heap.objs.size 0 .none → ItK h' s.heap.objs.size l 0 tu → (∀ b o, s.heap.get? b = some o → h'.get? b = some o) → Q (.ref (s.heap.objs.size + 1)) { s with heap := h' }) :
    wpAny (model P w) A (call (.type "enumerate") [.ref l]) Q E s := by
  cases tu with
  | false => exact call_enumerate_list hl fun h' he hit _ hk => h h' he hit hk
  | true =>
    refine callType_new F.called_enumerate (by decide) (F.typeCall_enumerate_1 _) (F.newCall_enumerate_1 _) (fun obj => F.args_object_init_2 obj _) F.entry_enumerate_new (meetsN_enum l items) ⟨hl, ?_⟩
    have z1 : (s.heap.push (itObj l true)).objs.size = s.heap.objs.size + 1 := Heap.size_push ..
    show _ ∧ _
    rw [z1]
    have g1 : ((s.heap.push (itObj l true)).push { cls := .type "enumerate", data := .fields #[.none, .bool false, .ref s.heap.objs.size, rawInt 0, .none, .none] }).get? (s.heap.push (itObj l true)).objs.size = some _ := Heap.get?_push_size _ rfl
    rw [z1] at g1
    exact ⟨⟨_, g1, rfl⟩, h _ g1 (ItK.mk' (Heap.get?_push_of_some _ (Heap.get?_push_size _ (by rfl)))) fun b o q => Heap.get?_push_of_some _ (Heap.get?_push_of_some _ q)⟩
def iEnK (K : PySem.W.Frag) (ta : TA) : TI := fun σ H R => ta σ H fun vs H1 => ∃ a xs tu, vs = [.ref a] ∧ SqK K H1 a xs tu ∧ R (EnK K a tu) H1
theorem piK_enum {e : Expr} {ta : TA} {p pos tpos : Pos} {elts : List Expr} {kk : Nat} (hg : Gl X "enumerate") (hm : X.mg "enumerate" = none) (ha : PA X [e] ta) (hs : starEach [e] X.env = [(false, eval e X.env)] := by rfl) :
    PI X (.Tuple elts kk tpos) (.Call (.Name "enumerate" p) [e] [] pos) (iEnK X.K ta) := .mk fun pins s σ H R I h => by
  refine Call_ (ld_blt I hg hm boot_enumerate (PyProof.Rows.callWith_type1 (thn (ha.run pos pins s σ H _ I h) ?_) hs rfl))
  rintro us s1 ⟨vs, H1, I1, r1, a, xs, tu, ex, hq, q⟩
  subst ex
  obtain ⟨u, rfl, ru⟩ := Vals.one r1
  cases ru
  obtain ⟨its, rv, p'⟩ := invK I1 hq
  refine callK_enum p' fun h' he hit hk => wpAny_pyIter_enum he ?_
  have I2 : Inv X pins σ H1 { s1 with heap := h' } := I1.kept (t' := s1.toks) hk
  have la := p'.lt
  refine ⟨s1.heap.objs.size + 1, [s1.heap.objs.size + 1, s1.heap.objs.size], _, _, H1, rfl, I2, turnEn a (s1.heap.objs.size + 1) s1.heap.objs.size (Nat.ne_of_lt la) (Nat.ne_of_lt (Nat.lt_succ_of_lt la)), ⟨⟨.none, he⟩, hit, Nat.succ_ne_self _⟩, fun b hb => ?_, q⟩
  have hle : s1.heap.objs.size ≤ b := by
    rcases List.mem_cons.mp hb with z | z
    · rw [z]; exact Nat.le_add_right _ _
    · rw [List.mem_singleton.mp z]; exact Nat.le_refl _
  exact I1.fpOk hle (I1.hok.fresh hle)
/-! ### zip -/
theorem zipK_item {z TI TO i1 i2 l1 l2 : Addr} {k1 k2 : Nat} {us ws : Array Value} {x y a b : Value} {Q : Value → Shared → Prop} (D : ZipApart z TI TO i1 i2 l1 l2) (hz : IsZip s.heap z TI TO .none) (hTI : IsPair s.heap TI (.ref i1) (.ref i2)) (hTO : IsPair s.heap TO a b)
    (h1 : ItK s.heap i1 l1 k1 tu) (h2 : ItK s.heap i2 l2 k2 tv) (hl1 : HpK s.heap l1 us tu) (hl2 : HpK s.heap l2 ws tv) (hx : us[k1]? = some x) (hy : ws[k2]? = some y)
    (hQ : ∀ h', IsZip h' z TI TO (rawInt s.heap.objs.size) → IsPair h' TO x y → ItK h' i1 l1 (k1 + 1) tu → ItK h' i2 l2 (k2 + 1) tv → IsPair h' s.heap.objs.size x y →
      (∀ c o, c ≠ z → c ≠ TO → c ≠ i1 → c ≠ i2 → s.heap.get? c = some o → h'.get? c = some o) → Q (.ref s.heap.objs.size) { s with heap := h' }) :
    wpAny (model P w) A (Builtin.«zip.__next__» ⟨[.ref z], []⟩) (fun fin s' => ∃ v, fin = .done (.ret v) ∧ Q v s') E s := by
  show wpAny _ _ (field (.ref z) 2 >>= _) _ _ _
  refine wpAny_bind (wpAny_field hz rfl (x := .bool false) rfl (show wpAny _ _ (field (.ref z) 3 >>= _) _ _ _ from wpAny_bind (wpAny_field hz rfl (x := .ref TI) rfl (wpAny_bind (wpAny_seqItems hTI rfl ?_)))))
  show wpAny _ _ (Builtin.SmallTypes.ownedTupleIsFree (.ref z) >>= _) _ _ _
  refine wpAny_bind ?_
  unfold Builtin.SmallTypes.ownedTupleIsFree
  refine wpAny_bind (wpAny_field hz rfl (x := .none) rfl (wpAny_pure ?_))
  simp only [if_true]
  refine wpAny_bind (wpAny_rule (wpAny_bind (wpAny_field hz rfl (x := .ref TO) rfl (wpAny_bind (wpAny_setField_rec hz (by simp) ?_)))))
  intro g1 z1 s1
  replace z1 : IsZip g1 z TI TO .ellipsis := z1
  refine wpAny_bind ?_
  simp only [List.zipIdx_cons, List.zipIdx_nil, List.forIn_cons, List.forIn_nil]
  refine wpAny_bind (wpAny_bind (wpAny_onRaise (show wpAny _ _ (Builtin.SmallTypes.nextOf (.ref i1) >>= _) _ _ _ from wpAny_bind ?_)))
  refine nextK_item (h1.ext fun o e => s1.extBut _ _ D.i1z e) (hl1.ext fun o e => s1.extBut _ _ D.l1z e) hx fun g2 p2 s2 => wpAny_pure ?_
  have o2 : IsPair g2 TO a b := s2.extBut _ _ D.TOi1 (s1.extBut _ _ D.TOz hTO)
  refine wpAny_bind (wpAny_seqItems o2 rfl (wpAny_bind (wpAny_updateSeq_pair o2 ?_)))
  intro g3 o3 s3
  replace o3 : IsPair g3 TO x b := o3
  refine wpAny_bind (wpAny_letGo (wpAny_pure (wpAny_bind (wpAny_bind (wpAny_onRaise (show wpAny _ _ (Builtin.SmallTypes.nextOf (.ref i2) >>= _) _ _ _ from wpAny_bind ?_))))))
  refine nextK_item (h2.ext fun o e => s3.extBut _ _ D.TOi2.symm (s2.extBut _ _ D.i12.symm (s1.extBut _ _ D.i2z e))) (hl2.ext fun o e => s3.extBut _ _ D.l2TO (s2.extBut _ _ D.l2i1 (s1.extBut _ _ D.l2z e))) hy fun g4 p4 s4 => wpAny_pure ?_
  have o4 : IsPair g4 TO x b := s4.extBut _ _ D.TOi2 o3
  refine wpAny_bind (wpAny_seqItems o4 rfl (wpAny_bind (wpAny_updateSeq_pair o4 ?_)))
  intro g5 o5 s5
  replace o5 : IsPair g5 TO x y := o5
  refine wpAny_bind (wpAny_letGo (wpAny_pure (wpAny_pure (wpAny_bind (wpAny_seqItems o5 rfl (wpAny_bind (wpAny_newTuple ?_)))))))
  have sz : g5.objs.size = s.heap.objs.size := by rw [s5.1, s4.1, s3.1, s2.1, s1.1]
  have z5 : IsZip g5 z TI TO .ellipsis := s5.extBut _ _ D.TOz.symm (s4.extBut _ _ D.i2z.symm (s3.extBut _ _ D.TOz.symm (s2.extBut _ _ D.i1z.symm z1)))
  have k5 : ∀ c o, c ≠ z → c ≠ TO → c ≠ i1 → c ≠ i2 → s.heap.get? c = some o → g5.get? c = some o := fun c o c1 c2 c3 c4 e => s5.extBut _ _ c2 (s4.extBut _ _ c4 (s3.extBut _ _ c2 (s2.extBut _ _ c3 (s1.extBut _ _ c1 e))))
  have a5 : ItK g5 i1 l1 (k1 + 1) tu := p2.ext fun o e => s5.extBut _ _ D.TOi1.symm (s4.extBut _ _ D.i12 (s3.extBut _ _ D.TOi1.symm e))
  have b5 : ItK g5 i2 l2 (k2 + 1) tv := p4.ext fun o e => s5.extBut _ _ D.TOi2.symm e
  show wpAny _ _ (Builtin.SmallTypes.ownedTupleHandOut (.ref z) (.ref g5.objs.size) >>= _) _ _ _
  refine wpAny_bind ?_
  unfold Builtin.SmallTypes.ownedTupleHandOut
  have z6 : IsZip (g5.push { cls := .type "tuple", data := .seq #[x, y] }) z TI TO .ellipsis := Heap.get?_push_of_some _ z5
  refine wpAny_bind (wpAny_setField_rec z6 (by simp) ?_)
  intro g7 z7 s7
  replace z7 : IsZip g7 z TI TO (rawInt g5.objs.size) := z7
  refine wpAny_setField_rec z7 (by simp) fun g8 z8 s8 => ?_
  replace z8 : IsZip g8 z TI TO (rawInt g5.objs.size) := z8
  have up : ∀ c o, c ≠ z → g5.get? c = some o → g8.get? c = some o := fun c o c1 e => s8.extBut _ _ c1 (s7.extBut _ _ c1 (Heap.get?_push_of_some _ e))
  have zl : z < g5.objs.size := Heap.lt_size z5
  have t8 : IsPair g8 g5.objs.size x y := s8.extBut _ _ (Nat.ne_of_gt zl) (s7.extBut _ _ (Nat.ne_of_gt zl) (Heap.get?_push_size _ rfl))
  rw [sz] at z8 t8
  refine wpAny_pure ⟨_, rfl, ?_⟩
  show Q (.ref g5.objs.size) _
  rw [sz]
  exact hQ g8 z8 (up _ _ D.TOz o5) (a5.ext fun o e => up _ o D.i1z e) (b5.ext fun o e => up _ o D.i2z e) t8 fun c o c1 c2 c3 c4 e => up c o c1 (k5 c o c1 c2 c3 c4 e)
theorem zipK_end {z TI TO i1 i2 l1 l2 : Addr} {k1 k2 : Nat} {us ws : Array Value} {a b : Value} {Q : Fin → Shared → Prop} (hh : A.handled = none) (D : ZipApart z TI TO i1 i2 l1 l2) (hz : IsZip s.heap z TI TO .none) (hTI : IsPair s.heap TI (.ref i1) (.ref i2)) (hTO : IsPair s.heap TO a b)
    (h1 : ItK s.heap i1 l1 k1 tu) (h2 : ItK s.heap i2 l2 k2 tv) (hl1 : HpK s.heap l1 us tu) (hl2 : HpK s.heap l2 ws tv) (hend : us[k1]? = none ∨ ws[k2]? = none)
    (hE : ∀ h' e, (∀ c o, c ≠ z → c ≠ TO → c ≠ i1 → c ≠ i2 → s.heap.get? c = some o → h'.get? c = some o) → (∃ o, h'.get? e = some o ∧ o.cls = .type "StopIteration") → E (.ref e) { s with heap := h' }) :
    wpAny (model P w) A (Builtin.«zip.__next__» ⟨[.ref z], []⟩) Q E s := by
  show wpAny _ _ (field (.ref z) 2 >>= _) _ _ _
  refine wpAny_bind (wpAny_field hz rfl (x := .bool false) rfl (show wpAny _ _ (field (.ref z) 3 >>= _) _ _ _ from wpAny_bind (wpAny_field hz rfl (x := .ref TI) rfl (wpAny_bind (wpAny_seqItems hTI rfl ?_)))))
  show wpAny _ _ (Builtin.SmallTypes.ownedTupleIsFree (.ref z) >>= _) _ _ _
  refine wpAny_bind ?_
  unfold Builtin.SmallTypes.ownedTupleIsFree
  refine wpAny_bind (wpAny_field hz rfl (x := .none) rfl (wpAny_pure ?_))
  simp only [if_true]
  refine wpAny_bind (wpAny_rule (wpAny_bind (wpAny_field hz rfl (x := .ref TO) rfl (wpAny_bind (wpAny_setField_rec hz (by simp) ?_)))))
  intro g1 z1 s1
  replace z1 : IsZip g1 z TI TO .ellipsis := z1
  refine wpAny_bind ?_
  simp only [List.zipIdx_cons, List.zipIdx_nil, List.forIn_cons, List.forIn_nil]
  refine wpAny_bind (wpAny_bind (wpAny_onRaise (show wpAny _ _ (Builtin.SmallTypes.nextOf (.ref i1) >>= _) _ _ _ from wpAny_bind ?_)))
  have e1 : ItK g1 i1 l1 k1 tu := h1.ext fun o e => s1.extBut _ _ D.i1z e
  have f1 : HpK g1 l1 us tu := hl1.ext fun o e => s1.extBut _ _ D.l1z e
  cases hx : us[k1]? with
  | none =>
    refine nextK_end hh e1 f1 hx fun g2 e s2 he => ?_
    obtain ⟨oe, hoe, hce⟩ := he
    have z2 : IsZip g2 z TI TO .ellipsis := s2 _ _ D.i1z.symm z1
    have ne : e ≠ z := fun q => by subst q; rw [z2] at hoe; cases hoe; simp at hce
    exact wpAny_setField_rec z2 (by simp) fun g3 _ s3 => hE g3 e (fun c o c1 _ c3 _ q => s3.extBut _ _ c1 (s2 _ _ c3 (s1.extBut _ _ c1 q))) ⟨oe, s3.extBut _ _ ne hoe, hce⟩
  | some x =>
    have hy : ws[k2]? = none := by
      rcases hend with q | q
      · rw [hx] at q; cases q
      · exact q
    refine nextK_item e1 f1 hx fun g2 p2 s2 => wpAny_pure ?_
    have o2 : IsPair g2 TO a b := s2.extBut _ _ D.TOi1 (s1.extBut _ _ D.TOz hTO)
    refine wpAny_bind (wpAny_seqItems o2 rfl (wpAny_bind (wpAny_updateSeq_pair o2 ?_)))
    intro g3 o3 s3
    refine wpAny_bind (wpAny_letGo (wpAny_pure (wpAny_bind (wpAny_bind (wpAny_onRaise (show wpAny _ _ (Builtin.SmallTypes.nextOf (.ref i2) >>= _) _ _ _ from wpAny_bind ?_))))))
    refine nextK_end hh (h2.ext fun o e => s3.extBut _ _ D.TOi2.symm (s2.extBut _ _ D.i12.symm (s1.extBut _ _ D.i2z e))) (hl2.ext fun o e => s3.extBut _ _ D.l2TO (s2.extBut _ _ D.l2i1 (s1.extBut _ _ D.l2z e))) hy fun g4 e s4 he => ?_
    obtain ⟨oe, hoe, hce⟩ := he
    have z4 : IsZip g4 z TI TO .ellipsis := s4 _ _ D.i2z.symm (s3.extBut _ _ D.TOz.symm (s2.extBut _ _ D.i1z.symm z1))
    have ne : e ≠ z := fun q => by subst q; rw [z4] at hoe; cases hoe; simp at hce
    exact wpAny_setField_rec z4 (by simp) fun g5 _ s5 => hE g5 e (fun c o c1 c2 c3 c4 q => s5.extBut _ _ c1 (s4 _ _ c4 (s3.extBut _ _ c2 (s2.extBut _ _ c3 (s1.extBut _ _ c1 q))))) ⟨oe, s5.extBut _ _ ne hoe, hce⟩
def ZpK (K : PySem.W.Frag) (a b : Addr) (tu tv : Bool) : It :=
  ⟨fun i H => ∃ (xs ys : List V) (x y : V), SqK K H a xs tu ∧ SqK K H b ys tv ∧ xs[i]? = some x ∧ ys[i]? = some y,
   fun i H v H' => ∃ T x y, v = .ref T ∧ H T = none ∧ H' = upd H T (.tup [x, y]) ∧ (∀ xs, SqK K H a xs tu → xs[i]? = some x) ∧ ∀ ys, SqK K H b ys tv → ys[i]? = some y,
   fun i H => ∃ xs ys : List V, SqK K H a xs tu ∧ SqK K H b ys tv ∧ (xs.length ≤ i ∨ ys.length ≤ i)⟩
theorem turnZp {K : PySem.W.Frag} {elts : List Expr} {kk : Nat} {tpos : Pos} {z TI TO i1 i2 : Addr} (D : ZipApart z TI TO i1 i2 a b) :
    Turn P w K (.Tuple elts kk tpos) (ZpK K a b tu tv) [z, TI, TO, i1, i2] z (fun i h => IsZip h z TI TO .none ∧ IsPair h TI (.ref i1) (.ref i2) ∧ (∃ x y, IsPair h TO x y) ∧ ItK h i1 a i tu ∧ ItK h i2 b i tv) where
  mem := by simp
  obj := fun i h ⟨hz, hTI, ⟨x, y, hTO⟩, h1, h2⟩ c hc => by
    have e' : c = z ∨ c = TI ∨ c = TO ∨ c = i1 ∨ c = i2 := by simpa using hc
    rcases e' with q | q | q | q | q <;> rw [q]
    · exact ⟨_, hz, fun v q => nomatch q⟩
    · exact ⟨_, hTI, fun v q => nomatch q⟩
    · exact ⟨_, hTO, fun v q => nomatch q⟩
    · exact h1.obj
    · exact h2.obj
  keep := fun i h h' ⟨hz, hTI, ⟨x, y, hTO⟩, h1, h2⟩ k => ⟨k z (by simp) _ hz, k TI (by simp) _ hTI, ⟨x, y, k TO (by simp) _ hTO⟩, h1.ext fun o q => k i1 (by simp) o q, h2.ext fun o q => k i2 (by simp) o q⟩
  item := by
    intro X hP hw hK hc i pins s σ H E I hf ⟨hz, hTI, ⟨x0, y0, hTO⟩, h1, h2⟩ ⟨xs, ys, x, y, hqx, hqy, hx, hy⟩
    subst hP hw hK
    obtain ⟨us, rv, p⟩ := invK I hqx
    obtain ⟨ws, rv2, p2⟩ := invK I hqy
    obtain ⟨u, hu, ru⟩ := rv.get hx
    obtain ⟨u2, hu2, ru2⟩ := rv2.get hy
    have zl : z < s.heap.objs.size := Heap.lt_size hz
    have hT : s.TypeIs (.ref z) "zip" := ⟨_, hz, rfl⟩
    unfold pyNext
    refine wpAny_bind (wpAny_attempt (wpAny_callSpecial?_slot (name := Str.ofString "__next__") hT F.slot_zip_next (wpAny_call_entry F.slot_zip_next hT F.entry_zip_next (zipK_item D hz hTI hTO h1 h2 p p2 (x := u) (y := u2) (by simpa using hu) (by simpa using hu2) ?_) (F.args_zip_next_1 _))))
    intro g z' o' a' b' t' k'
    refine wpAny_pure ⟨_, rfl, wpAny_letOwnedTupleGo_zip (s := { s with heap := g }) z' ?_⟩
    intro g2 z2 sb
    have eT : g2.get? s.heap.objs.size = some { cls := .type "tuple", data := .seq #[u, u2] } := (sb.2 _ (Nat.ne_of_gt zl)).trans t'
    have new : ObjOk X.prog X.w (upd H s.heap.objs.size (.tup [x, y])) g2 s.heap.objs.size (.tup [x, y]) := ⟨by show 2 ≤ sizeLine; decide, [u, u2], .cons ru (.cons ru2 .nil), _, eT, rfl, _, rfl⟩
    have kB : ∀ c o, c ∉ [z, TI, TO, i1, i2] → s.heap.get? c = some o → g2.get? c = some o := fun c o hb q => (sb.2 c fun w => hb (by simp [w])).trans (k' c o (fun w => hb (by simp [w])) (fun w => hb (by simp [w])) (fun w => hb (by simp [w])) (fun w => hb (by simp [w])) q)
    have J : Inv X pins σ (upd H s.heap.objs.size (.tup [x, y])) { s with heap := g2 } := I.turnedNew (t' := s.toks) (ch := [z, TI, TO, i1, i2]) kB hf (Nat.le_refl _) new
    refine ⟨.ref s.heap.objs.size, _, J, rfl, ⟨_, x, y, rfl, I.hok.fresh (Nat.le_refl _), rfl, fun l hl => by rw [injK I hl hqx]; exact hx, fun l hl => by rw [injK I hl hqy]; exact hy⟩, ⟨z2, ?_, ⟨u, u2, ?_⟩, ?_, ?_⟩, fun c hcm => ?_⟩
    · exact (sb.2 _ D.TIz).trans (k' _ _ D.TIz D.TITO D.TIi1 D.TIi2 hTI)
    · exact (sb.2 _ D.TOz).trans o'
    · exact a'.ext fun o q => (sb.2 _ D.i1z).trans q
    · exact b'.ext fun o q => (sb.2 _ D.i2z).trans q
    · have lc : c < s.heap.objs.size := by
        have e' : c = z ∨ c = TI ∨ c = TO ∨ c = i1 ∨ c = i2 := by simpa using hcm
        rcases e' with q | q | q | q | q <;> rw [q]
        · exact zl
        · exact Heap.lt_size hTI
        · exact Heap.lt_size hTO
        · obtain ⟨o, e, _⟩ := h1.obj; exact Heap.lt_size e
        · obtain ⟨o, e, _⟩ := h2.obj; exact Heap.lt_size e
      rw [upd_ne (Nat.ne_of_lt lc)]
      exact (hf c hcm).1
  done := by
    intro X hP hw hK hc i pins s σ H E I hf ⟨hz, hTI, ⟨x0, y0, hTO⟩, h1, h2⟩ ⟨xs, ys, hqx, hqy, hend⟩
    subst hP hw hK
    obtain ⟨us, rv, p⟩ := invK I hqx
    obtain ⟨ws, rv2, p2⟩ := invK I hqy
    have l1 := rv.length
    have l2 := rv2.length
    have he : us.toArray[i]? = none ∨ ws.toArray[i]? = none := by
      rcases hend with q | q
      · exact .inl (by simp; omega)
      · exact .inr (by simp; omega)
    have hT : s.TypeIs (.ref z) "zip" := ⟨_, hz, rfl⟩
    unfold pyNext
    refine wpAny_bind (wpAny_attempt (wpAny_callSpecial?_slot (name := Str.ofString "__next__") hT F.slot_zip_next (wpAny_call_entry F.slot_zip_next hT F.entry_zip_next (zipK_end (I.ok.hd hc) D hz hTI hTO h1 h2 p p2 he ?_) (F.args_zip_next_1 _))))
    intro g e k' ⟨o, ho, hcl⟩
    exact wpAny_bind (wpAny_isInstance (T := "StopIteration") (b := true) ⟨o, ho, hcl⟩ isSubtype_stop (wpAny_pure ⟨rfl, I.turnedL (t' := s.toks) (ch := [z, TI, TO, i1, i2]) (fun c o hb q =>
      k' c o (fun q' => hb (by simp [q'])) (fun q' => hb (by simp [q'])) (fun q' => hb (by simp [q'])) (fun q' => hb (by simp [q'])) q) hf⟩))
  self := fun A i s Q E st h => wpAny_pyIter_zip st.1 h
/-- zip(a, b), made -/
abbrev zh1 (h : Heap) (l1 : Addr) (tu : Bool) : Heap := h.push (itObj l1 tu)
abbrev zh2 (h : Heap) (l1 l2 : Addr) (tu tv : Bool) : Heap := (zh1 h l1 tu).push (itObj l2 tv)
abbrev zh3 (h : Heap) (l1 l2 : Addr) (tu tv : Bool) : Heap := (zh2 h l1 l2 tu tv).push { cls := .type "tuple", data := .seq #[.ref h.objs.size, .ref (zh1 h l1 tu).objs.size] }
abbrev zh4 (h : Heap) (l1 l2 : Addr) (tu tv : Bool) : Heap := (zh3 h l1 l2 tu tv).push { cls := .type "tuple", data := .seq #[.none, .none] }
abbrev zh5 (h : Heap) (l1 l2 : Addr) (tu tv : Bool) : Heap := (zh4 h l1 l2 tu tv).push { cls := .type "zip", data := .fields #[.none, .bool false, .bool false, .ref (zh2 h l1 l2 tu tv).objs.size, .ref (zh3 h l1 l2 tu tv).objs.size] }
theorem meetsK_zip (l1 l2 : Addr) (us ws : Array Value) :
    Meets (Builtin.«zip.__new__» ⟨[.type "zip", .ref l1, .ref l2], []⟩) (fun _ R s => HpK s.heap l1 us tu ∧ HpK s.heap l2 ws tv ∧ R (.ok (.ret (.ref (zh4 s.heap l1 l2 tu tv).objs.size))) { s with heap := zh5 s.heap l1 l2 tu tv }) :=
  .of_wp fun prog w A R s h => by
    obtain ⟨hp, g, d, tk, os⟩ := s
    obtain ⟨hl1, hl2, h⟩ := h
    have hsub := sub_zip
    have L1 : HpK (Shared.heap ⟨hp, g, d, tk, os⟩) l1 us tu := hl1
    have L2' : HpK (Shared.heap ⟨hp.push (itObj l1 tu), g, d, tk, os⟩) l2 ws tv := hl2.ext fun o e => Heap.get?_push_of_some _ e
    wp_walk using iterK L1, iterK L2'
    exact ⟨_, rfl, h⟩
theorem callK_zip {l1 l2 : Addr} {us ws : Array Value} {Q : Value → Shared → Prop} (hl1 : HpK s.heap l1 us tu) (hl2 : HpK s.heap l2 ws tv)
    (h : ∀ h', IsZip h' (s.heap.objs.size + 4) (s.heap.objs.size + 2) (s.heap.objs.size + 3) .none → IsPair h' (s.heap.objs.size + 2) (.ref s.heap.objs.size) (.ref (s.heap.objs.size + 1)) →
      IsPair h' (s.heap.objs.size + 3) .none .none → ItK h' s.heap.objs.size l1 0 tu → ItK h' (s.heap.objs.size + 1) l2 0 tv → (∀ c o, s.heap.get? c = some o → h'.get? c = some o) → Q (.ref (s.heap.objs.size + 4)) { s with heap := h' }) :
    wpAny (model P w) A (call (.type "zip") [.ref l1, .ref l2]) Q E s := by
  refine callType_new F.called_zip (by decide) (F.typeCall_zip_2 _ _) (F.newCall_zip_2 _ _) (fun obj => F.args_object_init_3 obj _ _) F.entry_zip_new (meetsK_zip (tu := tu) (tv := tv) l1 l2 us ws) ⟨hl1, hl2, ?_⟩
  have n1 : (zh1 s.heap l1 tu).objs.size = s.heap.objs.size + 1 := Heap.size_push ..
  have n2 : (zh2 s.heap l1 l2 tu tv).objs.size = s.heap.objs.size + 2 := by rw [Heap.size_push, n1]
  have n3 : (zh3 s.heap l1 l2 tu tv).objs.size = s.heap.objs.size + 3 := by rw [Heap.size_push, n2]
  have n4 : (zh4 s.heap l1 l2 tu tv).objs.size = s.heap.objs.size + 4 := by rw [Heap.size_push, n3]
  have k4 : ∀ c o, (zh4 s.heap l1 l2 tu tv).get? c = some o → (zh5 s.heap l1 l2 tu tv).get? c = some o := fun c o e => Heap.get?_push_of_some _ e
  have k3 : ∀ c o, (zh3 s.heap l1 l2 tu tv).get? c = some o → (zh5 s.heap l1 l2 tu tv).get? c = some o := fun c o e => k4 c o (Heap.get?_push_of_some _ e)
  have k2 : ∀ c o, (zh2 s.heap l1 l2 tu tv).get? c = some o → (zh5 s.heap l1 l2 tu tv).get? c = some o := fun c o e => k3 c o (Heap.get?_push_of_some _ e)
  have k1 : ∀ c o, (zh1 s.heap l1 tu).get? c = some o → (zh5 s.heap l1 l2 tu tv).get? c = some o := fun c o e => k2 c o (Heap.get?_push_of_some _ e)
  have io : ∀ (l : Addr) (b : Bool), (itObj l b).isFreed = false := fun l b => by cases b <;> rfl
  have g5 : (zh5 s.heap l1 l2 tu tv).get? (zh4 s.heap l1 l2 tu tv).objs.size = some _ := Heap.get?_push_size _ rfl
  have g4 : (zh5 s.heap l1 l2 tu tv).get? (zh3 s.heap l1 l2 tu tv).objs.size = some _ := k4 _ _ (Heap.get?_push_size _ rfl)
  have g3 : (zh5 s.heap l1 l2 tu tv).get? (zh2 s.heap l1 l2 tu tv).objs.size = some _ := k3 _ _ (Heap.get?_push_size _ rfl)
  have g2 : (zh5 s.heap l1 l2 tu tv).get? (zh1 s.heap l1 tu).objs.size = some (itObj l2 tv) := k2 _ _ (Heap.get?_push_size _ (io l2 tv))
  have g1 : (zh5 s.heap l1 l2 tu tv).get? s.heap.objs.size = some (itObj l1 tu) := k1 _ _ (Heap.get?_push_size _ (io l1 tu))
  show _ ∧ _
  rw [n2, n3, n4] at g5
  rw [n1, n2] at g3
  rw [n3] at g4
  rw [n1] at g2
  rw [n4]
  exact ⟨⟨_, g5, rfl⟩, h _ g5 g3 g4 (ItK.mk' g1) (ItK.mk' g2) fun c o e => k1 c o (Heap.get?_push_of_some _ e)⟩
def iZpK (K : PySem.W.Frag) (ta : TA) : TI := fun σ H R => ta σ H fun vs H1 => ∃ a b xs ys tu tv, vs = [.ref a, .ref b] ∧ SqK K H1 a xs tu ∧ SqK K H1 b ys tv ∧ R (ZpK K a b tu tv) H1
theorem piK_zip {e e2 : Expr} {ta : TA} {p pos tpos : Pos} {elts : List Expr} {kk : Nat} (hg : Gl X "zip") (hm : X.mg "zip" = none) (ha : PA X [e, e2] ta)
    (hs : starEach [e, e2] X.env = (false, eval e X.env) :: starEach [e2] X.env := by rfl) (hpl : (backTo pos (starEach [e2] X.env)).any (·.1) = false := by rfl) : PI X (.Tuple elts kk tpos) (.Call (.Name "zip" p) [e, e2] [] pos) (iZpK X.K ta) := .mk fun pins s σ H R I h => by
  refine Call_ (ld_blt I hg hm PyProof.Rows.boot_zip (PyProof.Rows.callWith_type1 (thn (ha.run pos pins s σ H _ I h) ?_) hs hpl))
  rintro us s1 ⟨vs, H1, I1, r1, a, b, xs, ys, tu, tv, ex, hqx, hqy, q⟩
  subst ex
  obtain ⟨u, v, rfl, ru, rv⟩ := Vals.two r1
  cases ru; cases rv
  obtain ⟨is1, _, p1⟩ := invK I1 hqx
  obtain ⟨is2, _, p2⟩ := invK I1 hqy
  refine callK_zip p1 p2 fun h' hz hTI hTO h1 h2 hk => wpAny_pyIter_zip hz ?_
  have I2 : Inv X pins σ H1 { s1 with heap := h' } := I1.kept (t' := s1.toks) hk
  refine ⟨s1.heap.objs.size + 4, [s1.heap.objs.size + 4, s1.heap.objs.size + 2, s1.heap.objs.size + 3, s1.heap.objs.size, s1.heap.objs.size + 1], _, _, H1, rfl, I2, turnZp (PySem.W.ktu_apart s1.heap.objs.size a b p1.lt p2.lt), ⟨hz, hTI, ⟨_, _, hTO⟩, h1, h2⟩, fun c hcm => ?_, q⟩
  have hle : s1.heap.objs.size ≤ c := by
    have e' : c = s1.heap.objs.size + 4 ∨ c = s1.heap.objs.size + 2 ∨ c = s1.heap.objs.size + 3 ∨ c = s1.heap.objs.size ∨ c = s1.heap.objs.size + 1 := by simpa using hcm
    rcases e' with q | q | q | q | q <;> (rw [q]; first | exact Nat.le_add_right _ _ | exact Nat.le_refl _)
  exact I1.fpOk hle (I1.hok.fresh hle)
end
end Dt

set_option maxRecDepth 100000
set_option maxHeartbeats 4000000
namespace Dt
open PySem PySem.Spec PyProof.Rows L2
open Evl (Ex)
section
variable {C : Cfg} {K : PySem.W.Frag} {X : Cx} {O0 O O' : List Addr} {H0 H H' H1 : Hp} {σ : L2.St} {ρ : E}
variable {a b c d e o : Expr} {es : List Expr} {ta tb tc td te to : TE} {ma mb mc md me mo : M} {t : TA} {n : As} {p p1 p2 p3 pos pos2 apos cpos : Pos} {kk : Nat}
/-- a list or a tuple that a loop may walk over -/
def Src (C : Cfg) (w : Bool) (O : List Addr) (H1 : Hp) (a : Addr) (xs : List V) (ds : List D) : Bool → Prop
  | true => TupN (hid H1 O) a xs ∧ Reps C (hid H1 O) xs ds
  | false => H1 a = some (.lst xs) ∧ (w = false → a ∉ O) ∧ Reps C (hid H1 O) xs ds
theorem Src.reps {w tu : Bool} {a : Addr} {xs : List V} {ds : List D} (s : Src C w O H1 a xs ds tu) : Reps C (hid H1 O) xs ds := by
  cases tu with
  | true => exact s.2
  | false => exact s.2.2
theorem Src.sq {w tu : Bool} {a : Addr} {xs : List V} {ds : List D} {H2 : Hp} {O2 : List Addr} (s : Src C w O H1 a xs ds tu) (hx : w = true → Ex H1 H2) (e : Ex (hid H1 O) (hid H2 O2)) : SqK K H2 a xs tu := by
  cases tu with
  | true => exact ((s.1.mono e).mono hid_ex).sq
  | false =>
    refine .inl (.inl ?_)
    cases w with
    | true => exact hx rfl a _ s.1
    | false => exact hid_ex _ _ (e a _ (by rw [hid_out (s.2.1 rfl)]; exact s.1))
theorem Src.now {w tu : Bool} {a : Addr} {xs : List V} {ds : List D} (s : Src C w O H1 a xs ds tu) : SqK K H1 a xs tu := s.sq (fun _ => Evl.Ex.refl _) (Evl.Ex.refl _)
theorem src_of {w : Bool} {v : V} {r : D × Fl} {ds : List D} (dm : ∀ a ∈ O, H a ≠ none) (hs : seqOf w r = some ds) (h : Res C O0 O H H1 v r) : ∃ a xs tu, v = .ref a ∧ Src C w O H1 a xs ds tu := by
  obtain ⟨d, fl⟩ := r
  cases d with
  | tup ds' =>
    cases hs
    obtain ⟨a, xs, rfl, h1, h2⟩ := h.tupH
    exact ⟨a, xs, true, rfl, h1, h2⟩
  | lst ds' =>
    replace hs : (if w || decide (fl ≠ .bor) then some ds' else none) = some ds := hs
    split at hs
    · rename_i hk
      cases hs
      obtain ⟨a, xs, rfl, h1, h2⟩ := h.lstE
      refine ⟨a, xs, false, rfl, h1, fun hw => ?_, h2⟩
      subst hw
      simp only [Bool.false_or, decide_eq_true_eq] at hk
      cases h with
      | pure w => cases w with
        | lst g _ => intro z; unfold hid at g; rw [if_pos z] at g; cases g
      | fresh g _ _ => exact fun z => dm _ z g
      | bor _ _ _ _ => exact absurd rfl hk
    · cases hs
  | _ => cases hs
theorem Src.mono {w tu : Bool} {a : Addr} {xs : List V} {ds : List D} {H2 : Hp} (s : Src C w O H1 a xs ds tu) (e : Ex H1 H2) : Src C w O H2 a xs ds tu := by
  cases tu with
  | true => exact ⟨s.1.mono (hid_mono e), s.2.mono (hid_mono e)⟩
  | false => exact ⟨e _ _ s.1, s.2.1, s.2.2.mono (hid_mono e)⟩
theorem enD_get : ∀ {ds : List D} {k i : Nat} {d : D}, (enD k ds)[i]? = some d → ∃ x, ds[i]? = some x ∧ d = .tmp [.int ((k + i : Nat) : Int), x]
  | [], _, i, d, h => by simp [enD] at h
  | x :: ds, k, 0, d, h => by
    simp only [enD, List.getElem?_cons_zero] at h
    exact ⟨x, rfl, by cases h; rfl⟩
  | x :: ds, k, i + 1, d, h => by
    simp only [enD, List.getElem?_cons_succ] at h
    obtain ⟨y, h1, h2⟩ := enD_get h
    exact ⟨y, by simpa using h1, by rw [h2, show k + 1 + i = k + (i + 1) by omega]⟩
theorem enD_len : ∀ {ds : List D} {k : Nat}, (enD k ds).length = ds.length
  | [], _ => rfl
  | x :: ds, k => by simp [enD, enD_len (ds := ds)]
theorem itEn_ok {w tu : Bool} {a : Addr} {xs : List V} {ds : List D} (s : Src C w O H1 a xs ds tu) : ItOk C w O H1 (EnK K a tu) (enD 0 ds) := by
  intro H2 O2 hx e dm i
  have ha : SqK K H2 a xs tu := s.sq hx e
  have hr := s.reps
  refine ⟨fun d hd => ?_, fun hl => ⟨xs, ha, by rw [hr.length]; rw [enD_len] at hl; exact hl⟩⟩
  obtain ⟨x, g1, rfl⟩ := enD_get hd
  obtain ⟨v, e1, r⟩ := hr.get g1
  refine ⟨⟨xs, v, ha, e1⟩, fun z H3 yl => ?_⟩
  obtain ⟨T, x', rfl, hT, rfl, q1⟩ := yl
  have z1 := q1 xs ha
  rw [e1] at z1; cases z1
  rw [Nat.zero_add]
  exact ⟨Evl.Ex.new hT, pair_new dm hT (.int _) (r.mono e)⟩
theorem di_enum {w : Bool} {elts : List Expr} {tpos : Pos} (hK : X.K = K) (hg : Gl X "enumerate") (hm : X.mg "enumerate" = none) (ha : DA C X [a] t n) (hs : starEach [a] X.env = [(false, eval a X.env)] := by rfl) :
    DI C w X (.Tuple elts kk tpos) (.Call (.Name "enumerate" p) [a] [] pos) (iEnK K t) (iEn w n) := by
  subst hK
  refine ⟨piK_enum hg hm ha.pa hs, fun O0 O H σ ρ ds s h R q => ?_⟩
  unfold iEn at h
  obtain ⟨rs, en, h⟩ := bind2 h
  match rs, h with
  | [], h => cases h
  | _ :: _ :: _, h => cases h
  | [r], h =>
    replace h : (seqOf w r).map (enD 0) = some ds := h
    cases hq : seqOf w r with
    | none => rw [hq] at h; cases h
    | some es =>
      rw [hq] at h; cases h
      refine ha.sd _ _ _ _ _ _ s en _ fun vs H1 e rr => ?_
      obtain ⟨v, rfl, r1⟩ := ress1 rr
      obtain ⟨a', xs, tu, rfl, sr⟩ := src_of s.dom hq r1
      exact ⟨a', xs, tu, rfl, sr.now, q _ _ e (itEn_ok sr)⟩
theorem itZp_ok {w tu tv : Bool} {a b : Addr} {xs ys : List V} {ds es : List D} (s : Src C w O H1 a xs ds tu) (s' : Src C w O H1 b ys es tv) : ItOk C w O H1 (ZpK K a b tu tv) (zipD ds es) := by
  intro H2 O2 hx e dm i
  have ha : SqK K H2 a xs tu := s.sq hx e
  have hb : SqK K H2 b ys tv := s'.sq hx e
  have hr := s.reps
  have hr' := s'.reps
  refine ⟨fun d hd => ?_, fun hl => ⟨xs, ys, ha, hb, by rw [hr.length, hr'.length]; rw [zipD_len] at hl; omega⟩⟩
  obtain ⟨x, y, g1, g2, rfl⟩ := zipD_get hd
  obtain ⟨v, e1, r⟩ := hr.get g1
  obtain ⟨u, e2, r'⟩ := hr'.get g2
  refine ⟨⟨xs, ys, v, u, ha, hb, e1, e2⟩, fun z H3 yl => ?_⟩
  obtain ⟨T, x', y', rfl, hT, rfl, q1, q2⟩ := yl
  have z1 := q1 xs ha
  rw [e1] at z1; cases z1
  have z2 := q2 ys hb
  rw [e2] at z2; cases z2
  exact ⟨Evl.Ex.new hT, pair_new dm hT (r.mono e) (r'.mono e)⟩
theorem di_zipK {w : Bool} {elts : List Expr} {tpos : Pos} (hK : X.K = K) (hg : Gl X "zip") (hm : X.mg "zip" = none) (ha : DA C X [a, b] t n)
    (hs : starEach [a, b] X.env = (false, eval a X.env) :: starEach [b] X.env := by rfl) (hpl : (backTo pos (starEach [b] X.env)).any (·.1) = false := by rfl) :
    DI C w X (.Tuple elts kk tpos) (.Call (.Name "zip" p) [a, b] [] pos) (iZpK K t) (iZK w n) := by
  subst hK
  refine ⟨piK_zip hg hm ha.pa hs hpl, fun O0 O H σ ρ ds s h R q => ?_⟩
  unfold iZK at h
  obtain ⟨rs, en, h⟩ := bind2 h
  match rs, h with
  | [], h => cases h
  | [_], h => cases h
  | _ :: _ :: _ :: _, h => cases h
  | [r, r'], h =>
    obtain ⟨es, e1, h⟩ := bind2 (show ((seqOf w r).bind fun a => (seqOf w r').map fun b => zipD a b) = some ds from h)
    cases hq : seqOf w r' with
    | none => rw [hq] at h; cases h
    | some fs =>
      rw [hq] at h; cases h
      refine ha.sd _ _ _ _ _ _ s en _ fun vs H1 e rr => ?_
      obtain ⟨v, v', rfl, r1, r2⟩ := ress2 rr
      obtain ⟨a', xs, tu, rfl, sr⟩ := src_of s.dom e1 r1
      obtain ⟨b', ys, tv, rfl, sr'⟩ := src_of s.dom hq r2
      exact ⟨a', b', xs, ys, tu, tv, rfl, sr.now, sr'.now, q _ _ e (itZp_ok sr sr')⟩
end
end Dt

set_option maxRecDepth 100000
set_option maxHeartbeats 4000000
/-! reversed(..), made a list or a tuple -/
namespace RvD
open PySem PySem.Spec PyProof.Rows RT
section
variable {prog : Program} {w : World} {A : Around} {E : Value → Shared → Prop} {s : Shared}
theorem lst_rev {R : Result → Shared → Prop} {it l : Addr} {items : Array Value} (hh : A.handled = none) (hit : s.heap.IsRevIter it l ((items.size : Int) - 1)) (hl : s.heap.IsList l items) (hne : l ≠ it) (hn : items.size ≤ sizeLine)
    (S : Addr) (hSi : S ≠ it) (hSl : S ≠ l) (res : Value) (c₀ : Nat) (hS : s.heap.get? S = some { cls := .type "list", data := .seq #[] c₀ })
    (hR : ∀ h' tk acc' c', (∀ b o, b ≠ S → b ≠ it → s.heap.get? b = some o → h'.get? b = some o) → h'.get? S = some { cls := .type "list", dict := none, data := .seq acc' c', slots := #[] } →
      ItemsOf (fun i v => items[items.size - 1 - i]? = some v) acc' items.size → R (.ok (.ret res)) { s with heap := h', toks := tk }) :
    wpAny (model prog w) A.in1 (Builtin.List.listExtendWith (.ref S) (.ref it) res)
      (fun fin s' => match fin with | .done f => R (.ok f) s' | .again c' => c'.quiet = true ∧ codeAny (model prog w) A c' R s') (fun e s' => R (.error e) s') s := by
  have W := (Walks.listRev (prog := prog) (w := w) (A := A.in1) hh it l hne items).toS
  have hSf : S ∉ [it, l] := by simp only [List.mem_cons, List.not_mem_nil, or_false, not_or]; exact ⟨hSi, hSl⟩
  have hT : s.TypeIs (.ref it) "list_reverseiterator" := hit.typeIs
  have h1 : Builtin.List.listSameRef (.ref S) (.ref it) = false := by simp [Builtin.List.listSameRef, hSi]
  unfold Builtin.List.listExtendWith
  refine wpAny_bind (wpAny_typeOf hT ?_)
  rw [if_neg (by rw [h1]; decide)]
  refine wpAny_bind (wpAny_pyIter_revIter hit ?_)
  refine wpAny_bind (wpAny_holding ?_)
  unfold Builtin.List.listLengthHint
  refine wpAny_bind (wpAny_specialOf hT nolen_lri ?_)
  show wpAny _ A.in1 (specialOf (Value.ref it) (Str.ofString "__length_hint__") >>= _) _ _ _
  refine wpAny_bind (wpAny_specialOf hT hint_lri ?_)
  generalize hid : ("list_reverseiterator.__length_hint__" : String) = id0
  wp_delta
  rw [show splitId id0 = some ("list_reverseiterator", "__length_hint__") from by subst hid; decide +kernel]
  subst hid
  refine wpAny_bind (wpAny_isInstance (b := true) hT (by rw [isSubtype_type]; kernel_rfl) ?_)
  refine wpAny_pure ?_
  rw [if_neg (by decide)]
  have e0 : ((items.size : Nat) : Int) - 1 - ((0 : Nat) : Int) = (items.size : Int) - 1 := by omega
  refine wpAny_pure ⟨plainId_quiet F.plain_extend_loop _, codeAny_extend_loopS W hn S hSf res items.size 0 s #[] c₀ rfl (Nat.zero_le _) ⟨Nat.zero_le _, by rw [e0]; exact hit, hl⟩ hS (ItemsOf.nil _) fun s' acc' c' hm hS' hacc => ?_⟩
  rw [Moved.eq_with hm]
  refine hR s'.heap s'.toks acc' c' (fun b o hb hb2 e => hm.heap b o (fun hmem => ?_) e) hS' hacc
  rcases List.mem_cons.mp hmem with e' | hmem
  · exact hb e'
  · exact hb2 (List.mem_singleton.mp hmem)
theorem call_list_rev {Q : Value → Shared → Prop} {it l : Addr} {items : Array Value} (hh : A.handled = none) (hit : s.heap.IsRevIter it l ((items.size : Int) - 1)) (hl : s.heap.IsList l items) (hne : l ≠ it) (hn : items.size ≤ sizeLine)
    (hQ : ∀ h' tk acc' c', (∀ b o, b ≠ it → s.heap.get? b = some o → h'.get? b = some o) →
      h'.get? s.heap.objs.size = some { cls := .type "list", dict := none, data := .seq acc' c', slots := #[] } → ItemsOf (fun i v => items[items.size - 1 - i]? = some v) acc' items.size → Q (.ref s.heap.objs.size) { s with heap := h', toks := tk }) :
    wpAny (model prog w) A (call (.type "list") [.ref it]) Q E s := by
  refine callType_codes (Q₁ := fun obj s₁ => obj = .ref s.heap.objs.size ∧ s₁ = { s with heap := s.heap.push { cls := .type "list", data := .seq #[] } }) F.called_list (F.typeCall_list_1 _) F.entry_list_init
    (code_list_new _ ⟨rfl, rfl⟩) fun obj s₁ h₁ => ?_
  obtain ⟨rfl, rfl⟩ := h₁
  obtain ⟨oi, hoi, _⟩ := id hit
  obtain ⟨ol, hol, _⟩ := id hl
  have hS : (s.heap.push { cls := .type "list", data := .seq #[] }).get? s.heap.objs.size = some { cls := .type "list", data := .seq #[] } := Heap.get?_push_size _ rfl
  refine ⟨⟨_, hS, rfl⟩, F.args_list_init_2 _ _, ?_⟩
  have hSi : s.heap.objs.size ≠ it := Nat.ne_of_gt (Heap.lt_size hoi)
  have hSl : s.heap.objs.size ≠ l := Nat.ne_of_gt (Heap.lt_size hol)
  show wpAny _ _ (do let old ← Builtin.List.listItems (.ref s.heap.objs.size); Builtin.List.listUpdate (.ref s.heap.objs.size) (fun _ => #[]); letGo old.toList.reverse; Builtin.List.listExtendWith (.ref s.heap.objs.size) (.ref it) .none) _ _ _
  refine wpAny_bind ?_
  unfold Builtin.List.listItems
  refine wpAny_bind (wpAny_seqItems hS rfl (wpAny_pure ?_))
  show wpAny _ _ (updateSeq s.heap.objs.size (fun _ => #[]) >>= fun _ => letGo (#[] : Array Value).toList.reverse >>= fun _ => Builtin.List.listExtendWith (.ref s.heap.objs.size) (.ref it) .none) _ _ _
  refine wpAny_bind (wpAny_updateSeq hS rfl ?_)
  have hS₂ := Heap.get?_update_self (Obj.mapSeq (fun _ => (#[] : Array Value))) hS rfl
  have oth : ∀ b o, b ≠ s.heap.objs.size → s.heap.get? b = some o → ((s.heap.push { cls := .type "list", data := .seq #[] }).update s.heap.objs.size (Obj.mapSeq (fun _ => (#[] : Array Value)))).get? b = some o :=
    fun b o hb e => (Heap.get?_update_other _ _ (Ne.symm hb)).trans (Heap.get?_push_of_some _ e)
  refine wpAny_bind (wpAny_letGo ?_)
  refine lst_rev (A := A.in1) (s := { s with heap := (s.heap.push { cls := .type "list", data := .seq #[] }).update s.heap.objs.size (Obj.mapSeq (fun _ => (#[] : Array Value))) }) hh (hit.at fun o e => oth it o (Ne.symm hSi) e) (hl.at fun o e => oth l o (Ne.symm hSl) e) hne hn _ hSi hSl .none _ hS₂ fun h' tk acc' c' hk hS' hacc => ?_
  exact ⟨rfl, hQ h' tk acc' c' (fun b o hb e => hk b o (Nat.ne_of_lt (Heap.lt_size e)) hb (oth b o (Nat.ne_of_lt (Heap.lt_size e)) e)) hS' hacc⟩
end
end RvD

namespace Dt
open PySem PySem.Spec PyProof.Rows L2
open Evl (Ex)
section
variable {C : Cfg} {K : PySem.W.Frag} {X : Cx} {a : Expr} {ta : TE} {ma : M} {p p2 pos pos2 : Pos}
/-- list(reversed(x)), x a list -/
def tLstRev (K : PySem.W.Frag) (te : TE) : TE := fun σ H Q => te σ H fun v H1 => ∃ (a : Addr) (xs : List V), v = .ref a ∧ SqL K H1 a xs ∧ ∀ q, H1 q = none → Q (.ref q) (upd H1 q (.lst xs.reverse))
theorem pe_lstRev {e : Expr} {te : TE} (hc : X.calm = true) (hg : Gl X "list") (hm : X.mg "list" = none) (hg2 : Gl X "reversed") (hm2 : X.mg "reversed" = none) (he : PE X e te)
    (hs : starEach [e] X.env = (false, eval e X.env) :: starEach [] X.env := by rfl)
    (hs2 : starEach [.Call (.Name "reversed" p2) [e] [] pos2] X.env = (false, eval (.Call (.Name "reversed" p2) [e] [] pos2) X.env) :: starEach [] X.env := by rfl) :
    PE X (.Call (.Name "list" p) [.Call (.Name "reversed" p2) [e] [] pos2] [] pos) (tLstRev X.K te) := by
  refine ⟨fun pins s σ H Q I h => ?_⟩
  refine Call_ (ld_blt I hg hm boot_list (PyProof.Rows.callWith_type1 (args_cons (Call_ (ld_blt I hg2 hm2 PyProof.Rows.boot_reversed (PyProof.Rows.callWith_type1 (args_cons (thn (he.run pins s σ H _ I h) fun u s1 ⟨v, H1, I1, r1, q1⟩ => args_nil ?_) hs) hs rfl))) hs2) hs2 rfl))
  obtain ⟨a, xs, ev, hq, q⟩ := q1
  subst ev
  obtain rfl : u = Value.ref a := r1
  obtain ⟨its, rv, p', hz⟩ := I1.list hq
  refine call_reversed_list p'.isList (args_nil ?_)
  have k0 : ∀ b o, s1.heap.get? b = some o → (s1.heap.push (revObj a ((its.toArray.size : Int) - 1))).get? b = some o := fun b o e => Heap.get?_push_of_some _ e
  have I2 : Inv X pins σ H1 { s1 with heap := s1.heap.push (revObj a ((its.toArray.size : Int) - 1)) } := I1.kept (t' := s1.toks) k0
  obtain ⟨f0, f1, f2, f3, f4, f5⟩ := I1.fpOk (H' := H1) (b := s1.heap.objs.size) (Nat.le_refl _) (I1.hok.fresh (Nat.le_refl _))
  have hl := p'.isList
  obtain ⟨ol, hol, _⟩ := id hl
  have hne : a ≠ s1.heap.objs.size := Nat.ne_of_lt (Heap.lt_size hol)
  have hn : its.toArray.size ≤ sizeLine := by rw [List.size_toArray, ← rv.length]; exact hz
  refine RvD.call_list_rev (s := { s1 with heap := s1.heap.push (revObj a ((its.toArray.size : Int) - 1)) }) (I1.ok.hd hc) ⟨_, Heap.get?_push_size _ rfl, rfl, rfl⟩ (hl.push _) hne hn fun h' tk acc c' hk hS hi => ?_
  have hA : H1 (s1.heap.push (revObj a ((its.toArray.size : Int) - 1))).objs.size = none := I1.hok.fresh (Nat.le_of_lt (by show s1.heap.objs.size < (s1.heap.objs.push _).size; rw [Array.size_push]; exact Nat.lt_succ_self _))
  have I4 := I1.laid (h' := h') (t' := tk) (a := (s1.heap.push (revObj a ((its.toArray.size : Int) - 1))).objs.size) (o := .lst xs.reverse) (fun b o e => hk b o (fun w => absurd (Heap.lt_size e) (by rw [w]; exact Nat.lt_irrefl _)) (k0 b o e)) (Nat.le_of_lt (by show s1.heap.objs.size < (s1.heap.objs.push _).size; rw [Array.size_push]; exact Nat.lt_succ_self _))
    (show ObjOk X.prog X.w _ _ _ (.lst xs.reverse) from ⟨by rw [List.length_reverse]; exact hz, acc.toList, c', RT.vals_rev rv hi, by rw [Array.toArray_toList]; exact hS⟩)
  exact ⟨.ref _, _, I4, rfl, q _ hA⟩
theorem de_listRev (hK : X.K = K) (hc : X.calm = true) (hg : Gl X "list") (hm : X.mg "list" = none) (hg2 : Gl X "reversed") (hm2 : X.mg "reversed" = none) (ha : DE C X a ta ma)
    (hs : starEach [a] X.env = (false, eval a X.env) :: starEach [] X.env := by rfl)
    (hs2 : starEach [.Call (.Name "reversed" p2) [a] [] pos2] X.env = (false, eval (.Call (.Name "reversed" p2) [a] [] pos2) X.env) :: starEach [] X.env := by rfl) :
    DE C X (.Call (.Name "list" p) [.Call (.Name "reversed" p2) [a] [] pos2] [] pos) (tLstRev K ta) (mListRev ma) := by
  subst hK
  refine ⟨pe_lstRev hc hg hm hg2 hm2 ha.pe hs hs2, fun O0 O H σ ρ r s h Q q => ?_⟩
  unfold mListRev at h
  cases ea : ma ρ with
  | none => rw [ea] at h; cases h
  | some rx =>
    rw [ea] at h
    obtain ⟨d, fl⟩ := rx
    refine ha.sd _ _ _ _ _ _ s ea _ fun v H1 e1 r1 => ?_
    cases d with
    | lst ds =>
      cases h
      obtain ⟨l, xs, rfl, g1, g2⟩ := r1.lstE
      exact ⟨l, xs, rfl, .inl (.inl g1), fun p' hp => q _ _ (e1.trans (Evl.Ex.new hp)) (res_lst e1 hp g2.reverse)⟩
    | _ => cases h
end
end Dt

set_option maxRecDepth 100000
set_option maxHeartbeats 4000000
namespace RvD
open PySem PySem.Spec PyProof.Rows RT
theorem nolen_rt : typeLookup (.type "reversed") "__len__" = pure none := by rw [typeLookup_type, builtinLookup_eq_fast]; kernel_rfl
theorem hint_rt : typeLookup (.type "reversed") "__length_hint__" = pure (some (.builtin "reversed.__length_hint__")) := by rw [typeLookup_type, builtinLookup_eq_fast]; kernel_rfl
theorem slot_rt_hint : Slot "reversed" "__length_hint__" "reversed.__length_hint__" :=
  .of (owner := "reversed") (n := "__length_hint__") (by rw [typeLookup_type, builtinLookup_eq_fast]; kernel_rfl) (by decide +kernel) (by decide +kernel) (by decide +kernel)
    (by first | exact .inl (by decide +kernel) | exact .inr (by decide +kernel)) (by rw [isSubtype_type]; kernel_rfl)
theorem entry_rt_hint : entryFor table "reversed.__length_hint__" = some Builtin.«reversed.__length_hint__» := entryFor_of_tree (by kernel_rfl)
theorem args_rt_hint (a : Value) : argsOk "reversed.__length_hint__" ⟨[a], []⟩ := by
  unfold argsOk; rw [signature?_of (id := "reversed.__length_hint__") (n := ['_', '_', 't', 'n', 'i', 'h', '_', 'h', 't', 'g', 'n', 'e', 'l', '_', '_']) (o := ['d', 'e', 's', 'r', 'e', 'v', 'e', 'r']) (by kernel_rfl) owner_rt]; kernel_rfl
section
variable {prog : Program} {w : World} {A : Around} {E : Value → Shared → Prop} {s : Shared}
theorem rt_walks (hh : A.handled = none) (I t : Addr) (hne : t ≠ I) (items : Array Value) (hz : items.size ≤ sizeLine) :
    Walks prog w A I [I, t] [I] items.size (fun i v => items[items.size - 1 - i]? = some v) (fun i h => i ≤ items.size ∧ IsRt h I t ((items.size : Int) - 1 - (i : Int)) ∧ IsTup h t items) where
  sub := fun b hb => by simp at hb; simp [hb]
  frame := fun _ _ _ x hk => ⟨x.1, x.2.1.at fun o e => hk I (by simp) o e, let ⟨o, e, r⟩ := x.2.2; ⟨o, hk t (by simp) o e, r⟩⟩
  item := fun i s Q E hi x hQ => by
    have e : (items.size : Int) - 1 - (i : Int) = ((items.size - 1 - i : Nat) : Int) := by omega
    have hit := x.2.1
    rw [e] at hit
    have hx : items[items.size - 1 - i]? = some (items[items.size - 1 - i]'(by omega)) := Array.getElem?_eq_getElem (by omega)
    refine next_rt_item hit x.2.2 hx hz fun h' hit' hs' => ?_
    have e2 : ((items.size - 1 - i : Nat) : Int) - 1 = (items.size : Int) - 1 - ((i + 1 : Nat) : Int) := by omega
    rw [e2] at hit'
    exact hQ _ h' (s.toks + 1) hx ⟨hi, hit', let ⟨o, eo, r⟩ := x.2.2; ⟨o, (hs'.2 t hne).trans eo, r⟩⟩ fun b o hb eo => hs'.extBut b o (fun h => hb (by simp [h])) eo
  done := fun s Q E x hQ => by
    have e : (items.size : Int) - 1 - (items.size : Int) = -1 := by omega
    have hit := x.2.1
    rw [e] at hit
    exact next_rt_end hh hit fun h' he' => hQ h' s.toks fun b o hb eo => he' b o (fun h => hb (by simp [h])) eo
  self := fun _ _ _ _ x hQ => iter_rt x.2.1 hQ
theorem bind_rt_hint (self : Value) : bindSpecial (.builtin "reversed.__length_hint__") self = pure (.builtin "reversed.__length_hint__", [self]) := slot_rt_hint.bind self
theorem rt_hint {it t : Addr} {items : Array Value} {Q : Bool → Shared → Prop} (hit : IsRt s.heap it t ((items.size : Int) - 1)) (ht : IsTup s.heap t items) (hz : items.size ≤ sizeLine)
    (h : ∀ tk, Q ((items.size : Int) != 0) { s with toks := tk }) : wpAny (model prog w) A (Builtin.List.listLengthHint (.ref it)) Q E s := by
  rw [sizeLine_eq] at hz
  have hT := hit.typeIs
  obtain ⟨o, ho, hc, hd⟩ := id hit
  unfold Builtin.List.listLengthHint
  refine wpAny_bind (wpAny_specialOf hT nolen_rt ?_)
  show wpAny _ A (specialOf (Value.ref it) (Str.ofString "__length_hint__") >>= _) _ _ _
  refine wpAny_bind (wpAny_specialOf hT hint_rt ?_)
  generalize hid : ("reversed.__length_hint__" : String) = id0
  wp_delta
  rw [show splitId id0 = some ("reversed", "__length_hint__") from by subst hid; decide +kernel]
  subst hid
  refine wpAny_bind (wpAny_isInstance (T := "reversed") (b := true) hT (by rw [isSubtype_type]; kernel_rfl) ?_)
  refine wpAny_ite_split (fun hab => absurd hab (by decide)) (fun _ => ?_)
  refine wpAny_ite_split (fun hab => absurd hab (by decide +kernel)) (fun _ => ?_)
  refine wpAny_bind (wpAny_rule ?_)
  refine wpAny_bind (wpAny_of_eq (bind_rt_hint _) ?_)
  try dsimp only
  refine wpAny_bind (wpAny_attempt ?_)
  refine wpAny_call_entry slot_rt_hint hit.typeIs entry_rt_hint ?_ (args_rt_hint _)
  unfold Builtin.«reversed.__length_hint__»
  refine wpAny_bind (wpAny_of_eq (a := Value.ref it) rfl ?_)
  try dsimp only
  refine wpAny_bind (wpAny_field ho hd (x := .ref t) rfl ?_)
  try dsimp only
  refine wpAny_ite_split (fun hab => absurd hab (by intro q; cases q)) (fun _ => ?_)
  refine wpAny_bind (len_tuple ht (by omega) ?_)
  refine wpAny_bind (m := asInt? _) (wpAny_pure ?_)
  try dsimp only
  refine wpAny_bind (wpAny_field (s := { s with toks := s.toks + 1 + 1 }) ho hd (x := rawInt ((items.size : Int) - 1)) rfl ?_)
  show wpAny _ _ (if (items.size : Int) < (items.size : Int) - 1 + 1 then _ else _) _ _ _
  refine wpAny_ite_split (fun hab => absurd hab (by omega)) (fun _ => ?_)
  unfold retInt
  refine wpAny_bind (wpAny_mkInt ?_)
  refine wpAny_pure ⟨_, rfl, ?_⟩
  try dsimp only
  refine wpAny_bind (m := asInt? _) (wpAny_pure ?_)
  try dsimp only
  have e : (items.size : Int) - 1 + 1 = (items.size : Int) := by omega
  rw [e]
  have g1 : ¬ ((!Builtin.List.listFitsIndex (items.size : Int)) = true) := by
    have : Builtin.List.listFitsIndex (items.size : Int) = true := by
      unfold Builtin.List.listFitsIndex
      rw [Bool.and_eq_true, decide_eq_true_eq, decide_eq_true_eq]
      constructor
      · have : -(2 ^ 63 : Int) ≤ 0 := by decide
        omega
      · have : (16777216 : Int) < 2 ^ 63 := by decide
        omega
    rw [this]; decide
  have g2 : ¬ ((items.size : Int) < 0) := by omega
  have g3 : ¬ (Builtin.List.listTooLong ((items.size : Int).toNat) = true) := by
    unfold Builtin.List.listTooLong
    rw [decide_eq_true_eq, sizeLine_eq, Int.toNat_natCast]; omega
  rw [if_neg g1, if_neg g2, if_neg g3]
  exact wpAny_pure (h _)
theorem rt_collect {it l : Addr} {items : Array Value} {Q : List Value → Shared → Prop} (hh : A.handled = none) (hit : IsRt s.heap it l ((items.size : Int) - 1)) (hl : IsTup s.heap l items) (hne : l ≠ it) (hn : items.size ≤ sizeLine)
    (hQ : ∀ (h' : Heap) (tk : Nat) (acc : Array Value), (∀ b o, b ≠ it → s.heap.get? b = some o → h'.get? b = some o) → ItemsOf (fun i v => items[items.size - 1 - i]? = some v) acc items.size → Q acc.toList { s with heap := h', toks := tk }) :
    wpAny (model prog w) A (collect (.ref it)) Q E s := by
  have hsl := hn
  have W := (rt_walks (prog := prog) (w := w) (A := A.in1) hh it l hne items hsl).toS
  obtain ⟨oi, hoi, hoc, hod⟩ := id hit
  obtain ⟨ol, hol, hlr⟩ := id hl
  have hSi : s.heap.objs.size ≠ it := Nat.ne_of_gt (Heap.lt_size hoi)
  have hSl : s.heap.objs.size ≠ l := Nat.ne_of_gt (Heap.lt_size hol)
  have hSf : s.heap.objs.size ∉ [it, l] := by simp only [List.mem_cons, List.not_mem_nil, or_false, not_or]; exact ⟨hSi, hSl⟩
  unfold collect
  refine wpAny_bind (wpAny_runValue (codeAny_builtin F.entry_proto_collect ?_))
  rw [Around.under_plainId F.plain_proto_collect _]
  show wpAny _ A.in1 (newList [] >>= fun l' => again (.builtin "list.__iadd__" ⟨[l', .ref it], []⟩)) _ _ s
  refine wpAny_bind (wpAny_newObj_type ?_)
  refine wpAny_pure ⟨plainId_quiet F.plain_list_iadd _, codeAny_builtin F.entry_list_iadd ?_⟩
  rw [Around.under_plainId F.plain_list_iadd _]
  have hS₁ : (s.heap.push { cls := .type "list", data := .seq ([] : List Value).toArray }).get? s.heap.objs.size = some { cls := .type "list", data := .seq ([] : List Value).toArray } := Heap.get?_push_size _ rfl
  have hit1 : IsRt (s.heap.push { cls := .type "list", data := .seq ([] : List Value).toArray }) it l ((items.size : Int) - 1) := hit.at fun o e => Heap.get?_push_of_some _ e
  have hl1 : IsTup (s.heap.push { cls := .type "list", data := .seq ([] : List Value).toArray }) l items := ⟨ol, Heap.get?_push_of_some _ hol, hlr⟩
  have hT : ({ s with heap := s.heap.push { cls := .type "list", data := .seq ([] : List Value).toArray } } : Shared).TypeIs (.ref it) "reversed" := IsRt.typeIs (s := { s with heap := s.heap.push { cls := .type "list", data := .seq ([] : List Value).toArray } }) hit1
  have h1 : Builtin.List.listSameRef (.ref s.heap.objs.size) (.ref it) = false := by simp [Builtin.List.listSameRef, hSi]
  have e0 : ((items.size : Nat) : Int) - 1 - ((0 : Nat) : Int) = (items.size : Int) - 1 := by omega
  show wpAny _ A.in1 (Builtin.List.listExtendWith (.ref s.heap.objs.size) (.ref it) (.ref s.heap.objs.size)) _ _ _
  unfold Builtin.List.listExtendWith
  refine wpAny_bind (wpAny_typeOf hT ?_)
  rw [if_neg (by rw [h1]; decide)]
  refine wpAny_bind (iter_rt (s := { s with heap := s.heap.push { cls := .type "list", data := .seq ([] : List Value).toArray } }) hit1 ?_)
  refine wpAny_bind (wpAny_holding ?_)
  refine rt_hint (s := { s with heap := s.heap.push { cls := .type "list", data := .seq ([] : List Value).toArray } }) hit1 hl1 hn fun tk => ?_
  have key : ∀ (h : Heap) (c₁ tk : Nat), IsRt h it l ((items.size : Int) - 1) → IsTup h l items → (∀ b o, b ≠ s.heap.objs.size → s.heap.get? b = some o → h.get? b = some o) → h.get? s.heap.objs.size = some { cls := .type "list", data := .seq #[] c₁ } →
      ∀ R : Result → Shared → Prop, (∀ s' acc' c', (∀ b o, b ≠ it → s.heap.get? b = some o → s'.heap.get? b = some o) → s' = { s with heap := s'.heap, toks := s'.toks } → s'.heap.get? s.heap.objs.size = some { cls := .type "list", dict := none, data := .seq acc' c', slots := #[] } → ItemsOf (fun i v => items[items.size - 1 - i]? = some v) acc' items.size → R (.ok (.ret (.ref s.heap.objs.size))) s') →
      codeAny (model prog w) A (.builtin "list.extend.loop" ⟨[.ref s.heap.objs.size, .ref it, .ref s.heap.objs.size], []⟩) R { s with heap := h, toks := tk } := by
    intro h c₁ tk g1 g2 g3 g4 R hR
    refine codeAny_extend_loopS W hsl _ hSf _ items.size 0 _ #[] c₁ rfl (Nat.zero_le _) ⟨Nat.zero_le _, by rw [e0]; exact g1, g2⟩ g4 (ItemsOf.nil _) fun s' acc' c' hm hS' hacc => ?_
    refine hR s' acc' c' (fun b o hb e => hm.heap b o (fun hmem => ?_) (g3 b o (Nat.ne_of_lt (Heap.lt_size e)) e)) (by have q := Moved.eq_with hm; exact q) hS' hacc
    rcases List.mem_cons.mp hmem with e' | hmem
    · exact absurd (Heap.lt_size e) (by rw [e']; exact Nat.lt_irrefl _)
    · exact hb (List.mem_singleton.mp hmem)
  have hfin : ∀ (s' : Shared) (acc' : Array Value) (c' : Nat), (∀ b o, b ≠ it → s.heap.get? b = some o → s'.heap.get? b = some o) → s' = { s with heap := s'.heap, toks := s'.toks } → s'.heap.get? s.heap.objs.size = some { cls := .type "list", dict := none, data := .seq acc' c', slots := #[] } → ItemsOf (fun i v => items[items.size - 1 - i]? = some v) acc' items.size →
      wpAny (model prog w) A (load s.heap.objs.size >>= fun o => match o.data with | .seq xs _ => pure xs.toList | _ => unsupported "internal:collect") Q E s' := by
    intro s' acc' c' g1 g2 g3 g4
    refine wpAny_bind (wpAny_load g3 ?_)
    refine wpAny_pure ?_
    rw [g2]
    exact hQ s'.heap s'.toks acc' g1 g4
  refine wpAny_ite_split (fun _ => ?_) (fun _ => wpAny_pure ⟨plainId_quiet F.plain_extend_loop _, key _ _ _ hit1 hl1 (fun b o _ e => Heap.get?_push_of_some _ e) hS₁ _ hfin⟩)
  refine wpAny_bind (wpAny_rule ?_)
  refine wpAny_bind ?_
  show wpAny _ _ (updateSeq s.heap.objs.size (·.push .none) >>= fun _ => updateSeq s.heap.objs.size (·.pop)) _ _ _
  refine wpAny_bind (wpAny_updateSeq hS₁ rfl ?_)
  have hS₂ := Heap.get?_update_self (Obj.mapSeq (·.push Value.none)) hS₁ rfl
  refine wpAny_updateSeq (hz := by seq_fits) hS₂ rfl ?_
  have hS₃ := Heap.get?_update_self (Obj.mapSeq (·.pop)) hS₂ rfl
  have oth : ∀ b o, b ≠ s.heap.objs.size → (s.heap.push { cls := .type "list", data := .seq ([] : List Value).toArray }).get? b = some o → (((s.heap.push { cls := .type "list", data := .seq ([] : List Value).toArray }).update s.heap.objs.size (Obj.mapSeq (·.push Value.none))).update s.heap.objs.size (Obj.mapSeq (·.pop))).get? b = some o :=
    fun b o hb e => (Heap.get?_update_other _ _ (Ne.symm hb)).trans ((Heap.get?_update_other _ _ (Ne.symm hb)).trans e)
  refine wpAny_pure ⟨plainId_quiet F.plain_extend_loop _, key _ _ _ (hit1.at fun o e => oth it o (Ne.symm hSi) e) (let ⟨o, e, r⟩ := hl1; ⟨o, oth l o (Ne.symm hSl) e, r⟩) (fun b o hb e => oth b o hb (Heap.get?_push_of_some _ e)) hS₃ _ hfin⟩
theorem code_tuple_new_rt {it l : Addr} {items : Array Value} {Q₁ : Value → Shared → Prop} (hh : A.handled = none) (hit : IsRt s.heap it l ((items.size : Int) - 1)) (hl : IsTup s.heap l items) (hne : l ≠ it) (hn : items.size ≤ sizeLine)
    (h : ∀ (h' : Heap) (tk : Nat) (acc : Array Value), (∀ b o, b ≠ it → s.heap.get? b = some o → h'.get? b = some o) → ItemsOf (fun i v => items[items.size - 1 - i]? = some v) acc items.size →
      Q₁ (.ref h'.objs.size) { s with heap := h'.push { cls := .type "tuple", data := .seq acc }, toks := tk }) :
    codeAny (model prog w) A (.call (.builtin "tuple.__new__") ⟨[.type "tuple", .ref it], []⟩) (wants Q₁ E) s := by
  refine codeAny_of_tree ?_
  show wpAny _ A.in1 (do checkBuiltinCall "tuple.__new__" ⟨[.type "tuple", .ref it], []⟩; again (.builtin "tuple.__new__" ⟨[.type "tuple", .ref it], []⟩)) _ _ s
  refine wpAny_bind (wpAny_of_eq (F.newCall_tuple_1 _) (wpAny_pure ⟨plainId_quiet F.plain_tuple_new _, codeAny_builtin F.entry_tuple_new ?_⟩))
  rw [Around.under_plainId F.plain_tuple_new _]
  have hsub := sub_tuple_self
  have hinit := init_tuple_lookup
  have hmh := madeHere_tuple
  have hTI : s.TypeIs (.ref it) "reversed" := hit.typeIs
  have hh1 : A.in1.handled = none := hh
  wp_walk using wpAny_typeOf hTI, rt_collect (A := A.in1) hh1 hit hl hne hn
  intro h' tk acc hk hacc
  show wpAny _ _ (Builtin.Tuple.tupleExact acc.toList.toArray >>= fun v => ret v) _ _ _
  unfold Builtin.Tuple.tupleExact
  refine wpAny_bind (wpAny_newObj_type ?_ (by show acc.toList.toArray.size ≤ sizeLine; simp only [Array.toArray_toList]; rw [hacc.1]; exact hn))
  refine wpAny_pure ?_
  have e : acc.toList.toArray = acc := by simp
  rw [e]
  exact h h' tk acc hk hacc
theorem call_tuple_rt {it l : Addr} {items : Array Value} {Q : Value → Shared → Prop} (hh : A.handled = none) (hit : IsRt s.heap it l ((items.size : Int) - 1)) (hl : IsTup s.heap l items) (hne : l ≠ it) (hn : items.size ≤ sizeLine)
    (hQ : ∀ (h' : Heap) (tk : Nat) (acc : Array Value), (∀ b o, b ≠ it → s.heap.get? b = some o → h'.get? b = some o) → ItemsOf (fun i v => items[items.size - 1 - i]? = some v) acc items.size →
      Q (.ref h'.objs.size) { s with heap := h'.push { cls := .type "tuple", data := .seq acc }, toks := tk }) :
    wpAny (model prog w) A (call (.type "tuple") [.ref it]) Q E s := by
  refine callType_codes (Q₁ := fun obj s₁ => s₁.TypeIs obj "tuple" ∧ Q obj s₁) F.called_tuple (F.typeCall_tuple_1 _) F.entry_object_init
    (code_tuple_new_rt (A := A.in1) hh hit hl hne hn fun h' tk acc hk hacc => ⟨⟨_, Heap.get?_push_size _ rfl, rfl⟩, hQ h' tk acc hk hacc⟩) fun obj s₁ h₁ => ?_
  exact ⟨h₁.1, F.args_object_init_2 obj _, object_init_meets F.called_tuple.init.lookup F.called_tuple.made (by decide) prog w A.in1 _ s₁ ⟨h₁.1, rfl, h₁.2⟩⟩
end
end RvD

namespace Dt
open PySem PySem.Spec PyProof.Rows L2
open Evl (Ex)
section
variable {C : Cfg} {K : PySem.W.Frag} {X : Cx} {a : Expr} {ta : TE} {ma : M} {p p2 pos pos2 : Pos}
/-- tuple(reversed(x)), x a tuple -/
def tTupRevT (K : PySem.W.Frag) (te : TE) : TE := fun σ H Q => te σ H fun v H1 => ∃ (a : Addr) (xs : List V), v = .ref a ∧ SqT K H1 a xs ∧ NewT H1 xs.reverse Q
theorem pe_tupRevT {e : Expr} {te : TE} (hc : X.calm = true) (hg : Gl X "tuple") (hm : X.mg "tuple" = none) (hg2 : Gl X "reversed") (hm2 : X.mg "reversed" = none) (he : PE X e te)
    (hs : starEach [e] X.env = (false, eval e X.env) :: starEach [] X.env := by rfl)
    (hs2 : starEach [.Call (.Name "reversed" p2) [e] [] pos2] X.env = (false, eval (.Call (.Name "reversed" p2) [e] [] pos2) X.env) :: starEach [] X.env := by rfl) :
    PE X (.Call (.Name "tuple" p) [.Call (.Name "reversed" p2) [e] [] pos2] [] pos) (tTupRevT X.K te) := by
  refine ⟨fun pins s σ H Q I h => ?_⟩
  refine Call_ (ld_blt I hg hm boot_tuple (PyProof.Rows.callWith_type1 (args_cons (Call_ (ld_blt I hg2 hm2 PyProof.Rows.boot_reversed (PyProof.Rows.callWith_type1 (args_cons (thn (he.run pins s σ H _ I h) fun u s1 ⟨v, H1, I1, r1, q1⟩ => args_nil ?_) hs) hs rfl))) hs2) hs2 rfl))
  obtain ⟨a, xs, ev, hq, q⟩ := q1
  subst ev
  obtain rfl : u = Value.ref a := r1
  obtain ⟨its, rv, p', hz⟩ := I1.tuple hq
  have hn : its.toArray.size ≤ sizeLine := by rw [List.size_toArray, ← rv.length]; exact hz
  have hn' := hn
  rw [sizeLine_eq] at hn'
  refine RT.call_reversed_tup p' (fun A E Q k => len_tuple p' (by omega) k) (args_nil ?_)
  have k0 : ∀ b o, s1.heap.get? b = some o → (s1.heap.push (RT.rtObj a ((its.toArray.size : Int) - 1))).get? b = some o := fun b o e => Heap.get?_push_of_some _ e
  obtain ⟨ol, hol, hlr⟩ := id p'
  have hne : a ≠ s1.heap.objs.size := Nat.ne_of_lt (Heap.lt_size hol)
  refine RvD.call_tuple_rt (s := { s1 with heap := s1.heap.push (RT.rtObj a ((its.toArray.size : Int) - 1)), toks := s1.toks + 1 + 1 }) (I1.ok.hd hc) ⟨_, Heap.get?_push_size _ rfl, rfl, rfl⟩ ⟨ol, k0 a _ hol, hlr⟩ hne hn fun h' tk acc hk hi => ?_
  have I3 : Inv X pins σ H1 { s1 with heap := h', toks := tk } := I1.kept (t' := tk) fun b o e => hk b o (fun w => absurd (Heap.lt_size e) (by rw [w]; exact Nat.lt_irrefl _)) (k0 b o e)
  have := laidN (s := s1) (tk := tk) I3 (by rw [List.length_reverse]; exact hz) (RT.vals_rev rv hi) q
  rwa [show tob acc.toList = { cls := .type "tuple", data := .seq acc } by rw [tob, Array.toArray_toList]] at this
theorem de_tupleRev (hK : X.K = K) (hc : X.calm = true) (hg : Gl X "tuple") (hm : X.mg "tuple" = none) (hg2 : Gl X "reversed") (hm2 : X.mg "reversed" = none) (ha : DE C X a ta ma)
    (hs : starEach [a] X.env = (false, eval a X.env) :: starEach [] X.env := by rfl)
    (hs2 : starEach [.Call (.Name "reversed" p2) [a] [] pos2] X.env = (false, eval (.Call (.Name "reversed" p2) [a] [] pos2) X.env) :: starEach [] X.env := by rfl) :
    DE C X (.Call (.Name "tuple" p) [.Call (.Name "reversed" p2) [a] [] pos2] [] pos) (tTupRevT K ta) (mTupleRev ma) := by
  subst hK
  refine ⟨pe_tupRevT hc hg hm hg2 hm2 ha.pe hs hs2, fun O0 O H σ ρ r s h Q q => ?_⟩
  unfold mTupleRev at h
  cases ea : ma ρ with
  | none => rw [ea] at h; cases h
  | some rx =>
    rw [ea] at h
    obtain ⟨d, fl⟩ := rx
    refine ha.sd _ _ _ _ _ _ s ea _ fun v H1 e1 r1 => ?_
    cases d with
    | tup ds =>
      cases h
      obtain ⟨l, xs, rfl, g1, g2⟩ := r1.tupE
      exact ⟨l, xs, rfl, g1.sq, fun p' ob hp hd => q _ _ (e1.trans (Evl.Ex.new hp)) (res_tup (s.mono e1).co hp hd g2.reverse)⟩
    | _ => cases h
end
end Dt

set_option maxRecDepth 100000
set_option maxHeartbeats 4000000
namespace Dt
open PySem PySem.Spec PyProof.Rows L2
open Evl (Ex)
section
variable {C : Cfg} {K : PySem.W.Frag} {X : Cx} {O0 O O' : List Addr} {H0 H H' H1 : Hp} {σ : L2.St} {ρ : E}
variable {a b c e o : Expr} {es : List Expr} {ta tb te to : TE} {ma mb me mo : M} {t : TA} {n : As} {p p1 p2 p3 pos pos2 apos cpos : Pos} {kk : Nat}
/-! ### a def that calls itself: no promise at the bottom -/
theorem fn_none {P : Program} {w : World} {K : PySem.W.Frag} {mg : Str → Option Value} {base : Heap} {k N : Nat} {f : Addr} {fd : FuncData} {ps : List Str} (h : ps.length = N) : FnOk P w K mg base CX0 k f fd ps (spD C N fun _ => none) :=
  ⟨fun vs H Q E q => by obtain ⟨_, _, _, _, h1, _⟩ := q; omega, fun A outer s H args us vs Q E _ _ _ _ q => by obtain ⟨_, _, _, _, _, _, _, h1, _⟩ := q; cases h1⟩
/-! ### truth -/
def tru : D → Option Bool
  | .bl b => some b
  | .int i => some (i != 0)
  | .lst ds => some (!ds.isEmpty)
  | .tup ds => some (!ds.isEmpty)
  | .non => some false
  | _ => none
def mBt (m : M) : B := fun ρ => (m ρ).bind fun r => tru r.1
theorem emp_len {xs : List V} {ds : List D} (h : xs.length = ds.length) : xs.isEmpty = ds.isEmpty := by
  cases xs <;> cases ds <;> simp at h <;> rfl
theorem dt_tru (h : DE C X a ta ma) (he : ∀ whole, isTrue a X.env whole = (do let v ← whole; standAt a.pos; holding [v] (truthy v)) := by intro _; rfl) :
    DT C X a (fun σ H Q => ta σ H fun x H' => ∃ k, TruV X.K x H' k ∧ Q k H') (mBt ma) := by
  refine ⟨pt_truth h.pe he, fun O0 O H σ ρ r s em Q q => ?_⟩
  unfold mBt at em
  cases ea : ma ρ with
  | none => rw [ea] at em; cases em
  | some rx =>
    rw [ea] at em
    obtain ⟨d, fl⟩ := rx
    refine h.sd _ _ _ _ _ _ s ea _ fun v H1 e1 r1 => ?_
    cases d with
    | bl k => cases em; rw [r1.blE]; exact ⟨_, rfl, q _ e1⟩
    | int k => cases em; rw [r1.intE]; exact ⟨_, rfl, q _ e1⟩
    | non => cases em; rw [r1.nonE]; exact ⟨_, rfl, q _ e1⟩
    | lst ds =>
      cases em
      obtain ⟨p, xs, rfl, g1, g2⟩ := r1.lstE
      exact ⟨_, .inl ⟨xs, .inl (.inl g1), rfl⟩, by rw [emp_len g2.length]; exact q _ e1⟩
    | tup ds =>
      cases em
      obtain ⟨p, xs, rfl, g1, g2⟩ := r1.tupE
      exact ⟨_, .inr (.inl ⟨xs, g1.sq, rfl⟩), by rw [emp_len g2.length]; exact q _ e1⟩
    | _ => cases em
/-! ### networks equal, as a test -/
theorem vr_netEq {F : FD} : VR C (rEqG (DIns C.net (eqRel C F))) (fNetEq F) := by
  intro O0 O H H' x y rx ry rz c c' e r1 r2 hf Q q
  unfold fNetEq at hf
  split at hf
  · rename_i hk
    simp only [Bool.and_eq_true] at hk
    obtain ⟨d1, f1⟩ := rx
    obtain ⟨d2, f2⟩ := ry
    obtain ⟨w1, c1, rfl⟩ : ∃ w c, d1 = .net w c := by
      cases d1 <;> first | exact ⟨_, _, rfl⟩ | (simp [isNetD] at hk)
    obtain ⟨w2, c2, rfl⟩ : ∃ w c, d2 = .net w c := by
      cases d2 <;> first | exact ⟨_, _, rfl⟩ | (simp [isNetD] at hk)
    split at hf
    · rename_i hF
      cases hf
      have g1 := r1.full
      have g2 := r2.full
      obtain ⟨a, dx, xx, rfl, h1, _⟩ := r1.netE
      obtain ⟨b, dy, yy, rfl, h2, _⟩ := r2.netE
      exact ⟨⟨a, b, dx, dy, _, _, rfl, rfl, h1, h2, _, _, g1, g2, hF⟩, fun H'' x => q _ _ x .bl⟩
    · cases hf
  · cases hf
theorem dt_netEq {k : Nat} {st : Stmt} {ps : List Str} {F : FD} {A : MethAt X.K C.net "__eq__" "Network.__eq__" st ps} (G : FnOk X.prog X.w X.K X.mg X.base CX0 k A.f A.fd ps (spD C 2 F)) (hr : Room k X.A) (ha : DE C X a ta ma) (hb : DE C X b tb mb) :
    DT C X (.Compare a [.Eq] [b] pos) (tTest (tOp (rEqG (DIns C.net (eqRel C F))) ta tb)) (mB (mOp (fNetEq F) ma mb)) := by
  have G2 : FnOk X.prog X.w X.K X.mg X.base CX0 k A.f A.fd ps (spEq (eqRel C F)) := G.imp fun vs H Q E ⟨a, b, hv, ⟨d, e, r1, r2, hF⟩, q⟩ => by
    subst hv
    refine ⟨[], [d, e], .bl true, false, rfl, (fun a h => by cases h), .cons ?_ (.cons ?_ .nil), hF, fun v H' x r => ?_⟩
    · exact r1.mono fun a o h => by rw [hid_out (by simp)]; exact h
    · exact r2.mono fun a o h => by rw [hid_out (by simp)]; exact h
    · have r' : Rep C (hid H' []) v (.bl true) := r
      cases r'
      exact q H' x
  exact dt_cmp (op_eqG (rcG_ins G2 A.me.at_ A.me.fn A.b pass0) hr) vr_netEq ha hb
/-! ### x //= e -/
def sAugO (i : Nat) (f : Int → Int → Option Int) (m : M) : S := fun ρ => match ρ[i]? with
  | some (some (.int a, false)) => (m ρ).bind fun r => match r.1 with
    | .int b => (f a b).map fun c => .nx (ρ.set i (some (.int c, false)))
    | _ => none
  | _ => none
abbrev augDiv (a b : Int) : Option Int := if CDiv a b then some (a / b) else none
theorem ds_augDiv (i : Nat) {x : Str} {pos' : Pos} (hN : X.N.Nodup) (he : DE C X e te me) (hi : X.N[i]? = some x := by rfl) (hx : Loc X.env.scope x := by first | exact .inl rfl | exact .inr rfl)
    (hf : X.fn x = true ∨ X.env.scope.names.lookup x = some .local := by first | exact .inl rfl | exact .inr rfl) : DS C X (.AugAssign (.Name x pos') .FloorDiv e pos) (tAug i te (rI CDiv fun i j => .int (i / j))) (sAugO i augDiv me) := by
  refine ⟨ps_aug hN hi hx he.pe iop_fdiv hf, fun H0 O0 O H σ ρ o s h D g => ?_⟩
  unfold sAugO at h
  split at h
  · rename_i a ea
    cases em : me ρ with
    | none => rw [em] at h; cases h
    | some r =>
      rw [em] at h
      obtain ⟨d, fl⟩ := r
      cases d with
      | int b =>
        replace h : (augDiv a b).map (fun c => Out.nx (ρ.set i (some (.int c, false)))) = some o := h
        unfold augDiv at h
        split at h
        · rename_i hc
          cases h
          obtain ⟨v, h1, h2⟩ := s.sh i _ ea
          cases h2
          refine ⟨_, h1, ?_⟩
          refine he.sd _ _ _ _ _ _ s.toSV em _ fun w H1 e1 r1 => ?_
          cases r1.intE
          exact ⟨a, b, rfl, rfl, hc, g _ _ _ ((s.mono e1).setP (.int _)) (hid_mono e1)⟩
        · cases h
      | _ => cases h
  · cases h
/-! ### xs.extend(e) -/
def sExt (k : Nat) (m : M) : S := fun ρ => (m ρ).bind fun r => if r.2 = .bor then none else match r.1, ρ[k]? with
  | .lst es, some (some (.lst ds, true)) => if ds.length + es.length ≤ lim then some (.nx (ρ.set k (some (.lst (ds ++ es), true)))) else none
  | _, _ => none
theorem ds_extend (k : Nat) {x : Str} (hK : X.K = K) (he : DE C X e te me) (hN : X.N[k]? = some x := by rfl) (hv : Vis X.env.scope x := by first | exact Or.inl rfl | exact Or.inr (Or.inl rfl) | exact Or.inr (Or.inr rfl))
    (hd : (x == ("__debug__" : Str)) = false := by decide) (hcd : (x == ("__classdict__" : Str)) = false := by decide)
    (hbase : attributeBase (.Name x p) "extend" X.env (eval (.Name x p) X.env) = eval (.Name x p) X.env := by rfl)
    (hfew : ((backTo cpos (starEach [e] X.env)).all (fun x => !x.1) && (backToKw cpos (keywordEach [] X.env)).all (fun x => x.1.isSome)
      && decide (([e] : List Expr).length + ([] : List Keyword).length + (if ([] : List Keyword).isEmpty then 0 else 1) < 30)) = true := by rfl)
    (hline : (apos.endLine == cpos.line) = true := by rfl) (hs : starEach [e] X.env = (false, eval e X.env) :: starEach [] X.env := by rfl) (hplain : (backTo cpos (starEach [] X.env)).any (·.1) = false := by rfl)
    (hsw : swapsWith (.Call (.Attribute (.Name x p) "extend" apos) [e] [] cpos) none pos.line X.env = pure false := by rfl) :
    DS C X (.Expr (.Call (.Attribute (.Name x p) "extend" apos) [e] [] cpos) pos) (tDrop (tBM K "list" rExtend (tVar k) (tCons te tNil))) (sExt k me) := by
  subst hK
  refine ⟨ps_expr (pe_bm PySem.F.plainAttrs_list PySem.F.slot_list_extend PySem.F.type_list_extend mt_extend (pe_var hN hv hd hcd) (pa_cons he.pe pa_nil hs) hbase hfew hline hs hplain) hsw, fun H0 O0 O H σ ρ o s h D g => ?_⟩
  unfold sExt at h
  cases em : me ρ with
  | none => rw [em] at h; cases h
  | some r =>
    rw [em] at h
    obtain ⟨d, fl⟩ := r
    replace h : (if fl = .bor then none else match d, ρ[k]? with
      | .lst es, some (some (.lst ds, true)) => if ds.length + es.length ≤ lim then some (Out.nx (ρ.set k (some (.lst (ds ++ es), true)))) else none
      | _, _ => none) = some o := h
    split at h
    · cases h
    · rename_i hnb
      split at h
      · rename_i es ds ek
        split at h
        · rename_i hl
          cases h
          obtain ⟨a, xs, ds', h0, h1, h2, h3, h4, h5⟩ := s.ow k _ ek
          cases h0
          refine ⟨_, h1, .inl ⟨rfl, _, .inl (.inl h4)⟩, ?_⟩
          refine he.sd _ _ _ _ _ _ s.toSV em _ fun v H1 e1 r1 => ?_
          have h5' := h5.mono (hid_mono (O := O) e1)
          obtain ⟨q, zs, rfl, g1, g2⟩ := r1.lstE
          refine ⟨a, q, xs, zs, rfl, rfl, e1 _ _ h4, g1, lim_line (by rw [h5.length, g2.length]; exact hl), ?_⟩
          refine g _ _ _ ((s.mono e1).write ek h1 h2 h3 (h5'.append g2)) ?_
          rw [hid_upd h2]
          exact hid_mono e1
        · cases h
      · cases h
/-! ### t1 = t2 = e -/
def sAsg2 (m : M) (g1 g2 : D → E → Option E) : S := fun ρ => (m ρ).bind fun r => if r.2 = .pure then (g1 r.1 ρ).bind fun ρ1 => (g2 r.1 ρ1).map .nx else none
theorem ds_asg2 {t1 t2 : Expr} {g1 g2 : TG} {m1 m2 : D → E → Option E} (he : DE C X e te me) (h1 : DGS C X t1 g1 m1) (h2 : DGS C X t2 g2 m2) (ha : (assignEach [t1, t2] X.env).map (·.2) = [assign t1 X.env, assign t2 X.env] := by rfl)
    (hw : swappedStores [t1, t2] e X.env = pure none := by rfl) : DS C X (.Assign [t1, t2] e pos) (tAsg2 te g1 g2) (sAsg2 me m1 m2) := by
  refine ⟨ps_asg2 he.pe h1.pg h2.pg ha hw, fun H0 O0 O H σ ρ o s h D gq => ?_⟩
  unfold sAsg2 at h
  cases em : me ρ with
  | none => rw [em] at h; cases h
  | some r =>
    rw [em] at h
    obtain ⟨d, fl⟩ := r
    replace h : (if fl = .pure then (m1 d ρ).bind fun ρ1 => (m2 d ρ1).map Out.nx else none) = some o := h
    split at h
    · rename_i hf
      subst hf
      cases eg : m1 d ρ with
      | none => rw [eg] at h; cases h
      | some ρ1 =>
        rw [eg, Option.bind_some] at h
        cases eg2 : m2 d ρ1 with
        | none => rw [eg2] at h; cases h
        | some ρ2 =>
          rw [eg2] at h; cases h
          refine he.sd _ _ _ _ _ _ s.toSV em _ fun v H1 e1 r1 => ?_
          cases r1 with
          | pure w =>
            refine h1.sd _ _ _ _ _ _ _ _ _ (s.mono e1) w eg _ fun σ2 H2 s2 x2 => ?_
            exact h2.sd _ _ _ _ _ _ _ _ _ s2 (w.mono x2) eg2 _ fun σ3 H3 s3 x3 => gq _ _ _ s3 ((hid_mono e1).trans (x2.trans x3))
    · cases h
/-! ### a, b = x, y: new lists may be among them; they are shared -/
def sParS (i j : Nat) (n : As) : S := fun ρ => (n ρ).bind fun rs => match rs with
  | [(d, f1), (e, f2)] => if f1 = .bor ∨ f2 = .bor then none else some (.nx ((ρ.set i (some (d, false))).set j (some (e, false))))
  | _ => none
theorem ds_parS (i j : Nat) {x y : Str} {px py pt : Pos} {kt k2 pt2} {na : As} (hc : X.calm = true) (hN : X.N.Nodup) (ha : DA C X [a, b] t na) (hi : X.N[i]? = some x := by rfl) (hj : X.N[j]? = some y := by rfl) (hij : i ≠ j := by decide)
    (hx : X.env.scope.names.lookup x = some .local := by rfl) (hy : X.env.scope.names.lookup y = some .local := by rfl)
    (hw : swappedStores [.Tuple [.Name x px, .Name y py] kt pt] (.Tuple [a, b] k2 pt2) X.env = pure (some [x, y]) := by rfl)
    (hs : swapsWithSole [.Tuple [.Name x px, .Name y py] kt pt] (.Tuple [a, b] k2 pt2) pos.line X.env = pure false := by rfl) :
    DS C X (.Assign [.Tuple [.Name x px, .Name y py] kt pt] (.Tuple [a, b] k2 pt2) pos) (tPar i j t) (sParS i j na) := by
  refine ⟨ps_par hc hN hi hj hij hx hy ha.pa hw hs, fun H0 O0 O H σ ρ o s h D g => ?_⟩
  unfold sParS at h
  obtain ⟨rs, en, h⟩ := bind2 h
  split at h
  · rename_i d f1 e' f2
    split at h
    · cases h
    · rename_i hf
      cases h
      refine ha.sd _ _ _ _ _ _ s.toSV en _ fun vs H1 e1 r1 => ?_
      obtain ⟨v, v', rfl, h1, h2⟩ := ress2 r1
      have w1 := h1.sharedF s.dom (fun z => hf (.inl z))
      have w2 := h2.sharedF s.dom (fun z => hf (.inr z))
      exact ⟨v, v', rfl, g _ _ _ (((s.mono e1).setP w1).setP w2) (hid_mono e1)⟩
  · cases h
/-! ### list(range(a, b)), tuple(range(a, b)) -/
def fRng2 (f : List D → D × Fl) (m m' : M) : M := fun ρ => (m ρ).bind fun r => (m' ρ).bind fun r' => match r.1, r'.1 with
  | .int i, .int j => if 0 ≤ i ∧ i ≤ 100000 ∧ 0 ≤ j ∧ j ≤ 100000 then some (f (rngD i (j - i).toNat)) else none
  | _, _ => none
theorem rgV_reps2 {i j : Int} : Reps C H (rgV i j) (rngD i (j - i).toNat) := by
  unfold rgV rngD
  generalize List.range (j - i).toNat = l
  induction l with
  | nil => exact .nil
  | cons x l ih => exact .cons (.int _) ih
theorem snd_rg2 {f : List D → D × Fl} {i j : Int} {r : D × Fl} {dm em : D × Fl} (h : (match dm.1, em.1 with | .int i, .int j => if 0 ≤ i ∧ i ≤ 100000 ∧ 0 ≤ j ∧ j ≤ 100000 then some (f (rngD i (j - i).toNat)) else none | _, _ => none) = some r) :
    ∃ i j, dm.1 = .int i ∧ em.1 = .int j ∧ 0 ≤ i ∧ i ≤ 100000 ∧ 0 ≤ j ∧ j ≤ 100000 ∧ r = f (rngD i (j - i).toNat) := by
  obtain ⟨d, fl⟩ := dm
  obtain ⟨d2, fl2⟩ := em
  cases d with
  | int i =>
    cases d2 with
    | int j =>
      replace h : (if 0 ≤ i ∧ i ≤ 100000 ∧ 0 ≤ j ∧ j ≤ 100000 then some (f (rngD i (j - i).toNat)) else none) = some r := h
      split at h
      · rename_i hk
        cases h
        exact ⟨i, j, rfl, rfl, hk.1, hk.2.1, hk.2.2.1, hk.2.2.2, rfl⟩
      · cases h
    | _ => cases h
  | _ => cases h
theorem de_listRg2 (hc : X.calm = true) (hg : Gl X "list") (hm : X.mg "list" = none) (hg2 : Gl X "range") (hm2 : X.mg "range" = none) (ha : DE C X a ta ma) (hb : DE C X b tb mb) (na : starEach [a, b] X.env = (false, eval a X.env) :: starEach [b] X.env := by rfl)
    (nb : starEach [b] X.env = (false, eval b X.env) :: starEach [] X.env := by rfl) (hp : (backTo pos2 (starEach [b] X.env)).any (·.1) = false := by rfl)
    (na2 : starEach [.Call (.Name "range" p2) [a, b] [] pos2] X.env = (false, eval (.Call (.Name "range" p2) [a, b] [] pos2) X.env) :: starEach [] X.env := by rfl) :
    DE C X (.Call (.Name "list" p) [.Call (.Name "range" p2) [a, b] [] pos2] [] pos) (tLstRg (tRg2 ta tb)) (fRng2 (fun ds => (.lst ds, .fresh)) ma mb) := by
  refine ⟨pe_listRg hc hg hm (prg_2 hg2 hm2 ha.pe hb.pe na nb hp) na2, fun O0 O H σ ρ r s h Q q => ?_⟩
  unfold fRng2 at h
  obtain ⟨rx, ea, h⟩ := bind2 h
  obtain ⟨ry, eb, h⟩ := bind2 h
  obtain ⟨i, j, e1, e2, i0, i1, j0, j1, rfl⟩ := snd_rg2 (f := fun ds => ((.lst ds, .fresh) : D × Fl)) (i := 0) (j := 0) (dm := rx) (em := ry) h
  obtain ⟨d, fl⟩ := rx
  obtain ⟨d2, fl2⟩ := ry
  cases e1; cases e2
  refine ha.sd _ _ _ _ _ _ s ea _ fun v H1 x1 r1 => ?_
  refine hb.sd _ _ _ _ _ _ (s.mono x1) eb _ fun v2 H2 x2 r2 => ⟨i, j, r1.intE, r2.intE, RgOk.of_le (by omega) (by omega) (by omega) (by omega), fun q' hq => ?_⟩
  exact q _ _ ((x1.trans x2).trans (Evl.Ex.new hq)) (res_lst (x1.trans x2) hq rgV_reps2)
theorem de_tupRg2 (hc : X.calm = true) (hg : Gl X "tuple") (hm : X.mg "tuple" = none) (hg2 : Gl X "range") (hm2 : X.mg "range" = none) (ha : DE C X a ta ma) (hb : DE C X b tb mb) (na : starEach [a, b] X.env = (false, eval a X.env) :: starEach [b] X.env := by rfl)
    (nb : starEach [b] X.env = (false, eval b X.env) :: starEach [] X.env := by rfl) (hp : (backTo pos2 (starEach [b] X.env)).any (·.1) = false := by rfl)
    (na2 : starEach [.Call (.Name "range" p2) [a, b] [] pos2] X.env = (false, eval (.Call (.Name "range" p2) [a, b] [] pos2) X.env) :: starEach [] X.env := by rfl) :
    DE C X (.Call (.Name "tuple" p) [.Call (.Name "range" p2) [a, b] [] pos2] [] pos) (tTupRgN (tRg2 ta tb)) (fRng2 (fun ds => (.tup ds, .pure)) ma mb) := by
  refine ⟨peN_tupRg hc hg hm (prg_2 hg2 hm2 ha.pe hb.pe na nb hp) na2, fun O0 O H σ ρ r s h Q q => ?_⟩
  unfold fRng2 at h
  obtain ⟨rx, ea, h⟩ := bind2 h
  obtain ⟨ry, eb, h⟩ := bind2 h
  obtain ⟨i, j, e1, e2, i0, i1, j0, j1, rfl⟩ := snd_rg2 (f := fun ds => ((.tup ds, .pure) : D × Fl)) (i := 0) (j := 0) (dm := rx) (em := ry) h
  obtain ⟨d, fl⟩ := rx
  obtain ⟨d2, fl2⟩ := ry
  cases e1; cases e2
  refine ha.sd _ _ _ _ _ _ s ea _ fun v H1 x1 r1 => ?_
  refine hb.sd _ _ _ _ _ _ (s.mono x1) eb _ fun v2 H2 x2 r2 => ⟨i, j, r1.intE, r2.intE, RgOk.of_le (by omega) (by omega) (by omega) (by omega), fun q' ob hq hd => ?_⟩
  exact q _ _ ((x1.trans x2).trans (Evl.Ex.new hq)) (res_tup ((s.mono x1).mono x2).co hq hd rgV_reps2)
/-! ### list(range(a, b, -1)) -/
def dnV (a b : Int) : List V := (List.range (a - b).toNat).map fun i => V.int (a - (i : Nat))
def dnD (a b : Int) : List D := (List.range (a - b).toNat).map fun i => D.int (a - (i : Nat))
theorem dn_size (a b : Int) : Builtin.Range.rangeSize a b (-1) = ((a - b).toNat : Int) := by
  unfold Builtin.Range.rangeSize
  simp
  split <;> omega
theorem dn_small {a b : Int} (ha : -(2 ^ 40) ≤ a) (ha' : a < 2 ^ 40) (hb : -(2 ^ 40) ≤ b) (hb' : b < 2 ^ 40) : Builtin.Range.small a b (-1) = true := by
  unfold Builtin.Range.small
  rw [dn_size]
  simp only [Builtin.Range.rangeFitsLong, Bool.and_eq_true, Bool.or_eq_true, decide_eq_true_eq, beq_iff_eq]
  simp
  omega
theorem dn_len (a b : Int) : (dnV a b).length = (a - b).toNat := by unfold dnV; rw [List.length_map, List.length_range]
theorem vals_dn {a b : Int} {acc : Array Value} (h : ItemsOf (fun i v => ∃ t, v = .int (a + i * (-1)) t) acc (a - b).toNat) : Vals (dnV a b) acc.toList := by
  have e : acc.toList.length = (a - b).toNat := by rw [Array.length_toList]; exact h.1
  unfold dnV
  rw [← e]
  refine vals_of_get acc.toList _ fun j u hj => ?_
  obtain ⟨t, rfl⟩ := h.2 j u (by rw [← hj, Array.getElem?_toList])
  exact ⟨t, by congr 1; omega⟩
theorem dn_reps {a b : Int} : Reps C H (dnV a b) (dnD a b) := by
  unfold dnV dnD
  generalize List.range (a - b).toNat = l
  induction l with
  | nil => exact .nil
  | cons x l ih => exact .cons (.int _) ih
def tDnRg (ta tb tc : TE) : TE := fun σ H Q => ta σ H fun x H1 => tb σ H1 fun y H2 => tc σ H2 fun z H3 => ∃ i j, x = .int i ∧ y = .int j ∧ z = .int (-1) ∧ (-(2 ^ 40) ≤ i ∧ i < 2 ^ 40 ∧ -(2 ^ 40) ≤ j ∧ j < 2 ^ 40 ∧ (i - j).toNat ≤ 100000) ∧ ∀ q, H3 q = none → Q (.ref q) (upd H3 q (.lst (dnV i j)))
theorem pe_listDn {tc : TE} (hc : X.calm = true) (hg : Gl X "list") (hm : X.mg "list" = none) (hg2 : Gl X "range") (hm2 : X.mg "range" = none) (ha : PE X a ta) (hb : PE X b tb) (hcc : PE X c tc) (na : starEach [a, b, c] X.env = (false, eval a X.env) :: starEach [b, c] X.env := by rfl)
    (nb : starEach [b, c] X.env = (false, eval b X.env) :: starEach [c] X.env := by rfl) (nc : starEach [c] X.env = (false, eval c X.env) :: starEach [] X.env := by rfl) (hp : (backTo pos2 (starEach [b, c] X.env)).any (·.1) = false := by rfl) (hp2 : (backTo pos2 (starEach [c] X.env)).any (·.1) = false := by rfl)
    (na2 : starEach [.Call (.Name "range" p2) [a, b, c] [] pos2] X.env = (false, eval (.Call (.Name "range" p2) [a, b, c] [] pos2) X.env) :: starEach [] X.env := by rfl) :
    PE X (.Call (.Name "list" p) [.Call (.Name "range" p2) [a, b, c] [] pos2] [] pos) (tDnRg ta tb tc) := by
  have rg : ∀ (pins : List (Addr × Obj)) (s : Shared) (σ : L2.St) (H : Hp) (Q : Int → Int → Hp → Prop), Inv X pins σ H s →
      (ta σ H fun x H1 => tb σ H1 fun y H2 => tc σ H2 fun z H3 => ∃ i j, x = .int i ∧ y = .int j ∧ z = .int (-1) ∧ Q i j H3) →
      wpAny (model X.prog X.w) X.A (eval (.Call (.Name "range" p2) [a, b, c] [] pos2) X.env) (fun x s' => ∃ r a b t u v H', x = .ref r ∧ IsRange s'.heap r a b (-1) t u v ∧ Inv X pins σ H' s' ∧ Q a b H') X.xe s := by
    intro pins s σ H Q I h
    refine Call_ (ld_blt I hg2 hm2 boot_range (PyProof.Rows.callWith_type1 (args_cons (thn (ha.run pins s σ H _ I h) fun v s1 ⟨x, H1, I1, r1, q1⟩ => args_cons (thn (hb.run pins s1 σ H1 _ I1 q1) fun v2 s2 ⟨y, H2, I2, r2, q2⟩ => one_arg hcc I2 q2 (fun u s3 z H3 I3 r3 q => ?_) nc) nb) na) na hp))
    obtain ⟨i, j, rfl, rfl, rfl, q⟩ := q
    obtain ⟨t, rfl⟩ := r1
    obtain ⟨t', rfl⟩ := r2
    obtain ⟨t'', rfl⟩ := r3
    exact call_range_3 (by decide) ⟨_, i, j, _, _, _, H3, rfl, IsRange.new _ _ _ _ _ _ _, I3.kept fun b u e => Heap.get?_push_of_some _ e, q⟩ (Or.inl (PyProof.noPylong_of_log2 (by decide +kernel)))
  refine ⟨fun pins s σ H Q I h => ?_⟩
  refine Call_ (ld_blt I hg hm boot_list (PyProof.Rows.callWith_type1 (args_cons (thn (rg pins s σ H (fun i j H3 => (-(2 ^ 40) ≤ i ∧ i < 2 ^ 40 ∧ -(2 ^ 40) ≤ j ∧ j < 2 ^ 40 ∧ (i - j).toNat ≤ 100000) ∧ ∀ q, H3 q = none → Q (.ref q) (upd H3 q (.lst (dnV i j)))) I h) fun x s1 ⟨r, a, b, t, u, v, H1, ex, hr, I1, ok, q⟩ => args_nil ?_) na2) na2))
  subst ex
  obtain ⟨b1, b2, b3, b4, b5⟩ := ok
  refine call_list_range (n := (a - b).toNat) (I1.ok.hd hc) hr (dn_small b1 b2 b3 b4) (dn_size a b) (Nat.le_trans b5 (by decide)) fun h' tk acc c' hk e' hi => ?_
  refine ⟨.ref s1.heap.objs.size, upd H1 s1.heap.objs.size (.lst (dnV a b)), I1.laid hk (Nat.le_refl _) (show ObjOk X.prog X.w _ _ _ (.lst (dnV a b)) from ⟨?_, acc.toList, c', vals_dn hi, ?_⟩), rfl, q _ (I1.hok.fresh (Nat.le_refl _))⟩
  · rw [dn_len, sizeLine_eq]; omega
  · rw [Array.toArray_toList]; exact e'
def mDn (m m' m'' : M) : M := fun ρ => (m ρ).bind fun r => (m' ρ).bind fun r' => (m'' ρ).bind fun r'' => match r.1, r'.1, r''.1 with
  | .int i, .int j, .int k => if k = -1 ∧ -1000000 ≤ i ∧ i ≤ 1000000 ∧ -1000000 ≤ j ∧ j ≤ 1000000 ∧ i - j ≤ 100000 then some (.lst (dnD i j), .fresh) else none
  | _, _, _ => none
theorem de_listDn {tc : TE} {mc : M} (hc : X.calm = true) (hg : Gl X "list") (hm : X.mg "list" = none) (hg2 : Gl X "range") (hm2 : X.mg "range" = none) (ha : DE C X a ta ma) (hb : DE C X b tb mb) (hcc : DE C X c tc mc) (na : starEach [a, b, c] X.env = (false, eval a X.env) :: starEach [b, c] X.env := by rfl)
    (nb : starEach [b, c] X.env = (false, eval b X.env) :: starEach [c] X.env := by rfl) (nc : starEach [c] X.env = (false, eval c X.env) :: starEach [] X.env := by rfl) (hp : (backTo pos2 (starEach [b, c] X.env)).any (·.1) = false := by rfl) (hp2 : (backTo pos2 (starEach [c] X.env)).any (·.1) = false := by rfl)
    (na2 : starEach [.Call (.Name "range" p2) [a, b, c] [] pos2] X.env = (false, eval (.Call (.Name "range" p2) [a, b, c] [] pos2) X.env) :: starEach [] X.env := by rfl) :
    DE C X (.Call (.Name "list" p) [.Call (.Name "range" p2) [a, b, c] [] pos2] [] pos) (tDnRg ta tb tc) (mDn ma mb mc) := by
  refine ⟨pe_listDn hc hg hm hg2 hm2 ha.pe hb.pe hcc.pe na nb nc hp hp2 na2, fun O0 O H σ ρ r s h Q q => ?_⟩
  unfold mDn at h
  obtain ⟨rx, ea, h⟩ := bind2 h
  obtain ⟨ry, eb, h⟩ := bind2 h
  obtain ⟨rz, ec, h⟩ := bind2 h
  obtain ⟨d, fl⟩ := rx
  obtain ⟨d2, fl2⟩ := ry
  obtain ⟨d3, fl3⟩ := rz
  cases d with
  | int i =>
    cases d2 with
    | int j =>
      cases d3 with
      | int k =>
        replace h : (if k = -1 ∧ -1000000 ≤ i ∧ i ≤ 1000000 ∧ -1000000 ≤ j ∧ j ≤ 1000000 ∧ i - j ≤ 100000 then some ((.lst (dnD i j), .fresh) : D × Fl) else none) = some r := h
        split at h
        · rename_i hk
          cases h
          obtain ⟨rfl, hk⟩ := hk
          refine ha.sd _ _ _ _ _ _ s ea _ fun v H1 x1 r1 => ?_
          refine hb.sd _ _ _ _ _ _ (s.mono x1) eb _ fun v2 H2 x2 r2 => ?_
          refine hcc.sd _ _ _ _ _ _ ((s.mono x1).mono x2) ec _ fun v3 H3 x3 r3 => ⟨i, j, r1.intE, r2.intE, r3.intE, by omega, fun q' hq => ?_⟩
          exact q _ _ (((x1.trans x2).trans x3).trans (Evl.Ex.new hq)) (res_lst ((x1.trans x2).trans x3) hq dn_reps)
        · cases h
      | _ => cases h
    | _ => cases h
  | _ => cases h
/-! ### range(a, b, 2), walked -/
def iR3sf : List (D × Fl) → Option (List D) := fun rs => match rs with
  | [(.int i, _), (.int j, _), (.int c, _)] => if c = 2 ∧ -1000000 ≤ i ∧ i ≤ 1000000 ∧ -1000000 ≤ j ∧ j ≤ 1000000 then some ((List.range ((j - i + 1) / 2).toNat).map fun k : Nat => D.int (i + k * 2)) else none
  | _ => none
def iR3s (n : As) : I := fun ρ => (n ρ).bind iR3sf
theorem two_size (a b : Int) : Builtin.Range.rangeSize a b 2 = (((b - a + 1) / 2).toNat : Int) := by
  unfold Builtin.Range.rangeSize
  simp
  split <;> omega
theorem RgC.two {i j : Int} (ha : -1000000 ≤ i) (ha' : i ≤ 1000000) (hb : -1000000 ≤ j) (hb' : j ≤ 1000000) : RgC i j 2 ((j - i + 1) / 2).toNat := by
  refine ⟨by decide, by decide, ?_, two_size i j⟩
  unfold Builtin.Range.small
  rw [two_size]
  simp only [Builtin.Range.rangeFitsLong, Bool.and_eq_true, Bool.or_eq_true, decide_eq_true_eq, beq_iff_eq]
  simp
  omega
theorem di_r3s {w : Bool} {tg a b c : Expr} {ta : TA} {n : As} {p pos : Pos} (hg : Gl X "range") (hm : X.mg "range" = none) (ha : DA C X [a, b, c] ta n) (hs : starEach [a, b, c] X.env = (false, eval a X.env) :: starEach [b, c] X.env := by rfl) (hpl : (backTo pos (starEach [b, c] X.env)).any (·.1) = false := by rfl) :
    DI C w X tg (.Call (.Name "range" p) [a, b, c] [] pos) (iRng3 ta) (iR3s n) := by
  refine ⟨pi_range3 hg hm ha.pa hs hpl, fun O0 O H σ ρ ds s h R q => ?_⟩
  unfold iR3s at h
  cases en : n ρ with
  | none => rw [en] at h; cases h
  | some rs =>
    rw [en] at h
    replace h : iR3sf rs = some ds := h
    unfold iR3sf at h
    split at h
    · split at h
      · rename_i i _ j _ c _ hk
        obtain ⟨hc, h1, h2, h3, h4⟩ := hk
        subst hc
        cases h
        refine ha.sd _ _ _ _ _ _ s en _ fun vs H1 e r => ?_
        cases r with
        | cons r1 r =>
          obtain ⟨v, v', rfl, r2, r3⟩ := ress2 r
          cases r1.intE; cases r2.intE; cases r3.intE
          exact ⟨_, _, _, _, rfl, RgC.two h1 h2 h3 h4, q _ _ e itc_ok⟩
      · cases h
    · cases h
/-! ### bits -/
abbrev fXor : F2 := fI fun i j => some (.int (Builtin.bitXor i j))
theorem de_xor (ha : DE C X a ta ma) (hb : DE C X b tb mb) : DE C X (.BinOp a .BitXor b pos) (tOp (rI0 fun i j => .int (Builtin.bitXor i j)) ta tb) (mOp fXor ma mb) := de_op op_xor vr_I0 ha hb
abbrev fBand : F2 := fI fun i j => some (.int (Builtin.bitAnd i j))
theorem de_band (ha : DE C X a ta ma) (hb : DE C X b tb mb) : DE C X (.BinOp a .BitAnd b pos) (tOp (rI0 fun i j => .int (Builtin.bitAnd i j)) ta tb) (mOp fBand ma mb) := de_op op_and vr_I0 ha hb
abbrev fBor : F2 := fI fun i j => some (.int (Builtin.bitOr i j))
theorem de_bor (ha : DE C X a ta ma) (hb : DE C X b tb mb) : DE C X (.BinOp a .BitOr b pos) (tOp (rI0 fun i j => .int (Builtin.bitOr i j)) ta tb) (mOp fBor ma mb) := de_op op_or vr_I0 ha hb
abbrev fShl : F2 := fI fun i j => if CPow i j then some (.int (i * 2 ^ j.toNat)) else none
theorem de_shl (ha : DE C X a ta ma) (hb : DE C X b tb mb) : DE C X (.BinOp a .LShift b pos) (tOp (rI CPow fun i j => .int (i * 2 ^ j.toNat)) ta tb) (mOp fShl ma mb) := de_op op_shl vr_I ha hb
end
end Dt

set_option maxRecDepth 100000
namespace Dt
open PySem PySem.Spec PyProof.Rows L2
open Evl (Ex)
/-! sorted of a list of tuples of ints, all of one length -/
section
variable {prog : Program} {w : World} {A : Around} {E : Value → Shared → Prop} {s : Shared} {Q : Bool → Shared → Prop}
theorem lex_any {b : Bool} {xs ys : List Value} {ns ms : List Int} (i : Nat) (hx : IntsAre xs ns) (hy : IntsAre ys ms) (hl : ns.length = ms.length)
    (h : Q (HT.lexLt ns ms) s) : PySem.W.KatLex prog w A b false Q (xs.zip ys) i s := by
  induction hx generalizing ys ms i with
  | nil =>
    cases hy with
    | nil => rw [HT.lexLt_nil_nil] at h; exact PySem.W.kat_nil h
    | cons q u hy => simp at hl
  | @cons p t xs ns hx ih =>
    cases hy with
    | nil => simp at hl
    | @cons q u ys ms hy =>
      have hl' : ns.length = ms.length := by simpa using hl
      show PySem.W.KatLex prog w A b false Q ((Value.int p t, Value.int q u) :: xs.zip ys) i s
      rw [HT.lexLt_cons] at h
      refine PySem.W.kat_cons (wpAny_eqBool_int ?_)
      by_cases e : p = q
      · subst e
        rw [beq_self_eq_true]
        rw [if_pos rfl] at h
        refine PySem.W.kat_yes ?_
        first
          | exact ih (i + 1) hy hl' h
          | exact ih _ _ (i + 1) hy hl' h
      · rw [show (p == q) = false from beq_eq_false_iff_ne.mpr e]
        rw [if_neg e] at h
        exact PySem.W.kat_no (TS.oneLt_ints _ h)
theorem firsts_any {h : Heap} {k : Value → List Int} : ∀ vs : List Value, (∀ v ∈ vs, TS.TupInts h v (k v) ∧ 1 ≤ (k v).length) → ∃ fs, PySem.W.KatTups h vs fs ∧ fs.length = vs.length ∧ ∀ f, f ∈ fs → ∃ n t, f = Value.int n t
  | [], _ => ⟨[], PySem.W.KatTups.nil, rfl, fun f hf => by simp at hf⟩
  | v :: vs, x => by
    obtain ⟨fs, kk, hl, hi⟩ := firsts_any vs fun u hu => x u (List.mem_cons_of_mem _ hu)
    obtain ⟨⟨a, xs, rfl, ⟨o, ho, hc, n, hdt⟩, i⟩, hn⟩ := x v List.mem_cons_self
    obtain ⟨y, ys, e⟩ : ∃ y ys, xs.toList = y :: ys := by
      cases q : xs.toList with
      | nil =>
        rw [q] at i
        have l := i.length
        rw [List.length_nil] at l
        omega
      | cons y ys => exact ⟨y, ys, rfl⟩
    obtain ⟨m, t, hy⟩ := i.all y (by rw [e]; exact List.mem_cons_self)
    refine ⟨y :: fs, PySem.W.KatTups.cons ho hc hdt ?_ kk, by simp [hl], ?_⟩
    · have z := congrArg (fun l : List Value => l[0]?) e
      simpa using z
    · intro f hf
      rcases List.mem_cons.mp hf with rfl | hf
      · exact ⟨m, t, hy⟩
      · exact hi f hf
theorem tups_sortable {a : Addr} {vs : List Value} {k : Value → List Int} {d : Nat} (h2 : 2 ≤ vs.length) (hd : 1 ≤ d) (hv : ∀ v ∈ vs, TS.TupInts s.heap v (k v) ∧ (k v).length = d) (ha : ∀ o, s.heap.get? a = some o → o.cls ≠ .type "tuple") :
    SrtO.SortableO prog w A s a vs fun v u => HT.lexLt (k v) (k u) := by
  intro h' keep
  have hv' : ∀ v ∈ vs, TS.TupInts h' v (k v) ∧ (k v).length = d := fun v hm => ⟨(hv v hm).1.keeps fun b o e c => keep b o (fun z => by subst z; exact ha o e c) e, (hv v hm).2⟩
  obtain ⟨fs, h1, hl, h3⟩ := firsts_any vs fun v hm => ⟨(hv' v hm).1, by rw [(hv' v hm).2]; exact hd⟩
  refine ⟨tuples' true, fun Q E hq => ?_, fun p q hp hq => ?_⟩
  rotate_left
  · obtain ⟨⟨a1, xs, e1, ⟨o, ho, hc, n, hdt⟩, i⟩, lp⟩ := hv' _ hp
    obtain ⟨⟨a2, ys, e2, ⟨o', ho', hc', n', hdt'⟩, i'⟩, lq⟩ := hv' _ hq
    show wpAny (model prog w) A (keyLt' (tuples' true) p.1 q.1) (fun r s' => s' = { s with heap := h' } ∧ r = HT.lexLt (k p.1) (k q.1)) (fun _ _ => False) { s with heap := h' }
    generalize k p.1 = ns at i lp ⊢
    generalize k q.1 = ms at i' lq ⊢
    rw [e1, e2]
    refine PySem.W.kat_lt ho hdt ho' hdt' ?_
    have sz : decide (xs.size < ys.size) = false := by
      have l1 := i.length
      have l2 := i'.length
      rw [Array.length_toList] at l1 l2
      exact decide_eq_false (by omega)
    rw [sz]
    exact lex_any 0 i i' (by omega) ⟨rfl, rfl⟩
  · refine PySem.W.kat_kind (T := Value.type "int") h1 (by omega) (fun f hf => ?_) rfl ?_
    · obtain ⟨n, t, rfl⟩ := h3 f hf
      exact PySem.W.Looks.of_pure rfl
    · have e : (Value.type "int" != Value.type "tuple") = true := by first | decide +kernel | rfl | decide
      rw [e]
      exact hq
end
def rSortTL (K : PySem.W.Frag) : List V → Hp → VK → Prop := fun vs H Q => ∃ (a : Addr) (ts : List Addr) (k : Addr → List Int) (d : Nat), vs = [V.ref a] ∧ SqL K H a (ts.map V.ref) ∧ 1 ≤ d ∧ (∀ t ∈ ts, SqT K H t ((k t).map V.int) ∧ (k t).length = d) ∧
  ∀ (ts' : List Addr) (p : Addr), ts'.Perm ts → ts'.Pairwise (fun p q => HT.lexLt (k q) (k p) = false) → H p = none → Q (.ref p) (upd H p (.lst (ts'.map V.ref)))
theorem cr_sortTL {X : Cx} : CallR X (.builtin "sorted") (rSortTL X.K) := by
  intro pins s σ H vs us Q I r h
  obtain ⟨a, ts, k, d, rfl, hs, hd, ht, q⟩ := h
  obtain ⟨its, rv, hl, hz⟩ := I.list hs
  have ei := nts_of rv
  rw [Vals.ref1 r]
  have hv : ∀ u ∈ its, TS.TupInts s.heap u (k (adO u)) ∧ (k (adO u)).length = d := fun u hm => by
    rw [ei] at hm
    obtain ⟨t, htm, rfl⟩ := List.mem_map.mp hm
    obtain ⟨h1, h2⟩ := ht t htm
    obtain ⟨ys, rv2, hT, _⟩ := I.tuple h1
    exact ⟨⟨t, ys.toArray, rfl, hT, by show IntsAre ys.toArray.toList (k t); simpa using rv2.ints⟩, h2⟩
  refine SrtO.sorted_ord (NtL.swo_lexL fun v => k (adO v)) hl.isList (by rw [← rv.length]; exact hz) (fun h2 h₁ a' ha keep => tups_sortable h2 hd (fun v hm => ⟨(hv v hm).1.keeps fun b o e c => (keep b o e).2, (hv v hm).2⟩) fun o e => ?_) fun out o1 o2 => ?_
  · intro hc
    rw [show ({ s with heap := h₁ } : Shared).heap.get? a' = _ from ha] at e
    have e' := Option.some.inj e
    subst e'
    exact absurd hc (by
      intro z
      have z2 : Value.type "list" = Value.type "tuple" := z
      injection z2 with z2
      exact absurd z2 (by decide))
  · have hr : out = (out.map adO).map Value.ref := ref_map fun v hm => by
      have := o2.perm.mem_iff.mp hm
      rw [ei] at this
      obtain ⟨t, _, rfl⟩ := List.mem_map.mp this
      exact ⟨t, rfl⟩
    have hp : (out.map adO).Perm ts := by
      have := o2.perm.map adO
      rwa [ei, ad_map] at this
    have hs : (out.map adO).Pairwise (fun p q => HT.lexLt (k q) (k p) = false) := List.pairwise_map.mpr o1
    obtain ⟨ep, he'⟩ := PyProof.Rows.sortedAll_at s.heap its out.toArray
    have hlen : ((out.map adO).map V.ref).length ≤ sizeLine := by
      rw [List.length_map, hp.length_eq]
      rwa [List.length_map] at hz
    have hvals : Vals ((out.map adO).map V.ref) out := by
      have := of_nts (out.map adO)
      rwa [← hr] at this
    exact ⟨.ref _, upd H (s.heap.objs.size + 1) (.lst ((out.map adO).map V.ref)), I.laid (t' := s.toks) (fun _ _ => PyProof.Rows.sortedAll_old) (Nat.le_succ _) ⟨hlen, out, ep, hvals, he'⟩, rfl, q _ _ hp hs (I.hok.fresh (Nat.le_succ _))⟩
/-! on plain data -/
def getTs : List D → Option (List (List Int))
  | [] => some []
  | .tup ds :: r => (getIs ds).bind fun ns => (getTs r).map (ns :: ·)
  | _ :: _ => none
def insL (x : List Int) : List (List Int) → List (List Int)
  | [] => [x]
  | y :: ys => if HT.lexLt y x = true then y :: insL x ys else x :: y :: ys
def srtL : List (List Int) → List (List Int)
  | [] => []
  | x :: xs => insL x (srtL xs)
def Asc (l : List (List Int)) : Prop := l.Pairwise fun p q => HT.lexLt q p = false
theorem insL_perm (x : List Int) : ∀ ys, (insL x ys).Perm (x :: ys)
  | [] => .refl _
  | y :: ys => by
    unfold insL
    split
    · exact ((insL_perm x ys).cons y).trans (.swap x y ys)
    · exact .refl _
theorem srtL_perm : ∀ xs, (srtL xs).Perm xs
  | [] => .refl _
  | x :: xs => (insL_perm x _).trans ((srtL_perm xs).cons x)
theorem insL_asc (x : List Int) : ∀ ys, Asc ys → Asc (insL x ys)
  | [], _ => List.pairwise_singleton _ _
  | y :: ys, h => by
    have h1 := List.pairwise_cons.mp h
    unfold insL
    split
    · rename_i hx
      refine List.pairwise_cons.mpr ⟨fun z hz => ?_, insL_asc x ys h1.2⟩
      rcases List.mem_cons.mp ((insL_perm x ys).mem_iff.mp hz) with rfl | hz
      · exact NtL.lex_asym _ _ hx
      · exact h1.1 z hz
    · rename_i hx
      have hx : HT.lexLt y x = false := by simpa using hx
      refine List.pairwise_cons.mpr ⟨fun z hz => ?_, h⟩
      rcases List.mem_cons.mp hz with rfl | hz
      · exact hx
      · exact NtL.lex_tr _ _ _ hx (h1.1 z hz)
theorem srtL_asc : ∀ xs, Asc (srtL xs)
  | [] => .nil
  | x :: xs => insL_asc x _ (srtL_asc xs)
theorem lex_anti : ∀ xs ys : List Int, HT.lexLt xs ys = false → HT.lexLt ys xs = false → xs = ys
  | [], [], _, _ => rfl
  | [], y :: ys, h, _ => by rw [HT.lexLt_nil_cons] at h; cases h
  | x :: xs, [], _, h => by rw [HT.lexLt_nil_cons] at h; cases h
  | x :: xs, y :: ys, h1, h2 => by
    rw [HT.lexLt_cons] at h1 h2
    by_cases e : x = y
    · subst e
      rw [if_pos rfl] at h1 h2
      rw [lex_anti xs ys h1 h2]
    · rw [if_neg e] at h1
      rw [if_neg (Ne.symm e)] at h2
      have a := of_decide_eq_false h1
      have b := of_decide_eq_false h2
      omega
theorem asc_unique : ∀ {xs ys : List (List Int)}, xs.Perm ys → Asc xs → Asc ys → xs = ys
  | [], ys, p, _, _ => (List.nil_perm.mp p).symm
  | x :: xs, [], p, _, _ => by have := p.length_eq; simp at this
  | x :: xs, y :: ys, p, h1, h2 => by
    have e1 := List.pairwise_cons.mp h1
    have e2 := List.pairwise_cons.mp h2
    have hxy : x = y := by
      have a : x ∈ y :: ys := p.mem_iff.mp List.mem_cons_self
      have b : y ∈ x :: xs := p.mem_iff.mpr List.mem_cons_self
      rcases List.mem_cons.mp a with h | h
      · exact h
      · rcases List.mem_cons.mp b with h' | h'
        · exact h'.symm
        · exact lex_anti _ _ (e2.1 x h) (e1.1 y h')
    subst hxy
    rw [asc_unique (List.perm_cons x |>.mp p) e1.2 e2.2]
def sameLen (L : List (List Int)) : Bool := L.all fun ns => decide (1 ≤ ns.length) && decide (ns.length = (L.headD []).length)
def fSortedL : FN := fun rs => match rs with
  | [(.lst ds, _)] => (getTs ds).bind fun L => if sameLen L = true then some (.lst ((srtL L).map fun ns => .tup (ns.map .int)), .fresh) else none
  | _ => none
def kOf (H : Hp) (t : Addr) : List Int := match H t with
  | some (.frz _ (.tup xs)) => xs.map fun v => match v with | .int i => i | _ => 0
  | _ => []
theorem kOf_tup {H : Hp} {t : Addr} {ns : List Int} (h : TupN H t (ns.map V.int)) : kOf H t = ns := by
  obtain ⟨ob, e, _⟩ := h
  unfold kOf
  rw [e]
  simp only [List.map_map]
  exact (List.map_congr_left fun _ _ => rfl).trans (List.map_id ns)
theorem reps_tups {C : Cfg} {H : Hp} : ∀ {ds : List D} {xs : List V} {L : List (List Int)}, Reps C H xs ds → getTs ds = some L → ∃ ts : List Addr, xs = ts.map V.ref ∧ L = ts.map (kOf H) ∧ ∀ t ∈ ts, TupN H t ((kOf H t).map V.int)
  | [], xs, L, h, e => by cases e; cases h; exact ⟨[], rfl, rfl, fun t ht => by simp at ht⟩
  | d :: ds, xs, L, h, e => by
    cases h with
    | cons h1 h2 =>
      cases d with
      | tup es =>
        unfold getTs at e
        obtain ⟨ns, en, e⟩ := bind2 e
        cases er : getTs ds with
        | none => rw [er] at e; cases e
        | some M =>
          rw [er] at e; cases e
          obtain ⟨ts, g1, g2, g3⟩ := reps_tups h2 er
          cases h1 with
          | @tup a ys _ k1 k2 =>
            have k3 := getIs_reps k2 en
            subst k3
            have k4 := kOf_tup k1
            refine ⟨a :: ts, by rw [g1]; rfl, by rw [List.map_cons, k4, g2], fun t ht => ?_⟩
            rcases List.mem_cons.mp ht with rfl | ht
            · rw [k4]; exact k1
            · exact g3 t ht
      | _ => cases e
theorem tups_reps {C : Cfg} {H : Hp} : ∀ {ts : List Addr}, (∀ t ∈ ts, TupN H t ((kOf H t).map V.int)) → Reps C H (ts.map V.ref) ((ts.map (kOf H)).map fun ns => D.tup (ns.map .int))
  | [], _ => .nil
  | t :: ts, h => .cons (.tup (h t List.mem_cons_self) (reps_intsD _)) (tups_reps fun u hu => h u (List.mem_cons_of_mem _ hu))
section
variable {C : Cfg} {K : PySem.W.Frag} {X : Cx} {e : Expr} {t : TA} {n : As} {p pos : Pos}
theorem vc_sortedL (hC : C.K = K) : VC C (rSortTL K) fSortedL := by
  intro O0 O H H' vs rs rz c c' e r1 hf Q q
  unfold fSortedL at hf
  split at hf
  · rename_i ds _
    obtain ⟨L, en, hf⟩ := bind2 hf
    split at hf
    · rename_i hL
      cases hf
      obtain ⟨v, rfl, h⟩ := ress1 r1
      obtain ⟨p, xs, rfl, h1, h2⟩ := h.lstE
      obtain ⟨ts, g1, g2, g3⟩ := reps_tups h2 en
      subst g1
      have hlen : ∃ d : Nat, 1 ≤ d ∧ ∀ t ∈ ts, (kOf (hid H' O) t).length = d := by
        cases hts : ts with
        | nil => exact ⟨1, Nat.le_refl _, fun t ht => by simp at ht⟩
        | cons t0 tr =>
          refine ⟨(L.headD []).length, ?_, fun t ht => ?_⟩
          · have := List.all_eq_true.mp hL (kOf (hid H' O) t0) (by rw [g2, hts]; simp)
            rw [Bool.and_eq_true, decide_eq_true_eq, decide_eq_true_eq] at this
            omega
          · have := List.all_eq_true.mp hL (kOf (hid H' O) t) (by rw [g2, hts]; exact List.mem_map_of_mem ht)
            rw [Bool.and_eq_true, decide_eq_true_eq, decide_eq_true_eq] at this
            exact this.2
      obtain ⟨d, hd, hld⟩ := hlen
      refine ⟨p, ts, kOf (hid H' O), d, rfl, .inl (.inl h1), hd, fun t ht => ⟨((g3 t ht).mono hid_ex).sq, hld t ht⟩, fun ts' l hp hs hl => ?_⟩
      have hm : (ts'.map (kOf (hid H' O))) = srtL L := asc_unique ((hp.map _).trans (by rw [← g2]; exact (srtL_perm L).symm)) (List.pairwise_map.mpr hs) (srtL_asc L)
      have := tups_reps (C := C) (H := hid H' O) (ts := ts') fun t ht => g3 t (hp.mem_iff.mp ht)
      rw [hm] at this
      exact q _ _ (Evl.Ex.new hl) (res_lst e hl this)
    · cases hf
  · cases hf
theorem de_sortedL (hK : X.K = K) (hC : C.K = K) (hg : Gl X "sorted") (hm : X.mg "sorted" = none) (ha : DA C X [e] t n) (hs : starEach [e] X.env = (false, eval e X.env) :: starEach [] X.env := by rfl) (hpl : (backTo pos (starEach [] X.env)).any (·.1) = false := by rfl) :
    DE C X (.Call (.Name "sorted" p) [e] [] pos) (tCB (rSortTL K) t) (mFn fSortedL n) := by
  subst hK; exact de_callB cr_sortTL (vc_sortedL hC) hg hm (by decide +kernel) ha (by decide) (by decide) hs hpl
end
end Dt

set_option maxRecDepth 100000
set_option maxHeartbeats 4000000
namespace Dt
open PySem PySem.Spec PyProof.Rows L2
open Evl (Ex)
/-! len(set(t)), t a tuple of ints -/
def tLenSetT (K : PySem.W.Frag) (ta : TE) : TE := fun σ H Q => ta σ H fun x H1 => ∃ (l : Addr) (ns : List Int), x = V.ref l ∧ SqT K H1 l (ns.map V.int) ∧ ns.length ≤ 1000 ∧ ∀ out : List Int, out.Nodup → (∀ k, k ∈ out ↔ k ∈ ns) → Q (.int out.length) H1
section
variable {X : Cx}
theorem pe_lenSetT {a : Expr} {ta : TE} {p p2 q pos : Pos} (hc : X.calm = true) (hg : Gl X "len") (hm : X.mg "len" = none) (hg2 : Gl X "set") (hm2 : X.mg "set" = none) (ha : PE X a ta)
    (na : starEach [a] X.env = (false, eval a X.env) :: starEach [] X.env := by rfl) : PE X (.Call (.Name "len" p) [.Call (.Name "set" p2) [a] [] q] [] pos) (tLenSetT X.K ta) := by
  refine ⟨fun pins s σ H Q I h => ?_⟩
  refine Call_ (ld_blt I hg hm PySem.boot_len ?_)
  refine PyProof.Rows.callWith_builtin1 (PyProof.Rows.args_cons ?_ rfl) rfl rfl
  refine Call_ (ld_blt I hg2 hm2 PyProof.Rows.boot_set ?_)
  refine PyProof.Rows.callWith_type1 (PyProof.Rows.args_cons (thn (ha.run pins s σ H _ I h) fun v s1 ⟨x, H1, I1, r1, q1⟩ => PyProof.Rows.args_nil ?_) na) na rfl
  obtain ⟨l, ns, rfl, hq, h1, q1⟩ := q1
  cases r1
  obtain ⟨its, r, pt, hz⟩ := I1.tuple hq
  refine call_set_tupI ns (I1.ok.hd hc) (show s1.heap.IsTuple l its.toArray from pt) (by simpa using r.ints) (by unfold scanBound; omega) fun h' tk c R1 hcn hk => ?_
  refine PyProof.Rows.args_nil ?_
  obtain ⟨o, es, ep, t, ho, hex, hd, g, nd, hm3, hb, hf, hn, hr, hl2⟩ := R1
  have I2 : Inv X pins σ H1 { s1 with heap := h', toks := tk } := I1.kept fun b o e => hk b o e
  have q2 := q1 (es.toList.map keyOf) nd fun k => by rw [← hm3 k, decide_eq_true_eq]
  rw [List.length_map, Array.length_toList, hn] at q2
  refine call_len_set ho hex hd hf (by rw [hn] <;> omega) ⟨.int c, H1, I2.tok _, ⟨_, by rw [hn]⟩, q2⟩
end
def ddI : List Int → List Int
  | [] => []
  | x :: xs => if x ∈ ddI xs then ddI xs else x :: ddI xs
theorem ddI_mem : ∀ {xs : List Int} {k : Int}, k ∈ ddI xs ↔ k ∈ xs
  | [], k => by simp [ddI]
  | x :: xs, k => by
    unfold ddI
    split
    · rename_i h
      rw [ddI_mem, List.mem_cons]
      exact ⟨.inr, fun hk => by
        rcases hk with rfl | hk
        · exact ddI_mem.mp h
        · exact hk⟩
    · rw [List.mem_cons, List.mem_cons, ddI_mem]
theorem ddI_nod : ∀ xs : List Int, (ddI xs).Nodup
  | [] => .nil
  | x :: xs => by
    unfold ddI
    split
    · exact ddI_nod xs
    · rename_i h; exact List.nodup_cons.mpr ⟨h, ddI_nod xs⟩
theorem nod_len : ∀ {o r : List Int}, o.Nodup → r.Nodup → (∀ x, x ∈ o ↔ x ∈ r) → o.length = r.length
  | [], r, _, _, h => by
    cases r with
    | nil => rfl
    | cons x r => exact absurd ((h x).mpr List.mem_cons_self) (by simp)
  | x :: o, r, hn, hr, h => by
    obtain ⟨h1, h2⟩ := List.nodup_cons.mp hn
    have hx := (h x).mp List.mem_cons_self
    have hp := (List.perm_cons_erase hx).length_eq
    have := nod_len h2 (hr.erase x) fun y => by
      rw [List.Nodup.mem_erase_iff hr, ← h y, List.mem_cons]
      constructor
      · intro hy; exact ⟨fun e => h1 (e ▸ hy), .inr hy⟩
      · rintro ⟨hy, hy2⟩
        rcases hy2 with hy2 | hy2
        · exact absurd hy2 hy
        · exact hy2
    rw [List.length_cons] at hp ⊢
    omega
def fLenSet (r : D × Fl) : Option (D × Fl) := match r.1 with
  | .tup ds => (getIs ds).bind fun ns => if ns.length ≤ 1000 then some (.int (ddI ns).length, .pure) else none
  | _ => none
def mLenSet (m : M) : M := fun ρ => (m ρ).bind fLenSet
section
variable {C : Cfg} {K : PySem.W.Frag} {X : Cx} {a : Expr} {ta : TE} {m : M} {p p2 q pos : Pos}
theorem de_lenSet (hK : X.K = K) (hcm : X.calm = true) (hg : Gl X "len") (hm : X.mg "len" = none) (hg2 : Gl X "set") (hm2 : X.mg "set" = none) (ha : DE C X a ta m)
    (na : starEach [a] X.env = (false, eval a X.env) :: starEach [] X.env := by rfl) : DE C X (.Call (.Name "len" p) [.Call (.Name "set" p2) [a] [] q] [] pos) (tLenSetT K ta) (mLenSet m) := by
  subst hK
  refine ⟨pe_lenSetT hcm hg hm hg2 hm2 ha.pe na, ?_⟩
  intro O0 O H σ ρ rz s h Q g
  unfold mLenSet at h
  cases ea : m ρ with
  | none => rw [ea] at h; cases h
  | some r =>
    rw [ea, Option.bind_some] at h
    refine ha.sd _ _ _ _ _ _ s ea _ fun v H' e r1 => ?_
    obtain ⟨d, fl⟩ := r
    unfold fLenSet at h
    split at h
    · rename_i ds e1
      simp only at e1; subst e1
      obtain ⟨ns, en, h⟩ := bind2 h
      split at h
      · rename_i hl
        cases h
        obtain ⟨l, xs, rfl, h1, h2⟩ := r1.tupE
        have k1 := getIs_reps h2 en
        subst k1
        refine ⟨l, ns, rfl, h1.sq, hl, fun out ho hm => ?_⟩
        rw [nod_len ho (ddI_nod ns) fun k => by rw [hm, ddI_mem]]
        exact g _ _ e .int
      · cases h
    · cases h
end
end Dt

set_option maxRecDepth 100000
namespace Dt
open PySem PySem.Spec PyProof.Rows L2
open Evl (Ex)
/-! # numbered lists: lists that are known by their numbers, and that anyone may change -/
abbrev Ce := List (List D)
abbrev cfg (B : Cfg) (cs : List Addr) : Cfg := ⟨B.net, B.K, cs, B.dicN⟩
section
variable {B : Cfg} {cs cs' cs2 : List Addr} {H H' H1 H2 H0 : Hp} {O O' O2 O0 O0' : List Addr} {κ κ' : Ce}
theorem pre_get {α : Type} {l l' : List α} {n : Nat} {a : α} (h : l <+: l') (e : l[n]? = some a) : l'[n]? = some a := by
  obtain ⟨t, rfl⟩ := h
  rw [List.getElem?_append_left (List.getElem?_eq_some_iff.mp e).1]; exact e
theorem nodup_at {α : Type} {l : List α} (h : l.Nodup) {i j : Nat} {a : α} (h1 : l[i]? = some a) (h2 : l[j]? = some a) : i = j := by
  obtain ⟨l1, g1⟩ := List.getElem?_eq_some_iff.mp h1
  obtain ⟨l2, g2⟩ := List.getElem?_eq_some_iff.mp h2
  have hp := List.pairwise_iff_getElem.mp h
  rcases Nat.lt_trichotomy i j with q | q | q
  · exact absurd (g1.trans g2.symm) (hp i j l1 l2 q)
  · exact q
  · exact absurd (g2.trans g1.symm) (hp j i l2 l1 q)
mutual
theorem Rep.more (h : cs <+: cs') : ∀ {d : D} {v : V}, Rep (cfg B cs) H v d → Rep (cfg B cs') H v d
  | .non, _, r => by cases r; exact .non
  | .bl _, _, r => by cases r; exact .bl _
  | .int _, _, r => by cases r; exact .int _
  | .str _, _, r => by cases r; exact .str _
  | .tup ds, _, r => by cases r with | tup h1 h2 => exact .tup h1 (Reps.more h h2)
  | .tmp ds, _, r => by cases r with | tmp h1 h2 => exact .tmp h1 (Reps.more h h2)
  | .lst ds, _, r => by cases r with | lst h1 h2 => exact .lst h1 (Reps.more h h2)
  | .net w c, _, r => by cases r with | net h1 h2 => exact .net h1 (Rep.more h h2)
  | .frz _, _, r => by cases r with | frz h1 => exact .frz h1
  | .opq _, _, r => by cases r; exact .opq _
  | .hol _, _, r => by cases r with | hol h1 => exact .hol (pre_get h h1)
  | .dic ks vs, _, r => by cases r with | dic h1 h0 h2 => exact .dic h1 (Reps.more h h0) (Reps.more h h2)
theorem Reps.more (h : cs <+: cs') : ∀ {ds : List D} {vs : List V}, Reps (cfg B cs) H vs ds → Reps (cfg B cs') H vs ds
  | [], _, r => by cases r; exact .nil
  | _ :: _, _, r => by cases r with | cons h1 h2 => exact .cons (Rep.more h h1) (Reps.more h h2)
end
theorem Res.more {v : V} {r : D × Fl} (h : cs <+: cs') (x : Res (cfg B cs) O0 O H H' v r) : Res (cfg B cs') O0 O H H' v r := by
  cases x with
  | pure q => exact .pure (q.more h)
  | fresh h1 h2 h3 => exact .fresh h1 h2 (h3.more h)
  | bor h1 h2 h3 h4 => exact .bor h1 h2 h3 (h4.more h)
theorem SV.more {σ : L2.St} {ρ : E} (h : cs <+: cs') (s : SV (cfg B cs) O0 O H σ ρ) : SV (cfg B cs') O0 O H σ ρ where
  len := s.len
  dom := s.dom
  sub := s.sub
  ll := s.ll
  sh := fun i d q => let ⟨v, a, b⟩ := s.sh i d q; ⟨v, a, b.more h⟩
  ow := fun i d q => let ⟨a, xs, ds, h1, h2, h3, h4, h5, h6⟩ := s.ow i d q; ⟨a, xs, ds, h1, h2, h3, h4, h5, h6.more h⟩
  inj := s.inj
theorem SS.more {σ : L2.St} {ρ : E} (h : cs <+: cs') (s : SS (cfg B cs) H0 O0 O H σ ρ) : SS (cfg B cs') H0 O0 O H σ ρ := ⟨s.toSV.more h, s.base, s.new⟩

/-- the numbered lists stand at cs -/
structure GC (B : Cfg) (cs O : List Addr) (H : Hp) (κ : Ce) : Prop where
  len : cs.length = κ.length
  nd : cs.Nodup
  sub : ∀ a ∈ cs, a ∈ O
  at_ : ∀ (n : Nat) (a : Addr) (ds : List D), cs[n]? = some a → κ[n]? = some ds → ∃ xs, H a = some (.lst xs) ∧ Reps (cfg B cs) (hid H O) xs ds
structure GS (B : Cfg) (cs : List Addr) (H0 : Hp) (O0 O : List Addr) (H : Hp) (σ : L2.St) (ρ : E) (κ : Ce) : Prop extends SS (cfg B cs) H0 O0 O H σ ρ where
  gc : GC B cs O H κ
  c0 : ∀ a ∈ cs, a ∈ O0
  h0 : ∀ a ∈ cs, H0 a = none
theorem GC.mono (e : Ex H H') (g : GC B cs O H κ) : GC B cs O H' κ :=
  ⟨g.len, g.nd, g.sub, fun n a ds h1 h2 => let ⟨xs, q1, q2⟩ := g.at_ n a ds h1 h2; ⟨xs, e _ _ q1, q2.mono (hid_mono e)⟩⟩
theorem GS.mono {σ : L2.St} {ρ : E} (e : Ex H H') (s : GS B cs H0 O0 O H σ ρ κ) : GS B cs H0 O0 O H' σ ρ κ := ⟨s.toSS.mono e, s.gc.mono e, s.c0, s.h0⟩
/-- the cell of a number -/
theorem GC.cell {n : Nat} {ds : List D} (g : GC B cs O H κ) (h : κ[n]? = some ds) : ∃ a xs, cs[n]? = some a ∧ a ∈ cs ∧ H a = some (.lst xs) ∧ Reps (cfg B cs) (hid H O) xs ds := by
  have hn : n < cs.length := by rw [g.len]; exact (List.getElem?_eq_some_iff.mp h).1
  obtain ⟨xs, q1, q2⟩ := g.at_ n cs[n] ds (List.getElem?_eq_getElem hn) h
  exact ⟨cs[n], xs, List.getElem?_eq_getElem hn, List.getElem_mem hn, q1, q2⟩
/-- what follows extends what was -/
structure GX (H0 : Hp) (cs O0 O : List Addr) (H : Hp) (cs' O0' O' : List Addr) (H' : Hp) : Prop where
  cs : cs <+: cs'
  ex : Ex (hid H O) (hid H' O')
  o0 : ∀ a ∈ O0, a ∈ O0'
  n0 : ∀ a ∈ O0', a ∈ O0 ∨ H0 a = none
theorem GX.refl : GX H0 cs O0 O H cs O0 O H := ⟨List.prefix_refl _, Evl.Ex.refl _, fun _ h => h, fun _ h => .inl h⟩
theorem GX.of_ex (e : Ex H H') : GX H0 cs O0 O H cs O0 O H' := ⟨List.prefix_refl _, hid_mono e, fun _ h => h, fun _ h => .inl h⟩
theorem GX.trans {O02 : List Addr} (x : GX H0 cs O0 O H cs' O0' O' H') (y : GX H0 cs' O0' O' H' cs2 O02 O2 H2) : GX H0 cs O0 O H cs2 O02 O2 H2 :=
  ⟨x.cs.trans y.cs, x.ex.trans y.ex, fun a h => y.o0 a (x.o0 a h), fun a h => (y.n0 a h).elim (x.n0 a) .inr⟩
theorem GX.end_ (x : GX H0 cs O0 O H cs' O0' O' H1) (e : Ex H1 H') : GX H0 cs O0 O H cs' O0' O' H' := ⟨x.cs, x.ex.trans (hid_mono e), x.o0, x.n0⟩
theorem GX.rep (x : GX H0 cs O0 O H cs' O0' O' H') {v : V} {d : D} (r : Rep (cfg B cs) (hid H O) v d) : Rep (cfg B cs') (hid H' O') v d := (r.more x.cs).mono x.ex
theorem GX.reps (x : GX H0 cs O0 O H cs' O0' O' H') {vs : List V} {ds : List D} (r : Reps (cfg B cs) (hid H O) vs ds) : Reps (cfg B cs') (hid H' O') vs ds := (r.more x.cs).mono x.ex

/-! ### expressions -/
abbrev MG := E → Ce → Option ((D × Fl) × Ce)
abbrev AfterE (B : Cfg) (cs : List Addr) (H0 : Hp) (O0 O : List Addr) (H : Hp) (σ : L2.St) (ρ : E) (κ' : Ce) (r : D × Fl) (Q : VK) : Prop :=
  ∀ v cs' O0' O' Hm H', GX H0 cs O0 O H cs' O0' O' Hm → GS B cs' H0 O0' O' Hm σ ρ κ' → Ex Hm H' → Res (cfg B cs') O0' O' Hm H' v r → Q v H'
def SndE (B : Cfg) (te : TE) (m : MG) : Prop := ∀ cs H0 O0 O H σ ρ κ r κ', GS B cs H0 O0 O H σ ρ κ → m ρ κ = some (r, κ') → ∀ Q : VK, AfterE B cs H0 O0 O H σ ρ κ' r Q → te σ H Q
structure GE (B : Cfg) (X : Cx) (e : Expr) (te : TE) (m : MG) : Prop where
  pe : PE X e te
  sd : SndE B te m
abbrev BG := E → Ce → Option (Bool × Ce)
def SndB (B : Cfg) (tt : TT) (m : BG) : Prop := ∀ cs H0 O0 O H σ ρ κ r κ', GS B cs H0 O0 O H σ ρ κ → m ρ κ = some (r, κ') → ∀ Q : Bool → Hp → Prop,
  (∀ cs' O0' O' H', GX H0 cs O0 O H cs' O0' O' H' → GS B cs' H0 O0' O' H' σ ρ κ' → Q r H') → tt σ H Q
structure GT (B : Cfg) (X : Cx) (e : Expr) (tt : TT) (m : BG) : Prop where
  pt : PT X e tt
  sd : SndB B tt m
/-- arguments, each of them shared -/
abbrev AG := E → Ce → Option (List D × Ce)
def SndAg (B : Cfg) (ta : TA) (m : AG) : Prop := ∀ cs H0 O0 O H σ ρ κ ds κ', GS B cs H0 O0 O H σ ρ κ → m ρ κ = some (ds, κ') → ∀ Q : List V → Hp → Prop,
  (∀ vs cs' O0' O' H', GX H0 cs O0 O H cs' O0' O' H' → GS B cs' H0 O0' O' H' σ ρ κ' → Reps (cfg B cs') (hid H' O') vs ds → Q vs H') → ta σ H Q
structure GA (B : Cfg) (X : Cx) (es : List Expr) (ta : TA) (m : AG) : Prop where
  pa : PA X es ta
  sd : SndAg B ta m
end

section
variable {B : Cfg} {X : Cx} {a b c e : Expr} {es : List Expr} {ta tb tc te : TE} {t : TA} {pos p : Pos}
/-- an old expression -/
def gL (m : M) : MG := fun ρ κ => (m ρ).map fun r => (r, κ)
def exT (te : List Addr → TE) : TE := fun σ H Q => ∃ cs, te cs σ H Q
theorem pe_exT {te : List Addr → TE} (h : ∀ cs, PE X e (te cs)) : PE X e (exT te) := ⟨fun pins s σ H Q I ⟨cs, q⟩ => (h cs).run pins s σ H Q I q⟩
theorem ge_L {te : List Addr → TE} {m : M} (h : ∀ cs, DE (cfg B cs) X e (te cs) m) : GE B X e (exT te) (gL m) := by
  refine ⟨pe_exT fun cs => (h cs).pe, fun cs H0 O0 O H σ ρ κ r κ' s hm Q q => ⟨cs, ?_⟩⟩
  unfold gL at hm
  cases em : m ρ with
  | none => rw [em] at hm; cases hm
  | some r' =>
    rw [em] at hm; cases hm
    exact (h cs).sd _ _ _ _ _ _ s.toSV em _ fun v H' e' r' => q v cs O0 O H H' .refl s e' r'
/-- .. with some slots' numbered lists read as if they were owned -/
def opn1 (k : Nat) (used : List Nat) (ρ : E) (κ : Ce) : Option (Nat × E) := match ρ[k]? with
  | some (some (.hol n, false)) => if n ∈ used then none else (κ[n]?).map fun ds => (n, ρ.set k (some (.lst ds, true)))
  | _ => none
def opn : List Nat → List Nat → E → Ce → Option E
  | [], _, ρ, _ => some ρ
  | k :: ks, used, ρ, κ => (opn1 k used ρ κ).bind fun p => opn ks (p.1 :: used) p.2 κ
def gO (ks : List Nat) (m : M) : MG := fun ρ κ => (opn ks [] ρ κ).bind fun ρ' => (m ρ').bind fun r => if r.2 = .bor then none else some (r, κ)
theorem opn_sv {cs : List Addr} {O0 O : List Addr} {H : Hp} {σ : L2.St} {κ : Ce} (g : GC B cs O H κ) (c0 : ∀ a ∈ cs, a ∉ O0) :
    ∀ (ks used : List Nat) (ρ ρ' : E), (∀ n ∈ used, n < cs.length) → (∀ (i : Nat) (d : D) (a : Addr) (n : Nat), ρ[i]? = some (some (d, true)) → σ[i]? = some (some (.ref a)) → cs[n]? = some a → n ∈ used) → opn ks used ρ κ = some ρ' → SV (cfg B cs) O0 O H σ ρ → SV (cfg B cs) O0 O H σ ρ'
  | [], used, ρ, ρ', hu, hi, h, s => by cases h; exact s
  | k :: ks, used, ρ, ρ', hu, hi, h, s => by
    obtain ⟨⟨n, ρ1⟩, h1, h2⟩ := bind2 h
    unfold opn1 at h1
    split at h1
    · rename_i n' ek
      split at h1
      · cases h1
      · rename_i hn
        cases eκ : κ[n']? with
        | none => rw [eκ] at h1; cases h1
        | some ds =>
          rw [eκ] at h1; cases h1
          obtain ⟨a, xs, q1, q2, q3, q4⟩ := g.cell eκ
          have hk : k < ρ.length := (List.getElem?_eq_some_iff.mp ek).1
          obtain ⟨v, e1, r1⟩ := s.sh _ _ ek
          cases r1 with
          | hol r1 =>
            have : cs[n]? = _ := r1
            rw [q1] at this; cases this
            have own : ∀ {j : Nat} {d : D}, j ≠ k → (ρ.set k (some (.lst ds, true)))[j]? = some (some (d, true)) → ρ[j]? = some (some (d, true)) := fun hj h => by rwa [List.getElem?_set_ne (Ne.symm hj)] at h
            refine opn_sv g c0 ks (n :: used) _ _ (fun m hm => ?_) (fun i d b m e2 e3 e4 => ?_) h2 ⟨by rw [List.length_set]; exact s.len, s.dom, s.sub, s.ll, fun i d e2 => ?_, fun i d e2 => ?_, fun i j d d' b e2 e3 e4 e5 => ?_⟩
            · rcases List.mem_cons.mp hm with rfl | hm
              · exact (List.getElem?_eq_some_iff.mp q1).1
              · exact hu m hm
            · by_cases hj : i = k
              · subst hj
                rw [e1] at e3; cases e3
                have := nodup_at g.nd e4 q1
                rw [this]; exact List.mem_cons_self
              · exact List.mem_cons_of_mem _ (hi i d b m (own hj e2) e3 e4)
            · by_cases hj : i = k
              · subst hj; rw [List.getElem?_set_self hk] at e2; cases e2
              · rw [List.getElem?_set_ne (Ne.symm hj)] at e2; exact s.sh i d e2
            · by_cases hj : i = k
              · subst hj
                rw [List.getElem?_set_self hk] at e2; cases e2
                exact ⟨_, _, _, rfl, e1, g.sub _ q2, c0 _ q2, q3, q4⟩
              · rw [List.getElem?_set_ne (Ne.symm hj)] at e2; exact s.ow i d e2
            · by_cases hj : i = k
              · by_cases hj' : j = k
                · rw [hj, hj']
                · exfalso
                  subst hj
                  rw [e1] at e4; cases e4
                  exact hn (hi j d' _ n (own hj' e3) e5 q1)
              · by_cases hj' : j = k
                · exfalso
                  subst hj'
                  rw [e1] at e5; cases e5
                  exact hn (hi i d _ n (own hj e2) e4 q1)
                · exact s.inj i j d d' b (own hj e2) (own hj' e3) e4 e5
    · cases h1
theorem ge_O (ks : List Nat) {te : List Addr → TE} {m : M} (h : ∀ cs, DE (cfg B cs) X e (te cs) m) : GE B X e (exT te) (gO ks m) := by
  refine ⟨pe_exT fun cs => (h cs).pe, fun cs H0 O0 O H σ ρ κ r κ' s hm Q q => ⟨cs, ?_⟩⟩
  obtain ⟨ρ', h1, hm⟩ := bind2 hm
  obtain ⟨r', h2, hm⟩ := bind2 hm
  split at hm
  · cases hm
  · rename_i hb
    cases hm
    let Oh := O0.filter fun a => decide (a ∉ cs)
    have hs : ∀ a ∈ Oh, a ∈ O0 := fun a h => (List.mem_filter.mp h).1
    have sv : SV (cfg B cs) Oh O H σ ρ := ⟨s.len, s.dom, fun a h => s.sub a (hs a h), fun a h1 h2 => by
        by_cases hc : a ∈ cs
        · obtain ⟨n, hn, rfl⟩ := List.getElem_of_mem hc
          have hk : n < κ.length := by rw [← s.gc.len]; exact hn
          obtain ⟨xs, e1, _⟩ := s.gc.at_ n _ _ (List.getElem?_eq_getElem hn) (List.getElem?_eq_getElem hk)
          exact ⟨xs, e1⟩
        · exact s.ll a h1 fun z => h2 (List.mem_filter.mpr ⟨z, by simpa using hc⟩), s.sh, fun i d e => by
        obtain ⟨b, xs, ds, q1, q2, q3, q4, q5⟩ := s.ow i d e
        exact ⟨b, xs, ds, q1, q2, q3, fun z => q4 (hs b z), q5⟩, s.inj⟩
    have sv' := opn_sv s.gc (fun a ha z => by have := (List.mem_filter.mp z).2; simp at this; exact this ha) ks [] ρ ρ' (fun n h => by cases h) (fun i d a n e1 e2 e3 => by
      obtain ⟨b, xs, ds, q1, q2, q3, q4, q5⟩ := s.ow i d e1
      rw [q2] at e2; cases e2
      exact absurd (s.c0 _ (List.mem_iff_getElem?.mpr ⟨n, e3⟩)) q4) h1 sv
    refine (h cs).sd _ _ _ _ _ _ sv' h2 _ fun v H' e' r'' => q v cs O0 O H H' .refl s e' ?_
    cases r'' with
    | pure w => exact .pure w
    | fresh g1 g2 g3 => exact .fresh g1 g2 g3
    | bor g1 g2 g3 g4 => exact absurd rfl hb
end
end Dt

set_option maxRecDepth 100000
namespace Dt
open PySem PySem.Spec PyProof.Rows L2
open Evl (Ex)
section
variable {B : Cfg} {X : Cx} {K : PySem.W.Frag} {a b c e o : Expr} {es : List Expr} {ta tb tc te to : TE} {ma mb me mo : MG} {ts : TA} {na : AG} {pos p apos cpos : Pos} {x : Str}
theorem GS.co {cs : List Addr} {H0 H : Hp} {O0 O : List Addr} {σ : L2.St} {ρ : E} {κ : Ce} (s : GS B cs H0 O0 O H σ ρ κ) : Co O0 O H := s.toSV.co
/-- operators; the first value is not a list of one's own -/
def gOp (f : F2) (ma mb : MG) : MG := fun ρ κ => (ma ρ κ).bind fun p => if p.1.2 = .pure then (mb ρ p.2).bind fun q => (f p.1 q.1).map fun r => (r, q.2) else none
theorem snd_opG {r : R2} {f : F2} (hv : ∀ cs, VR (cfg B cs) r f) (ha : SndE B ta ma) (hb : SndE B tb mb) : SndE B (tOp r ta tb) (gOp f ma mb) := by
  intro cs H0 O0 O H σ ρ κ rz κ' s h Q q
  obtain ⟨⟨⟨d1, f1⟩, κ1⟩, e1, h⟩ := bind2 h
  split at h
  · rename_i hp
    replace hp : f1 = .pure := hp
    subst hp
    obtain ⟨⟨ry, κ2⟩, e2, h⟩ := bind2 h
    cases ef : f (d1, .pure) ry with
    | none => rw [ef] at h; cases h
    | some rz' =>
      rw [ef] at h; cases h
      refine ha _ _ _ _ _ _ _ _ _ _ s e1 _ fun v cs1 O01 O1 Hm1 H1 x1 s1 y1 r1 => ?_
      refine hb _ _ _ _ _ _ _ _ _ _ (s1.mono y1) e2 _ fun w cs2 O02 O2 Hm2 H2 x2 s2 y2 r2 => ?_
      have r1' : Rep (cfg B cs1) (hid H1 O1) v d1 := by cases r1 with | pure w => exact w
      have g1 : Res (cfg B cs2) O02 O2 Hm2 H2 v (d1, .pure) := .pure ((x2.rep r1').mono (hid_mono y2))
      exact hv cs2 _ _ _ _ _ _ _ _ _ s2.co (s2.mono y2).co y2 g1 r2 ef Q fun z H3 y3 r3 => q z _ _ _ _ _ ((x1.end_ y1).trans x2) s2 (y2.trans y3) r3
  · cases h
theorem ge_bin {op : Operator} {r : R2} {f : F2} (ho : OpR X (binaryOp op) r) (hv : ∀ cs, VR (cfg B cs) r f) (ha : GE B X a ta ma) (hb : GE B X b tb mb) : GE B X (.BinOp a op b pos) (tOp r ta tb) (gOp f ma mb) := ⟨pe_op ho ha.pe hb.pe, snd_opG hv ha.sd hb.sd⟩
theorem ge_cmp {op : CmpOp} {r : R2} {f : F2} (ho : OpR X (compareOp op) r) (hv : ∀ cs, VR (cfg B cs) r f) (ha : GE B X a ta ma) (hb : GE B X b tb mb) (hm : behindInMarks op b = false := by first | exact nobehind _ (by decide) (by decide) | rfl) : GE B X (.Compare a [op] [b] pos) (tOp r ta tb) (gOp f ma mb) :=
  ⟨pe_cmpR ho ha.pe hb.pe hm, snd_opG hv ha.sd hb.sd⟩
def gB (m : MG) : BG := fun ρ κ => (m ρ κ).bind fun p => match p.1.1 with | .bl k => some (k, p.2) | _ => none
theorem snd_testG (h : SndE B ta ma) : SndB B (fun σ H Q => ta σ H fun x H' => ∃ k, x = .bl k ∧ Q k H') (gB ma) := by
  intro cs H0 O0 O H σ ρ κ k κ' s hm Q q
  obtain ⟨⟨⟨d, fl⟩, κ1⟩, e1, hm⟩ := bind2 hm
  cases d with
  | bl k' =>
    cases hm
    exact h _ _ _ _ _ _ _ _ _ _ s e1 _ fun v cs1 O01 O1 Hm1 H1 x1 s1 y1 r1 => ⟨k, r1.blE, q _ _ _ _ (x1.end_ y1) (s1.mono y1)⟩
  | _ => cases hm
theorem gt_cmp {op : CmpOp} {r : R2} {f : F2} (ho : OpR X (compareOp op) r) (hv : ∀ cs, VR (cfg B cs) r f) (ha : GE B X a ta ma) (hb : GE B X b tb mb) (hm : behindInMarks op b = false := by first | exact nobehind _ (by decide) (by decide) | rfl) : GT B X (.Compare a [op] [b] pos) (tTest (tOp r ta tb)) (gB (gOp f ma mb)) :=
  ⟨pt_cmpR ho ha.pe hb.pe hm, snd_testG (snd_opG hv ha.sd hb.sd)⟩
theorem gt_val (h : GE B X a ta ma) (he : ∀ whole, isTrue a X.env whole = (do let v ← whole; standAt a.pos; holding [v] (truthy v)) := by intro _; rfl) : GT B X a (tB ta) (gB ma) := ⟨pt_val h.pe he, snd_testG h.sd⟩
def gNot (m : BG) : BG := fun ρ κ => (m ρ κ).map fun p => (!p.1, p.2)
theorem gt_not {tA : TT} {bA : BG} (h : GT B X a tA bA) : GT B X (.UnaryOp .Not a pos) (tNot tA) (gNot bA) := by
  refine ⟨pt_not h.pt, fun cs H0 O0 O H σ ρ κ k κ' s hm Q q => ?_⟩
  unfold gNot at hm
  cases e1 : bA ρ κ with
  | none => rw [e1] at hm; cases hm
  | some p => rw [e1] at hm; cases hm; exact h.sd _ _ _ _ _ _ _ _ _ _ s e1 _ q
/-- an old test -/
def exTT (te : List Addr → TT) : TT := fun σ H Q => ∃ cs, te cs σ H Q
theorem pt_exT {te : List Addr → TT} (h : ∀ cs, PT X e (te cs)) : PT X e (exTT te) := ⟨fun pins s σ H Q I ⟨cs, q⟩ => (h cs).run pins s σ H Q I q⟩
def bL (m : Dt.B) : BG := fun ρ κ => (m ρ).map fun k => (k, κ)
theorem gt_L {te : List Addr → TT} {m : Dt.B} (h : ∀ cs, DT (cfg B cs) X e (te cs) m) : GT B X e (exTT te) (bL m) := by
  refine ⟨pt_exT fun cs => (h cs).pt, fun cs H0 O0 O H σ ρ κ r κ' s hm Q q => ⟨cs, ?_⟩⟩
  unfold bL at hm
  cases em : m ρ with
  | none => rw [em] at hm; cases hm
  | some k => rw [em] at hm; cases hm; exact (h cs).sd _ _ _ _ _ _ s.toSV em _ fun H' e' => q _ _ _ _ (.of_ex e') (s.mono e')
structure GW (B : Cfg) (X : Cx) (e : Expr) (tt : TT) (m : BG) : Prop where
  pw : PW X e tt
  sd : SndB B tt m
theorem GW.t {tA : TT} {bA : BG} (h : GW B X a tA bA) : GT B X a tA bA := ⟨h.pw.pt, h.sd⟩
def gAnd (m n : BG) : BG := fun ρ κ => (m ρ κ).bind fun p => if p.1 then n ρ p.2 else some (false, p.2)
def gOr (m n : BG) : BG := fun ρ κ => (m ρ κ).bind fun p => if p.1 then some (true, p.2) else n ρ p.2
variable {tA tB' : TT} {bA bB : BG} {rest : List Expr}
theorem gw_and1 (h : GT B X a tA bA) : GW B X (.BoolOp .And [a] pos) tA bA := ⟨pw_and1 h.pt, h.sd⟩
theorem gw_or1 (h : GT B X a tA bA) : GW B X (.BoolOp .Or [a] pos) tA bA := ⟨pw_or1 h.pt, h.sd⟩
theorem gw_and (ha : GT B X a tA bA) (hb : GW B X (.BoolOp .And (b :: rest) pos) tB' bB) : GW B X (.BoolOp .And (a :: b :: rest) pos) (tAnd tA tB') (gAnd bA bB) := by
  refine ⟨pw_and ha.pt hb.pw, fun cs H0 O0 O H σ ρ κ k κ' s hm Q q => ?_⟩
  obtain ⟨⟨k1, κ1⟩, e1, hm⟩ := bind2 hm
  refine ha.sd _ _ _ _ _ _ _ _ _ _ s e1 _ fun cs1 O01 O1 H1 x1 s1 => ?_
  cases k1 with
  | true => exact hb.sd _ _ _ _ _ _ _ _ _ _ s1 hm _ fun cs2 O02 O2 H2 x2 s2 => q _ _ _ _ (x1.trans x2) s2
  | false => cases hm; exact q _ _ _ _ x1 s1
theorem gw_or (ha : GT B X a tA bA) (hb : GW B X (.BoolOp .Or (b :: rest) pos) tB' bB) : GW B X (.BoolOp .Or (a :: b :: rest) pos) (tOr tA tB') (gOr bA bB) := by
  refine ⟨pw_or ha.pt hb.pw, fun cs H0 O0 O H σ ρ κ k κ' s hm Q q => ?_⟩
  obtain ⟨⟨k1, κ1⟩, e1, hm⟩ := bind2 hm
  refine ha.sd _ _ _ _ _ _ _ _ _ _ s e1 _ fun cs1 O01 O1 H1 x1 s1 => ?_
  cases k1 with
  | true => cases hm; exact q _ _ _ _ x1 s1
  | false => exact hb.sd _ _ _ _ _ _ _ _ _ _ s1 hm _ fun cs2 O02 O2 H2 x2 s2 => q _ _ _ _ (x1.trans x2) s2

/-! arguments -/
def agNil : AG := fun _ κ => some ([], κ)
def agCons (m : MG) (n : AG) : AG := fun ρ κ => (m ρ κ).bind fun p => if p.1.2 = .bor then none else (n ρ p.2).map fun q => (p.1.1 :: q.1, q.2)
theorem ga_nil : GA B X [] tNil agNil := ⟨pa_nil, fun cs H0 O0 O H σ ρ κ ds κ' s h Q q => by cases h; exact q _ _ _ _ _ .refl s .nil⟩
theorem ga_cons {tr : TA} {n : AG} (ha : GE B X a ta ma) (hr : GA B X es tr n) (hs : starEach (a :: es) X.env = (false, eval a X.env) :: starEach es X.env := by rfl) : GA B X (a :: es) (tCons ta tr) (agCons ma n) := by
  refine ⟨pa_cons ha.pe hr.pa hs, fun cs H0 O0 O H σ ρ κ ds κ' s h Q q => ?_⟩
  obtain ⟨⟨⟨d, fl⟩, κ1⟩, e1, h⟩ := bind2 h
  split at h
  · cases h
  · rename_i hb
    cases e2 : n ρ κ1 with
    | none => rw [e2] at h; cases h
    | some p2 =>
      rw [e2] at h; cases h
      refine ha.sd _ _ _ _ _ _ _ _ _ _ s e1 _ fun v cs1 O01 O1 Hm1 H1 x1 s1 y1 r1 => ?_
      have r1' := r1.sharedF s1.dom hb
      exact hr.sd _ _ _ _ _ _ _ _ _ _ (s1.mono y1) e2 _ fun vs cs2 O02 O2 H2 x2 s2 r2 => q _ _ _ _ _ ((x1.end_ y1).trans x2) s2 (.cons (x2.rep r1') r2)
theorem ress_of {C : Cfg} {O0 O : List Addr} {H H' : Hp} {vs : List V} {ds : List D} (r : Reps C (hid H' O) vs ds) : Ress C O0 O H H' vs (ds.map fun d => (d, .pure)) := by
  induction ds generalizing vs with
  | nil => cases r; exact .nil
  | cons d ds ih => cases r with | cons h1 h2 => exact .cons (.pure h1) (ih h2)
/-- built-in functions by values -/
def gFn (f : FN) (n : AG) : MG := fun ρ κ => (n ρ κ).bind fun p => (f (p.1.map fun d => (d, .pure))).map fun r => (r, p.2)
theorem snd_fnG {r : List V → Hp → VK → Prop} {f : FN} (hv : ∀ cs, VC (cfg B cs) r f) (ha : SndAg B ts na) : SndE B (tCB r ts) (gFn f na) := by
  intro cs H0 O0 O H σ ρ κ rz κ' s h Q q
  obtain ⟨⟨ds, κ1⟩, e1, h⟩ := bind2 h
  cases ef : f (ds.map fun d => (d, .pure)) with
  | none => simp only [ef] at h; cases h
  | some rz' =>
    simp only [ef] at h; cases h
    refine ha _ _ _ _ _ _ _ _ _ _ s e1 _ fun vs cs1 O01 O1 H1 x1 s1 r1 => ?_
    exact hv cs1 _ _ _ _ _ _ _ s1.co s1.co (Evl.Ex.refl _) (ress_of r1) ef Q fun v H2 y2 r2 => q v _ _ _ _ _ x1 s1 y2 r2
/-! displays -/
def gTup (n : AG) : MG := fun ρ κ => (n ρ κ).bind fun p => if p.1.length ≤ lim then some ((.tup p.1, .pure), p.2) else none
def gLst (n : AG) : MG := fun ρ κ => (n ρ κ).bind fun p => if p.1.length ≤ lim then some ((.lst p.1, .fresh), p.2) else none
theorem ge_tup {x1} (h : GA B X es ts na) : GE B X (.Tuple es x1 pos) (tTupN ts) (gTup na) := by
  refine ⟨peN_tup h.pa, fun cs H0 O0 O H σ ρ κ r κ' s hm Q q => ?_⟩
  obtain ⟨⟨ds, κ1⟩, e1, hm⟩ := bind2 hm
  split at hm
  · rename_i hk
    cases hm
    refine h.sd _ _ _ _ _ _ _ _ _ _ s e1 _ fun vs cs1 O01 O1 H1 x1 s1 r1 => ⟨lim_line (by rw [r1.length]; exact hk), fun p ob hp hd => ?_⟩
    exact q _ _ _ _ _ _ x1 s1 (Evl.Ex.new hp) (res_tup s1.co hp hd r1)
  · cases hm
theorem ge_lst (h : GA B X es ts na) : GE B X (.List es pos) (tLst ts) (gLst na) := by
  refine ⟨pe_lst h.pa, fun cs H0 O0 O H σ ρ κ r κ' s hm Q q => ?_⟩
  obtain ⟨⟨ds, κ1⟩, e1, hm⟩ := bind2 hm
  split at hm
  · rename_i hk
    cases hm
    refine h.sd _ _ _ _ _ _ _ _ _ _ s e1 _ fun vs cs1 O01 O1 H1 x1 s1 r1 => ⟨lim_line (by rw [r1.length]; exact hk), fun p hp => ?_⟩
    exact q _ _ _ _ _ _ x1 s1 (Evl.Ex.new hp) (res_lst (Evl.Ex.refl _) hp r1)
  · cases hm
/-! subscripts -/
def gIdxF (κ : Ce) : F2 := fun x y => match x.1, y.1 with
  | .hol n, .int i => (κ[n]?).bind fun ds => (atI ds i).map fun d => (d, .pure)
  | _, _ => fIx x y
def gIdx (ma mb : MG) : MG := fun ρ κ => (ma ρ κ).bind fun p => if p.1.2 = .pure then (mb ρ p.2).bind fun q => (gIdxF q.2 p.1 q.1).map fun r => (r, q.2) else none
theorem ge_ix (hK : X.K = B.K) (ha : GE B X a ta ma) (hb : GE B X b tb mb) (hs : PlainIx b := by exact fun _ _ => rfl) : GE B X (.Subscript a b pos) (tOp (fun x y H Q => rIxL B.K x y H Q ∨ rIxT B.K x y H Q) ta tb) (gIdx ma mb) := by
  rw [← hK]
  refine ⟨pe_ix (ix_list.or ix_tup) ha.pe hb.pe hs, fun cs H0 O0 O H σ ρ κ rz κ' s h Q q => ?_⟩
  rw [hK]
  obtain ⟨⟨⟨d1, f1⟩, κ1⟩, e1, h⟩ := bind2 h
  split at h
  · rename_i hp
    replace hp : f1 = .pure := hp
    subst hp
    obtain ⟨⟨ry, κ2⟩, e2, h⟩ := bind2 h
    cases ef : gIdxF κ2 (d1, .pure) ry with
    | none => simp only [ef] at h; cases h
    | some rz' =>
      simp only [ef] at h; cases h
      refine ha.sd _ _ _ _ _ _ _ _ _ _ s e1 _ fun v cs1 O01 O1 Hm1 H1 x1 s1 y1 r1 => ?_
      refine hb.sd _ _ _ _ _ _ _ _ _ _ (s1.mono y1) e2 _ fun w cs2 O02 O2 Hm2 H2 x2 s2 y2 r2 => ?_
      have r1' : Rep (cfg B cs1) (hid H1 O1) v d1 := by cases r1 with | pure w => exact w
      have r1'' := (x2.rep r1').mono (hid_mono (O := O2) y2)
      have g1 : Res (cfg B cs2) O02 O2 Hm2 H2 v (d1, .pure) := .pure r1''
      have fin : ∀ z H3, Ex H2 H3 → Res (cfg B cs2) O02 O2 Hm2 H3 z rz → Q z H3 := fun z H3 y3 r3 => q z _ _ _ _ _ ((x1.end_ y1).trans x2) s2 (y2.trans y3) r3
      unfold gIdxF at ef
      split at ef
      · rename_i n i q1 q2
        simp only at q1; subst q1
        obtain ⟨ds, eκ, ef⟩ := bind2 ef
        cases ea : atI ds i with
        | none => rw [ea] at ef; cases ef
        | some d =>
          rw [ea] at ef; cases ef
          obtain ⟨a, xs, c1, c2, c3, c4⟩ := (s2.mono y2).gc.cell eκ
          cases r1'' with
          | hol hc =>
            have : cs2[n]? = _ := hc
            rw [c1] at this; cases this
            obtain ⟨dy, fy⟩ := ry
            simp only at q2; subst q2
            cases r2.intE
            obtain ⟨v', e3, r3⟩ := atI_reps c4 ea
            exact .inl ⟨_, xs, i, v', rfl, rfl, .inl (.inl c3), e3, fin _ _ (Evl.Ex.refl _) (.pure r3)⟩
      · exact vr_ix (C := cfg B cs2) rfl _ _ _ _ _ _ _ _ _ s2.co (s2.mono y2).co y2 g1 r2 ef Q fin
  · cases h
/-! ### defs -/
abbrev FG := List D → Ce → Option (D × Bool × Ce)
def rmH (H : Hp) (cs : List Addr) : Hp := fun a => if a ∈ cs then none else H a
def spG (B : Cfg) (n : Nat) (F : FG) : Sp := fun vs H Q _ => ∃ cs O ds κ d fr κ', vs.length = n ∧ (∀ a ∈ O, H a ≠ none) ∧ GC B cs O H κ ∧ Reps (cfg B cs) (hid H O) vs ds ∧ F ds κ = some (d, fr, κ') ∧
  ∀ v cs' O' Hm H', cs <+: cs' → Ex (rmH H cs) Hm → (∀ a ∈ O, a ∈ O') → (∀ a ∈ O', a ∈ O ∨ H a = none) → (∀ a ∈ cs', a ∈ cs ∨ H a = none) → (∀ a ∈ O', Hm a ≠ none) → GC B cs' O' Hm κ' → Ex Hm H' → Res (cfg B cs') O' O' Hm H' v (d, if fr then .fresh else .pure) → Q v H'
def gCall (F : FG) (n : AG) : MG := fun ρ κ => (n ρ κ).bind fun p => (F p.1 p.2).map fun r => ((r.1, if r.2.1 then .fresh else .pure), r.2.2)
theorem ge_ret {cs : List Addr} {H0 H : Hp} {O0 O : List Addr} {σ : L2.St} {ρ : E} {κ κ' : Ce} {F : FG} {vs : List V} {ds : List D} {r : D × Fl} {N : Nat} {Q : VK} {E : XK} (s : GS B cs H0 O0 O H σ ρ κ) (rr : Reps (cfg B cs) (hid H O) vs ds) (hl : ds.length = N)
    (h : (F ds κ).map (fun r => (((r.1, if r.2.1 then .fresh else .pure) : D × Fl), r.2.2)) = some (r, κ')) (q : AfterE B cs H0 O0 O H σ ρ κ' r Q) : spG B N F vs H Q E := by
  cases eF : F ds κ with
  | none => rw [eF] at h; cases h
  | some p =>
    obtain ⟨d, fr, κ1⟩ := p
    rw [eF] at h; cases h
    refine ⟨cs, O, ds, κ, d, fr, _, by rw [rr.length, hl], s.dom, s.gc, rr, eF, fun v cs' O' Hm H' p1 p2 p3 p4 p5 p6 p7 p8 p9 => ?_⟩
    have nc : ∀ a, a ∉ O0 → a ∉ cs := fun a h z => h (s.c0 a z)
    have keep : ∀ a u, a ∉ cs → H a = some u → Hm a = some u := fun a u h1 h2 => p2 a u (by unfold rmH; rw [if_neg h1]; exact h2)
    let O0' := O0 ++ O'.filter fun a => decide (a ∉ O)
    have m0 : ∀ a, a ∈ O0' ↔ a ∈ O0 ∨ (a ∈ O' ∧ a ∉ O) := fun a => by simp [O0']
    have ex : Ex (hid H O) (hid Hm O') := fun a u h => by
      unfold hid at h ⊢
      split at h
      · cases h
      · rename_i ha
        have ha' : a ∉ O' := fun z => (p4 a z).elim ha fun w => by rw [w] at h; cases h
        rw [if_neg ha']
        exact keep a u (fun z => ha (s.gc.sub a z)) h
    have h0n : ∀ a, H a = none → H0 a = none := fun a h => Evl.fresh_back s.base h
    have gx : GX H0 cs O0 O H cs' O0' O' Hm := ⟨p1, ex, fun a h => (m0 a).mpr (.inl h), fun a h => ((m0 a).mp h).imp id fun z => h0n a ((p4 a z.1).resolve_left z.2)⟩
    have own : ∀ a, a ∈ O → a ∉ O0 → a ∉ O0' := fun a h1 h2 h3 => ((m0 a).mp h3).elim h2 fun z => z.2 h1
    have sv : SV (cfg B cs') O0' O' Hm σ ρ := ⟨s.len, p6, fun a h => ((m0 a).mp h).elim (fun z => p3 a (s.sub a z)) (·.1), fun a h1 h2 => by
        by_cases ha : a ∈ O
        · have ha0 : a ∉ O0 := fun z => h2 ((m0 a).mpr (.inl z))
          obtain ⟨xs, e⟩ := s.ll a ha ha0
          exact ⟨xs, keep a _ (nc a ha0) e⟩
        · exact absurd ((m0 a).mpr (.inr ⟨h1, ha⟩)) h2, fun i d e => by
        obtain ⟨v, e1, r1⟩ := s.sh i d e
        exact ⟨v, e1, gx.rep r1⟩, fun i d e => by
        obtain ⟨a, xs, ds, g0, g1, g2, g3, g4, g5⟩ := s.ow i d e
        exact ⟨a, xs, ds, g0, g1, p3 a g2, own a g2 g3, keep a _ (nc a g3) g4, gx.reps g5⟩, s.inj⟩
    have base' : Ex H0 Hm := fun a u h => by
      refine keep a u (fun z => ?_) (s.base a u h)
      rw [s.h0 a z] at h; cases h
    have gs : GS B cs' H0 O0' O' Hm σ ρ κ1 := ⟨⟨sv, base', fun a h1 h2 => by
        by_cases ha : a ∈ O
        · exact s.new a ha fun z => h2 ((m0 a).mpr (.inl z))
        · exact absurd ((m0 a).mpr (.inr ⟨h1, ha⟩)) h2⟩, p7, fun a h => by
        rcases p5 a h with z | z
        · exact (m0 a).mpr (.inl (s.c0 a z))
        · refine (m0 a).mpr (.inr ⟨p7.sub a h, fun w => s.dom a w z⟩), fun a h => (p5 a h).elim (s.h0 a) (h0n a)⟩
    refine q v cs' O0' O' Hm H' gx gs p8 ?_
    show Res (cfg B cs') O0' O' Hm H' v (d, if fr then .fresh else .pure)
    generalize hfl : (if fr then Fl.fresh else Fl.pure) = fl at p9 ⊢
    cases p9 with
    | pure w => exact .pure w
    | fresh h1 h2 h3 => exact .fresh h1 h2 h3
    | bor h1 h2 h3 h4 => exact absurd h1 h2
theorem snd_callG {F : FG} {ta : TA} {na : AG} {N : Nat} (ha : SndAg B ta na) (hl : ∀ ρ κ r, na ρ κ = some r → r.1.length = N) : SndE B (tCall (spG B N F) [] E0 ta) (gCall F na) := by
  intro cs H0 O0 O H σ ρ κ r κ' s h Q q
  obtain ⟨⟨ds, κ1⟩, e1, h⟩ := bind2 h
  refine ha _ _ _ _ _ _ _ _ _ _ s e1 _ fun vs cs1 O01 O1 H1 x1 s1 rr => ?_
  rw [List.append_nil]
  exact ge_ret s1 rr (hl _ _ _ e1) h fun v cs2 O02 O2 Hm H2 x2 s2 y2 r2 => q v cs2 O02 O2 Hm H2 (x1.trans x2) s2 y2 r2
theorem agNil_len : ∀ ρ κ r, agNil ρ κ = some r → r.1.length = 0 := fun _ _ _ h => by cases h; rfl
theorem agCons_len {m : MG} {n : AG} {N : Nat} (h : ∀ ρ κ r, n ρ κ = some r → r.1.length = N) : ∀ ρ κ r, agCons m n ρ κ = some r → r.1.length = N + 1 := fun ρ κ r hh => by
  unfold agCons at hh
  obtain ⟨p, _, hh⟩ := bind2 hh
  split at hh
  · cases hh
  · cases e : n ρ p.2 with
    | none => rw [e] at hh; cases hh
    | some q => rw [e] at hh; cases hh; simp [h _ _ _ e]
theorem ge_call {k N : Nat} {f : Addr} {fd : FuncData} {ps : List Str} {F : FG} {x : Str} {p pos : Pos} {e : Expr} {es : List Expr} {ta : TA} {na : AG} (G : FnOk X.prog X.w X.K X.mg X.base CX0 k f fd ps (spG B N F)) (hr : Room k X.A) (hm : X.mg x = some (.ref f)) (hk : PySem.W.keepIn X.K (.ref f) = true) (hb : Binds X.K fd ps [])
    (ha : GA B X (e :: es) ta na) (hl : ∀ ρ κ r, na ρ κ = some r → r.1.length = N) (hg : Gl X x := by rfl) (hdb : (x == ("__debug__" : Str)) = false := by decide) (he : starEach (e :: es) X.env = (false, eval e X.env) :: starEach es X.env := by rfl) (hpl : (backTo pos (starEach es X.env)).any (·.1) = false := by rfl) :
    GE B X (.Call (.Name x p) (e :: es) [] pos) (tCall (spG B N F) [] E0 ta) (gCall F na) := ⟨pe_call G hr hg hm hk hb .nil pass0 ha.pa hdb he hpl, snd_callG ha.sd hl⟩
end
end Dt

set_option maxRecDepth 100000
namespace Dt
open PySem PySem.Spec PyProof.Rows L2
open Evl (Ex)
section
variable {B : Cfg} {X : Cx} {K : PySem.W.Frag} {a b c e o : Expr} {es : List Expr} {ta tb tc te to : TE} {ma mb me mo : MG} {ts : TA} {na : AG} {pos p apos cpos : Pos} {x : Str}
variable {cs : List Addr} {H0 H H' Hm : Hp} {O0 O : List Addr} {σ : L2.St} {ρ : E} {κ : Ce}
/-- a numbered list changes -/
theorem GS.write {n : Nat} {a : Addr} {xs : List V} {ds : List D} (s : GS B cs H0 O0 O H σ ρ κ) (hn : cs[n]? = some a) (r : Reps (cfg B cs) (hid H O) xs ds) : GS B cs H0 O0 O (upd H a (.lst xs)) σ ρ (κ.set n ds) := by
  have hm : a ∈ cs := List.mem_iff_getElem?.mpr ⟨n, hn⟩
  have hO0 := s.c0 a hm
  have hO := s.gc.sub a hm
  have hh : hid (upd H a (.lst xs)) O = hid H O := hid_upd hO
  have hnl : n < cs.length := (List.getElem?_eq_some_iff.mp hn).1
  refine ⟨⟨⟨s.len, fun b hb => ?_, s.sub, fun b h1 h2 => ?_, fun i d h => ?_, fun i d h => ?_, s.inj⟩, fun b u h => ?_, s.new⟩, ⟨by rw [List.length_set]; exact s.gc.len, s.gc.nd, s.gc.sub, fun m b es h1 h2 => ?_⟩, s.c0, s.h0⟩
  · by_cases hb' : b = a
    · subst hb'; rw [upd_same]; exact fun z => by cases z
    · rw [upd_ne hb']; exact s.dom b hb
  · have nb : b ≠ a := fun z => h2 (by rw [z]; exact hO0)
    rw [upd_ne nb]; exact s.ll b h1 h2
  · rw [hh]; exact s.sh i d h
  · obtain ⟨b, ys, es, q0, q1, q2, q3, q4, q5⟩ := s.ow i d h
    have nb : b ≠ a := fun z => q3 (by rw [z]; exact hO0)
    exact ⟨b, ys, es, q0, q1, q2, q3, by rw [upd_ne nb]; exact q4, by rw [hh]; exact q5⟩
  · have nb : b ≠ a := fun z => by subst z; rw [s.h0 _ hm] at h; cases h
    rw [upd_ne nb]; exact s.base b u h
  · rw [hh]
    by_cases hmn : n = m
    · subst hmn
      rw [hn] at h1; cases h1
      rw [List.getElem?_set_self (by rw [← s.gc.len]; exact hnl)] at h2; cases h2
      exact ⟨xs, upd_same, r⟩
    · rw [List.getElem?_set_ne hmn] at h2
      obtain ⟨ys, q1, q2⟩ := s.gc.at_ m b es h1 h2
      have nb : b ≠ a := fun z => hmn (nodup_at s.gc.nd hn (by rw [← z]; exact h1))
      exact ⟨ys, by rw [upd_ne nb]; exact q1, q2⟩
theorem GX.upd_ {a : Addr} {o : HO} (h : a ∈ O) : GX H0 cs O0 O H cs O0 O (upd H a o) := ⟨List.prefix_refl _, by rw [hid_upd h]; exact Evl.Ex.refl _, fun _ h => h, fun _ h => .inl h⟩
/-- a new list gets a number -/
theorem GS.cell {a : Addr} {xs : List V} {ds : List D} (s : GS B cs H0 O0 O Hm σ ρ κ) (e : Ex Hm H') (hn : Hm a = none) (ha : H' a = some (.lst xs)) (r : Reps (cfg B cs) (hid H' (a :: O)) xs ds) :
    GS B (cs ++ [a]) H0 (a :: O0) (a :: O) H' σ ρ (κ ++ [ds]) ∧ GX H0 cs O0 O Hm (cs ++ [a]) (a :: O0) (a :: O) H' ∧ (cs ++ [a])[κ.length]? = some a := by
  have hO : a ∉ O := fun z => s.dom a z hn
  have hcs : a ∉ cs := fun z => hO (s.gc.sub a z)
  have pre : cs <+: cs ++ [a] := ⟨[a], rfl⟩
  have ex : Ex (hid Hm O) (hid H' (a :: O)) := (hid_new hn).trans (hid_mono e)
  have s2 := s.toSV.hide hn e ha
  refine ⟨⟨⟨⟨s2.len, s2.dom, fun b hb => ?_, fun b h1 h2 => ?_, fun i d h => ?_, fun i d h => ?_, s2.inj⟩, s.base.trans e, fun b h1 h2 => ?_⟩, ⟨by simp [s.gc.len], ?_, fun b hb => ?_, fun n b es h1 h2 => ?_⟩, fun b hb => ?_, fun b hb => ?_⟩, ⟨pre, ex, fun b hb => List.mem_cons_of_mem _ hb, fun b hb => ?_⟩, ?_⟩
  · rcases List.mem_cons.mp hb with rfl | hb
    · exact List.mem_cons_self
    · exact List.mem_cons_of_mem _ (s.sub b hb)
  · exact s2.ll b h1 fun z => h2 (List.mem_cons_of_mem _ z)
  · obtain ⟨v, e1, r1⟩ := s2.sh i d h; exact ⟨v, e1, r1.more pre⟩
  · obtain ⟨b, ys, es, q0, q1, q2, q3, q4, q5⟩ := s.ow i d h
    refine ⟨b, ys, es, q0, q1, List.mem_cons_of_mem _ q2, fun z => ?_, e _ _ q4, (q5.more pre).mono ex⟩
    rcases List.mem_cons.mp z with rfl | z
    · exact hO q2
    · exact q3 z
  · have h3 : b ∉ O0 := fun z => h2 (List.mem_cons_of_mem _ z)
    rcases List.mem_cons.mp h1 with rfl | h1
    · exact absurd List.mem_cons_self h2
    · exact s.new b h1 h3
  · rw [List.nodup_append]
    refine ⟨s.gc.nd, by simp, fun x hx y hy => ?_⟩
    rw [List.mem_singleton] at hy
    exact fun z => hcs (by rw [← hy, ← z]; exact hx)
  · rcases List.mem_append.mp hb with hb | hb
    · exact List.mem_cons_of_mem _ (s.gc.sub b hb)
    · rw [List.mem_singleton] at hb; rw [hb]; exact List.mem_cons_self
  · by_cases hlt : n < cs.length
    · rw [List.getElem?_append_left hlt] at h1
      rw [List.getElem?_append_left (by rw [← s.gc.len]; exact hlt)] at h2
      obtain ⟨ys, q1, q2⟩ := s.gc.at_ n b es h1 h2
      exact ⟨ys, e _ _ q1, (q2.more pre).mono ex⟩
    · rw [List.getElem?_append_right (by omega)] at h1
      rw [List.getElem?_append_right (by rw [← s.gc.len]; omega)] at h2
      have hz : n - cs.length = 0 := by
        have := (List.getElem?_eq_some_iff.mp h1).1
        simp at this; omega
      rw [hz] at h1
      rw [← s.gc.len, hz] at h2
      cases h1; cases h2
      exact ⟨xs, ha, r.more pre⟩
  · rcases List.mem_append.mp hb with hb | hb
    · exact List.mem_cons_of_mem _ (s.c0 b hb)
    · rw [List.mem_singleton] at hb; rw [hb]; exact List.mem_cons_self
  · rcases List.mem_append.mp hb with hb | hb
    · exact s.h0 b hb
    · rw [List.mem_singleton] at hb; rw [hb]; exact Evl.fresh_back s.base hn
  · rcases List.mem_cons.mp hb with rfl | hb
    · exact .inr (Evl.fresh_back s.base hn)
    · exact .inl hb
  · rw [← s.gc.len, List.getElem?_append_right (Nat.le_refl _), Nat.sub_self]; rfl
/-- a fresh value gets a number, as an expression -/
def gNew (m : MG) : MG := fun ρ κ => (m ρ κ).bind fun p => match p.1 with
  | (.lst ds, .fresh) => some ((.hol p.2.length, .pure), p.2 ++ [ds])
  | _ => none
theorem ge_new (h : GE B X e te me) : GE B X e te (gNew me) := by
  refine ⟨h.pe, fun cs H0 O0 O H σ ρ κ r κ' s hm Q q => ?_⟩
  obtain ⟨⟨⟨d, fl⟩, κ1⟩, e1, hm⟩ := bind2 hm
  split at hm
  · rename_i ds q1
    cases q1
    cases hm
    refine h.sd _ _ _ _ _ _ _ _ _ _ s e1 _ fun v cs1 O01 O1 Hm1 H1 x1 s1 y1 r1 => ?_
    cases r1 with
    | fresh h1 h2 h3 =>
      obtain ⟨g1, g2, g3⟩ := s1.cell y1 h1 h2 h3
      exact q _ _ _ _ _ _ (x1.trans g2) g1 (Evl.Ex.refl _) (.pure (.hol g3))
  · cases hm
/-! ### methods of numbered lists -/
def MtOk (f : List D → List D → Option (D × List D)) (r : V → List V → Hp → VK → Prop) : Prop := ∀ (C : Cfg) (H' Hh : Hp) (a : Addr) (xs ys : List V) (cs ds : List D) (ret : D) (cs' : List D), Hh a = some (.lst xs) → Reps C H' xs cs → Reps C H' ys ds → f cs ds = some (ret, cs') →
  ∃ v xs', Reps C H' xs' cs' ∧ Rep C H' v ret ∧ ∀ Q : VK, Q v (upd Hh a (.lst xs')) → r (.ref a) ys Hh Q
def gMt (f : List D → List D → Option (D × List D)) (mo : MG) (n : AG) : MG := fun ρ κ => (mo ρ κ).bind fun p => match p.1 with
  | (.hol k, .pure) => (n ρ p.2).bind fun q => (q.2[k]?).bind fun cs => (f cs q.1).map fun r => ((r.1, .pure), q.2.set k r.2)
  | _ => none
theorem snd_mtG {f : List D → List D → Option (D × List D)} {r : V → List V → Hp → VK → Prop} (hr : MtOk f r) (ho : SndE B to mo) (ha : SndAg B ts na) : SndE B (fun σ H Q => to σ H fun x H1 => tyV K "list" x H1 ∧ ts σ H1 fun xs H2 => r x xs H2 Q) (gMt f mo na) := by
  intro cs H0 O0 O H σ ρ κ rz κ' s hm Q q
  obtain ⟨⟨⟨d, fl⟩, κ1⟩, e1, hm⟩ := bind2 hm
  split at hm
  · rename_i k q1
    cases q1
    obtain ⟨⟨ds, κ2⟩, e2, hm⟩ := bind2 hm
    obtain ⟨cl, e3, hm⟩ := bind2 hm
    cases ef : f cl ds with
    | none => simp only [ef] at hm; cases hm
    | some rr =>
      obtain ⟨ret, cl'⟩ := rr
      simp only [ef] at hm; cases hm
      refine ho _ _ _ _ _ _ _ _ _ _ s e1 _ fun v cs1 O01 O1 Hm1 H1 x1 s1 y1 r1 => ?_
      cases r1 with
      | pure r1 =>
        cases r1 with
        | @hol _ a hc =>
          replace hc : cs1[k]? = some a := hc
          have s1' := s1.mono y1
          have hk : k < κ1.length := by rw [← s1'.gc.len]; exact (List.getElem?_eq_some_iff.mp hc).1
          obtain ⟨xs1, c1, _⟩ := s1'.gc.at_ k a _ hc (List.getElem?_eq_getElem hk)
          refine ⟨.inl ⟨rfl, xs1, .inl (.inl c1)⟩, ?_⟩
          refine ha _ _ _ _ _ _ _ _ _ _ s1' e2 _ fun vs cs2 O02 O2 H2 x2 s2 r2 => ?_
          have hc2 : cs2[k]? = some a := pre_get x2.cs hc
          obtain ⟨xs2, c2, c3⟩ := s2.gc.at_ k a _ hc2 e3
          obtain ⟨v, xs', g1, g2, g3⟩ := hr _ _ _ a xs2 vs cl ds _ _ c2 c3 r2 ef
          have hO : a ∈ O2 := s2.gc.sub a (List.mem_iff_getElem?.mpr ⟨k, hc2⟩)
          refine g3 Q (q v cs2 O02 O2 _ _ ((x1.end_ y1).trans (x2.trans (GX.upd_ hO))) (s2.write hc2 g1) (Evl.Ex.refl _) (.pure ?_))
          rw [hid_upd hO]; exact g2
  · cases hm
theorem ge_mt {name : Str} {id : String} {f : List D → List D → Option (D × List D)} {r : V → List V → Hp → VK → Prop} (hr : MtOk f r) (pa : PlainAttrs "list") (slot : Slot "list" name id) (hty : typeOf (.builtin id) = pure (.type "method_descriptor")) (hm : MtR X id r) (ho : GE B X o to mo) (ha : GA B X (e :: es) ts na)
    (hbase : attributeBase o name X.env (eval o X.env) = eval o X.env := by rfl)
    (hfew : ((backTo cpos (starEach (e :: es) X.env)).all (fun x => !x.1) && (backToKw cpos (keywordEach [] X.env)).all (fun x => x.1.isSome)
      && decide ((e :: es).length + ([] : List Keyword).length + (if ([] : List Keyword).isEmpty then 0 else 1) < 30)) = true := by rfl)
    (hline : (apos.endLine == cpos.line) = true := by rfl) (hs : starEach (e :: es) X.env = (false, eval e X.env) :: starEach es X.env := by rfl) (hplain : (backTo cpos (starEach es X.env)).any (·.1) = false := by rfl) :
    GE B X (.Call (.Attribute o name apos) (e :: es) [] cpos) (tBM X.K "list" r to ts) (gMt f mo na) :=
  ⟨pe_bm pa slot hty hm ho.pe ha.pa hbase hfew hline hs hplain, snd_mtG hr ho.sd ha.sd⟩
theorem ge_mt0 {name : Str} {id : String} {f : List D → List D → Option (D × List D)} {r : V → List V → Hp → VK → Prop} (hr : MtOk f r) (pa : PlainAttrs "list") (slot : Slot "list" name id) (hty : typeOf (.builtin id) = pure (.type "method_descriptor")) (hm : MtR X id r) (ho : GE B X o to mo)
    (hbase : attributeBase o name X.env (eval o X.env) = eval o X.env := by rfl) (hline : (apos.endLine == cpos.line) = true := by rfl) :
    GE B X (.Call (.Attribute o name apos) [] [] cpos) (tBM0 X.K "list" r to) (gMt f mo agNil) :=
  ⟨pe_bm0 pa slot hty hm ho.pe hbase hline, snd_mtG (ts := tNil) hr ho.sd (ga_nil (X := X)).sd⟩
def fApp : List D → List D → Option (D × List D) := fun cs ds => match ds with | [d] => if cs.length < lim then some (.non, cs ++ [d]) else none | _ => none
theorem ok_app : MtOk fApp rAppend := by
  intro C H' Hh a xs ys cs ds ret cs' h r1 r2 hf
  unfold fApp at hf
  split at hf
  · rename_i d
    split at hf
    · rename_i hl
      cases hf
      cases r2 with
      | cons h1 h2 =>
        cases h2
        exact ⟨.non, _, r1.append (.cons h1 .nil), .non, fun Q q => ⟨a, xs, _, rfl, rfl, h, lim_lt (by rw [r1.length]; exact hl), q⟩⟩
    · cases hf
  · cases hf
def fPop : List D → List D → Option (D × List D) := fun cs ds => match ds with | [] => (cs[cs.length - 1]?).map fun d => (d, cs.dropLast) | _ => none
theorem reps_dropLast' {C : Cfg} : ∀ {ds : List D} {vs : List V}, Reps C H vs ds → Reps C H vs.dropLast ds.dropLast := fun h => reps_dropLast h
theorem ok_pop : MtOk fPop rPop := by
  intro C H' Hh a xs ys cs ds ret cs' h r1 r2 hf
  unfold fPop at hf
  split at hf
  · cases e : cs[cs.length - 1]? with
    | none => rw [e] at hf; cases hf
    | some d =>
      rw [e] at hf; cases hf
      cases r2
      obtain ⟨v, e1, r3⟩ := r1.get e
      exact ⟨v, _, reps_dropLast r1, r3, fun Q q => ⟨a, xs, v, rfl, rfl, h, by rw [r1.length]; exact e1, q⟩⟩
  · cases hf
theorem ge_append (hK : X.K = B.K) (ho : GE B X o to mo) (ha : GA B X [e] ts na) (hbase : attributeBase o "append" X.env (eval o X.env) = eval o X.env := by rfl)
    (hfew : ((backTo cpos (starEach [e] X.env)).all (fun x => !x.1) && (backToKw cpos (keywordEach [] X.env)).all (fun x => x.1.isSome)
      && decide ([e].length + ([] : List Keyword).length + (if ([] : List Keyword).isEmpty then 0 else 1) < 30)) = true := by rfl)
    (hline : (apos.endLine == cpos.line) = true := by rfl) (hs : starEach [e] X.env = (false, eval e X.env) :: starEach [] X.env := by rfl) (hplain : (backTo cpos (starEach [] X.env)).any (·.1) = false := by rfl) :
    GE B X (.Call (.Attribute o "append" apos) [e] [] cpos) (tBM X.K "list" rAppend to ts) (gMt fApp mo na) :=
  ge_mt ok_app PySem.F.plainAttrs_list PySem.F.slot_list_append PySem.F.type_list_append mt_append ho ha hbase hfew hline hs hplain
theorem ge_pop (ho : GE B X o to mo) (hbase : attributeBase o "pop" X.env (eval o X.env) = eval o X.env := by rfl) (hline : (apos.endLine == cpos.line) = true := by rfl) :
    GE B X (.Call (.Attribute o "pop" apos) [] [] cpos) (tBM0 X.K "list" rPop to) (gMt fPop mo agNil) :=
  ge_mt0 ok_pop PySem.F.plainAttrs_list PySem.F.slot_list_pop PySem.F.type_list_pop mt_pop ho hbase hline
end

/-! ### statements -/
inductive GOut | nx (ρ : E) (κ : Ce) | rt (d : D) (fl : Fl) (κ : Ce) | bk (ρ : E) (κ : Ce)
abbrev SG := E → Ce → Option GOut
def GoesG (B : Cfg) (cs : List Addr) (H0 : Hp) (O0 O : List Addr) (H : Hp) (D : Ends) : GOut → Prop
  | .nx ρ' κ' => ∀ cs' O0' O' H' σ', GX H0 cs O0 O H cs' O0' O' H' → GS B cs' H0 O0' O' H' σ' ρ' κ' → D.nx σ' H'
  | .bk ρ' κ' => ∀ cs' O0' O' H' σ', GX H0 cs O0 O H cs' O0' O' H' → GS B cs' H0 O0' O' H' σ' ρ' κ' → D.bk σ' H'
  | .rt d fl κ' => ∀ v cs' O0' O' Hm H' σ' ρ', GX H0 cs O0 O H cs' O0' O' Hm → GS B cs' H0 O0' O' Hm σ' ρ' κ' → Ex Hm H' → Res (cfg B cs') O0' O' Hm H' v (d, fl) → D.rt v H'
def SndG (B : Cfg) (ts : TS) (m : SG) : Prop := ∀ cs H0 O0 O H σ ρ κ o, GS B cs H0 O0 O H σ ρ κ → m ρ κ = some o → ∀ D : Ends, GoesG B cs H0 O0 O H D o → ts D σ H
structure DG1 (B : Cfg) (X : Cx) (st : Stmt) (t : TS) (m : SG) : Prop where
  ps : PS X st t
  sd : SndG B t m
structure DGs1 (B : Cfg) (X : Cx) (st : List Stmt) (t : TS) (m : SG) : Prop where
  ps : PSs X st t
  sd : SndG B t m
section
variable {B : Cfg} {X : Cx} {K : PySem.W.Frag} {e : Expr} {te : TE} {me : MG} {st : Stmt} {rest sts : List Stmt} {t u : TS} {m n : SG} {pos : Pos}
variable {cs cs' : List Addr} {H0 H H' Hm : Hp} {O0 O O0' O' : List Addr} {σ : L2.St} {ρ : E} {κ : Ce}
theorem GoesG.back {D : Ends} {o : GOut} (x : GX H0 cs O0 O H cs' O0' O' H') (g : GoesG B cs H0 O0 O H D o) : GoesG B cs' H0 O0' O' H' D o := by
  cases o with
  | nx ρ' κ' => exact fun cs2 O02 O2 H2 σ2 x2 s => g cs2 O02 O2 H2 σ2 (x.trans x2) s
  | bk ρ' κ' => exact fun cs2 O02 O2 H2 σ2 x2 s => g cs2 O02 O2 H2 σ2 (x.trans x2) s
  | rt d fl κ' => exact fun v cs2 O02 O2 Hm H2 σ2 ρ2 x2 s => g v cs2 O02 O2 Hm H2 σ2 ρ2 (x.trans x2) s
def hNil : SG := fun ρ κ => some (.nx ρ κ)
def hSeq (m n : SG) : SG := fun ρ κ => (m ρ κ).bind fun o => match o with | .nx ρ' κ' => n ρ' κ' | o => some o
theorem dhs_nil : DGs1 B X [] tNext hNil := ⟨pss_nil, fun cs H0 O0 O H σ ρ κ o s h D g => by cases h; exact g _ _ _ _ _ .refl s⟩
theorem dhs_cons (h1 : DG1 B X st t m) (h2 : DGs1 B X rest u n) : DGs1 B X (st :: rest) (tSeq t u) (hSeq m n) := by
  refine ⟨pss_cons h1.ps h2.ps, fun cs H0 O0 O H σ ρ κ o s h D g => ?_⟩
  obtain ⟨o1, e1, h⟩ := bind2 h
  refine h1.sd _ _ _ _ _ _ _ _ _ s e1 _ ?_
  cases o1 with
  | nx ρ1 κ1 => exact fun cs' O0' O' H' σ' x' s' => h2.sd _ _ _ _ _ _ _ _ _ s' h D (g.back x')
  | rt d fl κ1 => cases h; exact g
  | bk ρ1 κ1 => cases h; exact g
theorem dhs_one (h1 : DG1 B X st t m) : DGs1 B X [st] t m := ⟨pss_one h1.ps, h1.sd⟩
def hNo : SG := fun _ _ => none
theorem dh_never : DG1 B X st tNever hNo := ⟨ps_never, fun _ _ _ _ _ _ _ _ _ _ h => by cases h⟩
theorem dh_pass : DG1 B X (.Pass pos) tNext hNil := ⟨ps_pass, fun cs H0 O0 O H σ ρ κ o s h D g => by cases h; exact g _ _ _ _ _ .refl s⟩
def hBrk : SG := fun ρ κ => some (.bk ρ κ)
theorem dh_brk : DG1 B X (.Break pos) tBreak hBrk := ⟨ps_break, fun cs H0 O0 O H σ ρ κ o s h D g => by cases h; exact g _ _ _ _ _ .refl s⟩
/-- an old statement -/
def hL (m : S) : SG := fun ρ κ => (m ρ).bind fun o => match o with | .nx ρ' => some (.nx ρ' κ) | _ => none
def exTS (ts : List Addr → TS) : TS := fun D σ H => ∃ cs, ts cs D σ H
theorem ps_exT {ts : List Addr → TS} (h : ∀ cs, PS X st (ts cs)) : PS X st (exTS ts) := ⟨fun pins s σ H D I ⟨cs, q⟩ => (h cs).run pins s σ H D I q⟩
/-- the numbered lists stay under what does not know them -/
theorem GS.out (s : GS B cs H0 O0 O H σ ρ κ) : ∃ H0', SS (cfg B cs) H0' O0 O H σ ρ ∧ ∀ O' H' σ' ρ', SS (cfg B cs) H0' O0 O' H' σ' ρ' → Ex (hid H O) (hid H' O') → GS B cs H0 O0 O' H' σ' ρ' κ ∧ GX H0 cs O0 O H cs O0 O' H' := by
  refine ⟨fun a => if a ∈ cs then H a else H0 a, ⟨s.toSV, fun a u h => ?_, fun a h1 h2 => ?_⟩, fun O' H' σ' ρ' s' ex => ⟨⟨⟨s'.toSV, fun a u h => ?_, fun a h1 h2 => ?_⟩, ⟨s.gc.len, s.gc.nd, fun a h => s'.sub a (s.c0 a h), fun n a ds h1 h2 => ?_⟩, s.c0, s.h0⟩, ⟨List.prefix_refl _, ex, fun _ h => h, fun _ h => .inl h⟩⟩⟩
  · split at h
    · exact h
    · exact s.base a u h
  · have nb : a ∉ cs := fun z => h2 (s.c0 a z)
    show (if a ∈ cs then H a else H0 a) = none
    rw [if_neg nb]; exact s.new a h1 h2
  · refine s'.base a u ?_
    have nb : a ∉ cs := fun z => by rw [s.h0 a z] at h; cases h
    show (if a ∈ cs then H a else H0 a) = some u
    rw [if_neg nb]; exact h
  · have nb : a ∉ cs := fun z => h2 (s.c0 a z)
    have q : (if a ∈ cs then H a else H0 a) = none := s'.new a h1 h2
    rwa [if_neg nb] at q
  · obtain ⟨xs, q1, q2⟩ := s.gc.at_ n a ds h1 h2
    refine ⟨xs, s'.base a _ ?_, q2.mono ex⟩
    have nb : a ∈ cs := List.mem_iff_getElem?.mpr ⟨n, h1⟩
    show (if a ∈ cs then H a else H0 a) = some (.lst xs)
    rw [if_pos nb]; exact q1
theorem dh_L {ts : List Addr → TS} {m : S} (h : ∀ cs, DS (cfg B cs) X st (ts cs) m) : DG1 B X st (exTS ts) (hL m) := by
  refine ⟨ps_exT fun cs => (h cs).ps, fun cs H0 O0 O H σ ρ κ o s hm D g => ⟨cs, ?_⟩⟩
  obtain ⟨o1, e1, hm⟩ := bind2 hm
  obtain ⟨H0', s0, back⟩ := s.out
  refine (h cs).sd _ _ _ _ _ _ _ s0 e1 D ?_
  cases o1 with
  | nx ρ1 =>
    cases hm
    intro O' H' σ' s' ex
    obtain ⟨g1, g2⟩ := back O' H' σ' ρ1 s' ex
    exact g _ _ _ _ _ g2 g1
  | rt d f => cases hm
def hExpr (m : MG) : SG := fun ρ κ => (m ρ κ).map fun p => .nx ρ p.2
theorem dh_expr (he : GE B X e te me) (hs : swapsWith e none pos.line X.env = pure false := by rfl) : DG1 B X (.Expr e pos) (tDrop te) (hExpr me) := by
  refine ⟨ps_expr he.pe hs, fun cs H0 O0 O H σ ρ κ o s h D g => ?_⟩
  unfold hExpr at h
  cases e1 : me ρ κ with
  | none => rw [e1] at h; cases h
  | some p =>
    rw [e1] at h; cases h
    exact he.sd _ _ _ _ _ _ _ _ _ _ s e1 _ fun v cs1 O01 O1 Hm1 H1 x1 s1 y1 r1 => g _ _ _ _ _ (x1.end_ y1) (s1.mono y1)
def hRet (m : MG) : SG := fun ρ κ => (m ρ κ).map fun p => .rt p.1.1 p.1.2 p.2
theorem dh_ret (he : GE B X e te me) : DG1 B X (.Return (some e) pos) (tRet te) (hRet me) := by
  refine ⟨ps_ret he.pe, fun cs H0 O0 O H σ ρ κ o s h D g => ?_⟩
  unfold hRet at h
  cases e1 : me ρ κ with
  | none => rw [e1] at h; cases h
  | some p =>
    rw [e1] at h; cases h
    exact he.sd _ _ _ _ _ _ _ _ _ _ s e1 _ fun v cs1 O01 O1 Hm1 H1 x1 s1 y1 r1 => g _ _ _ _ _ _ _ _ x1 s1 y1 r1
def hRetN : SG := fun _ κ => some (.rt .non .pure κ)
theorem dh_retN : DG1 B X (.Return none pos) tRetN hRetN := ⟨ps_retN, fun cs H0 O0 O H σ ρ κ o s h D g => by cases h; exact g _ _ _ _ _ _ _ _ .refl s (Evl.Ex.refl _) (.pure .non)⟩
def hIf (c : BG) (m n : SG) : SG := fun ρ κ => (c ρ κ).bind fun p => if p.1 then m ρ p.2 else n ρ p.2
theorem dh_if {c : Expr} {a b : List Stmt} {tc : TT} {mc : BG} (hc : GT B X c tc mc) (ha : DGs1 B X a t m) (hb : DGs1 B X b u n) : DG1 B X (.If c a b pos) (tIfS tc t u) (hIf mc m n) := by
  refine ⟨ps_if hc.pt ha.ps hb.ps, fun cs H0 O0 O H σ ρ κ o s h D g => ?_⟩
  obtain ⟨⟨k, κ1⟩, e1, h⟩ := bind2 h
  refine hc.sd _ _ _ _ _ _ _ _ _ _ s e1 _ fun cs1 O01 O1 H1 x1 s1 => ?_
  cases k with
  | true => exact ha.sd _ _ _ _ _ _ _ _ _ s1 h D (g.back x1)
  | false => exact hb.sd _ _ _ _ _ _ _ _ _ s1 h D (g.back x1)
/-- name = e -/
theorem GS.setP {i : Nat} {v : V} {d : D} (s : GS B cs H0 O0 O H σ ρ κ) (r : Rep (cfg B cs) (hid H O) v d) : GS B cs H0 O0 O H (σ.set i (some v)) (ρ.set i (some (d, false))) κ := ⟨s.toSS.setP r, s.gc, s.c0, s.h0⟩
theorem GS.setF {i : Nat} {a : Addr} {xs : List V} {ds : List D} (s : GS B cs H0 O0 O H σ ρ κ) (e : Ex H H') (hn : H a = none) (ha : H' a = some (.lst xs)) (r : Reps (cfg B cs) (hid H' (a :: O)) xs ds) :
    GS B cs H0 O0 (a :: O) H' (σ.set i (some (.ref a))) (ρ.set i (some (.lst ds, true))) κ ∧ GX H0 cs O0 O H cs O0 (a :: O) H' := by
  have ex : Ex (hid H O) (hid H' (a :: O)) := (hid_new hn).trans (hid_mono e)
  exact ⟨⟨s.toSS.setF e hn ha r, ⟨s.gc.len, s.gc.nd, fun b h => List.mem_cons_of_mem _ (s.gc.sub b h), fun n b es h1 h2 => by
    obtain ⟨ys, q1, q2⟩ := s.gc.at_ n b es h1 h2
    exact ⟨ys, e _ _ q1, q2.mono ex⟩⟩, s.c0, s.h0⟩, ⟨List.prefix_refl _, ex, fun _ h => h, fun _ h => .inl h⟩⟩
def hSet (i : Nat) (m : MG) : SG := fun ρ κ => (m ρ κ).bind fun p => match p.1.2 with
  | .pure => some (.nx (ρ.set i (some (p.1.1, false))) p.2)
  | .fresh => some (.nx (ρ.set i (some (p.1.1, true))) p.2)
  | .bor => none
theorem snd_setG {i : Nat} (h : SndE B te me) : SndG B (tAsg te (gName i)) (hSet i me) := by
  intro cs H0 O0 O H σ ρ κ o s hm D g
  obtain ⟨⟨⟨d, fl⟩, κ1⟩, e1, hm⟩ := bind2 hm
  refine h _ _ _ _ _ _ _ _ _ _ s e1 _ fun v cs1 O01 O1 Hm1 H1 x1 s1 y1 r1 => ?_
  cases fl with
  | pure =>
    cases hm
    cases r1 with
    | pure w => exact g _ _ _ _ _ (x1.end_ y1) ((s1.mono y1).setP w)
  | fresh =>
    cases hm
    cases r1 with
    | fresh h1 h2 h3 =>
      obtain ⟨q1, q2⟩ := s1.setF (i := i) y1 h1 h2 h3
      exact g _ _ _ _ _ (x1.trans q2) q1
  | bor => cases hm
theorem dh_set (i : Nat) {x : Str} {pos' : Pos} (hN : X.N.Nodup) (he : GE B X e te me) (hi : X.N[i]? = some x := by rfl) (hx : Loc X.env.scope x := by first | exact .inl rfl | exact .inr rfl) (hs : swapsWith e (some (.Name x pos')) pos.line X.env = pure false := by rfl)
    (hf : X.fn x = true ∨ X.env.scope.names.lookup x = some .local := by first | exact .inl rfl | exact .inr rfl) : DG1 B X (.Assign [.Name x pos'] e pos) (tAsg te (gName i)) (hSet i me) := ⟨ps_set hN hi hx he.pe hs hf, snd_setG he.sd⟩
/-! loops -/
structure GI (B : Cfg) (X : Cx) (tg e : Expr) (wi : TI) (m : AG) : Prop where
  pi : PI X tg e wi
  sd : ∀ cs H0 O0 O H σ ρ κ ds κ', GS B cs H0 O0 O H σ ρ κ → m ρ κ = some (ds, κ') → ∀ R : It → Hp → Prop, (∀ J cs' O0' O' H1, GX H0 cs O0 O H cs' O0' O' H1 → GS B cs' H0 O0' O' H1 σ ρ κ' → ItOk (cfg B cs') false O' H1 J ds → R J H1) → wi σ H R
def exTI (wi : List Addr → TI) : TI := fun σ H R => ∃ cs, wi cs σ H R
def jL (m : I) : AG := fun ρ κ => (m ρ).map fun ds => (ds, κ)
theorem gi_L {tg : Expr} {wi : List Addr → TI} {m : I} (h : ∀ cs, DI (cfg B cs) false X tg e (wi cs) m) : GI B X tg e (exTI wi) (jL m) := by
  refine ⟨⟨fun pins s σ H R I ⟨cs, q⟩ => (h cs).pi.run pins s σ H R I q⟩, fun cs H0 O0 O H σ ρ κ ds κ' s hm R q => ⟨cs, ?_⟩⟩
  unfold jL at hm
  cases em : m ρ with
  | none => rw [em] at hm; cases hm
  | some ds' =>
    rw [em] at hm; cases hm
    exact (h cs).sd _ _ _ _ _ _ s.toSV em _ fun J H1 e1 ok => q J cs O0 O H1 (.of_ex e1) (s.mono e1) ok
def jR1 (n : AG) : AG := fun ρ κ => (n ρ κ).bind fun p => (iR1f (p.1.map fun d => (d, .pure))).map fun ds => (ds, p.2)
theorem gi_r1 {tg a : Expr} {ta : TA} {na : AG} {p pos : Pos} (hg : Gl X "range") (hm : X.mg "range" = none) (ha : GA B X [a] ta na) (hs : starEach [a] X.env = [(false, eval a X.env)] := by rfl) : GI B X tg (.Call (.Name "range" p) [a] [] pos) (iRng1 ta) (jR1 na) := by
  refine ⟨pi_range1 hg hm ha.pa hs, fun cs H0 O0 O H σ ρ κ ds κ' s h R q => ?_⟩
  obtain ⟨⟨as_, κ1⟩, e1, h⟩ := bind2 h
  cases ef : iR1f (as_.map fun d => (d, .pure)) with
  | none => simp only [ef] at h; cases h
  | some ds' =>
    simp only [ef] at h; cases h
    unfold iR1f at ef
    split at ef
    · rename_i j fl el
      split at ef
      · rename_i hk
        cases ef
        refine ha.sd _ _ _ _ _ _ _ _ _ _ s e1 _ fun vs cs1 O01 O1 H1 x1 s1 r1 => ?_
        obtain ⟨d, rfl, ed⟩ : ∃ d, as_ = [d] ∧ d = .int j := by
          cases as_ with
          | nil => cases el
          | cons d l =>
            cases l with
            | nil => simp only [List.map_cons, List.map_nil, List.cons.injEq, Prod.mk.injEq] at el; exact ⟨d, rfl, el.1.1⟩
            | cons _ _ => simp at el
        subst ed
        cases r1 with
        | cons h1 h2 =>
          cases h2; cases h1
          exact ⟨_, rfl, hk.1, hk.2, q _ _ _ _ _ x1 s1 itr_ok⟩
      · cases ef
    · cases ef
structure GTg (B : Cfg) (X : Cx) (tg : Expr) (t : TG) (g : D → E → Option E) : Prop where
  h : ∀ cs, DGS (cfg B cs) X tg t g
theorem GTg.sd {tg : Expr} {tg' : TG} {g : D → E → Option E} (G : GTg B X tg tg' g) {v : V} {d : D} {ρ' : E} (s : GS B cs H0 O0 O H σ ρ κ) (r : Rep (cfg B cs) (hid H O) v d) (hg : g d ρ = some ρ') {Q : L2.St → Hp → Prop}
    (q : ∀ O' σ' H', GX H0 cs O0 O H cs O0 O' H' → GS B cs H0 O0 O' H' σ' ρ' κ → Q σ' H') : tg' v σ H Q := by
  obtain ⟨H0', s0, back⟩ := s.out
  refine (G.h cs).sd _ _ _ _ _ _ _ _ _ s0 r hg Q fun σ' H' s' ex => ?_
  obtain ⟨g1, g2⟩ := back O H' σ' ρ' s' ex
  exact q _ _ _ g2 g1
def forGoG (g : D → E → Option E) (m : SG) : List D → E → Ce → Option GOut
  | [], ρ, κ => some (.nx ρ κ)
  | d :: ds, ρ, κ => (g d ρ).bind fun ρ1 => (m ρ1 κ).bind fun o => match o with | .nx ρ2 κ2 => forGoG g m ds ρ2 κ2 | .bk ρ2 κ2 => some (.nx ρ2 κ2) | .rt d f κ2 => some (.rt d f κ2)
def hFor (mi : AG) (g : D → E → Option E) (m : SG) : SG := fun ρ κ => (mi ρ κ).bind fun p => forGoG g m p.1 ρ p.2
theorem dh_for {tg iter : Expr} {body : List Stmt} {wi : TI} {g : TG} {tb : TS} {mi : AG} {mg : D → E → Option E} (hp : PassesOwn (model X.prog X.w) X.A X.env X.xe) (hc : X.calm = true) (hi : GI B X tg iter wi mi) (hg : GTg B X tg g mg) (hb : DGs1 B X body tb m)
    (hs : ∀ x, foldedSetIterable iter X.env x = pure x := by intro _; rfl) : DG1 B X (.For tg iter body [] pos) (tFor wi g tb) (hFor mi mg m) := by
  refine ⟨ps_for hp hc hi.pi (hg.h []).pg hb.ps hs, fun cs H0 O0 O H σ ρ κ o s h D gq => ?_⟩
  obtain ⟨⟨ds, κ1⟩, e1, h⟩ := bind2 h
  refine hi.sd _ _ _ _ _ _ _ _ _ _ s e1 _ fun J cs1 O01 O1 H1 x1 s1 ok => ?_
  refine ⟨fun i m' σ' Hc => m' = ds.length - i ∧ i ≤ ds.length ∧ ∃ cs2 O02 O2 ρ2 κ2, GS B cs2 H0 O02 O2 Hc σ' ρ2 κ2 ∧ GX H0 cs1 O01 O1 H1 cs2 O02 O2 Hc ∧ forGoG mg m (ds.drop i) ρ2 κ2 = some o, ⟨_, rfl, Nat.zero_le _, cs1, O01, O1, ρ, κ1, s1, .refl, by simpa using h⟩, ?_⟩
  rintro i m' σ' Hc ⟨rfl, hle, cs2, O02, O2, ρ2, κ2, s2, x2, hgo⟩
  obtain ⟨okg, oks⟩ := ok Hc O2 (fun z => by cases z) x2.ex s2.dom i
  by_cases hlt : i < ds.length
  · have hd : ds[i]? = some ds[i] := List.getElem?_eq_getElem hlt
    obtain ⟨go, yl⟩ := okg _ hd
    rw [List.drop_eq_getElem_cons hlt] at hgo
    unfold forGoG at hgo
    refine .inr ⟨go, fun σ3 H3 => ∃ cs3 O03 O3 ρ3 κ3, GS B cs3 H0 O03 O3 H3 σ3 ρ3 κ3 ∧ GX H0 cs1 O01 O1 H1 cs3 O03 O3 H3 ∧ forGoG mg m (ds.drop (i + 1)) ρ3 κ3 = some o, fun σ3 H3 hn => ⟨_, by omega, rfl, hlt, hn⟩, fun x H3 y => ?_⟩
    obtain ⟨e3, rx⟩ := yl x H3 y
    obtain ⟨ρ3, eg, hgo⟩ := bind2 hgo
    obtain ⟨o1, em, hgo⟩ := bind2 hgo
    refine hg.sd (s2.mono e3) (rx.more x2.cs) eg fun O4 σ4 H4 x4 s4 => ?_
    have x14 := (x2.end_ e3).trans x4
    refine hb.sd _ _ _ _ _ _ _ _ _ s4 em _ ?_
    cases o1 with
    | nx ρ5 κ5 => exact fun cs5 O05 O5 H5 σ5 x5 s5 => ⟨cs5, O05, O5, ρ5, κ5, s5, x14.trans x5, hgo⟩
    | rt d f κ5 => cases hgo; exact fun v cs5 O05 O5 Hm5 H5 σ5 ρ5 x5 => gq v cs5 O05 O5 Hm5 H5 σ5 ρ5 (x1.trans (x14.trans x5))
    | bk ρ5 κ5 => cases hgo; exact fun cs5 O05 O5 H5 σ5 x5 s5 => gq cs5 O05 O5 H5 σ5 (x1.trans (x14.trans x5)) s5
  · have hie : ds.length ≤ i := by omega
    rw [List.drop_eq_nil_of_le hie] at hgo
    cases hgo
    exact .inl ⟨oks hie, gq _ _ _ _ _ (x1.trans x2) s2⟩
def whGoG (c : BG) (m : SG) : Nat → E → Ce → Option GOut
  | 0, _, _ => none
  | n + 1, ρ, κ => (c ρ κ).bind fun p => if p.1 then (m ρ p.2).bind fun o => match o with | .nx ρ2 κ2 => whGoG c m n ρ2 κ2 | .bk ρ2 κ2 => some (.nx ρ2 κ2) | .rt d f κ2 => some (.rt d f κ2) else some (.nx ρ p.2)
def hWh (n : Nat) (c : BG) (m : SG) : SG := whGoG c m n
theorem dh_while (N : Nat) {c : Expr} {body : List Stmt} {tc : TT} {mc : BG} (hp : PassesOwn (model X.prog X.w) X.A X.env X.xe) (hc : GT B X c tc mc) (hb : DGs1 B X body t m) : DG1 B X (.While c body [] pos) (tWhile tc t) (hWh N mc m) := by
  refine ⟨ps_while hp hc.pt hb.ps, fun cs H0 O0 O H σ ρ κ o s h D g => ?_⟩
  refine ⟨fun k σ' Hc => ∃ cs2 O02 O2 ρ2 κ2, GS B cs2 H0 O02 O2 Hc σ' ρ2 κ2 ∧ GX H0 cs O0 O H cs2 O02 O2 Hc ∧ whGoG mc m k ρ2 κ2 = some o, ⟨N, cs, O0, O, ρ, κ, s, .refl, h⟩, ?_⟩
  rintro k σ' Hc ⟨cs2, O02, O2, ρ2, κ2, s2, x2, hgo⟩
  cases k with
  | zero => cases hgo
  | succ k =>
    unfold whGoG at hgo
    obtain ⟨⟨b, κ3⟩, ec, hgo⟩ := bind2 hgo
    refine hc.sd _ _ _ _ _ _ _ _ _ _ s2 ec _ fun cs3 O03 O3 H3 x3 s3 => ?_
    cases b with
    | false => cases hgo; exact g _ _ _ _ _ (x2.trans x3) s3
    | true =>
      rw [if_pos rfl]
      refine ⟨fun σ5 H5 => ∃ cs5 O05 O5 ρ5 κ5, GS B cs5 H0 O05 O5 H5 σ5 ρ5 κ5 ∧ GX H0 cs O0 O H cs5 O05 O5 H5 ∧ whGoG mc m k ρ5 κ5 = some o, fun σ5 H5 hn => ⟨k, Nat.lt_succ_self _, hn⟩, ?_⟩
      obtain ⟨o1, em, hgo⟩ := bind2 hgo
      refine hb.sd _ _ _ _ _ _ _ _ _ s3 em _ ?_
      have x13 := x2.trans x3
      cases o1 with
      | nx ρ5 κ5 => exact fun cs5 O05 O5 H5 σ5 x5 s5 => ⟨cs5, O05, O5, ρ5, κ5, s5, x13.trans x5, hgo⟩
      | rt d f κ5 => cases hgo; exact fun v cs5 O05 O5 Hm5 H5 σ5 ρ5 x5 => g v cs5 O05 O5 Hm5 H5 σ5 ρ5 (x13.trans x5)
      | bk ρ5 κ5 => cases hgo; exact fun cs5 O05 O5 H5 σ5 x5 s5 => g cs5 O05 O5 H5 σ5 (x13.trans x5) s5
end
end Dt

set_option maxRecDepth 100000
namespace Dt
open PySem PySem.Spec PyProof.Rows L2
open Evl (Ex)
section
variable {B : Cfg} {K : PySem.W.Frag}
def runG (n : Nat) (m : SG) : FG := fun ds κ => match m (ds.map (fun d => some (d, false)) ++ List.replicate (n - ds.length) none) κ with
  | some (.rt d fl κ') => some (d, decide (fl ≠ .pure), κ')
  | some (.nx _ κ') => some (.non, false, κ')
  | _ => none
theorem start_ss {C : Cfg} {H H0 : Hp} {O : List Addr} {N : List Str} {vs : List V} {ds : List D} (e : Ex H0 H) (dm : ∀ a ∈ O, H a ≠ none) (r : Reps C (hid H O) vs ds) : SS C H0 O O H (L2.start N vs) (ds.map (fun d => some (d, false)) ++ List.replicate (N.length - ds.length) none) := by
  have rl := r.length
  unfold L2.start
  have own : ∀ (i : Nat) (d : D), (ds.map (fun d => some (d, false)) ++ List.replicate (N.length - ds.length) none)[i]? = some (some (d, true)) → False := fun i d h => by
    by_cases hi : i < ds.length
    · rw [List.getElem?_append_left (by simpa using hi), List.getElem?_map] at h
      cases e : ds[i]? with
      | none => rw [e] at h; cases h
      | some d' => rw [e] at h; cases h
    · rw [List.getElem?_append_right (by simpa using hi), List.getElem?_replicate] at h
      split at h <;> cases h
  refine ⟨⟨by simp [rl], dm, fun _ h => h, fun a h h0 => absurd h h0, fun i d h => ?_, fun i d h => (own i d h).elim, fun i j d e a h => (own i d h).elim⟩, e, fun a h h0 => absurd h h0⟩
  by_cases hi : i < ds.length
  · rw [List.getElem?_append_left (by simpa using hi), List.getElem?_map] at h
    cases e : ds[i]? with
    | none => rw [e] at h; cases h
    | some d' =>
      rw [e] at h; cases h
      obtain ⟨v, e1, r1⟩ := r.get e
      exact ⟨v, by rw [List.getElem?_append_left (by simpa [rl] using hi), List.getElem?_map, e1]; rfl, r1⟩
  · rw [List.getElem?_append_right (by simpa using hi), List.getElem?_replicate] at h
    split at h <;> cases h
theorem fnG_ok {P : Program} {w : World} {mg : Str → Option Value} {base : Heap} {x qual : Str} {st : Stmt} {f : Addr} {fd : FuncData} {N ps : List Str} {k : Nat} {m : SG} (F : Fun K x qual st f fd) (S : FnScope N ps (defScope st))
    (hb : ∀ (cdv : Value) (A : Around) (outer : List Env) (s : Shared) (H : Hp) (E : XK), Room k (A.deeper (envOfC qual (defScope st) s.heap.objs.size f cdv)) →
      ∃ t, DGs1 B (cxOf CX0 P w K mg base N qual (defScope st) f cdv A outer s H E).nox (defBody st) t m) : FnOk P w K mg base CX0 (k + 1) f fd ps (spG B ps.length (runG N.length m)) := by
  refine F.ok S (fun vs H Q E h => by obtain ⟨_, _, _, _, _, _, _, h, _⟩ := h; exact h) fun cdv A outer s H vs Q E hr h => ?_
  obtain ⟨cs, O, ds, κ, d, fr, κ', hl, dm, gc, r, hF, q⟩ := h
  obtain ⟨t, T⟩ := hb cdv A outer s H E hr
  refine ⟨t, T.ps, ?_⟩
  have eb : Ex (rmH H cs) H := fun a u h => by unfold rmH at h; split at h; cases h; exact h
  have s0 : GS B cs (rmH H cs) O O H (L2.start N vs) (ds.map (fun d => some (d, false)) ++ List.replicate (N.length - ds.length) none) κ :=
    ⟨start_ss eb dm r, gc, gc.sub, fun a h => by unfold rmH; rw [if_pos h]⟩
  have fin : ∀ d' fl' κ1, d' = d → fr = decide (fl' ≠ Fl.pure) → κ1 = κ' → GoesG B cs (rmH H cs) O O H ({ nx := fun _ H' => Q .non H', rt := Q } : Ends) (.rt d' fl' κ1) := by
    intro d' fl' κ1 e1 e2 e3 v cs' O0' O' Hm H' σ' ρ' gx gs y rr
    subst e1; subst e3
    have n1 : ∀ a ∈ O0', a ∈ O ∨ H a = none := fun a h => (gx.n0 a h).elim .inl fun z => by
      unfold rmH at z; split at z
      · rename_i hc; exact .inl (gc.sub a hc)
      · exact .inr z
    have n2 : ∀ a ∈ cs', a ∈ cs ∨ H a = none := fun a h => by
      have z := gs.h0 a h
      unfold rmH at z; split at z
      · rename_i hc; exact .inl hc
      · exact .inr z
    have gcE : ∀ Hx : Hp, (∀ a ∈ cs', Hx a = Hm a) → Ex (hid Hm O') (hid Hx O0') → GC B cs' O0' Hx κ1 := fun Hx e1 e2 => ⟨gs.gc.len, gs.gc.nd, gs.c0, fun n a ds h1 h2 => by
      obtain ⟨xs, q1, q2⟩ := gs.gc.at_ n a ds h1 h2
      exact ⟨xs, by rw [e1 a (List.mem_iff_getElem?.mpr ⟨n, h1⟩)]; exact q1, q2.mono e2⟩⟩
    cases rr with
    | pure w1 =>
      have hfr : fr = false := by rw [e2]; simp
      refine q v cs' O0' Hm H' gx.cs gs.base gx.o0 n1 n2 (fun a h => gs.dom a (gs.sub a h)) (gcE Hm (fun _ _ => rfl) (hid_sub gs.sub)) y ?_
      rw [hfr]
      exact .pure (w1.mono (hid_sub gs.sub))
    | @fresh a xs ds' h1 h2 h3 =>
      have hfr : fr = true := by rw [e2]; simp
      refine q _ cs' O0' Hm H' gx.cs gs.base gx.o0 n1 n2 (fun a h => gs.dom a (gs.sub a h)) (gcE Hm (fun _ _ => rfl) (hid_sub gs.sub)) y ?_
      rw [hfr]
      refine .fresh h1 h2 (h3.mono (hid_sub fun b hb => ?_))
      rcases List.mem_cons.mp hb with rfl | hb
      · exact List.mem_cons_self
      · exact List.mem_cons_of_mem _ (gs.sub b hb)
    | @bor a xs ds' h1 h2 h3 h4 =>
      have hfr : fr = true := by rw [e2]; simp
      let Hn : Hp := fun b => if b = a then none else Hm b
      have en : Ex Hn H' := fun b u h => by
        have h' : (if b = a then none else Hm b) = some u := h
        split at h'
        · cases h'
        · exact y b u h'
      have ne : ∀ b ∈ O0', b ≠ a := fun b hb z => h2 (by rw [← z]; exact hb)
      have hne : ∀ b, b ≠ a → Hn b = Hm b := fun b hb => if_neg hb
      refine q _ cs' O0' Hn H' gx.cs (fun b u hb => ?_) gx.o0 n1 n2 (fun b hb => ?_) (gcE Hn (fun b hb => hne b (ne b (gs.c0 b hb))) fun b u hb => ?_) en ?_
      · have : b ≠ a := fun z => by subst z; rw [gs.new _ h1 h2] at hb; cases hb
        rw [hne b this]; exact gs.base b u hb
      · rw [hne b (ne b hb)]; exact gs.dom b (gs.sub b hb)
      · unfold hid at hb ⊢
        split at hb
        · cases hb
        · rename_i hbo
          rw [if_neg (fun z => hbo (gs.sub b z)), hne b (fun z => hbo (by rw [z]; exact h1))]; exact hb
      · rw [hfr]
        refine .fresh (if_pos rfl) h3 (h4.mono (hid_sub fun b hb => ?_))
        rcases List.mem_cons.mp hb with rfl | hb
        · exact h1
        · exact gs.sub b hb
  unfold runG at hF
  split at hF
  · rename_i d' fl' κ1 em
    cases hF
    exact T.sd _ _ _ _ _ _ _ _ _ s0 em _ (fin _ _ _ rfl rfl rfl)
  · rename_i ρ' κ1 em
    cases hF
    refine T.sd _ _ _ _ _ _ _ _ _ s0 em _ fun cs' O0' O' H' σ' gx gs => ?_
    exact fin .non .pure _ rfl (by simp) rfl .non cs' O0' O' H' H' σ' ρ' gx gs (Evl.Ex.refl _) (.pure .non)
  · cases hF
/-! ### data without numbers -/
mutual
def noH : D → Bool
  | .hol _ => false
  | .tup ds => noHs ds | .tmp ds => noHs ds | .lst ds => noHs ds | .net _ c => noH c | .dic ks vs => noHs ks && noHs vs
  | _ => true
def noHs : List D → Bool
  | [] => true
  | d :: ds => noH d && noHs ds
end
mutual
theorem Rep.noHol {cs cs' : List Addr} {H : Hp} : ∀ {d : D} {v : V}, noH d = true → Rep (cfg B cs) H v d → Rep (cfg B cs') H v d
  | .non, _, _, r => by cases r; exact .non
  | .bl _, _, _, r => by cases r; exact .bl _
  | .int _, _, _, r => by cases r; exact .int _
  | .str _, _, _, r => by cases r; exact .str _
  | .tup ds, _, h, r => by cases r with | tup h1 h2 => exact .tup h1 (Reps.noHol (by simpa [noH] using h) h2)
  | .tmp ds, _, h, r => by cases r with | tmp h1 h2 => exact .tmp h1 (Reps.noHol (by simpa [noH] using h) h2)
  | .lst ds, _, h, r => by cases r with | lst h1 h2 => exact .lst h1 (Reps.noHol (by simpa [noH] using h) h2)
  | .net w c, _, h, r => by cases r with | net h1 h2 => exact .net h1 (Rep.noHol (by simpa [noH] using h) h2)
  | .frz _, _, _, r => by cases r with | frz h1 => exact .frz h1
  | .opq _, _, _, r => by cases r; exact .opq _
  | .hol _, _, h, _ => by simp [noH] at h
  | .dic ks vs, _, h, r => by
    simp only [noH, Bool.and_eq_true] at h
    cases r with | dic h1 h0 h2 => exact .dic h1 (Reps.noHol h.1 h0) (Reps.noHol h.2 h2)
theorem Reps.noHol {cs cs' : List Addr} {H : Hp} : ∀ {ds : List D} {vs : List V}, noHs ds = true → Reps (cfg B cs) H vs ds → Reps (cfg B cs') H vs ds
  | [], _, _, r => by cases r; exact .nil
  | _ :: _, _, h, r => by
    simp only [noHs, Bool.and_eq_true] at h
    cases r with | cons h1 h2 => exact .cons (Rep.noHol h.1 h1) (Reps.noHol h.2 h2)
end
/-- a list of lists, read -/
def rd1 (κ : Ce) (n : Nat) : List D → Option (List D)
  | [] => some []
  | .hol m :: ds => if m = n then none else (κ[m]?).bind fun es => if noHs es then (rd1 κ n ds).map fun r => .lst es :: r else none
  | d :: ds => if noH d then (rd1 κ n ds).map fun r => d :: r else none
/-- a def that makes a new list of new lists, as an old def -/
def plG (F : FG) : FD := fun ds => if noHs ds then match F ds [] with
  | some (.hol n, false, κ) => (κ[n]?).bind fun es => (rd1 κ n es).map fun rs => (.lst rs, true)
  | some (d, false, _) => if noH d then some (d, false) else none
  | some (.lst es, true, _) => if noHs es then some (.lst es, true) else none
  | _ => none else none
theorem rd1_reps {cs cs0 : List Addr} {κ : Ce} {O : List Addr} {H : Hp} {n : Nat} {a : Addr} (g : GC B cs O H κ) (hn : cs[n]? = some a) {O2 : List Addr} (h2 : ∀ b ∈ cs, b ≠ a → b ∉ O2) (hs : Ex (hid H O) (hid H O2)) :
    ∀ {ds rs : List D} {xs : List V}, Reps (cfg B cs) (hid H O) xs ds → rd1 κ n ds = some rs → Reps (cfg B cs0) (hid H O2) xs rs := by
  intro ds
  induction ds with
  | nil => intro rs xs r h; cases r; cases h; exact .nil
  | cons d ds ih =>
    intro rs xs r h
    cases r with
    | @cons v vs _ _ r1 r2 =>
      by_cases hd : ∃ m, d = .hol m
      · obtain ⟨m, rfl⟩ := hd
        unfold rd1 at h
        split at h
        · cases h
        · rename_i hm
          obtain ⟨es, e1, h⟩ := bind2 h
          split at h
          · rename_i hes
            cases e2 : rd1 κ n ds with
            | none => rw [e2] at h; cases h
            | some r' =>
              rw [e2] at h; cases h
              refine .cons ?_ (ih r2 e2)
              obtain ⟨b, ys, c1, c2, c3, c4⟩ := g.cell e1
              cases r1 with
              | hol hc =>
                replace hc : cs[m]? = _ := hc
                rw [c1] at hc; cases hc
                have nb : b ≠ a := fun z => hm (nodup_at g.nd c1 (by rw [z]; exact hn))
                refine .lst (xs := ys) ?_ ((c4.noHol hes).mono hs)
                rw [hid_out (h2 b c2 nb)]; exact c3
          · cases h
      · have h' : (if noH d then (rd1 κ n ds).map fun r => d :: r else none) = some rs := by
          cases d <;> first | exact h | exact absurd ⟨_, rfl⟩ hd
        split at h'
        · rename_i hnd
          cases e2 : rd1 κ n ds with
          | none => rw [e2] at h'; cases h'
          | some r' =>
            rw [e2] at h'; cases h'
            exact .cons ((r1.noHol hnd).mono hs) (ih r2 e2)
        · cases h'
theorem plG_ok {P : Program} {w : World} {mg : Str → Option Value} {base : Heap} {cx : CXT} {k N : Nat} {f : Addr} {fd : FuncData} {ps : List Str} {F : FG} {cs0 : List Addr} (G : FnOk P w K mg base cx k f fd ps (spG B N F)) : FnOk P w K mg base cx k f fd ps (spD (cfg B cs0) N (plG F)) :=
  G.imp fun vs H Q E ⟨O, ds, d, fr, hl, dm, r, hF, q⟩ => by
    unfold plG at hF
    split at hF
    · rename_i hno
      have main : ∀ d1 fr1 κ1, F ds [] = some (d1, fr1, κ1) → (∀ v cs' O' Hm H', Ex H Hm → (∀ a ∈ O, a ∈ O') → (∀ a ∈ O', a ∈ O ∨ H a = none) → (∀ a ∈ cs', H a = none) → (∀ a ∈ O', Hm a ≠ none) → GC B cs' O' Hm κ1 → Ex Hm H' → Res (cfg B cs') O' O' Hm H' v (d1, if fr1 then .fresh else .pure) → Q v H') → spG B N F vs H Q E := by
        intro d1 fr1 κ1 e1 q1
        refine ⟨[], O, ds, [], d1, fr1, κ1, hl, dm, ⟨rfl, List.nodup_nil, (fun a h => by cases h), fun n a ds h => by simp at h⟩, r.noHol hno, e1, fun v cs' O' Hm H' p1 p2 p3 p4 p5 p6 p7 p8 p9 => ?_⟩
        exact q1 v cs' O' Hm H' (fun a u h => p2 a u (by unfold rmH; rw [if_neg (by simp)]; exact h)) p3 p4 (fun a h => (p5 a h).resolve_left (by simp)) p6 p7 p8 p9
      have exO : ∀ {O' : List Addr} {H' : Hp}, (∀ a ∈ O, a ∈ O') → Ex (hid H' O') (hid H' O) := fun h => hid_sub h
      split at hF
      · rename_i n κ1 e1
        obtain ⟨es, e2, hF⟩ := bind2 hF
        cases e3 : rd1 κ1 n es with
        | none => rw [e3] at hF; cases hF
        | some rs =>
          rw [e3] at hF; cases hF
          refine main _ _ _ e1 fun v cs' O' Hm H' p2 p3 p4 p5 p6 p7 p8 p9 => ?_
          cases p9 with
          | pure w1 =>
            cases w1 with
            | @hol _ a hc =>
              replace hc : cs'[n]? = some a := hc
              obtain ⟨xs, c1, c2⟩ := p7.at_ n a es hc e2
              have hm : a ∈ cs' := List.mem_iff_getElem?.mpr ⟨n, hc⟩
              refine q _ _ (p2.trans p8) ⟨a, xs, rs, rfl, rfl, p5 a hm, p8 _ _ c1, ?_⟩
              have g' := p7.mono p8
              obtain ⟨xs', c1', c2'⟩ := g'.at_ n a es hc e2
              rw [p8 _ _ c1] at c1'; cases c1'
              refine rd1_reps g' hc (fun b hb hba hb2 => ?_) (hid_sub fun b hb => ?_) c2' e3
              · rcases List.mem_cons.mp hb2 with z | z
                · exact hba z
                · exact dm b z (p5 b hb)
              · rcases List.mem_cons.mp hb with rfl | hb
                · exact p7.sub _ hm
                · exact p3 b hb
      · rename_i d1 κ1 e0 e1
        split at hF
        · rename_i hd
          cases hF
          refine main _ _ _ e1 fun v cs' O' Hm H' p2 p3 p4 p5 p6 p7 p8 p9 => ?_
          cases p9 with
          | pure w1 => exact q _ _ (p2.trans p8) ((w1.noHol hd).mono (exO p3))
        · cases hF
      · rename_i es κ1 e1
        split at hF
        · rename_i hd
          cases hF
          refine main _ _ _ e1 fun v cs' O' Hm H' p2 p3 p4 p5 p6 p7 p8 p9 => ?_
          cases p9 with
          | @fresh a xs _ h1 h2 h3 =>
            have ha : H a = none := Evl.fresh_back p2 h1
            refine q _ _ (p2.trans p8) ⟨a, xs, es, rfl, rfl, ha, h2, (h3.noHol hd).mono (hid_sub fun b hb => ?_)⟩
            rcases List.mem_cons.mp hb with rfl | hb
            · exact List.mem_cons_self
            · exact List.mem_cons_of_mem _ (p3 b hb)
        · cases hF
      · cases hF
    · cases hF
end
end Dt

set_option maxRecDepth 100000
namespace Dt
open PySem PySem.Spec PyProof.Rows L2
open Evl (Ex)
section
variable {B : Cfg} {X : Cx} {K : PySem.W.Frag} {a b c e o : Expr} {es : List Expr} {ta tb tc te to : TE} {ma mb me mo : MG} {ts : TA} {na : AG} {pos p apos cpos : Pos} {x : Str} {st : Stmt} {t : TS} {m : SG}
/-- tests, with some slots' numbered lists read as if they were owned -/
def bO (ks : List Nat) (m : Dt.B) : BG := fun ρ κ => (opn ks [] ρ κ).bind fun ρ' => (m ρ').map fun k => (k, κ)
theorem opn_gs {cs : List Addr} {H0 H : Hp} {O0 O : List Addr} {σ : L2.St} {ρ ρ' : E} {κ : Ce} (s : GS B cs H0 O0 O H σ ρ κ) {ks : List Nat} (h1 : opn ks [] ρ κ = some ρ') : ∃ Oh, (∀ a ∈ Oh, a ∈ O0) ∧ SV (cfg B cs) Oh O H σ ρ' := by
  let Oh := O0.filter fun a => decide (a ∉ cs)
  have hs : ∀ a ∈ Oh, a ∈ O0 := fun a h => (List.mem_filter.mp h).1
  have sv : SV (cfg B cs) Oh O H σ ρ := ⟨s.len, s.dom, fun a h => s.sub a (hs a h), fun a h1 h2 => by
      by_cases hc : a ∈ cs
      · obtain ⟨n, hn, rfl⟩ := List.getElem_of_mem hc
        have hk : n < κ.length := by rw [← s.gc.len]; exact hn
        obtain ⟨xs, e1, _⟩ := s.gc.at_ n _ _ (List.getElem?_eq_getElem hn) (List.getElem?_eq_getElem hk)
        exact ⟨xs, e1⟩
      · exact s.ll a h1 fun z => h2 (List.mem_filter.mpr ⟨z, by simpa using hc⟩), s.sh, fun i d e => by
      obtain ⟨b, xs, ds, q1, q2, q3, q4, q5⟩ := s.ow i d e
      exact ⟨b, xs, ds, q1, q2, q3, fun z => q4 (hs b z), q5⟩, s.inj⟩
  exact ⟨Oh, hs, opn_sv s.gc (fun a ha z => by have := (List.mem_filter.mp z).2; simp at this; exact this ha) ks [] ρ ρ' (fun n h => by cases h) (fun i d a n e1 e2 e3 => by
    obtain ⟨b, xs, ds, q1, q2, q3, q4, q5⟩ := s.ow i d e1
    rw [q2] at e2; cases e2
    exact absurd (s.c0 _ (List.mem_iff_getElem?.mpr ⟨n, e3⟩)) q4) h1 sv⟩
theorem gt_O (ks : List Nat) {te : List Addr → TT} {m : Dt.B} (h : ∀ cs, DT (cfg B cs) X e (te cs) m) : GT B X e (exTT te) (bO ks m) := by
  refine ⟨pt_exT fun cs => (h cs).pt, fun cs H0 O0 O H σ ρ κ r κ' s hm Q q => ⟨cs, ?_⟩⟩
  obtain ⟨ρ', h1, hm⟩ := bind2 hm
  cases em : m ρ' with
  | none => rw [em] at hm; cases hm
  | some k =>
    rw [em] at hm; cases hm
    obtain ⟨Oh, _, sv⟩ := opn_gs s h1
    exact (h cs).sd _ _ _ _ _ _ sv em _ fun H' e' => q _ _ _ _ (.of_ex e') (s.mono e')
theorem GS.frz1 {cs : List Addr} {H0 H : Hp} {O0 O : List Addr} {σ : L2.St} {ρ : E} {κ : Ce} (i : Nat) (s : GS B cs H0 O0 O H σ ρ κ) : ∃ O', GS B cs H0 O0 O' H σ (Dt.frz1 i ρ) κ ∧ GX H0 cs O0 O H cs O0 O' H := by
  obtain ⟨O', s', x⟩ := s.toSS.frz1 (i := i)
  exact ⟨O', ⟨s', ⟨s.gc.len, s.gc.nd, fun a h => s'.sub a (s.c0 a h), fun n a ds h1 h2 => by
    obtain ⟨xs, q1, q2⟩ := s.gc.at_ n a ds h1 h2
    exact ⟨xs, q1, q2.mono x⟩⟩, s.c0, s.h0⟩, ⟨List.prefix_refl _, x, fun _ h => h, fun _ h => .inl h⟩⟩
def hFrz (i : Nat) (m : SG) : SG := fun ρ κ => m (Dt.frz1 i ρ) κ
theorem dh_frz (i : Nat) (h : DG1 B X st t m) : DG1 B X st t (hFrz i m) := by
  refine ⟨h.ps, fun cs H0 O0 O H σ ρ κ o s e D g => ?_⟩
  obtain ⟨O', s', x⟩ := s.frz1 i
  exact h.sd _ _ _ _ _ _ _ _ _ s' e D (g.back x)
def hFzA (i : Nat) (m : SG) : SG := fun ρ κ => (m ρ κ).map fun o => match o with | .nx ρ' κ' => .nx (Dt.frz1 i ρ') κ' | o => o
theorem dh_fza (i : Nat) (h : DG1 B X st t m) : DG1 B X st t (hFzA i m) := by
  refine ⟨h.ps, fun cs H0 O0 O H σ ρ κ o s e D g => ?_⟩
  unfold hFzA at e
  cases em : m ρ κ with
  | none => rw [em] at e; cases e
  | some o0 =>
    rw [em] at e
    cases o0 with
    | rt d f κ1 => cases e; exact h.sd _ _ _ _ _ _ _ _ _ s em D g
    | bk ρ' κ1 => cases e; exact h.sd _ _ _ _ _ _ _ _ _ s em D g
    | nx ρ' κ1 =>
      cases e
      refine h.sd _ _ _ _ _ _ _ _ _ s em D fun cs' O0' O' H' σ' x' s' => ?_
      obtain ⟨O2, s2, x2⟩ := s'.frz1 i
      exact g _ _ _ _ _ (x'.trans x2) s2
/-! operators -/
theorem ge_add (ha : GE B X a ta ma) (hb : GE B X b tb mb) : GE B X (.BinOp a .Add b pos) (tOp (rI0 fun i j => .int (i + j)) ta tb) (gOp (fI fun i j => some (.int (i + j))) ma mb) := ge_bin op_add (fun _ => vr_I0) ha hb
theorem ge_sub (ha : GE B X a ta ma) (hb : GE B X b tb mb) : GE B X (.BinOp a .Sub b pos) (tOp (rI0 fun i j => .int (i - j)) ta tb) (gOp fSub ma mb) := ge_bin op_sub (fun _ => vr_I0) ha hb
theorem ge_mulI (ha : GE B X a ta ma) (hb : GE B X b tb mb) : GE B X (.BinOp a .Mult b pos) (tOp (rI CMul fun i j => .int (i * j)) ta tb) (gOp (fI fun i j => if CMul i j then some (.int (i * j)) else none) ma mb) := ge_bin op_mul (fun _ => vr_I) ha hb
theorem ge_div (ha : GE B X a ta ma) (hb : GE B X b tb mb) : GE B X (.BinOp a .FloorDiv b pos) (tOp (rI CDiv fun i j => .int (i / j)) ta tb) (gOp fDiv ma mb) := ge_bin op_fdiv (fun _ => vr_I) ha hb
theorem ge_mod (ha : GE B X a ta ma) (hb : GE B X b tb mb) : GE B X (.BinOp a .Mod b pos) (tOp (rI (fun _ j => 0 < j) fun i j => .int (i % j)) ta tb) (gOp fMod ma mb) := ge_bin op_mod (fun _ => vr_I (P := fun _ j => 0 < j)) ha hb
theorem gt_lt (ha : GE B X a ta ma) (hb : GE B X b tb mb) : GT B X (.Compare a [.Lt] [b] pos) (tTest (tOp (rI0 fun i j => .bl (decide (i < j))) ta tb)) (gB (gOp fLt ma mb)) := gt_cmp op_lt (fun _ => vr_Ib) ha hb
theorem gt_le (ha : GE B X a ta ma) (hb : GE B X b tb mb) : GT B X (.Compare a [.LtE] [b] pos) (tTest (tOp (rI0 fun i j => .bl (decide (i ≤ j))) ta tb)) (gB (gOp fLe ma mb)) := gt_cmp op_le (fun _ => vr_Ib) ha hb
theorem gt_gt (ha : GE B X a ta ma) (hb : GE B X b tb mb) : GT B X (.Compare a [.Gt] [b] pos) (tTest (tOp (rI0 fun i j => .bl (decide (j < i))) ta tb)) (gB (gOp fGt ma mb)) := gt_cmp op_gt (fun _ => vr_Ib) ha hb
theorem gt_ge (ha : GE B X a ta ma) (hb : GE B X b tb mb) : GT B X (.Compare a [.GtE] [b] pos) (tTest (tOp (rI0 fun i j => .bl (decide (j ≤ i))) ta tb)) (gB (gOp fGe ma mb)) := gt_cmp op_ge (fun _ => vr_Ib) ha hb
theorem gt_eq {k : Nat} (hK : X.K = K) (hr : Room k X.A) (ha : GE B X a ta ma) (hb : GE B X b tb mb) : GT B X (.Compare a [.Eq] [b] pos) (tTest (tOp (rEqD K) ta tb)) (gB (gOp fEq ma mb)) := by subst hK; exact gt_cmp (op_eqD hr.units) (fun _ => vr_eq) ha hb
theorem gt_ne {k : Nat} (hK : X.K = K) (hr : Room k X.A) (ha : GE B X a ta ma) (hb : GE B X b tb mb) : GT B X (.Compare a [.NotEq] [b] pos) (tTest (tOp (rNeD K) ta tb)) (gB (gOp fNe ma mb)) := by subst hK; exact gt_cmp (op_neD hr.units) (fun _ => vr_ne) ha hb
theorem ge_int1 (hg : Gl X "int") (hm : X.mg "int" = none) (ha : GA B X [e] ts na) (hs : starEach [e] X.env = (false, eval e X.env) :: starEach [] X.env := by rfl) (hpl : (backTo pos (starEach [] X.env)).any (·.1) = false := by rfl) :
    GE B X (.Call (.Name "int" p) [e] [] pos) (tCB (fun xs H Q => (∃ i, xs = [.int i] ∧ Q (.int i) H) ∨ ∃ k, xs = [.bl k] ∧ Q (.int (if k then 1 else 0)) H) ts) (gFn fInt1 na) := by
  refine ⟨pe_callTy call_int1 hg hm (by decide +kernel) ha.pa (by decide) (by decide) hs hpl, snd_fnG (fun _ => ?_) ha.sd⟩
  intro O0 O H H' vs rs rz c c' e r1 hf Q q
  unfold fInt1 at hf
  split at hf
  · cases hf
    obtain ⟨v, rfl, h⟩ := ress1 r1
    cases h.intE
    exact .inl ⟨_, rfl, q _ _ (Evl.Ex.refl _) .int⟩
  · cases hf
    obtain ⟨v, rfl, h⟩ := ress1 r1
    cases h.blE
    exact .inr ⟨_, rfl, q _ _ (Evl.Ex.refl _) .int⟩
  · cases hf
end
end Dt
namespace Dt
open PySem L2
abbrev DicF := Addr → List V → List D → List V → Heap → Prop
end Dt

set_option maxRecDepth 100000
namespace Dt
open PySem PySem.Spec PyProof.Rows L2
open Evl (Ex)
section
variable {prog : Program} {w : World} {A : Around} {E : Value → Shared → Prop} {s : Shared}
theorem sum_rawT {l : Addr} {its : List Value} {ns : List Int} {Q : Value → Shared → Prop} (hh : A.handled = none) (hl : s.heap.IsTuple l its.toArray) (hi : IntsAre its ns)
    (h : ∀ h' tk t', (∀ b o, s.heap.get? b = some o → h'.get? b = some o) → Q (.int ns.sum t') { s with heap := h', toks := tk }) : wpAny (model prog w) A (call (.builtin "sum") [.ref l]) Q E s := by
  obtain ⟨xs, e⟩ := hi.allInts.items
  have hn : numsOf (intItems xs).toList = ns := by rw [← e]; exact hi.numsOf
  rw [nums_intItems] at hn
  rw [e] at hl
  have hlt : l < s.heap.objs.size := let ⟨_, e, _⟩ := hl; Heap.lt_size e
  have zlt : ∀ b ∈ [s.heap.objs.size, l], b < (s.heap.push { cls := .type "tuple_iterator", data := .fields #[.ref l, .int 0 0] }).objs.size := fun b hb => by
    rw [Heap.size_push]
    simp only [List.mem_cons, List.not_mem_nil, or_false] at hb
    rcases hb with rfl | rfl
    · exact Nat.lt_succ_self _
    · exact Nat.lt_succ_of_lt hlt
  refine call_sum_walkG (wpAny_pyIter_tuple hl ?_)
  refine ⟨_, _, _, _, _, _, numAt xs, rfl, Walks.tuple (A := A.in1) hh _ l (Nat.ne_of_lt hlt) (intItems xs), ⟨⟨_, Heap.get?_push_size _ rfl, rfl, rfl⟩, hl.push _⟩, zlt, (fun _ _ => intItems_at), fun h' tk t' hk => ?_⟩
  have := h h' tk t' fun b o e => hk b o (fun hm => by
    simp only [List.mem_cons, List.not_mem_nil, or_false] at hm
    subst hm
    exact absurd (Heap.lt_size e) (Nat.lt_irrefl _)) (Heap.get?_push_of_some _ e)
  rw [show (intItems xs).size = xs.size by simp [intItems], preSum_eq, List.take_of_length_le (by simp), hn]; exact this
end
section
variable {C : Cfg} {K : PySem.W.Frag} {X : Cx} {a b e : Expr} {es : List Expr} {ta tb te : TE} {ma mb me : M} {t : TA} {n : As} {p pos : Pos}
def rSumT (K : PySem.W.Frag) : List V → Hp → VK → Prop := fun vs H Q => ∃ (a : Addr) (ns : List Int), vs = [V.ref a] ∧ SqT K H a (ns.map V.int) ∧ Q (.int ns.sum) H
theorem cr_sumT (hc : X.calm = true) : CallR X (.builtin "sum") (rSumT X.K) := by
  intro pins s σ H vs us Q I r h
  obtain ⟨a, ns, rfl, hs, q⟩ := h
  obtain ⟨its, rv, hl, _⟩ := I.tuple hs
  rw [Vals.ref1 r]
  exact sum_rawT (I.ok.hd hc) hl rv.ints fun h' tk t' hk => ⟨.int _, H, I.kept hk, ⟨_, rfl⟩, q⟩
def fSum : FN := fun rs => match rs with
  | [(.lst ds, _)] => (getIs ds).map fun ns => (.int ns.sum, .pure)
  | [(.tup ds, _)] => (getIs ds).map fun ns => (.int ns.sum, .pure)
  | _ => none
theorem vc_sum (hC : C.K = K) : VC C (fun xs H Q => rSum K xs H Q ∨ rSumT K xs H Q) fSum := by
  intro O0 O H H' vs rs rz c c' e r1 hf Q q
  unfold fSum at hf
  split at hf
  · rename_i ds _
    cases en : getIs ds with
    | none => rw [en] at hf; cases hf
    | some ns =>
      rw [en] at hf; cases hf
      obtain ⟨v, rfl, h⟩ := ress1 r1
      obtain ⟨p, ys, rfl, h1, h2⟩ := h.lstE
      have k1 := getIs_reps h2 en
      subst k1
      exact .inl ⟨p, ns, rfl, .inl (.inl h1), q _ _ (Evl.Ex.refl _) .int⟩
  · rename_i ds _
    cases en : getIs ds with
    | none => rw [en] at hf; cases hf
    | some ns =>
      rw [en] at hf; cases hf
      obtain ⟨v, rfl, h⟩ := ress1 r1
      obtain ⟨p, ys, rfl, h1, h2⟩ := h.tupE
      have k1 := getIs_reps h2 en
      subst k1
      exact .inr ⟨p, ns, rfl, h1.sq, q _ _ (Evl.Ex.refl _) .int⟩
  · cases hf
theorem de_sum (hK : X.K = K) (hC : C.K = K) (hc : X.calm = true) (hg : Gl X "sum") (hm : X.mg "sum" = none) (ha : DA C X [e] t n) (hs : starEach [e] X.env = (false, eval e X.env) :: starEach [] X.env := by rfl) (hpl : (backTo pos (starEach [] X.env)).any (·.1) = false := by rfl) :
    DE C X (.Call (.Name "sum" p) [e] [] pos) (tCB (fun xs H Q => rSum K xs H Q ∨ rSumT K xs H Q) t) (mFn fSum n) := by
  subst hK; exact de_callB ((cr_sum hc).or (cr_sumT hc)) (vc_sum hC) hg hm (by decide +kernel) ha (by decide) (by decide) hs hpl
/-! divmod -/
def fDivmod : FN := fun rs => match rs with
  | [(.int i, _), (.int j, _)] => if CDiv i j then some (.tmp [.int (i / j), .int (i % j)], .pure) else none
  | _ => none
theorem vc_divmod : VC C (fun xs H Q => ∃ i j, xs = [.int i, .int j] ∧ CDiv i j ∧ ∀ p, H p = none → Q (.ref p) (upd H p (.tup [.int (i / j), .int (i % j)]))) fDivmod := by
  intro O0 O H H' vs rs rz c c' e r1 hf Q q
  unfold fDivmod at hf
  split at hf
  · rename_i i _ j _
    split at hf
    · rename_i hk
      cases hf
      obtain ⟨v, w, rfl, h1, h2⟩ := ress2 r1
      cases h1.intE; cases h2.intE
      refine ⟨i, j, rfl, hk, fun p hp => q _ _ (Evl.Ex.new hp) (.pure (.tmp (xs := [.int (i / j), .int (i % j)]) ?_ (.cons (.int _) (.cons (.int _) .nil))))⟩
      rw [hid_out fun z => c'.dom _ z hp, upd_same]
    · cases hf
  · cases hf
theorem de_divmod (hg : Gl X "divmod") (hm : X.mg "divmod" = none) (ha : DA C X [a, b] t n) (he : starEach [a, b] X.env = (false, eval a X.env) :: starEach [b] X.env := by rfl) (hpl : (backTo pos (starEach [b] X.env)).any (·.1) = false := by rfl) :
    DE C X (.Call (.Name "divmod" p) [a, b] [] pos) (tCB (fun xs H Q => ∃ i j, xs = [.int i, .int j] ∧ CDiv i j ∧ ∀ p, H p = none → Q (.ref p) (upd H p (.tup [.int (i / j), .int (i % j)]))) t) (mFn fDivmod n) := de_callB call_divmod vc_divmod hg hm (by decide +kernel) ha (by decide) (by decide) he hpl
end
end Dt

set_option maxRecDepth 100000
namespace Dt
open PySem PySem.Spec PyProof.Rows L2
open Evl (Ex)
/-! comprehensions whose items change numbered lists -/
def lcGoG (g : D → E → Option E) (me : MG) : List D → E → Ce → Option (List D × Ce)
  | [], _, κ => some ([], κ)
  | d :: ds, ρ, κ => (g d ρ).bind fun ρ1 => (me ρ1 κ).bind fun p => if p.1.2 = .bor then none else (lcGoG g me ds ρ p.2).map fun q => (p.1.1 :: q.1, q.2)
def noOwn (ρ : E) : Bool := ρ.all fun x => match x with | some (_, true) => false | _ => true
def gLc (mi : I) (g : D → E → Option E) (me : MG) (vs : List Nat) : MG := fun ρ κ => (mi ρ).bind fun ds => if ds.length ≤ lim ∧ noOwn ρ = true then (lcGoG g me ds (wipeE ρ vs) κ).map fun p => ((.lst p.1, .fresh), p.2) else none
theorem lcGoG_len {g : D → E → Option E} {me : MG} : ∀ {ds : List D} {ρ : E} {κ : Ce} {p : List D × Ce}, lcGoG g me ds ρ κ = some p → p.1.length = ds.length
  | [], _, _, _, h => by cases h; rfl
  | d :: ds, ρ, κ, p, h => by
    unfold lcGoG at h
    obtain ⟨ρ1, _, h⟩ := bind2 h
    obtain ⟨q, _, h⟩ := bind2 h
    split at h
    · cases h
    · cases e4 : lcGoG g me ds ρ q.2 with
      | none => rw [e4] at h; cases h
      | some r => rw [e4] at h; cases h; simp [lcGoG_len e4]
section
variable {B : Cfg} {X : Cx} {cs : List Addr} {H0 H H' Hm : Hp} {O0 O : List Addr} {σ : L2.St} {ρ : E} {κ : Ce} {Dl : Addr} {acc acc' : List V}
/-- the list that is made, as if it were the caller's -/
theorem GS.put (s : GS B cs (upd H0 Dl (.lst acc)) O0 O H σ ρ κ) (hD : Dl ∈ O0) : GS B cs (upd H0 Dl (.lst acc')) O0 O (upd H Dl (.lst acc')) σ ρ κ := by
  have hO := s.sub Dl hD
  have hh : hid (upd H Dl (.lst acc')) O = hid H O := hid_upd hO
  have ne : ∀ b, b ∉ O0 → b ≠ Dl := fun b hb z => hb (by rw [z]; exact hD)
  have nc : ∀ b ∈ cs, b ≠ Dl := fun b hb z => by have := s.h0 b hb; rw [z, upd_same] at this; cases this
  refine ⟨⟨⟨s.len, fun b hb => ?_, s.sub, fun b h1 h2 => ?_, fun i d h => ?_, fun i d h => ?_, s.inj⟩, fun b u h => ?_, fun b h1 h2 => ?_⟩, ⟨s.gc.len, s.gc.nd, s.gc.sub, fun n b es h1 h2 => ?_⟩, s.c0, fun b hb => ?_⟩
  · by_cases hb' : b = Dl
    · subst hb'; rw [upd_same]; exact fun z => by cases z
    · rw [upd_ne hb']; exact s.dom b hb
  · rw [upd_ne (ne b h2)]; exact s.ll b h1 h2
  · rw [hh]; exact s.sh i d h
  · obtain ⟨b, ys, es, q0, q1, q2, q3, q4, q5⟩ := s.ow i d h
    exact ⟨b, ys, es, q0, q1, q2, q3, by rw [upd_ne (ne b q3)]; exact q4, by rw [hh]; exact q5⟩
  · by_cases hb' : b = Dl
    · subst hb'; rw [upd_same] at h ⊢; exact h
    · rw [upd_ne hb'] at h ⊢
      have := s.base b u (by rw [upd_ne hb']; exact h)
      exact this
  · rw [upd_ne (ne b h2)]
    have := s.new b h1 h2
    rwa [upd_ne (ne b h2)] at this
  · obtain ⟨ys, q1, q2⟩ := s.gc.at_ n b es h1 h2
    have nb := nc b (List.mem_iff_getElem?.mpr ⟨n, h1⟩)
    exact ⟨ys, by rw [upd_ne nb]; exact q1, by rw [hh]; exact q2⟩
  · rw [upd_ne (nc b hb)]
    have := s.h0 b hb
    rwa [upd_ne (nc b hb)] at this
/-- it enters -/
theorem GS.enter (s : GS B cs H0 O0 O H σ ρ κ) (hn : H Dl = none) : GS B cs (upd H0 Dl (.lst [])) (Dl :: O0) (Dl :: O) (upd H Dl (.lst [])) σ ρ κ := by
  have hO : Dl ∉ O := fun z => s.dom Dl z hn
  have e : Ex H (upd H Dl (.lst [])) := Evl.Ex.new hn
  have s2 := s.toSV.hide hn e upd_same
  have ex : Ex (hid H O) (hid (upd H Dl (.lst [])) (Dl :: O)) := (hid_new hn).trans (hid_mono e)
  have nc : ∀ b ∈ cs, b ≠ Dl := fun b hb z => hO (by rw [← z]; exact s.gc.sub b hb)
  refine ⟨⟨⟨s2.len, s2.dom, fun b hb => ?_, fun b h1 h2 => s2.ll b h1 fun z => h2 (List.mem_cons_of_mem _ z), s2.sh, fun i d h => ?_, s2.inj⟩, fun b u h => ?_, fun b h1 h2 => ?_⟩, ⟨s.gc.len, s.gc.nd, fun b hb => List.mem_cons_of_mem _ (s.gc.sub b hb), fun n b es h1 h2 => ?_⟩, fun b hb => List.mem_cons_of_mem _ (s.c0 b hb), fun b hb => ?_⟩
  · rcases List.mem_cons.mp hb with rfl | hb
    · exact List.mem_cons_self
    · exact List.mem_cons_of_mem _ (s.sub b hb)
  · obtain ⟨b, ys, es, q0, q1, q2, q3, q4, q5⟩ := s.ow i d h
    refine ⟨b, ys, es, q0, q1, List.mem_cons_of_mem _ q2, fun z => ?_, e _ _ q4, q5.mono ex⟩
    rcases List.mem_cons.mp z with rfl | z
    · exact hO q2
    · exact q3 z
  · by_cases hb' : b = Dl
    · subst hb'; rw [upd_same] at h ⊢; exact h
    · rw [upd_ne hb'] at h ⊢; exact s.base b u h
  · have hb' : b ≠ Dl := fun z => h2 (by rw [z]; exact List.mem_cons_self)
    rw [upd_ne hb']
    rcases List.mem_cons.mp h1 with z | h1
    · exact absurd z hb'
    · exact s.new b h1 fun z => h2 (List.mem_cons_of_mem _ z)
  · obtain ⟨ys, q1, q2⟩ := s.gc.at_ n b es h1 h2
    exact ⟨ys, e _ _ q1, q2.mono ex⟩
  · rw [upd_ne (nc b hb)]; exact s.h0 b hb
def fne (Dl : Addr) (O : List Addr) : List Addr := O.filter fun b => decide (b ≠ Dl)
theorem mem_fne {O : List Addr} {b : Addr} : b ∈ fne Dl O ↔ b ∈ O ∧ b ≠ Dl := by simp [fne]
def rm1 (H : Hp) (Dl : Addr) : Hp := fun b => if b = Dl then none else H b
theorem hid_rm (h : Dl ∈ O) : hid (rm1 H Dl) (fne Dl O) = hid H O := by
  funext b
  unfold hid rm1
  by_cases hb : b = Dl
  · subst hb
    rw [if_neg (fun z => (mem_fne.mp z).2 rfl), if_pos rfl, if_pos h]
  · by_cases ho : b ∈ O
    · rw [if_pos (mem_fne.mpr ⟨ho, hb⟩), if_pos ho]
    · rw [if_neg (fun z => ho (mem_fne.mp z).1), if_neg hb, if_neg ho]
/-- it leaves: a fresh list -/
theorem GS.leave (s : GS B cs (upd H0 Dl (.lst acc)) O0 O H σ ρ κ) (hn : H0 Dl = none) (hD : Dl ∈ O0) : GS B cs H0 (fne Dl O0) (fne Dl O) (rm1 H Dl) σ ρ κ ∧ rm1 H Dl Dl = none ∧ Ex (rm1 H Dl) H ∧ H Dl = some (.lst acc) := by
  have hO := s.sub Dl hD
  have hh : hid (rm1 H Dl) (fne Dl O) = hid H O := hid_rm hO
  have ne : ∀ b, b ≠ Dl → rm1 H Dl b = H b := fun b hb => if_neg hb
  have nc : ∀ b ∈ cs, b ≠ Dl := fun b hb z => by have := s.h0 b hb; rw [z, upd_same] at this; cases this
  have no : ∀ b, b ∉ O0 → b ≠ Dl := fun b hb z => hb (by rw [z]; exact hD)
  refine ⟨⟨⟨⟨s.len, fun b hb => ?_, fun b hb => ?_, fun b h1 h2 => ?_, fun i d h => ?_, fun i d h => ?_, s.inj⟩, fun b u h => ?_, fun b h1 h2 => ?_⟩, ⟨s.gc.len, s.gc.nd, fun b hb => mem_fne.mpr ⟨s.gc.sub b hb, nc b hb⟩, fun n b es h1 h2 => ?_⟩, fun b hb => mem_fne.mpr ⟨s.c0 b hb, nc b hb⟩, fun b hb => ?_⟩, if_pos rfl, fun b u h => ?_, s.base Dl _ upd_same⟩
  · obtain ⟨h1, h2⟩ := mem_fne.mp hb
    rw [ne b h2]; exact s.dom b h1
  · obtain ⟨h1, h2⟩ := mem_fne.mp hb
    exact mem_fne.mpr ⟨s.sub b h1, h2⟩
  · obtain ⟨g1, g2⟩ := mem_fne.mp h1
    rw [ne b g2]
    exact s.ll b g1 fun z => h2 (mem_fne.mpr ⟨z, g2⟩)
  · rw [hh]; exact s.sh i d h
  · obtain ⟨b, ys, es, q0, q1, q2, q3, q4, q5⟩ := s.ow i d h
    exact ⟨b, ys, es, q0, q1, mem_fne.mpr ⟨q2, no b q3⟩, fun z => q3 (mem_fne.mp z).1, by rw [ne b (no b q3)]; exact q4, by rw [hh]; exact q5⟩
  · have hb : b ≠ Dl := fun z => by rw [z, hn] at h; cases h
    rw [ne b hb]; exact s.base b u (by rw [upd_ne hb]; exact h)
  · obtain ⟨g1, g2⟩ := mem_fne.mp h1
    have := s.new b g1 fun z => h2 (mem_fne.mpr ⟨z, g2⟩)
    rwa [upd_ne g2] at this
  · obtain ⟨ys, q1, q2⟩ := s.gc.at_ n b es h1 h2
    exact ⟨ys, by rw [ne b (nc b (List.mem_iff_getElem?.mpr ⟨n, h1⟩))]; exact q1, by rw [hh]; exact q2⟩
  · have := s.h0 b hb
    rwa [upd_ne (nc b hb)] at this
  · have h' : (if b = Dl then none else H b) = some u := h
    split at h'
    · cases h'
    · exact h'
theorem GS.wipe {vs : List Nat} (s : GS B cs H0 O0 O H σ ρ κ) : GS B cs H0 O0 O H (L2.wipe σ vs) (wipeE ρ vs) κ := ⟨⟨s.toSV.wipe, s.base, s.new⟩, s.gc, s.c0, s.h0⟩
end
section
variable {B : Cfg} {X : Cx} {elt tg iter : Expr} {scope : Scope} {own : List (Str × Nat)} {wi : List Addr → TI} {g : TG} {te : TE} {mi : I} {mg : D → E → Option E} {me : MG} {js : List Nat}
theorem ge_lc {pos : Pos} (hc : X.calm = true) (hN : X.N.Nodup) (hi : ∀ cs, DI (cfg B cs) false X tg iter (wi cs) mi) (ok : BlkOk X.N X.env.scope scope own)
    (hg : ∀ (cs : List Addr) (s : Shared) (H : Hp) (A : Addr) (cl : List (Str × Addr)) (fp : List Addr), DG (cfg B cs) (X.blk s H scope (compEnvC scope cl A X.env) fp) tg g mg js)
    (he : ∀ (s : Shared) (H : Hp) (A : Addr) (cl : List (Str × Addr)) (fp : List Addr), GE B (X.blk s H scope (compEnvC scope cl A X.env) fp) elt te me) (hj : ∀ j ∈ js, j ∈ own.map (·.2) := by decide) (hs : ∀ x, foldedSetIterable iter X.env x = pure x := by intro _; rfl) :
    GE B X (.ListComp elt [⟨tg, iter, [], 0⟩] scope pos) (tLc (exTI wi) g tYes te (own.map (·.2))) (gLc mi mg me (own.map (·.2))) := by
  refine ⟨pe_lc hc hN ⟨fun pins s σ H R I ⟨cs, q⟩ => (hi cs).pi.run pins s σ H R I q⟩ ok (fun s H A cl fp => (hg [] s H A cl fp).pg) (fun s H A cl fp => pts_nil) (fun s H A cl fp => (he s H A cl fp).pe) hs, ?_⟩
  have hed := (he {} (fun _ => none) 0 [] []).sd
  generalize hvs : own.map (·.2) = vs at hj ⊢
  intro cs H0 O0 O H σ ρ κ r κ' s h Q q
  obtain ⟨ds, ei, h⟩ := bind2 h
  split at h
  · rename_i hlen
    cases el : lcGoG mg me ds (wipeE ρ vs) κ with
    | none => rw [el] at h; cases h
    | some es =>
      rw [el] at h; cases h
      refine ⟨cs, (hi cs).sd _ _ _ _ _ _ s.toSV ei _ fun J H1 e1 ok => fun Dl hD => ?_⟩
      have s1 := s.mono e1
      have hDO : Dl ∉ O := fun z => s1.dom Dl z hD
      have h0D : H0 Dl = none := Evl.fresh_back s1.base hD
      refine ⟨fun i m Hc => m = ds.length - i ∧ i ≤ ds.length ∧ ∃ cs2 O02 O2 κ2 acc da dr, GS B cs2 (upd H0 Dl (.lst acc)) O02 O2 Hc σ ρ κ2 ∧ Dl ∈ O02 ∧ Reps (cfg B cs2) (hid Hc O2) acc da ∧ da.length = i ∧
          GX H0 cs O0 O H1 cs2 (fne Dl O02) O2 Hc ∧ lcGoG mg me (ds.drop i) (wipeE ρ vs) κ2 = some (dr, es.2) ∧ es.1 = da ++ dr,
        ⟨_, rfl, Nat.zero_le _, cs, Dl :: O0, Dl :: O, κ, [], [], es.1, s1.enter hD, List.mem_cons_self, .nil, rfl, ?_, by simpa using el, rfl⟩, ?_⟩
      · refine ⟨List.prefix_refl _, (hid_new hD).trans (hid_mono (Evl.Ex.new hD)), fun a ha => mem_fne.mpr ⟨List.mem_cons_of_mem _ ha, fun z => hDO (by rw [← z]; exact s1.sub a ha)⟩, fun a ha => ?_⟩
        obtain ⟨h1, h2⟩ := mem_fne.mp ha
        rcases List.mem_cons.mp h1 with z | z
        · exact absurd z h2
        · exact .inl z
      rintro i m Hc ⟨rfl, hi', cs2, O02, O2, κ2, acc, da, dr, s2, hD2, hr, hdl, x2, hgo, hes⟩
      have hDl : Hc Dl = some (.lst acc) := s2.base Dl _ upd_same
      -- the walk stands: nothing that it walks has changed
      have exJ : Ex (hid H1 O) (hid Hc O2) := x2.ex
      have no : ∀ (i : Nat) (d : D), ρ[i]? = some (some (d, true)) → False := fun i d hi => by
        have := List.all_eq_true.mp hlen.2 _ (List.mem_of_getElem? hi)
        simp at this
      obtain ⟨okg, oks⟩ := ok Hc O2 (fun z => by cases z) exJ s2.dom i
      by_cases hlt : i < ds.length
      · have hd : ds[i]? = some ds[i] := List.getElem?_eq_getElem hlt
        obtain ⟨go, yl⟩ := okg _ hd
        rw [List.drop_eq_getElem_cons hlt] at hgo
        unfold lcGoG at hgo
        refine .inr ⟨go, fun Hn => ∃ cs2 O02 O2 κ2 acc da dr, GS B cs2 (upd H0 Dl (.lst acc)) O02 O2 Hn σ ρ κ2 ∧ Dl ∈ O02 ∧ Reps (cfg B cs2) (hid Hn O2) acc da ∧ da.length = i + 1 ∧
          GX H0 cs O0 O H1 cs2 (fne Dl O02) O2 Hn ∧ lcGoG mg me (ds.drop (i + 1)) (wipeE ρ vs) κ2 = some (dr, es.2) ∧ es.1 = da ++ dr, fun H' hn => ⟨_, by omega, rfl, hlt, hn⟩, fun x H3 y => ?_⟩
        obtain ⟨e3, rx⟩ := yl x H3 y
        have s3 := (s2.mono e3).wipe (vs := vs)
        obtain ⟨ρ1, eg, hgo⟩ := bind2 hgo
        obtain ⟨⟨⟨dz, fz⟩, κ5⟩, em, hgo⟩ := bind2 hgo
        split at hgo
        · cases hgo
        · rename_i hnb
          cases eo : lcGoG mg me (ds.drop (i + 1)) (wipeE ρ vs) κ5 with
          | none => rw [eo] at hgo; cases hgo
          | some pr =>
            rw [eo] at hgo
            simp only [Option.map_some, Option.some.injEq, Prod.mk.injEq] at hgo
            obtain ⟨g1, g2⟩ := hgo
            refine (hg cs2 {} (fun _ => none) 0 [] []).sd _ _ _ _ _ _ _ _ s3.toSV (rx.more x2.cs) eg _ fun σ2 s4 w => ⟨(w vs hj).trans wipe_wipe, ?_⟩
            have s4' : GS B cs2 (upd H0 Dl (.lst acc)) O02 O2 H3 σ2 ρ1 κ2 := ⟨⟨s4, s3.base, s3.new⟩, s3.gc, s3.c0, s3.h0⟩
            simp only [if_true, if_pos]
            refine hed _ _ _ _ _ _ _ _ _ _ s4' em _ fun v5 cs5 O05 O5 Hm5 H5 x5 s5 y5 r5 => ?_
            have s5' := s5.mono y5
            have ha5 : H5 Dl = some (.lst acc) := s5'.base Dl _ upd_same
            have hD5 : Dl ∈ O05 := x5.o0 Dl hD2
            have x5' := x5.end_ y5
            have hr5 : Reps (cfg B cs5) (hid H5 O5) acc da := x5'.reps (hr.mono (hid_mono e3))
            have rv : Rep (cfg B cs5) (hid H5 O5) v5 dz := r5.sharedF s5.dom hnb
            have so : GS B cs5 (upd H0 Dl (.lst acc)) O05 O5 H5 σ ρ κ5 := ⟨⟨⟨s2.len, s5'.dom, s5'.sub, s5'.ll, fun j d hj => by
                obtain ⟨v, q1, q2⟩ := s2.sh j d hj
                exact ⟨v, q1, x5'.rep (q2.mono (hid_mono e3))⟩, fun j d hj => (no j d hj).elim, fun j k d d' a hj => (no j d hj).elim⟩, s5'.base, s5'.new⟩, s5'.gc, s5'.c0, s5'.h0⟩
            have hDO5 := so.sub Dl hD5
            have hal := hr5.length
            refine ⟨acc, ha5, lim_lt (by have := hlen.1; omega), cs5, O05, O5, κ5, acc ++ [v5], da ++ [dz], pr.1, so.put hD5, hD5, ?_, by simp [hdl], ?_, by rw [eo, ← g2], by rw [hes, ← g1]; simp⟩
            · rw [hid_upd hDO5]; exact hr5.append (.cons rv .nil)
            · refine ⟨x2.cs.trans x5.cs, ?_, fun a ha => ?_, fun a ha => ?_⟩
              · rw [hid_upd hDO5]
                exact (x2.ex.trans (hid_mono e3)).trans x5'.ex
              · obtain ⟨q1, q2⟩ := mem_fne.mp (x2.o0 a ha)
                exact mem_fne.mpr ⟨x5.o0 a q1, q2⟩
              · obtain ⟨q1, q2⟩ := mem_fne.mp ha
                rcases x5.n0 a q1 with z | z
                · exact x2.n0 a (mem_fne.mpr ⟨z, q2⟩)
                · rw [upd_ne q2] at z; exact .inr z
      · have hie : ds.length ≤ i := by omega
        rw [List.drop_eq_nil_of_le hie] at hgo
        simp only [lcGoG, Option.some.injEq, Prod.mk.injEq] at hgo
        obtain ⟨g1, g2⟩ := hgo
        rw [← g1, List.append_nil] at hes
        obtain ⟨l1, l2, l3, l4⟩ := s2.leave h0D hD2
        subst g2
        refine .inl ⟨oks hie, q _ _ _ _ _ _ ?_ l1 l3 ?_⟩
        · refine ⟨x2.cs, ?_, x2.o0, x2.n0⟩
          rw [hid_rm (s2.sub Dl hD2)]
          exact (hid_mono e1).trans x2.ex
        · rw [hes]
          refine .fresh l2 l4 (hr.mono (hid_sub fun b hb => ?_))
          rcases List.mem_cons.mp hb with rfl | hb
          · exact s2.sub _ hD2
          · exact (mem_fne.mp hb).1
  · cases h
end
end Dt

set_option maxRecDepth 100000
set_option maxHeartbeats 4000000
namespace Dt
open PySem PySem.Spec PyProof.Rows L2
open Evl (Ex)
section
variable {C : Cfg} {K : PySem.W.Frag} {X : Cx} {O0 O O' : List Addr} {H0 H H' H1 : Hp} {σ : L2.St} {ρ : E}
variable {a b c e o : Expr} {es : List Expr} {ta tb te to : TE} {ma mb me mo : M} {t : TA} {n : As} {p p1 p2 p3 pos pos2 apos cpos : Pos} {kk : Nat}
/-! ### an object's own ==, with any answer, against a thing of any kind -/
def spB (R : V → V → Hp → Bool → Prop) : Sp := fun us Hh Qk _ => ∃ x y r, us = [x, y] ∧ R x y Hh r ∧ ∀ H2, Ext Hh H2 → Qk (.bl r) H2
def rEqB (K : PySem.W.Frag) (Cl : Addr) (R : V → V → Hp → Bool → Prop) : R2 := fun x y Hh Qk =>
  ∃ a dx fs t r, x = .ref a ∧ Hh a = some (.ins Cl dx fs) ∧ TyX K Hh y t ∧ PySem.W.notFirst K Cl t = true ∧ R x y Hh r ∧ ∀ H2, Ext Hh H2 → Qk (.bl r) H2
theorem op_eqB {CX : CXT} {Cl f : Addr} {fd : FuncData} {ps : List Str} {k : Nat} {R : V → V → Hp → Bool → Prop} {Z : XK}
    (F : FnOk X.prog X.w X.K X.mg X.base CX k f fd ps (spB R)) (hs : PySem.W.findIn X.K (.ref Cl) "__eq__" = some (some (.ref f)))
    (hf : PySem.W.isFn X.K (.ref f) = true) (hb : Binds X.K fd ps []) (hx : Passes CX X Z) (hr : Room k X.A) : OpR X (compareOp .Eq) (rEqB X.K Cl R) := by
  intro pins s σ Hh x y v u Qk I rx ry hq
  obtain ⟨a, dx, fs, t, r, rfl, ha, ty, hn, hR, q⟩ := hq
  cases (show v = Value.ref a from rx)
  obtain ⟨mA, Ja, _⟩ := ins_get I.hok ha
  obtain ⟨od, Ja, _⟩ := Ja.look
  obtain ⟨Ph, Kx, hp, _⟩ := kit_of I ry ty
  obtain ⟨mm, hFr⟩ := I.fr
  show wpAny (model X.prog X.w) X.A (richCompare .Eq (.ref a) u) (EP X pins σ Qk) X.xe s
  refine PySem.W.cmp_K (op := .Eq) (tb := t) hr.units0 hFr I.ok.mod.kin Ja (Kx.ty _ _ I.kIn hp) hn hs hf ?_
  have hsp : spB R [.ref a, y] Hh (fun w H2 => w = .bl r ∧ Ext Hh H2) Z := ⟨_, _, r, rfl, hR, fun H2 e => ⟨rfl, e⟩⟩
  have hl := F.len _ _ _ _ hsp
  have rs : Vals [V.ref a, y] [Value.ref a, u] := .cons rfl (.cons ry .nil)
  refine wpAny_call (codeAny_mono (F.run X.A X.stack s Hh ⟨[.ref a, u], []⟩ [.ref a, u] [.ref a, y] _ Z hr I.env0 (by
    have z := hb s [.ref a, u] I.kIn (by simpa using hl)
    simpa using z) rs hsp) fun o s2 hq => ?_)
  cases o with
  | error e => exact hx pins σ Hh s e s2 I hq
  | ok fl =>
    cases fl with
    | ret w =>
      obtain ⟨z, H2, I2, rz, ez, ex⟩ := I.after hq
      subst ez
      cases rz
      exact ⟨.bl r, H2, I2, rfl, q H2 ex⟩
    | next => exact hq.elim
    | brk => exact hq.elim
    | cont => exact hq.elim
/-! ### a network == anything -/
def relB (C : Cfg) (F : FD) (x y : V) (Hh : Hp) (r : Bool) : Prop := ∃ d e, Rep C Hh x d ∧ Rep C Hh y e ∧ F [d, e] = some (.bl r, false)
def kindsB : List String := ["NoneType", "bool", "int", "str", "tuple", "list"]
def fNetB (F : FD) : F2 := fun x y => if isNetD x.1 && (isNetD y.1 || (tyName y.1).isSome) then match F [x.1, y.1] with | some (.bl r, false) => some (.bl r, .pure) | _ => none else none
theorem ty_in {d : D} {s : String} (h : tyName d = some s) : s ∈ kindsB := by
  cases d <;> cases h <;> decide
theorem nf_ty {Cl : Addr} {s : String} (h : s ∈ kindsB) : PySem.W.notFirst K Cl (.type s) = true := by
  simp only [kindsB, List.mem_cons, List.not_mem_nil, or_false] at h
  rcases h with rfl | rfl | rfl | rfl | rfl | rfl <;> rfl
theorem kit_tyB {Cl : Addr} {s : String} (hc : ((PySem.W.clsIn K Cl).isSome && PySem.W.typeIn K (.ref Cl) == some (.type "type")) = true) (h : s ∈ kindsB) : PySem.W.kitOne K (.type s) (.ref Cl) = some false := by
  have e : PySem.W.kitCls K (.type s) (.ref Cl) = PySem.W.subIn K (.type s) (.ref Cl) := by
    unfold PySem.W.kitCls
    exact if_pos hc
  simp only [kindsB, List.mem_cons, List.not_mem_nil, or_false] at h
  rcases h with rfl | rfl | rfl | rfl | rfl | rfl <;> exact e
theorem cb_of {Cl : Addr} (h1 : PySem.W.isClsIn K Cl = true) (h2 : PySem.W.typeIn K (.ref Cl) = some (.type "type")) : ((PySem.W.clsIn K Cl).isSome && PySem.W.typeIn K (.ref Cl) == some (.type "type")) = true := by
  rw [show (PySem.W.clsIn K Cl).isSome = true from h1, h2]; rfl
theorem vr_netB {F : FD} (N : NetC K C.net) : VR C (rEqB K C.net (relB C F)) (fNetB F) := by
  intro O0 O H H' x y rx ry rz c c' e r1 r2 hf Q q
  unfold fNetB at hf
  split at hf
  · rename_i hk
    simp only [Bool.and_eq_true] at hk
    obtain ⟨d1, f1⟩ := rx
    obtain ⟨d2, f2⟩ := ry
    obtain ⟨w1, c1, rfl⟩ : ∃ w c, d1 = .net w c := by
      cases d1 <;> first | exact ⟨_, _, rfl⟩ | (simp [isNetD] at hk)
    split at hf
    · rename_i r hF
      cases hf
      have g1 := r1.full
      have g2 := r2.full
      obtain ⟨a, dx, xx, rfl, h1, _⟩ := r1.netE
      have fin : ∀ t, TyX K H' y t → PySem.W.notFirst K C.net t = true → rEqB K C.net (relB C F) (.ref a) y H' Q := fun t h2 h3 =>
        ⟨a, dx, _, t, r, rfl, h1, h2, h3, ⟨_, _, g1, g2, hF⟩, fun H2 x => q _ _ x .bl⟩
      rcases Bool.or_eq_true_iff.mp hk.2 with z | z
      · obtain ⟨w2, c2, rfl⟩ : ∃ w c, d2 = .net w c := by
          cases d2 <;> first | exact ⟨_, _, rfl⟩ | (simp [isNetD] at z)
        obtain ⟨b, dy, yy, rfl, h2, _⟩ := r2.netE
        exact fin (.ref C.net) (.base (.ins h2 N.cl N.ha N.hn N.ht N.hm)) (by unfold PySem.W.notFirst; simp)
      · cases en : tyName d2 with
        | none => rw [show tyName (d2, f2).1 = none from en] at z; cases z
        | some s => exact fin (.type s) (ty_of en g2) (nf_ty (ty_in en))
    · cases hf
  · cases hf
theorem FnB {P : Program} {w : World} {mg : Str → Option Value} {base : Heap} {k : Nat} {f : Addr} {fd : FuncData} {ps : List Str} {F : FD} (G : FnOk P w K mg base CX0 k f fd ps (spD C 2 F)) : FnOk P w K mg base CX0 k f fd ps (spB (relB C F)) :=
  G.imp fun vs H Q E ⟨x, y, r, hv, ⟨d, e, r1, r2, hF⟩, q⟩ => by
    subst hv
    refine ⟨[], [d, e], .bl r, false, rfl, (fun a h => by cases h), .cons ?_ (.cons ?_ .nil), hF, fun v H' x r' => ?_⟩
    · exact r1.mono fun a o h => by rw [hid_out (by simp)]; exact h
    · exact r2.mono fun a o h => by rw [hid_out (by simp)]; exact h
    · have r2 : Rep C (hid H' []) v (.bl r) := r'
      cases r2
      exact q H' x
theorem de_netB {k : Nat} {st : Stmt} {ps : List Str} {F : FD} {A : MethAt X.K C.net "__eq__" "Network.__eq__" st ps} (N : NetC X.K C.net) (G : FnOk X.prog X.w X.K X.mg X.base CX0 k A.f A.fd ps (spD C 2 F)) (hr : Room k X.A) (ha : DE C X a ta ma) (hb : DE C X b tb mb) :
    DE C X (.Compare a [.Eq] [b] pos) (tOp (rEqB X.K C.net (relB C F)) ta tb) (mOp (fNetB F) ma mb) :=
  de_cmp (op_eqB (FnB G) A.me.at_ A.me.fn A.b pass0 hr) (vr_netB N) ha hb
def mIsNetB (m : M) : M := fun ρ => (m ρ).bind fun r => match r.1 with | .net _ _ => some (.bl true, .pure) | d => if (tyName d).isSome then some (.bl false, .pure) else none
theorem de_isNetB {p2 : Pos} (N : NetC K C.net) (hcb : ((PySem.W.clsIn K C.net).isSome && PySem.W.typeIn K (.ref C.net) == some (.type "type")) = true) (hK : X.K = K) (hg : Gl X "isinstance") (hm : X.mg "isinstance" = none) (hg2 : Gl X "Network") (hm2 : X.mg "Network" = some (.ref C.net)) (ha : DE C X a ta ma)
    (hs : starEach [a, .Name "Network" p2] X.env = (false, eval a X.env) :: starEach [.Name "Network" p2] X.env := by rfl) (hs2 : starEach [.Name "Network" p2] X.env = (false, eval (.Name "Network" p2) X.env) :: starEach [] X.env := by rfl)
    (hpl : (backTo pos (starEach [.Name "Network" p2] X.env)).any (·.1) = false := by rfl) :
    DE C X (.Call (.Name "isinstance" p) [a, .Name "Network" p2] [] pos) (tCB (rIsi K) (tCons ta (tCons (tC (.ref C.net)) tNil))) (mIsNetB ma) := by
  subst hK
  refine ⟨pe_callB call_isi hg hm (by decide +kernel) (pa_cons ha.pe (pa_cons (pe_glob hg2 hm2 rfl (by decide)) pa_nil hs2) hs) (by decide) (by decide) hs hpl, fun O0 O H σ ρ r s h1 Q q => ?_⟩
  unfold mIsNetB at h1
  cases ea : ma ρ with
  | none => rw [ea] at h1; cases h1
  | some rx =>
    rw [ea] at h1
    obtain ⟨d, fl⟩ := rx
    have oth : ∀ sn, tyName d = some sn → r = (.bl false, .pure) → tCB (rIsi X.K) (tCons ta (tCons (tC (.ref C.net)) tNil)) σ H Q := fun sn en hr => by
      subst hr
      refine ha.sd _ _ _ _ _ _ s ea _ fun v H1 e1 r1 => ?_
      exact ⟨v, .ref C.net, .type sn, .ref C.net, false, rfl, .own C.net, ty_of en r1.full, kit_tyB hcb (ty_in en), q _ _ e1 .bl⟩
    cases d with
    | net w c =>
      cases h1
      refine ha.sd _ _ _ _ _ _ s ea _ fun v H1 e1 r1 => ?_
      obtain ⟨a', dx, x, rfl, h2, _⟩ := r1.netE
      exact ⟨.ref a', .ref C.net, .ref C.net, .ref C.net, true, rfl, .own C.net, .base (.ins h2 N.cl N.ha N.hn N.ht N.hm), N.hk, q _ _ e1 .bl⟩
    | non => exact oth _ rfl (Option.some.inj h1).symm
    | bl _ => exact oth _ rfl (Option.some.inj h1).symm
    | int _ => exact oth _ rfl (Option.some.inj h1).symm
    | str _ => exact oth _ rfl (Option.some.inj h1).symm
    | tup _ => exact oth _ rfl (Option.some.inj h1).symm
    | lst _ => exact oth _ rfl (Option.some.inj h1).symm
    | _ => cases h1
end
end Dt

set_option maxRecDepth 100000
set_option maxHeartbeats 4000000
namespace Dt
open PySem PySem.Spec PyProof.Rows L2
open Evl (Ex)
section
variable {C : Cfg} {K : PySem.W.Frag} {X : Cx} {O0 O O' : List Addr} {H0 H H' H1 : Hp} {σ : L2.St} {ρ : E}
variable {a b c e o : Expr} {es : List Expr} {ta tb te to : TE} {ma mb me mo : M} {t : TA} {n : As} {p p1 p2 p3 pos pos2 apos cpos : Pos} {kk : Nat}
/-! ### texts: +, str of an int, f-strings, join -/
def fCatS : F2 := fun x y => match x.1, y.1 with
  | .str i, .str j => if i.length + j.length ≤ 1000000 then some (.str (i ++ j), .pure) else none
  | _, _ => none
theorem vr_catS : VR C (fun x y Hh Qk => ∃ i j, x = .str i ∧ y = .str j ∧ i.length + j.length ≤ sizeLine ∧ Qk (.str (i ++ j)) Hh) fCatS := by
  intro O0 O H H' x y rx ry rz c c' e r1 r2 hf Q q
  obtain ⟨d1, f1⟩ := rx
  obtain ⟨d2, f2⟩ := ry
  unfold fCatS at hf
  split at hf
  · rename_i i j h1 h2
    cases (show d1 = .str i from h1)
    cases (show d2 = .str j from h2)
    split at hf
    · rename_i hl
      cases hf
      exact ⟨i, j, r1.strE, r2.strE, Nat.le_trans hl (by decide), q _ _ (fun _ _ z => z) (.pure (.str _))⟩
    · cases hf
  · cases hf
theorem de_addS (ha : DE C X a ta ma) (hb : DE C X b tb mb) : DE C X (.BinOp a .Add b pos) (tOp (fun x y Hh Qk => ∃ i j, x = .str i ∧ y = .str j ∧ i.length + j.length ≤ sizeLine ∧ Qk (.str (i ++ j)) Hh) ta tb) (mOp fCatS ma mb) :=
  de_op op_add_str vr_catS ha hb
def smallS (i : Int) : Bool := decide (i.natAbs < 2 ^ 100)
theorem smallS_log {i : Int} (h : smallS i = true) : i.natAbs.log2 < 1920 := by
  have h : i.natAbs < 2 ^ 100 := of_decide_eq_true h
  by_cases h0 : i.natAbs = 0
  · rw [h0]; decide
  · have := (Nat.log2_lt h0).mpr h; omega
def fStrI : FN := fun rs => match rs with
  | [(.int i, _)] => if smallS i then some (.str (toString i), .pure) else none
  | _ => none
theorem vc_strI : VC C (fun xs Hh Qk => ∃ i, xs = [.int i] ∧ i.natAbs.log2 < 1920 ∧ Qk (.str (toString i)) Hh) fStrI := by
  intro O0 O H H' vs rs rz c c' e r1 hf Q q
  unfold fStrI at hf
  split at hf
  · rename_i i fl
    split at hf
    · rename_i hs
      cases hf
      obtain ⟨v, rfl, h⟩ := ress1 r1
      exact ⟨i, by rw [h.intE], smallS_log hs, q _ _ (fun _ _ z => z) (.pure (.str _))⟩
    · cases hf
  · cases hf
theorem de_strI (hg : Gl X "str") (hm : X.mg "str" = none) (ha : DA C X [e] t n)
    (he : starEach [e] X.env = (false, eval e X.env) :: starEach [] X.env := by rfl) (hpl : (backTo pos (starEach [] X.env)).any (·.1) = false := by rfl) : DE C X (.Call (.Name "str" p) [e] [] pos) (tCB (fun xs Hh Qk => ∃ i, xs = [.int i] ∧ i.natAbs.log2 < 1920 ∧ Qk (.str (toString i)) Hh) t) (mFn fStrI n) :=
  de_callTy call_str_int vc_strI hg hm (by decide +kernel) ha (he := he) (hpl := hpl)
def mFmt (m : M) : M := fun ρ => (m ρ).bind fun r => match r.1 with
  | .int i => if smallS i then some (.str (toString i), .pure) else none
  | _ => none
theorem de_fmt (ha : DE C X a ta ma) : DE C X (.FormattedValue a (-1) none pos) (tFmt ta) (mFmt ma) := by
  refine ⟨pe_fmt ha.pe, fun O0 O H σ ρ r s h Q q => ?_⟩
  unfold mFmt at h
  obtain ⟨⟨d, fl⟩, ea, h⟩ := bind2 h
  cases d with
  | int i =>
    replace h : (if smallS i = true then some ((.str (toString i), .pure) : D × Fl) else none) = some r := h
    split at h
    · rename_i hs
      cases h
      refine ha.sd _ _ _ _ _ _ s ea _ fun v H1 e1 r1 => ?_
      exact .inr ⟨i, r1.intE, smallS_log hs, q _ _ e1 (.pure (.str _))⟩
    · cases h
  | _ => cases h
/-- the parts of an f-string -/
inductive DJ (C : Cfg) (X : Cx) : List Expr → List TE → List M → Prop where
  | nil : DJ C X [] [] []
  | cons {e : Expr} {t : TE} {m : M} {es : List Expr} {ts : List TE} {ms : List M} (h : DE C X e t m) (r : DJ C X es ts ms) : DJ C X (e :: es) (t :: ts) (m :: ms)
theorem DJ.pj {es : List Expr} {ts : List TE} {ms : List M} (h : DJ C X es ts ms) : PJ X es ts := by
  induction h with
  | nil => exact .nil
  | cons h _ ih => exact .cons h.pe ih
def jsGo : List M → Str → E → Option Str
  | [], acc, _ => some acc
  | m :: ms, acc, ρ => (m ρ).bind fun r => match r.1 with
    | .str y => if (acc ++ y).length ≤ 1000000 then jsGo ms (acc ++ y) ρ else none
    | _ => none
def mJs (ms : List M) : M := fun ρ => (jsGo ms Str.empty ρ).map fun s => (.str s, .pure)
theorem dj_go {es : List Expr} {ts : List TE} {ms : List M} (h : DJ C X es ts ms) : ∀ {O0 O : List Addr} {H0 H : Hp} {σ : L2.St} {ρ : E} {acc out : Str}, SV C O0 O H σ ρ → jsGo ms acc ρ = some out → ∀ Q : Str → Hp → Prop, (∀ H', Ex H H' → Q out H') → tJs ts acc σ H Q := by
  induction h with
  | nil => intro O0 O H0 H σ ρ acc out s h Q q; cases h; exact q H fun _ _ z => z
  | @cons e t m es ts ms hd r ih =>
    intro O0 O H0 H σ ρ acc out s h Q q
    unfold jsGo at h
    obtain ⟨⟨d, fl⟩, ea, h⟩ := bind2 h
    cases d with
    | str y =>
      replace h : (if (acc ++ y).length ≤ 1000000 then jsGo ms (acc ++ y) ρ else none) = some out := h
      split at h
      · rename_i hl
        refine hd.sd _ _ _ _ _ _ s ea _ fun v H1 e1 r1 => ?_
        exact ⟨y, r1.strE, Nat.le_trans hl (by decide), ih (H0 := H0) (s.mono e1) h Q fun H2 e2 => q H2 (e1.trans e2)⟩
      · cases h
    | _ => cases h
theorem de_joined {v1 v2 : Expr} {rest : List Expr} {ts : List TE} {ms : List M} (h : DJ C X (v1 :: v2 :: rest) ts ms) : DE C X (.JoinedStr (v1 :: v2 :: rest) pos) (fun σ Hh Qk => tJs ts Str.empty σ Hh fun out H1 => Qk (.str out) H1) (mJs ms) := by
  refine ⟨pe_joined h.pj, fun O0 O H σ ρ r s hm Q q => ?_⟩
  unfold mJs at hm
  cases eg : jsGo ms Str.empty ρ with
  | none => rw [eg] at hm; cases hm
  | some out =>
    rw [eg] at hm
    cases hm
    exact dj_go (H0 := H) h s eg _ fun H' e => q _ _ e (.pure (.str _))
def strsD : List D → Option (List Str)
  | [] => some []
  | .str y :: ds => (strsD ds).map fun ys => y :: ys
  | _ :: _ => none
theorem strsD_vals : ∀ {ds : List D} {xs : List V} {ys : List Str}, Reps C H xs ds → strsD ds = some ys → xs = ys.map V.str
  | [], _, ys, r, h => by cases r; cases h; rfl
  | d :: ds, _, ys, r, h => by
    cases r with
    | cons r1 r2 =>
      cases d with
      | str y =>
        cases e : strsD ds with
        | none => simp only [strsD, e, Option.map_none] at h; cases h
        | some zs =>
          simp only [strsD, e, Option.map_some] at h
          cases h
          cases r1
          rw [strsD_vals r2 e]; rfl
      | _ => cases h
def mJoin (mo me : M) : M := fun ρ => (mo ρ).bind fun x => (me ρ).bind fun y => match x.1, y.1 with
  | .str a, .lst ds => (strsD ds).bind fun ys => if (ys.map (·.length)).sum + ys.length * a.length ≤ 1000000 then some (.str (Txt.join a ys), .pure) else none
  | _, _ => none
theorem de_join (hK : X.K = K) (ho : DE C X o to mo) (he : DE C X e te me) (hs : starEach [e] X.env = [(false, eval e X.env)] := by rfl) (hbase : attributeBase o "join" X.env (eval o X.env) = eval o X.env := by rfl) (hline : (apos.endLine == pos.line) = true := by rfl) :
    DE C X (.Call (.Attribute o "join" apos) [e] [] pos) (tM1 (fun x xs Hh Qk => ∃ a p, ∃ ys : List Str, x = .str a ∧ xs = [.ref p] ∧ (SqL K Hh p (ys.map V.str) ∨ SqT K Hh p (ys.map V.str)) ∧
      (ys.map (·.length)).sum + ys.length * a.length ≤ 16777216 ∧ Qk (.str (Txt.join a ys)) Hh) to te) (mJoin mo me) := by
  subst hK
  refine ⟨pe_join ho.pe he.pe hs hbase hline, fun O0 O H σ ρ r s h Q q => ?_⟩
  unfold mJoin at h
  obtain ⟨⟨d1, f1⟩, ea, h⟩ := bind2 h
  obtain ⟨⟨d2, f2⟩, eb, h⟩ := bind2 h
  cases d1 with
  | str a =>
    cases d2 with
    | lst ds =>
      replace h : ((strsD ds).bind fun ys => if (ys.map (·.length)).sum + ys.length * a.length ≤ 1000000 then some ((.str (Txt.join a ys), .pure) : D × Fl) else none) = some r := h
      obtain ⟨ys, ey, h⟩ := bind2 h
      split at h
      · rename_i hl
        cases h
        refine ho.sd _ _ _ _ _ _ s ea _ fun v H1 e1 r1 => ?_
        refine ⟨⟨a, r1.strE⟩, ?_⟩
        refine he.sd _ _ _ _ _ _ (s.mono e1) eb _ fun w H2 e2 r2 => ?_
        obtain ⟨p, xs, rfl, g1, g2⟩ := r2.lstE
        refine ⟨a, p, ys, r1.strE, rfl, .inl (.inl (.inl ?_)), Nat.le_trans hl (by decide), q _ _ (e1.trans e2) (.pure (.str _))⟩
        rw [← strsD_vals g2 ey]; exact g1
      · cases h
    | _ => cases h
  | _ => cases h
end
end Dt

set_option maxRecDepth 100000
set_option maxHeartbeats 2000000
namespace Dt
open PySem PySem.Spec PyProof.Rows L2
open Evl (Ex)
/-! a walk over a numbered list, turn by turn -/
def forCGo (g : D → E → Option E) (m : SG) (n : Nat) : Nat → Nat → E → Ce → Option GOut
  | 0, _, _, _ => none
  | f + 1, i, ρ, κ => (κ[n]?).bind fun ds => match ds[i]? with
    | none => some (.nx ρ κ)
    | some d => (g d ρ).bind fun ρ1 => (m ρ1 κ).bind fun o => match o with | .nx ρ2 κ2 => forCGo g m n f (i + 1) ρ2 κ2 | .bk ρ2 κ2 => some (.nx ρ2 κ2) | .rt d f κ2 => some (.rt d f κ2)
def hForC (N : Nat) (mo : MG) (g : D → E → Option E) (m : SG) : SG := fun ρ κ => (mo ρ κ).bind fun p => match p.1 with
  | (.hol n, .pure) => forCGo g m n N 0 ρ p.2
  | _ => none
section
variable {B : Cfg} {X : Cx} {m : SG} {mo : MG} {to : TE} {o : Expr} {apos cpos pos : Pos}
theorem dh_forC (N : Nat) {tg iter : Expr} {body : List Stmt} {g : TG} {tb : TS} {mg : D → E → Option E} (hK : X.K = B.K) (hp : PassesOwn (model X.prog X.w) X.A X.env X.xe) (hc : X.calm = true) (hi : GE B X iter to mo) (hg : GTg B X tg g mg) (hb : DGs1 B X body tb m)
    (hs : ∀ x, foldedSetIterable iter X.env x = pure x := by intro _; rfl) : DG1 B X (.For tg iter body [] pos) (tFor (iList X.K to) g tb) (hForC N mo mg m) := by
  refine ⟨ps_for hp hc (pi_list hi.pe) (hg.h []).pg hb.ps hs, fun cs H0 O0 O H σ ρ κ o s h D gq => ?_⟩
  obtain ⟨⟨⟨d, fl⟩, κ1⟩, e1, h⟩ := bind2 h
  split at h
  · rename_i n eq
    cases eq
    refine hi.sd _ _ _ _ _ _ _ _ _ _ s e1 _ fun v cs1 O01 O1 Hm1 H1 x1 s1 y1 r1 => ?_
    cases r1 with
    | pure r1 =>
      cases r1 with
      | @hol _ a hc =>
        replace hc : cs1[n]? = some a := hc
        have s1' := s1.mono y1
        have hk : n < κ1.length := by rw [← s1'.gc.len]; exact (List.getElem?_eq_some_iff.mp hc).1
        obtain ⟨xs1, c1, _⟩ := s1'.gc.at_ n a _ hc (List.getElem?_eq_getElem hk)
        have x1' := x1.end_ y1
        refine ⟨a, rfl, ⟨xs1, .inl (.inl c1)⟩, fun i f σ' Hc => ∃ cs2 O02 O2 ρ2 κ2, GS B cs2 H0 O02 O2 Hc σ' ρ2 κ2 ∧ GX H0 cs1 O01 O1 H1 cs2 O02 O2 Hc ∧ forCGo mg m n f i ρ2 κ2 = some o, ⟨_, cs1, O01, O1, ρ, κ1, s1', .refl, h⟩, ?_⟩
        rintro i f σ' Hc ⟨cs2, O02, O2, ρ2, κ2, s2, x2, hgo⟩
        cases f with
        | zero => cases hgo
        | succ f =>
          unfold forCGo at hgo
          obtain ⟨ds, ek, hgo⟩ := bind2 hgo
          have hc2 : cs2[n]? = some a := pre_get x2.cs hc
          obtain ⟨xs2, c2, c3⟩ := s2.gc.at_ n a _ hc2 ek
          cases ed : ds[i]? with
          | none =>
            rw [ed] at hgo
            cases hgo
            refine .inl ⟨⟨xs2, .inl (.inl c2), ?_⟩, gq _ _ _ _ _ (x1'.trans x2) s2⟩
            rw [c3.length]; exact List.getElem?_eq_none_iff.mp ed
          | some d =>
            rw [ed] at hgo
            obtain ⟨v, e3, r3⟩ := c3.get ed
            obtain ⟨ρ3, eg, hgo⟩ := bind2 hgo
            obtain ⟨o1, em, hgo⟩ := bind2 hgo
            refine .inr ⟨⟨xs2, v, .inl (.inl c2), e3⟩, fun σ3 H3 => ∃ cs3 O03 O3 ρ3 κ3, GS B cs3 H0 O03 O3 H3 σ3 ρ3 κ3 ∧ GX H0 cs1 O01 O1 H1 cs3 O03 O3 H3 ∧ forCGo mg m n f (i + 1) ρ3 κ3 = some o, fun σ3 H3 hn => ⟨f, Nat.lt_succ_self _, hn⟩, fun x H3 y => ?_⟩
            obtain ⟨rfl, y⟩ := y
            have yx := y xs2 (.inl (.inl c2))
            rw [e3] at yx
            cases yx
            refine hg.sd s2 r3 eg fun O4 σ4 H4 x4 s4 => ?_
            have x14 := x2.trans x4
            refine hb.sd _ _ _ _ _ _ _ _ _ s4 em _ ?_
            cases o1 with
            | nx ρ5 κ5 => exact fun cs5 O05 O5 H5 σ5 x5 s5 => ⟨cs5, O05, O5, ρ5, κ5, s5, x14.trans x5, hgo⟩
            | rt d f κ5 => cases hgo; exact fun v cs5 O05 O5 Hm5 H5 σ5 ρ5 x5 => gq v cs5 O05 O5 Hm5 H5 σ5 ρ5 (x1'.trans (x14.trans x5))
            | bk ρ5 κ5 => cases hgo; exact fun cs5 O05 O5 H5 σ5 x5 s5 => gq cs5 O05 O5 H5 σ5 (x1'.trans (x14.trans x5)) s5
  · cases h
/-! o.reverse() -/
def fRevC : List D → List D → Option (D × List D) := fun cs ds => match ds with | [] => some (.non, cs.reverse) | _ => none
theorem reps_rev {C : Cfg} {H : Hp} : ∀ {ds : List D} {vs : List V}, Reps C H vs ds → Reps C H vs.reverse ds.reverse
  | [], _, h => by cases h; exact .nil
  | d :: ds, _, h => by
    cases h with
    | cons h1 h2 => rw [List.reverse_cons, List.reverse_cons]; exact (reps_rev h2).append (.cons h1 .nil)
theorem ok_revC : MtOk fRevC rReverse := by
  intro C H' Hh a xs ys cs ds ret cs' h r1 r2 hf
  unfold fRevC at hf
  split at hf
  · cases hf
    cases r2
    exact ⟨.non, _, reps_rev r1, .non, fun Q q => ⟨a, xs, rfl, rfl, h, q⟩⟩
  · cases hf
theorem ge_revC (ho : GE B X o to mo) (hbase : attributeBase o "reverse" X.env (eval o X.env) = eval o X.env := by rfl) (hline : (apos.endLine == cpos.line) = true := by rfl) :
    GE B X (.Call (.Attribute o "reverse" apos) [] [] cpos) (tBM0 X.K "list" rReverse to) (gMt fRevC mo agNil) :=
  ge_mt0 ok_revC PySem.F.plainAttrs_list PySem.F.slot_list_reverse PySem.F.type_list_reverse mt_reverse ho hbase hline
end
end Dt

set_option maxRecDepth 100000
set_option maxHeartbeats 2000000
namespace Dt
open PySem PySem.Spec PyProof.Rows L2
open Evl (Ex)
/-! defs that raise an error of the program -/
structure ErrC (K : PySem.W.Frag) (mg : Str → Option Value) (x : Str) (A : Addr) : Prop where
  g : mg x = some (.ref A)
  n : PySem.W.excIn K A [.type "ValueError", .type "Exception", .type "BaseException", .type "object"] "ValueError.__new__" = true
  k : PySem.W.keepIn K (.ref A) = true
  b : PySem.W.subIn K (.ref A) (.type "BaseException") = some true
  t : PySem.W.typeIn K (.ref A) = some (.type "type")
def okP (w i j : Int) : Bool := decide (0 ≤ i ∧ i < w ∧ 0 ≤ j ∧ j < w ∧ i ≠ j)
def spChk (IN : Addr) : Sp := fun us Hh Qk Ek => ∃ w i j : Int, us = [.int w, .int i, .int j] ∧ (okP w i j = true → ∀ H2, Ext Hh H2 → Qk .non H2) ∧ (okP w i j = false → ∀ H2, Ext Hh H2 → Ek (.ref IN) none H2)
def rz (IN : Addr) (Ek : XK) : TS := fun _ _ Hh => Ek (.ref IN) none Hh
section
variable {P : Program} {w : World} {K : PySem.W.Frag} {mg : Str → Option Value} {base : Heap} {C : Cfg} {IN : Addr}
abbrev cxE (P : Program) (w : World) (K : PySem.W.Frag) (mg : Str → Option Value) (base : Heap) (N : List Str) (qual : Str) (st : Stmt) (f : Addr) (cdv : Value) (A : Around) (outer : List Env) (s : Shared) (Hh : Hp) (Ek : XK) : Cx := cxOf (L2.CX P w) P w K mg base N qual (defScope st) f cdv A outer s Hh Ek
theorem pss_rz {x m : Str} {j : Nat} {p p2 pos pos' : Pos} {N : List Str} {qual : Str} {st : Stmt} {f : Addr} {cdv : Value} {A : Around} {outer : List Env} {s : Shared} {Hh : Hp} {Ek : XK} (T : ErrC K mg x IN)
    (hg : Gl (cxE P w K mg base N qual st f cdv A outer s Hh Ek) x) (hdb : (x == ("__debug__" : Str)) = false := by decide) :
    PSs (cxE P w K mg base N qual st f cdv A outer s Hh Ek) [.Raise (some (.Call (.Name x p) [.Constant (.str m) j p2] [] pos)) none pos'] (rz IN Ek) :=
  pss_one (ps_raise rfl (takes_of rfl rfl rfl rfl) (pmk_own PySem.F.excBase_ValueError T.n T.g T.k (raises_own T.b T.t) hg hdb))
theorem chk_okX {st : Stmt} {f : Addr} {fd : FuncData} {N : List Str} {k : Nat} {c1 c2 : Expr} {r1 r2 : List Stmt} {q1 q2 : Pos} {m1 m2 : B} (F : Fun K "_check_comparer" "_check_comparer" st f fd) (Sc : FnScope N ["wires", "i", "j"] (defScope st)) (hN : N.length = 3)
    (hbody : defBody st = [.If c1 r1 [] q1, .If c2 r2 [] q2])
    (hb : ∀ (cdv : Value) (A : Around) (outer : List Env) (s : Shared) (Hh : Hp) (Ek : XK), Room k (A.deeper (envOfC "_check_comparer" (defScope st) s.heap.objs.size f cdv)) →
      ∃ t1 t2, DT C (cxE P w K mg base N "_check_comparer" st f cdv A outer s Hh Ek) c1 t1 m1 ∧ DT C (cxE P w K mg base N "_check_comparer" st f cdv A outer s Hh Ek) c2 t2 m2 ∧
        PSs (cxE P w K mg base N "_check_comparer" st f cdv A outer s Hh Ek) r1 (rz IN Ek) ∧ PSs (cxE P w K mg base N "_check_comparer" st f cdv A outer s Hh Ek) r2 (rz IN Ek))
    (hm : ∀ x i j : Int, (m1 [some (.int x, false), some (.int i, false), some (.int j, false)] = some true ∧ okP x i j = false) ∨
      (m1 [some (.int x, false), some (.int i, false), some (.int j, false)] = some false ∧ m2 [some (.int x, false), some (.int i, false), some (.int j, false)] = some (!okP x i j))) :
    FnOk P w K mg base (L2.CX P w) (k + 1) f fd ["wires", "i", "j"] (spChk IN) := by
  refine F.okX Sc (fun vs H Q E h => by obtain ⟨_, _, _, rfl, _⟩ := h; rfl) fun cdv A outer s Hh vs Q E hr h => ?_
  obtain ⟨x, i, j, rfl, hq, he⟩ := h
  obtain ⟨t1, t2, d1, d2, p1, p2⟩ := hb cdv A outer s Hh E hr
  rw [hbody]
  refine ⟨_, pss_cons (ps_if d1.pt p1 pss_nil) (pss_one (ps_if d2.pt p2 pss_nil)), ?_⟩
  have s0 : SV C [] [] Hh (L2.start N [.int x, .int i, .int j]) [some (.int x, false), some (.int i, false), some (.int j, false)] := by
    have := (start_ss (C := C) (H := Hh) (H0 := Hh) (O := []) (N := N) (vs := [.int x, .int i, .int j]) (ds := [.int x, .int i, .int j]) (Evl.Ex.refl _) (fun a h => by cases h) (.cons (.int _) (.cons (.int _) (.cons (.int _) .nil)))).toSV
    simpa [hN] using this
  rcases hm x i j with ⟨e1, e2⟩ | ⟨e1, e2⟩
  · refine d1.sd _ _ _ _ _ _ s0 e1 _ fun H1 x1 => ?_
    exact he e2 _ x1
  · refine d1.sd _ _ _ _ _ _ s0 e1 _ fun H1 x1 => ?_
    refine d2.sd _ _ _ _ _ _ (s0.mono x1) e2 _ fun H2 x2 => ?_
    cases ho : okP x i j with
    | true => exact hq ho _ (x1.trans x2)
    | false => exact he ho _ (x1.trans x2)
/-! ### Network.__init__ with bad fields -/
def prD (p : Int × Int) : D := .tup [.int p.1, .int p.2]
def spBad (C : Cfg) (IN : Addr) : Sp := fun us Hh _ Ek => ∃ (O : List Addr) (x : Addr) (cv : V) (w : Int) (c : D) (ds : List D) (ij : List (Int × Int)), us = [.ref x, .int w, cv] ∧ x ∉ O ∧ (∀ a ∈ O, Hh a ≠ none) ∧ Rep C (hid Hh O) cv c ∧ pairsOf c = some ds ∧ ds = ij.map prD ∧ ds.length ≤ lim ∧
  (1 ≤ w → ∃ p : Int × Int, p ∈ ij ∧ okP w p.1 p.2 = false) ∧ ∀ H2, Ext Hh H2 → Ek (.ref IN) none H2
theorem first_bad {w : Int} : ∀ ij : List (Int × Int), (∃ p : Int × Int, p ∈ ij ∧ okP w p.1 p.2 = false) → ∃ (k : Nat) (p : Int × Int), ij[k]? = some p ∧ okP w p.1 p.2 = false ∧ ∀ (j : Nat) (q : Int × Int), j < k → ij[j]? = some q → okP w q.1 q.2 = true
  | [], h => by obtain ⟨p, hp, _⟩ := h; cases hp
  | p :: ij, h => by
    cases ho : okP w p.1 p.2 with
    | false => exact ⟨0, p, rfl, ho, fun j q hj => absurd hj (Nat.not_lt_zero j)⟩
    | true =>
      obtain ⟨k, q, h1, h2, h3⟩ := first_bad ij (by
        obtain ⟨q, hq, h⟩ := h
        rcases List.mem_cons.mp hq with rfl | hq
        · rw [ho] at h; cases h
        · exact ⟨q, hq, h⟩)
      refine ⟨k + 1, q, h1, h2, fun j r hj hr => ?_⟩
      cases j with
      | zero => cases hr; exact ho
      | succ j => exact h3 j r (by omega) hr
abbrev rI6 (x : Addr) (w : Int) (c : D) (ds : List D) (a b : Option (D × Bool)) : E := [some (.opq x, false), some (.int w, false), some (c, false), some (.tup ds, false), a, b]
theorem init_okX {st s2 s4 s5 : Stmt} {f : Addr} {fd : FuncData} {N : List Str} {k : Nat} {c1 tg iter : Expr} {r1 bd : List Stmt} {q1 q3 : Pos} {m1 : B} {m2 : S} {mi : I} {gq : D → E → Option E} {na : As} (F : Fun K "__init__" "Network.__init__" st f fd)
    (Sc : FnScope N ["self", "wires", "comparers"] (defScope st)) (hN : N.length = 6) (hbody : defBody st = [.If c1 r1 [] q1, s2, .For tg iter bd [] q3, s4, s5])
    (hb : ∀ (cdv : Value) (A : Around) (outer : List Env) (s : Shared) (Hh : Hp) (Ek : XK), Room k (A.deeper (envOfC "Network.__init__" (defScope st) s.heap.objs.size f cdv)) →
      ∃ t1 t2 wi tt ta t4 t5, DT C (cxE P w K mg base N "Network.__init__" st f cdv A outer s Hh Ek) c1 t1 m1 ∧ PSs (cxE P w K mg base N "Network.__init__" st f cdv A outer s Hh Ek) r1 (rz IN Ek) ∧
        DS C (cxE P w K mg base N "Network.__init__" st f cdv A outer s Hh Ek) s2 t2 m2 ∧ DI C false (cxE P w K mg base N "Network.__init__" st f cdv A outer s Hh Ek) tg iter wi mi ∧
        DGS C (cxE P w K mg base N "Network.__init__" st f cdv A outer s Hh Ek) tg tt gq ∧ SndA C ta na ∧
        PSs (cxE P w K mg base N "Network.__init__" st f cdv A outer s Hh Ek) bd (tDrop (tCallS (spChk IN) (fun _ => Ek) ta)) ∧
        PassesOwn (model (cxE P w K mg base N "Network.__init__" st f cdv A outer s Hh Ek).prog (cxE P w K mg base N "Network.__init__" st f cdv A outer s Hh Ek).w) (cxE P w K mg base N "Network.__init__" st f cdv A outer s Hh Ek).A (cxE P w K mg base N "Network.__init__" st f cdv A outer s Hh Ek).env (cxE P w K mg base N "Network.__init__" st f cdv A outer s Hh Ek).xe ∧
        (∀ x, foldedSetIterable iter (cxE P w K mg base N "Network.__init__" st f cdv A outer s Hh Ek).env x = pure x) ∧
        PS (cxE P w K mg base N "Network.__init__" st f cdv A outer s Hh Ek) s4 t4 ∧ PS (cxE P w K mg base N "Network.__init__" st f cdv A outer s Hh Ek) s5 t5)
    (hm1 : ∀ x w c, m1 [some (.opq x, false), some (.int w, false), some (c, false), none, none, none] = some (decide (w < 1)))
    (hm2 : ∀ x w c ds ij, pairsOf c = some ds → ds = List.map prD ij → ds.length ≤ lim → m2 [some (.opq x, false), some (.int w, false), some (c, false), none, none, none] = some (.nx (rI6 x w c ds none none)))
    (hmi : ∀ x w c ds a b, mi (rI6 x w c ds a b) = some ds) (hg : ∀ x w c ds a b p, gq (prD p) (rI6 x w c ds a b) = some (rI6 x w c ds (some (.int p.1, false)) (some (.int p.2, false))))
    (hna : ∀ x w c ds i j, na (rI6 x w c ds (some (.int i, false)) (some (.int j, false))) = some [(.int w, .pure), (.int i, .pure), (.int j, .pure)]) :
    FnOk P w K mg base (L2.CX P w) (k + 1) f fd ["self", "wires", "comparers"] (spBad C IN) := by
  refine F.okX Sc (fun vs H Q E h => by obtain ⟨_, _, _, _, _, _, _, rfl, _⟩ := h; rfl) fun cdv A outer s Hh vs Q E hr h => ?_
  obtain ⟨O, x, cv, wn, c, ds, ij, rfl, xO, dm, rc, ec, ed, hl, hbad, he⟩ := h
  obtain ⟨t1, t2, wi, tt, ta, t4, t5, d1, p1, d2, di, dg, da, pb, hp, hfs, p4, p5⟩ := hb cdv A outer s Hh E hr
  rw [hbody]
  refine ⟨_, pss_cons (ps_if d1.pt p1 pss_nil) (pss_cons d2.ps (pss_cons (ps_for hp rfl di.pi dg.pg pb hfs) (pss_cons p4 (pss_one p5)))), ?_⟩
  have s0 : SS C Hh O O Hh (L2.start N [.ref x, .int wn, cv]) [some (.opq x, false), some (.int wn, false), some (c, false), none, none, none] := by
    have := start_ss (C := C) (H := Hh) (H0 := Hh) (O := O) (N := N) (vs := [.ref x, .int wn, cv]) (ds := [.opq x, .int wn, c]) (Evl.Ex.refl _) dm (.cons (.opq _) (.cons (.int _) (.cons rc .nil)))
    rw [hN] at this; exact this
  refine d1.sd _ _ _ _ _ _ s0.toSV (hm1 x wn c) _ fun H1 x1 => ?_
  by_cases hw : wn < 1
  · rw [if_pos (decide_eq_true hw)]
    exact he _ x1
  · rw [if_neg (by simpa using hw)]
    obtain ⟨k0, pk, hk, hbk, hgood⟩ := first_bad ij (hbad (by omega))
    have s1 := s0.mono x1
    refine d2.sd _ _ _ _ _ _ _ s1 (hm2 x wn c ds ij ec ed hl) _ fun O2 H2 σ2 s2 x2 => ?_
    refine di.sd _ _ _ _ _ _ s2.toSV (hmi x wn c ds none none) _ fun J H3 x3 ok => ?_
    have s3 := s2.mono x3
    have hk' : k0 < ds.length := by rw [ed, List.length_map]; exact (List.getElem?_eq_some_iff.mp hk).1
    refine ⟨fun i m σ H => m = ds.length - i ∧ i ≤ k0 ∧ ∃ O4 a b, SS C Hh O O4 H σ (rI6 x wn c ds a b) ∧ Ex (hid H3 O2) (hid H O4), ⟨_, rfl, Nat.zero_le _, O2, none, none, s3, Evl.Ex.refl _⟩, ?_⟩
    rintro i m σ H4 ⟨rfl, hi, O4, a, b, s4, x4⟩
    obtain ⟨okg, _⟩ := ok H4 O4 (fun z => by cases z) x4 s4.dom i
    have hlt : i < ds.length := by omega
    obtain ⟨p, hpi⟩ : ∃ p, ij[i]? = some p := ⟨_, List.getElem?_eq_getElem (by rw [ed, List.length_map] at hlt; exact hlt)⟩
    have hd : ds[i]? = some (prD p) := by rw [ed, List.getElem?_map, hpi]; rfl
    obtain ⟨go, yl⟩ := okg _ hd
    refine .inr ⟨go, fun σ5 H5 => i < k0 ∧ ∃ O5 a b, SS C Hh O O5 H5 σ5 (rI6 x wn c ds a b) ∧ Ex (hid H3 O2) (hid H5 O5), fun σ5 H5 hn => ⟨_, by omega, rfl, by omega, hn.2⟩, fun v H5 y => ?_⟩
    obtain ⟨e5, rx⟩ := yl v H5 y
    refine dg.sd _ _ _ _ _ _ _ _ _ (s4.mono e5) rx (hg x wn c ds a b p) _ fun σ6 H6 s6 x6 => ?_
    refine da _ _ _ _ _ _ s6.toSV (hna x wn c ds p.1 p.2) _ fun vs H7 e7 r7 => ?_
    obtain ⟨v1, vs1, rfl, q1, r7⟩ : ∃ v1 vs1, vs = v1 :: vs1 ∧ Res C O O4 H6 H7 v1 (.int wn, .pure) ∧ Ress C O O4 H6 H7 vs1 [(.int p.1, .pure), (.int p.2, .pure)] := by
      cases r7 with | cons h1 h2 => exact ⟨_, _, rfl, h1, h2⟩
    obtain ⟨v2, v3, rfl, q2, q3⟩ := ress2 r7
    have back : Ex Hh H7 := ((s6.mono e7).base)
    refine ⟨wn, p.1, p.2, by rw [q1.intE, q2.intE, q3.intE], fun ho H8 e8 => ?_, fun ho H8 e8 => he _ (back.trans e8)⟩
    have hik : i < k0 := by
      rcases Nat.lt_or_ge i k0 with z | z
      · exact z
      · have : i = k0 := by omega
        subst this
        rw [hpi] at hk; cases hk
        rw [ho] at hbk; cases hbk
    exact ⟨hik, O4, _, _, (s6.mono e7).mono e8, (x4.trans (hid_mono e5)).trans (x6.trans (hid_mono (e7.trans e8)))⟩
/-! ### except: the error in hand -/
theorem pass_all {X : Cx} {W : WX} (tk : Takes X W) : Passes (L2.CX X.prog X.w) X (fun cls d Hh => ∀ σ : L2.St, σ.length = X.N.length → W cls d σ Hh) := fun _ σ _ _ _ s' I c => tk _ s' (XE.of_call I (fun _ _ _ h => h σ I.len) c)
def mIsE (a : Addr) (r : Bool) (me : M) : M := fun ρ => (me ρ).bind fun x => match x.1 with
  | .opq a' => if a' = a then some (.bl r, .pure) else none
  | _ => none
theorem snd_isE {e : TE} {me : M} {a D' : Addr} {v : V} {cv : Value} {r : Bool} (hv : ∀ u, RelV v u → u = cv) (hk : PySem.W.kitOne K (.ref D') cv = some r) (he : Snd C e me) : Snd C (tCB (rIsE K D' a) (tCons e (tCons (tC v) tNil))) (mIsE a r me) := by
  intro O0 O H σ ρ z s h Q q
  unfold mIsE at h
  obtain ⟨⟨d, fl⟩, ea, h⟩ := bind2 h
  cases d with
  | opq a' =>
    replace h : (if a' = a then some ((.bl r, .pure) : D × Fl) else none) = some z := h
    by_cases ha : a' = a
    · rw [if_pos ha] at h
      cases ha
      obtain rfl := Option.some.inj h
      refine he _ _ _ _ _ _ s ea _ fun u H1 e1 r1 => ?_
      cases r1 with
      | pure r1 => cases r1; exact ⟨v, cv, r, rfl, hv, hk, q _ _ e1 .bl⟩
    · rw [if_neg ha] at h; cases h
  | _ => cases h
theorem pe_isE {X : Cx} {e : Expr} {te : TE} {a D' A2 : Addr} {x : Str} {p p2 pos : Pos} (hc : CallR X (.builtin "isinstance") (rIsE X.K D' a)) (hg : Gl X "isinstance") (hm : X.mg "isinstance" = none) (hg2 : Gl X x) (hm2 : X.mg x = some (.ref A2)) (he : PE X e te)
    (hdb : (x == ("__debug__" : Str)) = false := by decide) (hs : starEach [e, .Name x p2] X.env = (false, eval e X.env) :: starEach [.Name x p2] X.env := by rfl) (hs2 : starEach [.Name x p2] X.env = (false, eval (.Name x p2) X.env) :: starEach [] X.env := by rfl)
    (hpl : (backTo pos (starEach [.Name x p2] X.env)).any (·.1) = false := by rfl) : PE X (.Call (.Name "isinstance" p) [e, .Name x p2] [] pos) (tCB (rIsE X.K D' a) (tCons te (tCons (tC (.ref A2)) tNil))) :=
  pe_callB hc hg hm (by decide +kernel) (pa_cons he (pa_cons (pe_glob hg2 hm2 rfl hdb) pa_nil hs2) hs) (by decide) (by decide) hs hpl
theorem pe_isEB {X : Cx} {e : Expr} {te : TE} {a D' : Addr} {T : String} {x : Str} {p p2 pos : Pos} (hc : CallR X (.builtin "isinstance") (rIsE X.K D' a)) (hg : Gl X "isinstance") (hm : X.mg "isinstance" = none) (hg2 : Gl X x) (hm2 : X.mg x = none) (hb2 : bootBuiltins x = some (.type T)) (he : PE X e te)
    (hn : x ≠ "__name__" := by decide) (hdb : (x == ("__debug__" : Str)) = false := by decide) (hs : starEach [e, .Name x p2] X.env = (false, eval e X.env) :: starEach [.Name x p2] X.env := by rfl) (hs2 : starEach [.Name x p2] X.env = (false, eval (.Name x p2) X.env) :: starEach [] X.env := by rfl)
    (hpl : (backTo pos (starEach [.Name x p2] X.env)).any (·.1) = false := by rfl) : PE X (.Call (.Name "isinstance" p) [e, .Name x p2] [] pos) (tCB (rIsE X.K D' a) (tCons te (tCons (tC (.ty T)) tNil))) :=
  pe_callB hc hg hm (by decide +kernel) (pa_cons he (pa_cons (pe_bltn (v := .ty T) hg2 hm2 hb2 rfl hn hdb) pa_nil hs2) hs) (by decide) (by decide) hs hpl
/-! ### try: Network(wires, pairs) except X as e: return .. -/
def prsOf : List D → Option (List (Int × Int))
  | [] => some []
  | .tup [.int i, .int j] :: ds => (prsOf ds).map fun r => (i, j) :: r
  | _ :: _ => none
theorem prsOf_e : ∀ {ds : List D} {ij : List (Int × Int)}, prsOf ds = some ij → ds = ij.map prD
  | [], ij, h => by cases h; rfl
  | d :: ds, ij, h => by
    unfold prsOf at h
    split at h
    · rename_i e; cases e
    · rename_i i j ds' e
      cases e
      cases e2 : prsOf ds with
      | none => rw [e2] at h; cases h
      | some r => rw [e2] at h; cases h; rw [prsOf_e e2]; rfl
    · cases h
def fRef : FD := fun ds => match ds with
  | [.int w, c] => (pairsOf c).bind fun es => (prsOf es).bind fun ij => if es.length ≤ lim ∧ (w < 1 ∨ (ij.any fun p => !okP w p.1 p.2) = true) then some (.bl true, false) else none
  | _ => none
abbrev cx0 (P : Program) (w : World) (K : PySem.W.Frag) (mg : Str → Option Value) (base : Heap) (N : List Str) (qual : Str) (st : Stmt) (f : Addr) (cdv : Value) (A : Around) (outer : List Env) (s : Shared) (Hh : Hp) (Ek : XK) : Cx := (cxOf CX0 P w K mg base N qual (defScope st) f cdv A outer s Hh Ek).nox
theorem ref_ok {x qual nc : Str} {st s2 : Stmt} {f fI A2 : Addr} {fd fdI : FuncData} {N : List Str} {k kI : Nat} {e a1 a2 : Expr} {p0 p3 p4 np p5 p6 p7 : Pos} {te : Addr → TE} {me : Addr → M} (F : Fun K x qual st f fd) (Sc : FnScope N ["wires", "pairs"] (defScope st)) (hN : N.length = 3) (hi : N[2]? = some ("e" : Str))
    (hbody : defBody st = [.Try [.Expr (.Call (.Name "Network" p0) [a1, a2] [] p3) p4] [.ExceptHandler (some (.Name nc np)) (some "e") [.Return (some e) p5] p6] [] [] p7, s2])
    (M : Mk K C.net fI) (G : FnOk P w K mg base (L2.CX P w) kI fI fdI ["self", "wires", "comparers"] (spBad C IN)) (hk : kI + 1 ≤ k) (hmg : mg "Network" = some (.ref C.net)) (bI : Binds K fdI ["self", "wires", "comparers"] []) (hex : PySem.W.exmOne K (.ref IN) (.ref A2) = some true)
    (hb : ∀ (cdv : Value) (A : Around) (outer : List Env) (s : Shared) (Hh : Hp) (Ek : XK), Room k (A.deeper (envOfC qual (defScope st) s.heap.objs.size f cdv)) →
      (cx0 P w K mg base N qual st f cdv A outer s Hh Ek).env.kindOf "e" = some .local ∧ Names (cx0 P w K mg base N qual st f cdv A outer s Hh Ek) nc (.ref A2) ∧
      (∀ pn xe, DA C ((cx0 P w K mg base N qual st f cdv A outer s Hh Ek).tr pn xe) [a1, a2] (tCons (tVar 0) (tCons (tVar 1) tNil)) (aCons (mVar 0) (aCons (mVar 1) aNil)) ∧
        Gl ((cx0 P w K mg base N qual st f cdv A outer s Hh Ek).tr pn xe) "Network" ∧
        starEach [a1, a2] ((cx0 P w K mg base N qual st f cdv A outer s Hh Ek).tr pn xe).env = (false, eval a1 ((cx0 P w K mg base N qual st f cdv A outer s Hh Ek).tr pn xe).env) :: starEach [a2] ((cx0 P w K mg base N qual st f cdv A outer s Hh Ek).tr pn xe).env ∧
        (backTo p3 (starEach [a2] ((cx0 P w K mg base N qual st f cdv A outer s Hh Ek).tr pn xe).env)).any (·.1) = false ∧
        swapsWith (.Call (.Name "Network" p0) [a1, a2] [] p3) none p4.line ((cx0 P w K mg base N qual st f cdv A outer s Hh Ek).tr pn xe).env = pure false) ∧
      (∀ a oe pn, Zc (.ref IN) none oe → (∃ vs, oe.data = .fields vs) → DE C ((cx0 P w K mg base N qual st f cdv A outer s Hh Ek).suite a ((a, oe) :: pn)) e (te a) (me a)) ∧
      ∃ t2, PS (cx0 P w K mg base N qual st f cdv A outer s Hh Ek) s2 t2)
    (hme : ∀ a, me a [none, none, some (.opq a, false)] = some (.bl true, .pure)) : FnOk P w K mg base CX0 (k + 1) f fd ["wires", "pairs"] (spD C 2 fRef) := by
  refine F.ok Sc (fun vs H Q E h => by obtain ⟨_, _, _, _, h, _⟩ := h; exact h) fun cdv A outer s Hh vs Q E hr h => ?_
  obtain ⟨O, ds, d, fr, hl, dm, r, hF, q⟩ := h
  obtain ⟨hln, hnm, hat, hpe, t2, p2⟩ := hb cdv A outer s Hh E hr
  unfold fRef at hF
  split at hF
  · rename_i wn c
    obtain ⟨es, ec, hF⟩ := bind2 hF
    obtain ⟨ij, ei, hF⟩ := bind2 hF
    split at hF
    · rename_i hbd
      cases hF
      rw [hbody]
      refine ⟨_, pss_cons (ps_try_as (i := 2) (ts := fun a cls d => if cls = .ref IN ∧ d = none then tRet (te a) else fun _ _ _ => False) (Wout := fun _ _ _ _ => False)
        (tb := fun W => tDrop (tMake C.net (spBad C IN) [] (fun cls d Hh => ∀ σ : L2.St, σ.length = N.length → W cls d σ Hh) (tCons (tVar 0) (tCons (tVar 1) tNil)))) rfl rfl Sc.nd hi hln hnm takes0
        (fun W pn xe tk _ => pss_one (ps_expr (pe_make M G (hr.mono hk) (hat pn xe).2.1 hmg bI .nil (pass_all tk) (hat pn xe).1.pa (by decide) (hat pn xe).2.2.1 (hat pn xe).2.2.2.1) (hat pn xe).2.2.2.2)) (fun a oe cls d pn hz hf => ?_)) (pss_one p2), ?_⟩
      · by_cases hcd : cls = .ref IN ∧ d = none
        · rw [if_pos hcd]
          obtain ⟨rfl, rfl⟩ := hcd
          exact pss_one (ps_ret (hpe a oe pn hz hf).pe)
        · rw [if_neg hcd]
          exact ⟨fun pins s σ H D I h => h.elim⟩
      · have s0 : SS C Hh O O Hh (L2.start N vs) [some (.int wn, false), some (c, false), none] := by
          have := start_ss (C := C) (H := Hh) (H0 := Hh) (O := O) (N := N) (vs := vs) (ds := [.int wn, c]) (Evl.Ex.refl _) dm r
          rw [hN] at this; exact this
        obtain ⟨da, _⟩ := hat [] (fun _ _ => True)
        have en : aCons (mVar 0) (aCons (mVar 1) aNil) [some (.int wn, false), some (c, false), none] = some [(.int wn, .pure), (c, .pure)] := rfl
        dsimp only [tSeq, tDrop, tMake]
        refine da.sd _ _ _ _ _ _ s0.toSV en _ fun us H1 e1 rr => ?_
        intro x' dx hx hdx hne
        obtain ⟨v1, v2, rfl, r1, r2⟩ := ress2 rr
        cases r1.intE
        have rc2 : Rep C (hid H1 O) v2 c := by cases r2 with | pure z => exact z
        have s1 := s0.mono e1
        have xO : x' ∉ O := fun z => s1.dom x' z hx
        have e2 : Ex H1 (upd (upd H1 dx (.own x')) x' (.ins C.net dx [])) := (Evl.Ex.new hdx).trans (Evl.Ex.new (by rw [upd_ne (Ne.symm hne)]; exact hx))
        refine ⟨O, x', v2, wn, c, es, ij, rfl, xO, fun a ha => (s1.mono e2).dom a ha, rc2.mono (hid_mono e2), ec, prsOf_e ei, hbd.1, fun hw => ?_, fun H2 e3 σ' hl' => ⟨true, hex, fun _ a ha => ?_, fun z => nomatch z⟩⟩
        · rcases hbd.2 with z | z
          · omega
          · obtain ⟨p, hp, ho⟩ := List.any_eq_true.mp z
            exact ⟨p, hp, by simpa using ho⟩
        · show (if (Value.ref IN) = .ref IN ∧ (none : Option Addr) = none then tRet (te a) else fun _ _ _ => False) _ _ _
          rw [if_pos ⟨rfl, rfl⟩]
          have sE : SV C [] [] H2 (σ'.set 2 (some (.ref a))) [none, none, some (.opq a, false)] := by
            refine ⟨(by rw [List.length_set, hl', hN]; rfl), (fun a h => nomatch h), (fun a h => h), (fun a h => nomatch h), fun i d h => ?_, fun i d h => ?_, fun i j d e a h => ?_⟩
            · match i, h with
              | 0, h => cases h
              | 1, h => cases h
              | 2, h => cases h; exact ⟨.ref a, by rw [List.getElem?_set_self (by rw [hl', hN]; decide)], .opq a⟩
              | n + 3, h => simp at h
            · match i, h with
              | 0, h => cases h
              | 1, h => cases h
              | 2, h => cases h
              | n + 3, h => simp at h
            · match i, h with
              | 0, h => cases h
              | 1, h => cases h
              | 2, h => cases h
              | n + 3, h => simp at h
          refine (hpe a ⟨.ref IN, none, .fields #[], #[]⟩ [] ⟨rfl, rfl⟩ ⟨_, rfl⟩).sd _ _ _ _ _ _ sE (hme a) _ fun v H3 e4 r4 => ?_
          rw [r4.blE]
          exact q _ _ (e1.trans (e2.trans (e3.trans e4))) (by unfold RetOk; simp; exact .bl true)
    · cases hF
  · cases hF
theorem de_isE {X : Cx} {e : Expr} {te : TE} {me : M} {a D' A2 : Addr} {r : Bool} {x : Str} {p p2 pos : Pos} (hK : X.K = K) (hc : CallR X (.builtin "isinstance") (rIsE X.K D' a)) (hg : Gl X "isinstance") (hm : X.mg "isinstance" = none) (hg2 : Gl X x) (hm2 : X.mg x = some (.ref A2)) (hk : PySem.W.kitOne K (.ref D') (.ref A2) = some r) (he : DE C X e te me)
    (hdb : (x == ("__debug__" : Str)) = false := by decide) (hs : starEach [e, .Name x p2] X.env = (false, eval e X.env) :: starEach [.Name x p2] X.env := by rfl) (hs2 : starEach [.Name x p2] X.env = (false, eval (.Name x p2) X.env) :: starEach [] X.env := by rfl)
    (hpl : (backTo pos (starEach [.Name x p2] X.env)).any (·.1) = false := by rfl) : DE C X (.Call (.Name "isinstance" p) [e, .Name x p2] [] pos) (tCB (rIsE K D' a) (tCons te (tCons (tC (.ref A2)) tNil))) (mIsE a r me) := by
  subst hK
  exact ⟨pe_isE hc hg hm hg2 hm2 he.pe hdb hs hs2 hpl, snd_isE (fun u h => h) hk he.sd⟩
theorem de_isEB {X : Cx} {e : Expr} {te : TE} {me : M} {a D' : Addr} {r : Bool} {T : String} {x : Str} {p p2 pos : Pos} (hK : X.K = K) (hc : CallR X (.builtin "isinstance") (rIsE X.K D' a)) (hg : Gl X "isinstance") (hm : X.mg "isinstance" = none) (hg2 : Gl X x) (hm2 : X.mg x = none) (hb2 : bootBuiltins x = some (.type T)) (hk : PySem.W.kitOne K (.ref D') (.type T) = some r) (he : DE C X e te me)
    (hn : x ≠ "__name__" := by decide) (hdb : (x == ("__debug__" : Str)) = false := by decide) (hs : starEach [e, .Name x p2] X.env = (false, eval e X.env) :: starEach [.Name x p2] X.env := by rfl) (hs2 : starEach [.Name x p2] X.env = (false, eval (.Name x p2) X.env) :: starEach [] X.env := by rfl)
    (hpl : (backTo pos (starEach [.Name x p2] X.env)).any (·.1) = false := by rfl) : DE C X (.Call (.Name "isinstance" p) [e, .Name x p2] [] pos) (tCB (rIsE K D' a) (tCons te (tCons (tC (.ty T)) tNil))) (mIsE a r me) := by
  subst hK
  exact ⟨pe_isEB hc hg hm hg2 hm2 hb2 he.pe hn hdb hs hs2 hpl, snd_isE (fun u h => h) hk he.sd⟩
/-! facts about classes, out of what can be looked up -/
theorem cls_ty {c : Addr} (h1 : PySem.W.isClsIn K c = true) (h2 : PySem.W.typeIn K (.ref c) = some (.type "type")) {t : Value} {r : Bool} (h : PySem.W.subIn K t (.ref c) = some r) : PySem.W.kitCls K t (.ref c) = some r := by
  unfold PySem.W.kitCls
  exact (if_pos (cb_of h1 h2)).trans h
theorem exm_by {c : Addr} (h0 : PySem.W.subIn K (.ref c) (.type "BaseException") = some true) (h1 : PySem.W.isClsIn K c = true) (h2 : PySem.W.typeIn K (.ref c) = some (.type "type")) {t : Value} {r : Bool} (h : PySem.W.subIn K t (.ref c) = some r) : PySem.W.exmOne K t (.ref c) = some r := by
  unfold PySem.W.exmOne
  rw [h0]
  exact (if_pos rfl).trans (cls_ty h1 h2 h)
theorem kit_yes {a c : Addr} (h1 : PySem.W.isClsIn K c = true) (h2 : PySem.W.typeIn K (.ref c) = some (.type "type")) (h : PySem.W.subIn K (.ref a) (.ref c) = some true) : PySem.W.kitOne K (.ref a) (.ref c) = some true := by
  unfold PySem.W.kitOne
  split
  · rfl
  · exact cls_ty h1 h2 h
theorem kit_no {a c : Addr} (h0 : PySem.W.subIn K (.ref a) (.ref a) = some true) (h1 : PySem.W.isClsIn K c = true) (h2 : PySem.W.typeIn K (.ref c) = some (.type "type")) (h : PySem.W.subIn K (.ref a) (.ref c) = some false) : PySem.W.kitOne K (.ref a) (.ref c) = some false := by
  unfold PySem.W.kitOne
  split
  · rename_i e
    have e : a = c := by simpa using e
    rw [e] at h0 h; rw [h0] at h; cases h
  · exact cls_ty h1 h2 h
theorem kit_bt {a : Addr} {T : String} (hm : PySem.W.kitMeta T = true) (h : PySem.W.subIn K (.ref a) (.type T) = some true) : PySem.W.kitOne K (.ref a) (.type T) = some true := by
  unfold PySem.W.kitOne
  split
  · rfl
  · unfold PySem.W.kitCls; exact (if_pos hm).trans h
end
end Dt

set_option maxRecDepth 100000
set_option maxHeartbeats 4000000
/-! What the functions of the data layer compute, said over Lean's own types. -/
namespace Ty
open PySem PySem.Spec PyProof.Rows L2 Dt

abbrev En (α : Type) := α → D
def eI : En Int := D.int
def eB : En Bool := D.bl
def eS : En Str := D.str
def eU : En Unit := fun _ => D.non
def eA : En D := fun d => d
def eF : En (List Int) := D.frz
section
variable {α β γ δ ε σ τ J : Type}
def eT (e : En α) : En (List α) := fun xs => .tup (xs.map e)
def eL (e : En α) : En (List α) := fun xs => .lst (xs.map e)
def eP (e : En α) (f : En β) : En (α × β) := fun p => .tup [e p.1, f p.2]
def eZ (e : En α) (f : En β) : En (α × β) := fun p => .tmp [e p.1, f p.2]
def eP3 (e : En α) (f : En β) (g : En γ) : En (α × β × γ) := fun p => .tup [e p.1, f p.2.1, g p.2.2]
def eO (e : En α) : En (Option α) := fun o => match o with | none => .non | some a => e a
structure Net where
  w : Int
  ps : List (Int × Int)
  deriving DecidableEq
abbrev ePr : En (Int × Int) := eP eI eI
def eN : En Net := fun n => .net n.w (eT ePr n.ps)

/-! ### values -/
def X (m : M) (ρ : E) (e : En α) (fl : Fl) (t : Option α) : Prop := ∀ a, t = some a → m ρ = some (e a, fl)
def T (b : B) (ρ : E) (t : Option Bool) : Prop := ∀ k, t = some k → b ρ = some k
variable {m n m1 m2 m3 m4 m5 m6 : M} {ρ ρ' : E} {e e1 e2 e3 e4 e5 e6 er : En α} {fl g1 g2 g3 g4 g5 g6 : Fl} {b c : B}

theorem x_var {e : En α} {i : Nat} {a : α} (h : ρ[i]? = some (some (e a, false))) : X (mVar i) ρ e .pure (some a) := by
  intro x hx; cases hx; unfold mVar; rw [h]; rfl
theorem x_own {e : En α} {i : Nat} {a : α} (h : ρ[i]? = some (some (e a, true))) : X (mVar i) ρ e .bor (some a) := by
  intro x hx; cases hx; unfold mVar; rw [h]; rfl
theorem x_i (i : Int) : X (mC (.int i)) ρ eI .pure (some i) := by intro x hx; cases hx; rfl
theorem x_b (k : Bool) : X (mC (.bl k)) ρ eB .pure (some k) := by intro x hx; cases hx; rfl
theorem x_s (k : Str) : X (mC (.str k)) ρ eS .pure (some k) := by intro x hx; cases hx; rfl
theorem x_n : X (mC .non) ρ eU .pure (some ()) := by intro x hx; rfl
theorem x_no {e : En α} : X (mC .non) ρ (eO e) .pure (some none) := by intro x hx; cases hx; rfl
/-- another reading of the same data -/
theorem x_as {e : En α} {f : En β} (c : α → Option β) (h : ∀ a b, c a = some b → e a = f b) {t : Option α} (hx : X m ρ e fl t) : X m ρ f fl (t.bind c) := by
  intro y hy
  cases t with
  | none => cases hy
  | some a => rw [hx a rfl, h a y hy]
theorem as_some {e : En α} : ∀ a b, (fun a => some (some a)) a = some b → e a = eO e b := by intro a b h; cases h; rfl
theorem as_get {e : En α} : ∀ (a : Option α) b, (fun a => a) a = some b → eO e a = e b := by intro a b h; cases h; rfl
theorem as_row {e : En α} : ∀ (a : α × α) b, (fun a : α × α => some [a.1, a.2]) a = some b → eP e e a = eT e b := by intro a b h; cases h; rfl
theorem as_row3 {e : En α} : ∀ (a : α × α × α) b, (fun a : α × α × α => some [a.1, a.2.1, a.2.2]) a = some b → eP3 e e e a = eT e b := by intro a b h; cases h; rfl
def toPr (l : List α) : Option (α × α) := match l with | [a, b] => some (a, b) | _ => none
theorem as_pr {e : En α} : ∀ (a : List α) b, toPr a = some b → eT e a = eP e e b := by
  intro a b h
  match a, h with
  | [x, y], h => cases h; rfl
  | [], h => cases h
  | [_], h => cases h
  | _ :: _ :: _ :: _, h => cases h
theorem as_rows {e : En α} {f : En β} {c : α → β} (h : ∀ a, e a = f (c a)) : ∀ (a : List α) b, (fun a : List α => some (a.map c)) a = some b → eL e a = eL f b := by
  intro a b hb; cases hb; unfold eL; rw [List.map_map]; congr 1; exact List.map_congr_left fun x _ => h x
theorem as_rowsT {e : En α} {f : En β} {c : α → β} (h : ∀ a, e a = f (c a)) : ∀ (a : List α) b, (fun a : List α => some (a.map c)) a = some b → eT e a = eT f b := by
  intro a b hb; cases hb; unfold eT; rw [List.map_map]; congr 1; exact List.map_congr_left fun x _ => h x
theorem as_frz : ∀ (a : List Int) b, (fun a : List Int => some a) a = some b → eF a = eF b := by intro a b h; cases h; rfl

/-! ### operations -/
def op1 (F : α → Option β) (t : Option α) : Option β := t.bind F
def op2 (F : α → β → Option γ) (t : Option α) (u : Option β) : Option γ := t.bind fun a => u.bind fun b => F a b
@[simp] theorem op1_some {F : α → Option β} {a : α} : op1 F (some a) = F a := rfl
@[simp] theorem op2_some {F : α → β → Option γ} {a : α} {b : β} : op2 F (some a) (some b) = F a b := rfl
theorem bind_some' {t : Option α} {F : α → Option β} {b : β} (h : t.bind F = some b) : ∃ a, t = some a ∧ F a = some b := by
  cases t with
  | none => cases h
  | some a => exact ⟨a, rfl, h⟩
theorem op2_some' {F : α → β → Option γ} {t : Option α} {u : Option β} {c : γ} (h : op2 F t u = some c) : ∃ a b, t = some a ∧ u = some b ∧ F a b = some c := by
  obtain ⟨a, h1, h2⟩ := bind_some' h
  obtain ⟨b, h3, h4⟩ := bind_some' h2
  exact ⟨a, b, h1, h3, h4⟩
theorem x_op {f : F2} {e1 : En α} {e2 : En β} {e3 : En γ} {F : α → β → Option γ} {t : Option α} {u : Option β} (hf : ∀ a b c, F a b = some c → f (e1 a, g1) (e2 b, g2) = some (e3 c, fl)) (hm : X m ρ e1 g1 t) (hn : X n ρ e2 g2 u) : X (mOp f m n) ρ e3 fl (op2 F t u) := by
  intro c hc
  obtain ⟨a, b, h1, h2, h3⟩ := op2_some' hc
  unfold mOp
  rw [hm a h1, Option.bind_some, hn b h2]
  exact hf a b c h3
/-- functions of one, two data -/
theorem x_f1 {f : FN} {e1 : En α} {e2 : En β} {F : α → Option β} {t : Option α} (hf : ∀ a c, F a = some c → f [(e1 a, g1)] = some (e2 c, fl)) (hm : X m ρ e1 g1 t) : X (mFn f (aCons m aNil)) ρ e2 fl (op1 F t) := by
  intro c hc
  obtain ⟨a, h1, h3⟩ := bind_some' hc
  unfold mFn aCons aNil
  rw [hm a h1]
  exact hf a c h3
theorem x_f2 {f : FN} {e1 : En α} {e2 : En β} {e3 : En γ} {F : α → β → Option γ} {t : Option α} {u : Option β} (hf : ∀ a b c, F a b = some c → f [(e1 a, g1), (e2 b, g2)] = some (e3 c, fl)) (hm : X m ρ e1 g1 t) (hn : X n ρ e2 g2 u) : X (mFn f (aCons m (aCons n aNil))) ρ e3 fl (op2 F t u) := by
  intro c hc
  obtain ⟨a, b, h1, h2, h3⟩ := op2_some' hc
  unfold mFn aCons aNil
  rw [hm a h1, Option.bind_some, hn b h2]
  exact hf a b c h3

/-! ints -/
@[simp] def tAdd (a b : Int) : Option Int := some (a + b)
@[simp] def tSub (a b : Int) : Option Int := some (a - b)
def smallF (a : Int) : Bool := decide (-(2 ^ 64) < a) && decide (a < 2 ^ 64)
def tMul (a b : Int) : Option Int := if smallF a || smallF b then some (a * b) else none
def tDiv (a b : Int) : Option Int := if 0 < b ∧ b < 1073741824 then some (a / b) else none
def tMod (a b : Int) : Option Int := if 0 < b then some (a % b) else none
def tPow (a b : Int) : Option Int := if 0 ≤ b ∧ b < 100 ∧ 0 ≤ a ∧ a < 100 then some (a ^ b.toNat) else none
@[simp] def tNeg (a : Int) : Option Int := some (-a)
@[simp] def tLt (a b : Int) : Option Bool := some (decide (a < b))
@[simp] def tLe (a b : Int) : Option Bool := some (decide (a ≤ b))
@[simp] def tGt (a b : Int) : Option Bool := some (decide (b < a))
@[simp] def tGe (a b : Int) : Option Bool := some (decide (b ≤ a))
theorem h_add : ∀ a b c, tAdd a b = some c → fAdd (eI a, g1) (eI b, g2) = some (eI c, .pure) := by intro a b c h; cases h; rfl
theorem h_sub : ∀ a b c, tSub a b = some c → fSub (eI a, g1) (eI b, g2) = some (eI c, .pure) := by intro a b c h; cases h; rfl
theorem h_lt : ∀ a b c, tLt a b = some c → fLt (eI a, g1) (eI b, g2) = some (eB c, .pure) := by intro a b c h; cases h; rfl
theorem h_le : ∀ a b c, tLe a b = some c → fLe (eI a, g1) (eI b, g2) = some (eB c, .pure) := by intro a b c h; cases h; rfl
theorem h_gt : ∀ a b c, tGt a b = some c → fGt (eI a, g1) (eI b, g2) = some (eB c, .pure) := by intro a b c h; cases h; rfl
theorem h_ge : ∀ a b c, tGe a b = some c → fGe (eI a, g1) (eI b, g2) = some (eB c, .pure) := by intro a b c h; cases h; rfl
theorem h_mul : ∀ a b c, tMul a b = some c → fMul (eI a, g1) (eI b, g2) = some (eI c, .pure) := by
  intro a b c h
  unfold tMul at h
  split at h
  · rename_i hs
    cases h
    have : CMul a b := by
      unfold smallF at hs
      simp only [Bool.or_eq_true, Bool.and_eq_true, decide_eq_true_eq] at hs
      exact hs
    show ((if CMul a b then some (D.int (a * b)) else none).map fun d => (d, Fl.pure)).or _ = _
    rw [if_pos this]; rfl
  · cases h
theorem h_div : ∀ a b c, tDiv a b = some c → fDiv (eI a, g1) (eI b, g2) = some (eI c, .pure) := by
  intro a b c h
  unfold tDiv at h
  split at h
  · rename_i hs
    cases h
    have : CDiv a b := hs
    show ((if CDiv a b then some (D.int (a / b)) else none).map fun d => (d, Fl.pure)) = _
    rw [if_pos this]; rfl
  · cases h
theorem h_mod : ∀ a b c, tMod a b = some c → fMod (eI a, g1) (eI b, g2) = some (eI c, .pure) := by
  intro a b c h
  unfold tMod at h
  split at h
  · rename_i hs
    cases h
    show ((if 0 < b then some (D.int (a % b)) else none).map fun d => (d, Fl.pure)) = _
    rw [if_pos hs]; rfl
  · cases h
theorem x_neg {t : Option Int} (h : X m ρ eI fl t) : X (mNeg m) ρ eI .pure (op1 tNeg t) := by
  intro c hc
  obtain ⟨a, h1, h3⟩ := bind_some' hc
  cases h3
  unfold mNeg; rw [h a h1]; rfl

/-! truth -/
@[simp] def oNot (t : Option Bool) : Option Bool := t.map (!·)
def oAnd (t u : Option Bool) : Option Bool := t.bind fun k => if k then u else some false
def oOr (t u : Option Bool) : Option Bool := t.bind fun k => if k then some true else u
@[simp] theorem oAnd_some {a b : Bool} : oAnd (some a) (some b) = some (a && b) := by cases a <;> rfl
@[simp] theorem oOr_some {a b : Bool} : oOr (some a) (some b) = some (a || b) := by cases a <;> rfl
@[simp] theorem oAnd_f {u : Option Bool} : oAnd (some false) u = some false := rfl
@[simp] theorem oAnd_t {u : Option Bool} : oAnd (some true) u = u := rfl
@[simp] theorem oOr_f {u : Option Bool} : oOr (some false) u = u := rfl
@[simp] theorem oOr_t {u : Option Bool} : oOr (some true) u = some true := rfl
theorem x_not {t : Option Bool} (h : X m ρ eB fl t) : X (mNot m) ρ eB .pure (oNot t) := by
  intro k hk
  unfold oNot at hk
  cases t with
  | none => cases hk
  | some a => cases hk; unfold mNot; rw [h a rfl]; rfl
theorem x_and {t u : Option Bool} (h : X m ρ eB fl t) (h' : X n ρ eB .pure u) : X (mAnd m n) ρ eB .pure (oAnd t u) := by
  intro k hk
  obtain ⟨a, h1, h2⟩ := bind_some' hk
  unfold mAnd
  rw [h a h1]
  cases a with
  | true => exact h' k h2
  | false => cases h2; rfl
theorem x_or {t u : Option Bool} (h : X m ρ eB fl t) (h' : X n ρ eB .pure u) : X (mOr m n) ρ eB .pure (oOr t u) := by
  intro k hk
  obtain ⟨a, h1, h2⟩ := bind_some' hk
  unfold mOr
  rw [h a h1]
  cases a with
  | true => cases h2; rfl
  | false => exact h' k h2
theorem t_val {t : Option Bool} (h : X m ρ eB fl t) : T (mB m) ρ t := by
  intro k hk; unfold mB; rw [h k hk]; rfl
theorem t_not {t : Option Bool} (h : T b ρ t) : T (bNot b) ρ (oNot t) := by
  intro k hk
  cases t with
  | none => cases hk
  | some a => cases hk; unfold bNot; rw [h a rfl]; rfl
theorem t_and {t u : Option Bool} (h : T b ρ t) (h' : T c ρ u) : T (bAnd b c) ρ (oAnd t u) := by
  intro k hk
  obtain ⟨a, h1, h2⟩ := bind_some' hk
  unfold bAnd
  rw [h a h1]
  cases a with
  | true => exact h' k h2
  | false => cases h2; rfl
theorem t_or {t u : Option Bool} (h : T b ρ t) (h' : T c ρ u) : T (bOr b c) ρ (oOr t u) := by
  intro k hk
  obtain ⟨a, h1, h2⟩ := bind_some' hk
  unfold bOr
  rw [h a h1]
  cases a with
  | true => cases h2; rfl
  | false => exact h' k h2
theorem t_yes : T bYes ρ (some true) := by intro k hk; cases hk; rfl
def oIf (t : Option Bool) (u v : Option α) : Option α := t.bind fun k => if k then u else v
@[simp] theorem oIf_some {k : Bool} {u v : Option α} : oIf (some k) u v = if k then u else v := rfl
theorem x_if {e : En α} {t : Option Bool} {u v : Option α} (h : T b ρ t) (h1 : X m ρ e fl u) (h2 : X n ρ e fl v) : X (mIf b m n) ρ e fl (oIf t u v) := by
  intro a ha
  obtain ⟨k, h3, h4⟩ := bind_some' ha
  unfold mIf
  rw [h k h3]
  cases k with
  | true => exact h1 a h4
  | false => exact h2 a h4
/-- 0 <= i < n -/
theorem x_chain {f f' : F2} {F F' : Int → Int → Option Bool} {t u v : Option Int} (hf : ∀ a b c, F a b = some c → f (eI a, g1) (eI b, g2) = some (eB c, .pure)) (hf' : ∀ a b c, F' a b = some c → f' (eI a, g2) (eI b, g3) = some (eB c, .pure))
    (h1 : X m1 ρ eI g1 t) (h2 : X m2 ρ eI g2 u) (h3 : X m3 ρ eI g3 v) : X (mChain f f' m1 m2 m3) ρ eB .pure (oAnd (op2 F t u) (op2 F' u v)) := by
  intro k hk
  obtain ⟨x, e1, e2⟩ := bind_some' hk
  obtain ⟨a, b, e3, e4, e5⟩ := op2_some' e1
  unfold mChain
  rw [h1 a e3, Option.bind_some, h2 b e4, Option.bind_some, hf a b x e5]
  cases x with
  | false => cases e2; rfl
  | true =>
    obtain ⟨b', c, e6, e7, e8⟩ := op2_some' (show op2 F' u v = some k from e2)
    rw [e4] at e6; cases e6
    show ((m3 ρ).bind fun w => f' (eI b, g2) w) = _
    rw [h3 c e7]
    exact hf' b c k e8

/-! ### tuples, lists -/
theorem map_len {e : En α} {xs : List α} : (xs.map e).length = xs.length := List.length_map _
def tCat (a b : List α) : Option (List α) := if a.length + b.length ≤ 100000 then some (a ++ b) else none
theorem h_catT {e : En α} : ∀ a b c, tCat a b = some c → fAdd (eT e a, g1) (eT e b, g2) = some (eT e c, .pure) := by
  intro a b c h
  unfold tCat at h
  split at h
  · rename_i hl
    cases h
    unfold eT
    show ((if (a.map e).length + (b.map e).length ≤ lim then some ((.tup (a.map e ++ b.map e), .pure) : D × Fl) else none).or none) = _
    rw [map_len, map_len, if_pos (show a.length + b.length ≤ lim from hl), List.map_append]; rfl
  · cases h
theorem h_catL {e : En α} : ∀ a b c, tCat a b = some c → fAdd (eL e a, g1) (eL e b, g2) = some (eL e c, .fresh) := by
  intro a b c h
  unfold tCat at h
  split at h
  · rename_i hl
    cases h
    unfold eL
    show (if (a.map e).length + (b.map e).length ≤ lim then some ((.lst (a.map e ++ b.map e), .fresh) : D × Fl) else none) = _
    rw [map_len, map_len, if_pos (show a.length + b.length ≤ lim from hl), List.map_append]
  · cases h
def tRepL (a : List α) (k : Int) : Option (List α) := if 0 ≤ k ∧ k ≤ 100000 ∧ a.length * k.toNat ≤ 100000 then some (List.replicate k.toNat a).flatten else none
theorem rep_map {e : En α} {a : List α} {k : Nat} : (List.replicate k (a.map e)).flatten = ((List.replicate k a).flatten).map e := by
  induction k with
  | zero => rfl
  | succ k ih => simp only [List.replicate_succ, List.flatten_cons, List.map_append, ih]
theorem h_repL {e : En α} : ∀ a b c, tRepL a b = some c → fMul (eL e a, g1) (eI b, g2) = some (eL e c, .fresh) := by
  intro a b c h
  unfold tRepL at h
  split at h
  · rename_i hl
    cases h
    unfold eL eI
    show (if 0 ≤ b ∧ b ≤ lim ∧ (a.map e).length * b.toNat ≤ lim then some ((.lst (List.replicate b.toNat (a.map e)).flatten, .fresh) : D × Fl) else none) = _
    rw [map_len, if_pos (show 0 ≤ b ∧ b ≤ (lim : Int) ∧ a.length * b.toNat ≤ lim from hl), rep_map]
  · cases h
def tRepT (a : List α) (k : Int) : Option (List α) := if a ≠ [] ∧ -1000 ≤ k ∧ k ≤ 1000 ∧ a.length ≤ 1000 then some (List.replicate k.toNat a).flatten else none
theorem h_repT {e : En α} : ∀ a b c, tRepT a b = some c → fMulT (eT e a, g1) (eI b, g2) = some (eT e c, .pure) := by
  intro a b c h
  unfold tRepT at h
  split at h
  · rename_i hl
    cases h
    obtain ⟨h0, h1, h2, h3⟩ := hl
    cases a with
    | nil => exact absurd rfl h0
    | cons x xs =>
      unfold eT eI
      show (if -1000 ≤ b ∧ b ≤ 1000 ∧ (e x :: xs.map e).length ≤ 1000 then some ((.tup (List.replicate b.toNat ((x :: xs).map e)).flatten, .pure) : D × Fl) else none) = _
      rw [List.length_cons, map_len, if_pos ⟨h1, h2, by simpa using h3⟩, rep_map]
  · cases h
def tIx (a : List α) (i : Int) : Option α := atI a i
theorem atI_map' {f : α → β} {xs : List α} {i : Int} : atI (xs.map f) i = (atI xs i).map f := by
  unfold atI
  rw [List.length_map]
  cases ixN xs.length i with
  | none => rfl
  | some j => simp [Option.bind]
theorem h_ixL {e : En α} : ∀ a b c, tIx a b = some c → fIx (eL e a, g1) (eI b, g2) = some (e c, .pure) := by
  intro a b c h
  show (atI (a.map e) b).map (fun d => (d, Fl.pure)) = _
  rw [atI_map', show atI a b = some c from h]; rfl
theorem h_ixT {e : En α} : ∀ a b c, tIx a b = some c → fIx (eT e a, g1) (eI b, g2) = some (e c, .pure) := by
  intro a b c h
  show (atI (a.map e) b).map (fun d => (d, Fl.pure)) = _
  rw [atI_map', show atI a b = some c from h]; rfl
theorem h_ixF : ∀ a b c, tIx a b = some c → fIx (eF a, g1) (eI b, g2) = some (eI c, .pure) := by
  intro a b c h
  show (atI a b).map (fun d => (D.int d, Fl.pure)) = _
  rw [show atI a b = some c from h]; rfl
/-- a pair's parts by a written index -/
theorem x_p0 {e1 : En α} {e2 : En β} {t : Option (α × β)} (h : X m ρ (eP e1 e2) fl t) : X (mOp fIx m (mC (.int 0))) ρ e1 .pure (t.map (·.1)) := by
  intro a ha
  cases t with
  | none => cases ha
  | some p => cases ha; unfold mOp; rw [h p rfl]; rfl
theorem x_p1 {e1 : En α} {e2 : En β} {t : Option (α × β)} (h : X m ρ (eP e1 e2) fl t) : X (mOp fIx m (mC (.int 1))) ρ e2 .pure (t.map (·.2)) := by
  intro a ha
  cases t with
  | none => cases ha
  | some p => cases ha; unfold mOp; rw [h p rfl]; rfl
theorem x_q0 {e1 : En α} {e2 : En β} {e3 : En γ} {t : Option (α × β × γ)} (h : X m ρ (eP3 e1 e2 e3) fl t) : X (mOp fIx m (mC (.int 0))) ρ e1 .pure (t.map (·.1)) := by
  intro a ha
  cases t with
  | none => cases ha
  | some p => cases ha; unfold mOp; rw [h p rfl]; rfl
theorem x_q1 {e1 : En α} {e2 : En β} {e3 : En γ} {t : Option (α × β × γ)} (h : X m ρ (eP3 e1 e2 e3) fl t) : X (mOp fIx m (mC (.int 1))) ρ e2 .pure (t.map (·.2.1)) := by
  intro a ha
  cases t with
  | none => cases ha
  | some p => cases ha; unfold mOp; rw [h p rfl]; rfl
theorem x_q2 {e1 : En α} {e2 : En β} {e3 : En γ} {t : Option (α × β × γ)} (h : X m ρ (eP3 e1 e2 e3) fl t) : X (mOp fIx m (mC (.int 2))) ρ e3 .pure (t.map (·.2.2)) := by
  intro a ha
  cases t with
  | none => cases ha
  | some p => cases ha; unfold mOp; rw [h p rfl]; rfl
/-- a pair's part by an index that is found -/
def tPix (p : α × α) (i : Int) : Option α := tIx [p.1, p.2] i
theorem h_ixP {e : En α} : ∀ a b c, tPix a b = some c → fIx (eP e e a, g1) (eI b, g2) = some (e c, .pure) := by
  intro a b c h
  exact h_ixT (e := e) (g1 := g1) (g2 := g2) [a.1, a.2] b c h
@[simp] def tLen (a : List α) : Option Int := some a.length
theorem h_lenL {e : En α} : ∀ a c, tLen a = some c → fLen [(eL e a, g1)] = some (eI c, .pure) := by
  intro a c h; cases h
  show some (D.int (a.map e).length, Fl.pure) = _
  rw [map_len]; rfl
theorem h_lenT {e : En α} : ∀ a c, tLen a = some c → fLen [(eT e a, g1)] = some (eI c, .pure) := by
  intro a c h; cases h
  show some (D.int (a.map e).length, Fl.pure) = _
  rw [map_len]; rfl
theorem h_lenF : ∀ a c, tLen a = some c → fLen [(eF a, g1)] = some (eI c, .pure) := by intro a c h; cases h; rfl
@[simp] def tId (a : α) : Option α := some a
theorem h_listL {e : En α} : ∀ a c, tId a = some c → fList [(eL e a, g1)] = some (eL e c, .fresh) := by intro a c h; cases h; rfl
theorem h_listT {e : En α} : ∀ a c, tId a = some c → fList [(eT e a, g1)] = some (eL e c, .fresh) := by intro a c h; cases h; rfl
theorem h_listF : ∀ a c, tId a = some c → fList [(eF a, g1)] = some (eL eI c, .fresh) := by intro a c h; cases h; rfl
theorem h_tupL {e : En α} : ∀ a c, tId a = some c → fTuple [(eL e a, g1)] = some (eT e c, .pure) := by intro a c h; cases h; rfl
theorem h_tupT {e : En α} : ∀ a c, tId a = some c → fTuple [(eT e a, g1)] = some (eT e c, .pure) := by intro a c h; cases h; rfl
@[simp] def tMax2 (a b : Int) : Option Int := some (if b > a then b else a)
@[simp] def tMin2 (a b : Int) : Option Int := some (if b < a then b else a)
theorem h_max2 : ∀ a b c, tMax2 a b = some c → fMax2 [(eI a, g1), (eI b, g2)] = some (eI c, .pure) := by intro a b c h; cases h; rfl
theorem h_min2 : ∀ a b c, tMin2 a b = some c → fMin2 [(eI a, g1), (eI b, g2)] = some (eI c, .pure) := by intro a b c h; cases h; rfl
theorem getBls_e : ∀ xs : List Bool, getBls (xs.map eB) = some xs
  | [] => rfl
  | x :: xs => by show (getBls (xs.map eB)).map (x :: ·) = _; rw [getBls_e xs]; rfl
theorem getIs_e : ∀ xs : List Int, getIs (xs.map eI) = some xs
  | [] => rfl
  | x :: xs => by show (getIs (xs.map eI)).map (x :: ·) = _; rw [getIs_e xs]; rfl
@[simp] def tAll (a : List Bool) : Option Bool := some (a.all id)
@[simp] def tAny (a : List Bool) : Option Bool := some (a.any id)
theorem h_all : ∀ a c, tAll a = some c → fAll [(eL eB a, g1)] = some (eB c, .pure) := by
  intro a c h; cases h
  show (getBls (a.map eB)).map (fun bs => (D.bl (bs.all id), Fl.pure)) = _
  rw [getBls_e]; rfl
theorem h_any : ∀ a c, tAny a = some c → fAny [(eL eB a, g1)] = some (eB c, .pure) := by
  intro a c h; cases h
  show (getBls (a.map eB)).map (fun bs => (D.bl (bs.any id), Fl.pure)) = _
  rw [getBls_e]; rfl
@[simp] def tSort (a : List Int) : Option (List Int) := some (srtI a)
theorem h_sortL : ∀ a c, tSort a = some c → fSorted [(eL eI a, g1)] = some (eL eI c, .fresh) := by
  intro a c h; cases h
  show (getIs (a.map eI)).map (fun ns => (D.lst ((srtI ns).map .int), Fl.fresh)) = _
  rw [getIs_e]; rfl
theorem h_sortT : ∀ a c, tSort a = some c → fSorted [(eT eI a, g1)] = some (eL eI c, .fresh) := by
  intro a c h; cases h
  show (getIs (a.map eI)).map (fun ns => (D.lst ((srtI ns).map .int), Fl.fresh)) = _
  rw [getIs_e]; rfl
def tMaxL (a : List Int) : Option Int := match a with | [] => none | x :: xs => some (bestMax x xs)
def tMinL (a : List Int) : Option Int := match a with | [] => none | x :: xs => some (bestMin x xs)
theorem h_maxL : ∀ a c, tMaxL a = some c → fMax1 [(eL eI a, g1)] = some (eI c, .pure) := by
  intro a c h
  show ((getIs (a.map eI)).bind fun ns => match ns with | [] => none | x :: xs => some (D.int (bestMax x xs), Fl.pure)) = _
  rw [getIs_e]
  cases a with
  | nil => cases h
  | cons x xs => cases h; rfl
theorem h_maxT : ∀ a c, tMaxL a = some c → fMax1 [(eT eI a, g1)] = some (eI c, .pure) := by
  intro a c h
  show ((getIs (a.map eI)).bind fun ns => match ns with | [] => none | x :: xs => some (D.int (bestMax x xs), Fl.pure)) = _
  rw [getIs_e]
  cases a with
  | nil => cases h
  | cons x xs => cases h; rfl
theorem h_minL : ∀ a c, tMinL a = some c → fMin1 [(eL eI a, g1)] = some (eI c, .pure) := by
  intro a c h
  show ((getIs (a.map eI)).bind fun ns => match ns with | [] => none | x :: xs => some (D.int (bestMin x xs), Fl.pure)) = _
  rw [getIs_e]
  cases a with
  | nil => cases h
  | cons x xs => cases h; rfl
theorem h_minT : ∀ a c, tMinL a = some c → fMin1 [(eT eI a, g1)] = some (eI c, .pure) := by
  intro a c h
  show ((getIs (a.map eI)).bind fun ns => match ns with | [] => none | x :: xs => some (D.int (bestMin x xs), Fl.pure)) = _
  rw [getIs_e]
  cases a with
  | nil => cases h
  | cons x xs => cases h; rfl
/-- of a pair -/
@[simp] def tPmax (p : Int × Int) : Option Int := some (if p.2 > p.1 then p.2 else p.1)
@[simp] def tPmin (p : Int × Int) : Option Int := some (if p.2 < p.1 then p.2 else p.1)
theorem h_maxP : ∀ a c, tPmax a = some c → fMax1 [(ePr a, g1)] = some (eI c, .pure) := by intro a c h; cases h; rfl
theorem h_minP : ∀ a c, tPmin a = some c → fMin1 [(ePr a, g1)] = some (eI c, .pure) := by intro a c h; cases h; rfl
@[simp] def tPlist (p : α × α) : Option (List α) := some [p.1, p.2]
theorem h_listP {e : En α} : ∀ a c, tPlist a = some c → fList [(eP e e a, g1)] = some (eL e c, .fresh) := by intro a c h; cases h; rfl
/-- list(range(n)), tuple(range(n)) -/
def rngT (lo : Int) (n : Nat) : List Int := (List.range n).map fun k : Nat => lo + (k : Int)
theorem rng_e {lo : Int} {n : Nat} : rngD lo n = (rngT lo n).map eI := by unfold rngD rngT; rw [List.map_map]; rfl
def tRng (n : Int) : Option (List Int) := if 0 ≤ n ∧ n ≤ 100000 then some (rngT 0 n.toNat) else none
theorem x_rngL {t : Option Int} (h : X m ρ eI fl t) : X (fRng1 (fun ds => (.lst ds, .fresh)) m) ρ (eL eI) .fresh (op1 tRng t) := by
  intro c hc
  obtain ⟨a, h1, h3⟩ := bind_some' hc
  unfold tRng at h3
  split at h3
  · rename_i hs
    cases h3
    unfold fRng1
    rw [h _ h1]
    show (if 0 ≤ a ∧ a ≤ 100000 then some ((D.lst (rngD 0 a.toNat), Fl.fresh) : D × Fl) else none) = _
    rw [if_pos hs, rng_e]; rfl
  · cases h3
theorem x_rngT {t : Option Int} (h : X m ρ eI fl t) : X (fRng1 (fun ds => (.tup ds, .pure)) m) ρ (eT eI) .pure (op1 tRng t) := by
  intro c hc
  obtain ⟨a, h1, h3⟩ := bind_some' hc
  unfold tRng at h3
  split at h3
  · rename_i hs
    cases h3
    unfold fRng1
    rw [h _ h1]
    show (if 0 ≤ a ∧ a ≤ 100000 then some ((D.tup (rngD 0 a.toNat), Fl.pure) : D × Fl) else none) = _
    rw [if_pos hs, rng_e]; rfl
  · cases h3
/-! arguments -/
def A (n : As) (ρ : E) (t : Option (List (D × Fl))) : Prop := ∀ a, t = some a → n ρ = some a
theorem a_nil : A aNil ρ (some []) := by intro a h; cases h; rfl
theorem a_cons {e : En α} {n : As} {t : Option α} {u : Option (List (D × Fl))} (h : X m ρ e fl t) (h' : A n ρ u) : A (aCons m n) ρ (t.bind fun a => u.map fun as => (e a, fl) :: as) := by
  intro x hx
  obtain ⟨a, h1, h2⟩ := bind_some' hx
  cases u with
  | none => cases h2
  | some as => cases h2; unfold aCons; rw [h a h1, Option.bind_some, h' as rfl]; rfl
/-- homogeneous displays -/
def Ah (n : As) (ρ : E) (e : En α) (t : Option (List α)) : Prop := ∀ xs, t = some xs → ∃ rs, n ρ = some rs ∧ nb rs = true ∧ rs.map (·.1) = xs.map e
def oCons (t : Option α) (u : Option (List α)) : Option (List α) := t.bind fun a => u.map (a :: ·)
@[simp] theorem oCons_some {a : α} {as : List α} : oCons (some a) (some as) = some (a :: as) := rfl
theorem ah_nil {e : En α} : Ah aNil ρ e (some []) := by intro a h; cases h; exact ⟨[], rfl, rfl, rfl⟩
theorem ah_cons {e : En α} {n : As} {t : Option α} {u : Option (List α)} (h : X m ρ e fl t) (h' : Ah n ρ e u) (hb : decide (fl ≠ .bor) = true := by rfl) : Ah (aCons m n) ρ e (oCons t u) := by
  intro x hx
  obtain ⟨a, h1, h2⟩ := bind_some' hx
  cases u with
  | none => cases h2
  | some as =>
    cases h2
    obtain ⟨rs, e1, e2, e3⟩ := h' as rfl
    refine ⟨(e a, fl) :: rs, by unfold aCons; rw [h a h1, Option.bind_some, e1]; rfl, ?_, by simp [e3]⟩
    show (decide (fl ≠ .bor) && nb rs) = true
    rw [hb, e2]; rfl
def tDis (xs : List α) : Option (List α) := if xs.length ≤ 100000 then some xs else none
theorem dis_len {e : En α} {xs ys : List α} {rs : List (D × Fl)} (e3 : rs.map (·.1) = xs.map e) : rs.length = xs.length := by
  have := congrArg List.length e3
  simpa using this
theorem x_tup {e : En α} {n : As} {t : Option (List α)} (h : Ah n ρ e t) : X (mTup n) ρ (eT e) .pure (op1 tDis t) := by
  intro x hx
  obtain ⟨a, h1, h2⟩ := bind_some' hx
  unfold tDis at h2
  by_cases hl : a.length ≤ 100000
  · rw [if_pos hl] at h2
    cases h2
    obtain ⟨rs, e1, e2, e3⟩ := h _ h1
    unfold mTup
    rw [e1]
    show (if nb rs && decide (rs.length ≤ lim) then some ((D.tup (rs.map (·.1)), Fl.pure) : D × Fl) else none) = _
    have e4 : rs.length ≤ lim := by rw [dis_len (ys := x) e3]; exact hl
    rw [e2, decide_eq_true e4, e3]; rfl
  · rw [if_neg hl] at h2; cases h2
theorem x_lst {e : En α} {n : As} {t : Option (List α)} (h : Ah n ρ e t) : X (mLst n) ρ (eL e) .fresh (op1 tDis t) := by
  intro x hx
  obtain ⟨a, h1, h2⟩ := bind_some' hx
  unfold tDis at h2
  by_cases hl : a.length ≤ 100000
  · rw [if_pos hl] at h2
    cases h2
    obtain ⟨rs, e1, e2, e3⟩ := h _ h1
    unfold mLst
    rw [e1]
    show (if nb rs && decide (rs.length ≤ lim) then some ((D.lst (rs.map (·.1)), Fl.fresh) : D × Fl) else none) = _
    have e4 : rs.length ≤ lim := by rw [dis_len (ys := x) e3]; exact hl
    rw [e2, decide_eq_true e4, e3]; rfl
  · rw [if_neg hl] at h2; cases h2
@[simp] def tPair (a : α) (b : β) : Option (α × β) := some (a, b)
theorem x_pair {e1 : En α} {e2 : En β} {t : Option α} {u : Option β} (h : X m ρ e1 g1 t) (h' : X n ρ e2 g2 u) (hb : decide (g1 ≠ .bor) = true := by rfl) (hb' : decide (g2 ≠ .bor) = true := by rfl) : X (mTup (aCons m (aCons n aNil))) ρ (eP e1 e2) .pure (op2 tPair t u) := by
  intro x hx
  obtain ⟨a, b, h1, h2, h3⟩ := op2_some' hx
  cases h3
  unfold mTup aCons aNil
  rw [h a h1, Option.bind_some, h' b h2]
  show (if (decide (g1 ≠ .bor) && (decide (g2 ≠ .bor) && true)) && decide (2 ≤ lim) then some ((D.tup [e1 a, e2 b], Fl.pure) : D × Fl) else none) = _
  rw [hb, hb']; rfl
def op3 (F : α → β → γ → Option δ) (t : Option α) (u : Option β) (v : Option γ) : Option δ := t.bind fun a => u.bind fun b => v.bind fun c => F a b c
@[simp] theorem op3_some {F : α → β → γ → Option δ} {a : α} {b : β} {c : γ} : op3 F (some a) (some b) (some c) = F a b c := rfl
theorem op3_some' {F : α → β → γ → Option δ} {t : Option α} {u : Option β} {v : Option γ} {d : δ} (h : op3 F t u v = some d) : ∃ a b c, t = some a ∧ u = some b ∧ v = some c ∧ F a b c = some d := by
  obtain ⟨a, h1, h2⟩ := bind_some' h
  obtain ⟨b, h3, h4⟩ := bind_some' h2
  obtain ⟨c, h5, h6⟩ := bind_some' h4
  exact ⟨a, b, c, h1, h3, h5, h6⟩
@[simp] def tTrip (a : α) (b : β) (c : γ) : Option (α × β × γ) := some (a, b, c)
theorem x_trip {e1 : En α} {e2 : En β} {e3 : En γ} {t : Option α} {u : Option β} {v : Option γ} (h : X m1 ρ e1 g1 t) (h' : X m2 ρ e2 g2 u) (h'' : X m3 ρ e3 g3 v) (hb : decide (g1 ≠ .bor) = true := by rfl) (hb' : decide (g2 ≠ .bor) = true := by rfl) (hb'' : decide (g3 ≠ .bor) = true := by rfl) : X (mTup (aCons m1 (aCons m2 (aCons m3 aNil)))) ρ (eP3 e1 e2 e3) .pure (op3 tTrip t u v) := by
  intro x hx
  obtain ⟨a, b, c, h1, h2, h3, h4⟩ := op3_some' hx
  cases h4
  unfold mTup aCons aNil
  rw [h a h1, Option.bind_some, h' b h2, Option.bind_some, h'' c h3]
  show (if (decide (g1 ≠ .bor) && (decide (g2 ≠ .bor) && (decide (g3 ≠ .bor) && true))) && decide (3 ≤ lim) then some ((D.tup [e1 a, e2 b, e3 c], Fl.pure) : D × Fl) else none) = _
  rw [hb, hb', hb'']; rfl
/-! slices -/
def Pt (p : P) (ρ : E) (t : Option (Option Int)) : Prop := ∀ o, t = some o → p ρ = some o
theorem p_no : Pt pNone ρ (some none) := by intro o h; cases h; rfl
theorem p_so {t : Option Int} (h : X m ρ eI fl t) : Pt (pSome m) ρ (t.map some) := by
  intro o ho
  cases t with
  | none => cases ho
  | some a => cases ho; unfold pSome; rw [h a rfl]; rfl
@[simp] def tCut (a : List α) (l u : Option Int) : Option (List α) := some (Dt.cutD a l u)
theorem cut_map {e : En α} {xs : List α} {l u : Option Int} : Dt.cutD (xs.map e) l u = (Dt.cutD xs l u).map e := by
  unfold Dt.cutD
  rw [List.length_map, ← List.map_drop, ← List.map_take]
theorem x_slT {e : En α} {t : Option (List α)} {p q : P} {u v : Option (Option Int)} (h : X m ρ (eT e) fl t) (hp : Pt p ρ u) (hq : Pt q ρ v) : X (mSl m p q) ρ (eT e) .pure (op3 tCut t u v) := by
  intro x hx
  obtain ⟨a, b, c, h1, h2, h3, h4⟩ := op3_some' hx
  cases h4
  unfold mSl
  rw [h a h1, Option.bind_some, hp b h2, Option.bind_some, hq c h3]
  show some ((D.tup (Dt.cutD (a.map e) b c), Fl.pure) : D × Fl) = _
  rw [cut_map]; rfl
theorem x_slL {e : En α} {t : Option (List α)} {p q : P} {u v : Option (Option Int)} (h : X m ρ (eL e) fl t) (hp : Pt p ρ u) (hq : Pt q ρ v) : X (mSl m p q) ρ (eL e) .fresh (op3 tCut t u v) := by
  intro x hx
  obtain ⟨a, b, c, h1, h2, h3, h4⟩ := op3_some' hx
  cases h4
  unfold mSl
  rw [h a h1, Option.bind_some, hp b h2, Option.bind_some, hq c h3]
  show some ((D.lst (Dt.cutD (a.map e) b c), Fl.fresh) : D × Fl) = _
  rw [cut_map]; rfl
/-! networks -/
theorem x_wires {t : Option Net} (h : X m ρ eN fl t) : X (mWires m) ρ eI .pure (t.map (·.w)) := by
  intro a ha
  cases t with
  | none => cases ha
  | some p => cases ha; unfold mWires; rw [h p rfl]; rfl
theorem x_comps {t : Option Net} (h : X m ρ eN fl t) : X (mComps m) ρ (eT ePr) .pure (t.map (·.ps)) := by
  intro a ha
  cases t with
  | none => cases ha
  | some p => cases ha; unfold mComps; rw [h p rfl]; rfl
theorem x_isNet {t : Option Net} (h : X m ρ eN fl t) : X (mIsNet m) ρ eB .pure (t.map fun _ => true) := by
  intro a ha
  cases t with
  | none => cases ha
  | some p => cases ha; unfold mIsNet; rw [h p rfl]; rfl
def okPr (w : Int) (p : Int × Int) : Bool := decide (0 ≤ p.1 ∧ p.1 < w ∧ 0 ≤ p.2 ∧ p.2 < w ∧ p.1 ≠ p.2)
def tNet (w : Int) (ps : List (Int × Int)) : Option Net := if 1 ≤ w ∧ ps.all (okPr w) = true ∧ ps.length ≤ 100000 then some ⟨w, ps⟩ else none
theorem okPairs_e {w : Int} : ∀ ps : List (Int × Int), okPairs w (ps.map ePr) = ps.all (okPr w)
  | [] => rfl
  | p :: ps => by
    have := okPairs_e (w := w) ps
    unfold okPairs at this ⊢
    rw [List.map_cons, List.all_cons, List.all_cons, this]
    rfl
theorem net_of {w : Int} {ps : List (Int × Int)} {c : Net} (h : tNet w ps = some c) {d : D} (hd : pairsOf d = some (ps.map ePr)) : fNet [(eI w, g1), (d, g2)] = some (eN c, .pure) := by
  unfold tNet at h
  split at h
  · rename_i hl
    cases h
    show ((pairsOf d).bind fun ds => if 1 ≤ w ∧ okPairs w ds = true ∧ ds.length ≤ lim then some ((D.net w (.tup ds), Fl.pure) : D × Fl) else none) = _
    rw [hd, Option.bind_some, okPairs_e, map_len, if_pos (show 1 ≤ w ∧ ps.all (okPr w) = true ∧ ps.length ≤ lim from hl)]; rfl
  · cases h
theorem h_netL : ∀ a b c, tNet a b = some c → fNet [(eI a, g1), (eL ePr b, g2)] = some (eN c, .pure) := fun a b c h => net_of h rfl
theorem h_netT : ∀ a b c, tNet a b = some c → fNet [(eI a, g1), (eT ePr b, g2)] = some (eN c, .pure) := fun a b c h => net_of h rfl
/-! isinstance -/
theorem x_isT {Tn : String} {e : En α} {k : Bool} {t : Option α} (hk : ∀ a, isT Tn (e a) = some k) (h : X m ρ e fl t) : X (mIsT Tn m) ρ eB .pure (t.map fun _ => k) := by
  intro a ha
  cases t with
  | none => cases ha
  | some p => cases ha; unfold mIsT; rw [h p rfl, Option.bind_some, hk p]; rfl
theorem it_ii : ∀ a, isT "int" (eI a) = some true := fun _ => isT_int_int
theorem it_ib : ∀ a, isT "int" (eB a) = some true := fun _ => isT_int_bl
theorem it_bi : ∀ a, isT "bool" (eI a) = some false := fun _ => isT_bool_int
theorem it_bb : ∀ a, isT "bool" (eB a) = some true := fun _ => isT_bool_bl
theorem it_tT {e : En α} : ∀ a, isT "tuple" (eT e a) = some true := fun _ => isT_tuple_tup
theorem it_tP {e : En α} {f : En β} : ∀ a, isT "tuple" (eP e f a) = some true := fun _ => isT_tuple_tup
theorem it_tQ {e : En α} {f : En β} {g : En γ} : ∀ a, isT "tuple" (eP3 e f g a) = some true := fun _ => isT_tuple_tup
theorem it_lL {e : En α} : ∀ a, isT "list" (eL e a) = some true := fun _ => isT_list_lst
theorem it_tL {e : En α} : ∀ a, isT "tuple" (eL e a) = some false := fun _ => isT_tuple_lst
theorem isT_str_str {s : Str} : isT "str" (.str s) = some true := by show kitB "str" "str" = some true; decide +kernel
theorem it_ss : ∀ a, isT "str" (eS a) = some true := fun _ => isT_str_str
/-- a tuple or None -/
theorem x_isTO {e : En α} {t : Option (Option α)} (hk : ∀ a, isT "tuple" (e a) = some true) (h : X m ρ (eO e) fl t) : X (mIsT "tuple" m) ρ eB .pure (t.map fun o => o.isSome) := by
  intro a ha
  cases t with
  | none => cases ha
  | some p =>
    cases ha
    unfold mIsT
    rw [h p rfl, Option.bind_some]
    cases p with
    | none => show (isT "tuple" .non).map _ = _; rw [isT_tuple_non]; rfl
    | some x => show (isT "tuple" (e x)).map _ = _; rw [hk x]; rfl
/-! is None, is True -/
class NN (e : En α) : Prop where
  nn : ∀ a, (match e a with | .non => true | _ => false) = false
instance : NN eI := ⟨fun _ => rfl⟩
instance : NN eB := ⟨fun _ => rfl⟩
instance : NN eS := ⟨fun _ => rfl⟩
instance : NN eN := ⟨fun _ => rfl⟩
instance {e : En α} : NN (eT e) := ⟨fun _ => rfl⟩
instance {e : En α} : NN (eL e) := ⟨fun _ => rfl⟩
instance {e : En α} {f : En β} : NN (eP e f) := ⟨fun _ => rfl⟩
instance {e : En α} {f : En β} {g : En γ} : NN (eP3 e f g) := ⟨fun _ => rfl⟩
theorem x_isN {e : En α} [NN e] {t : Option (Option α)} (h : X m ρ (eO e) fl t) : X (mOp (fIsN false) m (mC .non)) ρ eB .pure (t.map fun o => !o.isSome) := by
  intro a ha
  cases t with
  | none => cases ha
  | some p =>
    cases ha
    unfold mOp
    rw [h p rfl]
    cases p with
    | none => rfl
    | some x =>
      show some (D.bl (match e x with | .non => true | _ => false), Fl.pure) = _
      rw [NN.nn x]; rfl
theorem x_notN {e : En α} [NN e] {t : Option (Option α)} (h : X m ρ (eO e) fl t) : X (mOp (fIsN true) m (mC .non)) ρ eB .pure (t.map fun o => o.isSome) := by
  intro a ha
  cases t with
  | none => cases ha
  | some p =>
    cases ha
    unfold mOp
    rw [h p rfl]
    cases p with
    | none => rfl
    | some x =>
      show some (D.bl (!(match e x with | .non => true | _ => false)), Fl.pure) = _
      rw [NN.nn x]; rfl
@[simp] def tIsB (a b : Bool) : Option Bool := some (decide (a = b))
@[simp] def tNotB (a b : Bool) : Option Bool := some (!decide (a = b))
theorem h_isB : ∀ a b c, tIsB a b = some c → fIsB false (eB a, g1) (eB b, g2) = some (eB c, .pure) := by intro a b c h; cases h; rfl
theorem h_notB : ∀ a b c, tNotB a b = some c → fIsB true (eB a, g1) (eB b, g2) = some (eB c, .pure) := by intro a b c h; cases h; rfl

/-! ### == -/
structure EqE [DecidableEq α] (e : En α) (k : Nat) : Prop where
  dat : ∀ a, isDat (e a) = true
  lay : ∀ a, (py (e a)).canLay0 = true
  dep : ∀ a, (py (e a)).depth ≤ k
  eqv : ∀ a b, PyData.eqv (py (e a)) (py (e b)) = decide (a = b)
theorem EqE.okD [DecidableEq α] {e : En α} {k : Nat} (h : EqE e k) (hk : k ≤ 64) (a : α) : okD (e a) = true := by
  unfold Dt.okD
  rw [h.dat a, Bool.true_and]
  show ((py (e a)).canLay0 && decide ((py (e a)).depth ≤ 64)) = true
  rw [h.lay a, Bool.true_and]
  exact decide_eq_true (Nat.le_trans (h.dep a) hk)
theorem eqE_I : EqE eI 1 where
  dat := fun _ => rfl
  lay := fun _ => by simp [eI, py, PyData.canLay0]
  dep := fun _ => by simp [eI, py, PyData.depth]
  eqv := fun a b => by simp only [eI, py, PyData.eqv]; exact Bool.beq_eq_decide_eq a b
theorem eqE_B : EqE eB 1 where
  dat := fun _ => rfl
  lay := fun _ => by simp [eB, py, PyData.canLay0]
  dep := fun _ => by simp [eB, py, PyData.depth]
  eqv := fun a b => by cases a <;> cases b <;> simp [eB, py, PyData.eqv]
theorem pys_map {e : En α} : ∀ xs : List α, pys (xs.map e) = xs.map fun a => py (e a)
  | [] => rfl
  | x :: xs => by simp [pys, pys_map xs]
theorem dats_map {e : En α} (h : ∀ a, isDat (e a) = true) : ∀ xs : List α, isDats (xs.map e) = true
  | [] => rfl
  | x :: xs => by simp [isDats, h x, dats_map h xs]
theorem lays_map {f : α → PyData} (h : ∀ a, (f a).canLay0 = true) : ∀ xs : List α, PyData.canLayAll0 (xs.map f) = true
  | [] => by simp [PyData.canLayAll0]
  | x :: xs => by simp [PyData.canLayAll0, h x, lays_map h xs]
theorem deps_map {f : α → PyData} {k : Nat} (h : ∀ a, (f a).depth ≤ k) : ∀ xs : List α, PyData.depthAll (xs.map f) ≤ k + 1
  | [] => by simp [PyData.depthAll]
  | x :: xs => by
    have h1 := deps_map h xs
    have h2 := h x
    simp only [List.map_cons, PyData.depthAll]
    omega
theorem eqvs_map [DecidableEq α] {f : α → PyData} (h : ∀ a b, PyData.eqv (f a) (f b) = decide (a = b)) : ∀ xs ys : List α, PyData.eqvAll (xs.map f) (ys.map f) = decide (xs = ys)
  | [], [] => by simp [PyData.eqvAll]
  | [], y :: ys => by simp [PyData.eqvAll]
  | x :: xs, [] => by simp [PyData.eqvAll]
  | x :: xs, y :: ys => by
    simp only [List.map_cons, PyData.eqvAll, h, eqvs_map h xs ys]
    by_cases h1 : x = y
    · by_cases h2 : xs = ys
      · subst h1; subst h2; simp
      · simp [h1, h2]
    · simp [h1]
theorem eqE_T [DecidableEq α] {e : En α} {k : Nat} (h : EqE e k) : EqE (eT e) (k + 2) where
  dat := fun a => by show isDats (a.map e) = true; exact dats_map h.dat a
  lay := fun a => by
    show (PyData.tuple (pys (a.map e))).canLay0 = true
    rw [pys_map]; simp only [PyData.canLay0]; exact lays_map h.lay a
  dep := fun a => by
    have := deps_map h.dep a
    show (PyData.tuple (pys (a.map e))).depth ≤ _
    rw [pys_map]; simp only [PyData.depth]; omega
  eqv := fun a b => by
    show PyData.eqv (PyData.tuple (pys (a.map e))) (PyData.tuple (pys (b.map e))) = _
    rw [pys_map, pys_map]; simp only [PyData.eqv]; exact eqvs_map h.eqv a b
theorem eqE_L [DecidableEq α] {e : En α} {k : Nat} (h : EqE e k) : EqE (eL e) (k + 2) where
  dat := fun a => by show isDats (a.map e) = true; exact dats_map h.dat a
  lay := fun a => by
    show (PyData.list (pys (a.map e))).canLay0 = true
    rw [pys_map]; simp only [PyData.canLay0]; exact lays_map h.lay a
  dep := fun a => by
    have := deps_map h.dep a
    show (PyData.list (pys (a.map e))).depth ≤ _
    rw [pys_map]; simp only [PyData.depth]; omega
  eqv := fun a b => by
    show PyData.eqv (PyData.list (pys (a.map e))) (PyData.list (pys (b.map e))) = _
    rw [pys_map, pys_map]; simp only [PyData.eqv]; exact eqvs_map h.eqv a b
theorem eqE_P [DecidableEq α] [DecidableEq β] {e : En α} {f : En β} {k l : Nat} (h : EqE e k) (h' : EqE f l) : EqE (eP e f) (k + l + 2) where
  dat := fun a => by show isDats [e a.1, f a.2] = true; simp [isDats, h.dat, h'.dat]
  lay := fun a => by
    show (PyData.tuple [py (e a.1), py (f a.2)]).canLay0 = true
    simp [PyData.canLay0, PyData.canLayAll0, h.lay, h'.lay]
  dep := fun a => by
    have h1 := h.dep a.1
    have h2 := h'.dep a.2
    show (PyData.tuple [py (e a.1), py (f a.2)]).depth ≤ _
    simp only [PyData.depth, PyData.depthAll]; omega
  eqv := fun a b => by
    show PyData.eqv (PyData.tuple [py (e a.1), py (f a.2)]) (PyData.tuple [py (e b.1), py (f b.2)]) = _
    simp only [PyData.eqv, PyData.eqvAll, h.eqv, h'.eqv]
    obtain ⟨a1, a2⟩ := a; obtain ⟨b1, b2⟩ := b
    by_cases h1 : a1 = b1 <;> by_cases h2 : a2 = b2 <;> simp [h1, h2]
theorem eqE_O [DecidableEq α] {e : En α} {k : Nat} (h : EqE e k) (h0 : ∀ a, PyData.eqv .none (py (e a)) = false) (h1 : ∀ a, PyData.eqv (py (e a)) .none = false) : EqE (eO e) (k + 1) where
  dat := fun a => by cases a <;> simp [eO, isDat, h.dat]
  lay := fun a => by cases a <;> simp [eO, py, PyData.canLay0, h.lay]
  dep := fun a => by
    cases a with
    | none => simp [eO, py, PyData.depth]
    | some a => have := h.dep a; simp only [eO]; omega
  eqv := fun a b => by
    cases a <;> cases b
    · simp [eO, py, PyData.eqv]
    · simp only [eO, py, h0]; simp
    · simp only [eO, py, h1]; simp
    · simp only [eO, h.eqv]; simp
theorem none_T {e : En α} : ∀ a, PyData.eqv .none (py (eT e a)) = false := fun a => by simp [eT, py, PyData.eqv]
theorem T_none {e : En α} : ∀ a, PyData.eqv (py (eT e a)) .none = false := fun a => by simp [eT, py, PyData.eqv]
def tEq [DecidableEq α] (a b : α) : Option Bool := some (decide (a = b))
def tNe [DecidableEq α] (a b : α) : Option Bool := some (!decide (a = b))
@[simp] theorem tEq_def [DecidableEq α] {a b : α} : tEq a b = some (decide (a = b)) := rfl
@[simp] theorem tNe_def [DecidableEq α] {a b : α} : tNe a b = some (!decide (a = b)) := rfl
theorem h_eq [DecidableEq α] {e : En α} {k : Nat} (h : EqE e k) (hk : k ≤ 64 := by decide) : ∀ a b c, tEq a b = some c → fEq (e a, g1) (e b, g2) = some (eB c, .pure) := by
  intro a b c hc; cases hc
  unfold fEq
  rw [h.okD hk a, h.okD hk b, h.eqv]; rfl
theorem h_ne [DecidableEq α] {e : En α} {k : Nat} (h : EqE e k) (hk : k ≤ 64 := by decide) : ∀ a b c, tNe a b = some c → fNe (e a, g1) (e b, g2) = some (eB c, .pure) := by
  intro a b c hc; cases hc
  unfold fNe
  rw [h.okD hk a, h.okD hk b, h.eqv]; rfl
/-! in -/
def tIn [DecidableEq α] (a : α) (b : List α) : Option Bool := some (decide (a ∈ b))
def tNin [DecidableEq α] (a : α) (b : List α) : Option Bool := some (!decide (a ∈ b))
@[simp] theorem tIn_def [DecidableEq α] {a : α} {b : List α} : tIn a b = some (decide (a ∈ b)) := rfl
@[simp] theorem tNin_def [DecidableEq α] {a : α} {b : List α} : tNin a b = some (!decide (a ∈ b)) := rfl
theorem flats_e : ∀ xs : List Int, (xs.map eI).all flatD = true
  | [] => rfl
  | x :: xs => by show (true && (xs.map eI).all flatD) = true; rw [flats_e xs]; rfl
theorem any_e (x : Int) : ∀ xs : List Int, ((xs.map eI).any fun z => eqF z (eI x)) = decide (x ∈ xs)
  | [] => by simp
  | y :: xs => by
    rw [List.map_cons, List.any_cons, any_e x xs]
    show ((y == x) || decide (x ∈ xs)) = _
    by_cases h : y = x
    · subst h; simp
    · have h' : ¬ x = y := fun z => h z.symm
      by_cases h2 : x ∈ xs <;> simp [h, h', h2]
theorem h_inT : ∀ a b c, tIn a b = some c → (fun x y => (fInF false x y).or (fIn x y)) (eI a, g1) (eT eI b, g2) = some (eB c, .pure) := by
  intro a b c h; cases h
  show ((if flatD (eI a) && (b.map eI).all flatD then some ((D.bl ((b.map eI).any fun z => eqF z (eI a)), Fl.pure) : D × Fl) else none).or _) = _
  rw [flats_e, any_e]; rfl
theorem h_inL : ∀ a b c, tIn a b = some c → (fun x y => (fInF false x y).or (fIn x y)) (eI a, g1) (eL eI b, g2) = some (eB c, .pure) := by
  intro a b c h; cases h
  show ((if flatD (eI a) && (b.map eI).all flatD then some ((D.bl ((b.map eI).any fun z => eqF z (eI a)), Fl.pure) : D × Fl) else none).or _) = _
  rw [flats_e, any_e]; rfl
theorem h_ninT : ∀ a b c, tNin a b = some c → (fun x y => (fInF true x y).or (fNotIn x y)) (eI a, g1) (eT eI b, g2) = some (eB c, .pure) := by
  intro a b c h; cases h
  show ((if flatD (eI a) && (b.map eI).all flatD then some ((D.bl (!((b.map eI).any fun z => eqF z (eI a))), Fl.pure) : D × Fl) else none).or _) = _
  rw [flats_e, any_e]; rfl
theorem h_ninL : ∀ a b c, tNin a b = some c → (fun x y => (fInF true x y).or (fNotIn x y)) (eI a, g1) (eL eI b, g2) = some (eB c, .pure) := by
  intro a b c h; cases h
  show ((if flatD (eI a) && (b.map eI).all flatD then some ((D.bl (!((b.map eI).any fun z => eqF z (eI a))), Fl.pure) : D × Fl) else none).or _) = _
  rw [flats_e, any_e]; rfl
/-- in a pair -/
@[simp] def tInP (a : Int) (b : Int × Int) : Option Bool := some (decide (a = b.1) || decide (a = b.2))
@[simp] def tNinP (a : Int) (b : Int × Int) : Option Bool := some (!(decide (a = b.1) || decide (a = b.2)))
theorem inP_e {a : Int} {b : Int × Int} : decide (a ∈ [b.1, b.2]) = (decide (a = b.1) || decide (a = b.2)) := by
  by_cases h : a = b.1 <;> by_cases h2 : a = b.2 <;> simp [h, h2]
theorem h_inP : ∀ a b c, tInP a b = some c → (fun x y => (fInF false x y).or (fIn x y)) (eI a, g1) (ePr b, g2) = some (eB c, .pure) := by
  intro a b c h; cases h
  have := h_inT (g1 := g1) (g2 := g2) a [b.1, b.2] _ rfl
  rw [inP_e] at this
  exact this
theorem h_ninP : ∀ a b c, tNinP a b = some c → (fun x y => (fInF true x y).or (fNotIn x y)) (eI a, g1) (ePr b, g2) = some (eB c, .pure) := by
  intro a b c h; cases h
  have := h_ninT (g1 := g1) (g2 := g2) a [b.1, b.2] _ rfl
  rw [inP_e] at this
  exact this
/-- data in a list of data (no flat ones) -/
theorem any_eqE [DecidableEq α] {e : En α} {k : Nat} (h : EqE e k) (x : α) : ∀ xs : List α, ((pys (xs.map e)).any fun z => PyData.eqv z (py (e x))) = decide (x ∈ xs)
  | [] => by simp [pys]
  | y :: xs => by
    simp only [List.map_cons, pys, List.any_cons, any_eqE h x xs, h.eqv]
    by_cases q : y = x
    · subst q; simp
    · have q' : ¬ x = y := fun z => q z.symm
      by_cases h2 : x ∈ xs <;> simp [q, q', h2]
theorem h_inD [DecidableEq α] {e : En α} {k : Nat} (h : EqE e k) (hf : ∀ a, flatD (e a) = false) (hk : k + 2 ≤ 64 := by decide) : ∀ a b c, tIn a b = some c → (fun x y => (fInF false x y).or (fIn x y)) (e a, g1) (eL e b, g2) = some (eB c, .pure) := by
  intro a b c hc; cases hc
  show ((if flatD (e a) && (b.map e).all flatD then some ((D.bl ((b.map e).any fun z => eqF z (e a)), Fl.pure) : D × Fl) else none).or (if okD (e a) && okD (eL e b) then some (.bl ((pys (b.map e)).any fun z => PyData.eqv z (py (e a))), .pure) else none)) = _
  rw [hf a, h.okD (by omega) a, (eqE_L h).okD hk b, any_eqE h]; rfl
theorem h_ninD [DecidableEq α] {e : En α} {k : Nat} (h : EqE e k) (hf : ∀ a, flatD (e a) = false) (hk : k + 2 ≤ 64 := by decide) : ∀ a b c, tNin a b = some c → (fun x y => (fInF true x y).or (fNotIn x y)) (e a, g1) (eL e b, g2) = some (eB c, .pure) := by
  intro a b c hc; cases hc
  show ((if flatD (e a) && (b.map e).all flatD then some ((D.bl (!((b.map e).any fun z => eqF z (e a))), Fl.pure) : D × Fl) else none).or (if okD (e a) && okD (eL e b) then some (.bl (!((pys (b.map e)).any fun z => PyData.eqv z (py (e a)))), .pure) else none)) = _
  rw [hf a, h.okD (by omega) a, (eqE_L h).okD hk b, any_eqE h]; rfl
end
end Ty

set_option maxRecDepth 100000
set_option maxHeartbeats 4000000
namespace Ty
open PySem PySem.Spec PyProof.Rows L2 Dt
section
variable {α β γ δ ε σ τ J : Type}
variable {m n m1 m2 m3 m4 m5 m6 : M} {ρ ρ' : E} {fl g0 g1 g2 g3 g4 g5 g6 : Fl} {b c : B}

/-! ### what is walked -/
def It (mi : I) (ρ : E) (e : En α) (t : Option (List α)) : Prop := ∀ xs, t = some xs → mi ρ = some (xs.map e)
theorem it_L {w : Bool} {e : En α} {t : Option (List α)} (h : X m ρ (eL e) fl t) (hw : (w || decide (fl ≠ .bor)) = true := by rfl) : It (iS w m) ρ e t := by
  intro xs hx
  unfold iS
  rw [h xs hx]
  show (if (w || decide (fl ≠ .bor)) = true then some (xs.map e) else none) = _
  rw [hw]; rfl
theorem it_T {w : Bool} {e : En α} {t : Option (List α)} (h : X m ρ (eT e) fl t) : It (iS w m) ρ e t := by
  intro xs hx
  unfold iS
  rw [h xs hx]; rfl
theorem it_P {w : Bool} {e : En α} {t : Option (α × α)} (h : X m ρ (eP e e) fl t) : It (iS w m) ρ e (t.map fun p => [p.1, p.2]) := by
  intro xs hx
  cases t with
  | none => cases hx
  | some p => cases hx; unfold iS; rw [h p rfl]; rfl
def big (i : Int) : Bool := decide (-(2 ^ 62) ≤ i) && decide (i < 2 ^ 62)
def tR1 (j : Int) : Option (List Int) := if big j then some (rngT 0 j.toNat) else none
def tR2 (i j : Int) : Option (List Int) := if big i && big j then some (rngT i (j - i).toNat) else none
def tR3 (i j : Int) (c : Int) : Option (List Int) := if c = -1 ∧ big i = true ∧ big j = true then some ((List.range (i - j).toNat).map fun k : Nat => i + (k : Int) * (-1)) else none
theorem big_iff {i : Int} : big i = true ↔ -(2 ^ 62) ≤ i ∧ i < 2 ^ 62 := by unfold big; simp only [Bool.and_eq_true, decide_eq_true_eq]
theorem it_r1 {t : Option Int} (h : X m ρ eI fl t) : It (iR1 (aCons m aNil)) ρ eI (op1 tR1 t) := by
  intro xs hx
  obtain ⟨j, h1, h2⟩ := bind_some' hx
  unfold tR1 at h2
  by_cases hb : big j = true
  · rw [if_pos hb] at h2
    cases h2
    unfold iR1 aCons aNil
    rw [h j h1]
    show (if -(2 ^ 62) ≤ j ∧ j < 2 ^ 62 then some (rngD 0 j.toNat) else none) = _
    rw [if_pos (big_iff.mp hb), rng_e]
  · rw [if_neg hb] at h2; cases h2
theorem it_r2 {t u : Option Int} (h : X m ρ eI g1 t) (h' : X n ρ eI g2 u) : It (iR2 (aCons m (aCons n aNil))) ρ eI (op2 tR2 t u) := by
  intro xs hx
  obtain ⟨i, j, h1, h2, h3⟩ := op2_some' hx
  unfold tR2 at h3
  by_cases hb : (big i && big j) = true
  · rw [if_pos hb] at h3
    cases h3
    rw [Bool.and_eq_true] at hb
    unfold iR2 aCons aNil
    rw [h i h1, Option.bind_some, h' j h2]
    show (if -(2 ^ 62) ≤ i ∧ i < 2 ^ 62 ∧ -(2 ^ 62) ≤ j ∧ j < 2 ^ 62 then some (rngD i (j - i).toNat) else none) = _
    have b1 := big_iff.mp hb.1
    have b2 := big_iff.mp hb.2
    rw [if_pos ⟨b1.1, b1.2, b2.1, b2.2⟩, rng_e]
  · rw [if_neg hb] at h3; cases h3
theorem it_r3 {t u v : Option Int} (h : X m1 ρ eI g1 t) (h' : X m2 ρ eI g2 u) (h'' : X m3 ρ eI g3 v) : It (iR3 (aCons m1 (aCons m2 (aCons m3 aNil)))) ρ eI (op3 tR3 t u v) := by
  intro xs hx
  obtain ⟨i, j, c, h1, h2, h3, h4⟩ := op3_some' hx
  unfold tR3 at h4
  by_cases hb : c = -1 ∧ big i = true ∧ big j = true
  · rw [if_pos hb] at h4
    cases h4
    unfold iR3 aCons aNil
    rw [h i h1, Option.bind_some, h' j h2, Option.bind_some, h'' c h3]
    show (if c = -1 ∧ -(2 ^ 62) ≤ i ∧ i < 2 ^ 62 ∧ -(2 ^ 62) ≤ j ∧ j < 2 ^ 62 then some ((List.range (i - j).toNat).map fun k : Nat => D.int (i + k * (-1))) else none) = _
    have b1 := big_iff.mp hb.2.1
    have b2 := big_iff.mp hb.2.2
    rw [if_pos ⟨hb.1, b1.1, b1.2, b2.1, b2.2⟩, List.map_map]; rfl
  · rw [if_neg hb] at h4; cases h4
theorem zip_e {e1 : En α} {e2 : En β} : ∀ (a : List α) (b : List β), zipD (a.map e1) (b.map e2) = (a.zip b).map (eZ e1 e2)
  | [], _ => by simp [zipD]
  | _ :: _, [] => by simp [zipD]
  | x :: a, y :: b => by
    simp only [List.map_cons, zipD, List.zip_cons_cons, zip_e a b]; rfl
@[simp] def tZip (a : List α) (b : List β) : Option (List (α × β)) := some (a.zip b)
theorem it_rev {w : Bool} {e : En α} {t : Option (List α)} (h : It (iS w m) ρ e t) : It (iRv w m) ρ e (t.map List.reverse) := by
  intro xs hx
  cases t with
  | none => cases hx
  | some a => cases hx; unfold iRv; rw [h a rfl]; simp

/-! ### comprehensions -/
def lcG (tt : α → Option Bool) (te : α → Option β) : List α → Option (List β)
  | [] => some []
  | x :: xs => (tt x).bind fun k => if k then (te x).bind fun y => (lcG tt te xs).map (y :: ·) else lcG tt te xs
def lcT (tt : α → Option Bool) (te : α → Option β) (xs : List α) : Option (List β) := if xs.length ≤ 100000 then lcG tt te xs else none
theorem map_some' {t : Option α} {f : α → β} {b : β} (h : t.map f = some b) : ∃ a, t = some a ∧ f a = b := by
  cases t with
  | none => cases h
  | some a => exact ⟨a, rfl, by cases h; rfl⟩
theorem lcGo_e {e : En α} {f : En β} {g : D → E → Option E} {mt : B} {me : M} {ρ0 : E} {ρ1 : α → E} {tt : α → Option Bool} {te : α → Option β} (hg : ∀ x, g (e x) ρ0 = some (ρ1 x)) (ht : ∀ x, T mt (ρ1 x) (tt x)) (he : ∀ x, X me (ρ1 x) f fl (te x)) (hb : decide (fl ≠ .bor) = true) :
    ∀ (xs : List α) (ys : List β), lcG tt te xs = some ys → lcGo g mt me (xs.map e) ρ0 = some (ys.map f)
  | [], ys, h => by cases h; rfl
  | x :: xs, ys, h => by
    obtain ⟨k, h1, h2⟩ := bind_some' h
    rw [List.map_cons]
    unfold lcGo
    rw [hg x, Option.bind_some, ht x k h1, Option.bind_some]
    cases k with
    | false => exact lcGo_e hg ht he hb xs ys h2
    | true =>
      obtain ⟨y, h3, h4⟩ := bind_some' (show (te x).bind (fun y => (lcG tt te xs).map (y :: ·)) = some ys from h2)
      obtain ⟨zs, h5, h6⟩ := map_some' h4
      subst h6
      show ((me (ρ1 x)).bind fun r => if r.2 = .bor then none else (lcGo g mt me (xs.map e) ρ0).map fun es => r.1 :: es) = _
      rw [he x y h3, Option.bind_some, lcGo_e hg ht he hb xs zs h5]
      show (if fl = .bor then none else some (f y :: zs.map f)) = _
      rw [if_neg (of_decide_eq_true hb)]; rfl
theorem x_lc {e : En α} {f : En β} {mi : I} {g : D → E → Option E} {mt : B} {me : M} {vs : List Nat} {ti : Option (List α)} {tt : α → Option Bool} {te : α → Option β} (hi : It mi ρ e ti) (ρ1 : α → E) (hg : ∀ x, g (e x) (wipeE ρ vs) = some (ρ1 x)) (ht : ∀ x, T mt (ρ1 x) (tt x)) (he : ∀ x, X me (ρ1 x) f fl (te x)) (hb : decide (fl ≠ .bor) = true := by rfl) :
    X (mLc mi g mt me vs) ρ (eL f) .fresh (op1 (lcT tt te) ti) := by
  intro ys hy
  obtain ⟨xs, h1, h2⟩ := bind_some' hy
  unfold lcT at h2
  by_cases hl : xs.length ≤ 100000
  · rw [if_pos hl] at h2
    unfold mLc
    rw [hi xs h1]
    show (if (xs.map e).length ≤ lim then (lcGo g mt me (xs.map e) (wipeE ρ vs)).map fun es => ((.lst es, .fresh) : D × Fl) else none) = _
    rw [map_len, if_pos (show xs.length ≤ lim from hl), lcGo_e hg ht he hb xs ys h2]; rfl
  · rw [if_neg hl] at h2; cases h2
/-- two for -/
def lcG2 (tt : α → Option Bool) (ti : α → Option (List β)) (tt1 : α → β → Option Bool) (te : α → β → Option γ) : List α → Option (List γ)
  | [] => some []
  | x :: xs => (tt x).bind fun k => if k then (ti x).bind fun ys => (lcG (tt1 x) (te x) ys).bind fun es => (lcG2 tt ti tt1 te xs).map fun fs => es ++ fs else lcG2 tt ti tt1 te xs
def lcT2 (tt : α → Option Bool) (ti : α → Option (List β)) (tt1 : α → β → Option Bool) (te : α → β → Option γ) (xs : List α) : Option (List γ) := (lcG2 tt ti tt1 te xs).bind fun es => if es.length ≤ 100000 then some es else none
theorem lcGo2_e {e : En α} {e1 : En β} {f : En γ} {g g' : D → E → Option E} {mt mt1 : B} {mi1 : I} {me : M} {vs1 : List Nat} {ρ0 : E} {ρ1 : α → E} {ρ2 : α → β → E} {tt : α → Option Bool} {ti : α → Option (List β)} {tt1 : α → β → Option Bool} {te : α → β → Option γ} (hg : ∀ x, g (e x) ρ0 = some (ρ1 x)) (ht : ∀ x, T mt (ρ1 x) (tt x))
    (hi : ∀ x, It mi1 (ρ1 x) e1 (ti x)) (hg1 : ∀ x y, g' (e1 y) (wipeE (ρ1 x) vs1) = some (ρ2 x y)) (ht1 : ∀ x y, T mt1 (ρ2 x y) (tt1 x y)) (he : ∀ x y, X me (ρ2 x y) f fl (te x y)) (hb : decide (fl ≠ .bor) = true) :
    ∀ (xs : List α) (ys : List γ), lcG2 tt ti tt1 te xs = some ys → lcGo2 g mt mi1 g' mt1 me vs1 (xs.map e) ρ0 = some (ys.map f)
  | [], ys, h => by cases h; rfl
  | x :: xs, ys, h => by
    obtain ⟨k, h1, h2⟩ := bind_some' h
    rw [List.map_cons]
    unfold lcGo2
    rw [hg x, Option.bind_some, ht x k h1, Option.bind_some]
    cases k with
    | false => exact lcGo2_e hg ht hi hg1 ht1 he hb xs ys h2
    | true =>
      obtain ⟨zs, h3, h4⟩ := bind_some' (show (ti x).bind (fun ys => (lcG (tt1 x) (te x) ys).bind fun es => (lcG2 tt ti tt1 te xs).map fun fs => es ++ fs) = some ys from h2)
      obtain ⟨es, h5, h6⟩ := bind_some' h4
      obtain ⟨fs, h7, h8⟩ := map_some' h6
      subst h8
      show ((mi1 (ρ1 x)).bind fun ds1 => (lcGo g' mt1 me ds1 (wipeE (ρ1 x) vs1)).bind fun es => (lcGo2 g mt mi1 g' mt1 me vs1 (xs.map e) ρ0).map fun fs => es ++ fs) = _
      rw [hi x zs h3, Option.bind_some, lcGo_e (hg1 x) (ht1 x) (he x) hb zs es h5, Option.bind_some, lcGo2_e hg ht hi hg1 ht1 he hb xs fs h7, Option.map_some, List.map_append]
theorem x_lc2 {e : En α} {e1 : En β} {f : En γ} {mi mi1 : I} {g g' : D → E → Option E} {mt mt1 : B} {me : M} {vs vs1 : List Nat} {t0 : Option (List α)} {tt : α → Option Bool} {ti : α → Option (List β)} {tt1 : α → β → Option Bool} {te : α → β → Option γ} (hi0 : It mi ρ e t0) (ρ1 : α → E) (hg : ∀ x, g (e x) (wipeE ρ vs) = some (ρ1 x)) (ht : ∀ x, T mt (ρ1 x) (tt x))
    (hi : ∀ x, It mi1 (ρ1 x) e1 (ti x)) (ρ2 : α → β → E) (hg1 : ∀ x y, g' (e1 y) (wipeE (ρ1 x) vs1) = some (ρ2 x y)) (ht1 : ∀ x y, T mt1 (ρ2 x y) (tt1 x y)) (he : ∀ x y, X me (ρ2 x y) f fl (te x y)) (hb : decide (fl ≠ .bor) = true := by rfl) :
    X (mLc2 mi g mt mi1 g' mt1 me vs vs1) ρ (eL f) .fresh (op1 (lcT2 tt ti tt1 te) t0) := by
  intro ys hy
  obtain ⟨xs, h1, h2⟩ := bind_some' hy
  obtain ⟨zs, h3, h4⟩ := bind_some' h2
  by_cases hl : zs.length ≤ 100000
  · rw [if_pos hl] at h4
    cases h4
    unfold mLc2
    rw [hi0 xs h1, Option.bind_some, lcGo2_e hg ht hi hg1 ht1 he hb xs _ h3]
    show (if (ys.map f).length ≤ lim then some ((.lst (ys.map f), .fresh) : D × Fl) else none) = _
    rw [map_len, if_pos (show ys.length ≤ lim from hl)]; rfl
  · rw [if_neg hl] at h4; cases h4

/-! ### calls -/
class Im (e : En α) : Prop where
  im : ∀ a, imm (e a) = true
theorem imms_map {e : En α} [Im e] : ∀ xs : List α, imms (xs.map e) = true
  | [] => rfl
  | x :: xs => by simp only [List.map_cons, imms, Im.im x, imms_map xs, Bool.and_self]
instance : Im eI := ⟨fun _ => rfl⟩
instance : Im eB := ⟨fun _ => rfl⟩
instance : Im eS := ⟨fun _ => rfl⟩
instance : Im eU := ⟨fun _ => rfl⟩
instance {e : En α} [Im e] : Im (eT e) := ⟨fun a => by show imms (a.map e) = true; exact imms_map a⟩
instance {e : En α} {f : En β} [Im e] [Im f] : Im (eP e f) := ⟨fun a => by show (imm (e a.1) && (imm (f a.2) && true)) = true; rw [Im.im, Im.im]; rfl⟩
instance {e : En α} {f : En β} {g : En γ} [Im e] [Im f] [Im g] : Im (eP3 e f g) := ⟨fun a => by show (imm (e a.1) && (imm (f a.2.1) && (imm (g a.2.2) && true))) = true; rw [Im.im, Im.im, Im.im]; rfl⟩
instance : Im eN := ⟨fun a => by show imm (eT ePr a.ps) = true; exact Im.im a.ps⟩
instance {e : En α} [Im e] : Im (eO e) := ⟨fun a => by cases a with | none => rfl | some x => exact Im.im (e := e) x⟩
def Post (gs : List Fl) (er : En α) (fr : Bool) (fl : Fl) : Prop := ∀ (rs : List (D × Fl)) a, rs.map (·.2) = gs → postC rs (er a, fr) = some (er a, fl)
theorem nb_map {rs : List (D × Fl)} {gs : List Fl} (h : rs.map (·.2) = gs) : nb rs = gs.all fun f => decide (f ≠ .bor) := by
  subst h; unfold nb; rw [List.all_map]; rfl
theorem po_i {gs : List Fl} {er : En α} [Im er] : Post gs er false .pure := by
  intro rs a h
  unfold postC
  simp only [Im.im (e := er) a, if_true, Bool.false_eq_true, if_false]
  split <;> rfl
theorem po_f {gs : List Fl} {er : En α} [Im er] : Post gs (eL er) true .fresh := by
  intro rs a h
  unfold postC eL
  simp only [imms_map (e := er) a, if_true]
  split <;> rfl
theorem po_n {gs : List Fl} {er : En α} {fr : Bool} (h : (gs.all fun f => decide (f ≠ .bor)) = true := by rfl) : Post gs er fr (if fr then .fresh else .pure) := by
  intro rs a hr
  unfold postC
  rw [nb_map hr, h]; rfl
theorem x_call0 {F : FD} {er : En α} {fr : Bool} {tF : Option α} (hF : ∀ r, tF = some r → F [] = some (er r, fr)) (hp : Post [] er fr fl) : X (mCall F aNil) ρ er fl tF := by
  intro r hr
  show (F []).bind (postC []) = _
  rw [hF r hr]; exact hp [] r rfl
theorem x_call1 {F : FD} {e1 : En α} {er : En δ} {fr : Bool} {tF : α → Option δ} {t : Option α} (hF : ∀ a r, tF a = some r → F [e1 a] = some (er r, fr)) (hp : Post [g1] er fr fl) (h1 : X m1 ρ e1 g1 t) : X (mCall F (aCons m1 aNil)) ρ er fl (op1 tF t) := by
  intro r hr
  obtain ⟨a, q1, q⟩ := bind_some' hr
  unfold mCall aCons aNil
  rw [h1 a q1]
  show (F [e1 a]).bind (postC [(e1 a, g1)]) = _
  rw [hF a r q]; exact hp _ r rfl
theorem x_call2 {F : FD} {e1 : En α} {e2 : En β} {er : En δ} {fr : Bool} {tF : α → β → Option δ} {t : Option α} {u : Option β} (hF : ∀ a b r, tF a b = some r → F [e1 a, e2 b] = some (er r, fr)) (hp : Post [g1, g2] er fr fl) (h1 : X m1 ρ e1 g1 t) (h2 : X m2 ρ e2 g2 u) : X (mCall F (aCons m1 (aCons m2 aNil))) ρ er fl (op2 tF t u) := by
  intro r hr
  obtain ⟨a, b, q1, q2, q⟩ := op2_some' hr
  unfold mCall aCons aNil
  rw [h1 a q1, Option.bind_some, h2 b q2]
  show (F [e1 a, e2 b]).bind (postC [(e1 a, g1), (e2 b, g2)]) = _
  rw [hF a b r q]; exact hp _ r rfl
theorem x_call3 {F : FD} {e1 : En α} {e2 : En β} {e3 : En γ} {er : En δ} {fr : Bool} {tF : α → β → γ → Option δ} {t : Option α} {u : Option β} {v : Option γ} (hF : ∀ a b c r, tF a b c = some r → F [e1 a, e2 b, e3 c] = some (er r, fr)) (hp : Post [g1, g2, g3] er fr fl) (h1 : X m1 ρ e1 g1 t) (h2 : X m2 ρ e2 g2 u) (h3 : X m3 ρ e3 g3 v) :
    X (mCall F (aCons m1 (aCons m2 (aCons m3 aNil)))) ρ er fl (op3 tF t u v) := by
  intro r hr
  obtain ⟨a, b, c, q1, q2, q3, q⟩ := op3_some' hr
  unfold mCall aCons aNil
  rw [h1 a q1, Option.bind_some, h2 b q2, Option.bind_some, h3 c q3]
  show (F [e1 a, e2 b, e3 c]).bind (postC [(e1 a, g1), (e2 b, g2), (e3 c, g3)]) = _
  rw [hF a b c r q]; exact hp _ r rfl
def op4 {ζ : Type} (F : α → β → γ → δ → Option ζ) (t : Option α) (u : Option β) (v : Option γ) (w : Option δ) : Option ζ := t.bind fun a => u.bind fun b => v.bind fun c => w.bind fun d => F a b c d
@[simp] theorem op4_some {ζ : Type} {F : α → β → γ → δ → Option ζ} {a : α} {b : β} {c : γ} {d : δ} : op4 F (some a) (some b) (some c) (some d) = F a b c d := rfl
theorem x_call4 {ζ : Type} {F : FD} {e1 : En α} {e2 : En β} {e3 : En γ} {e4 : En δ} {er : En ζ} {fr : Bool} {tF : α → β → γ → δ → Option ζ} {t : Option α} {u : Option β} {v : Option γ} {w : Option δ} (hF : ∀ a b c d r, tF a b c d = some r → F [e1 a, e2 b, e3 c, e4 d] = some (er r, fr)) (hp : Post [g1, g2, g3, g4] er fr fl) (h1 : X m1 ρ e1 g1 t) (h2 : X m2 ρ e2 g2 u) (h3 : X m3 ρ e3 g3 v) (h4 : X m4 ρ e4 g4 w) :
    X (mCall F (aCons m1 (aCons m2 (aCons m3 (aCons m4 aNil))))) ρ er fl (op4 tF t u v w) := by
  intro r hr
  obtain ⟨a, q1, hr⟩ := bind_some' hr
  obtain ⟨b, c, d, q2, q3, q4, q⟩ := op3_some' (F := tF a) (by exact hr)
  unfold mCall aCons aNil
  rw [h1 a q1, Option.bind_some, h2 b q2, Option.bind_some, h3 c q3, Option.bind_some, h4 d q4]
  show (F [e1 a, e2 b, e3 c, e4 d]).bind (postC [(e1 a, g1), (e2 b, g2), (e3 c, g3), (e4 d, g4)]) = _
  rw [hF a b c d r q]; exact hp _ r rfl
def op5 {ζ η : Type} (F : α → β → γ → δ → ζ → Option η) (t : Option α) (u : Option β) (v : Option γ) (w : Option δ) (x : Option ζ) : Option η := t.bind fun a => op4 (F a) u v w x
@[simp] theorem op5_some {ζ η : Type} {F : α → β → γ → δ → ζ → Option η} {a : α} {b : β} {c : γ} {d : δ} {z : ζ} : op5 F (some a) (some b) (some c) (some d) (some z) = F a b c d z := rfl
theorem x_call5 {ζ η : Type} {F : FD} {e1 : En α} {e2 : En β} {e3 : En γ} {e4 : En δ} {e5 : En ζ} {er : En η} {fr : Bool} {tF : α → β → γ → δ → ζ → Option η} {t : Option α} {u : Option β} {v : Option γ} {w : Option δ} {x : Option ζ} (hF : ∀ a b c d z r, tF a b c d z = some r → F [e1 a, e2 b, e3 c, e4 d, e5 z] = some (er r, fr)) (hp : Post [g1, g2, g3, g4, g5] er fr fl) (h1 : X m1 ρ e1 g1 t) (h2 : X m2 ρ e2 g2 u) (h3 : X m3 ρ e3 g3 v) (h4 : X m4 ρ e4 g4 w) (h5 : X m5 ρ e5 g5 x) :
    X (mCall F (aCons m1 (aCons m2 (aCons m3 (aCons m4 (aCons m5 aNil)))))) ρ er fl (op5 tF t u v w x) := by
  intro r hr
  obtain ⟨a, q1, hr⟩ := bind_some' hr
  obtain ⟨b, q2, hr⟩ := bind_some' hr
  obtain ⟨c, d, z, q3, q4, q5, q⟩ := op3_some' (F := tF a b) (by exact hr)
  unfold mCall aCons aNil
  rw [h1 a q1, Option.bind_some, h2 b q2, Option.bind_some, h3 c q3, Option.bind_some, h4 d q4, Option.bind_some, h5 z q5]
  show (F [e1 a, e2 b, e3 c, e4 d, e5 z]).bind (postC [(e1 a, g1), (e2 b, g2), (e3 c, g3), (e4 d, g4), (e5 z, g5)]) = _
  rw [hF a b c d z r q]; exact hp _ r rfl
theorem x_meth1 {F : FD} {e1 : En α} {er : En δ} {fr : Bool} {tF : Net → α → Option δ} {t : Option Net} {u : Option α} (hF : ∀ a b r, tF a b = some r → F [eN a, e1 b] = some (er r, fr)) (hp : Post [g0, g1] er fr fl) (h0 : X m ρ eN g0 t) (h1 : X m1 ρ e1 g1 u) : X (mMeth F m (aCons m1 aNil)) ρ er fl (op2 tF t u) := by
  intro r hr
  obtain ⟨a, b, q1, q2, q⟩ := op2_some' hr
  unfold mMeth aCons aNil
  rw [h0 a q1]
  show ((m1 ρ).bind fun r => some [r]).bind (fun rs => (F (eN a :: rs.map (·.1))).bind (postC ((eN a, g0) :: rs))) = _
  rw [h1 b q2]
  show (F [eN a, e1 b]).bind (postC [(eN a, g0), (e1 b, g1)]) = _
  rw [hF a b r q]; exact hp _ r rfl
theorem x_prop {F : FD} {er : En δ} {fr : Bool} {tF : Net → Option δ} {t : Option Net} (hF : ∀ a r, tF a = some r → F [eN a] = some (er r, fr)) (hp : Post [g0] er fr fl) (h0 : X m ρ eN g0 t) : X (mProp F m) ρ er fl (op1 tF t) := by
  intro r hr
  obtain ⟨a, q1, q⟩ := bind_some' hr
  unfold mProp
  rw [h0 a q1]
  show (F [eN a]).bind (postC [(eN a, g0)]) = _
  rw [hF a r q]; exact hp _ r rfl
def tNetEq (F : Net → Net → Option Bool) (a b : Net) : Option Bool := (F a b).bind fun k => if k then some true else none
theorem h_netEq {F : FD} {tF : Net → Net → Option Bool} (hF : ∀ a b r, tF a b = some r → F [eN a, eN b] = some (eB r, false)) : ∀ a b c, tNetEq tF a b = some c → fNetEq F (eN a, g1) (eN b, g2) = some (eB c, .pure) := by
  intro a b c h
  obtain ⟨k, h1, h2⟩ := bind_some' h
  cases k with
  | false => cases h2
  | true =>
    cases h2
    unfold fNetEq
    show (match F [eN a, eN b] with | some (.bl true, false) => some ((.bl true, .pure) : D × Fl) | _ => none) = _
    rw [hF a b true h1]; rfl

/-! ### statements -/
def Jg (m : S) (ρ : E) (P : Option Out → β → Prop) (t : Option β) : Prop := ∀ b, t = some b → P (m ρ) b
inductive Step (σ β : Type) where | nxt (s : σ) | ret (b : β)
def cont {γ : Type} (k : σ → Option β) (w : γ → β) : Step σ γ → Option β
  | .nxt s => k s
  | .ret r => some (w r)
@[simp] theorem cont_nxt {γ : Type} {k : σ → Option β} {w : γ → β} {s : σ} : cont k w (.nxt s) = k s := rfl
@[simp] theorem cont_ret {γ : Type} {k : σ → Option β} {w : γ → β} {r : γ} : cont k w (.ret r) = some (w r) := rfl
def PF (er : En β) (fr : Bool) : Option Out → β → Prop := fun o a => o = some (.rt (er a) fr)
def PN (env : σ → J → E) : Option Out → σ → Prop := fun o s => ∃ j, o = some (.nx (env s j))
def PL (env : σ → J → E) (er : En β) (fr : Bool) : Option Out → Step σ β → Prop := fun o st => match st with
  | .nxt s => ∃ j, o = some (.nx (env s j))
  | .ret r => o = some (.rt (er r) fr)
/-- a def that may fall off its end -/
def PU : Option Out → Unit → Prop := fun o _ => o = some (.rt .non false) ∨ ∃ ρ, o = some (.nx ρ)
variable {P : Option Out → β → Prop} {s s' : S}
theorem r_fun {bd : S} {k : Nat} {ds : List D} {er : En β} {fr : Bool} {t : Option β} (h : Jg bd (ds.map (fun d => some (d, false)) ++ List.replicate (k - ds.length) none) (PF er fr) t) : ∀ a, t = some a → runF k bd ds = some (er a, fr) := by
  intro a ha
  unfold runF
  rw [h a ha]
theorem r_funU {bd : S} {k : Nat} {ds : List D} {t : Option Unit} (h : Jg bd (ds.map (fun d => some (d, false)) ++ List.replicate (k - ds.length) none) PU t) : ∀ a, t = some a → runF k bd ds = some (eU a, false) := by
  intro a ha
  unfold runF
  rcases h a ha with e | ⟨ρ, e⟩ <;> rw [e] <;> rfl
theorem seq_of_nx {m n : S} {ρ ρ' : E} (h : m ρ = some (.nx ρ')) : sSeq m n ρ = n ρ' := by unfold sSeq; rw [h]; rfl
theorem seq_nil {m : S} {ρ : E} : sSeq m sNil ρ = m ρ := by
  unfold sSeq
  cases m ρ with
  | none => rfl
  | some o => cases o <;> rfl
theorem seq_assoc {a b n : S} {ρ : E} : sSeq (sSeq a b) n ρ = sSeq a (sSeq b n) ρ := by
  unfold sSeq
  cases a ρ with
  | none => rfl
  | some o => cases o <;> rfl
theorem j_last {t : Option β} (h : Jg (sSeq s sNil) ρ P t) : Jg s ρ P t := by intro b hb; have := h b hb; rwa [seq_nil] at this
theorem j_assoc {a b n : S} {t : Option β} (h : Jg (sSeq a (sSeq b n)) ρ P t) : Jg (sSeq (sSeq a b) n) ρ P t := by intro x hx; rw [seq_assoc]; exact h x hx
theorem j_nilS {n : S} {t : Option β} (h : Jg n ρ P t) : Jg (sSeq sNil n) ρ P t := fun b hb => h b hb
theorem j_no {t : Option β} : Jg sNo ρ P (none : Option β) := fun b hb => nomatch hb
theorem j_noS {n : S} : Jg (sSeq sNo n) ρ P (none : Option β) := fun b hb => nomatch hb
theorem j_ret {er : En β} {t : Option β} (h : X m ρ er fl t) : Jg (sRet m) ρ (PF er (decide (fl ≠ .pure))) t := by
  intro b hb; show (m ρ).map _ = _; rw [h b hb]; rfl
theorem j_retL {env : σ → J → E} {er : En β} {t : Option β} (h : X m ρ er fl t) : Jg (sRet m) ρ (PL env er (decide (fl ≠ .pure))) (t.map Step.ret) := by
  intro b hb
  obtain ⟨a, h1, rfl⟩ := map_some' hb
  show (m ρ).map _ = _; rw [h a h1]; rfl
theorem j_retS {n : S} {t : Option β} (h : Jg (sRet m) ρ P t) : Jg (sSeq (sRet m) n) ρ P t := by
  intro b hb
  have e : sSeq (sRet m) n ρ = sRet m ρ := by
    unfold sSeq sRet
    cases m ρ <;> rfl
  rw [e]; exact h b hb
theorem j_endN {env : σ → J → E} {st : σ} (j : J) (h : ρ = env st j := by rfl) : Jg sNil ρ (PN env) (some st) := by
  intro b hb; cases hb; exact ⟨j, by rw [h]; rfl⟩
theorem j_endL {env : σ → J → E} {er : En β} {fr : Bool} {st : σ} (j : J) (h : ρ = env st j := by rfl) : Jg sNil ρ (PL env er fr) (some (Step.nxt st : Step σ β)) := by
  intro b hb; cases hb; exact ⟨j, by rw [h]; rfl⟩
theorem j_endU : Jg sNil ρ PU (some ()) := fun _ _ => .inr ⟨ρ, rfl⟩
/-- a name gets a value -/
theorem j_set {e : En α} {i : Nat} {n : S} {t : Option α} {k : α → Option β} (h : X m ρ e .pure t) (ρ1 : α → E) (hn : ∀ a, Jg n (ρ1 a) P (k a)) (hρ : ∀ a, ρ.set i (some (e a, false)) = ρ1 a := by intro; rfl) : Jg (sSeq (sSet i m) n) ρ P (t.bind k) := by
  intro b hb
  obtain ⟨a, h1, h2⟩ := bind_some' hb
  have : sSet i m ρ = some (.nx (ρ1 a)) := by unfold sSet; rw [h a h1, ← hρ a]; rfl
  rw [seq_of_nx this]
  exact hn a b h2
theorem j_setO {e : En α} {i : Nat} {n : S} {t : Option α} {k : α → Option β} (h : X m ρ e .fresh t) (ρ1 : α → E) (hn : ∀ a, Jg n (ρ1 a) P (k a)) (hρ : ∀ a, ρ.set i (some (e a, true)) = ρ1 a := by intro; rfl) : Jg (sSeq (sSet i m) n) ρ P (t.bind k) := by
  intro b hb
  obtain ⟨a, h1, h2⟩ := bind_some' hb
  have : sSet i m ρ = some (.nx (ρ1 a)) := by unfold sSet; rw [h a h1, ← hρ a]; rfl
  rw [seq_of_nx this]
  exact hn a b h2
theorem j_asg {e : En α} {g : D → E → Option E} {n : S} {t : Option α} {k : α → Option β} (h : X m ρ e .pure t) (ρ1 : α → E) (hn : ∀ a, Jg n (ρ1 a) P (k a)) (hρ : ∀ a, g (e a) ρ = some (ρ1 a) := by intro; rfl) : Jg (sSeq (sAsg m g) n) ρ P (t.bind k) := by
  intro b hb
  obtain ⟨a, h1, h2⟩ := bind_some' hb
  have : sAsg m g ρ = some (.nx (ρ1 a)) := by unfold sAsg; rw [h a h1]; show (if Fl.pure = .pure then (g (e a) ρ).map Out.nx else none) = _; rw [hρ a]; rfl
  rw [seq_of_nx this]
  exact hn a b h2
theorem j_par {e1 : En α} {e2 : En γ} {i j : Nat} {n : S} {t : Option α} {u : Option γ} {k : α → γ → Option β} (h : X m1 ρ e1 .pure t) (h' : X m2 ρ e2 .pure u) (ρ1 : α → γ → E) (hn : ∀ a c, Jg n (ρ1 a c) P (k a c)) (hρ : ∀ a c, (ρ.set i (some (e1 a, false))).set j (some (e2 c, false)) = ρ1 a c := by intro _ _; rfl) : Jg (sSeq (sPar i j (aCons m1 (aCons m2 aNil))) n) ρ P (op2 k t u) := by
  intro b hb
  obtain ⟨a, c, h1, h2, h3⟩ := op2_some' hb
  have : sPar i j (aCons m1 (aCons m2 aNil)) ρ = some (.nx (ρ1 a c)) := by unfold sPar aCons aNil; rw [h a h1, Option.bind_some, h' c h2, ← hρ a c]; rfl
  rw [seq_of_nx this]
  exact hn a c b h3
def tSet (xs : List α) (i : Int) (a : α) : Option (List α) := (ixN xs.length i).map fun k => xs.set k a
theorem gIx_e {e : En α} {k : Nat} {mi : M} {xs : List α} {i : Int} {a : α} {ys : List α} (hk : ρ[k]? = some (some (eL e xs, true))) (hi : mi ρ = some (eI i, fl)) (h : tSet xs i a = some ys) : gIx k mi (e a) ρ = some (ρ.set k (some (eL e ys, true))) := by
  obtain ⟨n, h1, h2⟩ := map_some' h
  subst h2
  unfold gIx
  rw [hk]
  show ((mi ρ).bind fun r => match r.1 with
    | .int j => (ixN (xs.map e).length j).map fun n => ρ.set k (some (.lst ((xs.map e).set n (e a)), true))
    | _ => none) = _
  rw [hi]
  show (ixN (xs.map e).length i).map (fun n => ρ.set k (some (.lst ((xs.map e).set n (e a)), true))) = _
  rw [map_len, h1]
  show some (ρ.set k (some (.lst ((xs.map e).set n (e a)), true))) = _
  rw [← List.map_set]; rfl
/-- xs[i] = v -/
theorem j_store {e : En α} {k : Nat} {mi : M} {n : S} {xs : List α} {t : Option α} {u : Option Int} {kk : List α → Option β} (hk : ρ[k]? = some (some (eL e xs, true))) (h : X m ρ e .pure t) (h' : X mi ρ eI g2 u) (ρ1 : List α → E) (hn : ∀ ys, Jg n (ρ1 ys) P (kk ys)) (hρ : ∀ ys, ρ.set k (some (eL e ys, true)) = ρ1 ys := by intro; rfl) :
    Jg (sSeq (sAsg m (gIx k mi)) n) ρ P ((op2 (fun a i => tSet xs i a) t u).bind kk) := by
  intro b hb
  obtain ⟨ys, h1, h2⟩ := bind_some' hb
  obtain ⟨a, i, h3, h4, h5⟩ := op2_some' h1
  have : sAsg m (gIx k mi) ρ = some (.nx (ρ1 ys)) := by
    unfold sAsg; rw [h a h3]
    show (if Fl.pure = .pure then (gIx k mi (e a) ρ).map Out.nx else none) = _
    rw [gIx_e hk (h' i h4) h5, ← hρ ys]; rfl
  rw [seq_of_nx this]
  exact hn ys b h2
/-- xs[i], xs[j] = v, w -/
theorem j_store2 {e : En α} {k : Nat} {mi mj : M} {n : S} {xs : List α} {t t' : Option α} {u u' : Option Int} {kk : List α → Option β} (hk : ρ[k]? = some (some (eL e xs, true))) (h1 : X m1 ρ e g1 t) (h2 : X m2 ρ e g2 t') (h3 : X mi ρ eI g3 u) (ρ1 : List α → E) (h4 : ∀ ys, X mj (ρ1 ys) eI g4 u') (hn : ∀ ys, Jg n (ρ1 ys) P (kk ys))
    (hb1 : decide (g1 ≠ .bor) = true := by rfl) (hb2 : decide (g2 ≠ .bor) = true := by rfl) (hρ : ∀ ys, ρ.set k (some (eL e ys, true)) = ρ1 ys := by intro; rfl) (hk1 : ∀ ys, (ρ1 ys)[k]? = some (some (eL e ys, true)) := by intro; rfl) (hρ2 : ∀ ys zs, (ρ1 ys).set k (some (eL e zs, true)) = ρ1 zs := by intro _ _; rfl) :
    Jg (sSeq (sAsg (mTup (aCons m1 (aCons m2 aNil))) (gTs 2 (gsCons (gIx k mi) (gsCons (gIx k mj) gsNil)))) n) ρ P
      ((op4 (fun a b i j => (tSet xs i a).bind fun ys => tSet ys j b) t t' u u').bind kk) := by
  intro b hb
  obtain ⟨zs, q1, q2⟩ := bind_some' hb
  obtain ⟨a, q3, q4⟩ := bind_some' q1
  obtain ⟨a', i, j, q5, q6, q7, q8⟩ := op3_some' (F := fun b i j => (tSet xs i a).bind fun ys => tSet ys j b) (by exact q4)
  obtain ⟨ys, q9, q10⟩ := bind_some' q8
  have ep := x_pair h1 h2 hb1 hb2 (a, a') (by rw [q3, q5]; rfl)
  have : sAsg (mTup (aCons m1 (aCons m2 aNil))) (gTs 2 (gsCons (gIx k mi) (gsCons (gIx k mj) gsNil))) ρ = some (.nx (ρ1 zs)) := by
    unfold sAsg; rw [ep]
    show (if Fl.pure = .pure then ((gIx k mi (e a) ρ).bind fun r1 => (gIx k mj (e a') r1).bind fun r2 => some r2).map Out.nx else none) = _
    rw [gIx_e hk (h3 i q6) q9, hρ ys, Option.bind_some, gIx_e (hk1 ys) (h4 ys j q7) q10, hρ2 ys zs]; rfl
  rw [seq_of_nx this]
  exact hn zs b q2
theorem j_aug {i : Nat} {f : Int → Int → Int} {n : S} {x : Int} {t : Option Int} {k : Int → Option β} (hi : ρ[i]? = some (some (eI x, false))) (h : X m ρ eI fl t) (ρ1 : Int → E) (hn : ∀ a, Jg n (ρ1 a) P (k a)) (hρ : ∀ a, ρ.set i (some (eI a, false)) = ρ1 a := by intro; rfl) : Jg (sSeq (sAug i f m) n) ρ P ((t.map fun b => f x b).bind k) := by
  intro b hb
  obtain ⟨y, h1, h2⟩ := bind_some' hb
  obtain ⟨a, h3, rfl⟩ := map_some' h1
  have : sAug i f m ρ = some (.nx (ρ1 (f x a))) := by unfold sAug; rw [hi]; show ((m ρ).bind _) = _; rw [h a h3, ← hρ]; rfl
  rw [seq_of_nx this]
  exact hn _ b h2
def tApp (xs : List α) (a : α) : Option (List α) := if xs.length < 100000 then some (xs ++ [a]) else none
theorem j_app {e : En α} {k : Nat} {n : S} {xs : List α} {t : Option α} {kk : List α → Option β} (hk : ρ[k]? = some (some (eL e xs, true))) (h : X m ρ e fl t) (ρ1 : List α → E) (hn : ∀ ys, Jg n (ρ1 ys) P (kk ys)) (hb : decide (fl ≠ .bor) = true := by rfl) (hρ : ∀ ys, ρ.set k (some (eL e ys, true)) = ρ1 ys := by intro; rfl) :
    Jg (sSeq (sApp k m) n) ρ P ((op1 (tApp xs) t).bind kk) := by
  intro b hb'
  obtain ⟨ys, h1, h2⟩ := bind_some' hb'
  obtain ⟨a, h3, h4⟩ := bind_some' h1
  unfold tApp at h4
  by_cases hl : xs.length < 100000
  · rw [if_pos hl] at h4
    cases h4
    have : sApp k m ρ = some (.nx (ρ1 (xs ++ [a]))) := by
      unfold sApp
      rw [h a h3, Option.bind_some]
      show (if fl = .bor then none else match ρ[k]? with
        | some (some (.lst ds, true)) => if ds.length < lim then some (Out.nx (ρ.set k (some (.lst (ds ++ [e a]), true)))) else none
        | _ => none) = _
      rw [if_neg (of_decide_eq_true hb), hk]
      show (if (xs.map e).length < lim then some (Out.nx (ρ.set k (some (.lst (xs.map e ++ [e a]), true)))) else none) = _
      rw [map_len, if_pos (show xs.length < lim from hl), ← hρ]
      show some (Out.nx (ρ.set k (some (.lst (xs.map e ++ [e a]), true)))) = some (Out.nx (ρ.set k (some (.lst ((xs ++ [a]).map e), true))))
      rw [List.map_append]; rfl
    rw [seq_of_nx this]
    exact hn _ b h2
  · rw [if_neg hl] at h4; cases h4
theorem j_rev {e : En α} {k : Nat} {n : S} {xs : List α} {t : Option β} (hk : ρ[k]? = some (some (eL e xs, true))) (ρ1 : E) (hn : Jg n ρ1 P t) (hρ : ρ.set k (some (eL e xs.reverse, true)) = ρ1 := by rfl) : Jg (sSeq (sRev k) n) ρ P t := by
  intro b hb
  have : sRev k ρ = some (.nx ρ1) := by
    unfold sRev; rw [hk, ← hρ]
    show some (Out.nx (ρ.set k (some (.lst (xs.map e).reverse, true)))) = some (Out.nx (ρ.set k (some (.lst (xs.reverse.map e), true))))
    rw [List.map_reverse]
  rw [seq_of_nx this]
  exact hn b hb
theorem j_expr {e : En α} {n : S} {t : Option α} {k : Option β} (h : X m ρ e fl t) (hn : Jg n ρ P k) : Jg (sSeq (sExpr m) n) ρ P (t.bind fun _ => k) := by
  intro b hb
  obtain ⟨a, h1, h2⟩ := bind_some' hb
  have : sExpr m ρ = some (.nx ρ) := by unfold sExpr; rw [h a h1]; rfl
  rw [seq_of_nx this]
  exact hn b h2
theorem j_frz {i : Nat} {s n : S} {t : Option β} (ρ1 : E) (hn : Jg (sSeq s n) ρ1 P t) (hρ : frz1 i ρ = ρ1 := by rfl) : Jg (sSeq (sFrz i s) n) ρ P t := by
  intro b hb
  have := hn b hb
  subst hρ
  exact this

theorem j_frzL {i : Nat} {s : S} {t : Option β} (ρ1 : E) (hn : Jg s ρ1 P t) (hρ : frz1 i ρ = ρ1 := by rfl) : Jg (sFrz i s) ρ P t := by
  intro b hb
  have := hn b hb
  subst hρ
  exact this
theorem j_frzRS {i : Nat} {m : M} {n : S} {t : Option β} (ρ1 : E) (hn : Jg (sRet m) ρ1 P t) (hρ : frz1 i ρ = ρ1 := by rfl) : Jg (sSeq (sFrz i (sRet m)) n) ρ P t := by
  subst hρ
  exact fun b hb => j_retS (n := n) hn b hb
theorem x_sh {e : En α} {t : Option α} (h : X m ρ e fl t) : X (mSh m) ρ e (shF fl) t := by
  intro a ha; unfold mSh; rw [h a ha]; rfl
/-- a name gets a list that is shared from then on -/
theorem j_setS {e : En α} {i : Nat} {n : S} {t : Option α} {k : α → Option β} (h : X m ρ e .pure t) (ρ1 : α → E) (hn : ∀ a, Jg n (ρ1 a) P (k a)) (hρ : ∀ a, frz1 i (ρ.set i (some (e a, false))) = ρ1 a := by intro; rfl) : Jg (sSeq (sFzA i (sSet i m)) n) ρ P (t.bind k) := by
  intro b hb
  obtain ⟨a, h1, h2⟩ := bind_some' hb
  have : sFzA i (sSet i m) ρ = some (.nx (ρ1 a)) := by unfold sFzA sSet; rw [h a h1, ← hρ a]; rfl
  rw [seq_of_nx this]
  exact hn a b h2
theorem j_setOS {e : En α} {i : Nat} {n : S} {t : Option α} {k : α → Option β} (h : X m ρ e .fresh t) (ρ1 : α → E) (hn : ∀ a, Jg n (ρ1 a) P (k a)) (hρ : ∀ a, frz1 i (ρ.set i (some (e a, true))) = ρ1 a := by intro; rfl) : Jg (sSeq (sFzA i (sSet i m)) n) ρ P (t.bind k) := by
  intro b hb
  obtain ⟨a, h1, h2⟩ := bind_some' hb
  have : sFzA i (sSet i m) ρ = some (.nx (ρ1 a)) := by unfold sFzA sSet; rw [h a h1, ← hρ a]; rfl
  rw [seq_of_nx this]
  exact hn a b h2
/-! if -/
theorem j_if {a d : S} {t : Option Bool} {u v : Option β} (h : T b ρ t) (h1 : Jg a ρ P u) (h2 : Jg d ρ P v) : Jg (sIf b a d) ρ P (oIf t u v) := by
  intro x hx
  obtain ⟨k, h3, h4⟩ := bind_some' hx
  have : sIf b a d ρ = if k then a ρ else d ρ := by unfold sIf; rw [h k h3]; rfl
  rw [this]
  cases k with
  | true => exact h1 x h4
  | false => exact h2 x h4
theorem j_ifS {a d n : S} {t : Option Bool} {u v : Option β} (h : T b ρ t) (h1 : Jg (sSeq a n) ρ P u) (h2 : Jg (sSeq d n) ρ P v) : Jg (sSeq (sIf b a d) n) ρ P (oIf t u v) := by
  intro x hx
  obtain ⟨k, h3, h4⟩ := bind_some' hx
  have : sSeq (sIf b a d) n ρ = if k then sSeq a n ρ else sSeq d n ρ := by
    unfold sSeq sIf; rw [h k h3]
    cases k <;> rfl
  rw [this]
  cases k with
  | true => exact h1 x h4
  | false => exact h2 x h4
/-- a statement, then what follows, whatever the idle names hold -/
theorem j_seqN {env : σ → J → E} {n : S} {u : Option σ} {k : σ → Option β} (h : Jg s ρ (PN env) u) (hn : ∀ st j, Jg n (env st j) P (k st)) : Jg (sSeq s n) ρ P (u.bind k) := by
  intro b hb
  obtain ⟨st, h1, h2⟩ := bind_some' hb
  obtain ⟨j, h3⟩ := h st h1
  rw [seq_of_nx h3]
  exact hn st j b h2
theorem j_seqL {γ : Type} {env : σ → J → E} {er : En γ} {fr : Bool} {n : S} {u : Option (Step σ γ)} {k : σ → Option β} {w : γ → β} (h : Jg s ρ (PL env er fr) u) (hn : ∀ st j, Jg n (env st j) P (k st)) (hw : ∀ r, P (some (.rt (er r) fr)) (w r)) : Jg (sSeq s n) ρ P (u.bind (cont k w)) := by
  intro b hb
  obtain ⟨st, h1, h2⟩ := bind_some' hb
  have h3 := h st h1
  cases st with
  | nxt st =>
    obtain ⟨j, h3⟩ := h3
    rw [seq_of_nx h3]
    exact hn st j b h2
  | ret r =>
    have e : sSeq s n ρ = some (.rt (er r) fr) := by unfold sSeq; rw [show s ρ = some (.rt (er r) fr) from h3]; rfl
    rw [e]
    cases h2
    exact hw r
/-! loops -/
def foldT (bd : σ → α → Option σ) : List α → σ → Option σ
  | [], s => some s
  | x :: xs, s => (bd s x).bind fun s' => foldT bd xs s'
def loopT {γ : Type} (bd : σ → α → Option (Step σ γ)) : List α → σ → Option (Step σ γ)
  | [], s => some (.nxt s)
  | x :: xs, s => (bd s x).bind fun st => match st with | .nxt s' => loopT bd xs s' | .ret r => some (.ret r)
theorem for_go {e : En α} {env : σ → J → E} {env1 : σ → J → α → E} {g : D → E → Option E} {bd : S} {body : σ → α → Option σ} (hg : ∀ s j x, g (e x) (env s j) = some (env1 s j x)) (hb : ∀ s j x, Jg bd (env1 s j x) (PN env) (body s x)) :
    ∀ (xs : List α) (s s' : σ) (j : J), foldT body xs s = some s' → ∃ j', forGo g bd (xs.map e) (env s j) = some (.nx (env s' j'))
  | [], s, s', j, h => by cases h; exact ⟨j, rfl⟩
  | x :: xs, s, s', j, h => by
    obtain ⟨s1, h1, h2⟩ := bind_some' h
    obtain ⟨j1, h3⟩ := hb s j x s1 h1
    obtain ⟨j2, h4⟩ := for_go hg hb xs s1 s' j1 h2
    refine ⟨j2, ?_⟩
    rw [List.map_cons]
    unfold forGo
    rw [hg s j x, Option.bind_some, h3]
    exact h4
theorem j_for {e : En α} {mi : I} {g : D → E → Option E} {bd : S} {ti : Option (List α)} (hi : It mi ρ e ti) (env : σ → J → E) (s0 : σ) (j0 : J) (env1 : σ → J → α → E) {body : σ → α → Option σ} (hb : ∀ s j x, Jg bd (env1 s j x) (PN env) (body s x)) (h0 : ρ = env s0 j0 := by rfl) (hg : ∀ s j x, g (e x) (env s j) = some (env1 s j x) := by intro _ _ _; rfl) :
    Jg (sFor mi g bd) ρ (PN env) (ti.bind fun xs => foldT body xs s0) := by
  intro s' hs
  obtain ⟨xs, h1, h2⟩ := bind_some' hs
  obtain ⟨j', h3⟩ := for_go hg hb xs s0 s' j0 h2
  exact ⟨j', by unfold sFor; rw [hi xs h1, h0]; exact h3⟩
theorem for_goR {γ : Type} {e : En α} {er : En γ} {fr : Bool} {env : σ → J → E} {env1 : σ → J → α → E} {g : D → E → Option E} {bd : S} {body : σ → α → Option (Step σ γ)} (hg : ∀ s j x, g (e x) (env s j) = some (env1 s j x)) (hb : ∀ s j x, Jg bd (env1 s j x) (PL env er fr) (body s x)) :
    ∀ (xs : List α) (s : σ) (st : Step σ γ) (j : J), loopT body xs s = some st → PL env er fr (forGo g bd (xs.map e) (env s j)) st
  | [], s, st, j, h => by cases h; exact ⟨j, rfl⟩
  | x :: xs, s, st, j, h => by
    obtain ⟨s1, h1, h2⟩ := bind_some' h
    have h3 := hb s j x s1 h1
    rw [List.map_cons]
    unfold forGo
    rw [hg s j x, Option.bind_some]
    cases s1 with
    | nxt s1 =>
      obtain ⟨j1, h3⟩ := h3
      rw [h3]
      exact for_goR hg hb xs s1 st j1 h2
    | ret r =>
      cases h2
      rw [show bd (env1 s j x) = some (.rt (er r) fr) from h3]; rfl
theorem j_forR {γ : Type} {e : En α} {er : En γ} {fr : Bool} {mi : I} {g : D → E → Option E} {bd : S} {ti : Option (List α)} (hi : It mi ρ e ti) (env : σ → J → E) (s0 : σ) (j0 : J) (env1 : σ → J → α → E) {body : σ → α → Option (Step σ γ)} (hb : ∀ s j x, Jg bd (env1 s j x) (PL env er fr) (body s x)) (h0 : ρ = env s0 j0 := by rfl) (hg : ∀ s j x, g (e x) (env s j) = some (env1 s j x) := by intro _ _ _; rfl) :
    Jg (sFor mi g bd) ρ (PL env er fr) (ti.bind fun xs => loopT body xs s0) := by
  intro st hs
  obtain ⟨xs, h1, h2⟩ := bind_some' hs
  have h3 := for_goR hg hb xs s0 st j0 h2
  have : sFor mi g bd ρ = forGo g bd (xs.map e) (env s0 j0) := by unfold sFor; rw [hi xs h1, h0]; rfl
  rw [this]; exact h3
def whT (ct : σ → Option Bool) (bd : σ → Option σ) : Nat → σ → Option σ
  | 0, _ => none
  | n + 1, s => (ct s).bind fun k => if k then (bd s).bind fun s' => whT ct bd n s' else some s
theorem wh_go {env : σ → J → E} {c : B} {bd : S} {ct : σ → Option Bool} {body : σ → Option σ} (hc : ∀ s j, T c (env s j) (ct s)) (hb : ∀ s j, Jg bd (env s j) (PN env) (body s)) :
    ∀ (n : Nat) (s s' : σ) (j : J), whT ct body n s = some s' → ∃ j', whGo c bd n (env s j) = some (.nx (env s' j'))
  | 0, _, _, _, h => nomatch h
  | n + 1, s, s', j, h => by
    obtain ⟨k, h1, h2⟩ := bind_some' h
    unfold whGo
    rw [hc s j k h1, Option.bind_some]
    cases k with
    | false => cases h2; exact ⟨j, rfl⟩
    | true =>
      obtain ⟨s1, h3, h4⟩ := bind_some' (show (body s).bind (fun s' => whT ct body n s') = some s' from h2)
      obtain ⟨j1, h5⟩ := hb s j s1 h3
      obtain ⟨j2, h6⟩ := wh_go hc hb n s1 s' j1 h4
      refine ⟨j2, ?_⟩
      show ((bd (env s j)).bind fun o => match o with | .nx ρ2 => whGo c bd n ρ2 | .rt d f => some (.rt d f)) = _
      rw [h5]; exact h6
theorem j_wh {c : B} {bd : S} {N : Nat} (env : σ → J → E) (s0 : σ) (j0 : J) {ct : σ → Option Bool} {body : σ → Option σ} (hc : ∀ s j, T c (env s j) (ct s)) (hb : ∀ s j, Jg bd (env s j) (PN env) (body s)) (h0 : ρ = env s0 j0 := by rfl) :
    Jg (sWh N c bd) ρ (PN env) (whT ct body N s0) := by
  intro s' hs
  obtain ⟨j', h3⟩ := wh_go hc hb N s0 s' j0 hs
  exact ⟨j', by rw [h0]; exact h3⟩
end
end Ty

set_option maxRecDepth 100000
set_option maxHeartbeats 4000000
namespace Ty
open PySem PySem.Spec PyProof.Rows L2 Dt
section
variable {α β γ δ ε σ τ J : Type}
variable {m n m1 m2 m3 m4 m5 m6 : M} {ρ ρ' : E} {fl g0 g1 g2 g3 g4 g5 g6 : Fl} {b c : B}
theorem h_pow : ∀ a b c, tPow a b = some c → fPow (eI a, g1) (eI b, g2) = some (eI c, .pure) := by
  intro a b c h
  unfold tPow at h
  split at h
  · rename_i hs
    cases h
    have : CPow a b := ⟨hs.1, by omega, by have : (2:Nat) ^ 64 = 18446744073709551616 := by decide
                                           omega⟩
    show ((if CPow a b then some (D.int (a ^ b.toNat)) else none).map fun d => (d, Fl.pure)) = _
    rw [if_pos this]; rfl
  · cases h
theorem x_lenP {e1 : En α} {e2 : En β} {t : Option (α × β)} (h : X m ρ (eP e1 e2) fl t) : X (mFn fLen (aCons m aNil)) ρ eI .pure (t.map fun _ => (2 : Int)) := by
  intro a ha
  cases t with
  | none => cases ha
  | some p => cases ha; unfold mFn aCons aNil; rw [h p rfl]; rfl
theorem x_lenQ {e1 : En α} {e2 : En β} {e3 : En γ} {t : Option (α × β × γ)} (h : X m ρ (eP3 e1 e2 e3) fl t) : X (mFn fLen (aCons m aNil)) ρ eI .pure (t.map fun _ => (3 : Int)) := by
  intro a ha
  cases t with
  | none => cases ha
  | some p => cases ha; unfold mFn aCons aNil; rw [h p rfl]; rfl
theorem h_tupP {e : En α} {f : En β} : ∀ a c, tId a = some c → fTuple [(eP e f a, g1)] = some (eP e f c, .pure) := by intro a c h; cases h; rfl
theorem it_lT {e : En α} : ∀ a, isT "list" (eT e a) = some false := fun _ => by show kitB "tuple" "list" = some false; decide +kernel
/-! == of further kinds -/
def tEqS (a b : Str) : Option Bool := if PyData.strOk a && PyData.strOk b then some (decide (a = b)) else none
def tNeS (a b : Str) : Option Bool := if PyData.strOk a && PyData.strOk b then some (!decide (a = b)) else none
theorem eqvS {a b : Str} : PyData.eqv (py (eS a)) (py (eS b)) = decide (a = b) := by
  simp only [eS, py, PyData.eqv]
  by_cases h : a = b
  · subst h; simp
  · simp [h]
theorem okDS {a : Str} (h : PyData.strOk a = true) : okD (eS a) = true := by
  unfold Dt.okD
  show (true && ((PyData.str a).canLay0 && decide ((PyData.str a).depth ≤ 64))) = true
  simp [PyData.canLay0, PyData.depth, h]
theorem h_eqS : ∀ a b c, tEqS a b = some c → fEq (eS a, g1) (eS b, g2) = some (eB c, .pure) := by
  intro a b c hc
  unfold tEqS at hc
  split at hc
  · rename_i hk
    cases hc
    rw [Bool.and_eq_true] at hk
    unfold fEq
    rw [okDS hk.1, okDS hk.2, eqvS]; rfl
  · cases hc
theorem h_neS : ∀ a b c, tNeS a b = some c → fNe (eS a, g1) (eS b, g2) = some (eB c, .pure) := by
  intro a b c hc
  unfold tNeS at hc
  split at hc
  · rename_i hk
    cases hc
    rw [Bool.and_eq_true] at hk
    unfold fNe
    rw [okDS hk.1, okDS hk.2, eqvS]; rfl
  · cases hc
theorem eqE_U : EqE eU 1 where
  dat := fun _ => rfl
  lay := fun _ => by simp [eU, py, PyData.canLay0]
  dep := fun _ => by simp [eU, py, PyData.depth]
  eqv := fun a b => by simp [eU, py, PyData.eqv]
theorem eqE_Q [DecidableEq α] [DecidableEq β] [DecidableEq γ] {e : En α} {f : En β} {g : En γ} {k l p : Nat} (h : EqE e k) (h' : EqE f l) (h'' : EqE g p) : EqE (eP3 e f g) (k + l + p + 2) where
  dat := fun a => by show isDats [e a.1, f a.2.1, g a.2.2] = true; simp [isDats, h.dat, h'.dat, h''.dat]
  lay := fun a => by
    show (PyData.tuple [py (e a.1), py (f a.2.1), py (g a.2.2)]).canLay0 = true
    simp [PyData.canLay0, PyData.canLayAll0, h.lay, h'.lay, h''.lay]
  dep := fun a => by
    have h1 := h.dep a.1
    have h2 := h'.dep a.2.1
    have h3 := h''.dep a.2.2
    show (PyData.tuple [py (e a.1), py (f a.2.1), py (g a.2.2)]).depth ≤ _
    simp only [PyData.depth, PyData.depthAll]; omega
  eqv := fun a b => by
    show PyData.eqv (PyData.tuple [py (e a.1), py (f a.2.1), py (g a.2.2)]) (PyData.tuple [py (e b.1), py (f b.2.1), py (g b.2.2)]) = _
    simp only [PyData.eqv, PyData.eqvAll, h.eqv, h'.eqv, h''.eqv]
    obtain ⟨a1, a2, a3⟩ := a; obtain ⟨b1, b2, b3⟩ := b
    by_cases h1 : a1 = b1 <;> by_cases h2 : a2 = b2 <;> by_cases h3 : a3 = b3 <;> simp [h1, h2, h3]
theorem none_I : ∀ a, PyData.eqv .none (py (eI a)) = false := fun a => by simp [eI, py, PyData.eqv]
theorem I_none : ∀ a, PyData.eqv (py (eI a)) .none = false := fun a => by simp [eI, py, PyData.eqv]
theorem none_P {e : En α} {f : En β} : ∀ a, PyData.eqv .none (py (eP e f a)) = false := fun a => by simp [eP, py, PyData.eqv]
theorem P_none {e : En α} {f : En β} : ∀ a, PyData.eqv (py (eP e f a)) .none = false := fun a => by simp [eP, py, PyData.eqv]
/-! ### counting, places, order -/
theorem x_m1 {f : F2} {e1 : En α} {e2 : En β} {e3 : En γ} {F : α → β → Option γ} {t : Option α} {u : Option β} (hf : ∀ a b c, F a b = some c → f (e1 a, g1) (e2 b, g2) = some (e3 c, fl)) (hm : X m ρ e1 g1 t) (hn : X n ρ e2 g2 u) :
    X (fun ρ => (m ρ).bind fun x => ((aCons n aNil) ρ).bind fun rs => match rs with | [y] => f x y | _ => none) ρ e3 fl (op2 F t u) := by
  intro c hc
  obtain ⟨a, b, h1, h2, h3⟩ := op2_some' hc
  show ((m ρ).bind fun x => ((n ρ).bind fun r => (some []).map fun rs => r :: rs).bind fun rs => match rs with | [y] => f x y | _ => none) = _
  rw [hm a h1, hn b h2]
  exact hf a b c h3
@[simp] def tCount (a : List Int) (k : Int) : Option Int := some (a.count k : Nat)
def tIndex (a : List Int) (k : Int) : Option Int := if k ∈ a then some (a.idxOf k : Nat) else none
theorem x_countT {t : Option (List Int)} {u : Option Int} (h : X m ρ (eT eI) g1 t) (h' : X n ρ eI g2 u) : X (mCnt m (aCons n aNil)) ρ eI .pure (op2 tCount t u) :=
  x_m1 (f := fCnt) (fun a b c hc => by
    cases hc
    show (getIs (a.map eI)).map _ = _
    rw [getIs_e]; rfl) h h'
theorem x_countL {t : Option (List Int)} {u : Option Int} (h : X m ρ (eL eI) g1 t) (h' : X n ρ eI g2 u) : X (mCnt m (aCons n aNil)) ρ eI .pure (op2 tCount t u) :=
  x_m1 (f := fCnt) (fun a b c hc => by
    cases hc
    show (getIs (a.map eI)).map _ = _
    rw [getIs_e]; rfl) h h'
theorem idx_e {a : List Int} {k c : Int} (hc : tIndex a k = some c) : ((getIs (a.map eI)).bind fun ns => if k ∈ ns then some ((D.int (ns.idxOf k : Nat), Fl.pure) : D × Fl) else none) = some (eI c, .pure) := by
  rw [getIs_e, Option.bind_some]
  unfold tIndex at hc
  split at hc
  · rename_i hk; cases hc; rw [if_pos hk]; rfl
  · cases hc
theorem x_indexT {t : Option (List Int)} {u : Option Int} (h : X m ρ (eT eI) g1 t) (h' : X n ρ eI g2 u) : X (mIdx m (aCons n aNil)) ρ eI .pure (op2 tIndex t u) :=
  x_m1 (f := fIdx) (fun a b c hc => by exact (show _ = _ from idx_e hc)) h h'
theorem x_indexL {t : Option (List Int)} {u : Option Int} (h : X m ρ (eL eI) g1 t) (h' : X n ρ eI g2 u) : X (mIdx m (aCons n aNil)) ρ eI .pure (op2 tIndex t u) :=
  x_m1 (f := fIdx) (fun a b c hc => by exact (show _ = _ from idx_e hc)) h h'
def tLeT (a b : List Int) : Option Bool := some (lexLe a b)
theorem h_leT : ∀ a b c, tLeT a b = some c → fLeT (eT eI a, g1) (eT eI b, g2) = some (eB c, .pure) := by
  intro a b c h; cases h
  show ((getIs (a.map eI)).bind fun ns => (getIs (b.map eI)).map fun ms => ((D.bl (lexLe ns ms), Fl.pure) : D × Fl)) = _
  rw [getIs_e, getIs_e]; rfl
@[simp] def tInt (k : Bool) : Option Int := some (if k then 1 else 0)
theorem h_intB : ∀ a c, tInt a = some c → fInt1 [(eB a, g1)] = some (eI c, .pure) := by intro a c h; cases h; rfl
theorem h_intI : ∀ a c, tId a = some c → fInt1 [(eI a, g1)] = some (eI c, .pure) := by intro a c h; cases h; rfl
@[simp] def tAbs (k : Int) : Option Int := some (if k < 0 then -k else k)
theorem h_abs : ∀ a c, tAbs a = some c → fAbs [(eI a, g1)] = some (eI c, .pure) := by intro a c h; cases h; rfl
/-! turned round -/
theorem x_revSL {e : En α} {t : Option (List α)} (h : X m ρ (eL e) fl t) : X (mRevS m) ρ (eL e) .fresh (t.map List.reverse) := by
  intro a ha
  obtain ⟨xs, h1, rfl⟩ := map_some' ha
  unfold mRevS; rw [h xs h1]
  show some ((D.lst (xs.map e).reverse, Fl.fresh) : D × Fl) = _
  rw [← List.map_reverse]; rfl
theorem x_revST {e : En α} {t : Option (List α)} (h : X m ρ (eT e) fl t) : X (mRevS m) ρ (eT e) .pure (t.map List.reverse) := by
  intro a ha
  obtain ⟨xs, h1, rfl⟩ := map_some' ha
  unfold mRevS; rw [h xs h1]
  show some ((D.tup (xs.map e).reverse, Fl.pure) : D × Fl) = _
  rw [← List.map_reverse]; rfl
theorem x_tupleRevT {e : En α} {t : Option (List α)} (h : X m ρ (eT e) fl t) : X (mTupleRev m) ρ (eT e) .pure (t.map List.reverse) := by
  intro a ha
  obtain ⟨xs, h1, rfl⟩ := map_some' ha
  unfold mTupleRev; rw [h xs h1]
  show some ((D.tup (xs.map e).reverse, Fl.pure) : D × Fl) = _
  rw [← List.map_reverse]; rfl
theorem x_listRevL {e : En α} {t : Option (List α)} (h : X m ρ (eL e) fl t) : X (mListRev m) ρ (eL e) .fresh (t.map List.reverse) := by
  intro a ha
  obtain ⟨xs, h1, rfl⟩ := map_some' ha
  unfold mListRev; rw [h xs h1]
  show some ((D.lst (xs.map e).reverse, Fl.fresh) : D × Fl) = _
  rw [← List.map_reverse]; rfl
/-! enumerate -/
def enT : Int → List α → List (Int × α)
  | _, [] => []
  | i, a :: as => (i, a) :: enT (i + 1) as
@[simp] def tEnum (a : List α) : Option (List (Int × α)) := some (enT 0 a)
theorem en_e {e : En α} : ∀ (k : Nat) (a : List α), enD k (a.map e) = (enT (k : Int) a).map (eZ eI e)
  | _, [] => rfl
  | k, x :: a => by
    rw [List.map_cons]
    unfold enD enT
    rw [List.map_cons, en_e (k + 1) a]; rfl
/-- what a loop walks over -/
def Sq (w : Bool) (m : M) (ρ : E) (e : En α) (t : Option (List α)) : Prop := ∀ a, t = some a → ∃ r, m ρ = some r ∧ seqOf w r = some (a.map e)
theorem sq_L {w : Bool} {e : En α} {t : Option (List α)} (h : X m ρ (eL e) fl t) (hw : (w || decide (fl ≠ .bor)) = true := by rfl) : Sq w m ρ e t := by
  intro a ha
  refine ⟨_, h a ha, ?_⟩
  show (if (w || decide (fl ≠ .bor)) = true then some (a.map e) else none) = _
  rw [hw]; rfl
theorem sq_T {w : Bool} {e : En α} {t : Option (List α)} (h : X m ρ (eT e) fl t) : Sq w m ρ e t := fun a ha => ⟨_, h a ha, rfl⟩
theorem it_enum {w : Bool} {e : En α} {t : Option (List α)} (h : Sq w m ρ e t) : It (iEn w (aCons m aNil)) ρ (eZ eI e) (op1 tEnum t) := by
  intro xs hx
  obtain ⟨a, h1, h2⟩ := bind_some' hx
  cases h2
  obtain ⟨r, e1, e2⟩ := h a h1
  unfold iEn aCons aNil
  rw [e1]
  show (seqOf w r).map (enD 0) = _
  rw [e2, Option.map_some, en_e]; rfl
theorem it_zip {w : Bool} {e1 : En α} {e2 : En β} {t : Option (List α)} {u : Option (List β)} (h : Sq w m ρ e1 t) (h' : Sq w n ρ e2 u) : It (iZK w (aCons m (aCons n aNil))) ρ (eZ e1 e2) (op2 tZip t u) := by
  intro xs hx
  obtain ⟨a, b, h1, h2, h3⟩ := op2_some' hx
  cases h3
  obtain ⟨r, q1, q2⟩ := h a h1
  obtain ⟨r', q3, q4⟩ := h' b h2
  unfold iZK aCons aNil
  rw [q1, Option.bind_some, q3]
  show ((seqOf w r).bind fun a => (seqOf w r').map fun b => zipD a b) = _
  rw [q2, q4]
  show some (zipD (a.map e1) (b.map e2)) = _
  rw [zip_e]
/-- 0 <= i < j < n -/
theorem x_chain3 {t u v w : Option Int} (h1 : X m1 ρ eI g1 t) (h2 : X m2 ρ eI g2 u) (h3 : X m3 ρ eI g3 v) (h4 : X m4 ρ eI g4 w) : X (mChain3 m1 m2 m3 m4) ρ eB .pure (oAnd (op2 tLe t u) (oAnd (op2 tLt u v) (op2 tLt v w))) := by
  intro k hk
  obtain ⟨x, e1, e2⟩ := bind_some' hk
  obtain ⟨a, b, e3, e4, e5⟩ := op2_some' e1
  unfold mChain3
  rw [h1 a e3, Option.bind_some, h2 b e4, Option.bind_some, h_le a b x e5]
  cases x with
  | false => cases e2; rfl
  | true =>
    obtain ⟨y, e6, e7⟩ := bind_some' (show oAnd (op2 tLt u v) (op2 tLt v w) = some k from e2)
    obtain ⟨b', c, e8, e9, e10⟩ := op2_some' e6
    rw [e4] at e8; cases e8
    show ((m3 ρ).bind fun w => (fLt (eI b, g2) w).bind fun z => match z.1 with
      | .bl true => (m4 ρ).bind fun v => fLt w v
      | .bl false => some (.bl false, .pure)
      | _ => none) = _
    rw [h3 c e9, Option.bind_some, h_lt b c y e10]
    cases y with
    | false => cases e7; rfl
    | true =>
      obtain ⟨c', d, e11, e12, e13⟩ := op2_some' (show op2 tLt v w = some k from e7)
      rw [e9] at e11; cases e11
      show ((m4 ρ).bind fun v => fLt (eI c, g3) v) = _
      rw [h4 d e12]
      exact h_lt (g1 := g3) (g2 := g4) c d k e13
/-! tasks -/
inductive Tk where
  | k0 (s : Str) | kI (s : Str) (i : Int) | kL (s : Str) (l : List Int)
  deriving DecidableEq
def eK : En Tk
  | .k0 s => .tup [.str s]
  | .kI s i => .tup [.str s, .int i]
  | .kL s l => .tup [.str s, eT eI l]
def Tk.s : Tk → Str | .k0 s => s | .kI s _ => s | .kL s _ => s
def Tk.i : Tk → Option Int | .kI _ i => some i | _ => none
def Tk.l : Tk → Option (List Int) | .kL _ l => some l | _ => none
instance : Im eK := ⟨fun a => by
  cases a with
  | k0 s => rfl
  | kI s i => rfl
  | kL s l => show (imm (.str s) && (imm (eT eI l) && true)) = true; rw [Im.im (e := eT eI) l]; rfl⟩
theorem x_k {t : Option Tk} (h : X m ρ eK fl t) : X (mOp fIx m (mC (.int 0))) ρ eS .pure (t.map Tk.s) := by
  intro a ha
  obtain ⟨k, h1, rfl⟩ := map_some' ha
  unfold mOp; rw [h k h1]
  cases k <;> rfl
theorem x_kI {t : Option Tk} (h : X m ρ eK fl t) : X (mOp fIx m (mC (.int 1))) ρ eI .pure (t.bind Tk.i) := by
  intro a ha
  obtain ⟨k, h1, h2⟩ := bind_some' ha
  unfold mOp; rw [h k h1]
  cases k <;> cases h2; rfl
theorem x_kL {t : Option Tk} (h : X m ρ eK fl t) : X (mOp fIx m (mC (.int 1))) ρ (eT eI) .pure (t.bind Tk.l) := by
  intro a ha
  obtain ⟨k, h1, h2⟩ := bind_some' ha
  unfold mOp; rw [h k h1]
  cases k <;> cases h2; rfl
theorem x_mk0 {s : Str} : X (mTup (aCons (mC (.str s)) aNil)) ρ eK .pure (some (.k0 s)) := by intro a ha; cases ha; rfl
theorem x_mkI {s : Str} {t : Option Int} (h : X m ρ eI fl t) (hb : decide (fl ≠ .bor) = true := by rfl) : X (mTup (aCons (mC (.str s)) (aCons m aNil))) ρ eK .pure (t.map (Tk.kI s)) := by
  intro a ha
  obtain ⟨k, h1, rfl⟩ := map_some' ha
  unfold mTup aCons aNil mC
  rw [Option.bind_some, h k h1]
  show (if (decide (Fl.pure ≠ .bor) && (decide (fl ≠ .bor) && true)) && decide (2 ≤ lim) then some ((D.tup [.str s, eI k], Fl.pure) : D × Fl) else none) = _
  rw [hb]; rfl
theorem x_mkL {s : Str} {t : Option (List Int)} (h : X m ρ (eT eI) fl t) (hb : decide (fl ≠ .bor) = true := by rfl) : X (mTup (aCons (mC (.str s)) (aCons m aNil))) ρ eK .pure (t.map (Tk.kL s)) := by
  intro a ha
  obtain ⟨k, h1, rfl⟩ := map_some' ha
  unfold mTup aCons aNil mC
  rw [Option.bind_some, h k h1]
  show (if (decide (Fl.pure ≠ .bor) && (decide (fl ≠ .bor) && true)) && decide (2 ≤ lim) then some ((D.tup [.str s, eT eI k], Fl.pure) : D × Fl) else none) = _
  rw [hb]; rfl
/-! pop -/
def tPop (xs : List α) : Option (List α) := if xs = [] then none else some xs.dropLast
variable {P : Option Out → β → Prop}
end
section
variable {α β : Type} {ρ : E} {P : Option Out → β → Prop}
def tPop' (xs : List α) : Option (List α) := match xs with | [] => none | x :: r => some (x :: r).dropLast
theorem j_pop {e : En α} {k : Nat} {n : S} {xs : List α} {kk : List α → Option β} (hk : ρ[k]? = some (some (eL e xs, true))) (ρ1 : List α → E) (hn : ∀ ys, Jg n (ρ1 ys) P (kk ys)) (hρ : ∀ ys, ρ.set k (some (eL e ys, true)) = ρ1 ys := by intro; rfl) :
    Jg (sSeq (sPop k) n) ρ P ((tPop' xs).bind kk) := by
  intro b hb
  obtain ⟨ys, h1, h2⟩ := bind_some' hb
  cases xs with
  | nil => cases h1
  | cons x r =>
    cases h1
    have : sPop k ρ = some (.nx (ρ1 (x :: r).dropLast)) := by
      unfold sPop; rw [hk, ← hρ]
      show some (Out.nx (ρ.set k (some (.lst (e x :: r.map e).dropLast, true)))) = some (Out.nx (ρ.set k (some (.lst (((x :: r).dropLast).map e), true))))
      rw [List.map_dropLast]; rfl
    rw [seq_of_nx this]
    exact hn _ b h2
end
end Ty

set_option maxRecDepth 100000
set_option maxHeartbeats 4000000
namespace Ty
open PySem L2 Dt
section
variable {α β γ σ : Type}
/-! ### loops, read -/
theorem foldT_ok {bd : σ → α → Option σ} : ∀ (xs : List α) (Iv : Nat → σ → Prop) (s : σ), Iv 0 s → (∀ i x s, xs[i]? = some x → Iv i s → ∃ s', bd s x = some s' ∧ Iv (i + 1) s') → ∃ s', foldT bd xs s = some s' ∧ Iv xs.length s'
  | [], _, s, h0, _ => ⟨s, rfl, h0⟩
  | x :: xs, Iv, s, h0, h => by
    obtain ⟨s1, e1, h1⟩ := h 0 x s rfl h0
    obtain ⟨s2, e2, h2⟩ := foldT_ok xs (fun i => Iv (i + 1)) s1 h1 fun i y s hy hi => h (i + 1) y s (by simpa using hy) hi
    exact ⟨s2, by show (bd s x).bind _ = _; rw [e1]; exact e2, h2⟩
theorem foldT_fold {bd : σ → α → Option σ} {f : σ → α → σ} : ∀ (xs : List α) (s : σ), (∀ s x, x ∈ xs → bd s x = some (f s x)) → foldT bd xs s = some (xs.foldl f s)
  | [], s, _ => rfl
  | x :: xs, s, h => by
    show (bd s x).bind _ = _
    rw [h s x (by simp)]
    exact foldT_fold xs (f s x) fun s y hy => h s y (by simp [hy])
theorem loopT_check {bd : Unit → α → Option (Step Unit γ)} {p : α → Bool} (b : γ) : ∀ (xs : List α), (∀ x ∈ xs, bd () x = some (if p x = true then .ret b else .nxt ())) → loopT bd xs () = some (if xs.any p = true then .ret b else .nxt ())
  | [], _ => rfl
  | x :: xs, h => by
    show (bd () x).bind _ = _
    rw [h x (by simp)]
    cases hp : p x with
    | true => simp [hp]
    | false =>
      simp only [Option.bind_some, Bool.false_eq_true, if_false, List.any_cons, hp, Bool.false_or]
      exact loopT_check b xs fun y hy => h y (by simp [hy])
theorem loopT_map {bd : σ → β → Option (Step σ γ)} {f : α → β} : ∀ (xs : List α) (s : σ), loopT bd (xs.map f) s = loopT (fun s x => bd s (f x)) xs s
  | [], _ => rfl
  | x :: xs, s => by
    show (bd s (f x)).bind _ = (bd s (f x)).bind _
    congr 1; funext st
    cases st with
    | nxt s' => exact loopT_map xs s'
    | ret r => rfl
theorem loopT_congr {bd bd' : σ → α → Option (Step σ γ)} : ∀ (xs : List α) (s : σ), (∀ s, ∀ x ∈ xs, bd s x = bd' s x) → loopT bd xs s = loopT bd' xs s
  | [], _, _ => rfl
  | x :: xs, s, h => by
    show (bd s x).bind _ = (bd' s x).bind _
    rw [h s x (by simp)]
    congr 1; funext st
    cases st with
    | nxt s' => exact loopT_congr xs s' fun s y hy => h s y (by simp [hy])
    | ret r => rfl
/-! ### comprehensions, read -/
theorem lcG_ok {tt : α → Option Bool} {te : α → Option β} {p : α → Bool} {f : α → β} : ∀ (xs : List α), (∀ x ∈ xs, tt x = some (p x) ∧ (p x = true → te x = some (f x))) → lcG tt te xs = some ((xs.filter p).map f)
  | [], _ => rfl
  | x :: xs, h => by
    have h1 := h x (by simp)
    have ih := lcG_ok xs fun y hy => h y (by simp [hy])
    unfold lcG
    rw [h1.1, ih]
    cases hp : p x with
    | true => rw [List.filter_cons_of_pos hp]; simp [h1.2 hp]
    | false => rw [List.filter_cons_of_neg (by simp [hp])]; simp
theorem lcT_ok {tt : α → Option Bool} {te : α → Option β} {p : α → Bool} {f : α → β} {xs : List α} (hl : xs.length ≤ 100000) (h : ∀ x ∈ xs, tt x = some (p x) ∧ (p x = true → te x = some (f x))) : lcT tt te xs = some ((xs.filter p).map f) := by
  unfold lcT; rw [if_pos hl, lcG_ok xs h]
theorem lcT_map {te : α → Option β} {f : α → β} {xs : List α} (hl : xs.length ≤ 100000) (h : ∀ x ∈ xs, te x = some (f x)) : lcT (fun _ => some true) te xs = some (xs.map f) := by
  rw [lcT_ok (p := fun _ => true) (f := f) hl fun x hx => ⟨rfl, fun _ => h x hx⟩]
  congr 2; exact List.filter_eq_self.mpr fun _ _ => rfl
theorem lcT_fil {tt : α → Option Bool} {p : α → Bool} {xs : List α} (hl : xs.length ≤ 100000) (h : ∀ x ∈ xs, tt x = some (p x)) : lcT tt (fun x => some x) xs = some (xs.filter p) := by
  rw [lcT_ok (p := p) (f := fun x => x) hl fun x hx => ⟨h x hx, fun _ => rfl⟩]
  simp
theorem lcG2_ok {ti : α → Option (List β)} {te : α → β → Option γ} {g : α → List γ} : ∀ (xs : List α), (∀ x ∈ xs, ∃ ys, ti x = some ys ∧ lcG (fun _ => some true) (te x) ys = some (g x)) → lcG2 (fun _ => some true) ti (fun _ _ => some true) te xs = some (xs.flatMap g)
  | [], _ => rfl
  | x :: xs, h => by
    obtain ⟨ys, h1, h2⟩ := h x (by simp)
    have ih := lcG2_ok xs fun y hy => h y (by simp [hy])
    unfold lcG2
    simp only [Option.bind_some, if_true, h1, h2, ih]
    simp
/-! ### ranges, places -/
theorem rng_len {lo : Int} {n : Nat} : (rngT lo n).length = n := by simp [rngT]
theorem rng_get {lo : Int} {n i : Nat} {x : Int} (h : (rngT lo n)[i]? = some x) : i < n ∧ x = lo + i := by
  unfold rngT at h
  rw [List.getElem?_map] at h
  cases hi : (List.range n)[i]? with
  | none => rw [hi] at h; cases h
  | some k =>
    rw [hi] at h; cases h
    have := List.getElem?_eq_some_iff.mp hi
    obtain ⟨h1, h2⟩ := this
    simp at h1 h2
    exact ⟨h1, by rw [← h2]⟩
theorem rng_mem {lo : Int} {n : Nat} {x : Int} : x ∈ rngT lo n ↔ lo ≤ x ∧ x < lo + n := by
  unfold rngT
  rw [List.mem_map]
  constructor
  · rintro ⟨k, hk, rfl⟩
    have := List.mem_range.mp hk
    omega
  · rintro ⟨h1, h2⟩
    exact ⟨(x - lo).toNat, List.mem_range.mpr (by omega), by omega⟩
theorem rng_succ {lo : Int} {n : Nat} : rngT lo (n + 1) = lo :: rngT (lo + 1) n := by
  unfold rngT
  rw [List.range_succ_eq_map]
  simp only [List.map_cons, List.map_map]
  congr 1
  · simp
  · apply List.map_congr_left; intro k _; simp; omega
theorem rng_snoc {lo : Int} {n : Nat} : rngT lo (n + 1) = rngT lo n ++ [lo + n] := by
  unfold rngT
  rw [List.range_succ]; simp
theorem tR1_ok {n : Int} (h1 : n < 2 ^ 40) (h0 : -1000000 ≤ n) : tR1 n = some (rngT 0 n.toNat) := by
  unfold tR1; rw [if_pos (by unfold big; simp; omega)]
theorem tR2_ok {i n : Int} (h1 : n < 2 ^ 40) (h0 : -1000000 ≤ n) (h2 : i < 2 ^ 40) (h3 : -1000000 ≤ i) : tR2 i n = some (rngT i (n - i).toNat) := by
  unfold tR2; rw [if_pos (by unfold big; simp; omega)]
theorem tIx_at {a : List α} {i : Int} {x : α} (h0 : 0 ≤ i) (h : a[i.toNat]? = some x) : tIx a i = some x := by
  have hl : i.toNat < a.length := (List.getElem?_eq_some_iff.mp h).1
  show atI a i = some x
  unfold atI ixN
  rw [if_pos h0, if_pos (show i < a.length by omega)]
  exact h
theorem tIx_lt {a : List α} {i : Int} (h0 : 0 ≤ i) (h : i < a.length) : tIx a i = a[i.toNat]? := by
  have hl : i.toNat < a.length := by omega
  rw [List.getElem?_eq_getElem hl]
  exact tIx_at h0 (List.getElem?_eq_getElem hl)
abbrev gI (a : List Int) (i : Int) : Int := a.getD i.toNat 0
theorem tIx_gI {a : List Int} {i : Int} (h0 : 0 ≤ i) (h : i < a.length) : tIx a i = some (gI a i) := by
  have hl : i.toNat < a.length := by omega
  rw [tIx_lt h0 h]; simp [gI, List.getD, List.getElem?_eq_getElem hl]
theorem gI_get {a : List Int} {i : Nat} {x : Int} (h : a[i]? = some x) : gI a i = x := by simp [gI, List.getD, h]
theorem tIx_sgt {a : List α} {x : α} {i : Int} (h : i = -1) (hx : a.getLast? = some x) : tIx a i = some x := by
  subst h
  have hne : a ≠ [] := by rintro rfl; cases hx
  have hl : 0 < a.length := List.length_pos_iff.mpr hne
  show atI a (-1) = some x
  unfold atI ixN
  rw [List.getLast?_eq_getElem?] at hx
  have e : ((-1 : Int) + a.length).toNat = a.length - 1 := by omega
  rw [if_neg (by decide), if_pos (show -(a.length : Int) ≤ -1 by omega)]
  show a[((-1 : Int) + a.length).toNat]? = some x
  rw [e]; exact hx
/-! ### slices -/
theorem cut_nn {a : List α} {s e : Int} (h0 : 0 ≤ s) (h1 : 0 ≤ e) : cutD a (some s) (some e) = (a.drop s.toNat).take (e.toNat - s.toNat) := by
  unfold cutD HT.sIx
  simp only [show ¬ s < 0 by omega, show ¬ e < 0 by omega, if_false]
  by_cases hs : s.toNat ≤ a.length
  · rw [Nat.min_eq_left hs]
    by_cases he : e.toNat ≤ a.length
    · rw [Nat.min_eq_left he]
    · rw [Nat.min_eq_right (show a.length ≤ e.toNat by omega)]
      rw [List.take_of_length_le (by rw [List.length_drop]; exact Nat.le_refl _), List.take_of_length_le (by rw [List.length_drop]; omega)]
  · rw [Nat.min_eq_right (show a.length ≤ s.toNat by omega)]
    rw [List.drop_of_length_le (Nat.le_refl _), List.drop_of_length_le (show a.length ≤ s.toNat by omega)]
    simp
theorem cut_sn {a : List α} {s : Int} (h0 : 0 ≤ s) : cutD a (some s) none = a.drop s.toNat := by
  unfold cutD HT.sIx
  simp only [show ¬ s < 0 by omega, if_false]
  by_cases hs : s.toNat ≤ a.length
  · rw [Nat.min_eq_left hs]
    exact List.take_of_length_le (by rw [List.length_drop]; exact Nat.le_refl _)
  · rw [Nat.min_eq_right (show a.length ≤ s.toNat by omega)]
    rw [List.drop_of_length_le (Nat.le_refl _), List.drop_of_length_le (show a.length ≤ s.toNat by omega)]
    simp
theorem cut_ns {a : List α} {e : Int} (h1 : 0 ≤ e) : cutD a none (some e) = a.take e.toNat := by
  unfold cutD HT.sIx
  simp only [show ¬ e < 0 by omega, if_false, List.drop_zero, Nat.sub_zero]
  by_cases he : e.toNat ≤ a.length
  · rw [Nat.min_eq_left he]
  · rw [Nat.min_eq_right (show a.length ≤ e.toNat by omega), List.take_of_length_le (Nat.le_refl _), List.take_of_length_le (by omega)]
/-! ### rows in ascending order -/
def up : List Int → Bool
  | [] => true
  | [_] => true
  | x :: y :: r => decide (x ≤ y) && up (y :: r)
theorem up_iff : ∀ {r : List Int}, up r = true ↔ r.Pairwise (· ≤ ·)
  | [] => by simp [up]
  | [_] => by simp [up]
  | x :: y :: r => by
    unfold up
    rw [Bool.and_eq_true, decide_eq_true_eq, up_iff (r := y :: r)]
    constructor
    · rintro ⟨h1, h2⟩
      refine List.pairwise_cons.mpr ⟨fun z hz => ?_, h2⟩
      rcases List.mem_cons.mp hz with rfl | hz
      · exact h1
      · have := (List.pairwise_cons.mp h2).1 z hz; omega
    · intro h
      have := List.pairwise_cons.mp h
      exact ⟨this.1 y (by simp), this.2⟩
theorem up_zip : ∀ (r : List Int), ((r.zip (r.drop 1)).map fun q => decide (q.1 ≤ q.2)).all id = up r
  | [] => rfl
  | [_] => rfl
  | x :: y :: r => by
    have := up_zip (y :: r)
    simp only [List.drop_succ_cons, List.drop_zero, List.zip_cons_cons, List.map_cons, List.all_cons, id] at this ⊢
    rw [up, ← this]
theorem nbr_zip : ∀ (r : List Int) (k : Nat), (rngT (k + 1) (r.length - 1)).map (fun i => (gI r (i - 1 - k), gI r (i - k))) = r.zip (r.drop 1)
  | [], _ => rfl
  | [_], _ => rfl
  | x :: y :: r, k => by
    have ih := nbr_zip (y :: r) (k + 1)
    simp only [List.length_cons, Nat.add_sub_cancel] at ih ⊢
    rw [rng_succ, List.map_cons]
    simp only [List.drop_succ_cons, List.drop_zero, List.zip_cons_cons] at ih ⊢
    rw [← ih]
    congr 1
    · have e1 : ((k : Int) + 1 - 1 - k).toNat = 0 := by omega
      have e2 : ((k : Int) + 1 - k).toNat = 1 := by omega
      simp [gI, e1, e2]
    · have e0 : ((k : Int) + 1 + 1) = ((k + 1 : Nat) : Int) + 1 := by omega
      rw [e0]
      apply List.map_congr_left
      intro i hi
      have := rng_mem.mp hi
      have e1 : (i - 1 - (k : Int)).toNat = (i - 1 - ((k + 1 : Nat) : Int)).toNat + 1 := by omega
      have e2 : (i - (k : Int)).toNat = (i - ((k + 1 : Nat) : Int)).toNat + 1 := by omega
      simp [gI, e1, e2]
theorem nbr0 (r : List Int) : (rngT 1 (r.length - 1)).map (fun i => (gI r (i - 1), gI r i)) = r.zip (r.drop 1) := by
  have := nbr_zip r 0
  simpa using this
theorem up_rng (r : List Int) : decide (((rngT 1 (r.length - 1)).filter fun i => decide (gI r i < gI r (i - 1))).length = 0) = up r := by
  rw [← up_zip, ← nbr0]
  rw [Bool.eq_iff_iff]
  simp only [decide_eq_true_eq, List.length_eq_zero_iff, List.filter_eq_nil_iff, List.all_eq_true, List.map_map, List.mem_map, Function.comp, id]
  constructor
  · rintro h _ ⟨i, hi, rfl⟩
    have := h i hi
    simp only [decide_eq_true_eq] at this ⊢
    omega
  · intro h i hi
    have := h _ ⟨i, hi, rfl⟩
    simp only [decide_eq_true_eq] at this
    omega
/-! ### two lists, compared place by place -/
theorem any_ne [DecidableEq α] {a d : List α} (h : a.length = d.length) : ((rngT 0 d.length).any fun i => !decide (a[i.toNat]? = d[i.toNat]?)) = !decide (a = d) := by
  rw [Bool.eq_iff_iff]
  simp only [List.any_eq_true, Bool.not_eq_true', decide_eq_false_iff_not]
  constructor
  · rintro ⟨i, _, hi⟩ rfl; exact hi rfl
  · intro hne
    refine Classical.byContradiction fun hc => hne ?_
    apply List.ext_getElem?
    intro i
    by_cases hi : i < d.length
    · refine Classical.byContradiction fun hh => hc ⟨(i : Int), rng_mem.mpr (by omega), by simpa using hh⟩
    · rw [List.getElem?_eq_none (by omega), List.getElem?_eq_none (by omega)]
end
/-! ### words of tasks -/
theorem tEqS_k {a b : Str} {k : Bool} (h : (PyData.strOk a && PyData.strOk b && (decide (a = b) == k)) = true) : tEqS a b = some k := by
  simp only [Bool.and_eq_true, beq_iff_eq] at h
  unfold tEqS; rw [if_pos (by simp [h.1]), h.2]
theorem tNeS_k {a b : Str} {k : Bool} (h : (PyData.strOk a && PyData.strOk b && (decide (a = b) == !k)) = true) : tNeS a b = some k := by
  simp only [Bool.and_eq_true, beq_iff_eq] at h
  unfold tNeS; rw [if_pos (by simp [h.1]), h.2]; simp
@[simp] theorem q_sort_sort : tEqS ("sort" : Str) ("sort" : Str) = some true := tEqS_k (by decide +kernel)
@[simp] theorem n_sort_sort : tNeS ("sort" : Str) ("sort" : Str) = some false := tNeS_k (by decide +kernel)
@[simp] theorem q_sort_merge : tEqS ("sort" : Str) ("merge" : Str) = some false := tEqS_k (by decide +kernel)
@[simp] theorem n_sort_merge : tNeS ("sort" : Str) ("merge" : Str) = some true := tNeS_k (by decide +kernel)
@[simp] theorem q_sort_parts : tEqS ("sort" : Str) ("parts" : Str) = some false := tEqS_k (by decide +kernel)
@[simp] theorem n_sort_parts : tNeS ("sort" : Str) ("parts" : Str) = some true := tNeS_k (by decide +kernel)
@[simp] theorem q_sort_near : tEqS ("sort" : Str) ("near" : Str) = some false := tEqS_k (by decide +kernel)
@[simp] theorem n_sort_near : tNeS ("sort" : Str) ("near" : Str) = some true := tNeS_k (by decide +kernel)
@[simp] theorem q_sort_bitonic : tEqS ("sort" : Str) ("bitonic" : Str) = some false := tEqS_k (by decide +kernel)
@[simp] theorem n_sort_bitonic : tNeS ("sort" : Str) ("bitonic" : Str) = some true := tNeS_k (by decide +kernel)
@[simp] theorem q_sort_select : tEqS ("sort" : Str) ("select" : Str) = some false := tEqS_k (by decide +kernel)
@[simp] theorem n_sort_select : tNeS ("sort" : Str) ("select" : Str) = some true := tNeS_k (by decide +kernel)
@[simp] theorem q_sort_ranks : tEqS ("sort" : Str) ("ranks" : Str) = some false := tEqS_k (by decide +kernel)
@[simp] theorem n_sort_ranks : tNeS ("sort" : Str) ("ranks" : Str) = some true := tNeS_k (by decide +kernel)
@[simp] theorem q_merge_sort : tEqS ("merge" : Str) ("sort" : Str) = some false := tEqS_k (by decide +kernel)
@[simp] theorem n_merge_sort : tNeS ("merge" : Str) ("sort" : Str) = some true := tNeS_k (by decide +kernel)
@[simp] theorem q_merge_merge : tEqS ("merge" : Str) ("merge" : Str) = some true := tEqS_k (by decide +kernel)
@[simp] theorem n_merge_merge : tNeS ("merge" : Str) ("merge" : Str) = some false := tNeS_k (by decide +kernel)
@[simp] theorem q_merge_parts : tEqS ("merge" : Str) ("parts" : Str) = some false := tEqS_k (by decide +kernel)
@[simp] theorem n_merge_parts : tNeS ("merge" : Str) ("parts" : Str) = some true := tNeS_k (by decide +kernel)
@[simp] theorem q_merge_near : tEqS ("merge" : Str) ("near" : Str) = some false := tEqS_k (by decide +kernel)
@[simp] theorem n_merge_near : tNeS ("merge" : Str) ("near" : Str) = some true := tNeS_k (by decide +kernel)
@[simp] theorem q_merge_bitonic : tEqS ("merge" : Str) ("bitonic" : Str) = some false := tEqS_k (by decide +kernel)
@[simp] theorem n_merge_bitonic : tNeS ("merge" : Str) ("bitonic" : Str) = some true := tNeS_k (by decide +kernel)
@[simp] theorem q_merge_select : tEqS ("merge" : Str) ("select" : Str) = some false := tEqS_k (by decide +kernel)
@[simp] theorem n_merge_select : tNeS ("merge" : Str) ("select" : Str) = some true := tNeS_k (by decide +kernel)
@[simp] theorem q_merge_ranks : tEqS ("merge" : Str) ("ranks" : Str) = some false := tEqS_k (by decide +kernel)
@[simp] theorem n_merge_ranks : tNeS ("merge" : Str) ("ranks" : Str) = some true := tNeS_k (by decide +kernel)
@[simp] theorem q_parts_sort : tEqS ("parts" : Str) ("sort" : Str) = some false := tEqS_k (by decide +kernel)
@[simp] theorem n_parts_sort : tNeS ("parts" : Str) ("sort" : Str) = some true := tNeS_k (by decide +kernel)
@[simp] theorem q_parts_merge : tEqS ("parts" : Str) ("merge" : Str) = some false := tEqS_k (by decide +kernel)
@[simp] theorem n_parts_merge : tNeS ("parts" : Str) ("merge" : Str) = some true := tNeS_k (by decide +kernel)
@[simp] theorem q_parts_parts : tEqS ("parts" : Str) ("parts" : Str) = some true := tEqS_k (by decide +kernel)
@[simp] theorem n_parts_parts : tNeS ("parts" : Str) ("parts" : Str) = some false := tNeS_k (by decide +kernel)
@[simp] theorem q_parts_near : tEqS ("parts" : Str) ("near" : Str) = some false := tEqS_k (by decide +kernel)
@[simp] theorem n_parts_near : tNeS ("parts" : Str) ("near" : Str) = some true := tNeS_k (by decide +kernel)
@[simp] theorem q_parts_bitonic : tEqS ("parts" : Str) ("bitonic" : Str) = some false := tEqS_k (by decide +kernel)
@[simp] theorem n_parts_bitonic : tNeS ("parts" : Str) ("bitonic" : Str) = some true := tNeS_k (by decide +kernel)
@[simp] theorem q_parts_select : tEqS ("parts" : Str) ("select" : Str) = some false := tEqS_k (by decide +kernel)
@[simp] theorem n_parts_select : tNeS ("parts" : Str) ("select" : Str) = some true := tNeS_k (by decide +kernel)
@[simp] theorem q_parts_ranks : tEqS ("parts" : Str) ("ranks" : Str) = some false := tEqS_k (by decide +kernel)
@[simp] theorem n_parts_ranks : tNeS ("parts" : Str) ("ranks" : Str) = some true := tNeS_k (by decide +kernel)
@[simp] theorem q_near_sort : tEqS ("near" : Str) ("sort" : Str) = some false := tEqS_k (by decide +kernel)
@[simp] theorem n_near_sort : tNeS ("near" : Str) ("sort" : Str) = some true := tNeS_k (by decide +kernel)
@[simp] theorem q_near_merge : tEqS ("near" : Str) ("merge" : Str) = some false := tEqS_k (by decide +kernel)
@[simp] theorem n_near_merge : tNeS ("near" : Str) ("merge" : Str) = some true := tNeS_k (by decide +kernel)
@[simp] theorem q_near_parts : tEqS ("near" : Str) ("parts" : Str) = some false := tEqS_k (by decide +kernel)
@[simp] theorem n_near_parts : tNeS ("near" : Str) ("parts" : Str) = some true := tNeS_k (by decide +kernel)
@[simp] theorem q_near_near : tEqS ("near" : Str) ("near" : Str) = some true := tEqS_k (by decide +kernel)
@[simp] theorem n_near_near : tNeS ("near" : Str) ("near" : Str) = some false := tNeS_k (by decide +kernel)
@[simp] theorem q_near_bitonic : tEqS ("near" : Str) ("bitonic" : Str) = some false := tEqS_k (by decide +kernel)
@[simp] theorem n_near_bitonic : tNeS ("near" : Str) ("bitonic" : Str) = some true := tNeS_k (by decide +kernel)
@[simp] theorem q_near_select : tEqS ("near" : Str) ("select" : Str) = some false := tEqS_k (by decide +kernel)
@[simp] theorem n_near_select : tNeS ("near" : Str) ("select" : Str) = some true := tNeS_k (by decide +kernel)
@[simp] theorem q_near_ranks : tEqS ("near" : Str) ("ranks" : Str) = some false := tEqS_k (by decide +kernel)
@[simp] theorem n_near_ranks : tNeS ("near" : Str) ("ranks" : Str) = some true := tNeS_k (by decide +kernel)
@[simp] theorem q_bitonic_sort : tEqS ("bitonic" : Str) ("sort" : Str) = some false := tEqS_k (by decide +kernel)
@[simp] theorem n_bitonic_sort : tNeS ("bitonic" : Str) ("sort" : Str) = some true := tNeS_k (by decide +kernel)
@[simp] theorem q_bitonic_merge : tEqS ("bitonic" : Str) ("merge" : Str) = some false := tEqS_k (by decide +kernel)
@[simp] theorem n_bitonic_merge : tNeS ("bitonic" : Str) ("merge" : Str) = some true := tNeS_k (by decide +kernel)
@[simp] theorem q_bitonic_parts : tEqS ("bitonic" : Str) ("parts" : Str) = some false := tEqS_k (by decide +kernel)
@[simp] theorem n_bitonic_parts : tNeS ("bitonic" : Str) ("parts" : Str) = some true := tNeS_k (by decide +kernel)
@[simp] theorem q_bitonic_near : tEqS ("bitonic" : Str) ("near" : Str) = some false := tEqS_k (by decide +kernel)
@[simp] theorem n_bitonic_near : tNeS ("bitonic" : Str) ("near" : Str) = some true := tNeS_k (by decide +kernel)
@[simp] theorem q_bitonic_bitonic : tEqS ("bitonic" : Str) ("bitonic" : Str) = some true := tEqS_k (by decide +kernel)
@[simp] theorem n_bitonic_bitonic : tNeS ("bitonic" : Str) ("bitonic" : Str) = some false := tNeS_k (by decide +kernel)
@[simp] theorem q_bitonic_select : tEqS ("bitonic" : Str) ("select" : Str) = some false := tEqS_k (by decide +kernel)
@[simp] theorem n_bitonic_select : tNeS ("bitonic" : Str) ("select" : Str) = some true := tNeS_k (by decide +kernel)
@[simp] theorem q_bitonic_ranks : tEqS ("bitonic" : Str) ("ranks" : Str) = some false := tEqS_k (by decide +kernel)
@[simp] theorem n_bitonic_ranks : tNeS ("bitonic" : Str) ("ranks" : Str) = some true := tNeS_k (by decide +kernel)
@[simp] theorem q_select_sort : tEqS ("select" : Str) ("sort" : Str) = some false := tEqS_k (by decide +kernel)
@[simp] theorem n_select_sort : tNeS ("select" : Str) ("sort" : Str) = some true := tNeS_k (by decide +kernel)
@[simp] theorem q_select_merge : tEqS ("select" : Str) ("merge" : Str) = some false := tEqS_k (by decide +kernel)
@[simp] theorem n_select_merge : tNeS ("select" : Str) ("merge" : Str) = some true := tNeS_k (by decide +kernel)
@[simp] theorem q_select_parts : tEqS ("select" : Str) ("parts" : Str) = some false := tEqS_k (by decide +kernel)
@[simp] theorem n_select_parts : tNeS ("select" : Str) ("parts" : Str) = some true := tNeS_k (by decide +kernel)
@[simp] theorem q_select_near : tEqS ("select" : Str) ("near" : Str) = some false := tEqS_k (by decide +kernel)
@[simp] theorem n_select_near : tNeS ("select" : Str) ("near" : Str) = some true := tNeS_k (by decide +kernel)
@[simp] theorem q_select_bitonic : tEqS ("select" : Str) ("bitonic" : Str) = some false := tEqS_k (by decide +kernel)
@[simp] theorem n_select_bitonic : tNeS ("select" : Str) ("bitonic" : Str) = some true := tNeS_k (by decide +kernel)
@[simp] theorem q_select_select : tEqS ("select" : Str) ("select" : Str) = some true := tEqS_k (by decide +kernel)
@[simp] theorem n_select_select : tNeS ("select" : Str) ("select" : Str) = some false := tNeS_k (by decide +kernel)
@[simp] theorem q_select_ranks : tEqS ("select" : Str) ("ranks" : Str) = some false := tEqS_k (by decide +kernel)
@[simp] theorem n_select_ranks : tNeS ("select" : Str) ("ranks" : Str) = some true := tNeS_k (by decide +kernel)
@[simp] theorem q_ranks_sort : tEqS ("ranks" : Str) ("sort" : Str) = some false := tEqS_k (by decide +kernel)
@[simp] theorem n_ranks_sort : tNeS ("ranks" : Str) ("sort" : Str) = some true := tNeS_k (by decide +kernel)
@[simp] theorem q_ranks_merge : tEqS ("ranks" : Str) ("merge" : Str) = some false := tEqS_k (by decide +kernel)
@[simp] theorem n_ranks_merge : tNeS ("ranks" : Str) ("merge" : Str) = some true := tNeS_k (by decide +kernel)
@[simp] theorem q_ranks_parts : tEqS ("ranks" : Str) ("parts" : Str) = some false := tEqS_k (by decide +kernel)
@[simp] theorem n_ranks_parts : tNeS ("ranks" : Str) ("parts" : Str) = some true := tNeS_k (by decide +kernel)
@[simp] theorem q_ranks_near : tEqS ("ranks" : Str) ("near" : Str) = some false := tEqS_k (by decide +kernel)
@[simp] theorem n_ranks_near : tNeS ("ranks" : Str) ("near" : Str) = some true := tNeS_k (by decide +kernel)
@[simp] theorem q_ranks_bitonic : tEqS ("ranks" : Str) ("bitonic" : Str) = some false := tEqS_k (by decide +kernel)
@[simp] theorem n_ranks_bitonic : tNeS ("ranks" : Str) ("bitonic" : Str) = some true := tNeS_k (by decide +kernel)
@[simp] theorem q_ranks_select : tEqS ("ranks" : Str) ("select" : Str) = some false := tEqS_k (by decide +kernel)
@[simp] theorem n_ranks_select : tNeS ("ranks" : Str) ("select" : Str) = some true := tNeS_k (by decide +kernel)
@[simp] theorem q_ranks_ranks : tEqS ("ranks" : Str) ("ranks" : Str) = some true := tEqS_k (by decide +kernel)
@[simp] theorem n_ranks_ranks : tNeS ("ranks" : Str) ("ranks" : Str) = some false := tNeS_k (by decide +kernel)
end Ty

set_option maxRecDepth 100000
set_option maxHeartbeats 4000000
namespace Ty
section
variable {α β γ δ σ : Type} {P : α → Prop}
/-- comes out, with -/
def Ok (t : Option α) (P : α → Prop) : Prop := ∃ a, t = some a ∧ P a
theorem Ok.imp {t : Option α} {Q : α → Prop} (h : Ok t Q) (k : ∀ a, Q a → P a) : Ok t P := let ⟨a, e, q⟩ := h; ⟨a, e, k a q⟩
theorem Ok.eq {t : Option α} {a : α} (h : Ok t (· = a)) : t = some a := let ⟨_, e, q⟩ := h; q ▸ e
theorem ok_eq {t : Option α} {a : α} (h : t = some a) (p : P a) : Ok t P := ⟨a, h, p⟩
theorem ok_some {a : α} (h : P a) : Ok (some a) P := ⟨a, rfl, h⟩
theorem ok_bind {t : Option β} {F : β → Option α} (h : Ok t fun b => Ok (F b) P) : Ok (t.bind F) P := by obtain ⟨b, rfl, h⟩ := h; exact h
theorem ok_map {t : Option β} {F : β → α} (h : Ok t fun b => P (F b)) : Ok (t.map F) P := by obtain ⟨b, rfl, h⟩ := h; exact ⟨_, rfl, h⟩
theorem ok_op1 {t : Option β} {F : β → Option α} (h : Ok t fun b => Ok (F b) P) : Ok (op1 F t) P := ok_bind h
theorem ok_op2 {t : Option β} {u : Option γ} {F : β → γ → Option α} (h : Ok t fun b => Ok u fun c => Ok (F b c) P) : Ok (op2 F t u) P := by
  obtain ⟨b, rfl, c, rfl, h⟩ := h; exact h
theorem ok_op3 {t : Option β} {u : Option γ} {v : Option δ} {F : β → γ → δ → Option α} (h : Ok t fun b => Ok u fun c => Ok v fun d => Ok (F b c d) P) : Ok (op3 F t u v) P := by
  obtain ⟨b, rfl, c, rfl, d, rfl, h⟩ := h; exact h
theorem ok_op4 {ε : Type} {t : Option β} {u : Option γ} {v : Option δ} {w : Option ε} {F : β → γ → δ → ε → Option α} (h : Ok t fun b => Ok u fun c => Ok v fun d => Ok w fun e => Ok (F b c d e) P) : Ok (op4 F t u v w) P := by
  obtain ⟨b, rfl, c, rfl, d, rfl, e, rfl, h⟩ := h; exact h
theorem ok_op5 {ε ζ : Type} {t : Option β} {u : Option γ} {v : Option δ} {w : Option ε} {x : Option ζ} {F : β → γ → δ → ε → ζ → Option α} (h : Ok t fun b => Ok u fun c => Ok v fun d => Ok w fun e => Ok x fun f => Ok (F b c d e f) P) : Ok (op5 F t u v w x) P := by
  obtain ⟨b, rfl, c, rfl, d, rfl, e, rfl, f, rfl, h⟩ := h; exact h
theorem ok_if {t : Option Bool} {u v : Option α} (h : Ok t fun k => (k = true → Ok u P) ∧ (k = false → Ok v P)) : Ok (oIf t u v) P := by
  obtain ⟨k, rfl, h1, h2⟩ := h
  cases k with
  | true => exact h1 rfl
  | false => exact h2 rfl
theorem ok_nxt {β γ : Type} {P : β → Prop} {k : σ → Option β} {w : γ → β} {s : σ} (h : Ok (k s) P) : Ok (cont k w (.nxt s)) P := h
theorem ok_ret {β γ : Type} {P : β → Prop} {k : σ → Option β} {w : γ → β} {r : γ} (h : P (w r)) : Ok (cont k w (.ret r)) P := ⟨_, rfl, h⟩
theorem ok_not {t : Option Bool} {P : Bool → Prop} (h : Ok t fun k => P (!k)) : Ok (oNot t) P := ok_map h
theorem ok_and {t u : Option Bool} {P : Bool → Prop} (h : Ok t fun k => (k = true → Ok u P) ∧ (k = false → P false)) : Ok (oAnd t u) P := by
  obtain ⟨k, rfl, h1, h2⟩ := h
  cases k with
  | true => exact h1 rfl
  | false => exact ⟨_, rfl, h2 rfl⟩
theorem ok_or {t u : Option Bool} {P : Bool → Prop} (h : Ok t fun k => (k = true → P true) ∧ (k = false → Ok u P)) : Ok (oOr t u) P := by
  obtain ⟨k, rfl, h1, h2⟩ := h
  cases k with
  | true => exact ⟨_, rfl, h1 rfl⟩
  | false => exact h2 rfl
theorem ok_and2 {t u : Option Bool} {P : Bool → Prop} (h : Ok t fun k => Ok u fun l => P (k && l)) : Ok (oAnd t u) P := by
  obtain ⟨k, rfl, l, rfl, h⟩ := h
  exact ⟨k && l, by cases k <;> rfl, h⟩
theorem ok_or2 {t u : Option Bool} {P : Bool → Prop} (h : Ok t fun k => Ok u fun l => P (k || l)) : Ok (oOr t u) P := by
  obtain ⟨k, rfl, l, rfl, h⟩ := h
  exact ⟨k || l, by cases k <;> rfl, h⟩
theorem ok_cons {t : Option β} {u : Option (List β)} {P : List β → Prop} (h : Ok t fun b => Ok u fun c => P (b :: c)) : Ok (oCons t u) P := by
  obtain ⟨b, rfl, c, rfl, h⟩ := h; exact ⟨_, rfl, h⟩
theorem ok_add {a b : Int} {P : Int → Prop} (h : P (a + b)) : Ok (tAdd a b) P := ⟨_, rfl, h⟩
theorem ok_sub {a b : Int} {P : Int → Prop} (h : P (a - b)) : Ok (tSub a b) P := ⟨_, rfl, h⟩
theorem ok_neg {a : Int} {P : Int → Prop} (h : P (-a)) : Ok (tNeg a) P := ⟨_, rfl, h⟩
theorem ok_lt {a b : Int} {P : Bool → Prop} (h : P (decide (a < b))) : Ok (tLt a b) P := ⟨_, rfl, h⟩
theorem ok_le {a b : Int} {P : Bool → Prop} (h : P (decide (a ≤ b))) : Ok (tLe a b) P := ⟨_, rfl, h⟩
theorem ok_gt {a b : Int} {P : Bool → Prop} (h : P (decide (b < a))) : Ok (tGt a b) P := ⟨_, rfl, h⟩
theorem ok_ge {a b : Int} {P : Bool → Prop} (h : P (decide (b ≤ a))) : Ok (tGe a b) P := ⟨_, rfl, h⟩
theorem ok_teq [DecidableEq β] {a b : β} {P : Bool → Prop} (h : P (decide (a = b))) : Ok (tEq a b) P := ⟨_, rfl, h⟩
theorem ok_tne [DecidableEq β] {a b : β} {P : Bool → Prop} (h : P (!decide (a = b))) : Ok (tNe a b) P := ⟨_, rfl, h⟩
theorem ok_in [DecidableEq β] {a : β} {b : List β} {P : Bool → Prop} (h : P (decide (a ∈ b))) : Ok (tIn a b) P := ⟨_, rfl, h⟩
theorem ok_nin [DecidableEq β] {a : β} {b : List β} {P : Bool → Prop} (h : P (!decide (a ∈ b))) : Ok (tNin a b) P := ⟨_, rfl, h⟩
theorem ok_len {a : List β} {P : Int → Prop} (h : P a.length) : Ok (tLen a) P := ⟨_, rfl, h⟩
theorem ok_id {a : α} (h : P a) : Ok (tId a) P := ⟨_, rfl, h⟩
theorem ok_mod {a b : Int} {P : Int → Prop} (h0 : 0 < b) (h : P (a % b)) : Ok (tMod a b) P := ⟨_, if_pos h0, h⟩
theorem ok_div {a b : Int} {P : Int → Prop} (h0 : 0 < b ∧ b < 1073741824) (h : P (a / b)) : Ok (tDiv a b) P := ⟨_, if_pos h0, h⟩
theorem ok_mulr {a b : Int} {P : Int → Prop} (h0 : smallF b = true) (h : P (a * b)) : Ok (tMul a b) P := ⟨_, by unfold tMul; rw [if_pos (by rw [h0]; simp)], h⟩
theorem ok_mull {a b : Int} {P : Int → Prop} (h0 : smallF a = true) (h : P (a * b)) : Ok (tMul a b) P := ⟨_, by unfold tMul; rw [if_pos (by rw [h0]; simp)], h⟩
theorem ok_pow {a b : Int} {P : Int → Prop} (h0 : 0 ≤ b ∧ b < 100 ∧ 0 ≤ a ∧ a < 100) (h : P (a ^ b.toNat)) : Ok (tPow a b) P := ⟨_, if_pos h0, h⟩
theorem ok_app {xs : List β} {a : β} {P : List β → Prop} (h0 : xs.length < 100000) (h : P (xs ++ [a])) : Ok (tApp xs a) P := ⟨_, if_pos h0, h⟩
theorem ok_cat {xs ys : List β} {P : List β → Prop} (h0 : xs.length + ys.length ≤ 100000) (h : P (xs ++ ys)) : Ok (tCat xs ys) P := ⟨_, if_pos h0, h⟩
theorem ok_dis {xs : List β} {P : List β → Prop} (h0 : xs.length ≤ 100000) (h : P xs) : Ok (tDis xs) P := ⟨_, if_pos h0, h⟩
theorem ok_cut {xs : List β} {l u : Option Int} {P : List β → Prop} (h : P (Dt.cutD xs l u)) : Ok (tCut xs l u) P := ⟨_, rfl, h⟩
theorem ok_sort {xs : List Int} {P : List Int → Prop} (h : P (Dt.srtI xs)) : Ok (tSort xs) P := ⟨_, rfl, h⟩
theorem ok_zip {xs : List β} {ys : List γ} {P : List (β × γ) → Prop} (h : P (xs.zip ys)) : Ok (tZip xs ys) P := ⟨_, rfl, h⟩
theorem ok_all {xs : List Bool} {P : Bool → Prop} (h : P (xs.all id)) : Ok (tAll xs) P := ⟨_, rfl, h⟩
theorem ok_any {xs : List Bool} {P : Bool → Prop} (h : P (xs.any id)) : Ok (tAny xs) P := ⟨_, rfl, h⟩
theorem ok_max2 {a b : Int} {P : Int → Prop} (h : P (if b > a then b else a)) : Ok (tMax2 a b) P := ⟨_, rfl, h⟩
theorem ok_min2 {a b : Int} {P : Int → Prop} (h : P (if b < a then b else a)) : Ok (tMin2 a b) P := ⟨_, rfl, h⟩
theorem ok_pair {a : β} {b : γ} {P : β × γ → Prop} (h : P (a, b)) : Ok (tPair a b) P := ⟨_, rfl, h⟩
theorem ok_cnt {a : List Int} {b : Int} {P : Int → Prop} (h : P (a.count b : Nat)) : Ok (tCount a b) P := ⟨_, rfl, h⟩
theorem ok_isB {a b : Bool} {P : Bool → Prop} (h : P (decide (a = b))) : Ok (tIsB a b) P := ⟨_, rfl, h⟩
theorem ok_notB {a b : Bool} {P : Bool → Prop} (h : P (!decide (a = b))) : Ok (tNotB a b) P := ⟨_, rfl, h⟩
theorem ok_r1 {n : Int} {P : List Int → Prop} (h0 : n < 2 ^ 40 ∧ -1000000 ≤ n) (h : P (rngT 0 n.toNat)) : Ok (tR1 n) P := ⟨_, tR1_ok h0.1 h0.2, h⟩
theorem ok_r2 {i n : Int} {P : List Int → Prop} (h0 : n < 2 ^ 40 ∧ -1000000 ≤ n ∧ i < 2 ^ 40 ∧ -1000000 ≤ i) (h : P (rngT i (n - i).toNat)) : Ok (tR2 i n) P := ⟨_, tR2_ok h0.1 h0.2.1 h0.2.2.1 h0.2.2.2, h⟩
theorem ok_ix {a : List α} {i : Int} (h : 0 ≤ i ∧ i < a.length) (k : ∀ x, a[i.toNat]? = some x → P x) : Ok (tIx a i) P := by
  have hl : i.toNat < a.length := by omega
  exact ⟨a[i.toNat], tIx_at h.1 (List.getElem?_eq_getElem hl), k _ (List.getElem?_eq_getElem hl)⟩
theorem ok_ixI {a : List Int} {i : Int} {P : Int → Prop} (h : 0 ≤ i ∧ i < a.length) (k : P (gI a i)) : Ok (tIx a i) P := ⟨_, tIx_gI h.1 h.2, k⟩
theorem ok_fold {bd : σ → β → Option σ} {xs : List β} {s : σ} (Iv : Nat → σ → Prop) {P : σ → Prop} (h0 : Iv 0 s) (hs : ∀ i x s, xs[i]? = some x → Iv i s → Ok (bd s x) (Iv (i + 1))) (hP : ∀ s, Iv xs.length s → P s) : Ok (foldT bd xs s) P := by
  obtain ⟨s', e, h⟩ := foldT_ok (bd := bd) xs Iv s h0 hs
  exact ⟨s', e, hP s' h⟩
theorem loop_ok {bd : σ → β → Option (Step σ γ)} {R : γ → Prop} : ∀ (xs : List β) (Iv : Nat → σ → Prop) (s : σ), Iv 0 s →
    (∀ i x s, xs[i]? = some x → Iv i s → Ok (bd s x) fun st => match st with | .nxt s' => Iv (i + 1) s' | .ret r => R r) →
    Ok (loopT bd xs s) fun st => match st with | .nxt s' => Iv xs.length s' | .ret r => R r
  | [], Iv, s, h0, _ => ⟨_, rfl, h0⟩
  | x :: xs, Iv, s, h0, hs => by
    obtain ⟨st, e, h⟩ := hs 0 x s rfl h0
    show Ok ((bd s x).bind _) _
    rw [e]
    cases st with
    | ret r => exact ⟨_, rfl, h⟩
    | nxt s1 =>
      exact loop_ok xs (fun i => Iv (i + 1)) s1 h fun i y s hy hi => hs (i + 1) y s (by simpa using hy) hi
theorem ok_loop {bd : σ → β → Option (Step σ γ)} {xs : List β} {s : σ} (Iv : Nat → σ → Prop) (R : γ → Prop) {P : Step σ γ → Prop} (h0 : Iv 0 s)
    (hs : ∀ i x s, xs[i]? = some x → Iv i s → Ok (bd s x) fun st => match st with | .nxt s' => Iv (i + 1) s' | .ret r => R r)
    (hn : ∀ s, Iv xs.length s → P (.nxt s)) (hr : ∀ r, R r → P (.ret r)) : Ok (loopT bd xs s) P := by
  obtain ⟨st, e, h⟩ := loop_ok (bd := bd) (R := R) xs Iv s h0 hs
  refine ⟨st, e, ?_⟩
  cases st with
  | nxt s' => exact hn s' h
  | ret r => exact hr r h
/-- a loop that only looks -/
theorem ok_check {bd : Unit → β → Option (Step Unit γ)} {xs : List β} (p : β → Bool) (b : γ) {P : Step Unit γ → Prop} (h : ∀ x ∈ xs, Ok (bd () x) (· = if p x = true then .ret b else .nxt ())) (hP : P (if xs.any p = true then .ret b else .nxt ())) : Ok (loopT bd xs ()) P :=
  ⟨_, loopT_check (p := p) b xs fun x hx => (h x hx).eq, hP⟩
theorem ok_lcm {te : β → Option α} {xs : List β} (f : β → α) {P : List α → Prop} (hl : xs.length ≤ 100000) (h : ∀ x ∈ xs, Ok (te x) (· = f x)) (hP : P (xs.map f)) : Ok (lcT (fun _ => some true) te xs) P :=
  ⟨_, lcT_map hl fun x hx => (h x hx).eq, hP⟩
theorem ok_lcf {tt : β → Option Bool} {xs : List β} (p : β → Bool) {P : List β → Prop} (hl : xs.length ≤ 100000) (h : ∀ x ∈ xs, Ok (tt x) (· = p x)) (hP : P (xs.filter p)) : Ok (lcT tt (fun x => some x) xs) P :=
  ⟨_, lcT_fil hl fun x hx => (h x hx).eq, hP⟩
theorem ok_lc {tt : β → Option Bool} {te : β → Option α} {xs : List β} (p : β → Bool) (f : β → α) {P : List α → Prop} (hl : xs.length ≤ 100000) (h : ∀ x ∈ xs, Ok (tt x) (· = p x)) (h' : ∀ x ∈ xs, p x = true → Ok (te x) (· = f x)) (hP : P ((xs.filter p).map f)) : Ok (lcT tt te xs) P :=
  ⟨_, lcT_ok hl fun x hx => ⟨(h x hx).eq, fun hp => (h' x hx hp).eq⟩, hP⟩
theorem ok_lc2 {ti : α → Option (List β)} {te : α → β → Option γ} {xs : List α} (g : α → List γ) {P : List γ → Prop} (h : ∀ x ∈ xs, ∃ ys, ti x = some ys ∧ lcG (fun _ => some true) (te x) ys = some (g x)) (hl : (xs.flatMap g).length ≤ 100000) (hP : P (xs.flatMap g)) : Ok (lcT2 (fun _ => some true) ti (fun _ _ => some true) te xs) P := by
  refine ⟨_, ?_, hP⟩
  unfold lcT2
  rw [lcG2_ok xs h]
  simp only [Option.bind_some, if_pos hl]
end
section
variable {α β γ δ : Type}
theorem o1 {F : α → Option β} {a : α} : op1 F (some a) = F a := id rfl
theorem o2 {F : α → β → Option γ} {a : α} {b : β} : op2 F (some a) (some b) = F a b := id rfl
theorem o3 {F : α → β → γ → Option δ} {a : α} {b : β} {c : γ} : op3 F (some a) (some b) (some c) = F a b c := id rfl
theorem om {F : α → β} {a : α} : (some a).map F = some (F a) := id rfl
theorem ob {F : α → Option β} {a : α} : (some a).bind F = F a := id rfl
theorem ift {u v : Option α} : oIf (some true) u v = u := id rfl
theorem iff' {u v : Option α} : oIf (some false) u v = v := id rfl
theorem ks0 {s : PySem.Str} : Tk.s (.k0 s) = s := id rfl
theorem ks1 {s : PySem.Str} {i : Int} : Tk.s (.kI s i) = s := id rfl
theorem ks2 {s : PySem.Str} {l : List Int} : Tk.s (.kL s l) = s := id rfl
theorem ki1 {s : PySem.Str} {i : Int} : Tk.i (.kI s i) = some i := id rfl
theorem kl2 {s : PySem.Str} {l : List Int} : Tk.l (.kL s l) = some l := id rfl
end
end Ty

set_option maxRecDepth 100000
set_option maxHeartbeats 4000000
namespace Ty
open PySem L2 Dt
section
variable {α β γ δ : Type} {m n m1 m2 m3 : M} {ρ ρ' : E} {fl g1 g2 g3 : Fl} {b c : B}
/-! a comprehension whose items are only known to be so -/
theorem lc_any {te : α → Option β} {Q : α → β → Prop} : ∀ (xs : List α), (∀ x ∈ xs, Ok (te x) (Q x)) → Ok (lcG (fun _ => some true) te xs) fun ys => ys.length = xs.length ∧ (∀ y ∈ ys, ∃ x ∈ xs, Q x y) ∧ ∀ (i : Nat) (x : α), xs[i]? = some x → ∃ y, ys[i]? = some y ∧ Q x y
  | [], _ => ⟨[], rfl, rfl, by simp, by simp⟩
  | x :: xs, h => by
    obtain ⟨y, e1, h1⟩ := h x (by simp)
    obtain ⟨ys, e, i1, i2, i3⟩ := lc_any xs fun z hz => h z (by simp [hz])
    refine ⟨y :: ys, by unfold lcG; rw [e, e1]; rfl, by simp [i1], fun z hz => ?_, fun i z hz => ?_⟩
    · rcases List.mem_cons.mp hz with rfl | hz
      · exact ⟨x, by simp, h1⟩
      · obtain ⟨w, hw, q⟩ := i2 z hz; exact ⟨w, by simp [hw], q⟩
    · cases i with
      | zero => cases hz; exact ⟨y, rfl, h1⟩
      | succ i => obtain ⟨w, hw, q⟩ := i3 i z (by simpa using hz); exact ⟨w, by simpa using hw, q⟩
theorem ok_lcq {te : α → Option β} {xs : List α} {P : List β → Prop} (Q : α → β → Prop) (hl : xs.length ≤ 100000) (h : ∀ x ∈ xs, Ok (te x) (Q x))
    (hP : ∀ ys : List β, ys.length = xs.length → (∀ y ∈ ys, ∃ x ∈ xs, Q x y) → (∀ (i : Nat) (x : α), xs[i]? = some x → ∃ y, ys[i]? = some y ∧ Q x y) → P ys) : Ok (lcT (fun _ => some true) te xs) P := by
  obtain ⟨ys, e, a, b, c⟩ := lc_any xs h
  exact ⟨ys, by unfold lcT; rw [if_pos hl]; exact e, hP ys a b c⟩
theorem ok_sel {tt : α → Option Bool} {xs : List α} {P : List α → Prop} (hl : xs.length ≤ 100000) (h : ∀ x ∈ xs, Ok (tt x) fun _ => True) (hP : ∀ ys : List α, ys.Sublist xs → P ys) : Ok (lcT tt (fun x => some x) xs) P :=
  ok_lcf (fun x => (tt x).getD false) hl (fun x hx => by obtain ⟨b, e, _⟩ := h x hx; exact ⟨b, e, by rw [e]; rfl⟩) (hP _ List.filter_sublist)
theorem cut_init {a : List α} : cutD a none (some (-1)) = a.dropLast := by
  unfold cutD HT.sIx
  rw [List.dropLast_eq_take]
  simp only [List.drop_zero]
  congr 1
  simp
  omega
theorem cut_tail_init {a : List α} : cutD a (some 1) (some (-1)) = a.tail.dropLast := by
  unfold cutD HT.sIx
  rw [List.dropLast_eq_take, List.length_tail]
  cases a with
  | nil => rfl
  | cons x r =>
    simp only [List.tail_cons, List.length_cons]
    have h1 : min (1 : Int).toNat (r.length + 1) = 1 := by simp
    simp
    congr 1
    omega
theorem lcG_map {te : α → Option β} {f : α → β} {xs : List α} (h : ∀ x ∈ xs, te x = some (f x)) : lcG (fun _ => some true) te xs = some (xs.map f) := by
  have := lcG_ok (tt := fun _ => some true) (te := te) (p := fun _ => true) (f := f) xs fun x hx => ⟨rfl, fun _ => h x hx⟩
  rw [this]
  congr 2; exact List.filter_eq_self.mpr fun _ _ => rfl
theorem flat_le {α β : Type} (f : α → List β) (n : Nat) : ∀ l : List α, (∀ x ∈ l, (f x).length ≤ n) → (l.flatMap f).length ≤ l.length * n
  | [], _ => by simp
  | x :: l, h => by
    have := flat_le f n l fun y hy => h y (by simp [hy])
    have := h x (by simp)
    rw [List.flatMap_cons, List.length_append, List.length_cons, Nat.add_mul, Nat.one_mul]; omega
theorem ok_lc2m {ti : α → Option (List β)} {te : α → β → Option γ} {xs : List α} {P : List γ → Prop} (gi : α → List β) (f : α → β → γ) (h : ∀ x ∈ xs, Ok (ti x) (· = gi x)) (h' : ∀ x ∈ xs, ∀ y ∈ gi x, Ok (te x y) (· = f x y)) (hl : (xs.flatMap fun x => (gi x).map (f x)).length ≤ 100000) (hP : P (xs.flatMap fun x => (gi x).map (f x))) :
    Ok (lcT2 (fun _ => some true) ti (fun _ _ => some true) te xs) P :=
  ok_lc2 (fun x => (gi x).map (f x)) (fun x hx => ⟨gi x, (h x hx).eq, lcG_map fun y hy => (h' x hx y hy).eq⟩) hl hP
theorem fold_cat {g : α → List β} {bd : List β → α → Option (List β)} (N : Nat) : ∀ (xs : List α) (s : List β), (∀ s x, x ∈ xs → s.length + (g x).length ≤ N → bd s x = some (s ++ g x)) → s.length + (xs.flatMap g).length ≤ N → foldT bd xs s = some (s ++ xs.flatMap g)
  | [], s, _, _ => by simp [foldT]
  | x :: xs, s, h, hl => by
    rw [List.flatMap_cons, List.length_append] at hl
    show (bd s x).bind _ = _
    rw [h s x (by simp) (by omega), Option.bind_some]
    show foldT bd xs (s ++ g x) = _
    rw [fold_cat N xs (s ++ g x) (fun s y hy => h s y (by simp [hy])) (by rw [List.length_append]; omega), List.flatMap_cons, List.append_assoc]
theorem tR3_ok {i j : Int} (h : -1000000 ≤ i ∧ i ≤ 1000000 ∧ -1000000 ≤ j ∧ j ≤ 1000000) : tR3 i j (-1) = some ((List.range (i - j).toNat).map fun k : Nat => i + (k : Int) * (-1)) := if_pos ⟨rfl, by unfold big; simp; omega, by unfold big; simp; omega⟩
/-! ### truth of a name -/
theorem t_truB {t : Option Bool} (h : X m ρ eB fl t) : T (mBt m) ρ t := by
  intro k hk; unfold mBt; rw [h k hk]; rfl
theorem t_truI {t : Option Int} (h : X m ρ eI fl t) : T (mBt m) ρ (t.map fun i => i != 0) := by
  intro k hk
  obtain ⟨a, h1, rfl⟩ := map_some' hk
  unfold mBt; rw [h a h1]; rfl
theorem t_truL {e : En α} {t : Option (List α)} (h : X m ρ (eL e) fl t) : T (mBt m) ρ (t.map fun l => !l.isEmpty) := by
  intro k hk
  obtain ⟨a, h1, rfl⟩ := map_some' hk
  unfold mBt; rw [h a h1]
  show some (!(a.map e).isEmpty) = _
  cases a <;> rfl
theorem t_truT {e : En α} {t : Option (List α)} (h : X m ρ (eT e) fl t) : T (mBt m) ρ (t.map fun l => !l.isEmpty) := by
  intro k hk
  obtain ⟨a, h1, rfl⟩ := map_some' hk
  unfold mBt; rw [h a h1]
  show some (!(a.map e).isEmpty) = _
  cases a <;> rfl
/-! ### x[::2], x[1::2] -/
theorem ev_map {e : α → β} : ∀ xs : List α, ev (xs.map e) = (ev xs).map e
  | [] => rfl
  | [_] => rfl
  | x :: y :: r => by simp [ev, ev_map r]
def tStep2 (z : Nat) (xs : List α) : Option (List α) := some (ev (xs.drop z))
theorem x_step2L {e : En α} {z : Nat} {t : Option (List α)} (h : X m ρ (eL e) fl t) : X (mStp (some z) m) ρ (eL e) .fresh (op1 (tStep2 z) t) := by
  intro a ha
  obtain ⟨xs, h1, h2⟩ := bind_some' ha
  cases h2
  unfold mStp; rw [h xs h1]
  show some ((D.lst (ev ((xs.map e).drop z)), Fl.fresh) : D × Fl) = _
  rw [← List.map_drop, ev_map]; rfl
theorem x_step2T {e : En α} {z : Nat} {t : Option (List α)} (h : X m ρ (eT e) fl t) : X (mStp (some z) m) ρ (eT e) .pure (op1 (tStep2 z) t) := by
  intro a ha
  obtain ⟨xs, h1, h2⟩ := bind_some' ha
  cases h2
  unfold mStp; rw [h xs h1]
  show some ((D.tup (ev ((xs.map e).drop z)), Fl.pure) : D × Fl) = _
  rw [← List.map_drop, ev_map]; rfl
/-! ### more ranges -/
def tRng2 (i j : Int) : Option (List Int) := if 0 ≤ i ∧ i ≤ 100000 ∧ 0 ≤ j ∧ j ≤ 100000 then some (rngT i (j - i).toNat) else none
theorem rng2_e {i j : Int} {n : Nat} : rngD i n = (rngT i n).map eI := rng_e
theorem x_rng2 {f : List D → D × Fl} {g : List Int → D} {t u : Option Int} (hf : ∀ l : List Int, f (l.map eI) = (g l, fl)) (h : X m1 ρ eI g1 t) (h' : X m2 ρ eI g2 u) : ∀ l, op2 tRng2 t u = some l → fRng2 f m1 m2 ρ = some (g l, fl) := by
  intro l hl
  obtain ⟨i, j, h1, h2, h3⟩ := op2_some' hl
  unfold tRng2 at h3
  split at h3
  · rename_i hk
    cases h3
    unfold fRng2
    rw [h i h1, Option.bind_some, h' j h2]
    show (if 0 ≤ i ∧ i ≤ 100000 ∧ 0 ≤ j ∧ j ≤ 100000 then some (f (rngD i (j - i).toNat)) else none) = _
    rw [if_pos hk, rng_e, hf]
  · cases h3
theorem x_rng2L {t u : Option Int} (h : X m1 ρ eI g1 t) (h' : X m2 ρ eI g2 u) : X (fRng2 (fun ds => (.lst ds, .fresh)) m1 m2) ρ (eL eI) .fresh (op2 tRng2 t u) := x_rng2 (g := eL eI) (fun _ => rfl) h h'
theorem x_rng2T {t u : Option Int} (h : X m1 ρ eI g1 t) (h' : X m2 ρ eI g2 u) : X (fRng2 (fun ds => (.tup ds, .pure)) m1 m2) ρ (eT eI) .pure (op2 tRng2 t u) := x_rng2 (g := eT eI) (fun _ => rfl) h h'
def dnT (i : Int) (n : Nat) : List Int := (List.range n).map fun k : Nat => i - (k : Int)
def tDnR (i j k : Int) : Option (List Int) := if k = -1 ∧ -1000000 ≤ i ∧ i ≤ 1000000 ∧ -1000000 ≤ j ∧ j ≤ 1000000 ∧ i - j ≤ 100000 then some (dnT i (i - j).toNat) else none
theorem x_dnL {t u v : Option Int} (h : X m1 ρ eI g1 t) (h' : X m2 ρ eI g2 u) (h'' : X m3 ρ eI g3 v) : X (mDn m1 m2 m3) ρ (eL eI) .fresh (op3 tDnR t u v) := by
  intro l hl
  obtain ⟨i, j, k, h1, h2, h3, h4⟩ := op3_some' hl
  unfold tDnR at h4
  split at h4
  · rename_i hk
    cases h4
    unfold mDn
    rw [h i h1, Option.bind_some, h' j h2, Option.bind_some, h'' k h3]
    show (if k = -1 ∧ -1000000 ≤ i ∧ i ≤ 1000000 ∧ -1000000 ≤ j ∧ j ≤ 1000000 ∧ i - j ≤ 100000 then some ((D.lst (dnD i j), Fl.fresh) : D × Fl) else none) = _
    rw [if_pos hk]
    unfold dnD dnT eL
    rw [List.map_map]; rfl
  · cases h4
def twoT (i : Int) (n : Nat) : List Int := (List.range n).map fun k : Nat => i + (k : Int) * 2
def tR3s (i j c : Int) : Option (List Int) := if c = 2 ∧ -1000000 ≤ i ∧ i ≤ 1000000 ∧ -1000000 ≤ j ∧ j ≤ 1000000 then some (twoT i ((j - i + 1) / 2).toNat) else none
theorem it_r3s {t u v : Option Int} (h : X m1 ρ eI g1 t) (h' : X m2 ρ eI g2 u) (h'' : X m3 ρ eI g3 v) : It (iR3s (aCons m1 (aCons m2 (aCons m3 aNil)))) ρ eI (op3 tR3s t u v) := by
  intro xs hx
  obtain ⟨i, j, c, h1, h2, h3, h4⟩ := op3_some' hx
  unfold tR3s at h4
  split at h4
  · rename_i hb
    cases h4
    unfold iR3s aCons aNil
    rw [h i h1, Option.bind_some, h' j h2, Option.bind_some, h'' c h3]
    show (if c = 2 ∧ -1000000 ≤ i ∧ i ≤ 1000000 ∧ -1000000 ≤ j ∧ j ≤ 1000000 then some ((List.range ((j - i + 1) / 2).toNat).map fun k : Nat => D.int (i + k * 2)) else none) = _
    rw [if_pos hb]
    unfold twoT
    rw [List.map_map]; rfl
  · cases h4
/-! ### bits -/
def tXor (a b : Int) : Option Int := some (Builtin.bitXor a b)
def tBand (a b : Int) : Option Int := some (Builtin.bitAnd a b)
def tBor (a b : Int) : Option Int := some (Builtin.bitOr a b)
def tShl (a b : Int) : Option Int := if 0 ≤ b ∧ b < 100 ∧ 0 ≤ a ∧ a < 100 then some (a * 2 ^ b.toNat) else none
theorem h_xor : ∀ a b c, tXor a b = some c → fXor (eI a, g1) (eI b, g2) = some (eI c, .pure) := by intro a b c h; cases h; rfl
theorem h_band : ∀ a b c, tBand a b = some c → fBand (eI a, g1) (eI b, g2) = some (eI c, .pure) := by intro a b c h; cases h; rfl
theorem h_bor : ∀ a b c, tBor a b = some c → fBor (eI a, g1) (eI b, g2) = some (eI c, .pure) := by intro a b c h; cases h; rfl
/-! ### statements -/
variable {P : Option Out → β → Prop}
theorem j_augDiv {i : Nat} {n : S} {x : Int} {t : Option Int} {k : Int → Option β} (hi : ρ[i]? = some (some (eI x, false))) (h : X m ρ eI fl t) (ρ1 : Int → E) (hn : ∀ a, Jg n (ρ1 a) P (k a)) (hρ : ∀ a, ρ.set i (some (eI a, false)) = ρ1 a := by intro; rfl) : Jg (sSeq (sAugO i augDiv m) n) ρ P ((op1 (tDiv x) t).bind k) := by
  intro b hb
  obtain ⟨y, h1, h2⟩ := bind_some' hb
  obtain ⟨a, h3, h4⟩ := bind_some' h1
  unfold tDiv at h4
  split at h4
  · rename_i hk
    cases h4
    have : sAugO i augDiv m ρ = some (.nx (ρ1 (x / a))) := by
      unfold sAugO; rw [hi]; show ((m ρ).bind _) = _; rw [h a h3, ← hρ]
      show (augDiv x a).map (fun c => Out.nx (ρ.set i (some (.int c, false)))) = _
      unfold augDiv
      rw [if_pos (show CDiv x a from hk)]; rfl
    rw [seq_of_nx this]
    exact hn _ b h2
  · cases h4
def tExt (xs ys : List α) : Option (List α) := if xs.length + ys.length ≤ 100000 then some (xs ++ ys) else none
theorem j_ext {e : En α} {k : Nat} {n : S} {xs : List α} {t : Option (List α)} {kk : List α → Option β} (hk : ρ[k]? = some (some (eL e xs, true))) (h : X m ρ (eL e) fl t) (ρ1 : List α → E) (hn : ∀ ys, Jg n (ρ1 ys) P (kk ys)) (hb : decide (fl ≠ .bor) = true := by rfl) (hρ : ∀ ys, ρ.set k (some (eL e ys, true)) = ρ1 ys := by intro; rfl) :
    Jg (sSeq (sExt k m) n) ρ P ((op1 (tExt xs) t).bind kk) := by
  intro b hb'
  obtain ⟨ys, h1, h2⟩ := bind_some' hb'
  obtain ⟨a, h3, h4⟩ := bind_some' h1
  unfold tExt at h4
  by_cases hl : xs.length + a.length ≤ 100000
  · rw [if_pos hl] at h4
    cases h4
    have : sExt k m ρ = some (.nx (ρ1 (xs ++ a))) := by
      unfold sExt
      rw [h a h3, Option.bind_some]
      show (if fl = .bor then none else match D.lst (a.map e), ρ[k]? with
        | .lst es, some (some (.lst ds, true)) => if ds.length + es.length ≤ lim then some (Out.nx (ρ.set k (some (.lst (ds ++ es), true)))) else none
        | _, _ => none) = _
      rw [if_neg (of_decide_eq_true hb), hk]
      show (if (xs.map e).length + (a.map e).length ≤ lim then some (Out.nx (ρ.set k (some (.lst (xs.map e ++ a.map e), true)))) else none) = _
      rw [map_len, map_len, if_pos (show xs.length + a.length ≤ lim from hl), ← hρ]
      show some (Out.nx (ρ.set k (some (.lst (xs.map e ++ a.map e), true)))) = some (Out.nx (ρ.set k (some (.lst ((xs ++ a).map e), true))))
      rw [List.map_append]
    rw [seq_of_nx this]
    exact hn _ b h2
  · rw [if_neg hl] at h4; cases h4
/-- xs[i] = xs[j] = v -/
theorem j_storeC {e : En α} {k : Nat} {mi mj : M} {n : S} {xs : List α} {t : Option α} {u u' : Option Int} {kk : List α → Option β} (hk : ρ[k]? = some (some (eL e xs, true))) (h1 : X m1 ρ e .pure t) (h3 : X mi ρ eI g2 u) (ρ1 : List α → E) (h4 : ∀ ys, X mj (ρ1 ys) eI g3 u') (hn : ∀ ys, Jg n (ρ1 ys) P (kk ys))
    (hρ : ∀ ys, ρ.set k (some (eL e ys, true)) = ρ1 ys := by intro; rfl) (hk1 : ∀ ys, (ρ1 ys)[k]? = some (some (eL e ys, true)) := by intro; rfl) (hρ2 : ∀ ys zs, (ρ1 ys).set k (some (eL e zs, true)) = ρ1 zs := by intro _ _; rfl) :
    Jg (sSeq (sAsg2 m1 (gIx k mi) (gIx k mj)) n) ρ P ((op3 (fun a i j => (tSet xs i a).bind fun ys => tSet ys j a) t u u').bind kk) := by
  intro b hb
  obtain ⟨zs, q1, q2⟩ := bind_some' hb
  obtain ⟨a, i, j, q5, q6, q7, q8⟩ := op3_some' q1
  obtain ⟨ys, q9, q10⟩ := bind_some' q8
  have : sAsg2 m1 (gIx k mi) (gIx k mj) ρ = some (.nx (ρ1 zs)) := by
    unfold sAsg2; rw [h1 a q5]
    show (if Fl.pure = .pure then (gIx k mi (e a) ρ).bind fun r1 => (gIx k mj (e a) r1).map Out.nx else none) = _
    rw [gIx_e hk (h3 i q6) q9, hρ ys, Option.bind_some, gIx_e (hk1 ys) (h4 ys j q7) q10, hρ2 ys zs]; rfl
  rw [seq_of_nx this]
  exact hn zs b q2
theorem j_parS {γ' : Type} {e1 : En α} {e2 : En γ'} {i j : Nat} {n : S} {t : Option α} {u : Option γ'} {k : α → γ' → Option β} (h : X m1 ρ e1 g1 t) (h' : X m2 ρ e2 g2 u) (ρ1 : α → γ' → E) (hn : ∀ a c, Jg n (ρ1 a c) P (k a c)) (hb1 : decide (g1 ≠ .bor) = true := by rfl) (hb2 : decide (g2 ≠ .bor) = true := by rfl) (hρ : ∀ a c, (ρ.set i (some (e1 a, false))).set j (some (e2 c, false)) = ρ1 a c := by intro _ _; rfl) : Jg (sSeq (sParS i j (aCons m1 (aCons m2 aNil))) n) ρ P (op2 k t u) := by
  intro b hb
  obtain ⟨a, c, h1, h2, h3⟩ := op2_some' hb
  have : sParS i j (aCons m1 (aCons m2 aNil)) ρ = some (.nx (ρ1 a c)) := by
    unfold sParS aCons aNil
    rw [h a h1, Option.bind_some, h' c h2, ← hρ a c]
    show (if g1 = .bor ∨ g2 = .bor then none else some (Out.nx ((ρ.set i (some (e1 a, false))).set j (some (e2 c, false))))) = _
    have n1 : g1 ≠ .bor := of_decide_eq_true hb1
    have n2 : g2 ≠ .bor := of_decide_eq_true hb2
    rw [if_neg (fun z => z.elim n1 n2)]
  rw [seq_of_nx this]
  exact hn a c b h3
end
end Ty

namespace Ty
open PySem L2 Dt
def tSort2 (a : List (List Int)) : Option (List (List Int)) := if sameLen a = true then some (srtL a) else none
theorem getTs_e : ∀ a : List (List Int), getTs (a.map (eT eI)) = some a
  | [] => rfl
  | x :: a => by
    show (getIs (x.map eI)).bind (fun ns => (getTs (a.map (eT eI))).map (ns :: ·)) = _
    rw [getIs_e, getTs_e a]; rfl
theorem h_sortL2 : ∀ a c, tSort2 a = some c → fSortedL [(eL (eT eI) a, g1)] = some (eL (eT eI) c, .fresh) := by
  intro a c h
  unfold tSort2 at h
  split at h
  · rename_i hs
    cases h
    show (getTs (a.map (eT eI))).bind (fun L => if sameLen L = true then some (D.lst ((srtL L).map fun ns => D.tup (ns.map .int)), Fl.fresh) else none) = _
    rw [getTs_e, Option.bind_some, if_pos hs]; rfl
  · cases h
theorem ok_sort2 {a : List (List Int)} {P : List (List Int) → Prop} (h0 : sameLen a = true) (h : P (srtL a)) : Ok (tSort2 a) P := ⟨_, if_pos h0, h⟩
end Ty
namespace Ty
open PySem L2 Dt
def tLenSet (a : List Int) : Option Int := if a.length ≤ 1000 then some ((ddI a).length : Int) else none
theorem x_lenSet {t : Option (List Int)} (h : X m ρ (eT eI) fl t) : X (mLenSet m) ρ eI .pure (op1 tLenSet t) := by
  intro c hc
  obtain ⟨a, h1, h2⟩ := bind_some' hc
  unfold tLenSet at h2
  split at h2
  · rename_i hl
    cases h2
    unfold mLenSet
    rw [h a h1, Option.bind_some]
    show (getIs (a.map eI)).bind (fun ns => if ns.length ≤ 1000 then some (D.int (ddI ns).length, Fl.pure) else none) = _
    rw [getIs_e, Option.bind_some, if_pos hl]; rfl
  · cases h2
theorem ok_lenSet {a : List Int} {P : Int → Prop} (h0 : a.length ≤ 1000) (h : P (ddI a).length) : Ok (tLenSet a) P := ⟨_, if_pos h0, h⟩
end Ty

set_option maxRecDepth 100000
namespace Ty
open PySem PySem.Spec PyProof.Rows L2 Dt
section
variable {g1 g2 : Fl}
def tSum (xs : List Int) : Option Int := some xs.sum
@[simp] theorem tSum_def {xs : List Int} : tSum xs = some xs.sum := rfl
theorem h_sumL : ∀ a c, tSum a = some c → fSum [(eL eI a, g1)] = some (eI c, .pure) := by
  intro a c h; cases h
  show (getIs (a.map D.int)).map _ = _
  rw [getIs_int]; rfl
theorem h_sumT : ∀ a c, tSum a = some c → fSum [(eT eI a, g1)] = some (eI c, .pure) := by
  intro a c h; cases h
  show (getIs (a.map D.int)).map _ = _
  rw [getIs_int]; rfl
def tDivmod (i j : Int) : Option (Int × Int) := if CDiv i j then some (i / j, i % j) else none
theorem h_divmod : ∀ a b c, tDivmod a b = some c → fDivmod [(eI a, g1), (eI b, g2)] = some (eZ eI eI c, .pure) := by
  intro a b c h
  unfold tDivmod at h
  split at h
  · rename_i hk; cases h
    show (if CDiv a b then some ((D.tmp [.int (a / b), .int (a % b)], Fl.pure) : D × Fl) else none) = _
    rw [if_pos hk]; rfl
  · cases h
theorem h_shl : ∀ a b c, tShl a b = some c → fShl (eI a, g1) (eI b, g2) = some (eI c, .pure) := by
  intro a b c h
  unfold tShl at h
  split at h
  · rename_i hk; cases h
    have : CPow a b := by unfold CPow; omega
    show (if CPow a b then some (D.int (a * 2 ^ b.toNat)) else none).map _ = _
    rw [if_pos this]; rfl
  · cases h
end
end Ty

set_option maxRecDepth 100000
set_option maxHeartbeats 4000000
namespace Ty
open PySem PySem.Spec PyProof.Rows L2 Dt
section
variable {α β γ δ : Type} {ρ : E} {m n : M} {g1 g2 fl : Fl}
/-! ### a network == anything -/
theorem as_any {e : En α} : ∀ (a : α) b, (fun a : α => some (e a)) a = some b → e a = eA b := by intro a b h; cases h; rfl
theorem x_nonA : X (mC .non) ρ eA .pure (some D.non) := by intro x hx; cases hx; rfl
def tNetB (F : Net → Net → Option Bool) (a b : Net) : Option Bool := F a b
theorem h_netB {F : FD} {tF : Net → Net → Option Bool} (hF : ∀ a b r, tF a b = some r → F [eN a, eN b] = some (eB r, false)) : ∀ a b c, tNetB tF a b = some c → fNetB F (eN a, g1) (eN b, g2) = some (eB c, .pure) := by
  intro a b c h
  unfold fNetB
  show (match F [eN a, eN b] with | some (.bl r, false) => some ((.bl r, .pure) : D × Fl) | _ => none) = _
  rw [hF a b c h]; rfl
def tNetA (a : Net) (d : D) : Option Bool := if isNetD d then none else if (tyName d).isSome then some false else none
theorem h_netA {F : FD} (hF : ∀ a d, isNetD d = false → (tyName d).isSome = true → F [eN a, d] = some (.bl false, false)) : ∀ a d c, tNetA a d = some c → fNetB F (eN a, g1) (eA d, g2) = some (eB c, .pure) := by
  intro a d c h
  unfold tNetA at h
  split at h
  · cases h
  · rename_i h1
    split at h
    · rename_i h2
      cases h
      unfold fNetB
      have e : (isNetD (eN a, g1).1 && (isNetD (eA d, g2).1 || (tyName (eA d, g2).1).isSome)) = true := by
        show (true && (isNetD d || (tyName d).isSome)) = true
        rw [h2]; simp
      rw [if_pos e]
      show (match F [eN a, d] with | some (.bl r, false) => some ((.bl r, .pure) : D × Fl) | _ => none) = _
      rw [hF a d (by simpa using h1) h2]; rfl
    · cases h
theorem x_isNetB {t : Option Net} (h : X m ρ eN fl t) : X (mIsNetB m) ρ eB .pure (t.map fun _ => true) := by
  intro a ha
  cases t with
  | none => cases ha
  | some x =>
    cases ha
    unfold mIsNetB
    rw [h x rfl]; rfl
end
end Ty

set_option maxRecDepth 100000
set_option maxHeartbeats 4000000
namespace Ty
open PySem PySem.Spec PyProof.Rows L2 Dt
section
variable {α β γ δ τ : Type} {ρ : E} {κ : Ce} {m m1 m2 : M} {g1 g2 fl : Fl} {n i : Nat} {c : En τ} {b : Dt.B}
/-! ### texts -/
def tCatS (a b : Str) : Option Str := if a.length + b.length ≤ 1000000 then some (a ++ b) else none
theorem h_catS : ∀ a b c, tCatS a b = some c → fCatS (eS a, g1) (eS b, g2) = some (eS c, .pure) := by
  intro a b c h
  unfold tCatS at h
  split at h
  · rename_i hl
    cases h
    show (if a.length + b.length ≤ 1000000 then some ((.str (a ++ b), .pure) : D × Fl) else none) = _
    rw [if_pos hl]; rfl
  · cases h
def tStrI (i : Int) : Option Str := if smallS i then some (toString i : String) else none
theorem h_strI : ∀ a c, tStrI a = some c → fStrI [(eI a, g1)] = some (eS c, .pure) := by
  intro a c h
  unfold tStrI at h
  split at h
  · rename_i hl
    cases h
    show (if smallS a = true then some ((.str (toString a : String), .pure) : D × Fl) else none) = _
    rw [if_pos hl]; rfl
  · cases h
theorem x_fmt {t : Option Int} (h : X m ρ eI fl t) : X (mFmt m) ρ eS .pure (op1 tStrI t) := by
  intro y hy
  obtain ⟨a, h1, h2⟩ := bind_some' hy
  unfold mFmt
  rw [h a h1]
  exact h_strI (g1 := fl) a y h2
inductive XJ : List M → E → List (Option Str) → Prop where
  | nil {ρ : E} : XJ [] ρ []
  | cons {m : M} {ρ : E} {fl : Fl} {t : Option Str} {ms : List M} {ts : List (Option Str)} (h : X m ρ eS fl t) (r : XJ ms ρ ts) : XJ (m :: ms) ρ (t :: ts)
def jsT : List (Option Str) → Str → Option Str
  | [], acc => some acc
  | t :: ts, acc => t.bind fun y => if (acc ++ y).length ≤ 1000000 then jsT ts (acc ++ y) else none
theorem xj_go {ms : List M} {ts : List (Option Str)} (h : XJ ms ρ ts) : ∀ acc out, jsT ts acc = some out → jsGo ms acc ρ = some out := by
  induction h with
  | nil => intro acc out h; exact h
  | @cons m ρ fl t ms ts h r ih =>
    intro acc out ho
    obtain ⟨y, h1, h2⟩ := bind_some' ho
    split at h2
    · rename_i hl
      unfold jsGo
      rw [h y h1]
      show (if (acc ++ y).length ≤ 1000000 then jsGo ms (acc ++ y) ρ else none) = _
      rw [if_pos hl]
      exact ih _ _ h2
    · cases h2
theorem x_js {ms : List M} {ts : List (Option Str)} (h : XJ ms ρ ts) : X (mJs ms) ρ eS .pure (jsT ts Str.empty) := by
  intro y hy
  unfold mJs
  rw [xj_go h _ _ hy]; rfl
def tJoin (a : Str) (ys : List Str) : Option Str := if (ys.map (·.length)).sum + ys.length * a.length ≤ 1000000 then some (Txt.join a ys) else none
theorem strsD_e : ∀ ys : List Str, strsD (ys.map eS) = some ys
  | [] => rfl
  | y :: ys => by
    show (strsD (ys.map eS)).map (fun zs => y :: zs) = _
    rw [strsD_e ys]; rfl
theorem x_join {t : Option Str} {u : Option (List Str)} (h : X m1 ρ eS g1 t) (h2 : X m2 ρ (eL eS) g2 u) : X (mJoin m1 m2) ρ eS .pure (op2 tJoin t u) := by
  intro y hy
  obtain ⟨a, ys, h3, h4, h5⟩ := op2_some' hy
  unfold mJoin
  rw [h a h3, Option.bind_some, h2 ys h4, Option.bind_some]
  show ((strsD (ys.map eS)).bind fun ys => if (ys.map (·.length)).sum + ys.length * a.length ≤ 1000000 then some ((.str (Txt.join a ys), .pure) : D × Fl) else none) = _
  rw [strsD_e, Option.bind_some]
  unfold tJoin at h5
  split at h5
  · rename_i hl
    rw [if_pos hl]; cases h5; rfl
  · cases h5
/-! ### one numbered list -/
def bnd2 (t : Option (α × β)) (k : α → β → Option γ) : Option γ := t.bind fun p => k p.1 p.2
def opG (G : α → β → Option γ) (t : Option (α × τ)) (u : τ → Option (β × τ)) : Option (γ × τ) := bnd2 t fun a ys => bnd2 (u ys) fun b zs => (G a b).map fun r => (r, zs)
theorem ok_bnd2 {t : Option (α × β)} {k : α → β → Option γ} {P : γ → Prop} (h : Ok t fun p => Ok (k p.1 p.2) P) : Ok (bnd2 t k) P := ok_bind h
theorem ce_self {l : List D} (h : κ[n]? = some l) : κ.set n l = κ := by
  obtain ⟨hl, rfl⟩ := List.getElem?_eq_some_iff.mp h
  exact List.set_getElem_self hl
theorem ce_get {l l0 : List D} (h : κ[n]? = some l0) : (κ.set n l)[n]? = some l := by
  obtain ⟨hl, _⟩ := List.getElem?_eq_some_iff.mp h
  rw [List.getElem?_set_self hl]
def Xg (n : Nat) (c : En τ) (m : MG) (ρ : E) (e : En α) (fl : Fl) (xs : List τ) (t : Option (α × List τ)) : Prop := ∀ κ, κ[n]? = some (xs.map c) → ∀ a ys, t = some (a, ys) → m ρ κ = some ((e a, fl), κ.set n (ys.map c))
def Tp (n : Nat) (c : En τ) (b : BG) (ρ : E) (xs : List τ) (t : Option Bool) : Prop := ∀ κ, κ[n]? = some (xs.map c) → ∀ k, t = some k → b ρ κ = some (k, κ)
variable {e : En α} {e1 : En α} {e2 : En β} {e3 : En γ} {er : En γ} {xs ys : List τ} {fr : Bool}
theorem xg_L {t : Option α} (h : X m ρ e fl t) : Xg n c (gL m) ρ e fl xs (t.map fun a => (a, xs)) := by
  intro κ hκ a ys hy
  cases t with
  | none => cases hy
  | some x =>
    cases hy
    unfold gL
    rw [h a rfl, ce_self hκ]; rfl
theorem tp_L {t : Option Bool} (h : T b ρ t) : Tp n c (bL b) ρ xs t := by
  intro κ hκ k hk
  unfold bL; rw [h k hk]; rfl
theorem tp_O {t : Option Bool} (hi : ρ[i]? = some (some (.hol n, false))) (h : T b (ρ.set i (some (eL c xs, true))) t) : Tp n c (bO [i] b) ρ xs t := by
  intro κ hκ k hk
  have e : opn [i] [] ρ κ = some (ρ.set i (some (eL c xs, true))) := by
    unfold opn opn1
    rw [hi]
    simp only [hκ, List.not_mem_nil, if_false, Option.map_some, Option.bind_some]
    rfl
  unfold bO
  rw [e, Option.bind_some, h k hk]; rfl
theorem gL_cell (hi : ρ[i]? = some (some (.hol n, false))) : gL (mVar i) ρ κ = some ((.hol n, .pure), κ) := by
  unfold gL mVar; rw [hi]; rfl
theorem xg_callCA {F : FG} {tF : List τ → α → Option (γ × List τ)} {t : Option α} (hF : ∀ xs a r, tF xs a = some r → ∀ n κ, κ[n]? = some (xs.map c) → F [.hol n, e1 a] κ = some (er r.1, fr, κ.set n (r.2.map c)))
    (hi : ρ[i]? = some (some (.hol n, false))) (h : X m ρ e1 g1 t) (hb : g1 ≠ .bor := by decide) : Xg n c (gCall F (agCons (gL (mVar i)) (agCons (gL m) agNil))) ρ er (if fr then .fresh else .pure) xs (t.bind fun a => tF xs a) := by
  intro κ hκ a ys hy
  obtain ⟨x, h1, h2⟩ := bind_some' hy
  have eA : agCons (gL (mVar i)) (agCons (gL m) agNil) ρ κ = some ([.hol n, e1 x], κ) := by
    unfold agCons
    rw [gL_cell hi]
    simp only [Option.bind_some, gL, h x h1, Option.map_some, agNil, if_neg hb]
    rfl
  unfold gCall
  rw [eA, Option.bind_some, hF xs x _ h2 n κ hκ]; rfl
theorem xg_callAC {F : FG} {tF : α → List τ → Option (γ × List τ)} {t : Option α} (hF : ∀ a xs r, tF a xs = some r → ∀ n κ, κ[n]? = some (xs.map c) → F [e1 a, .hol n] κ = some (er r.1, fr, κ.set n (r.2.map c)))
    (hi : ρ[i]? = some (some (.hol n, false))) (h : X m ρ e1 g1 t) (hb : g1 ≠ .bor := by decide) : Xg n c (gCall F (agCons (gL m) (agCons (gL (mVar i)) agNil))) ρ er (if fr then .fresh else .pure) xs (t.bind fun a => tF a xs) := by
  intro κ hκ a ys hy
  obtain ⟨x, h1, h2⟩ := bind_some' hy
  have eA : agCons (gL m) (agCons (gL (mVar i)) agNil) ρ κ = some ([e1 x, .hol n], κ) := by
    unfold agCons
    simp only [gL, h x h1, Option.map_some, Option.bind_some, if_neg hb]
    show ((gL (mVar i) ρ κ).bind _).map _ = _
    rw [gL_cell hi]; rfl
  unfold gCall
  rw [eA, Option.bind_some, hF x xs _ h2 n κ hκ]; rfl
theorem xg_callC {F : FG} {tF : List τ → Option (γ × List τ)} (hF : ∀ xs r, tF xs = some r → ∀ n κ, κ[n]? = some (xs.map c) → F [.hol n] κ = some (er r.1, fr, κ.set n (r.2.map c)))
    (hi : ρ[i]? = some (some (.hol n, false))) : Xg n c (gCall F (agCons (gL (mVar i)) agNil)) ρ er (if fr then .fresh else .pure) xs (tF xs) := by
  intro κ hκ a ys hy
  have eA : agCons (gL (mVar i)) agNil ρ κ = some ([.hol n], κ) := by
    unfold agCons
    rw [gL_cell hi]; rfl
  unfold gCall
  rw [eA, Option.bind_some, hF xs _ hy n κ hκ]; rfl
def popT (xs : List τ) : Option (τ × List τ) := (xs[xs.length - 1]?).map fun a => (a, xs.dropLast)
theorem xg_pop (hi : ρ[i]? = some (some (.hol n, false))) : Xg n c (gMt fPop (gL (mVar i)) agNil) ρ c .pure xs (popT xs) := by
  intro κ hκ a ys hy
  unfold popT at hy
  cases ex : xs[xs.length - 1]? with
  | none => rw [ex] at hy; cases hy
  | some x =>
    rw [ex] at hy
    cases hy
    unfold gMt
    rw [gL_cell hi]
    have e : (xs.map c)[(xs.map c).length - 1]? = some (c a) := by rw [List.length_map, List.getElem?_map, ex]; rfl
    simp only [Option.bind_some, agNil, hκ, fPop, e, Option.map_some]
    rw [List.map_dropLast]
theorem xg_int {ma : MG} {t : Option (Int × List τ)} (h : Xg n c ma ρ eI .pure xs t) : Xg n c (gFn fInt1 (agCons ma agNil)) ρ eI .pure xs t := by
  intro κ hκ a ys hy
  have eA : agCons ma agNil ρ κ = some ([eI a], κ.set n (ys.map c)) := by
    unfold agCons
    rw [h κ hκ a ys hy]; rfl
  unfold gFn
  rw [eA]; rfl
theorem xg_op {f : F2} {G : α → β → Option γ} {ma mb : MG} {t : Option (α × List τ)} {u : List τ → Option (β × List τ)} (hf : ∀ a b d, G a b = some d → f (e1 a, .pure) (e2 b, g2) = some (e3 d, fl))
    (h1 : Xg n c ma ρ e1 .pure xs t) (h2 : ∀ ys, Xg n c mb ρ e2 g2 ys (u ys)) : Xg n c (gOp f ma mb) ρ e3 fl xs (opG G t u) := by
  intro κ hκ d zs hy
  obtain ⟨⟨a, ys⟩, q1, hy⟩ := bind_some' hy
  obtain ⟨⟨b, ws⟩, q2, hy⟩ := bind_some' hy
  replace hy : (G a b).map (fun r => (r, ws)) = some (d, zs) := hy
  cases eG : G a b with
  | none => rw [eG] at hy; cases hy
  | some r =>
    rw [eG] at hy
    cases hy
    unfold gOp
    rw [h1 κ hκ a ys q1]
    simp only [Option.bind_some, if_true]
    rw [h2 ys _ (ce_get hκ) b zs q2]
    simp only [Option.bind_some, hf a b d eG, Option.map_some, List.set_set]
theorem h_gadd : ∀ a b c, tAdd a b = some c → (fI fun i j => some (.int (i + j))) (eI a, g1) (eI b, g2) = some (eI c, .pure) := by intro a b c h; cases h; rfl
def lcTg (te : α → List τ → Option (β × List τ)) : List α → List τ → Option (List β × List τ)
  | [], xs => some ([], xs)
  | d :: ds, xs => (te d xs).bind fun p => (lcTg te ds p.2).map fun q => (p.1 :: q.1, q.2)
def lcTg' (te : α → List τ → Option (β × List τ)) (xs : List τ) (ds : List α) : Option (List β × List τ) := if ds.length ≤ 100000 then lcTg te ds xs else none
theorem lcg_go {g : D → E → Option E} {me : MG} {te : α → List τ → Option (β × List τ)} (ρ1 : α → E) (hg : ∀ x, g (e x) ρ = some (ρ1 x)) (he : ∀ x ys, Xg n c me (ρ1 x) e2 fl ys (te x ys)) (hb : fl ≠ .bor) :
    ∀ (ds : List α) (xs : List τ) (κ : Ce) (r : List β) (ys : List τ), κ[n]? = some (xs.map c) → lcTg te ds xs = some (r, ys) → lcGoG g me (ds.map e) ρ κ = some (r.map e2, κ.set n (ys.map c))
  | [], xs, κ, r, ys, hκ, h => by cases h; rw [ce_self hκ]; rfl
  | d :: ds, xs, κ, r, ys, hκ, h => by
    obtain ⟨⟨a, zs⟩, q1, h⟩ := bind_some' h
    cases e4 : lcTg te ds zs with
    | none => rw [show lcTg te ds (a, zs).2 = none from e4] at h; cases h
    | some p =>
      rw [show lcTg te ds (a, zs).2 = some p from e4] at h
      cases h
      show lcGoG g me (e d :: ds.map e) ρ κ = _
      unfold lcGoG
      rw [hg d, Option.bind_some, he d xs κ hκ a zs q1, Option.bind_some, if_neg hb, lcg_go ρ1 hg he hb ds zs _ p.1 p.2 (ce_get hκ) e4, List.set_set]; rfl
theorem xg_lc {mi : I} {g : D → E → Option E} {me : MG} {vs : List Nat} {ti : Option (List α)} {te : α → List τ → Option (β × List τ)} (hi : It mi ρ e ti) (ρ1 : α → E) (he : ∀ x ys, Xg n c me (ρ1 x) e2 fl ys (te x ys)) (hg : ∀ x, g (e x) (wipeE ρ vs) = some (ρ1 x) := by intro _; rfl)
    (hb : fl ≠ .bor := by decide) (hno : noOwn ρ = true := by rfl) : Xg n c (gLc mi g me vs) ρ (eL e2) .fresh xs (ti.bind (lcTg' te xs)) := by
  intro κ hκ r ys hy
  obtain ⟨ds, h1, h2⟩ := bind_some' hy
  unfold lcTg' at h2
  split at h2
  · rename_i hl
    unfold gLc
    rw [hi ds h1, Option.bind_some, if_pos ⟨by rw [List.length_map]; exact hl, hno⟩, lcg_go ρ1 hg he hb ds xs κ r ys hκ h2]; rfl
  · cases h2
/-! statements -/
def Jh (n : Nat) (c : En τ) (m : SG) (ρ : E) (xs : List τ) (er : En γ) (fr : Bool) (t : Option (γ × List τ)) : Prop :=
  ∀ κ, κ[n]? = some (xs.map c) → ∀ a ys, t = some (a, ys) → ∃ fl, decide (fl ≠ .pure) = fr ∧ m ρ κ = some (.rt (er a) fl (κ.set n (ys.map c)))
variable {rest A1 A2 : SG}
theorem jh_ret {ma : MG} {t : Option (γ × List τ)} (h : Xg n c ma ρ er fl xs t) : Jh n c (hRet ma) ρ xs er (decide (fl ≠ .pure)) t := by
  intro κ hκ a ys hy
  refine ⟨fl, rfl, ?_⟩
  unfold hRet; rw [h κ hκ a ys hy]; rfl
theorem jh_retS {ma : MG} {t : Option (γ × List τ)} (h : Xg n c ma ρ er fl xs t) : Jh n c (hSeq (hRet ma) rest) ρ xs er (decide (fl ≠ .pure)) t := by
  intro κ hκ a ys hy
  refine ⟨fl, rfl, ?_⟩
  unfold hSeq hRet; rw [h κ hκ a ys hy]; rfl
theorem jh_set {ma : MG} {t : Option (α × List τ)} {k : α → List τ → Option (γ × List τ)} (h : Xg n c ma ρ e .pure xs t) (ρ1 : α → E) (hn : ∀ a ys, Jh n c rest (ρ1 a) ys er fr (k a ys)) (hρ : ∀ a, ρ.set i (some (e a, false)) = ρ1 a := by intro; rfl) :
    Jh n c (hSeq (hSet i ma) rest) ρ xs er fr (bnd2 t k) := by
  intro κ hκ r zs hy
  obtain ⟨⟨a, ys⟩, q1, q2⟩ := bind_some' hy
  obtain ⟨fl, q3, q4⟩ := hn a ys _ (ce_get hκ) r zs q2
  refine ⟨fl, q3, ?_⟩
  rw [List.set_set] at q4
  unfold hSeq hSet
  rw [h κ hκ a ys q1]
  simp only [Option.bind_some, hρ]
  exact q4
theorem jh_setA {ma : MG} {t : Option (α × List τ)} {k : α → List τ → Option (γ × List τ)} (h : Xg n c ma ρ e .pure xs t) (ρ1 : α → E) (hn : ∀ a ys, Jh n c rest (ρ1 a) ys er fr (k a ys)) (hρ : ∀ a, frz1 i (ρ.set i (some (e a, false))) = ρ1 a := by intro; rfl) :
    Jh n c (hSeq (hFzA i (hSet i ma)) rest) ρ xs er fr (bnd2 t k) := by
  intro κ hκ r zs hy
  obtain ⟨⟨a, ys⟩, q1, q2⟩ := bind_some' hy
  obtain ⟨fl, q3, q4⟩ := hn a ys _ (ce_get hκ) r zs q2
  refine ⟨fl, q3, ?_⟩
  rw [List.set_set] at q4
  unfold hSeq hFzA hSet
  rw [h κ hκ a ys q1]
  simp only [Option.bind_some, Option.map_some, hρ]
  exact q4
theorem jh_setOA {ma : MG} {t : Option (α × List τ)} {k : α → List τ → Option (γ × List τ)} (h : Xg n c ma ρ e .fresh xs t) (ρ1 : α → E) (hn : ∀ a ys, Jh n c rest (ρ1 a) ys er fr (k a ys)) (hρ : ∀ a, frz1 i (ρ.set i (some (e a, true))) = ρ1 a := by intro; rfl) :
    Jh n c (hSeq (hFzA i (hSet i ma)) rest) ρ xs er fr (bnd2 t k) := by
  intro κ hκ r zs hy
  obtain ⟨⟨a, ys⟩, q1, q2⟩ := bind_some' hy
  obtain ⟨fl, q3, q4⟩ := hn a ys _ (ce_get hκ) r zs q2
  refine ⟨fl, q3, ?_⟩
  rw [List.set_set] at q4
  unfold hSeq hFzA hSet
  rw [h κ hκ a ys q1]
  simp only [Option.bind_some, Option.map_some, hρ]
  exact q4
theorem jh_setL {t : Option α} {k : α → Option (γ × List τ)} (h : X m ρ e .pure t) (ρ1 : α → E) (hn : ∀ a, Jh n c rest (ρ1 a) xs er fr (k a)) (hρ : ∀ a, ρ.set i (some (e a, false)) = ρ1 a := by intro; rfl) :
    Jh n c (hSeq (hL (sSet i m)) rest) ρ xs er fr (t.bind k) := by
  intro κ hκ r zs hy
  obtain ⟨a, q1, q2⟩ := bind_some' hy
  obtain ⟨fl, q3, q4⟩ := hn a κ hκ r zs q2
  refine ⟨fl, q3, ?_⟩
  have : sSet i m ρ = some (.nx (ρ1 a)) := by unfold sSet; rw [h a q1, ← hρ a]; rfl
  unfold hSeq hL
  rw [this]; exact q4
theorem jh_setLA {t : Option α} {k : α → Option (γ × List τ)} (h : X m ρ e .pure t) (ρ1 : α → E) (hn : ∀ a, Jh n c rest (ρ1 a) xs er fr (k a)) (hρ : ∀ a, frz1 i (ρ.set i (some (e a, false))) = ρ1 a := by intro; rfl) :
    Jh n c (hSeq (hL (sFzA i (sSet i m))) rest) ρ xs er fr (t.bind k) := by
  intro κ hκ r zs hy
  obtain ⟨a, q1, q2⟩ := bind_some' hy
  obtain ⟨fl, q3, q4⟩ := hn a κ hκ r zs q2
  refine ⟨fl, q3, ?_⟩
  have : sFzA i (sSet i m) ρ = some (.nx (ρ1 a)) := by unfold sFzA sSet; rw [h a q1, ← hρ a]; rfl
  unfold hSeq hL
  rw [this]; exact q4
theorem jh_setLOA {t : Option α} {k : α → Option (γ × List τ)} (h : X m ρ e .fresh t) (ρ1 : α → E) (hn : ∀ a, Jh n c rest (ρ1 a) xs er fr (k a)) (hρ : ∀ a, frz1 i (ρ.set i (some (e a, true))) = ρ1 a := by intro; rfl) :
    Jh n c (hSeq (hL (sFzA i (sSet i m))) rest) ρ xs er fr (t.bind k) := by
  intro κ hκ r zs hy
  obtain ⟨a, q1, q2⟩ := bind_some' hy
  obtain ⟨fl, q3, q4⟩ := hn a κ hκ r zs q2
  refine ⟨fl, q3, ?_⟩
  have : sFzA i (sSet i m) ρ = some (.nx (ρ1 a)) := by unfold sFzA sSet; rw [h a q1, ← hρ a]; rfl
  unfold hSeq hL
  rw [this]; exact q4
theorem jh_ifL {s1 s2 : S} {t : Option Bool} {u v : Option (γ × List τ)} (h : T b ρ t) (h1 : Jh n c (hSeq (hL s1) rest) ρ xs er fr u) (h2 : Jh n c (hSeq (hL s2) rest) ρ xs er fr v) : Jh n c (hSeq (hL (sIf b s1 s2)) rest) ρ xs er fr (oIf t u v) := by
  intro κ hκ r zs hy
  obtain ⟨k, h3, h4⟩ := bind_some' hy
  have : sIf b s1 s2 ρ = if k then s1 ρ else s2 ρ := by unfold sIf; rw [h k h3]; rfl
  cases k with
  | true =>
    obtain ⟨fl, q3, q4⟩ := h1 κ hκ r zs h4
    refine ⟨fl, q3, ?_⟩
    rw [← q4]; unfold hSeq hL; rw [this]; rfl
  | false =>
    obtain ⟨fl, q3, q4⟩ := h2 κ hκ r zs h4
    refine ⟨fl, q3, ?_⟩
    rw [← q4]; unfold hSeq hL; rw [this]; rfl
theorem jh_nilL {t : Option (γ × List τ)} (h : Jh n c rest ρ xs er fr t) : Jh n c (hSeq (hL sNil) rest) ρ xs er fr t := h
theorem jh_nilS {t : Option (γ × List τ)} (h : Jh n c rest ρ xs er fr t) : Jh n c (hSeq hNil rest) ρ xs er fr t := h
theorem jh_if {bb : BG} {t : Option Bool} {u v : Option (γ × List τ)} (h : Tp n c bb ρ xs t) (h1 : Jh n c A1 ρ xs er fr u) (h2 : Jh n c A2 ρ xs er fr v) : Jh n c (hIf bb A1 A2) ρ xs er fr (oIf t u v) := by
  intro κ hκ r zs hy
  obtain ⟨k, h3, h4⟩ := bind_some' hy
  have : hIf bb A1 A2 ρ κ = if k then A1 ρ κ else A2 ρ κ := by unfold hIf; rw [h κ hκ k h3]; rfl
  rw [this]
  cases k with
  | true => exact h1 κ hκ r zs h4
  | false => exact h2 κ hκ r zs h4
theorem jh_ifS {bb : BG} {t : Option Bool} {u v : Option (γ × List τ)} (h : Tp n c bb ρ xs t) (h1 : Jh n c (hSeq A1 rest) ρ xs er fr u) (h2 : Jh n c (hSeq A2 rest) ρ xs er fr v) : Jh n c (hSeq (hIf bb A1 A2) rest) ρ xs er fr (oIf t u v) := by
  intro κ hκ r zs hy
  obtain ⟨k, h3, h4⟩ := bind_some' hy
  have : hSeq (hIf bb A1 A2) rest ρ κ = if k then hSeq A1 rest ρ κ else hSeq A2 rest ρ κ := by unfold hSeq hIf; rw [h κ hκ k h3]; cases k <;> rfl
  rw [this]
  cases k with
  | true => exact h1 κ hκ r zs h4
  | false => exact h2 κ hκ r zs h4
theorem hseq_assoc (a b' d : SG) : hSeq (hSeq a b') d = hSeq a (hSeq b' d) := by
  funext ρ κ
  unfold hSeq
  cases a ρ κ with
  | none => rfl
  | some o => cases o <;> rfl
theorem jh_assoc {B1 : SG} {t : Option (γ × List τ)} (h : Jh n c (hSeq A1 (hSeq A2 B1)) ρ xs er fr t) : Jh n c (hSeq (hSeq A1 A2) B1) ρ xs er fr t := by rw [hseq_assoc]; exact h
/-- a def with the numbered list among its parameters -/
theorem r_fung {bd : SG} {k : Nat} {ds : List D} {t : Option (γ × List τ)} (h : Jh n c bd (ds.map (fun d => some (d, false)) ++ List.replicate (k - ds.length) none) xs er fr t) : ∀ r, t = some r → ∀ κ, κ[n]? = some (xs.map c) → runG k bd ds κ = some (er r.1, fr, κ.set n (r.2.map c)) := by
  intro r hr κ hκ
  obtain ⟨fl, h1, h2⟩ := h κ hκ r.1 r.2 hr
  unfold runG
  rw [h2, ← h1]
/-- the law, that makes it -/
def J0 (m : SG) (ρ : E) (er : En γ) (fr : Bool) (t : Option γ) : Prop := ∀ a, t = some a → ∃ fl κ', decide (fl ≠ .pure) = fr ∧ m ρ [] = some (.rt (er a) fl κ')
theorem j0_new {t : Option (List τ)} {k : List τ → Option (γ × List τ)} (h : X m ρ (eL c) .fresh t) (ρ1 : E) (hn : ∀ xs, Jh 0 c rest ρ1 xs er fr (k xs)) (hρ : ρ.set i (some (.hol 0, false)) = ρ1 := by rfl) :
    J0 (hSeq (hSet i (gNew (gL m))) rest) ρ er fr (t.bind fun xs => (k xs).map Prod.fst) := by
  intro a ha
  obtain ⟨xs, q1, q2⟩ := bind_some' ha
  cases ek : k xs with
  | none => rw [ek] at q2; cases q2
  | some p =>
    rw [ek] at q2
    cases q2
    obtain ⟨fl, q3, q4⟩ := hn xs [xs.map c] rfl p.1 p.2 ek
    refine ⟨fl, [xs.map c].set 0 (p.2.map c), q3, ?_⟩
    have : hSet i (gNew (gL m)) ρ [] = some (.nx ρ1 [xs.map c]) := by
      unfold hSet gNew gL
      rw [h xs q1]
      show some (GOut.nx (ρ.set i (some (.hol 0, false))) [xs.map c]) = _
      rw [hρ]
    unfold hSeq
    rw [this]; exact q4
theorem r_law {bd : SG} {k : Nat} {ds : List D} {t : Option Bool} (h : J0 bd (ds.map (fun d => some (d, false)) ++ List.replicate (k - ds.length) none) eB false t) (hd : noHs ds = true) : ∀ r, t = some r → plG (runG k bd) ds = some (eB r, false) := by
  intro r hr
  obtain ⟨fl, κ', h1, h2⟩ := h r hr
  unfold plG
  rw [if_pos hd]
  have : runG k bd ds [] = some (eB r, false, κ') := by unfold runG; rw [h2, ← h1]
  rw [this]; rfl
end
end Ty

set_option maxRecDepth 100000
set_option maxHeartbeats 4000000
namespace Ty
open PySem PySem.Spec PyProof.Rows L2 Dt
/-! ### statements that leave the numbered lists alone, read by the old layer -/
def Sim (m : SG) (s : S) : Prop := ∀ ρ κ o, s ρ = some o → match o with | .nx ρ' => m ρ κ = some (.nx ρ' κ) | .rt d fr => ∃ fl, decide (fl ≠ .pure) = fr ∧ m ρ κ = some (.rt d fl κ)
def NoRt (s : S) : Prop := ∀ ρ o, s ρ = some o → ∃ ρ', o = .nx ρ'
section
variable {α β γ σ J τ : Type} {ρ : E} {κ : Ce} {m : M} {m1 m2 : SG} {s1 s2 : S} {b : Dt.B} {n i : Nat} {c : En τ} {er : En γ} {fr : Bool} {xs : List τ} {rest : SG} {fl : Fl}
theorem nort_set : NoRt (sSet i m) := by
  intro ρ o h
  unfold sSet at h
  obtain ⟨r, _, h⟩ := bind_some' h
  split at h <;> cases h <;> exact ⟨_, rfl⟩
theorem nort_frz (h : NoRt s1) : NoRt (sFrz i s1) := fun ρ o e => h _ o e
theorem nort_fza (h : NoRt s1) : NoRt (sFzA i s1) := by
  intro ρ o e
  unfold sFzA at e
  cases es : s1 ρ with
  | none => rw [es] at e; cases e
  | some o1 =>
    rw [es] at e
    obtain ⟨ρ', rfl⟩ := h ρ o1 es
    cases e; exact ⟨_, rfl⟩
theorem nort_nil : NoRt sNil := fun ρ o e => by cases e; exact ⟨_, rfl⟩
theorem nort_seq (h1 : NoRt s1) (h2 : NoRt s2) : NoRt (sSeq s1 s2) := by
  intro ρ o e
  obtain ⟨o1, e1, e⟩ := bind_some' e
  obtain ⟨ρ', rfl⟩ := h1 ρ o1 e1
  exact h2 ρ' o e
theorem nort_if (h1 : NoRt s1) (h2 : NoRt s2) : NoRt (sIf b s1 s2) := by
  intro ρ o e
  obtain ⟨k, e1, e⟩ := bind_some' e
  cases k
  · exact h2 ρ o e
  · exact h1 ρ o e
theorem sim_L (h : NoRt s1) : Sim (hL s1) s1 := by
  intro ρ κ o e
  obtain ⟨ρ', rfl⟩ := h ρ o e
  show hL s1 ρ κ = _
  unfold hL; rw [e]; rfl
theorem sim_nil : Sim hNil sNil := fun ρ κ o e => by cases e; exact rfl
theorem sim_seq (h1 : Sim m1 s1) (h2 : Sim m2 s2) : Sim (hSeq m1 m2) (sSeq s1 s2) := by
  intro ρ κ o e
  obtain ⟨o1, e1, e⟩ := bind_some' e
  have q := h1 ρ κ o1 e1
  cases o1 with
  | nx ρ1 =>
    have q2 := h2 ρ1 κ o e
    unfold hSeq
    rw [show m1 ρ κ = some (.nx ρ1 κ) from q]
    exact q2
  | rt d f =>
    cases e
    obtain ⟨fl, q1, q2⟩ := q
    refine ⟨fl, q1, ?_⟩
    unfold hSeq; rw [q2]; rfl
theorem sim_if (h1 : Sim m1 s1) (h2 : Sim m2 s2) : Sim (hIf (bL b) m1 m2) (sIf b s1 s2) := by
  intro ρ κ o e
  obtain ⟨k, e1, e⟩ := bind_some' e
  have q : hIf (bL b) m1 m2 ρ κ = if k then m1 ρ κ else m2 ρ κ := by unfold hIf bL; rw [e1]; rfl
  cases k with
  | true => have := h1 ρ κ o e; rw [q]; exact this
  | false => have := h2 ρ κ o e; rw [q]; exact this
theorem sim_ret : Sim (hRet (gL m)) (sRet m) := by
  intro ρ κ o e
  unfold sRet at e
  cases em : m ρ with
  | none => rw [em] at e; cases e
  | some r =>
    rw [em] at e
    cases e
    refine ⟨r.2, rfl, ?_⟩
    unfold hRet gL; rw [em]; rfl
/-! ### the walk over the numbered list -/
def loopC (bd : σ → τ → Option (Step σ γ)) (xs : List τ) (s : σ) : Option (Step σ γ) := if xs.length ≤ 100000 then loopT bd xs s else none
theorem forC_go {env : σ → J → E} {g : D → E → Option E} {m : SG} {sb : S} {ρ1 : σ → J → τ → E} {tb : σ → τ → Option (Step σ γ)} (hg : ∀ s j x, g (c x) (env s j) = some (ρ1 s j x)) (hs : Sim m sb) (hb : ∀ s j x, Jg sb (ρ1 s j x) (PL env er fr) (tb s x))
    (hκ : κ[n]? = some (xs.map c)) : ∀ (k : Nat) (i : Nat) (f : Nat) (s : σ) (j : J) (st : Step σ γ), k = xs.length - i → i ≤ xs.length → k < f → loopT tb (xs.drop i) s = some st →
      match st with | .nxt s' => ∃ j', forCGo g m n f i (env s j) κ = some (.nx (env s' j') κ) | .ret r => ∃ fl, decide (fl ≠ .pure) = fr ∧ forCGo g m n f i (env s j) κ = some (.rt (er r) fl κ) := by
  intro k
  induction k with
  | zero =>
    intro i f s j st hk hi hf h
    have e : xs.length ≤ i := by omega
    rw [List.drop_eq_nil_of_le e] at h
    cases h
    obtain ⟨f, rfl⟩ : ∃ f', f = f' + 1 := ⟨f - 1, by omega⟩
    refine ⟨j, ?_⟩
    unfold forCGo
    rw [hκ, Option.bind_some, List.getElem?_eq_none_iff.mpr (by rw [List.length_map]; exact e)]
  | succ k ih =>
    intro i f s j st hk hi hf h
    have hlt : i < xs.length := by omega
    obtain ⟨f, rfl⟩ : ∃ f', f = f' + 1 := ⟨f - 1, by omega⟩
    rw [List.drop_eq_getElem_cons hlt] at h
    obtain ⟨o, h1, h2⟩ := bind_some' h
    have q := hb s j xs[i] o h1
    have hd : (xs.map c)[i]? = some (c xs[i]) := by rw [List.getElem?_map, List.getElem?_eq_getElem hlt]; rfl
    cases o with
    | nxt s' =>
      obtain ⟨j', q⟩ := q
      have q2 : m (ρ1 s j xs[i]) κ = some (.nx (env s' j') κ) := hs _ κ _ q
      have r := ih (i + 1) f s' j' st (by omega) (by omega) (by omega) h2
      have e : forCGo g m n (f + 1) i (env s j) κ = forCGo g m n f (i + 1) (env s' j') κ := by
        conv => lhs; unfold forCGo
        rw [hκ, Option.bind_some, hd]
        simp only [hg, Option.bind_some, q2]
      cases st with
      | nxt s2 => obtain ⟨j2, r⟩ := r; exact ⟨j2, by rw [e]; exact r⟩
      | ret r2 => obtain ⟨fl, r1, r⟩ := r; exact ⟨fl, r1, by rw [e]; exact r⟩
    | ret r =>
      cases h2
      obtain ⟨fl, q1, q2⟩ := hs _ κ _ (show sb (ρ1 s j xs[i]) = some (.rt (er r) fr) from q)
      refine ⟨fl, q1, ?_⟩
      unfold forCGo
      rw [hκ, Option.bind_some, hd]
      simp only [hg, Option.bind_some, q2]
theorem jh_forC {N : Nat} {g : D → E → Option E} {mb : SG} {tb : σ → τ → Option (Step σ γ)} {k : σ → Option (γ × List τ)} (hi : ρ[i]? = some (some (.hol n, false))) (env : σ → J → E) (s0 : σ) (j0 : J) (ρ1 : σ → J → τ → E) {sb : S} (hs : Sim mb sb) (hb : ∀ s j x, Jg sb (ρ1 s j x) (PL env er fr) (tb s x))
    (hn : ∀ s j, Jh n c rest (env s j) xs er fr (k s)) (h0 : ρ = env s0 j0 := by rfl) (hg : ∀ s j x, g (c x) (env s j) = some (ρ1 s j x) := by intro _ _ _; rfl) (hN : 100000 < N := by decide) :
    Jh n c (hSeq (hForC N (gL (mVar i)) g mb) rest) ρ xs er fr ((loopC tb xs s0).bind (cont k fun r => (r, xs))) := by
  intro κ hκ a ys hy
  obtain ⟨st, h1, h2⟩ := bind_some' hy
  unfold loopC at h1
  split at h1
  · rename_i hl
    have q := forC_go hg hs hb hκ xs.length 0 N s0 j0 st (by omega) (Nat.zero_le _) (by omega) (by rw [List.drop_zero]; exact h1)
    have e : hForC N (gL (mVar i)) g mb ρ κ = forCGo g mb n N 0 (env s0 j0) κ := by
      unfold hForC
      rw [gL_cell hi, ← h0]; rfl
    cases st with
    | nxt s' =>
      obtain ⟨j', q⟩ := q
      obtain ⟨fl, q3, q4⟩ := hn s' j' κ hκ a ys h2
      refine ⟨fl, q3, ?_⟩
      unfold hSeq
      rw [e, q]; exact q4
    | ret r =>
      obtain ⟨fl, q3, q4⟩ := q
      cases h2
      refine ⟨fl, q3, ?_⟩
      unfold hSeq
      rw [e, q4, ce_self hκ]; rfl
  · cases h1
theorem jh_revX {t : Option (γ × List τ)} (hi : ρ[i]? = some (some (.hol n, false))) (hn : Jh n c rest ρ xs.reverse er fr t) : Jh n c (hSeq (hExpr (gMt fRevC (gL (mVar i)) agNil)) rest) ρ xs er fr t := by
  intro κ hκ a ys hy
  have e : hExpr (gMt fRevC (gL (mVar i)) agNil) ρ κ = some (.nx ρ (κ.set n (xs.reverse.map c))) := by
    unfold hExpr gMt
    rw [gL_cell hi]
    simp only [Option.bind_some, agNil, hκ, fRevC, Option.map_some]
    rw [List.map_reverse]
  obtain ⟨fl, q3, q4⟩ := hn _ (ce_get hκ) a ys hy
  refine ⟨fl, q3, ?_⟩
  rw [List.set_set] at q4
  unfold hSeq
  rw [e]; exact q4
theorem jh_popX {k : List τ → Option (γ × List τ)} (hi : ρ[i]? = some (some (.hol n, false))) (hn : ∀ ys, Jh n c rest ρ ys er fr (k ys)) : Jh n c (hSeq (hExpr (gMt fPop (gL (mVar i)) agNil)) rest) ρ xs er fr (bnd2 (popT xs) fun _ ys => k ys) := by
  intro κ hκ a zs hy
  obtain ⟨⟨x, ys⟩, q1, q2⟩ := bind_some' hy
  have e : hExpr (gMt fPop (gL (mVar i)) agNil) ρ κ = some (.nx ρ (κ.set n (ys.map c))) := by
    unfold hExpr
    rw [xg_pop hi κ hκ x ys q1]; rfl
  obtain ⟨fl, q3, q4⟩ := hn ys _ (ce_get hκ) a zs q2
  refine ⟨fl, q3, ?_⟩
  rw [List.set_set] at q4
  unfold hSeq
  rw [e]; exact q4
theorem jh_seqN {s : S} {env : σ → J → E} {t : Option σ} {k : σ → Option (γ × List τ)} (h : Jg s ρ (PN env) t) (hn : ∀ s j, Jh n c rest (env s j) xs er fr (k s)) : Jh n c (hSeq (hL s) rest) ρ xs er fr (t.bind k) := by
  intro κ hκ a ys hy
  obtain ⟨s', q1, q2⟩ := bind_some' hy
  obtain ⟨j, q⟩ := h s' q1
  obtain ⟨fl, q3, q4⟩ := hn s' j κ hκ a ys q2
  refine ⟨fl, q3, ?_⟩
  unfold hSeq hL
  rw [q]; exact q4
theorem jh_frzL {s : S} {t : Option (γ × List τ)} (ρ1 : E) (hn : Jh n c (hSeq (hL s) rest) ρ1 xs er fr t) (hρ : frz1 i ρ = ρ1 := by rfl) : Jh n c (hSeq (hL (sFrz i s)) rest) ρ xs er fr t := by
  subst hρ; exact hn
/-! ### ahead of the numbered list -/
theorem j0_seqN {s : S} {env : σ → J → E} {t : Option σ} {k : σ → Option γ} (h : Jg s ρ (PN env) t) (hn : ∀ s j, J0 rest (env s j) er fr (k s)) : J0 (hSeq (hL s) rest) ρ er fr (t.bind k) := by
  intro a hy
  obtain ⟨s', q1, q2⟩ := bind_some' hy
  obtain ⟨j, q⟩ := h s' q1
  obtain ⟨fl, κ', q3, q4⟩ := hn s' j a q2
  refine ⟨fl, κ', q3, ?_⟩
  unfold hSeq hL
  rw [q]; exact q4
theorem j0_frzL {s : S} {t : Option γ} (ρ1 : E) (hn : J0 (hSeq (hL s) rest) ρ1 er fr t) (hρ : frz1 i ρ = ρ1 := by rfl) : J0 (hSeq (hL (sFrz i s)) rest) ρ er fr t := by
  subst hρ; exact hn
theorem j0_set0 {s : S} {e : En α} {t : Option α} {k : α → Option γ} (ρ1 : α → E) (hs : ∀ a, t = some a → s ρ = some (.nx (ρ1 a))) (hn : ∀ a, J0 rest (ρ1 a) er fr (k a)) : J0 (hSeq (hL s) rest) ρ er fr (t.bind k) := by
  intro r hy
  obtain ⟨a, q1, q2⟩ := bind_some' hy
  obtain ⟨fl, κ', q3, q4⟩ := hn a r q2
  refine ⟨fl, κ', q3, ?_⟩
  unfold hSeq hL
  rw [hs a q1]; exact q4
theorem j0_setL {e : En α} {t : Option α} {k : α → Option γ} (h : X m ρ e .pure t) (ρ1 : α → E) (hn : ∀ a, J0 rest (ρ1 a) er fr (k a)) (hρ : ∀ a, ρ.set i (some (e a, false)) = ρ1 a := by intro; rfl) : J0 (hSeq (hL (sSet i m)) rest) ρ er fr (t.bind k) :=
  j0_set0 (e := e) ρ1 (fun a q => by unfold sSet; rw [h a q, ← hρ a]; rfl) hn
theorem j0_setLA {e : En α} {t : Option α} {k : α → Option γ} (h : X m ρ e .pure t) (ρ1 : α → E) (hn : ∀ a, J0 rest (ρ1 a) er fr (k a)) (hρ : ∀ a, frz1 i (ρ.set i (some (e a, false))) = ρ1 a := by intro; rfl) : J0 (hSeq (hL (sFzA i (sSet i m))) rest) ρ er fr (t.bind k) :=
  j0_set0 (e := e) ρ1 (fun a q => by unfold sFzA sSet; rw [h a q, ← hρ a]; rfl) hn
theorem j0_setLOA {e : En α} {t : Option α} {k : α → Option γ} (h : X m ρ e .fresh t) (ρ1 : α → E) (hn : ∀ a, J0 rest (ρ1 a) er fr (k a)) (hρ : ∀ a, frz1 i (ρ.set i (some (e a, true))) = ρ1 a := by intro; rfl) : J0 (hSeq (hL (sFzA i (sSet i m))) rest) ρ er fr (t.bind k) :=
  j0_set0 (e := e) ρ1 (fun a q => by unfold sFzA sSet; rw [h a q, ← hρ a]; rfl) hn
end
end Ty

set_option maxRecDepth 100000
set_option maxHeartbeats 4000000
namespace Ty
open PySem PySem.Spec PyProof.Rows L2 Dt
/-! ### what is refused -/
abbrev rC3 (x i j : Int) : E := [some (.int x, false), some (.int i, false), some (.int j, false)]
theorem chk_m (x i j : Int) : ((bOr (bNot (mB (mChain fLe fLt (mC (.int 0)) (mVar 1) (mVar 0)))) (bNot (mB (mChain fLe fLt (mC (.int 0)) (mVar 2) (mVar 0))))) (rC3 x i j) = some true ∧ okP x i j = false) ∨
    ((bOr (bNot (mB (mChain fLe fLt (mC (.int 0)) (mVar 1) (mVar 0)))) (bNot (mB (mChain fLe fLt (mC (.int 0)) (mVar 2) (mVar 0))))) (rC3 x i j) = some false ∧ (mB (mOp fEq (mVar 1) (mVar 2))) (rC3 x i j) = some (!okP x i j)) := by
  have v0 : X (mVar 0) (rC3 x i j) eI .pure (some x) := x_var (e := eI) (a := x) (i := 0) rfl
  have v1 : X (mVar 1) (rC3 x i j) eI .pure (some i) := x_var (e := eI) (a := i) (i := 1) rfl
  have v2 : X (mVar 2) (rC3 x i j) eI .pure (some j) := x_var (e := eI) (a := j) (i := 2) rfl
  have t1 : T (bOr (bNot (mB (mChain fLe fLt (mC (.int 0)) (mVar 1) (mVar 0)))) (bNot (mB (mChain fLe fLt (mC (.int 0)) (mVar 2) (mVar 0))))) (rC3 x i j)
      (oOr (oNot (oAnd (op2 tLe (some 0) (some i)) (op2 tLt (some i) (some x)))) (oNot (oAnd (op2 tLe (some 0) (some j)) (op2 tLt (some j) (some x))))) :=
    t_or (t_not (t_val (x_chain h_le h_lt (x_i 0) v1 v0))) (t_not (t_val (x_chain h_le h_lt (x_i 0) v2 v0)))
  have t2 : T (mB (mOp fEq (mVar 1) (mVar 2))) (rC3 x i j) (op2 tEq (some i) (some j)) := t_val (x_op (h_eq eqE_I) v1 v2)
  have e1 : (oOr (oNot (oAnd (op2 tLe (some 0) (some i)) (op2 tLt (some i) (some x)))) (oNot (oAnd (op2 tLe (some 0) (some j)) (op2 tLt (some j) (some x))))) = some (!(decide (0 ≤ i) && decide (i < x)) || !(decide (0 ≤ j) && decide (j < x))) := by
    show oOr (oNot (oAnd (some (decide (0 ≤ i))) (some (decide (i < x))))) (oNot (oAnd (some (decide (0 ≤ j))) (some (decide (j < x))))) = _
    cases decide (0 ≤ i) <;> cases decide (i < x) <;> cases decide (0 ≤ j) <;> cases decide (j < x) <;> rfl
  have f1 := t1 _ e1
  have f2 := t2 _ (show op2 tEq (some i) (some j) = some (decide (i = j)) from rfl)
  by_cases h : 0 ≤ i ∧ i < x ∧ 0 ≤ j ∧ j < x
  · refine .inr ⟨?_, ?_⟩
    · rw [f1]; simp [h]
    · rw [f2]; congr 1; unfold okP; simp [h]
  · refine .inl ⟨?_, ?_⟩
    · rw [f1]; congr 1; simp only [Bool.or_eq_true, Bool.not_eq_true', Bool.and_eq_false_iff, decide_eq_false_iff_not]; omega
    · unfold okP; rw [decide_eq_false_iff_not]; omega
theorem bad_m2 (x : Addr) (w : Int) (c : D) (ds : List D) (ij : List (Int × Int)) (hc : pairsOf c = some ds) (hd : ds = ij.map Dt.prD) (hl : ds.length ≤ lim) :
    sSet 3 (mFn fTuple (aCons (mLc (iS true (mVar 2)) (gT [4, 5]) bYes (mTup (aCons (mVar 4) (aCons (mVar 5) aNil))) [4, 5]) aNil)) [some (.opq x, false), some (.int w, false), some (c, false), none, none, none] = some (.nx (rI6 x w c ds none none)) := by
  have hl' : ij.length ≤ 100000 := by rw [hd, List.length_map] at hl; exact hl
  have fin : It (iS true (mVar 2)) [some (.opq x, false), some (.int w, false), some (c, false), none, none, none] ePr (some ij) → sSet 3 (mFn fTuple (aCons (mLc (iS true (mVar 2)) (gT [4, 5]) bYes (mTup (aCons (mVar 4) (aCons (mVar 5) aNil))) [4, 5]) aNil)) [some (.opq x, false), some (.int w, false), some (c, false), none, none, none] = some (.nx (rI6 x w c ds none none)) := by
    intro hi
    have h := x_f1 (e1 := eL ePr) (e2 := eT ePr) (g1 := .fresh) (fl := .pure) (F := tId) h_tupL (x_lc (e := ePr) (f := ePr) (mi := iS true (mVar 2)) (g := gT [4, 5]) (mt := bYes) (me := mTup (aCons (mVar 4) (aCons (mVar 5) aNil))) (vs := [4, 5]) (te := fun p => op2 tPair (some p.1) (some p.2)) hi (fun p : Int × Int => [some (.opq x, false), some (.int w, false), some (c, false), none, some (eI p.1, false), some (eI p.2, false)]) (by intro _; rfl) (fun _ => t_yes) (fun p => x_pair (x_var (e := eI) (a := p.1) (i := 4) rfl) (x_var (e := eI) (a := p.2) (i := 5) rfl)))
    have ev : op1 (tId (α := List (Int × Int))) (op1 (lcT (fun _ => some true) fun p : Int × Int => op2 tPair (some p.1) (some p.2)) (some ij)) = some ij := by
      show (lcT (fun _ => some true) (fun p : Int × Int => op2 tPair (some p.1) (some p.2)) ij).bind tId = _
      have e9 : lcT (fun _ => some true) (fun p : Int × Int => op2 tPair (some p.1) (some p.2)) ij = some (ij.map id) := lcT_map (f := id) hl' fun _ _ => rfl
      rw [e9, List.map_id]; rfl
    have h2 := h ij ev
    unfold sSet
    rw [h2, hd]; rfl
  have ec : c = eL ePr ij ∨ c = eT ePr ij := by
    cases c with
    | lst es => cases hc; exact .inl (by rw [hd]; rfl)
    | tup es => cases hc; exact .inr (by rw [hd]; rfl)
    | _ => cases hc
  rcases ec with rfl | rfl
  · exact fin (it_L (w := true) (x_var (e := eL ePr) (a := ij) (i := 2) rfl))
  · exact fin (it_T (w := true) (x_var (e := eT ePr) (a := ij) (i := 2) rfl))
def tRef (w : Int) (ps : List (Int × Int)) : Option Bool := if ps.length ≤ 100000 ∧ (w < 1 ∨ (ps.any fun p => !okP w p.1 p.2) = true) then some true else none
theorem prsOf_pr : ∀ ps : List (Int × Int), prsOf (ps.map ePr) = some ps
  | [] => rfl
  | p :: ps => by
    show (prsOf (ps.map ePr)).map (fun r => (p.1, p.2) :: r) = _
    rw [prsOf_pr ps]; rfl
theorem ref_by (w : Int) (ps : List (Int × Int)) (c : D) (hc : pairsOf c = some (ps.map ePr)) (r : Bool) (h : tRef w ps = some r) : fRef [eI w, c] = some (eB r, false) := by
  unfold tRef at h
  split at h
  · rename_i hk
    cases h
    show ((pairsOf c).bind fun es => (prsOf es).bind fun ij => if es.length ≤ lim ∧ (w < 1 ∨ (ij.any fun p => !okP w p.1 p.2) = true) then some ((.bl true, false) : D × Bool) else none) = _
    rw [hc, Option.bind_some, prsOf_pr, Option.bind_some, if_pos ⟨by rw [List.length_map]; exact hk.1, hk.2⟩]; rfl
  · cases h
theorem r_refL : ∀ (w : Int) (ps : List (Int × Int)) (r : Bool), tRef w ps = some r → fRef [eI w, eL ePr ps] = some (eB r, false) := fun w ps r h => ref_by w ps _ rfl r h
theorem r_refT : ∀ (w : Int) (ps : List (Int × Int)) (r : Bool), tRef w ps = some r → fRef [eI w, eT ePr ps] = some (eB r, false) := fun w ps r h => ref_by w ps _ rfl r h
end Ty

set_option maxHeartbeats 4000000
namespace Lw
open PySem L2 Dt Ty
def b__law_numbers : S := (sSeq (sSet 2 (mC (.int 0))) (sSeq (sIf (mB (mOp fGt (mFn fLen (aCons (mVar 0) aNil)) (mC (.int 0)))) (sSet 2 (mOp fIx (mVar 0) (mC (.int 0)))) sNil) (sSeq (sSet 3 (mOp fGe (mVar 2) (mOp fPow (mC (.int 10)) (mC (.int 18))))) (sSeq (sSet 4 (mLst aNil)) (sSeq (sFor (iR1 (aCons (mVar 1) aNil)) (gN 5) (sIf (bAnd (mBt (mVar 3)) (mB (mOp fGt (mVar 2) (mC (.int 0))))) (sSeq (sApp 4 (mOp fMod (mVar 2) (mC (.int 1000000)))) (sSet 2 (mOp fDiv (mVar 2) (mC (.int 1000000))))) (sSeq (sSet 6 (mC (.int 13))) (sSeq (sIf (mB (mOp fGt (mFn fLen (aCons (mVar 0) aNil)) (mC (.int 0)))) (sFzA 6 (sSet 6 (mOp fAdd (mOp fIx (mVar 0) (mOp fMod (mVar 5) (mFn fLen (aCons (mVar 0) aNil)))) (mOp fMul (mC (.int 7919)) (mVar 5))))) sNil) (sApp 4 (mOp fMod (mOp fMod (mOp fMul (mOp fMod (mOp fMul (mVar 6) (mC (.int 48271))) (mC (.int 2147483647))) (mC (.int 69621))) (mC (.int 2147483629))) (mC (.int 1000000)))))))) (sRet (mVar 4)))))))
def f__law_numbers : FD := runF 7 b__law_numbers
def b__law_wires : S := (sSeq (sIf (mB (mOp fEq (mOp fMod (mOp fDiv (mVar 0) (mC (.int 6))) (mC (.int 4))) (mC (.int 1)))) (sRet (mOp fAdd (mOp fMod (mOp fDiv (mVar 0) (mC (.int 24))) (mVar 1)) (mC (.int 1)))) sNil) (sRet (mOp fAdd (mOp fMod (mVar 0) (mC (.int 6))) (mC (.int 1)))))
def f__law_wires : FD := runF 2 b__law_wires
def b__law_pairs : S := (sSeq (sSet 4 (mLst aNil)) (sSeq (sIf (mB (mOp fEq (mVar 2) (mC (.int 1)))) (sRet (mVar 4)) sNil) (sSeq (sFor (iR1 (aCons (mOp fMod (mOp fIx (mVar 0) (mVar 1)) (mC (.int 13))) aNil)) (gN 5) (sSeq (sSet 6 (mOp fIx (mVar 0) (mOp fAdd (mOp fAdd (mVar 1) (mC (.int 1))) (mVar 5)))) (sSeq (sSet 7 (mOp fMod (mVar 6) (mVar 2))) (sSeq (sSet 8 (mOp fMod (mOp fDiv (mVar 6) (mVar 2)) (mOp fSub (mVar 2) (mC (.int 1))))) (sSeq (sIf (mB (mOp fGe (mVar 8) (mVar 7))) (sSet 8 (mOp fAdd (mVar 8) (mC (.int 1)))) sNil) (sIf (bAnd (mBt (mVar 3)) (mB (mOp fGt (mVar 7) (mVar 8)))) (sApp 4 (mTup (aCons (mVar 8) (aCons (mVar 7) aNil)))) (sApp 4 (mTup (aCons (mVar 7) (aCons (mVar 8) aNil)))))))))) (sRet (mVar 4)))))
def f__law_pairs : FD := runF 9 b__law_pairs
def b__law_is_number : S := (sRet (mAnd (mIsT "int" (mVar 0)) (mNot (mIsT "bool" (mVar 0)))))
def f__law_is_number : FD := runF 1 b__law_is_number
def b__law_is_row : S := (sSeq (sIf (bOr (bNot (mB (mIsT "tuple" (mVar 0)))) (mB (mOp fNe (mFn fLen (aCons (mVar 0) aNil)) (mFn fLen (aCons (mVar 1) aNil))))) (sRet (mC (.bl false))) sNil) (sSeq (sFor (iR1 (aCons (mFn fLen (aCons (mVar 1) aNil)) aNil)) (gN 2) (sIf (bOr (bNot (mB (mCall f__law_is_number (aCons (mOp fIx (mVar 0) (mVar 2)) aNil)))) (mB (mOp fNe (mOp fIx (mVar 0) (mVar 2)) (mOp fIx (mVar 1) (mVar 2))))) (sRet (mC (.bl false))) sNil)) (sRet (mC (.bl true)))))
def f__law_is_row : FD := runF 3 b__law_is_row
def b__law_is_made : S := (sSeq (sIf (bOr (bNot (mB (mIsNet (mVar 0)))) (bOr (bNot (mB (mCall f__law_is_number (aCons (mWires (mVar 0)) aNil)))) (mB (mOp fNe (mWires (mVar 0)) (mVar 1))))) (sRet (mC (.bl false))) sNil) (sSeq (sIf (bOr (bNot (mB (mIsT "tuple" (mComps (mVar 0))))) (mB (mOp fNe (mFn fLen (aCons (mComps (mVar 0)) aNil)) (mFn fLen (aCons (mVar 2) aNil))))) (sRet (mC (.bl false))) sNil) (sSeq (sFor (iR1 (aCons (mFn fLen (aCons (mVar 2) aNil)) aNil)) (gN 3) (sIf (bNot (mB (mCall f__law_is_row (aCons (mOp fIx (mComps (mVar 0)) (mVar 3)) (aCons (mOp fIx (mVar 2) (mVar 3)) aNil))))) (sRet (mC (.bl false))) sNil)) (sRet (mC (.bl true))))))
def f__law_is_made : FD := runF 4 b__law_is_made
def b__check_comparer : S := (sSeq (sIf (bOr (bNot (mB (mChain fLe fLt (mC (.int 0)) (mVar 1) (mVar 0)))) (bNot (mB (mChain fLe fLt (mC (.int 0)) (mVar 2) (mVar 0))))) sNo sNil) (sIf (mB (mOp fEq (mVar 1) (mVar 2))) sNo sNil))
def f__check_comparer : FD := runF 3 b__check_comparer
def b1_init : S := (sIf (mB (mOp fLt (mVar 1) (mC (.int 1)))) sNo sNil)
def b2_init : S := (sSet 3 (mFn fTuple (aCons (mLc (iS true (mVar 2)) (gT [4, 5]) bYes (mTup (aCons (mVar 4) (aCons (mVar 5) aNil))) [4, 5]) aNil)))
def b3_init : S := (sFrz 3 (sFor (iS false (mVar 3)) (gTs 2 (gsCons (gN 4) (gsCons (gN 5) gsNil))) (sExpr (mCall f__check_comparer (aCons (mVar 1) (aCons (mVar 4) (aCons (mVar 5) aNil)))))))
def f__law_refused : FD := fRef
def f__law_refused_by_base : FD := fRef
def b_law : S := (sSeq (sFzA 1 (sSet 1 (mCall f__law_numbers (aCons (mVar 0) (aCons (mC (.int 19)) aNil))))) (sSeq (sFzA 2 (sSet 2 (mCall f__law_wires (aCons (mOp fIx (mVar 1) (mC (.int 0))) (aCons (mC (.int 12)) aNil))))) (sSeq (sFzA 3 (sSet 3 (mCall f__law_pairs (aCons (mVar 1) (aCons (mC (.int 2)) (aCons (mVar 2) (aCons (mOp fEq (mOp fMod (mOp fIx (mVar 1) (mC (.int 1))) (mC (.int 3))) (mC (.int 1))) aNil))))))) (sSeq (sSet 4 (mOp fMod (mOp fIx (mVar 1) (mC (.int 15))) (mOp fAdd (mFn fLen (aCons (mVar 3) aNil)) (mC (.int 1))))) (sSeq (sSet 5 (mOp fMod (mOp fIx (mVar 1) (mC (.int 16))) (mVar 2))) (sSeq (sSet 6 (mOp fIx (mVar 1) (mC (.int 17)))) (sSeq (sIf (mB (mOp fEq (mOp fMod (mOp fIx (mVar 1) (mC (.int 18))) (mC (.int 3))) (mC (.int 1)))) (sFzA 6 (sSet 6 (mOp fMul (mVar 6) (mOp fPow (mC (.int 10)) (mC (.int 24)))))) sNil) (sSeq (sFzA 7 (sSet 7 (mLst (aCons (mTup (aCons (mVar 5) (aCons (mVar 2) aNil))) (aCons (mTup (aCons (mVar 2) (aCons (mVar 5) aNil))) (aCons (mTup (aCons (mVar 5) (aCons (mOp fAdd (mVar 2) (mVar 6)) aNil))) (aCons (mTup (aCons (mOp fAdd (mVar 2) (mVar 6)) (aCons (mVar 5) aNil))) (aCons (mTup (aCons (mVar 5) (aCons (mNeg (mC (.int 1))) aNil))) (aCons (mTup (aCons (mNeg (mC (.int 1))) (aCons (mVar 5) aNil))) aNil))))))))) (sSeq (sFzA 7 (sSet 7 (mOp fAdd (mVar 7) (mLst (aCons (mTup (aCons (mVar 5) (aCons (mOp fSub (mNeg (mC (.int 1))) (mVar 6)) aNil))) (aCons (mTup (aCons (mOp fSub (mNeg (mC (.int 1))) (mVar 6)) (aCons (mVar 5) aNil))) (aCons (mTup (aCons (mVar 5) (aCons (mVar 5) aNil))) (aCons (mTup (aCons (mVar 2) (aCons (mNeg (mC (.int 1))) aNil))) aNil)))))))) (sSeq (sFrz 7 (sFor (iS false (mVar 7)) (gN 8) (sSeq (sFzA 10 (sSet 10 (mOp fAdd (mOp fAdd (mSl (mVar 3) pNone (pSome (mVar 4))) (mLst (aCons (mVar 8) aNil))) (mSl (mVar 3) (pSome (mVar 4)) pNone)))) (sIf (bOr (bNot (mB (mCall f__law_refused (aCons (mVar 2) (aCons (mVar 10) aNil))))) (bNot (mB (mCall f__law_refused_by_base (aCons (mVar 2) (aCons (mFn fTuple (aCons (mVar 10) aNil)) aNil)))))) (sRet (mC (.bl false))) sNil)))) (sSeq (sFor (iS false (mLst (aCons (mC (.int 0)) (aCons (mNeg (mC (.int 1))) (aCons (mOp fSub (mNeg (mC (.int 1))) (mVar 6)) aNil))))) (gN 9) (sIf (bOr (bNot (mB (mCall f__law_refused (aCons (mVar 9) (aCons (mLst aNil) aNil))))) (bOr (bNot (mB (mCall f__law_refused (aCons (mVar 9) (aCons (mVar 3) aNil))))) (bNot (mB (mCall f__law_refused_by_base (aCons (mVar 9) (aCons (mLst aNil) aNil))))))) (sRet (mC (.bl false))) sNil)) (sSeq (sIf (bNot (mB (mCall f__law_is_made (aCons (mFn fNet (aCons (mVar 2) (aCons (mVar 3) aNil))) (aCons (mVar 2) (aCons (mVar 3) aNil)))))) (sRet (mC (.bl false))) sNil) (sSeq (sIf (mB (mOp fEq (mVar 2) (mC (.int 1)))) (sRet (mC (.bl true))) sNil) (sSeq (sFor (iS false (mLst (aCons (mTup (aCons (mC (.int 0)) (aCons (mOp fSub (mVar 2) (mC (.int 1))) aNil))) (aCons (mTup (aCons (mOp fSub (mVar 2) (mC (.int 1))) (aCons (mC (.int 0)) aNil))) aNil)))) (gN 8) (sSeq (sFzA 10 (sSet 10 (mOp fAdd (mOp fAdd (mSl (mVar 3) pNone (pSome (mVar 4))) (mLst (aCons (mVar 8) aNil))) (mSl (mVar 3) (pSome (mVar 4)) pNone)))) (sIf (bNot (mB (mCall f__law_is_made (aCons (mFn fNet (aCons (mVar 2) (aCons (mVar 10) aNil))) (aCons (mVar 2) (aCons (mVar 10) aNil)))))) (sRet (mC (.bl false))) sNil))) (sRet (mC (.bl true)))))))))))))))))
def f_law : FD := runF 11 b_law
def t__law_numbers_F_I (script1 : (List Int)) (count2 : Int) : Option (List Int) :=
  ((some (0 : Int)).bind fun rest3 =>
  ((oIf (op2 tGt (op1 tLen (some script1)) (some (0 : Int)))
    ((op2 tIx (some script1) (some (0 : Int))).bind fun rest6 =>
  (some rest6))
    (some rest3)).bind fun s4 =>
  ((op2 tGe (some s4) (op2 tPow (some (10 : Int)) (some (18 : Int)))).bind fun by_digits7 =>
  ((op1 tDis (some [])).bind fun numbers8 =>
  (((op1 tR1 (some count2)).bind fun xs => foldT (fun (s10 : Int × (List Int)) (x9 : Int) =>
    (oIf (oAnd (some by_digits7) (op2 tGt (some s10.1) (some (0 : Int))))
    ((op1 (tApp s10.2) (op2 tMod (some s10.1) (some (1000000 : Int)))).bind fun numbers12 =>
  ((op2 tDiv (some s10.1) (some (1000000 : Int))).bind fun rest13 =>
  (some (rest13, numbers12))))
    ((some (13 : Int)).bind fun cell14 =>
  ((oIf (op2 tGt (op1 tLen (some script1)) (some (0 : Int)))
    ((op2 tAdd (op2 tIx (some script1) (op2 tMod (some x9) (op1 tLen (some script1)))) (op2 tMul (some (7919 : Int)) (some x9))).bind fun cell17 =>
  (some cell17))
    (some cell14)).bind fun s15 =>
  ((op1 (tApp s10.2) (op2 tMod (op2 tMod (op2 tMul (op2 tMod (op2 tMul (some s15) (some (48271 : Int))) (some (2147483647 : Int))) (some (69621 : Int))) (some (2147483629 : Int))) (some (1000000 : Int)))).bind fun numbers18 =>
  (some (s10.1, numbers18))))))) xs (s4, numbers8)).bind fun s19 =>
  (some s19.2))))))
theorem r__law_numbers_F_I : ∀ (script1 : (List Int)) (count2 : Int) (r : (List Int)), t__law_numbers_F_I script1 count2 = some r → f__law_numbers [eF script1, eI count2] = some ((eL eI) r, true) := by
  intro script1 count2 r h
  refine r_fun (k := 7) (bd := b__law_numbers) (ds := [eF script1, eI count2]) (er := (eL eI)) (fr := true) (t := t__law_numbers_F_I script1 count2) ?_ r h
  exact ((j_set (i := 2) (e := eI) (x_i 0) (fun rest3 => [some (eF script1, false), some (eI count2, false), some (eI rest3, false), none, none, none, none]) (fun rest3 =>
  (j_seqN (env := (fun (s4 : Int) (j5 : Unit) => [some (eF script1, false), some (eI count2, false), some (eI s4, false), none, none, none, none])) (j_if (t_val (x_op h_gt (x_f1 h_lenF (x_var (e := eF) (a := script1) (i := 0) rfl)) (x_i 0)))
    (j_last (j_set (i := 2) (e := eI) (x_op h_ixF (x_var (e := eF) (a := script1) (i := 0) rfl) (x_i 0)) (fun rest6 => [some (eF script1, false), some (eI count2, false), some (eI rest6, false), none, none, none, none]) (fun rest6 =>
  (j_endN (env := (fun (s4 : Int) (j5 : Unit) => [some (eF script1, false), some (eI count2, false), some (eI s4, false), none, none, none, none])) (st := rest6) ()))))
    (j_endN (env := (fun (s4 : Int) (j5 : Unit) => [some (eF script1, false), some (eI count2, false), some (eI s4, false), none, none, none, none])) (st := rest3) ())) (fun s4 j5 =>
  (j_set (i := 3) (e := eB) (x_op h_ge (x_var (e := eI) (a := s4) (i := 2) rfl) (x_op h_pow (x_i 10) (x_i 18))) (fun by_digits7 => [some (eF script1, false), some (eI count2, false), some (eI s4, false), some (eB by_digits7, false), none, none, none]) (fun by_digits7 =>
  (j_setO (i := 4) (e := (eL eI)) (x_lst (ah_nil (e := eI))) (fun numbers8 => [some (eF script1, false), some (eI count2, false), some (eI s4, false), some (eB by_digits7, false), some ((eL eI) numbers8, true), none, none]) (fun numbers8 =>
  (j_seqN (env := (fun (s10 : Int × (List Int)) (j11 : Option (D × Bool) × Option (D × Bool)) => [some (eF script1, false), some (eI count2, false), some (eI s10.1, false), some (eB by_digits7, false), some ((eL eI) s10.2, true), j11.1, j11.2])) (j_for (e := eI) (it_r1 (x_var (e := eI) (a := count2) (i := 1) rfl)) (fun (s10 : Int × (List Int)) (j11 : Option (D × Bool) × Option (D × Bool)) => [some (eF script1, false), some (eI count2, false), some (eI s10.1, false), some (eB by_digits7, false), some ((eL eI) s10.2, true), j11.1, j11.2]) (s4, numbers8) ((none), (none)) (fun (s10 : Int × (List Int)) (j11 : Option (D × Bool) × Option (D × Bool)) (x9 : Int) => [some (eF script1, false), some (eI count2, false), some (eI s10.1, false), some (eB by_digits7, false), some ((eL eI) s10.2, true), some (eI x9, false), j11.2]) (fun (s10 : Int × (List Int)) (j11 : Option (D × Bool) × Option (D × Bool)) (x9 : Int) =>
    (j_if (t_and (t_truB (x_var (e := eB) (a := by_digits7) (i := 3) rfl)) (t_val (x_op h_gt (x_var (e := eI) (a := s10.1) (i := 2) rfl) (x_i 0))))
    (j_app (k := 4) (e := eI) rfl (x_op h_mod (x_var (e := eI) (a := s10.1) (i := 2) rfl) (x_i 1000000)) (fun numbers12 => [some (eF script1, false), some (eI count2, false), some (eI s10.1, false), some (eB by_digits7, false), some ((eL eI) numbers12, true), some (eI x9, false), j11.2]) (fun numbers12 =>
  (j_last (j_set (i := 2) (e := eI) (x_op h_div (x_var (e := eI) (a := s10.1) (i := 2) rfl) (x_i 1000000)) (fun rest13 => [some (eF script1, false), some (eI count2, false), some (eI rest13, false), some (eB by_digits7, false), some ((eL eI) numbers12, true), some (eI x9, false), j11.2]) (fun rest13 =>
  (j_endN (env := (fun (s10 : Int × (List Int)) (j11 : Option (D × Bool) × Option (D × Bool)) => [some (eF script1, false), some (eI count2, false), some (eI s10.1, false), some (eB by_digits7, false), some ((eL eI) s10.2, true), j11.1, j11.2])) (st := (rest13, numbers12)) ((some (eI x9, false)), (j11.2))))))))
    (j_set (i := 6) (e := eI) (x_i 13) (fun cell14 => [some (eF script1, false), some (eI count2, false), some (eI s10.1, false), some (eB by_digits7, false), some ((eL eI) s10.2, true), some (eI x9, false), some (eI cell14, false)]) (fun cell14 =>
  (j_seqN (env := (fun (s15 : Int) (j16 : Unit) => [some (eF script1, false), some (eI count2, false), some (eI s10.1, false), some (eB by_digits7, false), some ((eL eI) s10.2, true), some (eI x9, false), some (eI s15, false)])) (j_if (t_val (x_op h_gt (x_f1 h_lenF (x_var (e := eF) (a := script1) (i := 0) rfl)) (x_i 0)))
    (j_last (j_setS (i := 6) (e := eI) (x_op h_add (x_op h_ixF (x_var (e := eF) (a := script1) (i := 0) rfl) (x_op h_mod (x_var (e := eI) (a := x9) (i := 5) rfl) (x_f1 h_lenF (x_var (e := eF) (a := script1) (i := 0) rfl)))) (x_op h_mul (x_i 7919) (x_var (e := eI) (a := x9) (i := 5) rfl))) (fun cell17 => [some (eF script1, false), some (eI count2, false), some (eI s10.1, false), some (eB by_digits7, false), some ((eL eI) s10.2, true), some (eI x9, false), some (eI cell17, false)]) (fun cell17 =>
  (j_endN (env := (fun (s15 : Int) (j16 : Unit) => [some (eF script1, false), some (eI count2, false), some (eI s10.1, false), some (eB by_digits7, false), some ((eL eI) s10.2, true), some (eI x9, false), some (eI s15, false)])) (st := cell17) ()))))
    (j_endN (env := (fun (s15 : Int) (j16 : Unit) => [some (eF script1, false), some (eI count2, false), some (eI s10.1, false), some (eB by_digits7, false), some ((eL eI) s10.2, true), some (eI x9, false), some (eI s15, false)])) (st := cell14) ())) (fun s15 j16 =>
  (j_last (j_app (k := 4) (e := eI) rfl (x_op h_mod (x_op h_mod (x_op h_mul (x_op h_mod (x_op h_mul (x_var (e := eI) (a := s15) (i := 6) rfl) (x_i 48271)) (x_i 2147483647)) (x_i 69621)) (x_i 2147483629)) (x_i 1000000)) (fun numbers18 => [some (eF script1, false), some (eI count2, false), some (eI s10.1, false), some (eB by_digits7, false), some ((eL eI) numbers18, true), some (eI x9, false), some (eI s15, false)]) (fun numbers18 =>
  (j_endN (env := (fun (s10 : Int × (List Int)) (j11 : Option (D × Bool) × Option (D × Bool)) => [some (eF script1, false), some (eI count2, false), some (eI s10.1, false), some (eB by_digits7, false), some ((eL eI) s10.2, true), j11.1, j11.2])) (st := (s10.1, numbers18)) ((some (eI x9, false)), (some (eI s15, false)))))))))))))) (fun s19 j20 =>
  (j_ret (x_own (e := (eL eI)) (a := s19.2) (i := 4) rfl)))))))))))) : Jg (b__law_numbers) ([some (eF script1, false), some (eI count2, false), none, none, none, none, none]) (PF (eL eI) true) (t__law_numbers_F_I script1 count2))

def t__law_wires_I_I (number1 : Int) (most2 : Int) : Option Int :=
  (oIf (op2 tEq (op2 tMod (op2 tDiv (some number1) (some (6 : Int))) (some (4 : Int))) (some (1 : Int)))
    (op2 tAdd (op2 tMod (op2 tDiv (some number1) (some (24 : Int))) (some most2)) (some (1 : Int)))
    (op2 tAdd (op2 tMod (some number1) (some (6 : Int))) (some (1 : Int))))
theorem r__law_wires_I_I : ∀ (number1 : Int) (most2 : Int) (r : Int), t__law_wires_I_I number1 most2 = some r → f__law_wires [eI number1, eI most2] = some (eI r, false) := by
  intro number1 most2 r h
  refine r_fun (k := 2) (bd := b__law_wires) (ds := [eI number1, eI most2]) (er := eI) (fr := false) (t := t__law_wires_I_I number1 most2) ?_ r h
  exact ((j_ifS (t_val (x_op (h_eq eqE_I) (x_op h_mod (x_op h_div (x_var (e := eI) (a := number1) (i := 0) rfl) (x_i 6)) (x_i 4)) (x_i 1)))
    (j_retS (j_ret (x_op h_add (x_op h_mod (x_op h_div (x_var (e := eI) (a := number1) (i := 0) rfl) (x_i 24)) (x_var (e := eI) (a := most2) (i := 1) rfl)) (x_i 1))))
    (j_nilS (j_ret (x_op h_add (x_op h_mod (x_var (e := eI) (a := number1) (i := 0) rfl) (x_i 6)) (x_i 1))))) : Jg (b__law_wires) ([some (eI number1, false), some (eI most2, false)]) (PF eI false) (t__law_wires_I_I number1 most2))

def t__law_pairs_LI_I_I_B (numbers1 : (List Int)) (place2 : Int) (wires3 : Int) (standard4 : Bool) : Option (List (Int × Int)) :=
  ((op1 tDis (some [])).bind fun pairs5 =>
  (oIf (op2 tEq (some wires3) (some (1 : Int)))
    (some pairs5)
    (((op1 tR1 (op2 tMod (op2 tIx (some numbers1) (some place2)) (some (13 : Int)))).bind fun xs => foldT (fun (s7 : (List (Int × Int))) (x6 : Int) =>
    ((op2 tIx (some numbers1) (op2 tAdd (op2 tAdd (some place2) (some (1 : Int))) (some x6))).bind fun number9 =>
  ((op2 tMod (some number9) (some wires3)).bind fun one10 =>
  ((op2 tMod (op2 tDiv (some number9) (some wires3)) (op2 tSub (some wires3) (some (1 : Int)))).bind fun two11 =>
  ((oIf (op2 tGe (some two11) (some one10))
    ((op2 tAdd (some two11) (some (1 : Int))).bind fun two14 =>
  (some two14))
    (some two11)).bind fun s12 =>
  (oIf (oAnd (some standard4) (op2 tGt (some one10) (some s12)))
    ((op1 (tApp s7) (op2 tPair (some s12) (some one10))).bind fun pairs15 =>
  (some pairs15))
    ((op1 (tApp s7) (op2 tPair (some one10) (some s12))).bind fun pairs16 =>
  (some pairs16)))))))) xs pairs5).bind fun s17 =>
  (some s17))))
theorem r__law_pairs_LI_I_I_B : ∀ (numbers1 : (List Int)) (place2 : Int) (wires3 : Int) (standard4 : Bool) (r : (List (Int × Int))), t__law_pairs_LI_I_I_B numbers1 place2 wires3 standard4 = some r → f__law_pairs [(eL eI) numbers1, eI place2, eI wires3, eB standard4] = some ((eL ePr) r, true) := by
  intro numbers1 place2 wires3 standard4 r h
  refine r_fun (k := 9) (bd := b__law_pairs) (ds := [(eL eI) numbers1, eI place2, eI wires3, eB standard4]) (er := (eL ePr)) (fr := true) (t := t__law_pairs_LI_I_I_B numbers1 place2 wires3 standard4) ?_ r h
  exact ((j_setO (i := 4) (e := (eL ePr)) (x_lst (ah_nil (e := ePr))) (fun pairs5 => [some ((eL eI) numbers1, false), some (eI place2, false), some (eI wires3, false), some (eB standard4, false), some ((eL ePr) pairs5, true), none, none, none, none]) (fun pairs5 =>
  (j_ifS (t_val (x_op (h_eq eqE_I) (x_var (e := eI) (a := wires3) (i := 2) rfl) (x_i 1)))
    (j_retS (j_ret (x_own (e := (eL ePr)) (a := pairs5) (i := 4) rfl)))
    (j_nilS (j_seqN (env := (fun (s7 : (List (Int × Int))) (j8 : Option (D × Bool) × Option (D × Bool) × Option (D × Bool) × Option (D × Bool)) => [some ((eL eI) numbers1, false), some (eI place2, false), some (eI wires3, false), some (eB standard4, false), some ((eL ePr) s7, true), j8.1, j8.2.1, j8.2.2.1, j8.2.2.2])) (j_for (e := eI) (it_r1 (x_op h_mod (x_op (h_ixL (e := eI)) (x_var (e := (eL eI)) (a := numbers1) (i := 0) rfl) (x_var (e := eI) (a := place2) (i := 1) rfl)) (x_i 13))) (fun (s7 : (List (Int × Int))) (j8 : Option (D × Bool) × Option (D × Bool) × Option (D × Bool) × Option (D × Bool)) => [some ((eL eI) numbers1, false), some (eI place2, false), some (eI wires3, false), some (eB standard4, false), some ((eL ePr) s7, true), j8.1, j8.2.1, j8.2.2.1, j8.2.2.2]) pairs5 ((none), (none), (none), (none)) (fun (s7 : (List (Int × Int))) (j8 : Option (D × Bool) × Option (D × Bool) × Option (D × Bool) × Option (D × Bool)) (x6 : Int) => [some ((eL eI) numbers1, false), some (eI place2, false), some (eI wires3, false), some (eB standard4, false), some ((eL ePr) s7, true), some (eI x6, false), j8.2.1, j8.2.2.1, j8.2.2.2]) (fun (s7 : (List (Int × Int))) (j8 : Option (D × Bool) × Option (D × Bool) × Option (D × Bool) × Option (D × Bool)) (x6 : Int) =>
    (j_set (i := 6) (e := eI) (x_op (h_ixL (e := eI)) (x_var (e := (eL eI)) (a := numbers1) (i := 0) rfl) (x_op h_add (x_op h_add (x_var (e := eI) (a := place2) (i := 1) rfl) (x_i 1)) (x_var (e := eI) (a := x6) (i := 5) rfl))) (fun number9 => [some ((eL eI) numbers1, false), some (eI place2, false), some (eI wires3, false), some (eB standard4, false), some ((eL ePr) s7, true), some (eI x6, false), some (eI number9, false), j8.2.2.1, j8.2.2.2]) (fun number9 =>
  (j_set (i := 7) (e := eI) (x_op h_mod (x_var (e := eI) (a := number9) (i := 6) rfl) (x_var (e := eI) (a := wires3) (i := 2) rfl)) (fun one10 => [some ((eL eI) numbers1, false), some (eI place2, false), some (eI wires3, false), some (eB standard4, false), some ((eL ePr) s7, true), some (eI x6, false), some (eI number9, false), some (eI one10, false), j8.2.2.2]) (fun one10 =>
  (j_set (i := 8) (e := eI) (x_op h_mod (x_op h_div (x_var (e := eI) (a := number9) (i := 6) rfl) (x_var (e := eI) (a := wires3) (i := 2) rfl)) (x_op h_sub (x_var (e := eI) (a := wires3) (i := 2) rfl) (x_i 1))) (fun two11 => [some ((eL eI) numbers1, false), some (eI place2, false), some (eI wires3, false), some (eB standard4, false), some ((eL ePr) s7, true), some (eI x6, false), some (eI number9, false), some (eI one10, false), some (eI two11, false)]) (fun two11 =>
  (j_seqN (env := (fun (s12 : Int) (j13 : Unit) => [some ((eL eI) numbers1, false), some (eI place2, false), some (eI wires3, false), some (eB standard4, false), some ((eL ePr) s7, true), some (eI x6, false), some (eI number9, false), some (eI one10, false), some (eI s12, false)])) (j_if (t_val (x_op h_ge (x_var (e := eI) (a := two11) (i := 8) rfl) (x_var (e := eI) (a := one10) (i := 7) rfl)))
    (j_last (j_set (i := 8) (e := eI) (x_op h_add (x_var (e := eI) (a := two11) (i := 8) rfl) (x_i 1)) (fun two14 => [some ((eL eI) numbers1, false), some (eI place2, false), some (eI wires3, false), some (eB standard4, false), some ((eL ePr) s7, true), some (eI x6, false), some (eI number9, false), some (eI one10, false), some (eI two14, false)]) (fun two14 =>
  (j_endN (env := (fun (s12 : Int) (j13 : Unit) => [some ((eL eI) numbers1, false), some (eI place2, false), some (eI wires3, false), some (eB standard4, false), some ((eL ePr) s7, true), some (eI x6, false), some (eI number9, false), some (eI one10, false), some (eI s12, false)])) (st := two14) ()))))
    (j_endN (env := (fun (s12 : Int) (j13 : Unit) => [some ((eL eI) numbers1, false), some (eI place2, false), some (eI wires3, false), some (eB standard4, false), some ((eL ePr) s7, true), some (eI x6, false), some (eI number9, false), some (eI one10, false), some (eI s12, false)])) (st := two11) ())) (fun s12 j13 =>
  (j_if (t_and (t_truB (x_var (e := eB) (a := standard4) (i := 3) rfl)) (t_val (x_op h_gt (x_var (e := eI) (a := one10) (i := 7) rfl) (x_var (e := eI) (a := s12) (i := 8) rfl))))
    (j_last (j_app (k := 4) (e := ePr) rfl (x_pair (x_var (e := eI) (a := s12) (i := 8) rfl) (x_var (e := eI) (a := one10) (i := 7) rfl)) (fun pairs15 => [some ((eL eI) numbers1, false), some (eI place2, false), some (eI wires3, false), some (eB standard4, false), some ((eL ePr) pairs15, true), some (eI x6, false), some (eI number9, false), some (eI one10, false), some (eI s12, false)]) (fun pairs15 =>
  (j_endN (env := (fun (s7 : (List (Int × Int))) (j8 : Option (D × Bool) × Option (D × Bool) × Option (D × Bool) × Option (D × Bool)) => [some ((eL eI) numbers1, false), some (eI place2, false), some (eI wires3, false), some (eB standard4, false), some ((eL ePr) s7, true), j8.1, j8.2.1, j8.2.2.1, j8.2.2.2])) (st := pairs15) ((some (eI x6, false)), (some (eI number9, false)), (some (eI one10, false)), (some (eI s12, false)))))))
    (j_last (j_app (k := 4) (e := ePr) rfl (x_pair (x_var (e := eI) (a := one10) (i := 7) rfl) (x_var (e := eI) (a := s12) (i := 8) rfl)) (fun pairs16 => [some ((eL eI) numbers1, false), some (eI place2, false), some (eI wires3, false), some (eB standard4, false), some ((eL ePr) pairs16, true), some (eI x6, false), some (eI number9, false), some (eI one10, false), some (eI s12, false)]) (fun pairs16 =>
  (j_endN (env := (fun (s7 : (List (Int × Int))) (j8 : Option (D × Bool) × Option (D × Bool) × Option (D × Bool) × Option (D × Bool)) => [some ((eL eI) numbers1, false), some (eI place2, false), some (eI wires3, false), some (eB standard4, false), some ((eL ePr) s7, true), j8.1, j8.2.1, j8.2.2.1, j8.2.2.2])) (st := pairs16) ((some (eI x6, false)), (some (eI number9, false)), (some (eI one10, false)), (some (eI s12, false)))))))))))))))))) (fun s17 j18 =>
  (j_ret (x_own (e := (eL ePr)) (a := s17) (i := 4) rfl)))))))) : Jg (b__law_pairs) ([some ((eL eI) numbers1, false), some (eI place2, false), some (eI wires3, false), some (eB standard4, false), none, none, none, none, none]) (PF (eL ePr) true) (t__law_pairs_LI_I_I_B numbers1 place2 wires3 standard4))

def t__law_is_number_I (x1 : Int) : Option Bool :=
  (oAnd ((some x1).map fun _ => true) (oNot ((some x1).map fun _ => false)))
theorem r__law_is_number_I : ∀ (x1 : Int) (r : Bool), t__law_is_number_I x1 = some r → f__law_is_number [eI x1] = some (eB r, false) := by
  intro x1 r h
  refine r_fun (k := 1) (bd := b__law_is_number) (ds := [eI x1]) (er := eB) (fr := false) (t := t__law_is_number_I x1) ?_ r h
  exact ((j_ret (x_and (x_isT it_ii (x_var (e := eI) (a := x1) (i := 0) rfl)) (x_not (x_isT it_bi (x_var (e := eI) (a := x1) (i := 0) rfl))))) : Jg (b__law_is_number) ([some (eI x1, false)]) (PF eB false) (t__law_is_number_I x1))

def t__law_is_row_P_P (actual1 : (Int × Int)) (due2 : (Int × Int)) : Option Bool :=
  (oIf (oOr (oNot ((some actual1).map fun _ => true)) (op2 tNe ((some actual1).map fun _ => (2 : Int)) ((some due2).map fun _ => (2 : Int))))
    (some false)
    (((op1 tR1 ((some due2).map fun _ => (2 : Int))).bind fun xs => loopT (fun (s4 : Unit) (x3 : Int) =>
    (oIf (oOr (oNot (op1 t__law_is_number_I (op2 tPix (some actual1) (some x3)))) (op2 tNe (op2 tPix (some actual1) (some x3)) (op2 tPix (some due2) (some x3))))
    (Option.map Step.ret (some false))
    (some (Step.nxt ())))) xs ()).bind (cont (fun s6 =>
  (some true)) (fun r => r))))
theorem r__law_is_row_P_P : ∀ (actual1 : (Int × Int)) (due2 : (Int × Int)) (r : Bool), t__law_is_row_P_P actual1 due2 = some r → f__law_is_row [ePr actual1, ePr due2] = some (eB r, false) := by
  intro actual1 due2 r h
  refine r_fun (k := 3) (bd := b__law_is_row) (ds := [ePr actual1, ePr due2]) (er := eB) (fr := false) (t := t__law_is_row_P_P actual1 due2) ?_ r h
  exact ((j_ifS (t_or (t_not (t_val (x_isT it_tP (x_var (e := ePr) (a := actual1) (i := 0) rfl)))) (t_val (x_op (h_ne eqE_I) (x_lenP (x_var (e := ePr) (a := actual1) (i := 0) rfl)) (x_lenP (x_var (e := ePr) (a := due2) (i := 1) rfl)))))
    (j_retS (j_ret (x_b false)))
    (j_nilS (j_seqL (env := (fun (s4 : Unit) (j5 : Option (D × Bool)) => [some (ePr actual1, false), some (ePr due2, false), j5])) (j_forR (e := eI) (it_r1 (x_lenP (x_var (e := ePr) (a := due2) (i := 1) rfl))) (fun (s4 : Unit) (j5 : Option (D × Bool)) => [some (ePr actual1, false), some (ePr due2, false), j5]) () (none) (fun (s4 : Unit) (j5 : Option (D × Bool)) (x3 : Int) => [some (ePr actual1, false), some (ePr due2, false), some (eI x3, false)]) (fun (s4 : Unit) (j5 : Option (D × Bool)) (x3 : Int) =>
    (j_if (t_or (t_not (t_val (x_call1 (tF := t__law_is_number_I) r__law_is_number_I po_n (x_op (h_ixP (e := eI)) (x_var (e := ePr) (a := actual1) (i := 0) rfl) (x_var (e := eI) (a := x3) (i := 2) rfl))))) (t_val (x_op (h_ne eqE_I) (x_op (h_ixP (e := eI)) (x_var (e := ePr) (a := actual1) (i := 0) rfl) (x_var (e := eI) (a := x3) (i := 2) rfl)) (x_op (h_ixP (e := eI)) (x_var (e := ePr) (a := due2) (i := 1) rfl) (x_var (e := eI) (a := x3) (i := 2) rfl)))))
    (j_retL (x_b false))
    (j_endL (env := (fun (s4 : Unit) (j5 : Option (D × Bool)) => [some (ePr actual1, false), some (ePr due2, false), j5])) (st := ()) (some (eI x3, false)))))) (fun s6 j7 =>
  (j_ret (x_b true))) (fun _ => rfl)))) : Jg (b__law_is_row) ([some (ePr actual1, false), some (ePr due2, false), none]) (PF eB false) (t__law_is_row_P_P actual1 due2))

def t__law_is_made_N_I_LP (actual1 : Net) (wires2 : Int) (pairs3 : (List (Int × Int))) : Option Bool :=
  (oIf (oOr (oNot ((some actual1).map fun _ => true)) (oOr (oNot (op1 t__law_is_number_I ((some actual1).map (·.w)))) (op2 tNe ((some actual1).map (·.w)) (some wires2))))
    (some false)
    (oIf (oOr (oNot (((some actual1).map (·.ps)).map fun _ => true)) (op2 tNe (op1 tLen ((some actual1).map (·.ps))) (op1 tLen (some pairs3))))
    (some false)
    (((op1 tR1 (op1 tLen (some pairs3))).bind fun xs => loopT (fun (s5 : Unit) (x4 : Int) =>
    (oIf (oNot (op2 t__law_is_row_P_P (op2 tIx ((some actual1).map (·.ps)) (some x4)) (op2 tIx (some pairs3) (some x4))))
    (Option.map Step.ret (some false))
    (some (Step.nxt ())))) xs ()).bind (cont (fun s7 =>
  (some true)) (fun r => r)))))
theorem r__law_is_made_N_I_LP : ∀ (actual1 : Net) (wires2 : Int) (pairs3 : (List (Int × Int))) (r : Bool), t__law_is_made_N_I_LP actual1 wires2 pairs3 = some r → f__law_is_made [eN actual1, eI wires2, (eL ePr) pairs3] = some (eB r, false) := by
  intro actual1 wires2 pairs3 r h
  refine r_fun (k := 4) (bd := b__law_is_made) (ds := [eN actual1, eI wires2, (eL ePr) pairs3]) (er := eB) (fr := false) (t := t__law_is_made_N_I_LP actual1 wires2 pairs3) ?_ r h
  exact ((j_ifS (t_or (t_not (t_val (x_isNet (x_var (e := eN) (a := actual1) (i := 0) rfl)))) (t_or (t_not (t_val (x_call1 (tF := t__law_is_number_I) r__law_is_number_I po_n (x_wires (x_var (e := eN) (a := actual1) (i := 0) rfl))))) (t_val (x_op (h_ne eqE_I) (x_wires (x_var (e := eN) (a := actual1) (i := 0) rfl)) (x_var (e := eI) (a := wires2) (i := 1) rfl)))))
    (j_retS (j_ret (x_b false)))
    (j_nilS (j_ifS (t_or (t_not (t_val (x_isT it_tT (x_comps (x_var (e := eN) (a := actual1) (i := 0) rfl))))) (t_val (x_op (h_ne eqE_I) (x_f1 h_lenT (x_comps (x_var (e := eN) (a := actual1) (i := 0) rfl))) (x_f1 h_lenL (x_var (e := (eL ePr)) (a := pairs3) (i := 2) rfl)))))
    (j_retS (j_ret (x_b false)))
    (j_nilS (j_seqL (env := (fun (s5 : Unit) (j6 : Option (D × Bool)) => [some (eN actual1, false), some (eI wires2, false), some ((eL ePr) pairs3, false), j6])) (j_forR (e := eI) (it_r1 (x_f1 h_lenL (x_var (e := (eL ePr)) (a := pairs3) (i := 2) rfl))) (fun (s5 : Unit) (j6 : Option (D × Bool)) => [some (eN actual1, false), some (eI wires2, false), some ((eL ePr) pairs3, false), j6]) () (none) (fun (s5 : Unit) (j6 : Option (D × Bool)) (x4 : Int) => [some (eN actual1, false), some (eI wires2, false), some ((eL ePr) pairs3, false), some (eI x4, false)]) (fun (s5 : Unit) (j6 : Option (D × Bool)) (x4 : Int) =>
    (j_if (t_not (t_val (x_call2 (tF := t__law_is_row_P_P) r__law_is_row_P_P po_n (x_op (h_ixT (e := ePr)) (x_comps (x_var (e := eN) (a := actual1) (i := 0) rfl)) (x_var (e := eI) (a := x4) (i := 3) rfl)) (x_op (h_ixL (e := ePr)) (x_var (e := (eL ePr)) (a := pairs3) (i := 2) rfl) (x_var (e := eI) (a := x4) (i := 3) rfl)))))
    (j_retL (x_b false))
    (j_endL (env := (fun (s5 : Unit) (j6 : Option (D × Bool)) => [some (eN actual1, false), some (eI wires2, false), some ((eL ePr) pairs3, false), j6])) (st := ()) (some (eI x4, false)))))) (fun s7 j8 =>
  (j_ret (x_b true))) (fun _ => rfl)))))) : Jg (b__law_is_made) ([some (eN actual1, false), some (eI wires2, false), some ((eL ePr) pairs3, false), none]) (PF eB false) (t__law_is_made_N_I_LP actual1 wires2 pairs3))

def t_law_F (script1 : (List Int)) : Option Bool :=
  ((op2 t__law_numbers_F_I (some script1) (some (19 : Int))).bind fun numbers2 =>
  ((op2 t__law_wires_I_I (op2 tIx (some numbers2) (some (0 : Int))) (some (12 : Int))).bind fun wires3 =>
  ((op4 t__law_pairs_LI_I_I_B (some numbers2) (some (2 : Int)) (some wires3) (op2 tEq (op2 tMod (op2 tIx (some numbers2) (some (1 : Int))) (some (3 : Int))) (some (1 : Int)))).bind fun pairs4 =>
  ((op2 tMod (op2 tIx (some numbers2) (some (15 : Int))) (op2 tAdd (op1 tLen (some pairs4)) (some (1 : Int)))).bind fun spot5 =>
  ((op2 tMod (op2 tIx (some numbers2) (some (16 : Int))) (some wires3)).bind fun wire6 =>
  ((op2 tIx (some numbers2) (some (17 : Int))).bind fun far7 =>
  ((oIf (op2 tEq (op2 tMod (op2 tIx (some numbers2) (some (18 : Int))) (some (3 : Int))) (some (1 : Int)))
    ((op2 tMul (some far7) (op2 tPow (some (10 : Int)) (some (24 : Int)))).bind fun far10 =>
  (some far10))
    (some far7)).bind fun s8 =>
  ((op1 tDis (oCons (op2 tPair (some wire6) (some wires3)) (oCons (op2 tPair (some wires3) (some wire6)) (oCons (op2 tPair (some wire6) (op2 tAdd (some wires3) (some s8))) (oCons (op2 tPair (op2 tAdd (some wires3) (some s8)) (some wire6)) (oCons (op2 tPair (some wire6) (op1 tNeg (some (1 : Int)))) (oCons (op2 tPair (op1 tNeg (some (1 : Int))) (some wire6)) (some [])))))))).bind fun bad11 =>
  ((op2 tCat (some bad11) (op1 tDis (oCons (op2 tPair (some wire6) (op2 tSub (op1 tNeg (some (1 : Int))) (some s8))) (oCons (op2 tPair (op2 tSub (op1 tNeg (some (1 : Int))) (some s8)) (some wire6)) (oCons (op2 tPair (some wire6) (some wire6)) (oCons (op2 tPair (some wires3) (op1 tNeg (some (1 : Int)))) (some []))))))).bind fun bad12 =>
  (((some bad12).bind fun xs => loopT (fun (s14 : Unit) (x13 : (Int × Int)) =>
    ((op2 tCat (op2 tCat (op3 tCut (some pairs4) (some none) ((some spot5).map some)) (op1 tDis (oCons (some x13) (some [])))) (op3 tCut (some pairs4) ((some spot5).map some) (some none))).bind fun more16 =>
  (oIf (oOr (oNot (op2 tRef (some wires3) (some more16))) (oNot (op2 tRef (some wires3) (op1 tId (some more16)))))
    (Option.map Step.ret (some false))
    (some (Step.nxt ()))))) xs ()).bind (cont (fun s17 =>
  (((op1 tDis (oCons (some (0 : Int)) (oCons (op1 tNeg (some (1 : Int))) (oCons (op2 tSub (op1 tNeg (some (1 : Int))) (some s8)) (some []))))).bind fun xs => loopT (fun (s20 : Unit) (x19 : Int) =>
    (oIf (oOr (oNot (op2 tRef (some x19) (op1 tDis (some [])))) (oOr (oNot (op2 tRef (some x19) (some pairs4))) (oNot (op2 tRef (some x19) (op1 tDis (some []))))))
    (Option.map Step.ret (some false))
    (some (Step.nxt ())))) xs ()).bind (cont (fun s22 =>
  (oIf (oNot (op3 t__law_is_made_N_I_LP (op2 tNet (some wires3) (some pairs4)) (some wires3) (some pairs4)))
    (some false)
    (oIf (op2 tEq (some wires3) (some (1 : Int)))
    (some true)
    (((op1 tDis (oCons (op2 tPair (some (0 : Int)) (op2 tSub (some wires3) (some (1 : Int)))) (oCons (op2 tPair (op2 tSub (some wires3) (some (1 : Int))) (some (0 : Int))) (some [])))).bind fun xs => loopT (fun (s25 : Unit) (x24 : (Int × Int)) =>
    ((op2 tCat (op2 tCat (op3 tCut (some pairs4) (some none) ((some spot5).map some)) (op1 tDis (oCons (some x24) (some [])))) (op3 tCut (some pairs4) ((some spot5).map some) (some none))).bind fun more27 =>
  (oIf (oNot (op3 t__law_is_made_N_I_LP (op2 tNet (some wires3) (some more27)) (some wires3) (some more27)))
    (Option.map Step.ret (some false))
    (some (Step.nxt ()))))) xs ()).bind (cont (fun s28 =>
  (some true)) (fun r => r)))))) (fun r => r)))) (fun r => r))))))))))))
theorem r_law_F : ∀ (script1 : (List Int)) (r : Bool), t_law_F script1 = some r → f_law [eF script1] = some (eB r, false) := by
  intro script1 r h
  refine r_fun (k := 11) (bd := b_law) (ds := [eF script1]) (er := eB) (fr := false) (t := t_law_F script1) ?_ r h
  exact ((j_setOS (i := 1) (e := (eL eI)) (x_call2 (tF := t__law_numbers_F_I) r__law_numbers_F_I po_n (x_var (e := eF) (a := script1) (i := 0) rfl) (x_i 19)) (fun numbers2 => [some (eF script1, false), some ((eL eI) numbers2, false), none, none, none, none, none, none, none, none, none]) (fun numbers2 =>
  (j_setS (i := 2) (e := eI) (x_call2 (tF := t__law_wires_I_I) r__law_wires_I_I po_n (x_op (h_ixL (e := eI)) (x_var (e := (eL eI)) (a := numbers2) (i := 1) rfl) (x_i 0)) (x_i 12)) (fun wires3 => [some (eF script1, false), some ((eL eI) numbers2, false), some (eI wires3, false), none, none, none, none, none, none, none, none]) (fun wires3 =>
  (j_setOS (i := 3) (e := (eL ePr)) (x_call4 (tF := t__law_pairs_LI_I_I_B) r__law_pairs_LI_I_I_B po_n (x_var (e := (eL eI)) (a := numbers2) (i := 1) rfl) (x_i 2) (x_var (e := eI) (a := wires3) (i := 2) rfl) (x_op (h_eq eqE_I) (x_op h_mod (x_op (h_ixL (e := eI)) (x_var (e := (eL eI)) (a := numbers2) (i := 1) rfl) (x_i 1)) (x_i 3)) (x_i 1))) (fun pairs4 => [some (eF script1, false), some ((eL eI) numbers2, false), some (eI wires3, false), some ((eL ePr) pairs4, false), none, none, none, none, none, none, none]) (fun pairs4 =>
  (j_set (i := 4) (e := eI) (x_op h_mod (x_op (h_ixL (e := eI)) (x_var (e := (eL eI)) (a := numbers2) (i := 1) rfl) (x_i 15)) (x_op h_add (x_f1 h_lenL (x_var (e := (eL ePr)) (a := pairs4) (i := 3) rfl)) (x_i 1))) (fun spot5 => [some (eF script1, false), some ((eL eI) numbers2, false), some (eI wires3, false), some ((eL ePr) pairs4, false), some (eI spot5, false), none, none, none, none, none, none]) (fun spot5 =>
  (j_set (i := 5) (e := eI) (x_op h_mod (x_op (h_ixL (e := eI)) (x_var (e := (eL eI)) (a := numbers2) (i := 1) rfl) (x_i 16)) (x_var (e := eI) (a := wires3) (i := 2) rfl)) (fun wire6 => [some (eF script1, false), some ((eL eI) numbers2, false), some (eI wires3, false), some ((eL ePr) pairs4, false), some (eI spot5, false), some (eI wire6, false), none, none, none, none, none]) (fun wire6 =>
  (j_set (i := 6) (e := eI) (x_op (h_ixL (e := eI)) (x_var (e := (eL eI)) (a := numbers2) (i := 1) rfl) (x_i 17)) (fun far7 => [some (eF script1, false), some ((eL eI) numbers2, false), some (eI wires3, false), some ((eL ePr) pairs4, false), some (eI spot5, false), some (eI wire6, false), some (eI far7, false), none, none, none, none]) (fun far7 =>
  (j_seqN (env := (fun (s8 : Int) (j9 : Unit) => [some (eF script1, false), some ((eL eI) numbers2, false), some (eI wires3, false), some ((eL ePr) pairs4, false), some (eI spot5, false), some (eI wire6, false), some (eI s8, false), none, none, none, none])) (j_if (t_val (x_op (h_eq eqE_I) (x_op h_mod (x_op (h_ixL (e := eI)) (x_var (e := (eL eI)) (a := numbers2) (i := 1) rfl) (x_i 18)) (x_i 3)) (x_i 1)))
    (j_last (j_setS (i := 6) (e := eI) (x_op h_mul (x_var (e := eI) (a := far7) (i := 6) rfl) (x_op h_pow (x_i 10) (x_i 24))) (fun far10 => [some (eF script1, false), some ((eL eI) numbers2, false), some (eI wires3, false), some ((eL ePr) pairs4, false), some (eI spot5, false), some (eI wire6, false), some (eI far10, false), none, none, none, none]) (fun far10 =>
  (j_endN (env := (fun (s8 : Int) (j9 : Unit) => [some (eF script1, false), some ((eL eI) numbers2, false), some (eI wires3, false), some ((eL ePr) pairs4, false), some (eI spot5, false), some (eI wire6, false), some (eI s8, false), none, none, none, none])) (st := far10) ()))))
    (j_endN (env := (fun (s8 : Int) (j9 : Unit) => [some (eF script1, false), some ((eL eI) numbers2, false), some (eI wires3, false), some ((eL ePr) pairs4, false), some (eI spot5, false), some (eI wire6, false), some (eI s8, false), none, none, none, none])) (st := far7) ())) (fun s8 j9 =>
  (j_setOS (i := 7) (e := (eL ePr)) (x_lst (ah_cons (x_pair (x_var (e := eI) (a := wire6) (i := 5) rfl) (x_var (e := eI) (a := wires3) (i := 2) rfl)) (ah_cons (x_pair (x_var (e := eI) (a := wires3) (i := 2) rfl) (x_var (e := eI) (a := wire6) (i := 5) rfl)) (ah_cons (x_pair (x_var (e := eI) (a := wire6) (i := 5) rfl) (x_op h_add (x_var (e := eI) (a := wires3) (i := 2) rfl) (x_var (e := eI) (a := s8) (i := 6) rfl))) (ah_cons (x_pair (x_op h_add (x_var (e := eI) (a := wires3) (i := 2) rfl) (x_var (e := eI) (a := s8) (i := 6) rfl)) (x_var (e := eI) (a := wire6) (i := 5) rfl)) (ah_cons (x_pair (x_var (e := eI) (a := wire6) (i := 5) rfl) (x_neg (x_i 1))) (ah_cons (x_pair (x_neg (x_i 1)) (x_var (e := eI) (a := wire6) (i := 5) rfl)) (ah_nil (e := ePr))))))))) (fun bad11 => [some (eF script1, false), some ((eL eI) numbers2, false), some (eI wires3, false), some ((eL ePr) pairs4, false), some (eI spot5, false), some (eI wire6, false), some (eI s8, false), some ((eL ePr) bad11, false), none, none, none]) (fun bad11 =>
  (j_setOS (i := 7) (e := (eL ePr)) (x_op (h_catL (e := ePr)) (x_var (e := (eL ePr)) (a := bad11) (i := 7) rfl) (x_lst (ah_cons (x_pair (x_var (e := eI) (a := wire6) (i := 5) rfl) (x_op h_sub (x_neg (x_i 1)) (x_var (e := eI) (a := s8) (i := 6) rfl))) (ah_cons (x_pair (x_op h_sub (x_neg (x_i 1)) (x_var (e := eI) (a := s8) (i := 6) rfl)) (x_var (e := eI) (a := wire6) (i := 5) rfl)) (ah_cons (x_pair (x_var (e := eI) (a := wire6) (i := 5) rfl) (x_var (e := eI) (a := wire6) (i := 5) rfl)) (ah_cons (x_pair (x_var (e := eI) (a := wires3) (i := 2) rfl) (x_neg (x_i 1))) (ah_nil (e := ePr)))))))) (fun bad12 => [some (eF script1, false), some ((eL eI) numbers2, false), some (eI wires3, false), some ((eL ePr) pairs4, false), some (eI spot5, false), some (eI wire6, false), some (eI s8, false), some ((eL ePr) bad12, false), none, none, none]) (fun bad12 =>
  (j_frz ([some (eF script1, false), some ((eL eI) numbers2, false), some (eI wires3, false), some ((eL ePr) pairs4, false), some (eI spot5, false), some (eI wire6, false), some (eI s8, false), some ((eL ePr) bad12, false), none, none, none]) (j_seqL (env := (fun (s14 : Unit) (j15 : Option (D × Bool) × Option (D × Bool)) => [some (eF script1, false), some ((eL eI) numbers2, false), some (eI wires3, false), some ((eL ePr) pairs4, false), some (eI spot5, false), some (eI wire6, false), some (eI s8, false), some ((eL ePr) bad12, false), j15.1, none, j15.2])) (j_forR (e := ePr) (it_L (w := false) (x_var (e := (eL ePr)) (a := bad12) (i := 7) rfl)) (fun (s14 : Unit) (j15 : Option (D × Bool) × Option (D × Bool)) => [some (eF script1, false), some ((eL eI) numbers2, false), some (eI wires3, false), some ((eL ePr) pairs4, false), some (eI spot5, false), some (eI wire6, false), some (eI s8, false), some ((eL ePr) bad12, false), j15.1, none, j15.2]) () ((none), (none)) (fun (s14 : Unit) (j15 : Option (D × Bool) × Option (D × Bool)) (x13 : (Int × Int)) => [some (eF script1, false), some ((eL eI) numbers2, false), some (eI wires3, false), some ((eL ePr) pairs4, false), some (eI spot5, false), some (eI wire6, false), some (eI s8, false), some ((eL ePr) bad12, false), some (ePr x13, false), none, j15.2]) (fun (s14 : Unit) (j15 : Option (D × Bool) × Option (D × Bool)) (x13 : (Int × Int)) =>
    (j_setOS (i := 10) (e := (eL ePr)) (x_op (h_catL (e := ePr)) (x_op (h_catL (e := ePr)) (x_slL (x_var (e := (eL ePr)) (a := pairs4) (i := 3) rfl) p_no (p_so (x_var (e := eI) (a := spot5) (i := 4) rfl))) (x_lst (ah_cons (x_var (e := ePr) (a := x13) (i := 8) rfl) (ah_nil (e := ePr))))) (x_slL (x_var (e := (eL ePr)) (a := pairs4) (i := 3) rfl) (p_so (x_var (e := eI) (a := spot5) (i := 4) rfl)) p_no)) (fun more16 => [some (eF script1, false), some ((eL eI) numbers2, false), some (eI wires3, false), some ((eL ePr) pairs4, false), some (eI spot5, false), some (eI wire6, false), some (eI s8, false), some ((eL ePr) bad12, false), some (ePr x13, false), none, some ((eL ePr) more16, false)]) (fun more16 =>
  (j_if (t_or (t_not (t_val (x_call2 (tF := tRef) r_refL po_n (x_var (e := eI) (a := wires3) (i := 2) rfl) (x_var (e := (eL ePr)) (a := more16) (i := 10) rfl)))) (t_not (t_val (x_call2 (tF := tRef) r_refT po_n (x_var (e := eI) (a := wires3) (i := 2) rfl) (x_f1 h_tupL (x_var (e := (eL ePr)) (a := more16) (i := 10) rfl))))))
    (j_retL (x_b false))
    (j_endL (env := (fun (s14 : Unit) (j15 : Option (D × Bool) × Option (D × Bool)) => [some (eF script1, false), some ((eL eI) numbers2, false), some (eI wires3, false), some ((eL ePr) pairs4, false), some (eI spot5, false), some (eI wire6, false), some (eI s8, false), some ((eL ePr) bad12, false), j15.1, none, j15.2])) (st := ()) ((some (ePr x13, false)), (some ((eL ePr) more16, false))))))))) (fun s17 j18 =>
  (j_seqL (env := (fun (s20 : Unit) (j21 : Option (D × Bool)) => [some (eF script1, false), some ((eL eI) numbers2, false), some (eI wires3, false), some ((eL ePr) pairs4, false), some (eI spot5, false), some (eI wire6, false), some (eI s8, false), some ((eL ePr) bad12, false), j18.1, j21, j18.2])) (j_forR (e := eI) (it_L (w := false) (x_lst (ah_cons (x_i 0) (ah_cons (x_neg (x_i 1)) (ah_cons (x_op h_sub (x_neg (x_i 1)) (x_var (e := eI) (a := s8) (i := 6) rfl)) (ah_nil (e := eI))))))) (fun (s20 : Unit) (j21 : Option (D × Bool)) => [some (eF script1, false), some ((eL eI) numbers2, false), some (eI wires3, false), some ((eL ePr) pairs4, false), some (eI spot5, false), some (eI wire6, false), some (eI s8, false), some ((eL ePr) bad12, false), j18.1, j21, j18.2]) () (none) (fun (s20 : Unit) (j21 : Option (D × Bool)) (x19 : Int) => [some (eF script1, false), some ((eL eI) numbers2, false), some (eI wires3, false), some ((eL ePr) pairs4, false), some (eI spot5, false), some (eI wire6, false), some (eI s8, false), some ((eL ePr) bad12, false), j18.1, some (eI x19, false), j18.2]) (fun (s20 : Unit) (j21 : Option (D × Bool)) (x19 : Int) =>
    (j_if (t_or (t_not (t_val (x_call2 (tF := tRef) r_refL po_n (x_var (e := eI) (a := x19) (i := 9) rfl) (x_lst (ah_nil (e := ePr)))))) (t_or (t_not (t_val (x_call2 (tF := tRef) r_refL po_n (x_var (e := eI) (a := x19) (i := 9) rfl) (x_var (e := (eL ePr)) (a := pairs4) (i := 3) rfl)))) (t_not (t_val (x_call2 (tF := tRef) r_refL po_n (x_var (e := eI) (a := x19) (i := 9) rfl) (x_lst (ah_nil (e := ePr))))))))
    (j_retL (x_b false))
    (j_endL (env := (fun (s20 : Unit) (j21 : Option (D × Bool)) => [some (eF script1, false), some ((eL eI) numbers2, false), some (eI wires3, false), some ((eL ePr) pairs4, false), some (eI spot5, false), some (eI wire6, false), some (eI s8, false), some ((eL ePr) bad12, false), j18.1, j21, j18.2])) (st := ()) (some (eI x19, false)))))) (fun s22 j23 =>
  (j_ifS (t_not (t_val (x_call3 (tF := t__law_is_made_N_I_LP) r__law_is_made_N_I_LP po_n (x_f2 h_netL (x_var (e := eI) (a := wires3) (i := 2) rfl) (x_var (e := (eL ePr)) (a := pairs4) (i := 3) rfl)) (x_var (e := eI) (a := wires3) (i := 2) rfl) (x_var (e := (eL ePr)) (a := pairs4) (i := 3) rfl))))
    (j_retS (j_ret (x_b false)))
    (j_nilS (j_ifS (t_val (x_op (h_eq eqE_I) (x_var (e := eI) (a := wires3) (i := 2) rfl) (x_i 1)))
    (j_retS (j_ret (x_b true)))
    (j_nilS (j_seqL (env := (fun (s25 : Unit) (j26 : Option (D × Bool) × Option (D × Bool)) => [some (eF script1, false), some ((eL eI) numbers2, false), some (eI wires3, false), some ((eL ePr) pairs4, false), some (eI spot5, false), some (eI wire6, false), some (eI s8, false), some ((eL ePr) bad12, false), j26.1, j23, j26.2])) (j_forR (e := ePr) (it_L (w := false) (x_lst (ah_cons (x_pair (x_i 0) (x_op h_sub (x_var (e := eI) (a := wires3) (i := 2) rfl) (x_i 1))) (ah_cons (x_pair (x_op h_sub (x_var (e := eI) (a := wires3) (i := 2) rfl) (x_i 1)) (x_i 0)) (ah_nil (e := ePr)))))) (fun (s25 : Unit) (j26 : Option (D × Bool) × Option (D × Bool)) => [some (eF script1, false), some ((eL eI) numbers2, false), some (eI wires3, false), some ((eL ePr) pairs4, false), some (eI spot5, false), some (eI wire6, false), some (eI s8, false), some ((eL ePr) bad12, false), j26.1, j23, j26.2]) () ((j18.1), (j18.2)) (fun (s25 : Unit) (j26 : Option (D × Bool) × Option (D × Bool)) (x24 : (Int × Int)) => [some (eF script1, false), some ((eL eI) numbers2, false), some (eI wires3, false), some ((eL ePr) pairs4, false), some (eI spot5, false), some (eI wire6, false), some (eI s8, false), some ((eL ePr) bad12, false), some (ePr x24, false), j23, j26.2]) (fun (s25 : Unit) (j26 : Option (D × Bool) × Option (D × Bool)) (x24 : (Int × Int)) =>
    (j_setOS (i := 10) (e := (eL ePr)) (x_op (h_catL (e := ePr)) (x_op (h_catL (e := ePr)) (x_slL (x_var (e := (eL ePr)) (a := pairs4) (i := 3) rfl) p_no (p_so (x_var (e := eI) (a := spot5) (i := 4) rfl))) (x_lst (ah_cons (x_var (e := ePr) (a := x24) (i := 8) rfl) (ah_nil (e := ePr))))) (x_slL (x_var (e := (eL ePr)) (a := pairs4) (i := 3) rfl) (p_so (x_var (e := eI) (a := spot5) (i := 4) rfl)) p_no)) (fun more27 => [some (eF script1, false), some ((eL eI) numbers2, false), some (eI wires3, false), some ((eL ePr) pairs4, false), some (eI spot5, false), some (eI wire6, false), some (eI s8, false), some ((eL ePr) bad12, false), some (ePr x24, false), j23, some ((eL ePr) more27, false)]) (fun more27 =>
  (j_if (t_not (t_val (x_call3 (tF := t__law_is_made_N_I_LP) r__law_is_made_N_I_LP po_n (x_f2 h_netL (x_var (e := eI) (a := wires3) (i := 2) rfl) (x_var (e := (eL ePr)) (a := more27) (i := 10) rfl)) (x_var (e := eI) (a := wires3) (i := 2) rfl) (x_var (e := (eL ePr)) (a := more27) (i := 10) rfl))))
    (j_retL (x_b false))
    (j_endL (env := (fun (s25 : Unit) (j26 : Option (D × Bool) × Option (D × Bool)) => [some (eF script1, false), some ((eL eI) numbers2, false), some (eI wires3, false), some ((eL ePr) pairs4, false), some (eI spot5, false), some (eI wire6, false), some (eI s8, false), some ((eL ePr) bad12, false), j26.1, j23, j26.2])) (st := ()) ((some (ePr x24, false)), (some ((eL ePr) more27, false))))))))) (fun s28 j29 =>
  (j_ret (x_b true))) (fun _ => rfl))))))) (fun _ => rfl))) (fun _ => rfl))))))))))))))))))))) : Jg (b_law) ([some (eF script1, false), none, none, none, none, none, none, none, none, none, none]) (PF eB false) (t_law_F script1))

end Lw
namespace LwI
open PySem L2 Dt Lw

/-! ### loops -/
theorem forGo_inv {g : D → E → Option E} {m : S} (Inv : Nat → E → Prop) : ∀ (ds : List D) (i : Nat) (ρ : E), Inv i ρ →
    (∀ j d ρ, ds[j]? = some d → Inv (i + j) ρ → ∃ ρ1 ρ2, g d ρ = some ρ1 ∧ m ρ1 = some (.nx ρ2) ∧ Inv (i + j + 1) ρ2) → ∃ ρ', forGo g m ds ρ = some (.nx ρ') ∧ Inv (i + ds.length) ρ'
  | [], i, ρ, h, _ => ⟨ρ, rfl, by simpa using h⟩
  | d :: ds, i, ρ, h, st => by
    obtain ⟨ρ1, ρ2, e1, e2, h2⟩ := st 0 d ρ rfl (by simpa using h)
    obtain ⟨ρ', e3, h3⟩ := forGo_inv Inv ds (i + 1) ρ2 (by simpa using h2) fun j d' ρ hd hi => by
      obtain ⟨r1, r2, q1, q2, q3⟩ := st (j + 1) d' ρ (by simpa using hd) (by rw [show i + (j + 1) = i + 1 + j by omega]; exact hi)
      exact ⟨r1, r2, q1, q2, by rw [show i + 1 + j + 1 = i + (j + 1) + 1 by omega]; exact q3⟩
    refine ⟨ρ', ?_, by rw [List.length_cons, show i + (ds.length + 1) = i + 1 + ds.length by omega]; exact h3⟩
    unfold forGo
    rw [e1]
    show ((m ρ1).bind fun o => match o with | .nx ρ2 => forGo g m ds ρ2 | .rt d f => some (.rt d f)) = _
    rw [e2]
    exact e3
theorem forGo0 {g : D → E → Option E} {m : S} (Inv : Nat → E → Prop) {ds : List D} {ρ : E} (h : Inv 0 ρ)
    (st : ∀ j d ρ, ds[j]? = some d → Inv j ρ → ∃ ρ1 ρ2, g d ρ = some ρ1 ∧ m ρ1 = some (.nx ρ2) ∧ Inv (j + 1) ρ2) : ∃ ρ', forGo g m ds ρ = some (.nx ρ') ∧ Inv ds.length ρ' := by
  have := forGo_inv Inv ds 0 ρ h (by simpa using st)
  simpa using this
theorem rng_get {n j : Nat} {d : D} {lo : Int} (h : (rngD lo n)[j]? = some d) : j < n ∧ d = .int (lo + j) := by
  unfold rngD at h
  rw [List.getElem?_map] at h
  cases hr : (List.range n)[j]? with
  | none => rw [hr] at h; cases h
  | some k =>
    rw [hr] at h
    obtain ⟨hlt, ek⟩ := List.getElem?_eq_some_iff.mp hr
    simp only [List.getElem_range] at ek
    simp only [List.length_range] at hlt
    subst ek
    cases h
    exact ⟨hlt, rfl⟩
theorem rng_len {n : Nat} {lo : Int} : (rngD lo n).length = n := by unfold rngD; simp
theorem atI_map {α β : Type} {f : α → β} {xs : List α} {i : Int} : atI (xs.map f) i = (atI xs i).map f := by
  unfold atI
  rw [List.length_map]
  cases ixN xs.length i with
  | none => rfl
  | some j => simp [Option.bind]
theorem atI_lt {α : Type} {xs : List α} {j : Nat} (h : j < xs.length) : atI xs (j : Int) = some xs[j] := atI_nat (List.getElem?_eq_getElem h)
theorem atI_get' {α : Type} {xs : List α} {i : Int} (h0 : 0 ≤ i) (h : i.toNat < xs.length) : atI xs i = some xs[i.toNat] := by
  have := atI_lt h
  rwa [Int.toNat_of_nonneg h0] at this


theorem seq_nx {m n : S} {ρ ρ' : E} (h : m ρ = some (.nx ρ')) : sSeq m n ρ = n ρ' := by unfold sSeq; rw [h]; rfl
theorem seq_rt {m n : S} {ρ : E} {d : D} {f : Bool} (h : m ρ = some (.rt d f)) : sSeq m n ρ = some (.rt d f) := by unfold sSeq; rw [h]; rfl
theorem for_ok {mi : I} {g : D → E → Option E} {m : S} {ρ : E} {ds : List D} (h : mi ρ = some ds) : sFor mi g m ρ = forGo g m ds ρ := by unfold sFor; rw [h]; rfl
theorem iR1f_int {j : Int} {a : Fl} (h0 : 0 ≤ j) (h : j ≤ 100000) : iR1f [(.int j, a)] = some (rngD 0 j.toNat) := by
  have h2 : (2 : Int) ^ 62 = 4611686018427387904 := by decide
  unfold iR1f
  simp only []
  have : -(2 ^ 62) ≤ j ∧ j < 2 ^ 62 := by rw [h2]; exact ⟨by omega, by omega⟩
  rw [if_pos this]
theorem iR1_ok {n : As} {ρ : E} {count : Nat} {a : Fl} (h : n ρ = some [(.int count, a)]) (hc : count ≤ 100000) : iR1 n ρ = some (rngD 0 count) := by
  unfold iR1
  rw [h, Option.bind_some]
  have h1 : 0 ≤ (count : Int) := Int.natCast_nonneg _
  have h2 : (count : Int) ≤ 100000 := by omega
  exact (iR1f_int h1 h2).trans (congrArg (fun k => some (rngD 0 k)) (Int.toNat_natCast count))
theorem zero_add_nat {j : Nat} : (0 : Int) + (j : Int) = (j : Int) := Int.zero_add _
section
variable {i j : Int} {a b : Fl}
theorem fAdd_int : fAdd (.int i, a) (.int j, b) = some (.int (i + j), .pure) := rfl
theorem fSub_int : fSub (.int i, a) (.int j, b) = some (.int (i - j), .pure) := rfl
theorem fMul_r (h : -(2 ^ 64) < j ∧ j < 2 ^ 64) : fMul (.int i, a) (.int j, b) = some (.int (i * j), .pure) := by
  have : CMul i j := .inr h
  show ((if CMul i j then some (D.int (i * j)) else none).map fun d => (d, Fl.pure)).or _ = _
  rw [if_pos this]; rfl
theorem fMul_l (h : -(2 ^ 64) < i ∧ i < 2 ^ 64) : fMul (.int i, a) (.int j, b) = some (.int (i * j), .pure) := by
  have : CMul i j := .inl h
  show ((if CMul i j then some (D.int (i * j)) else none).map fun d => (d, Fl.pure)).or _ = _
  rw [if_pos this]; rfl
theorem fDiv_c (h : 0 < j ∧ j < 1073741824) : fDiv (.int i, a) (.int j, b) = some (.int (i / j), .pure) := by
  have : CDiv i j := h
  show ((if CDiv i j then some (D.int (i / j)) else none).map fun d => (d, Fl.pure)) = _
  rw [if_pos this]; rfl
theorem fMod_c (h : 0 < j) : fMod (.int i, a) (.int j, b) = some (.int (i % j), .pure) := by
  show ((if 0 < j then some (D.int (i % j)) else none).map fun d => (d, Fl.pure)) = _
  rw [if_pos h]; rfl
theorem fPow_c (h : CPow i j) : fPow (.int i, a) (.int j, b) = some (.int (i ^ j.toNat), .pure) := by
  show ((if CPow i j then some (D.int (i ^ j.toNat)) else none).map fun d => (d, Fl.pure)) = _
  rw [if_pos h]; rfl
theorem fLt_int : fLt (.int i, a) (.int j, b) = some (.bl (decide (i < j)), .pure) := rfl
theorem fLe_int : fLe (.int i, a) (.int j, b) = some (.bl (decide (i ≤ j)), .pure) := rfl
theorem fGt_int : fGt (.int i, a) (.int j, b) = some (.bl (decide (j < i)), .pure) := rfl
theorem fGe_int : fGe (.int i, a) (.int j, b) = some (.bl (decide (j ≤ i)), .pure) := rfl
theorem fAdd_tup {ds es : List D} : fAdd (.tup ds, a) (.tup es, b) = if ds.length + es.length ≤ lim then some (.tup (ds ++ es), .pure) else none := by
  show ((if ds.length + es.length ≤ lim then some ((.tup (ds ++ es), .pure) : D × Fl) else none).or none) = _
  rw [Option.or_none]
theorem fAdd_lst {ds es : List D} : fAdd (.lst ds, a) (.lst es, b) = if ds.length + es.length ≤ lim then some (.lst (ds ++ es), .fresh) else none := rfl
theorem fIx_lst {ds : List D} : fIx (.lst ds, a) (.int j, b) = (atI ds j).map fun d => (d, .pure) := rfl
theorem fIx_tup {ds : List D} : fIx (.tup ds, a) (.int j, b) = (atI ds j).map fun d => (d, .pure) := rfl
theorem fIx_frz {ds : List Int} : fIx (.frz ds, a) (.int j, b) = (atI ds j).map fun d => (.int d, .pure) := rfl
end
/-! ### ints in data -/
abbrev iL (xs : List Int) : List D := xs.map .int
theorem pys_iL : ∀ xs : List Int, pys (iL xs) = xs.map PyData.int
  | [] => rfl
  | x :: xs => by simp [iL, pys, py, pys_iL xs] <;> exact pys_iL xs
theorem eqv_int {i j : Int} : PyData.eqv (.int i) (.int j) = decide (i = j) := by
  simp only [PyData.eqv]; exact Bool.beq_eq_decide_eq i j
theorem okD_int {i : Int} : okD (.int i) = true := by simp [okD, isDat, py, SeqAt.shaped, PyData.canLay0, PyData.depth]
theorem fEq_int {i j : Int} {a b : Fl} : fEq (.int i, a) (.int j, b) = some (.bl (decide (i = j)), .pure) := by
  simp [fEq, okD_int, py, eqv_int]
theorem fNe_int {i j : Int} {a b : Fl} : fNe (.int i, a) (.int j, b) = some (.bl (!decide (i = j)), .pure) := by
  simp [fNe, okD_int, py, eqv_int]
theorem eqv_bl {i j : Bool} : PyData.eqv (.bool i) (.bool j) = decide (i = j) := by
  cases i <;> cases j <;> simp [PyData.eqv]
theorem okD_bl {i : Bool} : okD (.bl i) = true := by simp [okD, isDat, py, SeqAt.shaped, PyData.canLay0, PyData.depth]
theorem fEq_bl {i j : Bool} {a b : Fl} : fEq (.bl i, a) (.bl j, b) = some (.bl (decide (i = j)), .pure) := by
  simp [fEq, okD_bl, py, eqv_bl]
theorem fNe_bl {i j : Bool} {a b : Fl} : fNe (.bl i, a) (.bl j, b) = some (.bl (!decide (i = j)), .pure) := by
  simp [fNe, okD_bl, py, eqv_bl]
theorem imms_iL : ∀ xs : List Int, imms (iL xs) = true
  | [] => rfl
  | x :: xs => by simp only [iL, List.map_cons, imms, imm, Bool.true_and]; exact imms_iL xs

/-! ### networks made -/
theorem check_ok {w i j : Int} (h : 0 ≤ i ∧ i < w ∧ 0 ≤ j ∧ j < w ∧ i ≠ j) : f__check_comparer [.int w, .int i, .int j] = some (.non, false) := by
  obtain ⟨h1, h2, h3, h4, h5⟩ := h
  unfold f__check_comparer runF b__check_comparer
  simp only [List.map_cons, List.map_nil, List.length_cons, List.length_nil, Nat.sub_self, List.replicate, List.append_nil]
  rw [seq_nx (ρ' := [some (.int w, false), some (.int i, false), some (.int j, false)]) (by simp [sIf, sSet, sRet, sNil, sNo, sApp, sAug, sAsg, sExpr, sFrz, sPar, sRev, sRetN, frz1, mOp, mVar, mC, mB, mNot, mAnd, mOr, mNeg, mIf, bNot, bAnd, bOr, bYes, mTup, mLst, aNil, aCons, nb, mFn, fLen, fList, fTuple, fMax2, fMin2, mIsT, isT_int_int, isT_int_bl, isT_bool_int, isT_bool_bl, isT_tuple_tup, isT_list_lst, mIsNet, mWires, mComps, mChain, fAdd_int, fSub_int, fMul_r, fMul_l, fDiv_c, fMod_c, fPow_c, fLt_int, fLe_int, fGt_int, fGe_int, fEq_int, fNe_int, fEq_bl, fNe_bl, fAdd_tup, fAdd_lst, fIx_lst, fIx_tup, fIx_frz, mSl, pNone, pSome, fIsN, fIsB, gN, gT, gsN, gTs, gsNil, gsCons, gIx, mCall, mMeth, isNetD, postC, imm, imms, List.getElem?_cons_zero, List.getElem?_cons_succ, List.set_cons_zero, List.set_cons_succ, Option.bind_some, Option.bind_none, Option.map_some, Option.map_none, Option.or_some, Option.or_none, Option.none_or, List.map_cons, List.map_nil, List.all_cons, List.all_nil, Bool.and_true, Bool.true_and, Bool.and_false, Bool.false_and, if_true, if_false, reduceCtorEq, decide_true, decide_false, ne_eq, not_true_eq_false, not_false_eq_true, List.length_cons, List.length_nil, List.getElem?_nil, List.set_nil, reduceIte, Bool.false_eq_true, Int.reduceNeg, Int.reduceLT, Int.reduceLE, Int.reducePow, Nat.reducePow, Nat.reduceLT, Nat.reduceLeDiff, Nat.reduceAdd, Int.reduceToNat, and_self, Nat.zero_le, Bool.not_true, Bool.not_false, Bool.not_eq_true, zero_add_nat, h1, h2, h3, h4])]
  simp [sIf, sSet, sRet, sNil, sNo, sApp, sAug, sAsg, sExpr, sFrz, sPar, sRev, sRetN, frz1, mOp, mVar, mC, mB, mNot, mAnd, mOr, mNeg, mIf, bNot, bAnd, bOr, bYes, mTup, mLst, aNil, aCons, nb, mFn, fLen, fList, fTuple, fMax2, fMin2, mIsT, isT_int_int, isT_int_bl, isT_bool_int, isT_bool_bl, isT_tuple_tup, isT_list_lst, mIsNet, mWires, mComps, mChain, fAdd_int, fSub_int, fMul_r, fMul_l, fDiv_c, fMod_c, fPow_c, fLt_int, fLe_int, fGt_int, fGe_int, fEq_int, fNe_int, fEq_bl, fNe_bl, fAdd_tup, fAdd_lst, fIx_lst, fIx_tup, fIx_frz, mSl, pNone, pSome, fIsN, fIsB, gN, gT, gsN, gTs, gsNil, gsCons, gIx, mCall, mMeth, isNetD, postC, imm, imms, List.getElem?_cons_zero, List.getElem?_cons_succ, List.set_cons_zero, List.set_cons_succ, Option.bind_some, Option.bind_none, Option.map_some, Option.map_none, Option.or_some, Option.or_none, Option.none_or, List.map_cons, List.map_nil, List.all_cons, List.all_nil, Bool.and_true, Bool.true_and, Bool.and_false, Bool.false_and, if_true, if_false, reduceCtorEq, decide_true, decide_false, ne_eq, not_true_eq_false, not_false_eq_true, List.length_cons, List.length_nil, List.getElem?_nil, List.set_nil, reduceIte, Bool.false_eq_true, Int.reduceNeg, Int.reduceLT, Int.reduceLE, Int.reducePow, Nat.reducePow, Nat.reduceLT, Nat.reduceLeDiff, Nat.reduceAdd, Int.reduceToNat, and_self, Nat.zero_le, Bool.not_true, Bool.not_false, Bool.not_eq_true, zero_add_nat, h5]
theorem init_math : ∀ x w c ds, pairsOf c = some ds → 1 ≤ w → okPairs w ds = true → ds.length ≤ lim → ∃ ρ', sSeq b1_init (sSeq b2_init b3_init) [some (.opq x, false), some (.int w, false), some (c, false), none, none, none] = some (.nx ρ') ∧
      ρ'[0]? = some (some (.opq x, false)) ∧ ρ'[1]? = some (some (.int w, false)) ∧ ρ'[3]? = some (some (.tup ds, false)) := by
  intro x w c ds hc hw hok hl
  have e1 : b1_init [some (.opq x, false), some (.int w, false), some (c, false), none, none, none] = some (.nx [some (.opq x, false), some (.int w, false), some (c, false), none, none, none]) := by
    have : ¬ w < 1 := by omega
    simp [b1_init, sIf, sSet, sRet, sNil, sNo, sApp, sAug, sAsg, sExpr, sFrz, sPar, sRev, sRetN, frz1, mOp, mVar, mC, mB, mNot, mAnd, mOr, mNeg, mIf, bNot, bAnd, bOr, bYes, mTup, mLst, aNil, aCons, nb, mFn, fLen, fList, fTuple, fMax2, fMin2, mIsT, isT_int_int, isT_int_bl, isT_bool_int, isT_bool_bl, isT_tuple_tup, isT_list_lst, mIsNet, mWires, mComps, mChain, fAdd_int, fSub_int, fMul_r, fMul_l, fDiv_c, fMod_c, fPow_c, fLt_int, fLe_int, fGt_int, fGe_int, fEq_int, fNe_int, fEq_bl, fNe_bl, fAdd_tup, fAdd_lst, fIx_lst, fIx_tup, fIx_frz, mSl, pNone, pSome, fIsN, fIsB, gN, gT, gsN, gTs, gsNil, gsCons, gIx, mCall, mMeth, isNetD, postC, imm, imms, List.getElem?_cons_zero, List.getElem?_cons_succ, List.set_cons_zero, List.set_cons_succ, Option.bind_some, Option.bind_none, Option.map_some, Option.map_none, Option.or_some, Option.or_none, Option.none_or, List.map_cons, List.map_nil, List.all_cons, List.all_nil, Bool.and_true, Bool.true_and, Bool.and_false, Bool.false_and, if_true, if_false, reduceCtorEq, decide_true, decide_false, ne_eq, not_true_eq_false, not_false_eq_true, List.length_cons, List.length_nil, List.getElem?_nil, List.set_nil, reduceIte, Bool.false_eq_true, Int.reduceNeg, Int.reduceLT, Int.reduceLE, Int.reducePow, Nat.reducePow, Nat.reduceLT, Nat.reduceLeDiff, Nat.reduceAdd, Int.reduceToNat, and_self, Nat.zero_le, Bool.not_true, Bool.not_false, Bool.not_eq_true, zero_add_nat, this]
  have hgo : ∀ (l : List D) (ρ : E), ρ.length = 6 → okPairs w l = true → lcGo (gT [4, 5]) bYes (mTup (aCons (mVar 4) (aCons (mVar 5) aNil))) l ρ = some l := by
    intro l
    induction l with
    | nil => intro ρ _ _; rfl
    | cons d l ih =>
      intro ρ hρ h
      simp only [okPairs, List.all_cons, Bool.and_eq_true] at h
      have h1 := h.1
      unfold okPair at h1
      split at h1
      · rename_i i j
        obtain ⟨a0, a1, a2, a3, a4, a5, rfl⟩ : ∃ a0 a1 a2 a3 a4 a5, ρ = [a0, a1, a2, a3, a4, a5] := by
          match ρ, hρ with
          | [a0, a1, a2, a3, a4, a5], _ => exact ⟨_, _, _, _, _, _, rfl⟩
        unfold lcGo
        rw [ih _ hρ h.2]
        simp [sIf, sSet, sRet, sNil, sNo, sApp, sAug, sAsg, sExpr, sFrz, sPar, sRev, sRetN, frz1, mOp, mVar, mC, mB, mNot, mAnd, mOr, mNeg, mIf, bNot, bAnd, bOr, bYes, mTup, mLst, aNil, aCons, nb, mFn, fLen, fList, fTuple, fMax2, fMin2, mIsT, isT_int_int, isT_int_bl, isT_bool_int, isT_bool_bl, isT_tuple_tup, isT_list_lst, mIsNet, mWires, mComps, mChain, fAdd_int, fSub_int, fMul_r, fMul_l, fDiv_c, fMod_c, fPow_c, fLt_int, fLe_int, fGt_int, fGe_int, fEq_int, fNe_int, fEq_bl, fNe_bl, fAdd_tup, fAdd_lst, fIx_lst, fIx_tup, fIx_frz, mSl, pNone, pSome, fIsN, fIsB, gN, gT, gsN, gTs, gsNil, gsCons, gIx, mCall, mMeth, isNetD, postC, imm, imms, List.getElem?_cons_zero, List.getElem?_cons_succ, List.set_cons_zero, List.set_cons_succ, Option.bind_some, Option.bind_none, Option.map_some, Option.map_none, Option.or_some, Option.or_none, Option.none_or, List.map_cons, List.map_nil, List.all_cons, List.all_nil, Bool.and_true, Bool.true_and, Bool.and_false, Bool.false_and, if_true, if_false, reduceCtorEq, decide_true, decide_false, ne_eq, not_true_eq_false, not_false_eq_true, List.length_cons, List.length_nil, List.getElem?_nil, List.set_nil, reduceIte, Bool.false_eq_true, Int.reduceNeg, Int.reduceLT, Int.reduceLE, Int.reducePow, Nat.reducePow, Nat.reduceLT, Nat.reduceLeDiff, Nat.reduceAdd, Int.reduceToNat, and_self, Nat.zero_le, Bool.not_true, Bool.not_false, Bool.not_eq_true, zero_add_nat, lim]
      · cases h1
  have hi : iS true (mVar 2) [some (.opq x, false), some (.int w, false), some (c, false), none, none, none] = some ds := by
    cases c <;> simp [pairsOf] at hc <;> subst hc <;> simp [iS, sIf, sSet, sRet, sNil, sNo, sApp, sAug, sAsg, sExpr, sFrz, sPar, sRev, sRetN, frz1, mOp, mVar, mC, mB, mNot, mAnd, mOr, mNeg, mIf, bNot, bAnd, bOr, bYes, mTup, mLst, aNil, aCons, nb, mFn, fLen, fList, fTuple, fMax2, fMin2, mIsT, isT_int_int, isT_int_bl, isT_bool_int, isT_bool_bl, isT_tuple_tup, isT_list_lst, mIsNet, mWires, mComps, mChain, fAdd_int, fSub_int, fMul_r, fMul_l, fDiv_c, fMod_c, fPow_c, fLt_int, fLe_int, fGt_int, fGe_int, fEq_int, fNe_int, fEq_bl, fNe_bl, fAdd_tup, fAdd_lst, fIx_lst, fIx_tup, fIx_frz, mSl, pNone, pSome, fIsN, fIsB, gN, gT, gsN, gTs, gsNil, gsCons, gIx, mCall, mMeth, isNetD, postC, imm, imms, List.getElem?_cons_zero, List.getElem?_cons_succ, List.set_cons_zero, List.set_cons_succ, Option.bind_some, Option.bind_none, Option.map_some, Option.map_none, Option.or_some, Option.or_none, Option.none_or, List.map_cons, List.map_nil, List.all_cons, List.all_nil, Bool.and_true, Bool.true_and, Bool.and_false, Bool.false_and, if_true, if_false, reduceCtorEq, decide_true, decide_false, ne_eq, not_true_eq_false, not_false_eq_true, List.length_cons, List.length_nil, List.getElem?_nil, List.set_nil, reduceIte, Bool.false_eq_true, Int.reduceNeg, Int.reduceLT, Int.reduceLE, Int.reducePow, Nat.reducePow, Nat.reduceLT, Nat.reduceLeDiff, Nat.reduceAdd, Int.reduceToNat, and_self, Nat.zero_le, Bool.not_true, Bool.not_false, Bool.not_eq_true, zero_add_nat]
  have e2 : b2_init [some (.opq x, false), some (.int w, false), some (c, false), none, none, none] = some (.nx [some (.opq x, false), some (.int w, false), some (c, false), some (.tup ds, false), none, none]) := by
    unfold b2_init
    simp only [sSet, mFn, aCons, mLc, hi, Option.bind_some, if_pos hl]
    rw [hgo ds _ (by simp [wipeE]) hok]
    simp [sIf, sSet, sRet, sNil, sNo, sApp, sAug, sAsg, sExpr, sFrz, sPar, sRev, sRetN, frz1, mOp, mVar, mC, mB, mNot, mAnd, mOr, mNeg, mIf, bNot, bAnd, bOr, bYes, mTup, mLst, aNil, aCons, nb, mFn, fLen, fList, fTuple, fMax2, fMin2, mIsT, isT_int_int, isT_int_bl, isT_bool_int, isT_bool_bl, isT_tuple_tup, isT_list_lst, mIsNet, mWires, mComps, mChain, fAdd_int, fSub_int, fMul_r, fMul_l, fDiv_c, fMod_c, fPow_c, fLt_int, fLe_int, fGt_int, fGe_int, fEq_int, fNe_int, fEq_bl, fNe_bl, fAdd_tup, fAdd_lst, fIx_lst, fIx_tup, fIx_frz, mSl, pNone, pSome, fIsN, fIsB, gN, gT, gsN, gTs, gsNil, gsCons, gIx, mCall, mMeth, isNetD, postC, imm, imms, List.getElem?_cons_zero, List.getElem?_cons_succ, List.set_cons_zero, List.set_cons_succ, Option.bind_some, Option.bind_none, Option.map_some, Option.map_none, Option.or_some, Option.or_none, Option.none_or, List.map_cons, List.map_nil, List.all_cons, List.all_nil, Bool.and_true, Bool.true_and, Bool.and_false, Bool.false_and, if_true, if_false, reduceCtorEq, decide_true, decide_false, ne_eq, not_true_eq_false, not_false_eq_true, List.length_cons, List.length_nil, List.getElem?_nil, List.set_nil, reduceIte, Bool.false_eq_true, Int.reduceNeg, Int.reduceLT, Int.reduceLE, Int.reducePow, Nat.reducePow, Nat.reduceLT, Nat.reduceLeDiff, Nat.reduceAdd, Int.reduceToNat, and_self, Nat.zero_le, Bool.not_true, Bool.not_false, Bool.not_eq_true, zero_add_nat]
  have e3 : ∃ a b, b3_init [some (.opq x, false), some (.int w, false), some (c, false), some (.tup ds, false), none, none] = some (.nx [some (.opq x, false), some (.int w, false), some (c, false), some (.tup ds, false), a, b]) := by
    unfold b3_init
    obtain ⟨ρ', h1, a, b, h2⟩ := forGo0 (g := gTs 2 (gsCons (gN 4) (gsCons (gN 5) gsNil))) (m := sExpr (mCall f__check_comparer (aCons (mVar 1) (aCons (mVar 4) (aCons (mVar 5) aNil)))))
      (fun _ ρ => ∃ a b, ρ = [some (.opq x, false), some (.int w, false), some (c, false), some (.tup ds, false), a, b]) (ds := ds) (ρ := [some (.opq x, false), some (.int w, false), some (c, false), some (.tup ds, false), none, none]) ⟨none, none, rfl⟩ (by
        rintro j d ρ hd ⟨a, b, rfl⟩
        have hp : okPair w d = true := List.all_eq_true.mp hok d (List.mem_of_getElem? hd)
        unfold okPair at hp
        split at hp
        · rename_i i k
          simp only [decide_eq_true_eq] at hp
          refine ⟨[some (.opq x, false), some (.int w, false), some (c, false), some (.tup ds, false), some (.int i, false), some (.int k, false)], [some (.opq x, false), some (.int w, false), some (c, false), some (.tup ds, false), some (.int i, false), some (.int k, false)], by simp [sIf, sSet, sRet, sNil, sNo, sApp, sAug, sAsg, sExpr, sFrz, sPar, sRev, sRetN, frz1, mOp, mVar, mC, mB, mNot, mAnd, mOr, mNeg, mIf, bNot, bAnd, bOr, bYes, mTup, mLst, aNil, aCons, nb, mFn, fLen, fList, fTuple, fMax2, fMin2, mIsT, isT_int_int, isT_int_bl, isT_bool_int, isT_bool_bl, isT_tuple_tup, isT_list_lst, mIsNet, mWires, mComps, mChain, fAdd_int, fSub_int, fMul_r, fMul_l, fDiv_c, fMod_c, fPow_c, fLt_int, fLe_int, fGt_int, fGe_int, fEq_int, fNe_int, fEq_bl, fNe_bl, fAdd_tup, fAdd_lst, fIx_lst, fIx_tup, fIx_frz, mSl, pNone, pSome, fIsN, fIsB, gN, gT, gsN, gTs, gsNil, gsCons, gIx, mCall, mMeth, isNetD, postC, imm, imms, List.getElem?_cons_zero, List.getElem?_cons_succ, List.set_cons_zero, List.set_cons_succ, Option.bind_some, Option.bind_none, Option.map_some, Option.map_none, Option.or_some, Option.or_none, Option.none_or, List.map_cons, List.map_nil, List.all_cons, List.all_nil, Bool.and_true, Bool.true_and, Bool.and_false, Bool.false_and, if_true, if_false, reduceCtorEq, decide_true, decide_false, ne_eq, not_true_eq_false, not_false_eq_true, List.length_cons, List.length_nil, List.getElem?_nil, List.set_nil, reduceIte, Bool.false_eq_true, Int.reduceNeg, Int.reduceLT, Int.reduceLE, Int.reducePow, Nat.reducePow, Nat.reduceLT, Nat.reduceLeDiff, Nat.reduceAdd, Int.reduceToNat, and_self, Nat.zero_le, Bool.not_true, Bool.not_false, Bool.not_eq_true, zero_add_nat], ?_, ⟨_, _, rfl⟩⟩
          simp [sIf, sSet, sRet, sNil, sNo, sApp, sAug, sAsg, sExpr, sFrz, sPar, sRev, sRetN, frz1, mOp, mVar, mC, mB, mNot, mAnd, mOr, mNeg, mIf, bNot, bAnd, bOr, bYes, mTup, mLst, aNil, aCons, nb, mFn, fLen, fList, fTuple, fMax2, fMin2, mIsT, isT_int_int, isT_int_bl, isT_bool_int, isT_bool_bl, isT_tuple_tup, isT_list_lst, mIsNet, mWires, mComps, mChain, fAdd_int, fSub_int, fMul_r, fMul_l, fDiv_c, fMod_c, fPow_c, fLt_int, fLe_int, fGt_int, fGe_int, fEq_int, fNe_int, fEq_bl, fNe_bl, fAdd_tup, fAdd_lst, fIx_lst, fIx_tup, fIx_frz, mSl, pNone, pSome, fIsN, fIsB, gN, gT, gsN, gTs, gsNil, gsCons, gIx, mCall, mMeth, isNetD, postC, imm, imms, List.getElem?_cons_zero, List.getElem?_cons_succ, List.set_cons_zero, List.set_cons_succ, Option.bind_some, Option.bind_none, Option.map_some, Option.map_none, Option.or_some, Option.or_none, Option.none_or, List.map_cons, List.map_nil, List.all_cons, List.all_nil, Bool.and_true, Bool.true_and, Bool.and_false, Bool.false_and, if_true, if_false, reduceCtorEq, decide_true, decide_false, ne_eq, not_true_eq_false, not_false_eq_true, List.length_cons, List.length_nil, List.getElem?_nil, List.set_nil, reduceIte, Bool.false_eq_true, Int.reduceNeg, Int.reduceLT, Int.reduceLE, Int.reducePow, Nat.reducePow, Nat.reduceLT, Nat.reduceLeDiff, Nat.reduceAdd, Int.reduceToNat, and_self, Nat.zero_le, Bool.not_true, Bool.not_false, Bool.not_eq_true, zero_add_nat, check_ok hp]
        · cases hp)
    refine ⟨a, b, ?_⟩
    rw [← h2, ← h1]
    simp [sIf, sSet, sRet, sNil, sNo, sApp, sAug, sAsg, sExpr, sFrz, sPar, sRev, sRetN, frz1, mOp, mVar, mC, mB, mNot, mAnd, mOr, mNeg, mIf, bNot, bAnd, bOr, bYes, mTup, mLst, aNil, aCons, nb, mFn, fLen, fList, fTuple, fMax2, fMin2, mIsT, isT_int_int, isT_int_bl, isT_bool_int, isT_bool_bl, isT_tuple_tup, isT_list_lst, mIsNet, mWires, mComps, mChain, fAdd_int, fSub_int, fMul_r, fMul_l, fDiv_c, fMod_c, fPow_c, fLt_int, fLe_int, fGt_int, fGe_int, fEq_int, fNe_int, fEq_bl, fNe_bl, fAdd_tup, fAdd_lst, fIx_lst, fIx_tup, fIx_frz, mSl, pNone, pSome, fIsN, fIsB, gN, gT, gsN, gTs, gsNil, gsCons, gIx, mCall, mMeth, isNetD, postC, imm, imms, List.getElem?_cons_zero, List.getElem?_cons_succ, List.set_cons_zero, List.set_cons_succ, Option.bind_some, Option.bind_none, Option.map_some, Option.map_none, Option.or_some, Option.or_none, Option.none_or, List.map_cons, List.map_nil, List.all_cons, List.all_nil, Bool.and_true, Bool.true_and, Bool.and_false, Bool.false_and, if_true, if_false, reduceCtorEq, decide_true, decide_false, ne_eq, not_true_eq_false, not_false_eq_true, List.length_cons, List.length_nil, List.getElem?_nil, List.set_nil, reduceIte, Bool.false_eq_true, Int.reduceNeg, Int.reduceLT, Int.reduceLE, Int.reducePow, Nat.reducePow, Nat.reduceLT, Nat.reduceLeDiff, Nat.reduceAdd, Int.reduceToNat, and_self, Nat.zero_le, Bool.not_true, Bool.not_false, Bool.not_eq_true, zero_add_nat, sFor, iS]
  obtain ⟨a, b, e3⟩ := e3
  refine ⟨[some (.opq x, false), some (.int w, false), some (c, false), some (.tup ds, false), a, b], ?_, rfl, rfl, rfl⟩
  rw [seq_nx e1, seq_nx e2, e3]



end LwI
namespace Lw
open PySem Ty
open L2 (ixN atI)
open Dt (cutD srtI bestMax bestMin lexLe)
theorem numbers_ok (script : List Int) (count : Int) (h0 : 0 ≤ count ∧ count ≤ 1000) : Ok (t__law_numbers_F_I script count) fun ns => ns.length = count.toNat ∧ ∀ x ∈ ns, 0 ≤ x ∧ x < 1000000 := by
  unfold t__law_numbers_F_I
  ((repeat (with_reducible first | refine ok_some ?_ | refine ok_bind ?_ | refine ok_op1 ?_ | refine ok_op2 ?_ | refine ok_op3 ?_ | refine ok_op4 ?_ | refine ok_op5 ?_ | refine ok_map ?_ | refine ok_not ?_ | refine ok_if ?_ | refine ok_nxt ?_ | refine ok_ret ?_ | refine ok_cons ?_ | refine ok_add ?_ | refine ok_sub ?_ | refine ok_neg ?_ | refine ok_lt ?_ | refine ok_le ?_ | refine ok_gt ?_ | refine ok_ge ?_ | refine ok_teq ?_ | refine ok_tne ?_ | refine ok_in ?_ | refine ok_nin ?_ | refine ok_len ?_ | refine ok_id ?_ | refine ok_mod (by decide) ?_ | refine ok_div (by decide) ?_ | refine ok_mulr (by decide) ?_ | refine ok_mull (by decide) ?_ | refine ok_pow (by decide) ?_ | refine ok_dis (by simp) ?_ | refine ok_cut ?_ | refine ok_sort ?_ | refine ok_zip ?_ | refine ok_all ?_ | refine ok_any ?_ | refine ok_max2 ?_ | refine ok_min2 ?_ | refine ok_pair ?_ | refine ok_cnt ?_ | refine ok_isB ?_ | refine ok_notB ?_)) <;> try dsimp only)
  refine ⟨fun h => ?_, fun h => ?_⟩
  · simp only [decide_eq_true_eq] at h
    ((repeat (with_reducible first | refine ok_some ?_ | refine ok_bind ?_ | refine ok_op1 ?_ | refine ok_op2 ?_ | refine ok_op3 ?_ | refine ok_op4 ?_ | refine ok_op5 ?_ | refine ok_map ?_ | refine ok_not ?_ | refine ok_if ?_ | refine ok_nxt ?_ | refine ok_ret ?_ | refine ok_cons ?_ | refine ok_add ?_ | refine ok_sub ?_ | refine ok_neg ?_ | refine ok_lt ?_ | refine ok_le ?_ | refine ok_gt ?_ | refine ok_ge ?_ | refine ok_teq ?_ | refine ok_tne ?_ | refine ok_in ?_ | refine ok_nin ?_ | refine ok_len ?_ | refine ok_id ?_ | refine ok_mod (by decide) ?_ | refine ok_div (by decide) ?_ | refine ok_mulr (by decide) ?_ | refine ok_mull (by decide) ?_ | refine ok_pow (by decide) ?_ | refine ok_dis (by simp) ?_ | refine ok_cut ?_ | refine ok_sort ?_ | refine ok_zip ?_ | refine ok_all ?_ | refine ok_any ?_ | refine ok_max2 ?_ | refine ok_min2 ?_ | refine ok_pair ?_ | refine ok_cnt ?_ | refine ok_isB ?_ | refine ok_notB ?_)) <;> try dsimp only)
    refine ok_ixI ⟨by omega, by omega⟩ ?_
    generalize gI script 0 = r
    ((repeat (with_reducible first | refine ok_some ?_ | refine ok_bind ?_ | refine ok_op1 ?_ | refine ok_op2 ?_ | refine ok_op3 ?_ | refine ok_op4 ?_ | refine ok_op5 ?_ | refine ok_map ?_ | refine ok_not ?_ | refine ok_if ?_ | refine ok_nxt ?_ | refine ok_ret ?_ | refine ok_cons ?_ | refine ok_add ?_ | refine ok_sub ?_ | refine ok_neg ?_ | refine ok_lt ?_ | refine ok_le ?_ | refine ok_gt ?_ | refine ok_ge ?_ | refine ok_teq ?_ | refine ok_tne ?_ | refine ok_in ?_ | refine ok_nin ?_ | refine ok_len ?_ | refine ok_id ?_ | refine ok_mod (by decide) ?_ | refine ok_div (by decide) ?_ | refine ok_mulr (by decide) ?_ | refine ok_mull (by decide) ?_ | refine ok_pow (by decide) ?_ | refine ok_dis (by simp) ?_ | refine ok_cut ?_ | refine ok_sort ?_ | refine ok_zip ?_ | refine ok_all ?_ | refine ok_any ?_ | refine ok_max2 ?_ | refine ok_min2 ?_ | refine ok_pair ?_ | refine ok_cnt ?_ | refine ok_isB ?_ | refine ok_notB ?_)) <;> try dsimp only)
    refine ok_r1 (by omega) ?_
    refine ok_fold (fun i s => s.2.length = i ∧ ∀ x ∈ s.2, 0 ≤ x ∧ x < 1000000) ⟨rfl, by simp⟩ ?_ ?_
    · rintro i x ⟨q, l⟩ hx ⟨hl, hb⟩
      obtain ⟨hi, rfl⟩ := rng_get hx
      simp only at hl hb
      have happ : ∀ y : Int, 0 ≤ y → y < 1000000 → (l ++ [y]).length = i + 1 ∧ ∀ x ∈ l ++ [y], 0 ≤ x ∧ x < 1000000 := by
        intro y y0 y1
        refine ⟨by rw [List.length_append, hl]; rfl, fun z hz => ?_⟩
        rcases List.mem_append.mp hz with hz | hz
        · exact hb z hz
        · rw [List.mem_singleton.mp hz]; exact ⟨y0, y1⟩
      ((repeat (with_reducible first | refine ok_some ?_ | refine ok_bind ?_ | refine ok_op1 ?_ | refine ok_op2 ?_ | refine ok_op3 ?_ | refine ok_op4 ?_ | refine ok_op5 ?_ | refine ok_map ?_ | refine ok_not ?_ | refine ok_if ?_ | refine ok_nxt ?_ | refine ok_ret ?_ | refine ok_cons ?_ | refine ok_add ?_ | refine ok_sub ?_ | refine ok_neg ?_ | refine ok_lt ?_ | refine ok_le ?_ | refine ok_gt ?_ | refine ok_ge ?_ | refine ok_teq ?_ | refine ok_tne ?_ | refine ok_in ?_ | refine ok_nin ?_ | refine ok_len ?_ | refine ok_id ?_ | refine ok_mod (by decide) ?_ | refine ok_div (by decide) ?_ | refine ok_mulr (by decide) ?_ | refine ok_mull (by decide) ?_ | refine ok_pow (by decide) ?_ | refine ok_dis (by simp) ?_ | refine ok_cut ?_ | refine ok_sort ?_ | refine ok_zip ?_ | refine ok_all ?_ | refine ok_any ?_ | refine ok_max2 ?_ | refine ok_min2 ?_ | refine ok_pair ?_ | refine ok_cnt ?_ | refine ok_isB ?_ | refine ok_notB ?_)) <;> try dsimp only)
      refine ok_and2 ?_
      ((repeat (with_reducible first | refine ok_some ?_ | refine ok_bind ?_ | refine ok_op1 ?_ | refine ok_op2 ?_ | refine ok_op3 ?_ | refine ok_op4 ?_ | refine ok_op5 ?_ | refine ok_map ?_ | refine ok_not ?_ | refine ok_if ?_ | refine ok_nxt ?_ | refine ok_ret ?_ | refine ok_cons ?_ | refine ok_add ?_ | refine ok_sub ?_ | refine ok_neg ?_ | refine ok_lt ?_ | refine ok_le ?_ | refine ok_gt ?_ | refine ok_ge ?_ | refine ok_teq ?_ | refine ok_tne ?_ | refine ok_in ?_ | refine ok_nin ?_ | refine ok_len ?_ | refine ok_id ?_ | refine ok_mod (by decide) ?_ | refine ok_div (by decide) ?_ | refine ok_mulr (by decide) ?_ | refine ok_mull (by decide) ?_ | refine ok_pow (by decide) ?_ | refine ok_dis (by simp) ?_ | refine ok_cut ?_ | refine ok_sort ?_ | refine ok_zip ?_ | refine ok_all ?_ | refine ok_any ?_ | refine ok_max2 ?_ | refine ok_min2 ?_ | refine ok_pair ?_ | refine ok_cnt ?_ | refine ok_isB ?_ | refine ok_notB ?_)) <;> try dsimp only)
      refine ⟨fun _ => ?_, fun _ => ?_⟩
      · ((repeat (with_reducible first | refine ok_some ?_ | refine ok_bind ?_ | refine ok_op1 ?_ | refine ok_op2 ?_ | refine ok_op3 ?_ | refine ok_op4 ?_ | refine ok_op5 ?_ | refine ok_map ?_ | refine ok_not ?_ | refine ok_if ?_ | refine ok_nxt ?_ | refine ok_ret ?_ | refine ok_cons ?_ | refine ok_add ?_ | refine ok_sub ?_ | refine ok_neg ?_ | refine ok_lt ?_ | refine ok_le ?_ | refine ok_gt ?_ | refine ok_ge ?_ | refine ok_teq ?_ | refine ok_tne ?_ | refine ok_in ?_ | refine ok_nin ?_ | refine ok_len ?_ | refine ok_id ?_ | refine ok_mod (by decide) ?_ | refine ok_div (by decide) ?_ | refine ok_mulr (by decide) ?_ | refine ok_mull (by decide) ?_ | refine ok_pow (by decide) ?_ | refine ok_dis (by simp) ?_ | refine ok_cut ?_ | refine ok_sort ?_ | refine ok_zip ?_ | refine ok_all ?_ | refine ok_any ?_ | refine ok_max2 ?_ | refine ok_min2 ?_ | refine ok_pair ?_ | refine ok_cnt ?_ | refine ok_isB ?_ | refine ok_notB ?_)) <;> try dsimp only)
        refine ok_app (by omega) ?_
        ((repeat (with_reducible first | refine ok_some ?_ | refine ok_bind ?_ | refine ok_op1 ?_ | refine ok_op2 ?_ | refine ok_op3 ?_ | refine ok_op4 ?_ | refine ok_op5 ?_ | refine ok_map ?_ | refine ok_not ?_ | refine ok_if ?_ | refine ok_nxt ?_ | refine ok_ret ?_ | refine ok_cons ?_ | refine ok_add ?_ | refine ok_sub ?_ | refine ok_neg ?_ | refine ok_lt ?_ | refine ok_le ?_ | refine ok_gt ?_ | refine ok_ge ?_ | refine ok_teq ?_ | refine ok_tne ?_ | refine ok_in ?_ | refine ok_nin ?_ | refine ok_len ?_ | refine ok_id ?_ | refine ok_mod (by decide) ?_ | refine ok_div (by decide) ?_ | refine ok_mulr (by decide) ?_ | refine ok_mull (by decide) ?_ | refine ok_pow (by decide) ?_ | refine ok_dis (by simp) ?_ | refine ok_cut ?_ | refine ok_sort ?_ | refine ok_zip ?_ | refine ok_all ?_ | refine ok_any ?_ | refine ok_max2 ?_ | refine ok_min2 ?_ | refine ok_pair ?_ | refine ok_cnt ?_ | refine ok_isB ?_ | refine ok_notB ?_)) <;> try dsimp only)
        exact happ _ (by omega) (by omega)
      · ((repeat (with_reducible first | refine ok_some ?_ | refine ok_bind ?_ | refine ok_op1 ?_ | refine ok_op2 ?_ | refine ok_op3 ?_ | refine ok_op4 ?_ | refine ok_op5 ?_ | refine ok_map ?_ | refine ok_not ?_ | refine ok_if ?_ | refine ok_nxt ?_ | refine ok_ret ?_ | refine ok_cons ?_ | refine ok_add ?_ | refine ok_sub ?_ | refine ok_neg ?_ | refine ok_lt ?_ | refine ok_le ?_ | refine ok_gt ?_ | refine ok_ge ?_ | refine ok_teq ?_ | refine ok_tne ?_ | refine ok_in ?_ | refine ok_nin ?_ | refine ok_len ?_ | refine ok_id ?_ | refine ok_mod (by decide) ?_ | refine ok_div (by decide) ?_ | refine ok_mulr (by decide) ?_ | refine ok_mull (by decide) ?_ | refine ok_pow (by decide) ?_ | refine ok_dis (by simp) ?_ | refine ok_cut ?_ | refine ok_sort ?_ | refine ok_zip ?_ | refine ok_all ?_ | refine ok_any ?_ | refine ok_max2 ?_ | refine ok_min2 ?_ | refine ok_pair ?_ | refine ok_cnt ?_ | refine ok_isB ?_ | refine ok_notB ?_)) <;> try dsimp only)
        refine ⟨fun _ => ?_, fun hh => by simp only [decide_eq_false_iff_not] at hh; omega⟩
        ((repeat (with_reducible first | refine ok_some ?_ | refine ok_bind ?_ | refine ok_op1 ?_ | refine ok_op2 ?_ | refine ok_op3 ?_ | refine ok_op4 ?_ | refine ok_op5 ?_ | refine ok_map ?_ | refine ok_not ?_ | refine ok_if ?_ | refine ok_nxt ?_ | refine ok_ret ?_ | refine ok_cons ?_ | refine ok_add ?_ | refine ok_sub ?_ | refine ok_neg ?_ | refine ok_lt ?_ | refine ok_le ?_ | refine ok_gt ?_ | refine ok_ge ?_ | refine ok_teq ?_ | refine ok_tne ?_ | refine ok_in ?_ | refine ok_nin ?_ | refine ok_len ?_ | refine ok_id ?_ | refine ok_mod (by decide) ?_ | refine ok_div (by decide) ?_ | refine ok_mulr (by decide) ?_ | refine ok_mull (by decide) ?_ | refine ok_pow (by decide) ?_ | refine ok_dis (by simp) ?_ | refine ok_cut ?_ | refine ok_sort ?_ | refine ok_zip ?_ | refine ok_all ?_ | refine ok_any ?_ | refine ok_max2 ?_ | refine ok_min2 ?_ | refine ok_pair ?_ | refine ok_cnt ?_ | refine ok_isB ?_ | refine ok_notB ?_)) <;> try dsimp only)
        have hm0 := Int.emod_nonneg ((0 : Int) + i) (show ((script.length : Nat) : Int) ≠ 0 by omega)
        have hm1 := Int.emod_lt_of_pos ((0 : Int) + i) (show (0 : Int) < ((script.length : Nat) : Int) by omega)
        refine ok_mod (by omega) (ok_ixI ⟨hm0, hm1⟩ ?_)
        ((repeat (with_reducible first | refine ok_some ?_ | refine ok_bind ?_ | refine ok_op1 ?_ | refine ok_op2 ?_ | refine ok_op3 ?_ | refine ok_op4 ?_ | refine ok_op5 ?_ | refine ok_map ?_ | refine ok_not ?_ | refine ok_if ?_ | refine ok_nxt ?_ | refine ok_ret ?_ | refine ok_cons ?_ | refine ok_add ?_ | refine ok_sub ?_ | refine ok_neg ?_ | refine ok_lt ?_ | refine ok_le ?_ | refine ok_gt ?_ | refine ok_ge ?_ | refine ok_teq ?_ | refine ok_tne ?_ | refine ok_in ?_ | refine ok_nin ?_ | refine ok_len ?_ | refine ok_id ?_ | refine ok_mod (by decide) ?_ | refine ok_div (by decide) ?_ | refine ok_mulr (by decide) ?_ | refine ok_mull (by decide) ?_ | refine ok_pow (by decide) ?_ | refine ok_dis (by simp) ?_ | refine ok_cut ?_ | refine ok_sort ?_ | refine ok_zip ?_ | refine ok_all ?_ | refine ok_any ?_ | refine ok_max2 ?_ | refine ok_min2 ?_ | refine ok_pair ?_ | refine ok_cnt ?_ | refine ok_isB ?_ | refine ok_notB ?_)) <;> try dsimp only)
        refine ok_app (by omega) ?_
        ((repeat (with_reducible first | refine ok_some ?_ | refine ok_bind ?_ | refine ok_op1 ?_ | refine ok_op2 ?_ | refine ok_op3 ?_ | refine ok_op4 ?_ | refine ok_op5 ?_ | refine ok_map ?_ | refine ok_not ?_ | refine ok_if ?_ | refine ok_nxt ?_ | refine ok_ret ?_ | refine ok_cons ?_ | refine ok_add ?_ | refine ok_sub ?_ | refine ok_neg ?_ | refine ok_lt ?_ | refine ok_le ?_ | refine ok_gt ?_ | refine ok_ge ?_ | refine ok_teq ?_ | refine ok_tne ?_ | refine ok_in ?_ | refine ok_nin ?_ | refine ok_len ?_ | refine ok_id ?_ | refine ok_mod (by decide) ?_ | refine ok_div (by decide) ?_ | refine ok_mulr (by decide) ?_ | refine ok_mull (by decide) ?_ | refine ok_pow (by decide) ?_ | refine ok_dis (by simp) ?_ | refine ok_cut ?_ | refine ok_sort ?_ | refine ok_zip ?_ | refine ok_all ?_ | refine ok_any ?_ | refine ok_max2 ?_ | refine ok_min2 ?_ | refine ok_pair ?_ | refine ok_cnt ?_ | refine ok_isB ?_ | refine ok_notB ?_)) <;> try dsimp only)
        exact happ _ (Int.emod_nonneg _ (by decide)) (Int.emod_lt_of_pos _ (by decide))
    · rintro ⟨q, l⟩ ⟨hl, hb⟩
      ((repeat (with_reducible first | refine ok_some ?_ | refine ok_bind ?_ | refine ok_op1 ?_ | refine ok_op2 ?_ | refine ok_op3 ?_ | refine ok_op4 ?_ | refine ok_op5 ?_ | refine ok_map ?_ | refine ok_not ?_ | refine ok_if ?_ | refine ok_nxt ?_ | refine ok_ret ?_ | refine ok_cons ?_ | refine ok_add ?_ | refine ok_sub ?_ | refine ok_neg ?_ | refine ok_lt ?_ | refine ok_le ?_ | refine ok_gt ?_ | refine ok_ge ?_ | refine ok_teq ?_ | refine ok_tne ?_ | refine ok_in ?_ | refine ok_nin ?_ | refine ok_len ?_ | refine ok_id ?_ | refine ok_mod (by decide) ?_ | refine ok_div (by decide) ?_ | refine ok_mulr (by decide) ?_ | refine ok_mull (by decide) ?_ | refine ok_pow (by decide) ?_ | refine ok_dis (by simp) ?_ | refine ok_cut ?_ | refine ok_sort ?_ | refine ok_zip ?_ | refine ok_all ?_ | refine ok_any ?_ | refine ok_max2 ?_ | refine ok_min2 ?_ | refine ok_pair ?_ | refine ok_cnt ?_ | refine ok_isB ?_ | refine ok_notB ?_)) <;> try dsimp only)
      rw [rng_len] at hl
      first | exact ⟨hl, hb⟩ | exact ⟨(List.length_reverse (as := l)).trans hl, fun x hx => hb x (List.mem_reverse.mp hx)⟩
  · simp only [decide_eq_false_iff_not] at h
    ((repeat (with_reducible first | refine ok_some ?_ | refine ok_bind ?_ | refine ok_op1 ?_ | refine ok_op2 ?_ | refine ok_op3 ?_ | refine ok_op4 ?_ | refine ok_op5 ?_ | refine ok_map ?_ | refine ok_not ?_ | refine ok_if ?_ | refine ok_nxt ?_ | refine ok_ret ?_ | refine ok_cons ?_ | refine ok_add ?_ | refine ok_sub ?_ | refine ok_neg ?_ | refine ok_lt ?_ | refine ok_le ?_ | refine ok_gt ?_ | refine ok_ge ?_ | refine ok_teq ?_ | refine ok_tne ?_ | refine ok_in ?_ | refine ok_nin ?_ | refine ok_len ?_ | refine ok_id ?_ | refine ok_mod (by decide) ?_ | refine ok_div (by decide) ?_ | refine ok_mulr (by decide) ?_ | refine ok_mull (by decide) ?_ | refine ok_pow (by decide) ?_ | refine ok_dis (by simp) ?_ | refine ok_cut ?_ | refine ok_sort ?_ | refine ok_zip ?_ | refine ok_all ?_ | refine ok_any ?_ | refine ok_max2 ?_ | refine ok_min2 ?_ | refine ok_pair ?_ | refine ok_cnt ?_ | refine ok_isB ?_ | refine ok_notB ?_)) <;> try dsimp only)
    refine ok_r1 (by omega) ?_
    refine ok_fold (fun i s => s.1 = 0 ∧ s.2.length = i ∧ ∀ x ∈ s.2, 0 ≤ x ∧ x < 1000000) ⟨rfl, rfl, by simp⟩ ?_ ?_
    · rintro i x ⟨q, l⟩ hx ⟨hq, hl, hb⟩
      obtain ⟨hi, rfl⟩ := rng_get hx
      simp only at hl hb hq
      subst hq
      ((repeat (with_reducible first | refine ok_some ?_ | refine ok_bind ?_ | refine ok_op1 ?_ | refine ok_op2 ?_ | refine ok_op3 ?_ | refine ok_op4 ?_ | refine ok_op5 ?_ | refine ok_map ?_ | refine ok_not ?_ | refine ok_if ?_ | refine ok_nxt ?_ | refine ok_ret ?_ | refine ok_cons ?_ | refine ok_add ?_ | refine ok_sub ?_ | refine ok_neg ?_ | refine ok_lt ?_ | refine ok_le ?_ | refine ok_gt ?_ | refine ok_ge ?_ | refine ok_teq ?_ | refine ok_tne ?_ | refine ok_in ?_ | refine ok_nin ?_ | refine ok_len ?_ | refine ok_id ?_ | refine ok_mod (by decide) ?_ | refine ok_div (by decide) ?_ | refine ok_mulr (by decide) ?_ | refine ok_mull (by decide) ?_ | refine ok_pow (by decide) ?_ | refine ok_dis (by simp) ?_ | refine ok_cut ?_ | refine ok_sort ?_ | refine ok_zip ?_ | refine ok_all ?_ | refine ok_any ?_ | refine ok_max2 ?_ | refine ok_min2 ?_ | refine ok_pair ?_ | refine ok_cnt ?_ | refine ok_isB ?_ | refine ok_notB ?_)) <;> try dsimp only)
      refine ok_and2 ?_
      ((repeat (with_reducible first | refine ok_some ?_ | refine ok_bind ?_ | refine ok_op1 ?_ | refine ok_op2 ?_ | refine ok_op3 ?_ | refine ok_op4 ?_ | refine ok_op5 ?_ | refine ok_map ?_ | refine ok_not ?_ | refine ok_if ?_ | refine ok_nxt ?_ | refine ok_ret ?_ | refine ok_cons ?_ | refine ok_add ?_ | refine ok_sub ?_ | refine ok_neg ?_ | refine ok_lt ?_ | refine ok_le ?_ | refine ok_gt ?_ | refine ok_ge ?_ | refine ok_teq ?_ | refine ok_tne ?_ | refine ok_in ?_ | refine ok_nin ?_ | refine ok_len ?_ | refine ok_id ?_ | refine ok_mod (by decide) ?_ | refine ok_div (by decide) ?_ | refine ok_mulr (by decide) ?_ | refine ok_mull (by decide) ?_ | refine ok_pow (by decide) ?_ | refine ok_dis (by simp) ?_ | refine ok_cut ?_ | refine ok_sort ?_ | refine ok_zip ?_ | refine ok_all ?_ | refine ok_any ?_ | refine ok_max2 ?_ | refine ok_min2 ?_ | refine ok_pair ?_ | refine ok_cnt ?_ | refine ok_isB ?_ | refine ok_notB ?_)) <;> try dsimp only)
      refine ⟨fun hh => absurd hh (by simp), fun _ => ?_⟩
      ((repeat (with_reducible first | refine ok_some ?_ | refine ok_bind ?_ | refine ok_op1 ?_ | refine ok_op2 ?_ | refine ok_op3 ?_ | refine ok_op4 ?_ | refine ok_op5 ?_ | refine ok_map ?_ | refine ok_not ?_ | refine ok_if ?_ | refine ok_nxt ?_ | refine ok_ret ?_ | refine ok_cons ?_ | refine ok_add ?_ | refine ok_sub ?_ | refine ok_neg ?_ | refine ok_lt ?_ | refine ok_le ?_ | refine ok_gt ?_ | refine ok_ge ?_ | refine ok_teq ?_ | refine ok_tne ?_ | refine ok_in ?_ | refine ok_nin ?_ | refine ok_len ?_ | refine ok_id ?_ | refine ok_mod (by decide) ?_ | refine ok_div (by decide) ?_ | refine ok_mulr (by decide) ?_ | refine ok_mull (by decide) ?_ | refine ok_pow (by decide) ?_ | refine ok_dis (by simp) ?_ | refine ok_cut ?_ | refine ok_sort ?_ | refine ok_zip ?_ | refine ok_all ?_ | refine ok_any ?_ | refine ok_max2 ?_ | refine ok_min2 ?_ | refine ok_pair ?_ | refine ok_cnt ?_ | refine ok_isB ?_ | refine ok_notB ?_)) <;> try dsimp only)
      refine ⟨fun hh => absurd hh (by simpa using h), fun _ => ?_⟩
      ((repeat (with_reducible first | refine ok_some ?_ | refine ok_bind ?_ | refine ok_op1 ?_ | refine ok_op2 ?_ | refine ok_op3 ?_ | refine ok_op4 ?_ | refine ok_op5 ?_ | refine ok_map ?_ | refine ok_not ?_ | refine ok_if ?_ | refine ok_nxt ?_ | refine ok_ret ?_ | refine ok_cons ?_ | refine ok_add ?_ | refine ok_sub ?_ | refine ok_neg ?_ | refine ok_lt ?_ | refine ok_le ?_ | refine ok_gt ?_ | refine ok_ge ?_ | refine ok_teq ?_ | refine ok_tne ?_ | refine ok_in ?_ | refine ok_nin ?_ | refine ok_len ?_ | refine ok_id ?_ | refine ok_mod (by decide) ?_ | refine ok_div (by decide) ?_ | refine ok_mulr (by decide) ?_ | refine ok_mull (by decide) ?_ | refine ok_pow (by decide) ?_ | refine ok_dis (by simp) ?_ | refine ok_cut ?_ | refine ok_sort ?_ | refine ok_zip ?_ | refine ok_all ?_ | refine ok_any ?_ | refine ok_max2 ?_ | refine ok_min2 ?_ | refine ok_pair ?_ | refine ok_cnt ?_ | refine ok_isB ?_ | refine ok_notB ?_)) <;> try dsimp only)
      refine ok_app (by omega) ?_
      ((repeat (with_reducible first | refine ok_some ?_ | refine ok_bind ?_ | refine ok_op1 ?_ | refine ok_op2 ?_ | refine ok_op3 ?_ | refine ok_op4 ?_ | refine ok_op5 ?_ | refine ok_map ?_ | refine ok_not ?_ | refine ok_if ?_ | refine ok_nxt ?_ | refine ok_ret ?_ | refine ok_cons ?_ | refine ok_add ?_ | refine ok_sub ?_ | refine ok_neg ?_ | refine ok_lt ?_ | refine ok_le ?_ | refine ok_gt ?_ | refine ok_ge ?_ | refine ok_teq ?_ | refine ok_tne ?_ | refine ok_in ?_ | refine ok_nin ?_ | refine ok_len ?_ | refine ok_id ?_ | refine ok_mod (by decide) ?_ | refine ok_div (by decide) ?_ | refine ok_mulr (by decide) ?_ | refine ok_mull (by decide) ?_ | refine ok_pow (by decide) ?_ | refine ok_dis (by simp) ?_ | refine ok_cut ?_ | refine ok_sort ?_ | refine ok_zip ?_ | refine ok_all ?_ | refine ok_any ?_ | refine ok_max2 ?_ | refine ok_min2 ?_ | refine ok_pair ?_ | refine ok_cnt ?_ | refine ok_isB ?_ | refine ok_notB ?_)) <;> try dsimp only)
      refine ⟨rfl, by rw [List.length_append, hl]; rfl, fun z hz => ?_⟩
      rcases List.mem_append.mp hz with hz | hz
      · exact hb z hz
      · rw [List.mem_singleton.mp hz]; exact ⟨Int.emod_nonneg _ (by decide), Int.emod_lt_of_pos _ (by decide)⟩
    · rintro ⟨q, l⟩ ⟨_, hl, hb⟩
      ((repeat (with_reducible first | refine ok_some ?_ | refine ok_bind ?_ | refine ok_op1 ?_ | refine ok_op2 ?_ | refine ok_op3 ?_ | refine ok_op4 ?_ | refine ok_op5 ?_ | refine ok_map ?_ | refine ok_not ?_ | refine ok_if ?_ | refine ok_nxt ?_ | refine ok_ret ?_ | refine ok_cons ?_ | refine ok_add ?_ | refine ok_sub ?_ | refine ok_neg ?_ | refine ok_lt ?_ | refine ok_le ?_ | refine ok_gt ?_ | refine ok_ge ?_ | refine ok_teq ?_ | refine ok_tne ?_ | refine ok_in ?_ | refine ok_nin ?_ | refine ok_len ?_ | refine ok_id ?_ | refine ok_mod (by decide) ?_ | refine ok_div (by decide) ?_ | refine ok_mulr (by decide) ?_ | refine ok_mull (by decide) ?_ | refine ok_pow (by decide) ?_ | refine ok_dis (by simp) ?_ | refine ok_cut ?_ | refine ok_sort ?_ | refine ok_zip ?_ | refine ok_all ?_ | refine ok_any ?_ | refine ok_max2 ?_ | refine ok_min2 ?_ | refine ok_pair ?_ | refine ok_cnt ?_ | refine ok_isB ?_ | refine ok_notB ?_)) <;> try dsimp only)
      rw [rng_len] at hl
      first | exact ⟨hl, hb⟩ | exact ⟨(List.length_reverse (as := l)).trans hl, fun x hx => hb x (List.mem_reverse.mp hx)⟩
theorem ok_num {ns : List Int} {i : Int} {P : Int → Prop} (hb : ∀ x ∈ ns, 0 ≤ x ∧ x < 1000000) (h : 0 ≤ i ∧ i < ns.length) (k : ∀ x, 0 ≤ x → x < 1000000 → P x) : Ok (tIx ns i) P :=
  ok_ix h fun x hx => by have := hb x (List.mem_of_getElem? hx); exact k x this.1 this.2

theorem wires_ok (n m : Int) (h : 1 ≤ m ∧ m ≤ 1000) : Ok (t__law_wires_I_I n m) fun w => 1 ≤ w ∧ (w ≤ m ∨ w ≤ 6) := by
  unfold t__law_wires_I_I
  ((repeat (with_reducible first | refine ok_some ?_ | refine ok_bind ?_ | refine ok_op1 ?_ | refine ok_op2 ?_ | refine ok_op3 ?_ | refine ok_op4 ?_ | refine ok_op5 ?_ | refine ok_map ?_ | refine ok_not ?_ | refine ok_if ?_ | refine ok_nxt ?_ | refine ok_ret ?_ | refine ok_cons ?_ | refine ok_add ?_ | refine ok_sub ?_ | refine ok_neg ?_ | refine ok_lt ?_ | refine ok_le ?_ | refine ok_gt ?_ | refine ok_ge ?_ | refine ok_teq ?_ | refine ok_tne ?_ | refine ok_in ?_ | refine ok_nin ?_ | refine ok_len ?_ | refine ok_id ?_ | refine ok_mod (by decide) ?_ | refine ok_div (by decide) ?_ | refine ok_mulr (by decide) ?_ | refine ok_mull (by decide) ?_ | refine ok_pow (by decide) ?_ | refine ok_dis (by simp) ?_ | refine ok_cut ?_ | refine ok_sort ?_ | refine ok_zip ?_ | refine ok_all ?_ | refine ok_any ?_ | refine ok_max2 ?_ | refine ok_min2 ?_ | refine ok_pair ?_ | refine ok_cnt ?_ | refine ok_isB ?_ | refine ok_notB ?_)) <;> try dsimp only)
  refine ⟨fun _ => ?_, fun _ => ?_⟩
  · ((repeat (with_reducible first | refine ok_some ?_ | refine ok_bind ?_ | refine ok_op1 ?_ | refine ok_op2 ?_ | refine ok_op3 ?_ | refine ok_op4 ?_ | refine ok_op5 ?_ | refine ok_map ?_ | refine ok_not ?_ | refine ok_if ?_ | refine ok_nxt ?_ | refine ok_ret ?_ | refine ok_cons ?_ | refine ok_add ?_ | refine ok_sub ?_ | refine ok_neg ?_ | refine ok_lt ?_ | refine ok_le ?_ | refine ok_gt ?_ | refine ok_ge ?_ | refine ok_teq ?_ | refine ok_tne ?_ | refine ok_in ?_ | refine ok_nin ?_ | refine ok_len ?_ | refine ok_id ?_ | refine ok_mod (by decide) ?_ | refine ok_div (by decide) ?_ | refine ok_mulr (by decide) ?_ | refine ok_mull (by decide) ?_ | refine ok_pow (by decide) ?_ | refine ok_dis (by simp) ?_ | refine ok_cut ?_ | refine ok_sort ?_ | refine ok_zip ?_ | refine ok_all ?_ | refine ok_any ?_ | refine ok_max2 ?_ | refine ok_min2 ?_ | refine ok_pair ?_ | refine ok_cnt ?_ | refine ok_isB ?_ | refine ok_notB ?_)) <;> try dsimp only)
    have := Int.emod_nonneg (n / 24) (show m ≠ 0 by omega)
    have := Int.emod_lt_of_pos (n / 24) (show 0 < m by omega)
    refine ok_mod (by omega) ?_
    ((repeat (with_reducible first | refine ok_some ?_ | refine ok_bind ?_ | refine ok_op1 ?_ | refine ok_op2 ?_ | refine ok_op3 ?_ | refine ok_op4 ?_ | refine ok_op5 ?_ | refine ok_map ?_ | refine ok_not ?_ | refine ok_if ?_ | refine ok_nxt ?_ | refine ok_ret ?_ | refine ok_cons ?_ | refine ok_add ?_ | refine ok_sub ?_ | refine ok_neg ?_ | refine ok_lt ?_ | refine ok_le ?_ | refine ok_gt ?_ | refine ok_ge ?_ | refine ok_teq ?_ | refine ok_tne ?_ | refine ok_in ?_ | refine ok_nin ?_ | refine ok_len ?_ | refine ok_id ?_ | refine ok_mod (by decide) ?_ | refine ok_div (by decide) ?_ | refine ok_mulr (by decide) ?_ | refine ok_mull (by decide) ?_ | refine ok_pow (by decide) ?_ | refine ok_dis (by simp) ?_ | refine ok_cut ?_ | refine ok_sort ?_ | refine ok_zip ?_ | refine ok_all ?_ | refine ok_any ?_ | refine ok_max2 ?_ | refine ok_min2 ?_ | refine ok_pair ?_ | refine ok_cnt ?_ | refine ok_isB ?_ | refine ok_notB ?_)) <;> try dsimp only)
    omega
  · ((repeat (with_reducible first | refine ok_some ?_ | refine ok_bind ?_ | refine ok_op1 ?_ | refine ok_op2 ?_ | refine ok_op3 ?_ | refine ok_op4 ?_ | refine ok_op5 ?_ | refine ok_map ?_ | refine ok_not ?_ | refine ok_if ?_ | refine ok_nxt ?_ | refine ok_ret ?_ | refine ok_cons ?_ | refine ok_add ?_ | refine ok_sub ?_ | refine ok_neg ?_ | refine ok_lt ?_ | refine ok_le ?_ | refine ok_gt ?_ | refine ok_ge ?_ | refine ok_teq ?_ | refine ok_tne ?_ | refine ok_in ?_ | refine ok_nin ?_ | refine ok_len ?_ | refine ok_id ?_ | refine ok_mod (by decide) ?_ | refine ok_div (by decide) ?_ | refine ok_mulr (by decide) ?_ | refine ok_mull (by decide) ?_ | refine ok_pow (by decide) ?_ | refine ok_dis (by simp) ?_ | refine ok_cut ?_ | refine ok_sort ?_ | refine ok_zip ?_ | refine ok_all ?_ | refine ok_any ?_ | refine ok_max2 ?_ | refine ok_min2 ?_ | refine ok_pair ?_ | refine ok_cnt ?_ | refine ok_isB ?_ | refine ok_notB ?_)) <;> try dsimp only)
    omega

def cmpP (c : List Int) (p : Int × Int) : List Int := (c.set p.2.toNat (if gI c p.2 > gI c p.1 then gI c p.2 else gI c p.1)).set p.1.toNat (if gI c p.2 < gI c p.1 then gI c p.2 else gI c p.1)
def runP (ps : List (Int × Int)) (r : List Int) : List Int := ps.foldl cmpP r
theorem cmp_len {c : List Int} {p : Int × Int} : (cmpP c p).length = c.length := by unfold cmpP; rw [List.length_set, List.length_set]
theorem run_len : ∀ (ps : List (Int × Int)) (r : List Int), (runP ps r).length = r.length
  | [], _ => rfl
  | p :: ps, r => by show (runP ps (cmpP r p)).length = _; rw [run_len ps, cmp_len]
theorem okPr_iff {w : Int} {p : Int × Int} : okPr w p = true ↔ (0 ≤ p.1 ∧ p.1 < w ∧ 0 ≤ p.2 ∧ p.2 < w ∧ p.1 ≠ p.2) := by unfold okPr; rw [decide_eq_true_eq]
theorem okPr_all {w : Int} {ps : List (Int × Int)} : ps.all (okPr w) = true ↔ ∀ p ∈ ps, 0 ≤ p.1 ∧ p.1 < w ∧ 0 ≤ p.2 ∧ p.2 < w ∧ p.1 ≠ p.2 := by
  rw [List.all_eq_true]
  exact ⟨fun h p hp => okPr_iff.mp (h p hp), fun h p hp => okPr_iff.mpr (h p hp)⟩
theorem set_ok {α : Type} {xs : List α} {i : Int} {a : α} {P : List α → Prop} (h : 0 ≤ i ∧ i < xs.length) (k : P (xs.set i.toNat a)) : Ok (tSet xs i a) P := by
  refine ⟨xs.set i.toNat a, ?_, k⟩
  unfold tSet ixN
  rw [if_pos h.1, if_pos h.2]; rfl
theorem gI_set {xs : List Int} {i j : Int} {a : Int} (hi : 0 ≤ i) (hj : 0 ≤ j) (hl : i < xs.length) : gI (xs.set i.toNat a) j = if i = j then a else gI xs j := by
  have h1 : i.toNat < xs.length := by omega
  by_cases e : i = j
  · subst e; simp [gI, List.getD, List.getElem?_set, h1]
  · have : ¬ i.toNat = j.toNat := by omega
    simp [gI, List.getD, List.getElem?_set, this, e]
theorem set_self {xs : List Int} {i : Nat} (h : i < xs.length) : xs.set i (xs.getD i 0) = xs := by
  apply List.ext_getElem?
  intro j
  rw [List.getElem?_set]
  split
  · rename_i e; subst e; simp [h, List.getD]
  · rfl

theorem pairs13_ok {ns : List Int} {p w : Int} {std : Bool} (h : 0 ≤ p ∧ 1 ≤ w ∧ w ≤ 1000 ∧ p + 13 ≤ ns.length) (hb : ∀ x ∈ ns, 0 ≤ x ∧ x < 1000000) :
    Ok (t__law_pairs_LI_I_I_B ns p w std) fun ps => (∀ q ∈ ps, 0 ≤ q.1 ∧ q.1 < w ∧ 0 ≤ q.2 ∧ q.2 < w ∧ q.1 ≠ q.2 ∧ (std = true → q.1 < q.2)) ∧ ps.length ≤ 12 := by
  unfold t__law_pairs_LI_I_I_B
  ((repeat (with_reducible first | refine ok_some ?_ | refine ok_bind ?_ | refine ok_op1 ?_ | refine ok_op2 ?_ | refine ok_op3 ?_ | refine ok_op4 ?_ | refine ok_op5 ?_ | refine ok_map ?_ | refine ok_not ?_ | refine ok_if ?_ | refine ok_nxt ?_ | refine ok_ret ?_ | refine ok_cons ?_ | refine ok_add ?_ | refine ok_sub ?_ | refine ok_neg ?_ | refine ok_lt ?_ | refine ok_le ?_ | refine ok_gt ?_ | refine ok_ge ?_ | refine ok_teq ?_ | refine ok_tne ?_ | refine ok_in ?_ | refine ok_nin ?_ | refine ok_len ?_ | refine ok_id ?_ | refine ok_mod (by decide) ?_ | refine ok_div (by decide) ?_ | refine ok_mulr (by decide) ?_ | refine ok_mull (by decide) ?_ | refine ok_pow (by decide) ?_ | refine ok_dis (by simp) ?_ | refine ok_cut ?_ | refine ok_sort ?_ | refine ok_zip ?_ | refine ok_all ?_ | refine ok_any ?_ | refine ok_max2 ?_ | refine ok_min2 ?_ | refine ok_pair ?_ | refine ok_cnt ?_ | refine ok_isB ?_ | refine ok_notB ?_)) <;> try dsimp only)
  refine ⟨fun _ => ok_some ⟨by simp, by simp⟩, fun hw => ?_⟩
  simp only [decide_eq_false_iff_not] at hw
  ((repeat (with_reducible first | refine ok_some ?_ | refine ok_bind ?_ | refine ok_op1 ?_ | refine ok_op2 ?_ | refine ok_op3 ?_ | refine ok_op4 ?_ | refine ok_op5 ?_ | refine ok_map ?_ | refine ok_not ?_ | refine ok_if ?_ | refine ok_nxt ?_ | refine ok_ret ?_ | refine ok_cons ?_ | refine ok_add ?_ | refine ok_sub ?_ | refine ok_neg ?_ | refine ok_lt ?_ | refine ok_le ?_ | refine ok_gt ?_ | refine ok_ge ?_ | refine ok_teq ?_ | refine ok_tne ?_ | refine ok_in ?_ | refine ok_nin ?_ | refine ok_len ?_ | refine ok_id ?_ | refine ok_mod (by decide) ?_ | refine ok_div (by decide) ?_ | refine ok_mulr (by decide) ?_ | refine ok_mull (by decide) ?_ | refine ok_pow (by decide) ?_ | refine ok_dis (by simp) ?_ | refine ok_cut ?_ | refine ok_sort ?_ | refine ok_zip ?_ | refine ok_all ?_ | refine ok_any ?_ | refine ok_max2 ?_ | refine ok_min2 ?_ | refine ok_pair ?_ | refine ok_cnt ?_ | refine ok_isB ?_ | refine ok_notB ?_)) <;> try dsimp only)
  refine ok_num hb (by omega) fun a ha0 ha1 => ?_
  ((repeat (with_reducible first | refine ok_some ?_ | refine ok_bind ?_ | refine ok_op1 ?_ | refine ok_op2 ?_ | refine ok_op3 ?_ | refine ok_op4 ?_ | refine ok_op5 ?_ | refine ok_map ?_ | refine ok_not ?_ | refine ok_if ?_ | refine ok_nxt ?_ | refine ok_ret ?_ | refine ok_cons ?_ | refine ok_add ?_ | refine ok_sub ?_ | refine ok_neg ?_ | refine ok_lt ?_ | refine ok_le ?_ | refine ok_gt ?_ | refine ok_ge ?_ | refine ok_teq ?_ | refine ok_tne ?_ | refine ok_in ?_ | refine ok_nin ?_ | refine ok_len ?_ | refine ok_id ?_ | refine ok_mod (by decide) ?_ | refine ok_div (by decide) ?_ | refine ok_mulr (by decide) ?_ | refine ok_mull (by decide) ?_ | refine ok_pow (by decide) ?_ | refine ok_dis (by simp) ?_ | refine ok_cut ?_ | refine ok_sort ?_ | refine ok_zip ?_ | refine ok_all ?_ | refine ok_any ?_ | refine ok_max2 ?_ | refine ok_min2 ?_ | refine ok_pair ?_ | refine ok_cnt ?_ | refine ok_isB ?_ | refine ok_notB ?_)) <;> try dsimp only)
  refine ok_r1 (by omega) ?_
  ((repeat (with_reducible first | refine ok_some ?_ | refine ok_bind ?_ | refine ok_op1 ?_ | refine ok_op2 ?_ | refine ok_op3 ?_ | refine ok_op4 ?_ | refine ok_op5 ?_ | refine ok_map ?_ | refine ok_not ?_ | refine ok_if ?_ | refine ok_nxt ?_ | refine ok_ret ?_ | refine ok_cons ?_ | refine ok_add ?_ | refine ok_sub ?_ | refine ok_neg ?_ | refine ok_lt ?_ | refine ok_le ?_ | refine ok_gt ?_ | refine ok_ge ?_ | refine ok_teq ?_ | refine ok_tne ?_ | refine ok_in ?_ | refine ok_nin ?_ | refine ok_len ?_ | refine ok_id ?_ | refine ok_mod (by decide) ?_ | refine ok_div (by decide) ?_ | refine ok_mulr (by decide) ?_ | refine ok_mull (by decide) ?_ | refine ok_pow (by decide) ?_ | refine ok_dis (by simp) ?_ | refine ok_cut ?_ | refine ok_sort ?_ | refine ok_zip ?_ | refine ok_all ?_ | refine ok_any ?_ | refine ok_max2 ?_ | refine ok_min2 ?_ | refine ok_pair ?_ | refine ok_cnt ?_ | refine ok_isB ?_ | refine ok_notB ?_)) <;> try dsimp only)
  refine ok_fold (fun i (s : List (Int × Int)) => (∀ q ∈ s, 0 ≤ q.1 ∧ q.1 < w ∧ 0 ≤ q.2 ∧ q.2 < w ∧ q.1 ≠ q.2 ∧ (std = true → q.1 < q.2)) ∧ s.length = i) ?_ ?_ ?_
  · exact ⟨by simp, rfl⟩
  · rintro i x s hx ⟨hq, hl⟩
    obtain ⟨hi, rfl⟩ := rng_get hx
    have happ : ∀ q : Int × Int, (0 ≤ q.1 ∧ q.1 < w ∧ 0 ≤ q.2 ∧ q.2 < w ∧ q.1 ≠ q.2 ∧ (std = true → q.1 < q.2)) → (∀ z ∈ s ++ [q], 0 ≤ z.1 ∧ z.1 < w ∧ 0 ≤ z.2 ∧ z.2 < w ∧ z.1 ≠ z.2 ∧ (std = true → z.1 < z.2)) ∧ (s ++ [q]).length = i + 1 := by
      intro q h1
      refine ⟨fun z hz => ?_, by rw [List.length_append, hl]; rfl⟩
      rcases List.mem_append.mp hz with hz | hz
      · exact hq z hz
      · rw [List.mem_singleton.mp hz]; exact h1
    ((repeat (with_reducible first | refine ok_some ?_ | refine ok_bind ?_ | refine ok_op1 ?_ | refine ok_op2 ?_ | refine ok_op3 ?_ | refine ok_op4 ?_ | refine ok_op5 ?_ | refine ok_map ?_ | refine ok_not ?_ | refine ok_if ?_ | refine ok_nxt ?_ | refine ok_ret ?_ | refine ok_cons ?_ | refine ok_add ?_ | refine ok_sub ?_ | refine ok_neg ?_ | refine ok_lt ?_ | refine ok_le ?_ | refine ok_gt ?_ | refine ok_ge ?_ | refine ok_teq ?_ | refine ok_tne ?_ | refine ok_in ?_ | refine ok_nin ?_ | refine ok_len ?_ | refine ok_id ?_ | refine ok_mod (by decide) ?_ | refine ok_div (by decide) ?_ | refine ok_mulr (by decide) ?_ | refine ok_mull (by decide) ?_ | refine ok_pow (by decide) ?_ | refine ok_dis (by simp) ?_ | refine ok_cut ?_ | refine ok_sort ?_ | refine ok_zip ?_ | refine ok_all ?_ | refine ok_any ?_ | refine ok_max2 ?_ | refine ok_min2 ?_ | refine ok_pair ?_ | refine ok_cnt ?_ | refine ok_isB ?_ | refine ok_notB ?_)) <;> try dsimp only)
    refine ok_num hb (by omega) fun n hn0 hn1 => ?_
    ((repeat (with_reducible first | refine ok_some ?_ | refine ok_bind ?_ | refine ok_op1 ?_ | refine ok_op2 ?_ | refine ok_op3 ?_ | refine ok_op4 ?_ | refine ok_op5 ?_ | refine ok_map ?_ | refine ok_not ?_ | refine ok_if ?_ | refine ok_nxt ?_ | refine ok_ret ?_ | refine ok_cons ?_ | refine ok_add ?_ | refine ok_sub ?_ | refine ok_neg ?_ | refine ok_lt ?_ | refine ok_le ?_ | refine ok_gt ?_ | refine ok_ge ?_ | refine ok_teq ?_ | refine ok_tne ?_ | refine ok_in ?_ | refine ok_nin ?_ | refine ok_len ?_ | refine ok_id ?_ | refine ok_mod (by decide) ?_ | refine ok_div (by decide) ?_ | refine ok_mulr (by decide) ?_ | refine ok_mull (by decide) ?_ | refine ok_pow (by decide) ?_ | refine ok_dis (by simp) ?_ | refine ok_cut ?_ | refine ok_sort ?_ | refine ok_zip ?_ | refine ok_all ?_ | refine ok_any ?_ | refine ok_max2 ?_ | refine ok_min2 ?_ | refine ok_pair ?_ | refine ok_cnt ?_ | refine ok_isB ?_ | refine ok_notB ?_)) <;> try dsimp only)
    have m1 := Int.emod_nonneg n (show w ≠ 0 by omega)
    have m2 := Int.emod_lt_of_pos n (show 0 < w by omega)
    have m3 := Int.emod_nonneg (n / w) (show w - 1 ≠ 0 by omega)
    have m4 := Int.emod_lt_of_pos (n / w) (show 0 < w - 1 by omega)
    refine ok_mod (by omega) ?_
    ((repeat (with_reducible first | refine ok_some ?_ | refine ok_bind ?_ | refine ok_op1 ?_ | refine ok_op2 ?_ | refine ok_op3 ?_ | refine ok_op4 ?_ | refine ok_op5 ?_ | refine ok_map ?_ | refine ok_not ?_ | refine ok_if ?_ | refine ok_nxt ?_ | refine ok_ret ?_ | refine ok_cons ?_ | refine ok_add ?_ | refine ok_sub ?_ | refine ok_neg ?_ | refine ok_lt ?_ | refine ok_le ?_ | refine ok_gt ?_ | refine ok_ge ?_ | refine ok_teq ?_ | refine ok_tne ?_ | refine ok_in ?_ | refine ok_nin ?_ | refine ok_len ?_ | refine ok_id ?_ | refine ok_mod (by decide) ?_ | refine ok_div (by decide) ?_ | refine ok_mulr (by decide) ?_ | refine ok_mull (by decide) ?_ | refine ok_pow (by decide) ?_ | refine ok_dis (by simp) ?_ | refine ok_cut ?_ | refine ok_sort ?_ | refine ok_zip ?_ | refine ok_all ?_ | refine ok_any ?_ | refine ok_max2 ?_ | refine ok_min2 ?_ | refine ok_pair ?_ | refine ok_cnt ?_ | refine ok_isB ?_ | refine ok_notB ?_)) <;> try dsimp only)
    refine ok_div (by omega) ?_
    ((repeat (with_reducible first | refine ok_some ?_ | refine ok_bind ?_ | refine ok_op1 ?_ | refine ok_op2 ?_ | refine ok_op3 ?_ | refine ok_op4 ?_ | refine ok_op5 ?_ | refine ok_map ?_ | refine ok_not ?_ | refine ok_if ?_ | refine ok_nxt ?_ | refine ok_ret ?_ | refine ok_cons ?_ | refine ok_add ?_ | refine ok_sub ?_ | refine ok_neg ?_ | refine ok_lt ?_ | refine ok_le ?_ | refine ok_gt ?_ | refine ok_ge ?_ | refine ok_teq ?_ | refine ok_tne ?_ | refine ok_in ?_ | refine ok_nin ?_ | refine ok_len ?_ | refine ok_id ?_ | refine ok_mod (by decide) ?_ | refine ok_div (by decide) ?_ | refine ok_mulr (by decide) ?_ | refine ok_mull (by decide) ?_ | refine ok_pow (by decide) ?_ | refine ok_dis (by simp) ?_ | refine ok_cut ?_ | refine ok_sort ?_ | refine ok_zip ?_ | refine ok_all ?_ | refine ok_any ?_ | refine ok_max2 ?_ | refine ok_min2 ?_ | refine ok_pair ?_ | refine ok_cnt ?_ | refine ok_isB ?_ | refine ok_notB ?_)) <;> try dsimp only)
    refine ok_mod (by omega) ?_
    refine ok_bind ?_
    generalize n % w = one at m1 m2
    generalize n / w % (w - 1) = two at m3 m4
    refine Ok.imp (Q := fun t => 0 ≤ t ∧ t < w ∧ one ≠ t) ?_ fun t ht => ?_
    · ((repeat (with_reducible first | refine ok_some ?_ | refine ok_bind ?_ | refine ok_op1 ?_ | refine ok_op2 ?_ | refine ok_op3 ?_ | refine ok_op4 ?_ | refine ok_op5 ?_ | refine ok_map ?_ | refine ok_not ?_ | refine ok_if ?_ | refine ok_nxt ?_ | refine ok_ret ?_ | refine ok_cons ?_ | refine ok_add ?_ | refine ok_sub ?_ | refine ok_neg ?_ | refine ok_lt ?_ | refine ok_le ?_ | refine ok_gt ?_ | refine ok_ge ?_ | refine ok_teq ?_ | refine ok_tne ?_ | refine ok_in ?_ | refine ok_nin ?_ | refine ok_len ?_ | refine ok_id ?_ | refine ok_mod (by decide) ?_ | refine ok_div (by decide) ?_ | refine ok_mulr (by decide) ?_ | refine ok_mull (by decide) ?_ | refine ok_pow (by decide) ?_ | refine ok_dis (by simp) ?_ | refine ok_cut ?_ | refine ok_sort ?_ | refine ok_zip ?_ | refine ok_all ?_ | refine ok_any ?_ | refine ok_max2 ?_ | refine ok_min2 ?_ | refine ok_pair ?_ | refine ok_cnt ?_ | refine ok_isB ?_ | refine ok_notB ?_)) <;> try dsimp only)
      simp only [decide_eq_true_eq, decide_eq_false_iff_not]
      exact ⟨fun _ => by ((repeat (with_reducible first | refine ok_some ?_ | refine ok_bind ?_ | refine ok_op1 ?_ | refine ok_op2 ?_ | refine ok_op3 ?_ | refine ok_op4 ?_ | refine ok_op5 ?_ | refine ok_map ?_ | refine ok_not ?_ | refine ok_if ?_ | refine ok_nxt ?_ | refine ok_ret ?_ | refine ok_cons ?_ | refine ok_add ?_ | refine ok_sub ?_ | refine ok_neg ?_ | refine ok_lt ?_ | refine ok_le ?_ | refine ok_gt ?_ | refine ok_ge ?_ | refine ok_teq ?_ | refine ok_tne ?_ | refine ok_in ?_ | refine ok_nin ?_ | refine ok_len ?_ | refine ok_id ?_ | refine ok_mod (by decide) ?_ | refine ok_div (by decide) ?_ | refine ok_mulr (by decide) ?_ | refine ok_mull (by decide) ?_ | refine ok_pow (by decide) ?_ | refine ok_dis (by simp) ?_ | refine ok_cut ?_ | refine ok_sort ?_ | refine ok_zip ?_ | refine ok_all ?_ | refine ok_any ?_ | refine ok_max2 ?_ | refine ok_min2 ?_ | refine ok_pair ?_ | refine ok_cnt ?_ | refine ok_isB ?_ | refine ok_notB ?_)) <;> try dsimp only); omega, fun _ => by ((repeat (with_reducible first | refine ok_some ?_ | refine ok_bind ?_ | refine ok_op1 ?_ | refine ok_op2 ?_ | refine ok_op3 ?_ | refine ok_op4 ?_ | refine ok_op5 ?_ | refine ok_map ?_ | refine ok_not ?_ | refine ok_if ?_ | refine ok_nxt ?_ | refine ok_ret ?_ | refine ok_cons ?_ | refine ok_add ?_ | refine ok_sub ?_ | refine ok_neg ?_ | refine ok_lt ?_ | refine ok_le ?_ | refine ok_gt ?_ | refine ok_ge ?_ | refine ok_teq ?_ | refine ok_tne ?_ | refine ok_in ?_ | refine ok_nin ?_ | refine ok_len ?_ | refine ok_id ?_ | refine ok_mod (by decide) ?_ | refine ok_div (by decide) ?_ | refine ok_mulr (by decide) ?_ | refine ok_mull (by decide) ?_ | refine ok_pow (by decide) ?_ | refine ok_dis (by simp) ?_ | refine ok_cut ?_ | refine ok_sort ?_ | refine ok_zip ?_ | refine ok_all ?_ | refine ok_any ?_ | refine ok_max2 ?_ | refine ok_min2 ?_ | refine ok_pair ?_ | refine ok_cnt ?_ | refine ok_isB ?_ | refine ok_notB ?_)) <;> try dsimp only); omega⟩
    · ((repeat (with_reducible first | refine ok_some ?_ | refine ok_bind ?_ | refine ok_op1 ?_ | refine ok_op2 ?_ | refine ok_op3 ?_ | refine ok_op4 ?_ | refine ok_op5 ?_ | refine ok_map ?_ | refine ok_not ?_ | refine ok_if ?_ | refine ok_nxt ?_ | refine ok_ret ?_ | refine ok_cons ?_ | refine ok_add ?_ | refine ok_sub ?_ | refine ok_neg ?_ | refine ok_lt ?_ | refine ok_le ?_ | refine ok_gt ?_ | refine ok_ge ?_ | refine ok_teq ?_ | refine ok_tne ?_ | refine ok_in ?_ | refine ok_nin ?_ | refine ok_len ?_ | refine ok_id ?_ | refine ok_mod (by decide) ?_ | refine ok_div (by decide) ?_ | refine ok_mulr (by decide) ?_ | refine ok_mull (by decide) ?_ | refine ok_pow (by decide) ?_ | refine ok_dis (by simp) ?_ | refine ok_cut ?_ | refine ok_sort ?_ | refine ok_zip ?_ | refine ok_all ?_ | refine ok_any ?_ | refine ok_max2 ?_ | refine ok_min2 ?_ | refine ok_pair ?_ | refine ok_cnt ?_ | refine ok_isB ?_ | refine ok_notB ?_)) <;> try dsimp only)
      refine ok_and2 ?_
      ((repeat (with_reducible first | refine ok_some ?_ | refine ok_bind ?_ | refine ok_op1 ?_ | refine ok_op2 ?_ | refine ok_op3 ?_ | refine ok_op4 ?_ | refine ok_op5 ?_ | refine ok_map ?_ | refine ok_not ?_ | refine ok_if ?_ | refine ok_nxt ?_ | refine ok_ret ?_ | refine ok_cons ?_ | refine ok_add ?_ | refine ok_sub ?_ | refine ok_neg ?_ | refine ok_lt ?_ | refine ok_le ?_ | refine ok_gt ?_ | refine ok_ge ?_ | refine ok_teq ?_ | refine ok_tne ?_ | refine ok_in ?_ | refine ok_nin ?_ | refine ok_len ?_ | refine ok_id ?_ | refine ok_mod (by decide) ?_ | refine ok_div (by decide) ?_ | refine ok_mulr (by decide) ?_ | refine ok_mull (by decide) ?_ | refine ok_pow (by decide) ?_ | refine ok_dis (by simp) ?_ | refine ok_cut ?_ | refine ok_sort ?_ | refine ok_zip ?_ | refine ok_all ?_ | refine ok_any ?_ | refine ok_max2 ?_ | refine ok_min2 ?_ | refine ok_pair ?_ | refine ok_cnt ?_ | refine ok_isB ?_ | refine ok_notB ?_)) <;> try dsimp only)
      simp only [Bool.and_eq_true, decide_eq_true_eq, Bool.and_eq_false_iff, decide_eq_false_iff_not]
      refine ⟨fun hh => ?_, fun hh => ?_⟩
      · ((repeat (with_reducible first | refine ok_some ?_ | refine ok_bind ?_ | refine ok_op1 ?_ | refine ok_op2 ?_ | refine ok_op3 ?_ | refine ok_op4 ?_ | refine ok_op5 ?_ | refine ok_map ?_ | refine ok_not ?_ | refine ok_if ?_ | refine ok_nxt ?_ | refine ok_ret ?_ | refine ok_cons ?_ | refine ok_add ?_ | refine ok_sub ?_ | refine ok_neg ?_ | refine ok_lt ?_ | refine ok_le ?_ | refine ok_gt ?_ | refine ok_ge ?_ | refine ok_teq ?_ | refine ok_tne ?_ | refine ok_in ?_ | refine ok_nin ?_ | refine ok_len ?_ | refine ok_id ?_ | refine ok_mod (by decide) ?_ | refine ok_div (by decide) ?_ | refine ok_mulr (by decide) ?_ | refine ok_mull (by decide) ?_ | refine ok_pow (by decide) ?_ | refine ok_dis (by simp) ?_ | refine ok_cut ?_ | refine ok_sort ?_ | refine ok_zip ?_ | refine ok_all ?_ | refine ok_any ?_ | refine ok_max2 ?_ | refine ok_min2 ?_ | refine ok_pair ?_ | refine ok_cnt ?_ | refine ok_isB ?_ | refine ok_notB ?_)) <;> try dsimp only)
        refine ok_app (by omega) ?_
        ((repeat (with_reducible first | refine ok_some ?_ | refine ok_bind ?_ | refine ok_op1 ?_ | refine ok_op2 ?_ | refine ok_op3 ?_ | refine ok_op4 ?_ | refine ok_op5 ?_ | refine ok_map ?_ | refine ok_not ?_ | refine ok_if ?_ | refine ok_nxt ?_ | refine ok_ret ?_ | refine ok_cons ?_ | refine ok_add ?_ | refine ok_sub ?_ | refine ok_neg ?_ | refine ok_lt ?_ | refine ok_le ?_ | refine ok_gt ?_ | refine ok_ge ?_ | refine ok_teq ?_ | refine ok_tne ?_ | refine ok_in ?_ | refine ok_nin ?_ | refine ok_len ?_ | refine ok_id ?_ | refine ok_mod (by decide) ?_ | refine ok_div (by decide) ?_ | refine ok_mulr (by decide) ?_ | refine ok_mull (by decide) ?_ | refine ok_pow (by decide) ?_ | refine ok_dis (by simp) ?_ | refine ok_cut ?_ | refine ok_sort ?_ | refine ok_zip ?_ | refine ok_all ?_ | refine ok_any ?_ | refine ok_max2 ?_ | refine ok_min2 ?_ | refine ok_pair ?_ | refine ok_cnt ?_ | refine ok_isB ?_ | refine ok_notB ?_)) <;> try dsimp only)
        exact happ (t, one) ⟨by simp; omega, by simp; omega, by simp; omega, by simp; omega, by simp; omega, fun _ => by simp; omega⟩
      · ((repeat (with_reducible first | refine ok_some ?_ | refine ok_bind ?_ | refine ok_op1 ?_ | refine ok_op2 ?_ | refine ok_op3 ?_ | refine ok_op4 ?_ | refine ok_op5 ?_ | refine ok_map ?_ | refine ok_not ?_ | refine ok_if ?_ | refine ok_nxt ?_ | refine ok_ret ?_ | refine ok_cons ?_ | refine ok_add ?_ | refine ok_sub ?_ | refine ok_neg ?_ | refine ok_lt ?_ | refine ok_le ?_ | refine ok_gt ?_ | refine ok_ge ?_ | refine ok_teq ?_ | refine ok_tne ?_ | refine ok_in ?_ | refine ok_nin ?_ | refine ok_len ?_ | refine ok_id ?_ | refine ok_mod (by decide) ?_ | refine ok_div (by decide) ?_ | refine ok_mulr (by decide) ?_ | refine ok_mull (by decide) ?_ | refine ok_pow (by decide) ?_ | refine ok_dis (by simp) ?_ | refine ok_cut ?_ | refine ok_sort ?_ | refine ok_zip ?_ | refine ok_all ?_ | refine ok_any ?_ | refine ok_max2 ?_ | refine ok_min2 ?_ | refine ok_pair ?_ | refine ok_cnt ?_ | refine ok_isB ?_ | refine ok_notB ?_)) <;> try dsimp only)
        refine ok_app (by omega) ?_
        ((repeat (with_reducible first | refine ok_some ?_ | refine ok_bind ?_ | refine ok_op1 ?_ | refine ok_op2 ?_ | refine ok_op3 ?_ | refine ok_op4 ?_ | refine ok_op5 ?_ | refine ok_map ?_ | refine ok_not ?_ | refine ok_if ?_ | refine ok_nxt ?_ | refine ok_ret ?_ | refine ok_cons ?_ | refine ok_add ?_ | refine ok_sub ?_ | refine ok_neg ?_ | refine ok_lt ?_ | refine ok_le ?_ | refine ok_gt ?_ | refine ok_ge ?_ | refine ok_teq ?_ | refine ok_tne ?_ | refine ok_in ?_ | refine ok_nin ?_ | refine ok_len ?_ | refine ok_id ?_ | refine ok_mod (by decide) ?_ | refine ok_div (by decide) ?_ | refine ok_mulr (by decide) ?_ | refine ok_mull (by decide) ?_ | refine ok_pow (by decide) ?_ | refine ok_dis (by simp) ?_ | refine ok_cut ?_ | refine ok_sort ?_ | refine ok_zip ?_ | refine ok_all ?_ | refine ok_any ?_ | refine ok_max2 ?_ | refine ok_min2 ?_ | refine ok_pair ?_ | refine ok_cnt ?_ | refine ok_isB ?_ | refine ok_notB ?_)) <;> try dsimp only)
        exact happ (one, t) ⟨by simp; omega, by simp; omega, by simp; omega, by simp; omega, by simp; omega, fun hs => by simp; rcases hh with hh | hh; (rw [hs] at hh; cases hh); omega⟩
  · rintro s ⟨hq, hl⟩
    rw [rng_len] at hl
    ((repeat (with_reducible first | refine ok_some ?_ | refine ok_bind ?_ | refine ok_op1 ?_ | refine ok_op2 ?_ | refine ok_op3 ?_ | refine ok_op4 ?_ | refine ok_op5 ?_ | refine ok_map ?_ | refine ok_not ?_ | refine ok_if ?_ | refine ok_nxt ?_ | refine ok_ret ?_ | refine ok_cons ?_ | refine ok_add ?_ | refine ok_sub ?_ | refine ok_neg ?_ | refine ok_lt ?_ | refine ok_le ?_ | refine ok_gt ?_ | refine ok_ge ?_ | refine ok_teq ?_ | refine ok_tne ?_ | refine ok_in ?_ | refine ok_nin ?_ | refine ok_len ?_ | refine ok_id ?_ | refine ok_mod (by decide) ?_ | refine ok_div (by decide) ?_ | refine ok_mulr (by decide) ?_ | refine ok_mull (by decide) ?_ | refine ok_pow (by decide) ?_ | refine ok_dis (by simp) ?_ | refine ok_cut ?_ | refine ok_sort ?_ | refine ok_zip ?_ | refine ok_all ?_ | refine ok_any ?_ | refine ok_max2 ?_ | refine ok_min2 ?_ | refine ok_pair ?_ | refine ok_cnt ?_ | refine ok_isB ?_ | refine ok_notB ?_)) <;> try dsimp only)
    exact ⟨hq, by omega⟩

theorem isn_ok {x : Int} : t__law_is_number_I x = some true := rfl
theorem pix_ok {p : Int × Int} {x : Int} {P : Int → Prop} (h : 0 ≤ x ∧ x < 2) (k : P (if x = 0 then p.1 else p.2)) : Ok (tPix p x) P := by
  rcases (show x = 0 ∨ x = 1 by omega) with rfl | rfl
  · exact ⟨_, rfl, k⟩
  · exact ⟨_, rfl, k⟩
theorem rowP_ok {p q : Int × Int} : t__law_is_row_P_P p q = some (decide (p = q)) := by
  apply Ok.eq
  unfold t__law_is_row_P_P
  ((repeat (with_reducible first | refine ok_some ?_ | refine ok_bind ?_ | refine ok_op1 ?_ | refine ok_op2 ?_ | refine ok_op3 ?_ | refine ok_op4 ?_ | refine ok_op5 ?_ | refine ok_map ?_ | refine ok_not ?_ | refine ok_if ?_ | refine ok_nxt ?_ | refine ok_ret ?_ | refine ok_cons ?_ | refine ok_add ?_ | refine ok_sub ?_ | refine ok_neg ?_ | refine ok_lt ?_ | refine ok_le ?_ | refine ok_gt ?_ | refine ok_ge ?_ | refine ok_teq ?_ | refine ok_tne ?_ | refine ok_in ?_ | refine ok_nin ?_ | refine ok_len ?_ | refine ok_id ?_ | refine ok_mod (by decide) ?_ | refine ok_div (by decide) ?_ | refine ok_mulr (by decide) ?_ | refine ok_mull (by decide) ?_ | refine ok_pow (by decide) ?_ | refine ok_dis (by simp) ?_ | refine ok_cut ?_ | refine ok_sort ?_ | refine ok_zip ?_ | refine ok_all ?_ | refine ok_any ?_ | refine ok_max2 ?_ | refine ok_min2 ?_ | refine ok_pair ?_ | refine ok_cnt ?_ | refine ok_isB ?_ | refine ok_notB ?_)) <;> try dsimp only)
  refine ok_or2 ?_
  ((repeat (with_reducible first | refine ok_some ?_ | refine ok_bind ?_ | refine ok_op1 ?_ | refine ok_op2 ?_ | refine ok_op3 ?_ | refine ok_op4 ?_ | refine ok_op5 ?_ | refine ok_map ?_ | refine ok_not ?_ | refine ok_if ?_ | refine ok_nxt ?_ | refine ok_ret ?_ | refine ok_cons ?_ | refine ok_add ?_ | refine ok_sub ?_ | refine ok_neg ?_ | refine ok_lt ?_ | refine ok_le ?_ | refine ok_gt ?_ | refine ok_ge ?_ | refine ok_teq ?_ | refine ok_tne ?_ | refine ok_in ?_ | refine ok_nin ?_ | refine ok_len ?_ | refine ok_id ?_ | refine ok_mod (by decide) ?_ | refine ok_div (by decide) ?_ | refine ok_mulr (by decide) ?_ | refine ok_mull (by decide) ?_ | refine ok_pow (by decide) ?_ | refine ok_dis (by simp) ?_ | refine ok_cut ?_ | refine ok_sort ?_ | refine ok_zip ?_ | refine ok_all ?_ | refine ok_any ?_ | refine ok_max2 ?_ | refine ok_min2 ?_ | refine ok_pair ?_ | refine ok_cnt ?_ | refine ok_isB ?_ | refine ok_notB ?_)) <;> try dsimp only)
  refine ⟨fun hc => absurd hc (by decide), fun _ => ?_⟩
  ((repeat (with_reducible first | refine ok_some ?_ | refine ok_bind ?_ | refine ok_op1 ?_ | refine ok_op2 ?_ | refine ok_op3 ?_ | refine ok_op4 ?_ | refine ok_op5 ?_ | refine ok_map ?_ | refine ok_not ?_ | refine ok_if ?_ | refine ok_nxt ?_ | refine ok_ret ?_ | refine ok_cons ?_ | refine ok_add ?_ | refine ok_sub ?_ | refine ok_neg ?_ | refine ok_lt ?_ | refine ok_le ?_ | refine ok_gt ?_ | refine ok_ge ?_ | refine ok_teq ?_ | refine ok_tne ?_ | refine ok_in ?_ | refine ok_nin ?_ | refine ok_len ?_ | refine ok_id ?_ | refine ok_mod (by decide) ?_ | refine ok_div (by decide) ?_ | refine ok_mulr (by decide) ?_ | refine ok_mull (by decide) ?_ | refine ok_pow (by decide) ?_ | refine ok_dis (by simp) ?_ | refine ok_cut ?_ | refine ok_sort ?_ | refine ok_zip ?_ | refine ok_all ?_ | refine ok_any ?_ | refine ok_max2 ?_ | refine ok_min2 ?_ | refine ok_pair ?_ | refine ok_cnt ?_ | refine ok_isB ?_ | refine ok_notB ?_)) <;> try dsimp only)
  refine ok_r1 (by omega) ?_
  ((repeat (with_reducible first | refine ok_some ?_ | refine ok_bind ?_ | refine ok_op1 ?_ | refine ok_op2 ?_ | refine ok_op3 ?_ | refine ok_op4 ?_ | refine ok_op5 ?_ | refine ok_map ?_ | refine ok_not ?_ | refine ok_if ?_ | refine ok_nxt ?_ | refine ok_ret ?_ | refine ok_cons ?_ | refine ok_add ?_ | refine ok_sub ?_ | refine ok_neg ?_ | refine ok_lt ?_ | refine ok_le ?_ | refine ok_gt ?_ | refine ok_ge ?_ | refine ok_teq ?_ | refine ok_tne ?_ | refine ok_in ?_ | refine ok_nin ?_ | refine ok_len ?_ | refine ok_id ?_ | refine ok_mod (by decide) ?_ | refine ok_div (by decide) ?_ | refine ok_mulr (by decide) ?_ | refine ok_mull (by decide) ?_ | refine ok_pow (by decide) ?_ | refine ok_dis (by simp) ?_ | refine ok_cut ?_ | refine ok_sort ?_ | refine ok_zip ?_ | refine ok_all ?_ | refine ok_any ?_ | refine ok_max2 ?_ | refine ok_min2 ?_ | refine ok_pair ?_ | refine ok_cnt ?_ | refine ok_isB ?_ | refine ok_notB ?_)) <;> try dsimp only)
  refine ok_check (fun x => !decide ((if x = 0 then p.1 else p.2) = if x = 0 then q.1 else q.2)) false (fun x hx => ?_) ?_
  · have := rng_mem.mp hx
    ((repeat (with_reducible first | refine ok_some ?_ | refine ok_bind ?_ | refine ok_op1 ?_ | refine ok_op2 ?_ | refine ok_op3 ?_ | refine ok_op4 ?_ | refine ok_op5 ?_ | refine ok_map ?_ | refine ok_not ?_ | refine ok_if ?_ | refine ok_nxt ?_ | refine ok_ret ?_ | refine ok_cons ?_ | refine ok_add ?_ | refine ok_sub ?_ | refine ok_neg ?_ | refine ok_lt ?_ | refine ok_le ?_ | refine ok_gt ?_ | refine ok_ge ?_ | refine ok_teq ?_ | refine ok_tne ?_ | refine ok_in ?_ | refine ok_nin ?_ | refine ok_len ?_ | refine ok_id ?_ | refine ok_mod (by decide) ?_ | refine ok_div (by decide) ?_ | refine ok_mulr (by decide) ?_ | refine ok_mull (by decide) ?_ | refine ok_pow (by decide) ?_ | refine ok_dis (by simp) ?_ | refine ok_cut ?_ | refine ok_sort ?_ | refine ok_zip ?_ | refine ok_all ?_ | refine ok_any ?_ | refine ok_max2 ?_ | refine ok_min2 ?_ | refine ok_pair ?_ | refine ok_cnt ?_ | refine ok_isB ?_ | refine ok_notB ?_)) <;> try dsimp only)
    refine ok_or2 ?_
    ((repeat (with_reducible first | refine ok_some ?_ | refine ok_bind ?_ | refine ok_op1 ?_ | refine ok_op2 ?_ | refine ok_op3 ?_ | refine ok_op4 ?_ | refine ok_op5 ?_ | refine ok_map ?_ | refine ok_not ?_ | refine ok_if ?_ | refine ok_nxt ?_ | refine ok_ret ?_ | refine ok_cons ?_ | refine ok_add ?_ | refine ok_sub ?_ | refine ok_neg ?_ | refine ok_lt ?_ | refine ok_le ?_ | refine ok_gt ?_ | refine ok_ge ?_ | refine ok_teq ?_ | refine ok_tne ?_ | refine ok_in ?_ | refine ok_nin ?_ | refine ok_len ?_ | refine ok_id ?_ | refine ok_mod (by decide) ?_ | refine ok_div (by decide) ?_ | refine ok_mulr (by decide) ?_ | refine ok_mull (by decide) ?_ | refine ok_pow (by decide) ?_ | refine ok_dis (by simp) ?_ | refine ok_cut ?_ | refine ok_sort ?_ | refine ok_zip ?_ | refine ok_all ?_ | refine ok_any ?_ | refine ok_max2 ?_ | refine ok_min2 ?_ | refine ok_pair ?_ | refine ok_cnt ?_ | refine ok_isB ?_ | refine ok_notB ?_)) <;> try dsimp only)
    refine pix_ok (by omega) ?_
    refine ok_eq isn_ok ?_
    ((repeat (with_reducible first | refine ok_some ?_ | refine ok_bind ?_ | refine ok_op1 ?_ | refine ok_op2 ?_ | refine ok_op3 ?_ | refine ok_op4 ?_ | refine ok_op5 ?_ | refine ok_map ?_ | refine ok_not ?_ | refine ok_if ?_ | refine ok_nxt ?_ | refine ok_ret ?_ | refine ok_cons ?_ | refine ok_add ?_ | refine ok_sub ?_ | refine ok_neg ?_ | refine ok_lt ?_ | refine ok_le ?_ | refine ok_gt ?_ | refine ok_ge ?_ | refine ok_teq ?_ | refine ok_tne ?_ | refine ok_in ?_ | refine ok_nin ?_ | refine ok_len ?_ | refine ok_id ?_ | refine ok_mod (by decide) ?_ | refine ok_div (by decide) ?_ | refine ok_mulr (by decide) ?_ | refine ok_mull (by decide) ?_ | refine ok_pow (by decide) ?_ | refine ok_dis (by simp) ?_ | refine ok_cut ?_ | refine ok_sort ?_ | refine ok_zip ?_ | refine ok_all ?_ | refine ok_any ?_ | refine ok_max2 ?_ | refine ok_min2 ?_ | refine ok_pair ?_ | refine ok_cnt ?_ | refine ok_isB ?_ | refine ok_notB ?_)) <;> try dsimp only)
    refine pix_ok (by omega) ?_
    ((repeat (with_reducible first | refine ok_some ?_ | refine ok_bind ?_ | refine ok_op1 ?_ | refine ok_op2 ?_ | refine ok_op3 ?_ | refine ok_op4 ?_ | refine ok_op5 ?_ | refine ok_map ?_ | refine ok_not ?_ | refine ok_if ?_ | refine ok_nxt ?_ | refine ok_ret ?_ | refine ok_cons ?_ | refine ok_add ?_ | refine ok_sub ?_ | refine ok_neg ?_ | refine ok_lt ?_ | refine ok_le ?_ | refine ok_gt ?_ | refine ok_ge ?_ | refine ok_teq ?_ | refine ok_tne ?_ | refine ok_in ?_ | refine ok_nin ?_ | refine ok_len ?_ | refine ok_id ?_ | refine ok_mod (by decide) ?_ | refine ok_div (by decide) ?_ | refine ok_mulr (by decide) ?_ | refine ok_mull (by decide) ?_ | refine ok_pow (by decide) ?_ | refine ok_dis (by simp) ?_ | refine ok_cut ?_ | refine ok_sort ?_ | refine ok_zip ?_ | refine ok_all ?_ | refine ok_any ?_ | refine ok_max2 ?_ | refine ok_min2 ?_ | refine ok_pair ?_ | refine ok_cnt ?_ | refine ok_isB ?_ | refine ok_notB ?_)) <;> try dsimp only)
    refine pix_ok (by omega) ?_
    ((repeat (with_reducible first | refine ok_some ?_ | refine ok_bind ?_ | refine ok_op1 ?_ | refine ok_op2 ?_ | refine ok_op3 ?_ | refine ok_op4 ?_ | refine ok_op5 ?_ | refine ok_map ?_ | refine ok_not ?_ | refine ok_if ?_ | refine ok_nxt ?_ | refine ok_ret ?_ | refine ok_cons ?_ | refine ok_add ?_ | refine ok_sub ?_ | refine ok_neg ?_ | refine ok_lt ?_ | refine ok_le ?_ | refine ok_gt ?_ | refine ok_ge ?_ | refine ok_teq ?_ | refine ok_tne ?_ | refine ok_in ?_ | refine ok_nin ?_ | refine ok_len ?_ | refine ok_id ?_ | refine ok_mod (by decide) ?_ | refine ok_div (by decide) ?_ | refine ok_mulr (by decide) ?_ | refine ok_mull (by decide) ?_ | refine ok_pow (by decide) ?_ | refine ok_dis (by simp) ?_ | refine ok_cut ?_ | refine ok_sort ?_ | refine ok_zip ?_ | refine ok_all ?_ | refine ok_any ?_ | refine ok_max2 ?_ | refine ok_min2 ?_ | refine ok_pair ?_ | refine ok_cnt ?_ | refine ok_isB ?_ | refine ok_notB ?_)) <;> try dsimp only)
    simp only [Bool.not_true, Bool.false_or]
    refine ⟨fun hh => ?_, fun hh => ?_⟩ <;> ((repeat (with_reducible first | refine ok_some ?_ | refine ok_bind ?_ | refine ok_op1 ?_ | refine ok_op2 ?_ | refine ok_op3 ?_ | refine ok_op4 ?_ | refine ok_op5 ?_ | refine ok_map ?_ | refine ok_not ?_ | refine ok_if ?_ | refine ok_nxt ?_ | refine ok_ret ?_ | refine ok_cons ?_ | refine ok_add ?_ | refine ok_sub ?_ | refine ok_neg ?_ | refine ok_lt ?_ | refine ok_le ?_ | refine ok_gt ?_ | refine ok_ge ?_ | refine ok_teq ?_ | refine ok_tne ?_ | refine ok_in ?_ | refine ok_nin ?_ | refine ok_len ?_ | refine ok_id ?_ | refine ok_mod (by decide) ?_ | refine ok_div (by decide) ?_ | refine ok_mulr (by decide) ?_ | refine ok_mull (by decide) ?_ | refine ok_pow (by decide) ?_ | refine ok_dis (by simp) ?_ | refine ok_cut ?_ | refine ok_sort ?_ | refine ok_zip ?_ | refine ok_all ?_ | refine ok_any ?_ | refine ok_max2 ?_ | refine ok_min2 ?_ | refine ok_pair ?_ | refine ok_cnt ?_ | refine ok_isB ?_ | refine ok_notB ?_)) <;> try dsimp only)
    · rw [if_pos hh]
    · rw [if_neg (by rw [hh]; decide)]
  · obtain ⟨a, b⟩ := p
    obtain ⟨c, d⟩ := q
    have e : ((rngT 0 (2 : Int).toNat).any fun x => !decide ((if x = 0 then a else b) = if x = 0 then c else d)) = !decide ((a, b) = (c, d)) := by
      rw [show rngT 0 (2 : Int).toNat = [0, 1] from rfl]
      simp
    rw [e]
    by_cases h1 : (a, b) = (c, d)
    · rw [show (!decide ((a, b) = (c, d))) = false by simp [h1]]
      simp only [Bool.false_eq_true, if_false]
      ((repeat (with_reducible first | refine ok_some ?_ | refine ok_bind ?_ | refine ok_op1 ?_ | refine ok_op2 ?_ | refine ok_op3 ?_ | refine ok_op4 ?_ | refine ok_op5 ?_ | refine ok_map ?_ | refine ok_not ?_ | refine ok_if ?_ | refine ok_nxt ?_ | refine ok_ret ?_ | refine ok_cons ?_ | refine ok_add ?_ | refine ok_sub ?_ | refine ok_neg ?_ | refine ok_lt ?_ | refine ok_le ?_ | refine ok_gt ?_ | refine ok_ge ?_ | refine ok_teq ?_ | refine ok_tne ?_ | refine ok_in ?_ | refine ok_nin ?_ | refine ok_len ?_ | refine ok_id ?_ | refine ok_mod (by decide) ?_ | refine ok_div (by decide) ?_ | refine ok_mulr (by decide) ?_ | refine ok_mull (by decide) ?_ | refine ok_pow (by decide) ?_ | refine ok_dis (by simp) ?_ | refine ok_cut ?_ | refine ok_sort ?_ | refine ok_zip ?_ | refine ok_all ?_ | refine ok_any ?_ | refine ok_max2 ?_ | refine ok_min2 ?_ | refine ok_pair ?_ | refine ok_cnt ?_ | refine ok_isB ?_ | refine ok_notB ?_)) <;> try dsimp only)
      try simp [h1]
    · rw [show (!decide ((a, b) = (c, d))) = true by simp only [h1, decide_false, Bool.not_false]]
      simp only [if_true]
      ((repeat (with_reducible first | refine ok_some ?_ | refine ok_bind ?_ | refine ok_op1 ?_ | refine ok_op2 ?_ | refine ok_op3 ?_ | refine ok_op4 ?_ | refine ok_op5 ?_ | refine ok_map ?_ | refine ok_not ?_ | refine ok_if ?_ | refine ok_nxt ?_ | refine ok_ret ?_ | refine ok_cons ?_ | refine ok_add ?_ | refine ok_sub ?_ | refine ok_neg ?_ | refine ok_lt ?_ | refine ok_le ?_ | refine ok_gt ?_ | refine ok_ge ?_ | refine ok_teq ?_ | refine ok_tne ?_ | refine ok_in ?_ | refine ok_nin ?_ | refine ok_len ?_ | refine ok_id ?_ | refine ok_mod (by decide) ?_ | refine ok_div (by decide) ?_ | refine ok_mulr (by decide) ?_ | refine ok_mull (by decide) ?_ | refine ok_pow (by decide) ?_ | refine ok_dis (by simp) ?_ | refine ok_cut ?_ | refine ok_sort ?_ | refine ok_zip ?_ | refine ok_all ?_ | refine ok_any ?_ | refine ok_max2 ?_ | refine ok_min2 ?_ | refine ok_pair ?_ | refine ok_cnt ?_ | refine ok_isB ?_ | refine ok_notB ?_)) <;> try dsimp only)
      try simp only [h1, decide_false]
theorem made_ok {n : Net} {w : Int} {ps : List (Int × Int)} (hw : n.w = w) (hp : n.ps = ps) (hl : ps.length ≤ 100000) : t__law_is_made_N_I_LP n w ps = some true := by
  apply Ok.eq
  unfold t__law_is_made_N_I_LP
  rw [show n = ⟨w, ps⟩ by cases n; simp only at hw hp; rw [hw, hp]]
  ((repeat (with_reducible first | refine ok_some ?_ | refine ok_bind ?_ | refine ok_op1 ?_ | refine ok_op2 ?_ | refine ok_op3 ?_ | refine ok_op4 ?_ | refine ok_op5 ?_ | refine ok_map ?_ | refine ok_not ?_ | refine ok_if ?_ | refine ok_nxt ?_ | refine ok_ret ?_ | refine ok_cons ?_ | refine ok_add ?_ | refine ok_sub ?_ | refine ok_neg ?_ | refine ok_lt ?_ | refine ok_le ?_ | refine ok_gt ?_ | refine ok_ge ?_ | refine ok_teq ?_ | refine ok_tne ?_ | refine ok_in ?_ | refine ok_nin ?_ | refine ok_len ?_ | refine ok_id ?_ | refine ok_mod (by decide) ?_ | refine ok_div (by decide) ?_ | refine ok_mulr (by decide) ?_ | refine ok_mull (by decide) ?_ | refine ok_pow (by decide) ?_ | refine ok_dis (by simp) ?_ | refine ok_cut ?_ | refine ok_sort ?_ | refine ok_zip ?_ | refine ok_all ?_ | refine ok_any ?_ | refine ok_max2 ?_ | refine ok_min2 ?_ | refine ok_pair ?_ | refine ok_cnt ?_ | refine ok_isB ?_ | refine ok_notB ?_)) <;> try dsimp only)
  refine ok_or2 ?_
  ((repeat (with_reducible first | refine ok_some ?_ | refine ok_bind ?_ | refine ok_op1 ?_ | refine ok_op2 ?_ | refine ok_op3 ?_ | refine ok_op4 ?_ | refine ok_op5 ?_ | refine ok_map ?_ | refine ok_not ?_ | refine ok_if ?_ | refine ok_nxt ?_ | refine ok_ret ?_ | refine ok_cons ?_ | refine ok_add ?_ | refine ok_sub ?_ | refine ok_neg ?_ | refine ok_lt ?_ | refine ok_le ?_ | refine ok_gt ?_ | refine ok_ge ?_ | refine ok_teq ?_ | refine ok_tne ?_ | refine ok_in ?_ | refine ok_nin ?_ | refine ok_len ?_ | refine ok_id ?_ | refine ok_mod (by decide) ?_ | refine ok_div (by decide) ?_ | refine ok_mulr (by decide) ?_ | refine ok_mull (by decide) ?_ | refine ok_pow (by decide) ?_ | refine ok_dis (by simp) ?_ | refine ok_cut ?_ | refine ok_sort ?_ | refine ok_zip ?_ | refine ok_all ?_ | refine ok_any ?_ | refine ok_max2 ?_ | refine ok_min2 ?_ | refine ok_pair ?_ | refine ok_cnt ?_ | refine ok_isB ?_ | refine ok_notB ?_)) <;> try dsimp only)
  refine ok_or2 ?_
  ((repeat (with_reducible first | refine ok_some ?_ | refine ok_bind ?_ | refine ok_op1 ?_ | refine ok_op2 ?_ | refine ok_op3 ?_ | refine ok_op4 ?_ | refine ok_op5 ?_ | refine ok_map ?_ | refine ok_not ?_ | refine ok_if ?_ | refine ok_nxt ?_ | refine ok_ret ?_ | refine ok_cons ?_ | refine ok_add ?_ | refine ok_sub ?_ | refine ok_neg ?_ | refine ok_lt ?_ | refine ok_le ?_ | refine ok_gt ?_ | refine ok_ge ?_ | refine ok_teq ?_ | refine ok_tne ?_ | refine ok_in ?_ | refine ok_nin ?_ | refine ok_len ?_ | refine ok_id ?_ | refine ok_mod (by decide) ?_ | refine ok_div (by decide) ?_ | refine ok_mulr (by decide) ?_ | refine ok_mull (by decide) ?_ | refine ok_pow (by decide) ?_ | refine ok_dis (by simp) ?_ | refine ok_cut ?_ | refine ok_sort ?_ | refine ok_zip ?_ | refine ok_all ?_ | refine ok_any ?_ | refine ok_max2 ?_ | refine ok_min2 ?_ | refine ok_pair ?_ | refine ok_cnt ?_ | refine ok_isB ?_ | refine ok_notB ?_)) <;> try dsimp only)
  refine ok_eq isn_ok ?_
  ((repeat (with_reducible first | refine ok_some ?_ | refine ok_bind ?_ | refine ok_op1 ?_ | refine ok_op2 ?_ | refine ok_op3 ?_ | refine ok_op4 ?_ | refine ok_op5 ?_ | refine ok_map ?_ | refine ok_not ?_ | refine ok_if ?_ | refine ok_nxt ?_ | refine ok_ret ?_ | refine ok_cons ?_ | refine ok_add ?_ | refine ok_sub ?_ | refine ok_neg ?_ | refine ok_lt ?_ | refine ok_le ?_ | refine ok_gt ?_ | refine ok_ge ?_ | refine ok_teq ?_ | refine ok_tne ?_ | refine ok_in ?_ | refine ok_nin ?_ | refine ok_len ?_ | refine ok_id ?_ | refine ok_mod (by decide) ?_ | refine ok_div (by decide) ?_ | refine ok_mulr (by decide) ?_ | refine ok_mull (by decide) ?_ | refine ok_pow (by decide) ?_ | refine ok_dis (by simp) ?_ | refine ok_cut ?_ | refine ok_sort ?_ | refine ok_zip ?_ | refine ok_all ?_ | refine ok_any ?_ | refine ok_max2 ?_ | refine ok_min2 ?_ | refine ok_pair ?_ | refine ok_cnt ?_ | refine ok_isB ?_ | refine ok_notB ?_)) <;> try dsimp only)
  refine ⟨fun hc => absurd hc (by simp), fun _ => ?_⟩
  ((repeat (with_reducible first | refine ok_some ?_ | refine ok_bind ?_ | refine ok_op1 ?_ | refine ok_op2 ?_ | refine ok_op3 ?_ | refine ok_op4 ?_ | refine ok_op5 ?_ | refine ok_map ?_ | refine ok_not ?_ | refine ok_if ?_ | refine ok_nxt ?_ | refine ok_ret ?_ | refine ok_cons ?_ | refine ok_add ?_ | refine ok_sub ?_ | refine ok_neg ?_ | refine ok_lt ?_ | refine ok_le ?_ | refine ok_gt ?_ | refine ok_ge ?_ | refine ok_teq ?_ | refine ok_tne ?_ | refine ok_in ?_ | refine ok_nin ?_ | refine ok_len ?_ | refine ok_id ?_ | refine ok_mod (by decide) ?_ | refine ok_div (by decide) ?_ | refine ok_mulr (by decide) ?_ | refine ok_mull (by decide) ?_ | refine ok_pow (by decide) ?_ | refine ok_dis (by simp) ?_ | refine ok_cut ?_ | refine ok_sort ?_ | refine ok_zip ?_ | refine ok_all ?_ | refine ok_any ?_ | refine ok_max2 ?_ | refine ok_min2 ?_ | refine ok_pair ?_ | refine ok_cnt ?_ | refine ok_isB ?_ | refine ok_notB ?_)) <;> try dsimp only)
  refine ok_or2 ?_
  ((repeat (with_reducible first | refine ok_some ?_ | refine ok_bind ?_ | refine ok_op1 ?_ | refine ok_op2 ?_ | refine ok_op3 ?_ | refine ok_op4 ?_ | refine ok_op5 ?_ | refine ok_map ?_ | refine ok_not ?_ | refine ok_if ?_ | refine ok_nxt ?_ | refine ok_ret ?_ | refine ok_cons ?_ | refine ok_add ?_ | refine ok_sub ?_ | refine ok_neg ?_ | refine ok_lt ?_ | refine ok_le ?_ | refine ok_gt ?_ | refine ok_ge ?_ | refine ok_teq ?_ | refine ok_tne ?_ | refine ok_in ?_ | refine ok_nin ?_ | refine ok_len ?_ | refine ok_id ?_ | refine ok_mod (by decide) ?_ | refine ok_div (by decide) ?_ | refine ok_mulr (by decide) ?_ | refine ok_mull (by decide) ?_ | refine ok_pow (by decide) ?_ | refine ok_dis (by simp) ?_ | refine ok_cut ?_ | refine ok_sort ?_ | refine ok_zip ?_ | refine ok_all ?_ | refine ok_any ?_ | refine ok_max2 ?_ | refine ok_min2 ?_ | refine ok_pair ?_ | refine ok_cnt ?_ | refine ok_isB ?_ | refine ok_notB ?_)) <;> try dsimp only)
  refine ⟨fun hc => absurd hc (by simp), fun _ => ?_⟩
  ((repeat (with_reducible first | refine ok_some ?_ | refine ok_bind ?_ | refine ok_op1 ?_ | refine ok_op2 ?_ | refine ok_op3 ?_ | refine ok_op4 ?_ | refine ok_op5 ?_ | refine ok_map ?_ | refine ok_not ?_ | refine ok_if ?_ | refine ok_nxt ?_ | refine ok_ret ?_ | refine ok_cons ?_ | refine ok_add ?_ | refine ok_sub ?_ | refine ok_neg ?_ | refine ok_lt ?_ | refine ok_le ?_ | refine ok_gt ?_ | refine ok_ge ?_ | refine ok_teq ?_ | refine ok_tne ?_ | refine ok_in ?_ | refine ok_nin ?_ | refine ok_len ?_ | refine ok_id ?_ | refine ok_mod (by decide) ?_ | refine ok_div (by decide) ?_ | refine ok_mulr (by decide) ?_ | refine ok_mull (by decide) ?_ | refine ok_pow (by decide) ?_ | refine ok_dis (by simp) ?_ | refine ok_cut ?_ | refine ok_sort ?_ | refine ok_zip ?_ | refine ok_all ?_ | refine ok_any ?_ | refine ok_max2 ?_ | refine ok_min2 ?_ | refine ok_pair ?_ | refine ok_cnt ?_ | refine ok_isB ?_ | refine ok_notB ?_)) <;> try dsimp only)
  refine ok_r1 (by omega) ?_
  ((repeat (with_reducible first | refine ok_some ?_ | refine ok_bind ?_ | refine ok_op1 ?_ | refine ok_op2 ?_ | refine ok_op3 ?_ | refine ok_op4 ?_ | refine ok_op5 ?_ | refine ok_map ?_ | refine ok_not ?_ | refine ok_if ?_ | refine ok_nxt ?_ | refine ok_ret ?_ | refine ok_cons ?_ | refine ok_add ?_ | refine ok_sub ?_ | refine ok_neg ?_ | refine ok_lt ?_ | refine ok_le ?_ | refine ok_gt ?_ | refine ok_ge ?_ | refine ok_teq ?_ | refine ok_tne ?_ | refine ok_in ?_ | refine ok_nin ?_ | refine ok_len ?_ | refine ok_id ?_ | refine ok_mod (by decide) ?_ | refine ok_div (by decide) ?_ | refine ok_mulr (by decide) ?_ | refine ok_mull (by decide) ?_ | refine ok_pow (by decide) ?_ | refine ok_dis (by simp) ?_ | refine ok_cut ?_ | refine ok_sort ?_ | refine ok_zip ?_ | refine ok_all ?_ | refine ok_any ?_ | refine ok_max2 ?_ | refine ok_min2 ?_ | refine ok_pair ?_ | refine ok_cnt ?_ | refine ok_isB ?_ | refine ok_notB ?_)) <;> try dsimp only)
  refine ok_check (fun _ => false) false (fun x hx => ?_) ?_
  · have := rng_mem.mp hx
    ((repeat (with_reducible first | refine ok_some ?_ | refine ok_bind ?_ | refine ok_op1 ?_ | refine ok_op2 ?_ | refine ok_op3 ?_ | refine ok_op4 ?_ | refine ok_op5 ?_ | refine ok_map ?_ | refine ok_not ?_ | refine ok_if ?_ | refine ok_nxt ?_ | refine ok_ret ?_ | refine ok_cons ?_ | refine ok_add ?_ | refine ok_sub ?_ | refine ok_neg ?_ | refine ok_lt ?_ | refine ok_le ?_ | refine ok_gt ?_ | refine ok_ge ?_ | refine ok_teq ?_ | refine ok_tne ?_ | refine ok_in ?_ | refine ok_nin ?_ | refine ok_len ?_ | refine ok_id ?_ | refine ok_mod (by decide) ?_ | refine ok_div (by decide) ?_ | refine ok_mulr (by decide) ?_ | refine ok_mull (by decide) ?_ | refine ok_pow (by decide) ?_ | refine ok_dis (by simp) ?_ | refine ok_cut ?_ | refine ok_sort ?_ | refine ok_zip ?_ | refine ok_all ?_ | refine ok_any ?_ | refine ok_max2 ?_ | refine ok_min2 ?_ | refine ok_pair ?_ | refine ok_cnt ?_ | refine ok_isB ?_ | refine ok_notB ?_)) <;> try dsimp only)
    refine ok_ix (by omega) fun y hy => ?_
    ((repeat (with_reducible first | refine ok_some ?_ | refine ok_bind ?_ | refine ok_op1 ?_ | refine ok_op2 ?_ | refine ok_op3 ?_ | refine ok_op4 ?_ | refine ok_op5 ?_ | refine ok_map ?_ | refine ok_not ?_ | refine ok_if ?_ | refine ok_nxt ?_ | refine ok_ret ?_ | refine ok_cons ?_ | refine ok_add ?_ | refine ok_sub ?_ | refine ok_neg ?_ | refine ok_lt ?_ | refine ok_le ?_ | refine ok_gt ?_ | refine ok_ge ?_ | refine ok_teq ?_ | refine ok_tne ?_ | refine ok_in ?_ | refine ok_nin ?_ | refine ok_len ?_ | refine ok_id ?_ | refine ok_mod (by decide) ?_ | refine ok_div (by decide) ?_ | refine ok_mulr (by decide) ?_ | refine ok_mull (by decide) ?_ | refine ok_pow (by decide) ?_ | refine ok_dis (by simp) ?_ | refine ok_cut ?_ | refine ok_sort ?_ | refine ok_zip ?_ | refine ok_all ?_ | refine ok_any ?_ | refine ok_max2 ?_ | refine ok_min2 ?_ | refine ok_pair ?_ | refine ok_cnt ?_ | refine ok_isB ?_ | refine ok_notB ?_)) <;> try dsimp only)
    refine ok_ix (by omega) fun z hz => ?_
    refine ok_eq rowP_ok ?_
    rw [hy] at hz
    cases hz
    simp only [decide_true]
    exact ⟨fun hc => absurd hc (by simp), fun _ => ok_some rfl⟩
  · rw [show ((rngT 0 ((ps.length : Nat) : Int).toNat).any fun _ => false) = false by simp]
    simp only [Bool.false_eq_true, if_false]
    ((repeat (with_reducible first | refine ok_some ?_ | refine ok_bind ?_ | refine ok_op1 ?_ | refine ok_op2 ?_ | refine ok_op3 ?_ | refine ok_op4 ?_ | refine ok_op5 ?_ | refine ok_map ?_ | refine ok_not ?_ | refine ok_if ?_ | refine ok_nxt ?_ | refine ok_ret ?_ | refine ok_cons ?_ | refine ok_add ?_ | refine ok_sub ?_ | refine ok_neg ?_ | refine ok_lt ?_ | refine ok_le ?_ | refine ok_gt ?_ | refine ok_ge ?_ | refine ok_teq ?_ | refine ok_tne ?_ | refine ok_in ?_ | refine ok_nin ?_ | refine ok_len ?_ | refine ok_id ?_ | refine ok_mod (by decide) ?_ | refine ok_div (by decide) ?_ | refine ok_mulr (by decide) ?_ | refine ok_mull (by decide) ?_ | refine ok_pow (by decide) ?_ | refine ok_dis (by simp) ?_ | refine ok_cut ?_ | refine ok_sort ?_ | refine ok_zip ?_ | refine ok_all ?_ | refine ok_any ?_ | refine ok_max2 ?_ | refine ok_min2 ?_ | refine ok_pair ?_ | refine ok_cnt ?_ | refine ok_isB ?_ | refine ok_notB ?_)) <;> try dsimp only)
    try rfl

theorem ref_bad {w : Int} {ps : List (Int × Int)} {p : Int × Int} {P : Bool → Prop} (hl : ps.length ≤ 100000) (hp : p ∈ ps) (hb : Dt.okP w p.1 p.2 = false) (h : P true) : Ok (tRef w ps) P :=
  ⟨true, if_pos ⟨hl, .inr (List.any_eq_true.mpr ⟨p, hp, by rw [hb]; rfl⟩)⟩, h⟩
theorem ref_low {w : Int} {ps : List (Int × Int)} {P : Bool → Prop} (hl : ps.length ≤ 100000) (hw : w < 1) (h : P true) : Ok (tRef w ps) P := ⟨true, if_pos ⟨hl, .inl hw⟩, h⟩
theorem any_no01 {α : Type} {l : List α} {p : α → Bool} (h : ∀ x, p x = false) : l.any p = false := by
  rw [List.any_eq_false]; intro x _; rw [h]; decide
theorem law_typed (script : List Int) : t_law_F script = some true := by
  apply Ok.eq
  unfold t_law_F
  refine ok_bind ?_
  ((repeat (with_reducible first | refine ok_some ?_ | refine ok_bind ?_ | refine ok_op1 ?_ | refine ok_op2 ?_ | refine ok_op3 ?_ | refine ok_op4 ?_ | refine ok_op5 ?_ | refine ok_map ?_ | refine ok_not ?_ | refine ok_if ?_ | refine ok_nxt ?_ | refine ok_ret ?_ | refine ok_cons ?_ | refine ok_add ?_ | refine ok_sub ?_ | refine ok_neg ?_ | refine ok_lt ?_ | refine ok_le ?_ | refine ok_gt ?_ | refine ok_ge ?_ | refine ok_teq ?_ | refine ok_tne ?_ | refine ok_in ?_ | refine ok_nin ?_ | refine ok_len ?_ | refine ok_id ?_ | refine ok_mod (by decide) ?_ | refine ok_div (by decide) ?_ | refine ok_mulr (by decide) ?_ | refine ok_mull (by decide) ?_ | refine ok_pow (by decide) ?_ | refine ok_dis (by simp) ?_ | refine ok_cut ?_ | refine ok_sort ?_ | refine ok_zip ?_ | refine ok_all ?_ | refine ok_any ?_ | refine ok_max2 ?_ | refine ok_min2 ?_ | refine ok_pair ?_ | refine ok_cnt ?_ | refine ok_isB ?_ | refine ok_notB ?_)) <;> try dsimp only)
  refine (numbers_ok script 19 (by decide)).imp fun ns hn => ?_
  obtain ⟨hnl, hnb⟩ := hn
  have hnl' : (ns.length : Int) = 19 := by rw [hnl]; rfl
  refine ok_bind ?_
  refine Ok.imp (Q := fun w => 1 ≤ w ∧ w ≤ 12) ?_ fun w hw => ?_
  · ((repeat (with_reducible first | refine ok_some ?_ | refine ok_bind ?_ | refine ok_op1 ?_ | refine ok_op2 ?_ | refine ok_op3 ?_ | refine ok_op4 ?_ | refine ok_op5 ?_ | refine ok_map ?_ | refine ok_not ?_ | refine ok_if ?_ | refine ok_nxt ?_ | refine ok_ret ?_ | refine ok_cons ?_ | refine ok_add ?_ | refine ok_sub ?_ | refine ok_neg ?_ | refine ok_lt ?_ | refine ok_le ?_ | refine ok_gt ?_ | refine ok_ge ?_ | refine ok_teq ?_ | refine ok_tne ?_ | refine ok_in ?_ | refine ok_nin ?_ | refine ok_len ?_ | refine ok_id ?_ | refine ok_mod (by decide) ?_ | refine ok_div (by decide) ?_ | refine ok_mulr (by decide) ?_ | refine ok_mull (by decide) ?_ | refine ok_pow (by decide) ?_ | refine ok_dis (by simp) ?_ | refine ok_cut ?_ | refine ok_sort ?_ | refine ok_zip ?_ | refine ok_all ?_ | refine ok_any ?_ | refine ok_max2 ?_ | refine ok_min2 ?_ | refine ok_pair ?_ | refine ok_cnt ?_ | refine ok_isB ?_ | refine ok_notB ?_)) <;> try dsimp only)
    refine ok_num hnb (by omega) fun a ha0 ha1 => ?_
    ((repeat (with_reducible first | refine ok_some ?_ | refine ok_bind ?_ | refine ok_op1 ?_ | refine ok_op2 ?_ | refine ok_op3 ?_ | refine ok_op4 ?_ | refine ok_op5 ?_ | refine ok_map ?_ | refine ok_not ?_ | refine ok_if ?_ | refine ok_nxt ?_ | refine ok_ret ?_ | refine ok_cons ?_ | refine ok_add ?_ | refine ok_sub ?_ | refine ok_neg ?_ | refine ok_lt ?_ | refine ok_le ?_ | refine ok_gt ?_ | refine ok_ge ?_ | refine ok_teq ?_ | refine ok_tne ?_ | refine ok_in ?_ | refine ok_nin ?_ | refine ok_len ?_ | refine ok_id ?_ | refine ok_mod (by decide) ?_ | refine ok_div (by decide) ?_ | refine ok_mulr (by decide) ?_ | refine ok_mull (by decide) ?_ | refine ok_pow (by decide) ?_ | refine ok_dis (by simp) ?_ | refine ok_cut ?_ | refine ok_sort ?_ | refine ok_zip ?_ | refine ok_all ?_ | refine ok_any ?_ | refine ok_max2 ?_ | refine ok_min2 ?_ | refine ok_pair ?_ | refine ok_cnt ?_ | refine ok_isB ?_ | refine ok_notB ?_)) <;> try dsimp only)
    exact (wires_ok a 12 (by decide)).imp fun w hw => by omega
  refine ok_bind ?_
  refine Ok.imp (Q := fun ps => (∀ q ∈ ps, 0 ≤ q.1 ∧ q.1 < w ∧ 0 ≤ q.2 ∧ q.2 < w ∧ q.1 ≠ q.2) ∧ ps.length ≤ 12) ?_ fun ps hps => ?_
  · ((repeat (with_reducible first | refine ok_some ?_ | refine ok_bind ?_ | refine ok_op1 ?_ | refine ok_op2 ?_ | refine ok_op3 ?_ | refine ok_op4 ?_ | refine ok_op5 ?_ | refine ok_map ?_ | refine ok_not ?_ | refine ok_if ?_ | refine ok_nxt ?_ | refine ok_ret ?_ | refine ok_cons ?_ | refine ok_add ?_ | refine ok_sub ?_ | refine ok_neg ?_ | refine ok_lt ?_ | refine ok_le ?_ | refine ok_gt ?_ | refine ok_ge ?_ | refine ok_teq ?_ | refine ok_tne ?_ | refine ok_in ?_ | refine ok_nin ?_ | refine ok_len ?_ | refine ok_id ?_ | refine ok_mod (by decide) ?_ | refine ok_div (by decide) ?_ | refine ok_mulr (by decide) ?_ | refine ok_mull (by decide) ?_ | refine ok_pow (by decide) ?_ | refine ok_dis (by simp) ?_ | refine ok_cut ?_ | refine ok_sort ?_ | refine ok_zip ?_ | refine ok_all ?_ | refine ok_any ?_ | refine ok_max2 ?_ | refine ok_min2 ?_ | refine ok_pair ?_ | refine ok_cnt ?_ | refine ok_isB ?_ | refine ok_notB ?_)) <;> try dsimp only)
    refine ok_num hnb (by omega) fun b hb0 hb1 => ?_
    ((repeat (with_reducible first | refine ok_some ?_ | refine ok_bind ?_ | refine ok_op1 ?_ | refine ok_op2 ?_ | refine ok_op3 ?_ | refine ok_op4 ?_ | refine ok_op5 ?_ | refine ok_map ?_ | refine ok_not ?_ | refine ok_if ?_ | refine ok_nxt ?_ | refine ok_ret ?_ | refine ok_cons ?_ | refine ok_add ?_ | refine ok_sub ?_ | refine ok_neg ?_ | refine ok_lt ?_ | refine ok_le ?_ | refine ok_gt ?_ | refine ok_ge ?_ | refine ok_teq ?_ | refine ok_tne ?_ | refine ok_in ?_ | refine ok_nin ?_ | refine ok_len ?_ | refine ok_id ?_ | refine ok_mod (by decide) ?_ | refine ok_div (by decide) ?_ | refine ok_mulr (by decide) ?_ | refine ok_mull (by decide) ?_ | refine ok_pow (by decide) ?_ | refine ok_dis (by simp) ?_ | refine ok_cut ?_ | refine ok_sort ?_ | refine ok_zip ?_ | refine ok_all ?_ | refine ok_any ?_ | refine ok_max2 ?_ | refine ok_min2 ?_ | refine ok_pair ?_ | refine ok_cnt ?_ | refine ok_isB ?_ | refine ok_notB ?_)) <;> try dsimp only)
    refine (pairs13_ok (ns := ns) (p := 2) (w := w) (by omega) hnb).imp fun ps hps => ?_
    exact ⟨fun q hq => by have := hps.1 q hq; omega, by omega⟩
  obtain ⟨hq, hpl⟩ := hps
  refine ok_bind ?_
  refine Ok.imp (Q := fun s => 0 ≤ s ∧ s ≤ ps.length) ?_ fun s hs => ?_
  · ((repeat (with_reducible first | refine ok_some ?_ | refine ok_bind ?_ | refine ok_op1 ?_ | refine ok_op2 ?_ | refine ok_op3 ?_ | refine ok_op4 ?_ | refine ok_op5 ?_ | refine ok_map ?_ | refine ok_not ?_ | refine ok_if ?_ | refine ok_nxt ?_ | refine ok_ret ?_ | refine ok_cons ?_ | refine ok_add ?_ | refine ok_sub ?_ | refine ok_neg ?_ | refine ok_lt ?_ | refine ok_le ?_ | refine ok_gt ?_ | refine ok_ge ?_ | refine ok_teq ?_ | refine ok_tne ?_ | refine ok_in ?_ | refine ok_nin ?_ | refine ok_len ?_ | refine ok_id ?_ | refine ok_mod (by decide) ?_ | refine ok_div (by decide) ?_ | refine ok_mulr (by decide) ?_ | refine ok_mull (by decide) ?_ | refine ok_pow (by decide) ?_ | refine ok_dis (by simp) ?_ | refine ok_cut ?_ | refine ok_sort ?_ | refine ok_zip ?_ | refine ok_all ?_ | refine ok_any ?_ | refine ok_max2 ?_ | refine ok_min2 ?_ | refine ok_pair ?_ | refine ok_cnt ?_ | refine ok_isB ?_ | refine ok_notB ?_)) <;> try dsimp only)
    refine ok_num hnb (by omega) fun b hb0 hb1 => ?_
    ((repeat (with_reducible first | refine ok_some ?_ | refine ok_bind ?_ | refine ok_op1 ?_ | refine ok_op2 ?_ | refine ok_op3 ?_ | refine ok_op4 ?_ | refine ok_op5 ?_ | refine ok_map ?_ | refine ok_not ?_ | refine ok_if ?_ | refine ok_nxt ?_ | refine ok_ret ?_ | refine ok_cons ?_ | refine ok_add ?_ | refine ok_sub ?_ | refine ok_neg ?_ | refine ok_lt ?_ | refine ok_le ?_ | refine ok_gt ?_ | refine ok_ge ?_ | refine ok_teq ?_ | refine ok_tne ?_ | refine ok_in ?_ | refine ok_nin ?_ | refine ok_len ?_ | refine ok_id ?_ | refine ok_mod (by decide) ?_ | refine ok_div (by decide) ?_ | refine ok_mulr (by decide) ?_ | refine ok_mull (by decide) ?_ | refine ok_pow (by decide) ?_ | refine ok_dis (by simp) ?_ | refine ok_cut ?_ | refine ok_sort ?_ | refine ok_zip ?_ | refine ok_all ?_ | refine ok_any ?_ | refine ok_max2 ?_ | refine ok_min2 ?_ | refine ok_pair ?_ | refine ok_cnt ?_ | refine ok_isB ?_ | refine ok_notB ?_)) <;> try dsimp only)
    refine ok_mod (by omega) ?_
    have h1 := Int.emod_nonneg b (show ((ps.length : Nat) : Int) + 1 ≠ 0 by omega)
    have h2 := Int.emod_lt_of_pos b (show (0 : Int) < ((ps.length : Nat) : Int) + 1 by omega)
    omega
  refine ok_bind ?_
  refine Ok.imp (Q := fun x => 0 ≤ x ∧ x < w) ?_ fun x hx => ?_
  · ((repeat (with_reducible first | refine ok_some ?_ | refine ok_bind ?_ | refine ok_op1 ?_ | refine ok_op2 ?_ | refine ok_op3 ?_ | refine ok_op4 ?_ | refine ok_op5 ?_ | refine ok_map ?_ | refine ok_not ?_ | refine ok_if ?_ | refine ok_nxt ?_ | refine ok_ret ?_ | refine ok_cons ?_ | refine ok_add ?_ | refine ok_sub ?_ | refine ok_neg ?_ | refine ok_lt ?_ | refine ok_le ?_ | refine ok_gt ?_ | refine ok_ge ?_ | refine ok_teq ?_ | refine ok_tne ?_ | refine ok_in ?_ | refine ok_nin ?_ | refine ok_len ?_ | refine ok_id ?_ | refine ok_mod (by decide) ?_ | refine ok_div (by decide) ?_ | refine ok_mulr (by decide) ?_ | refine ok_mull (by decide) ?_ | refine ok_pow (by decide) ?_ | refine ok_dis (by simp) ?_ | refine ok_cut ?_ | refine ok_sort ?_ | refine ok_zip ?_ | refine ok_all ?_ | refine ok_any ?_ | refine ok_max2 ?_ | refine ok_min2 ?_ | refine ok_pair ?_ | refine ok_cnt ?_ | refine ok_isB ?_ | refine ok_notB ?_)) <;> try dsimp only)
    refine ok_num hnb (by omega) fun b hb0 hb1 => ?_
    ((repeat (with_reducible first | refine ok_some ?_ | refine ok_bind ?_ | refine ok_op1 ?_ | refine ok_op2 ?_ | refine ok_op3 ?_ | refine ok_op4 ?_ | refine ok_op5 ?_ | refine ok_map ?_ | refine ok_not ?_ | refine ok_if ?_ | refine ok_nxt ?_ | refine ok_ret ?_ | refine ok_cons ?_ | refine ok_add ?_ | refine ok_sub ?_ | refine ok_neg ?_ | refine ok_lt ?_ | refine ok_le ?_ | refine ok_gt ?_ | refine ok_ge ?_ | refine ok_teq ?_ | refine ok_tne ?_ | refine ok_in ?_ | refine ok_nin ?_ | refine ok_len ?_ | refine ok_id ?_ | refine ok_mod (by decide) ?_ | refine ok_div (by decide) ?_ | refine ok_mulr (by decide) ?_ | refine ok_mull (by decide) ?_ | refine ok_pow (by decide) ?_ | refine ok_dis (by simp) ?_ | refine ok_cut ?_ | refine ok_sort ?_ | refine ok_zip ?_ | refine ok_all ?_ | refine ok_any ?_ | refine ok_max2 ?_ | refine ok_min2 ?_ | refine ok_pair ?_ | refine ok_cnt ?_ | refine ok_isB ?_ | refine ok_notB ?_)) <;> try dsimp only)
    refine ok_mod (by omega) ?_
    exact ⟨Int.emod_nonneg _ (by omega), Int.emod_lt_of_pos _ (by omega)⟩
  refine ok_bind ?_
  ((repeat (with_reducible first | refine ok_some ?_ | refine ok_bind ?_ | refine ok_op1 ?_ | refine ok_op2 ?_ | refine ok_op3 ?_ | refine ok_op4 ?_ | refine ok_op5 ?_ | refine ok_map ?_ | refine ok_not ?_ | refine ok_if ?_ | refine ok_nxt ?_ | refine ok_ret ?_ | refine ok_cons ?_ | refine ok_add ?_ | refine ok_sub ?_ | refine ok_neg ?_ | refine ok_lt ?_ | refine ok_le ?_ | refine ok_gt ?_ | refine ok_ge ?_ | refine ok_teq ?_ | refine ok_tne ?_ | refine ok_in ?_ | refine ok_nin ?_ | refine ok_len ?_ | refine ok_id ?_ | refine ok_mod (by decide) ?_ | refine ok_div (by decide) ?_ | refine ok_mulr (by decide) ?_ | refine ok_mull (by decide) ?_ | refine ok_pow (by decide) ?_ | refine ok_dis (by simp) ?_ | refine ok_cut ?_ | refine ok_sort ?_ | refine ok_zip ?_ | refine ok_all ?_ | refine ok_any ?_ | refine ok_max2 ?_ | refine ok_min2 ?_ | refine ok_pair ?_ | refine ok_cnt ?_ | refine ok_isB ?_ | refine ok_notB ?_)) <;> try dsimp only)
  refine ok_num hnb (by omega) fun far hf0 hf1 => ?_
  refine ok_bind ?_
  refine Ok.imp (Q := fun f => 0 ≤ f) ?_ fun f hf => ?_
  · ((repeat (with_reducible first | refine ok_some ?_ | refine ok_bind ?_ | refine ok_op1 ?_ | refine ok_op2 ?_ | refine ok_op3 ?_ | refine ok_op4 ?_ | refine ok_op5 ?_ | refine ok_map ?_ | refine ok_not ?_ | refine ok_if ?_ | refine ok_nxt ?_ | refine ok_ret ?_ | refine ok_cons ?_ | refine ok_add ?_ | refine ok_sub ?_ | refine ok_neg ?_ | refine ok_lt ?_ | refine ok_le ?_ | refine ok_gt ?_ | refine ok_ge ?_ | refine ok_teq ?_ | refine ok_tne ?_ | refine ok_in ?_ | refine ok_nin ?_ | refine ok_len ?_ | refine ok_id ?_ | refine ok_mod (by decide) ?_ | refine ok_div (by decide) ?_ | refine ok_mulr (by decide) ?_ | refine ok_mull (by decide) ?_ | refine ok_pow (by decide) ?_ | refine ok_dis (by simp) ?_ | refine ok_cut ?_ | refine ok_sort ?_ | refine ok_zip ?_ | refine ok_all ?_ | refine ok_any ?_ | refine ok_max2 ?_ | refine ok_min2 ?_ | refine ok_pair ?_ | refine ok_cnt ?_ | refine ok_isB ?_ | refine ok_notB ?_)) <;> try dsimp only)
    refine ok_num hnb (by omega) fun b hb0 hb1 => ?_
    ((repeat (with_reducible first | refine ok_some ?_ | refine ok_bind ?_ | refine ok_op1 ?_ | refine ok_op2 ?_ | refine ok_op3 ?_ | refine ok_op4 ?_ | refine ok_op5 ?_ | refine ok_map ?_ | refine ok_not ?_ | refine ok_if ?_ | refine ok_nxt ?_ | refine ok_ret ?_ | refine ok_cons ?_ | refine ok_add ?_ | refine ok_sub ?_ | refine ok_neg ?_ | refine ok_lt ?_ | refine ok_le ?_ | refine ok_gt ?_ | refine ok_ge ?_ | refine ok_teq ?_ | refine ok_tne ?_ | refine ok_in ?_ | refine ok_nin ?_ | refine ok_len ?_ | refine ok_id ?_ | refine ok_mod (by decide) ?_ | refine ok_div (by decide) ?_ | refine ok_mulr (by decide) ?_ | refine ok_mull (by decide) ?_ | refine ok_pow (by decide) ?_ | refine ok_dis (by simp) ?_ | refine ok_cut ?_ | refine ok_sort ?_ | refine ok_zip ?_ | refine ok_all ?_ | refine ok_any ?_ | refine ok_max2 ?_ | refine ok_min2 ?_ | refine ok_pair ?_ | refine ok_cnt ?_ | refine ok_isB ?_ | refine ok_notB ?_)) <;> try dsimp only)
    refine ⟨fun _ => ?_, fun _ => ok_some hf0⟩
    ((repeat (with_reducible first | refine ok_some ?_ | refine ok_bind ?_ | refine ok_op1 ?_ | refine ok_op2 ?_ | refine ok_op3 ?_ | refine ok_op4 ?_ | refine ok_op5 ?_ | refine ok_map ?_ | refine ok_not ?_ | refine ok_if ?_ | refine ok_nxt ?_ | refine ok_ret ?_ | refine ok_cons ?_ | refine ok_add ?_ | refine ok_sub ?_ | refine ok_neg ?_ | refine ok_lt ?_ | refine ok_le ?_ | refine ok_gt ?_ | refine ok_ge ?_ | refine ok_teq ?_ | refine ok_tne ?_ | refine ok_in ?_ | refine ok_nin ?_ | refine ok_len ?_ | refine ok_id ?_ | refine ok_mod (by decide) ?_ | refine ok_div (by decide) ?_ | refine ok_mulr (by decide) ?_ | refine ok_mull (by decide) ?_ | refine ok_pow (by decide) ?_ | refine ok_dis (by simp) ?_ | refine ok_cut ?_ | refine ok_sort ?_ | refine ok_zip ?_ | refine ok_all ?_ | refine ok_any ?_ | refine ok_max2 ?_ | refine ok_min2 ?_ | refine ok_pair ?_ | refine ok_cnt ?_ | refine ok_isB ?_ | refine ok_notB ?_)) <;> try dsimp only)
    refine ok_mull (by unfold smallF; simp; omega) ?_
    ((repeat (with_reducible first | refine ok_some ?_ | refine ok_bind ?_ | refine ok_op1 ?_ | refine ok_op2 ?_ | refine ok_op3 ?_ | refine ok_op4 ?_ | refine ok_op5 ?_ | refine ok_map ?_ | refine ok_not ?_ | refine ok_if ?_ | refine ok_nxt ?_ | refine ok_ret ?_ | refine ok_cons ?_ | refine ok_add ?_ | refine ok_sub ?_ | refine ok_neg ?_ | refine ok_lt ?_ | refine ok_le ?_ | refine ok_gt ?_ | refine ok_ge ?_ | refine ok_teq ?_ | refine ok_tne ?_ | refine ok_in ?_ | refine ok_nin ?_ | refine ok_len ?_ | refine ok_id ?_ | refine ok_mod (by decide) ?_ | refine ok_div (by decide) ?_ | refine ok_mulr (by decide) ?_ | refine ok_mull (by decide) ?_ | refine ok_pow (by decide) ?_ | refine ok_dis (by simp) ?_ | refine ok_cut ?_ | refine ok_sort ?_ | refine ok_zip ?_ | refine ok_all ?_ | refine ok_any ?_ | refine ok_max2 ?_ | refine ok_min2 ?_ | refine ok_pair ?_ | refine ok_cnt ?_ | refine ok_isB ?_ | refine ok_notB ?_)) <;> try dsimp only)
    exact Int.mul_nonneg hf0 (by decide)
  have cutl : ∀ p : Int × Int, (ps.take s.toNat ++ [p] ++ ps.drop s.toNat).length = ps.length + 1 := fun p => by
    simp only [List.length_append, List.length_take, List.length_drop, List.length_singleton]; omega
  have memc : ∀ p : Int × Int, p ∈ ps.take s.toNat ++ [p] ++ ps.drop s.toNat := fun p => by simp
  have subc : ∀ p q : Int × Int, q ∈ ps.take s.toNat ++ [p] ++ ps.drop s.toNat → q ∈ ps ∨ q = p := fun p q h => by
    rcases List.mem_append.mp h with h | h
    · rcases List.mem_append.mp h with h | h
      · exact .inl (List.mem_of_mem_take h)
      · exact .inr (List.mem_singleton.mp h)
    · exact .inl (List.mem_of_mem_drop h)
  refine ok_bind ?_
  ((repeat (with_reducible first | refine ok_some ?_ | refine ok_bind ?_ | refine ok_op1 ?_ | refine ok_op2 ?_ | refine ok_op3 ?_ | refine ok_op4 ?_ | refine ok_op5 ?_ | refine ok_map ?_ | refine ok_not ?_ | refine ok_if ?_ | refine ok_nxt ?_ | refine ok_ret ?_ | refine ok_cons ?_ | refine ok_add ?_ | refine ok_sub ?_ | refine ok_neg ?_ | refine ok_lt ?_ | refine ok_le ?_ | refine ok_gt ?_ | refine ok_ge ?_ | refine ok_teq ?_ | refine ok_tne ?_ | refine ok_in ?_ | refine ok_nin ?_ | refine ok_len ?_ | refine ok_id ?_ | refine ok_mod (by decide) ?_ | refine ok_div (by decide) ?_ | refine ok_mulr (by decide) ?_ | refine ok_mull (by decide) ?_ | refine ok_pow (by decide) ?_ | refine ok_dis (by simp) ?_ | refine ok_cut ?_ | refine ok_sort ?_ | refine ok_zip ?_ | refine ok_all ?_ | refine ok_any ?_ | refine ok_max2 ?_ | refine ok_min2 ?_ | refine ok_pair ?_ | refine ok_cnt ?_ | refine ok_isB ?_ | refine ok_notB ?_)) <;> try dsimp only)
  refine ok_cat (by simp) ?_
  refine ok_bind ?_
  refine ok_bind ?_
  ((repeat (with_reducible first | refine ok_some ?_ | refine ok_bind ?_ | refine ok_op1 ?_ | refine ok_op2 ?_ | refine ok_op3 ?_ | refine ok_op4 ?_ | refine ok_op5 ?_ | refine ok_map ?_ | refine ok_not ?_ | refine ok_if ?_ | refine ok_nxt ?_ | refine ok_ret ?_ | refine ok_cons ?_ | refine ok_add ?_ | refine ok_sub ?_ | refine ok_neg ?_ | refine ok_lt ?_ | refine ok_le ?_ | refine ok_gt ?_ | refine ok_ge ?_ | refine ok_teq ?_ | refine ok_tne ?_ | refine ok_in ?_ | refine ok_nin ?_ | refine ok_len ?_ | refine ok_id ?_ | refine ok_mod (by decide) ?_ | refine ok_div (by decide) ?_ | refine ok_mulr (by decide) ?_ | refine ok_mull (by decide) ?_ | refine ok_pow (by decide) ?_ | refine ok_dis (by simp) ?_ | refine ok_cut ?_ | refine ok_sort ?_ | refine ok_zip ?_ | refine ok_all ?_ | refine ok_any ?_ | refine ok_max2 ?_ | refine ok_min2 ?_ | refine ok_pair ?_ | refine ok_cnt ?_ | refine ok_isB ?_ | refine ok_notB ?_)) <;> try dsimp only)
  refine ok_check (fun _ => false) false (fun p hp => ?_) ?_
  · have hb : Dt.okP w p.1 p.2 = false := by
      unfold Dt.okP
      rw [decide_eq_false_iff_not]
      simp only [List.cons_append, List.nil_append, List.mem_cons, List.not_mem_nil, or_false] at hp
      rcases hp with rfl | rfl | rfl | rfl | rfl | rfl | rfl | rfl | rfl | rfl <;> simp only [] <;> omega
    ((repeat (with_reducible first | refine ok_some ?_ | refine ok_bind ?_ | refine ok_op1 ?_ | refine ok_op2 ?_ | refine ok_op3 ?_ | refine ok_op4 ?_ | refine ok_op5 ?_ | refine ok_map ?_ | refine ok_not ?_ | refine ok_if ?_ | refine ok_nxt ?_ | refine ok_ret ?_ | refine ok_cons ?_ | refine ok_add ?_ | refine ok_sub ?_ | refine ok_neg ?_ | refine ok_lt ?_ | refine ok_le ?_ | refine ok_gt ?_ | refine ok_ge ?_ | refine ok_teq ?_ | refine ok_tne ?_ | refine ok_in ?_ | refine ok_nin ?_ | refine ok_len ?_ | refine ok_id ?_ | refine ok_mod (by decide) ?_ | refine ok_div (by decide) ?_ | refine ok_mulr (by decide) ?_ | refine ok_mull (by decide) ?_ | refine ok_pow (by decide) ?_ | refine ok_dis (by simp) ?_ | refine ok_cut ?_ | refine ok_sort ?_ | refine ok_zip ?_ | refine ok_all ?_ | refine ok_any ?_ | refine ok_max2 ?_ | refine ok_min2 ?_ | refine ok_pair ?_ | refine ok_cnt ?_ | refine ok_isB ?_ | refine ok_notB ?_)) <;> try dsimp only)
    rw [cut_ns hs.1]
    refine ok_cat (by rw [List.length_take]; simp; omega) ?_
    ((repeat (with_reducible first | refine ok_some ?_ | refine ok_bind ?_ | refine ok_op1 ?_ | refine ok_op2 ?_ | refine ok_op3 ?_ | refine ok_op4 ?_ | refine ok_op5 ?_ | refine ok_map ?_ | refine ok_not ?_ | refine ok_if ?_ | refine ok_nxt ?_ | refine ok_ret ?_ | refine ok_cons ?_ | refine ok_add ?_ | refine ok_sub ?_ | refine ok_neg ?_ | refine ok_lt ?_ | refine ok_le ?_ | refine ok_gt ?_ | refine ok_ge ?_ | refine ok_teq ?_ | refine ok_tne ?_ | refine ok_in ?_ | refine ok_nin ?_ | refine ok_len ?_ | refine ok_id ?_ | refine ok_mod (by decide) ?_ | refine ok_div (by decide) ?_ | refine ok_mulr (by decide) ?_ | refine ok_mull (by decide) ?_ | refine ok_pow (by decide) ?_ | refine ok_dis (by simp) ?_ | refine ok_cut ?_ | refine ok_sort ?_ | refine ok_zip ?_ | refine ok_all ?_ | refine ok_any ?_ | refine ok_max2 ?_ | refine ok_min2 ?_ | refine ok_pair ?_ | refine ok_cnt ?_ | refine ok_isB ?_ | refine ok_notB ?_)) <;> try dsimp only)
    rw [cut_sn hs.1]
    refine ok_cat (by rw [List.length_append, List.length_take, List.length_drop]; simp; omega) ?_
    refine ok_if ?_
    refine ok_or2 ?_
    ((repeat (with_reducible first | refine ok_some ?_ | refine ok_bind ?_ | refine ok_op1 ?_ | refine ok_op2 ?_ | refine ok_op3 ?_ | refine ok_op4 ?_ | refine ok_op5 ?_ | refine ok_map ?_ | refine ok_not ?_ | refine ok_if ?_ | refine ok_nxt ?_ | refine ok_ret ?_ | refine ok_cons ?_ | refine ok_add ?_ | refine ok_sub ?_ | refine ok_neg ?_ | refine ok_lt ?_ | refine ok_le ?_ | refine ok_gt ?_ | refine ok_ge ?_ | refine ok_teq ?_ | refine ok_tne ?_ | refine ok_in ?_ | refine ok_nin ?_ | refine ok_len ?_ | refine ok_id ?_ | refine ok_mod (by decide) ?_ | refine ok_div (by decide) ?_ | refine ok_mulr (by decide) ?_ | refine ok_mull (by decide) ?_ | refine ok_pow (by decide) ?_ | refine ok_dis (by simp) ?_ | refine ok_cut ?_ | refine ok_sort ?_ | refine ok_zip ?_ | refine ok_all ?_ | refine ok_any ?_ | refine ok_max2 ?_ | refine ok_min2 ?_ | refine ok_pair ?_ | refine ok_cnt ?_ | refine ok_isB ?_ | refine ok_notB ?_)) <;> try dsimp only)
    refine ref_bad (by rw [cutl]; omega) (memc p) hb ?_
    ((repeat (with_reducible first | refine ok_some ?_ | refine ok_bind ?_ | refine ok_op1 ?_ | refine ok_op2 ?_ | refine ok_op3 ?_ | refine ok_op4 ?_ | refine ok_op5 ?_ | refine ok_map ?_ | refine ok_not ?_ | refine ok_if ?_ | refine ok_nxt ?_ | refine ok_ret ?_ | refine ok_cons ?_ | refine ok_add ?_ | refine ok_sub ?_ | refine ok_neg ?_ | refine ok_lt ?_ | refine ok_le ?_ | refine ok_gt ?_ | refine ok_ge ?_ | refine ok_teq ?_ | refine ok_tne ?_ | refine ok_in ?_ | refine ok_nin ?_ | refine ok_len ?_ | refine ok_id ?_ | refine ok_mod (by decide) ?_ | refine ok_div (by decide) ?_ | refine ok_mulr (by decide) ?_ | refine ok_mull (by decide) ?_ | refine ok_pow (by decide) ?_ | refine ok_dis (by simp) ?_ | refine ok_cut ?_ | refine ok_sort ?_ | refine ok_zip ?_ | refine ok_all ?_ | refine ok_any ?_ | refine ok_max2 ?_ | refine ok_min2 ?_ | refine ok_pair ?_ | refine ok_cnt ?_ | refine ok_isB ?_ | refine ok_notB ?_)) <;> try dsimp only)
    refine ref_bad (by rw [cutl]; omega) (memc p) hb ?_
    refine ⟨fun h => by simp at h, fun _ => ?_⟩
    ((repeat (with_reducible first | refine ok_some ?_ | refine ok_bind ?_ | refine ok_op1 ?_ | refine ok_op2 ?_ | refine ok_op3 ?_ | refine ok_op4 ?_ | refine ok_op5 ?_ | refine ok_map ?_ | refine ok_not ?_ | refine ok_if ?_ | refine ok_nxt ?_ | refine ok_ret ?_ | refine ok_cons ?_ | refine ok_add ?_ | refine ok_sub ?_ | refine ok_neg ?_ | refine ok_lt ?_ | refine ok_le ?_ | refine ok_gt ?_ | refine ok_ge ?_ | refine ok_teq ?_ | refine ok_tne ?_ | refine ok_in ?_ | refine ok_nin ?_ | refine ok_len ?_ | refine ok_id ?_ | refine ok_mod (by decide) ?_ | refine ok_div (by decide) ?_ | refine ok_mulr (by decide) ?_ | refine ok_mull (by decide) ?_ | refine ok_pow (by decide) ?_ | refine ok_dis (by simp) ?_ | refine ok_cut ?_ | refine ok_sort ?_ | refine ok_zip ?_ | refine ok_all ?_ | refine ok_any ?_ | refine ok_max2 ?_ | refine ok_min2 ?_ | refine ok_pair ?_ | refine ok_cnt ?_ | refine ok_isB ?_ | refine ok_notB ?_)) <;> try dsimp only)
    rfl
  rw [any_no01 (fun _ => rfl), if_neg (by decide)]
  refine ok_nxt ?_
  refine ok_bind ?_
  refine ok_bind ?_
  ((repeat (with_reducible first | refine ok_some ?_ | refine ok_bind ?_ | refine ok_op1 ?_ | refine ok_op2 ?_ | refine ok_op3 ?_ | refine ok_op4 ?_ | refine ok_op5 ?_ | refine ok_map ?_ | refine ok_not ?_ | refine ok_if ?_ | refine ok_nxt ?_ | refine ok_ret ?_ | refine ok_cons ?_ | refine ok_add ?_ | refine ok_sub ?_ | refine ok_neg ?_ | refine ok_lt ?_ | refine ok_le ?_ | refine ok_gt ?_ | refine ok_ge ?_ | refine ok_teq ?_ | refine ok_tne ?_ | refine ok_in ?_ | refine ok_nin ?_ | refine ok_len ?_ | refine ok_id ?_ | refine ok_mod (by decide) ?_ | refine ok_div (by decide) ?_ | refine ok_mulr (by decide) ?_ | refine ok_mull (by decide) ?_ | refine ok_pow (by decide) ?_ | refine ok_dis (by simp) ?_ | refine ok_cut ?_ | refine ok_sort ?_ | refine ok_zip ?_ | refine ok_all ?_ | refine ok_any ?_ | refine ok_max2 ?_ | refine ok_min2 ?_ | refine ok_pair ?_ | refine ok_cnt ?_ | refine ok_isB ?_ | refine ok_notB ?_)) <;> try dsimp only)
  refine ok_check (fun _ => false) false (fun l hl => ?_) ?_
  · have hl1 : l < 1 := by
      simp only [List.mem_cons, List.not_mem_nil, or_false] at hl
      rcases hl with rfl | rfl | rfl <;> omega
    refine ok_if ?_
    refine ok_or2 ?_
    ((repeat (with_reducible first | refine ok_some ?_ | refine ok_bind ?_ | refine ok_op1 ?_ | refine ok_op2 ?_ | refine ok_op3 ?_ | refine ok_op4 ?_ | refine ok_op5 ?_ | refine ok_map ?_ | refine ok_not ?_ | refine ok_if ?_ | refine ok_nxt ?_ | refine ok_ret ?_ | refine ok_cons ?_ | refine ok_add ?_ | refine ok_sub ?_ | refine ok_neg ?_ | refine ok_lt ?_ | refine ok_le ?_ | refine ok_gt ?_ | refine ok_ge ?_ | refine ok_teq ?_ | refine ok_tne ?_ | refine ok_in ?_ | refine ok_nin ?_ | refine ok_len ?_ | refine ok_id ?_ | refine ok_mod (by decide) ?_ | refine ok_div (by decide) ?_ | refine ok_mulr (by decide) ?_ | refine ok_mull (by decide) ?_ | refine ok_pow (by decide) ?_ | refine ok_dis (by simp) ?_ | refine ok_cut ?_ | refine ok_sort ?_ | refine ok_zip ?_ | refine ok_all ?_ | refine ok_any ?_ | refine ok_max2 ?_ | refine ok_min2 ?_ | refine ok_pair ?_ | refine ok_cnt ?_ | refine ok_isB ?_ | refine ok_notB ?_)) <;> try dsimp only)
    refine ref_low (by simp) hl1 ?_
    refine ok_or2 ?_
    ((repeat (with_reducible first | refine ok_some ?_ | refine ok_bind ?_ | refine ok_op1 ?_ | refine ok_op2 ?_ | refine ok_op3 ?_ | refine ok_op4 ?_ | refine ok_op5 ?_ | refine ok_map ?_ | refine ok_not ?_ | refine ok_if ?_ | refine ok_nxt ?_ | refine ok_ret ?_ | refine ok_cons ?_ | refine ok_add ?_ | refine ok_sub ?_ | refine ok_neg ?_ | refine ok_lt ?_ | refine ok_le ?_ | refine ok_gt ?_ | refine ok_ge ?_ | refine ok_teq ?_ | refine ok_tne ?_ | refine ok_in ?_ | refine ok_nin ?_ | refine ok_len ?_ | refine ok_id ?_ | refine ok_mod (by decide) ?_ | refine ok_div (by decide) ?_ | refine ok_mulr (by decide) ?_ | refine ok_mull (by decide) ?_ | refine ok_pow (by decide) ?_ | refine ok_dis (by simp) ?_ | refine ok_cut ?_ | refine ok_sort ?_ | refine ok_zip ?_ | refine ok_all ?_ | refine ok_any ?_ | refine ok_max2 ?_ | refine ok_min2 ?_ | refine ok_pair ?_ | refine ok_cnt ?_ | refine ok_isB ?_ | refine ok_notB ?_)) <;> try dsimp only)
    refine ref_low (by omega) hl1 ?_
    ((repeat (with_reducible first | refine ok_some ?_ | refine ok_bind ?_ | refine ok_op1 ?_ | refine ok_op2 ?_ | refine ok_op3 ?_ | refine ok_op4 ?_ | refine ok_op5 ?_ | refine ok_map ?_ | refine ok_not ?_ | refine ok_if ?_ | refine ok_nxt ?_ | refine ok_ret ?_ | refine ok_cons ?_ | refine ok_add ?_ | refine ok_sub ?_ | refine ok_neg ?_ | refine ok_lt ?_ | refine ok_le ?_ | refine ok_gt ?_ | refine ok_ge ?_ | refine ok_teq ?_ | refine ok_tne ?_ | refine ok_in ?_ | refine ok_nin ?_ | refine ok_len ?_ | refine ok_id ?_ | refine ok_mod (by decide) ?_ | refine ok_div (by decide) ?_ | refine ok_mulr (by decide) ?_ | refine ok_mull (by decide) ?_ | refine ok_pow (by decide) ?_ | refine ok_dis (by simp) ?_ | refine ok_cut ?_ | refine ok_sort ?_ | refine ok_zip ?_ | refine ok_all ?_ | refine ok_any ?_ | refine ok_max2 ?_ | refine ok_min2 ?_ | refine ok_pair ?_ | refine ok_cnt ?_ | refine ok_isB ?_ | refine ok_notB ?_)) <;> try dsimp only)
    refine ref_low (by simp) hl1 ?_
    refine ⟨fun h => by simp at h, fun _ => ?_⟩
    ((repeat (with_reducible first | refine ok_some ?_ | refine ok_bind ?_ | refine ok_op1 ?_ | refine ok_op2 ?_ | refine ok_op3 ?_ | refine ok_op4 ?_ | refine ok_op5 ?_ | refine ok_map ?_ | refine ok_not ?_ | refine ok_if ?_ | refine ok_nxt ?_ | refine ok_ret ?_ | refine ok_cons ?_ | refine ok_add ?_ | refine ok_sub ?_ | refine ok_neg ?_ | refine ok_lt ?_ | refine ok_le ?_ | refine ok_gt ?_ | refine ok_ge ?_ | refine ok_teq ?_ | refine ok_tne ?_ | refine ok_in ?_ | refine ok_nin ?_ | refine ok_len ?_ | refine ok_id ?_ | refine ok_mod (by decide) ?_ | refine ok_div (by decide) ?_ | refine ok_mulr (by decide) ?_ | refine ok_mull (by decide) ?_ | refine ok_pow (by decide) ?_ | refine ok_dis (by simp) ?_ | refine ok_cut ?_ | refine ok_sort ?_ | refine ok_zip ?_ | refine ok_all ?_ | refine ok_any ?_ | refine ok_max2 ?_ | refine ok_min2 ?_ | refine ok_pair ?_ | refine ok_cnt ?_ | refine ok_isB ?_ | refine ok_notB ?_)) <;> try dsimp only)
    rfl
  rw [any_no01 (fun _ => rfl), if_neg (by decide)]
  refine ok_nxt ?_
  refine ok_if ?_
  have netok : ∀ qs : List (Int × Int), (∀ q ∈ qs, 0 ≤ q.1 ∧ q.1 < w ∧ 0 ≤ q.2 ∧ q.2 < w ∧ q.1 ≠ q.2) → qs.length ≤ 100 → tNet w qs = some ⟨w, qs⟩ := fun qs h1 h2 => if_pos ⟨by omega, okPr_all.mpr h1, by omega⟩
  ((repeat (with_reducible first | refine ok_some ?_ | refine ok_bind ?_ | refine ok_op1 ?_ | refine ok_op2 ?_ | refine ok_op3 ?_ | refine ok_op4 ?_ | refine ok_op5 ?_ | refine ok_map ?_ | refine ok_not ?_ | refine ok_if ?_ | refine ok_nxt ?_ | refine ok_ret ?_ | refine ok_cons ?_ | refine ok_add ?_ | refine ok_sub ?_ | refine ok_neg ?_ | refine ok_lt ?_ | refine ok_le ?_ | refine ok_gt ?_ | refine ok_ge ?_ | refine ok_teq ?_ | refine ok_tne ?_ | refine ok_in ?_ | refine ok_nin ?_ | refine ok_len ?_ | refine ok_id ?_ | refine ok_mod (by decide) ?_ | refine ok_div (by decide) ?_ | refine ok_mulr (by decide) ?_ | refine ok_mull (by decide) ?_ | refine ok_pow (by decide) ?_ | refine ok_dis (by simp) ?_ | refine ok_cut ?_ | refine ok_sort ?_ | refine ok_zip ?_ | refine ok_all ?_ | refine ok_any ?_ | refine ok_max2 ?_ | refine ok_min2 ?_ | refine ok_pair ?_ | refine ok_cnt ?_ | refine ok_isB ?_ | refine ok_notB ?_)) <;> try dsimp only)
  refine ok_eq (netok ps hq (by omega)) ?_
  ((repeat (with_reducible first | refine ok_some ?_ | refine ok_bind ?_ | refine ok_op1 ?_ | refine ok_op2 ?_ | refine ok_op3 ?_ | refine ok_op4 ?_ | refine ok_op5 ?_ | refine ok_map ?_ | refine ok_not ?_ | refine ok_if ?_ | refine ok_nxt ?_ | refine ok_ret ?_ | refine ok_cons ?_ | refine ok_add ?_ | refine ok_sub ?_ | refine ok_neg ?_ | refine ok_lt ?_ | refine ok_le ?_ | refine ok_gt ?_ | refine ok_ge ?_ | refine ok_teq ?_ | refine ok_tne ?_ | refine ok_in ?_ | refine ok_nin ?_ | refine ok_len ?_ | refine ok_id ?_ | refine ok_mod (by decide) ?_ | refine ok_div (by decide) ?_ | refine ok_mulr (by decide) ?_ | refine ok_mull (by decide) ?_ | refine ok_pow (by decide) ?_ | refine ok_dis (by simp) ?_ | refine ok_cut ?_ | refine ok_sort ?_ | refine ok_zip ?_ | refine ok_all ?_ | refine ok_any ?_ | refine ok_max2 ?_ | refine ok_min2 ?_ | refine ok_pair ?_ | refine ok_cnt ?_ | refine ok_isB ?_ | refine ok_notB ?_)) <;> try dsimp only)
  refine ok_eq (made_ok (n := ⟨w, ps⟩) rfl rfl (by omega)) ?_
  refine ⟨fun h => by simp at h, fun _ => ?_⟩
  refine ok_if ?_
  ((repeat (with_reducible first | refine ok_some ?_ | refine ok_bind ?_ | refine ok_op1 ?_ | refine ok_op2 ?_ | refine ok_op3 ?_ | refine ok_op4 ?_ | refine ok_op5 ?_ | refine ok_map ?_ | refine ok_not ?_ | refine ok_if ?_ | refine ok_nxt ?_ | refine ok_ret ?_ | refine ok_cons ?_ | refine ok_add ?_ | refine ok_sub ?_ | refine ok_neg ?_ | refine ok_lt ?_ | refine ok_le ?_ | refine ok_gt ?_ | refine ok_ge ?_ | refine ok_teq ?_ | refine ok_tne ?_ | refine ok_in ?_ | refine ok_nin ?_ | refine ok_len ?_ | refine ok_id ?_ | refine ok_mod (by decide) ?_ | refine ok_div (by decide) ?_ | refine ok_mulr (by decide) ?_ | refine ok_mull (by decide) ?_ | refine ok_pow (by decide) ?_ | refine ok_dis (by simp) ?_ | refine ok_cut ?_ | refine ok_sort ?_ | refine ok_zip ?_ | refine ok_all ?_ | refine ok_any ?_ | refine ok_max2 ?_ | refine ok_min2 ?_ | refine ok_pair ?_ | refine ok_cnt ?_ | refine ok_isB ?_ | refine ok_notB ?_)) <;> try dsimp only)
  refine ⟨fun _ => ok_some rfl, fun hw1 => ?_⟩
  rw [decide_eq_false_iff_not] at hw1
  refine ok_bind ?_
  refine ok_bind ?_
  ((repeat (with_reducible first | refine ok_some ?_ | refine ok_bind ?_ | refine ok_op1 ?_ | refine ok_op2 ?_ | refine ok_op3 ?_ | refine ok_op4 ?_ | refine ok_op5 ?_ | refine ok_map ?_ | refine ok_not ?_ | refine ok_if ?_ | refine ok_nxt ?_ | refine ok_ret ?_ | refine ok_cons ?_ | refine ok_add ?_ | refine ok_sub ?_ | refine ok_neg ?_ | refine ok_lt ?_ | refine ok_le ?_ | refine ok_gt ?_ | refine ok_ge ?_ | refine ok_teq ?_ | refine ok_tne ?_ | refine ok_in ?_ | refine ok_nin ?_ | refine ok_len ?_ | refine ok_id ?_ | refine ok_mod (by decide) ?_ | refine ok_div (by decide) ?_ | refine ok_mulr (by decide) ?_ | refine ok_mull (by decide) ?_ | refine ok_pow (by decide) ?_ | refine ok_dis (by simp) ?_ | refine ok_cut ?_ | refine ok_sort ?_ | refine ok_zip ?_ | refine ok_all ?_ | refine ok_any ?_ | refine ok_max2 ?_ | refine ok_min2 ?_ | refine ok_pair ?_ | refine ok_cnt ?_ | refine ok_isB ?_ | refine ok_notB ?_)) <;> try dsimp only)
  refine ok_check (fun _ => false) false (fun p hp => ?_) ?_
  · have hb : 0 ≤ p.1 ∧ p.1 < w ∧ 0 ≤ p.2 ∧ p.2 < w ∧ p.1 ≠ p.2 := by
      simp only [List.mem_cons, List.not_mem_nil, or_false] at hp
      rcases hp with rfl | rfl <;> simp only [] <;> omega
    have hall : ∀ q ∈ ps.take s.toNat ++ [p] ++ ps.drop s.toNat, 0 ≤ q.1 ∧ q.1 < w ∧ 0 ≤ q.2 ∧ q.2 < w ∧ q.1 ≠ q.2 := fun q h => by
      rcases subc p q h with h | rfl
      · exact hq q h
      · exact hb
    ((repeat (with_reducible first | refine ok_some ?_ | refine ok_bind ?_ | refine ok_op1 ?_ | refine ok_op2 ?_ | refine ok_op3 ?_ | refine ok_op4 ?_ | refine ok_op5 ?_ | refine ok_map ?_ | refine ok_not ?_ | refine ok_if ?_ | refine ok_nxt ?_ | refine ok_ret ?_ | refine ok_cons ?_ | refine ok_add ?_ | refine ok_sub ?_ | refine ok_neg ?_ | refine ok_lt ?_ | refine ok_le ?_ | refine ok_gt ?_ | refine ok_ge ?_ | refine ok_teq ?_ | refine ok_tne ?_ | refine ok_in ?_ | refine ok_nin ?_ | refine ok_len ?_ | refine ok_id ?_ | refine ok_mod (by decide) ?_ | refine ok_div (by decide) ?_ | refine ok_mulr (by decide) ?_ | refine ok_mull (by decide) ?_ | refine ok_pow (by decide) ?_ | refine ok_dis (by simp) ?_ | refine ok_cut ?_ | refine ok_sort ?_ | refine ok_zip ?_ | refine ok_all ?_ | refine ok_any ?_ | refine ok_max2 ?_ | refine ok_min2 ?_ | refine ok_pair ?_ | refine ok_cnt ?_ | refine ok_isB ?_ | refine ok_notB ?_)) <;> try dsimp only)
    rw [cut_ns hs.1]
    refine ok_cat (by rw [List.length_take]; simp; omega) ?_
    ((repeat (with_reducible first | refine ok_some ?_ | refine ok_bind ?_ | refine ok_op1 ?_ | refine ok_op2 ?_ | refine ok_op3 ?_ | refine ok_op4 ?_ | refine ok_op5 ?_ | refine ok_map ?_ | refine ok_not ?_ | refine ok_if ?_ | refine ok_nxt ?_ | refine ok_ret ?_ | refine ok_cons ?_ | refine ok_add ?_ | refine ok_sub ?_ | refine ok_neg ?_ | refine ok_lt ?_ | refine ok_le ?_ | refine ok_gt ?_ | refine ok_ge ?_ | refine ok_teq ?_ | refine ok_tne ?_ | refine ok_in ?_ | refine ok_nin ?_ | refine ok_len ?_ | refine ok_id ?_ | refine ok_mod (by decide) ?_ | refine ok_div (by decide) ?_ | refine ok_mulr (by decide) ?_ | refine ok_mull (by decide) ?_ | refine ok_pow (by decide) ?_ | refine ok_dis (by simp) ?_ | refine ok_cut ?_ | refine ok_sort ?_ | refine ok_zip ?_ | refine ok_all ?_ | refine ok_any ?_ | refine ok_max2 ?_ | refine ok_min2 ?_ | refine ok_pair ?_ | refine ok_cnt ?_ | refine ok_isB ?_ | refine ok_notB ?_)) <;> try dsimp only)
    rw [cut_sn hs.1]
    refine ok_cat (by rw [List.length_append, List.length_take, List.length_drop]; simp; omega) ?_
    refine ok_if ?_
    ((repeat (with_reducible first | refine ok_some ?_ | refine ok_bind ?_ | refine ok_op1 ?_ | refine ok_op2 ?_ | refine ok_op3 ?_ | refine ok_op4 ?_ | refine ok_op5 ?_ | refine ok_map ?_ | refine ok_not ?_ | refine ok_if ?_ | refine ok_nxt ?_ | refine ok_ret ?_ | refine ok_cons ?_ | refine ok_add ?_ | refine ok_sub ?_ | refine ok_neg ?_ | refine ok_lt ?_ | refine ok_le ?_ | refine ok_gt ?_ | refine ok_ge ?_ | refine ok_teq ?_ | refine ok_tne ?_ | refine ok_in ?_ | refine ok_nin ?_ | refine ok_len ?_ | refine ok_id ?_ | refine ok_mod (by decide) ?_ | refine ok_div (by decide) ?_ | refine ok_mulr (by decide) ?_ | refine ok_mull (by decide) ?_ | refine ok_pow (by decide) ?_ | refine ok_dis (by simp) ?_ | refine ok_cut ?_ | refine ok_sort ?_ | refine ok_zip ?_ | refine ok_all ?_ | refine ok_any ?_ | refine ok_max2 ?_ | refine ok_min2 ?_ | refine ok_pair ?_ | refine ok_cnt ?_ | refine ok_isB ?_ | refine ok_notB ?_)) <;> try dsimp only)
    refine ok_eq (netok _ hall (by rw [cutl]; omega)) ?_
    ((repeat (with_reducible first | refine ok_some ?_ | refine ok_bind ?_ | refine ok_op1 ?_ | refine ok_op2 ?_ | refine ok_op3 ?_ | refine ok_op4 ?_ | refine ok_op5 ?_ | refine ok_map ?_ | refine ok_not ?_ | refine ok_if ?_ | refine ok_nxt ?_ | refine ok_ret ?_ | refine ok_cons ?_ | refine ok_add ?_ | refine ok_sub ?_ | refine ok_neg ?_ | refine ok_lt ?_ | refine ok_le ?_ | refine ok_gt ?_ | refine ok_ge ?_ | refine ok_teq ?_ | refine ok_tne ?_ | refine ok_in ?_ | refine ok_nin ?_ | refine ok_len ?_ | refine ok_id ?_ | refine ok_mod (by decide) ?_ | refine ok_div (by decide) ?_ | refine ok_mulr (by decide) ?_ | refine ok_mull (by decide) ?_ | refine ok_pow (by decide) ?_ | refine ok_dis (by simp) ?_ | refine ok_cut ?_ | refine ok_sort ?_ | refine ok_zip ?_ | refine ok_all ?_ | refine ok_any ?_ | refine ok_max2 ?_ | refine ok_min2 ?_ | refine ok_pair ?_ | refine ok_cnt ?_ | refine ok_isB ?_ | refine ok_notB ?_)) <;> try dsimp only)
    refine ok_eq (made_ok (n := ⟨w, ps.take s.toNat ++ [p] ++ ps.drop s.toNat⟩) rfl rfl (by rw [cutl]; omega)) ?_
    refine ⟨fun h => by simp at h, fun _ => ?_⟩
    ((repeat (with_reducible first | refine ok_some ?_ | refine ok_bind ?_ | refine ok_op1 ?_ | refine ok_op2 ?_ | refine ok_op3 ?_ | refine ok_op4 ?_ | refine ok_op5 ?_ | refine ok_map ?_ | refine ok_not ?_ | refine ok_if ?_ | refine ok_nxt ?_ | refine ok_ret ?_ | refine ok_cons ?_ | refine ok_add ?_ | refine ok_sub ?_ | refine ok_neg ?_ | refine ok_lt ?_ | refine ok_le ?_ | refine ok_gt ?_ | refine ok_ge ?_ | refine ok_teq ?_ | refine ok_tne ?_ | refine ok_in ?_ | refine ok_nin ?_ | refine ok_len ?_ | refine ok_id ?_ | refine ok_mod (by decide) ?_ | refine ok_div (by decide) ?_ | refine ok_mulr (by decide) ?_ | refine ok_mull (by decide) ?_ | refine ok_pow (by decide) ?_ | refine ok_dis (by simp) ?_ | refine ok_cut ?_ | refine ok_sort ?_ | refine ok_zip ?_ | refine ok_all ?_ | refine ok_any ?_ | refine ok_max2 ?_ | refine ok_min2 ?_ | refine ok_pair ?_ | refine ok_cnt ?_ | refine ok_isB ?_ | refine ok_notB ?_)) <;> try dsimp only)
    rfl
  rw [any_no01 (fun _ => rfl), if_neg (by decide)]
  refine ok_nxt ?_
  ((repeat (with_reducible first | refine ok_some ?_ | refine ok_bind ?_ | refine ok_op1 ?_ | refine ok_op2 ?_ | refine ok_op3 ?_ | refine ok_op4 ?_ | refine ok_op5 ?_ | refine ok_map ?_ | refine ok_not ?_ | refine ok_if ?_ | refine ok_nxt ?_ | refine ok_ret ?_ | refine ok_cons ?_ | refine ok_add ?_ | refine ok_sub ?_ | refine ok_neg ?_ | refine ok_lt ?_ | refine ok_le ?_ | refine ok_gt ?_ | refine ok_ge ?_ | refine ok_teq ?_ | refine ok_tne ?_ | refine ok_in ?_ | refine ok_nin ?_ | refine ok_len ?_ | refine ok_id ?_ | refine ok_mod (by decide) ?_ | refine ok_div (by decide) ?_ | refine ok_mulr (by decide) ?_ | refine ok_mull (by decide) ?_ | refine ok_pow (by decide) ?_ | refine ok_dis (by simp) ?_ | refine ok_cut ?_ | refine ok_sort ?_ | refine ok_zip ?_ | refine ok_all ?_ | refine ok_any ?_ | refine ok_max2 ?_ | refine ok_min2 ?_ | refine ok_pair ?_ | refine ok_cnt ?_ | refine ok_isB ?_ | refine ok_notB ?_)) <;> try dsimp only)
theorem law_true : ∀ ns : List Int, ns.length ≤ 63 → f_law [.frz ns] = some (.bl true, false) := fun ns _ => r_law_F ns true (law_typed ns)


end Lw
namespace Lw
open PySem PySem.Spec PyProof.Rows L2 Dt
open LwI (init_math)
def topS (i : Nat) : Stmt := PySem.Challenge.pw_neededrows_k01_network_refused.main.body.getD i (.Pass ⟨0, 0, 0, 0⟩)
abbrev s__law_numbers : Stmt := topS 9
def n__law_numbers : List Str := ["script", "count", "rest", "by_digits", "numbers", "k", "cell"]
theorem sc__law_numbers : FnScope n__law_numbers ["script", "count"] (defScope s__law_numbers) := ⟨rfl, rfl, rfl, by decide +kernel, rfl, by decide +kernel, by decide +kernel⟩
abbrev s__law_wires : Stmt := topS 13
def n__law_wires : List Str := ["number", "most"]
theorem sc__law_wires : FnScope n__law_wires ["number", "most"] (defScope s__law_wires) := ⟨rfl, rfl, rfl, by decide +kernel, rfl, by decide +kernel, by decide +kernel⟩
abbrev s__law_pairs : Stmt := topS 14
def n__law_pairs : List Str := ["numbers", "place", "wires", "standard", "pairs", "k", "number", "one", "two"]
theorem sc__law_pairs : FnScope n__law_pairs ["numbers", "place", "wires", "standard"] (defScope s__law_pairs) := ⟨rfl, rfl, rfl, by decide +kernel, rfl, by decide +kernel, by decide +kernel⟩
abbrev s__law_is_number : Stmt := topS 10
def n__law_is_number : List Str := ["x"]
theorem sc__law_is_number : FnScope n__law_is_number ["x"] (defScope s__law_is_number) := ⟨rfl, rfl, rfl, by decide +kernel, rfl, by decide +kernel, by decide +kernel⟩
abbrev s__law_is_row : Stmt := topS 11
def n__law_is_row : List Str := ["actual", "due", "k"]
theorem sc__law_is_row : FnScope n__law_is_row ["actual", "due"] (defScope s__law_is_row) := ⟨rfl, rfl, rfl, by decide +kernel, rfl, by decide +kernel, by decide +kernel⟩
abbrev s__law_is_made : Stmt := topS 12
def n__law_is_made : List Str := ["actual", "wires", "pairs", "k"]
theorem sc__law_is_made : FnScope n__law_is_made ["actual", "wires", "pairs"] (defScope s__law_is_made) := ⟨rfl, rfl, rfl, by decide +kernel, rfl, by decide +kernel, by decide +kernel⟩
abbrev s__check_comparer : Stmt := topS 6
def n__check_comparer : List Str := ["wires", "i", "j"]
theorem sc__check_comparer : FnScope n__check_comparer ["wires", "i", "j"] (defScope s__check_comparer) := ⟨rfl, rfl, rfl, by decide +kernel, rfl, by decide +kernel, by decide +kernel⟩
abbrev s_Network___init__ : Stmt := inClass (topS 7) 0
def n_Network___init__ : List Str := ["self", "wires", "comparers", "pairs", "i", "j"]
theorem sc_Network___init__ : FnScope n_Network___init__ ["self", "wires", "comparers"] (defScope s_Network___init__) := ⟨rfl, rfl, rfl, by decide +kernel, rfl, by decide +kernel, by decide +kernel⟩
abbrev s__law_refused : Stmt := topS 15
def n__law_refused : List Str := ["wires", "pairs", "e"]
theorem sc__law_refused : FnScope n__law_refused ["wires", "pairs"] (defScope s__law_refused) := ⟨rfl, rfl, rfl, by decide +kernel, rfl, by decide +kernel, by decide +kernel⟩
abbrev s__law_refused_by_base : Stmt := topS 16
def n__law_refused_by_base : List Str := ["wires", "pairs", "e"]
theorem sc__law_refused_by_base : FnScope n__law_refused_by_base ["wires", "pairs"] (defScope s__law_refused_by_base) := ⟨rfl, rfl, rfl, by decide +kernel, rfl, by decide +kernel, by decide +kernel⟩
abbrev s_law : Stmt := topS 17
def n_law : List Str := ["script", "numbers", "wires", "pairs", "spot", "wire", "far", "bad", "pair", "less", "more"]
theorem sc_law : FnScope n_law ["script"] (defScope s_law) := ⟨rfl, rfl, rfl, by decide +kernel, rfl, by decide +kernel, by decide +kernel⟩
structure Tx (K : PySem.W.Frag) (mg : Str → Option Value) where
  C : Addr
  z_ValueError : mg "ValueError" = none
  z_bool : mg "bool" = none
  z_int : mg "int" = none
  z_isinstance : mg "isinstance" = none
  z_len : mg "len" = none
  z_range : mg "range" = none
  z_tuple : mg "tuple" = none
  N : NetC K C
  mgN : mg "Network" = some (.ref C)
  A__law_numbers : DefAt K mg "_law_numbers" s__law_numbers ["script", "count"]
  A__law_wires : DefAt K mg "_law_wires" s__law_wires ["number", "most"]
  A__law_pairs : DefAt K mg "_law_pairs" s__law_pairs ["numbers", "place", "wires", "standard"]
  A__law_is_number : DefAt K mg "_law_is_number" s__law_is_number ["x"]
  A__law_is_row : DefAt K mg "_law_is_row" s__law_is_row ["actual", "due"]
  A__law_is_made : DefAt K mg "_law_is_made" s__law_is_made ["actual", "wires", "pairs"]
  A__check_comparer : DefAt K mg "_check_comparer" s__check_comparer ["wires", "i", "j"]
  A_Network___init__ : MethAt K C "__init__" "Network.__init__" s_Network___init__ ["self", "wires", "comparers"]
  A__law_refused : DefAt K mg "_law_refused" s__law_refused ["wires", "pairs"]
  A__law_refused_by_base : DefAt K mg "_law_refused_by_base" s__law_refused_by_base ["wires", "pairs"]
  A_law : DefAt K mg "law" s_law ["script"]
  M : Mk K C A_Network___init__.f
  IN : Addr
  NE : Addr
  IT : Addr
  EI : ErrC K mg "InvalidNetwork" IN
  gNE : mg "NetworkError" = some (.ref NE)
  gIT : mg "InvalidText" = some (.ref IT)
  XC : ExcC K IN
  x_IN : PySem.W.exmOne K (.ref IN) (.ref IN) = some true
  x_NE : PySem.W.exmOne K (.ref IN) (.ref NE) = some true
  k_IN : PySem.W.kitOne K (.ref IN) (.ref IN) = some true
  k_NE : PySem.W.kitOne K (.ref IN) (.ref NE) = some true
  k_IT : PySem.W.kitOne K (.ref IN) (.ref IT) = some false
  k_VE : PySem.W.kitOne K (.ref IN) (.type "ValueError") = some true
section
variable {P : Program} {w : World} {K : PySem.W.Frag} {mg : Str → Option Value} {base : Heap} {cs : List Addr} {dn : DicF}
theorem ok__law_numbers (T : Tx K mg) : FnOk P w K mg base CX0 1 T.A__law_numbers.f T.A__law_numbers.fd ["script", "count"] (spD ⟨T.C, K, cs, dn⟩ 2 f__law_numbers) := by
  have ND : n__law_numbers.Nodup := sc__law_numbers.nd
  exact fn_ok (k := 0) T.A__law_numbers.F sc__law_numbers fun cdv A outer s H E hr => ⟨_, (dss_cons (ds_set 2 ND de_int) (dss_cons (ds_if (dt_gt (de_len (K := K) rfl rfl (by rfl) T.z_len (da_cons (de_var 0) da_nil)) de_int) (dss_one (ds_set 2 ND (de_ix (K := K) rfl rfl (de_var 0) de_int))) dss_nil) (dss_cons (ds_set 3 ND (de_ge (de_var 2) (de_pow de_int de_int))) (dss_cons (ds_set 4 ND (de_lst da_nil)) (dss_cons (ds_for PassesOwn.never rfl (di_r1 (w := false) (by rfl) T.z_range (da_cons (de_var 1) da_nil)) (dgs_n 5 ND) (dss_one (ds_if (dw_and (dt_tru (de_var 3)) (dw_and1 (dt_gt (de_var 2) de_int))).t (dss_cons (ds_append 4 (K := K) rfl (de_mod (de_var 2) de_int)) (dss_one (ds_set 2 ND (de_div (de_var 2) de_int)))) (dss_cons (ds_set 6 ND de_int) (dss_cons (ds_if (dt_gt (de_len (K := K) rfl rfl (by rfl) T.z_len (da_cons (de_var 0) da_nil)) de_int) (dss_one (ds_fza 6 (ds_set 6 ND (de_add (K := K) rfl (de_ix (K := K) rfl rfl (de_var 0) (de_mod (de_var 5) (de_len (K := K) rfl rfl (by rfl) T.z_len (da_cons (de_var 0) da_nil)))) (de_mul de_int (de_var 5)))))) dss_nil) (dss_one (ds_append 4 (K := K) rfl (de_mod (de_mod (de_mul (de_mod (de_mul (de_var 6) de_int) de_int) de_int) de_int) de_int)))))))) (dss_one (ds_ret (de_var 4))))))))⟩
theorem ok__law_wires (T : Tx K mg) : FnOk P w K mg base CX0 1 T.A__law_wires.f T.A__law_wires.fd ["number", "most"] (spD ⟨T.C, K, cs, dn⟩ 2 f__law_wires) := by
  have ND : n__law_wires.Nodup := sc__law_wires.nd
  exact fn_ok (k := 0) T.A__law_wires.F sc__law_wires fun cdv A outer s H E hr => ⟨_, (dss_cons (ds_if (dt_eq (K := K) rfl hr (de_mod (de_div (de_var 0) de_int) de_int) de_int) (dss_one (ds_ret (de_add (K := K) rfl (de_mod (de_div (de_var 0) de_int) (de_var 1)) de_int))) dss_nil) (dss_one (ds_ret (de_add (K := K) rfl (de_mod (de_var 0) de_int) de_int))))⟩
theorem ok__law_pairs (T : Tx K mg) : FnOk P w K mg base CX0 1 T.A__law_pairs.f T.A__law_pairs.fd ["numbers", "place", "wires", "standard"] (spD ⟨T.C, K, cs, dn⟩ 4 f__law_pairs) := by
  have ND : n__law_pairs.Nodup := sc__law_pairs.nd
  exact fn_ok (k := 0) T.A__law_pairs.F sc__law_pairs fun cdv A outer s H E hr => ⟨_, (dss_cons (ds_set 4 ND (de_lst da_nil)) (dss_cons (ds_if (dt_eq (K := K) rfl hr (de_var 2) de_int) (dss_one (ds_ret (de_var 4))) dss_nil) (dss_cons (ds_for PassesOwn.never rfl (di_r1 (w := false) (by rfl) T.z_range (da_cons (de_mod (de_ix (K := K) rfl rfl (de_var 0) (de_var 1)) de_int) da_nil)) (dgs_n 5 ND) (dss_cons (ds_set 6 ND (de_ix (K := K) rfl rfl (de_var 0) (de_add (K := K) rfl (de_add (K := K) rfl (de_var 1) de_int) (de_var 5)))) (dss_cons (ds_set 7 ND (de_mod (de_var 6) (de_var 2))) (dss_cons (ds_set 8 ND (de_mod (de_div (de_var 6) (de_var 2)) (de_sub (de_var 2) de_int))) (dss_cons (ds_if (dt_ge (de_var 8) (de_var 7)) (dss_one (ds_set 8 ND (de_add (K := K) rfl (de_var 8) de_int))) dss_nil) (dss_one (ds_if (dw_and (dt_tru (de_var 3)) (dw_and1 (dt_gt (de_var 7) (de_var 8)))).t (dss_one (ds_append 4 (K := K) rfl (de_tup (da_cons (de_var 8) (da_cons (de_var 7) da_nil))))) (dss_one (ds_append 4 (K := K) rfl (de_tup (da_cons (de_var 7) (da_cons (de_var 8) da_nil)))))))))))) (dss_one (ds_ret (de_var 4))))))⟩
theorem ok__law_is_number (T : Tx K mg) : FnOk P w K mg base CX0 1 T.A__law_is_number.f T.A__law_is_number.fd ["x"] (spD ⟨T.C, K, cs, dn⟩ 1 f__law_is_number) := by
  have ND : n__law_is_number.Nodup := sc__law_is_number.nd
  exact fn_ok (k := 0) T.A__law_is_number.F sc__law_is_number fun cdv A outer s H E hr => ⟨_, (dss_one (ds_ret (de_and (de_isT (T := "int") (K := K) rfl (by rfl) T.z_isinstance (by rfl) T.z_int (by decide +kernel) (de_var 0)) (de_one (de_not (de_isT (T := "bool") (K := K) rfl (by rfl) T.z_isinstance (by rfl) T.z_bool (by decide +kernel) (de_var 0)))))))⟩
theorem ok__law_is_row (T : Tx K mg) : FnOk P w K mg base CX0 2 T.A__law_is_row.f T.A__law_is_row.fd ["actual", "due"] (spD ⟨T.C, K, cs, dn⟩ 2 f__law_is_row) := by
  have ND : n__law_is_row.Nodup := sc__law_is_row.nd
  exact fn_ok (k := 1) T.A__law_is_row.F sc__law_is_row fun cdv A outer s H E hr => ⟨_, (dss_cons (ds_if (dw_or (dt_not (dt_val (de_isT (T := "tuple") (K := K) rfl (by rfl) T.z_isinstance (by rfl) T.z_tuple (by decide +kernel) (de_var 0)))) (dw_or1 (dt_ne (K := K) rfl hr (de_len (K := K) rfl rfl (by rfl) T.z_len (da_cons (de_var 0) da_nil)) (de_len (K := K) rfl rfl (by rfl) T.z_len (da_cons (de_var 1) da_nil))))).t (dss_one (ds_ret de_bl)) dss_nil) (dss_cons (ds_for PassesOwn.never rfl (di_r1 (w := false) (by rfl) T.z_range (da_cons (de_len (K := K) rfl rfl (by rfl) T.z_len (da_cons (de_var 1) da_nil)) da_nil)) (dgs_n 2 ND) (dss_one (ds_if (dw_or (dt_not (dt_val (de_call (ok__law_is_number T) (hr.mono (by decide)) T.A__law_is_number.m T.A__law_is_number.F.kp T.A__law_is_number.b (da_cons (de_ix (K := K) rfl rfl (de_var 0) (de_var 2)) da_nil) (aCons_len aNil_len)))) (dw_or1 (dt_ne (K := K) rfl hr (de_ix (K := K) rfl rfl (de_var 0) (de_var 2)) (de_ix (K := K) rfl rfl (de_var 1) (de_var 2))))).t (dss_one (ds_ret de_bl)) dss_nil))) (dss_one (ds_ret de_bl))))⟩
theorem ok__law_is_made (T : Tx K mg) : FnOk P w K mg base CX0 3 T.A__law_is_made.f T.A__law_is_made.fd ["actual", "wires", "pairs"] (spD ⟨T.C, K, cs, dn⟩ 3 f__law_is_made) := by
  have ND : n__law_is_made.Nodup := sc__law_is_made.nd
  exact fn_ok (k := 2) T.A__law_is_made.F sc__law_is_made fun cdv A outer s H E hr => ⟨_, (dss_cons (ds_if (dw_or (dt_not (dt_val (de_isNet T.N (K := K) rfl (by rfl) T.z_isinstance (by rfl) T.mgN (de_var 0)))) (dw_or (dt_not (dt_val (de_call (ok__law_is_number T) (hr.mono (by decide)) T.A__law_is_number.m T.A__law_is_number.F.kp T.A__law_is_number.b (da_cons (de_wires T.N (K := K) rfl (de_var 0)) da_nil) (aCons_len aNil_len)))) (dw_or1 (dt_ne (K := K) rfl hr (de_wires T.N (K := K) rfl (de_var 0)) (de_var 1))))).t (dss_one (ds_ret de_bl)) dss_nil) (dss_cons (ds_if (dw_or (dt_not (dt_val (de_isT (T := "tuple") (K := K) rfl (by rfl) T.z_isinstance (by rfl) T.z_tuple (by decide +kernel) (de_comps T.N (K := K) rfl (de_var 0))))) (dw_or1 (dt_ne (K := K) rfl hr (de_len (K := K) rfl rfl (by rfl) T.z_len (da_cons (de_comps T.N (K := K) rfl (de_var 0)) da_nil)) (de_len (K := K) rfl rfl (by rfl) T.z_len (da_cons (de_var 2) da_nil))))).t (dss_one (ds_ret de_bl)) dss_nil) (dss_cons (ds_for PassesOwn.never rfl (di_r1 (w := false) (by rfl) T.z_range (da_cons (de_len (K := K) rfl rfl (by rfl) T.z_len (da_cons (de_var 2) da_nil)) da_nil)) (dgs_n 3 ND) (dss_one (ds_if (dt_not (dt_val (de_call (ok__law_is_row T) (hr.mono (by decide)) T.A__law_is_row.m T.A__law_is_row.F.kp T.A__law_is_row.b (da_cons (de_ix (K := K) rfl rfl (de_comps T.N (K := K) rfl (de_var 0)) (de_var 3)) (da_cons (de_ix (K := K) rfl rfl (de_var 2) (de_var 3)) da_nil)) (aCons_len (aCons_len aNil_len))))) (dss_one (ds_ret de_bl)) dss_nil))) (dss_one (ds_ret de_bl)))))⟩
theorem ok__check_comparer (T : Tx K mg) : FnOk P w K mg base CX0 1 T.A__check_comparer.f T.A__check_comparer.fd ["wires", "i", "j"] (spD ⟨T.C, K, cs, dn⟩ 3 f__check_comparer) := by
  have ND : n__check_comparer.Nodup := sc__check_comparer.nd
  exact fn_ok (k := 0) T.A__check_comparer.F sc__check_comparer fun cdv A outer s H E hr => ⟨_, (dss_cons (ds_if (dw_or (dt_not (dt_leLt de_int (de_var 1) (de_var 0))) (dw_or1 (dt_not (dt_leLt de_int (de_var 2) (de_var 0))))).t (dss_one ds_never) dss_nil) (dss_one (ds_if (dt_eq (K := K) rfl hr (de_var 1) (de_var 2)) (dss_one ds_never) dss_nil)))⟩
theorem ok_Network___init__ (T : Tx K mg) : FnOk P w K mg base CX0 2 T.A_Network___init__.f T.A_Network___init__.fd ["self", "wires", "comparers"] (spInit ⟨T.C, K, cs, dn⟩) := by
  have ND : n_Network___init__.Nodup := sc_Network___init__.nd
  exact init_ok (C := ⟨T.C, K, cs, dn⟩) (k := 1) (m1 := b1_init) (m2 := b2_init) (m3 := b3_init) T.A_Network___init__.F T.N sc_Network___init__ rfl rfl (fun cdv A outer s H E hr => ⟨_, _, _, (ds_if (dt_lt (de_var 1) de_int) (dss_one ds_never) dss_nil), (ds_set 3 ND (de_tuple (K := K) rfl (by rfl) T.z_tuple (da_cons (de_lc (own := [("i", 4), ("j", 5)]) (js := [4, 5]) rfl ND (di_seq (w := true) (K := K) rfl (de_var 2)) (blkOk_by (N := n_Network___init__) (sc := defScope s_Network___init__) (by decide +kernel)) (fun _ _ _ _ _ => (dg_tup (K := K) rfl rfl (dgs_cons ND (dgs_cons ND dgs_nil)))) (fun _ _ _ _ _ => dts_nil) (fun _ _ _ _ _ => (de_tup (da_cons (de_var 4) (da_cons (de_var 5) da_nil))))) da_nil))), (ds_frz 3 (ds_for PassesOwn.never rfl (di_seq (w := false) (K := K) rfl (de_var 3)) (dgs_t (K := K) rfl rfl (dgss_cons (dgs_n 4 ND) (dgss_cons (dgs_n 5 ND) dgss_nil))) (dss_one (ds_expr (de_call (ok__check_comparer T) (hr.mono (by decide)) T.A__check_comparer.m T.A__check_comparer.F.kp T.A__check_comparer.b (da_cons (de_var 1) (da_cons (de_var 4) (da_cons (de_var 5) da_nil))) (aCons_len (aCons_len (aCons_len aNil_len)))))))), ps_fld (pv 0) (pv 1) rfl, ps_fld (pv 0) (pv 3) rfl⟩) init_math
theorem okX__check_comparer (T : Tx K mg) : FnOk P w K mg base (L2.CX P w) 1 T.A__check_comparer.f T.A__check_comparer.fd ["wires", "i", "j"] (spChk T.IN) := by
  have ND : n__check_comparer.Nodup := sc__check_comparer.nd
  exact chk_okX (C := ⟨T.C, K, [], fun _ _ _ _ _ => True⟩) (k := 0) (m1 := (bOr (bNot (mB (mChain fLe fLt (mC (.int 0)) (mVar 1) (mVar 0)))) (bNot (mB (mChain fLe fLt (mC (.int 0)) (mVar 2) (mVar 0)))))) (m2 := (mB (mOp fEq (mVar 1) (mVar 2)))) T.A__check_comparer.F sc__check_comparer rfl rfl (fun cdv A outer s H E hr => ⟨_, _, (dw_or (dt_not (dt_leLt de_int (de_var 1) (de_var 0))) (dw_or1 (dt_not (dt_leLt de_int (de_var 2) (de_var 0))))).t, (dt_eq (K := K) rfl hr (de_var 1) (de_var 2)), pss_rz T.EI (by rfl), pss_rz T.EI (by rfl)⟩) Ty.chk_m
theorem okX_Network___init__ (T : Tx K mg) : FnOk P w K mg base (L2.CX P w) 2 T.A_Network___init__.f T.A_Network___init__.fd ["self", "wires", "comparers"] (spBad ⟨T.C, K, cs, dn⟩ T.IN) := by
  have ND : n_Network___init__.Nodup := sc_Network___init__.nd
  exact init_okX (C := ⟨T.C, K, cs, dn⟩) (k := 1) (m2 := b2_init) (mi := (iS false (mVar 3))) (gq := (gTs 2 (gsCons (gN 4) (gsCons (gN 5) gsNil)))) (na := (aCons (mVar 1) (aCons (mVar 4) (aCons (mVar 5) aNil)))) T.A_Network___init__.F sc_Network___init__ rfl rfl (fun cdv A outer s H E hr => ⟨_, _, _, _, _, _, _, (dt_lt (de_var 1) de_int), pss_rz T.EI (by rfl), (ds_set 3 ND (de_tuple (K := K) rfl (by rfl) T.z_tuple (da_cons (de_lc (own := [("i", 4), ("j", 5)]) (js := [4, 5]) rfl ND (di_seq (w := true) (K := K) rfl (de_var 2)) (blkOk_by (N := n_Network___init__) (sc := defScope s_Network___init__) (by decide +kernel)) (fun _ _ _ _ _ => (dg_tup (K := K) rfl rfl (dgs_cons ND (dgs_cons ND dgs_nil)))) (fun _ _ _ _ _ => dts_nil) (fun _ _ _ _ _ => (de_tup (da_cons (de_var 4) (da_cons (de_var 5) da_nil))))) da_nil))), (di_seq (w := false) (K := K) rfl (de_var 3)), (dgs_t (K := K) rfl rfl (dgss_cons (dgs_n 4 ND) (dgss_cons (dgs_n 5 ND) dgss_nil))), ((da_cons (de_var 1 (pos := ⟨0, 0, 0, 0⟩)) (da_cons (de_var 4 (pos := ⟨0, 0, 0, 0⟩)) (da_cons (de_var 5 (pos := ⟨0, 0, 0, 0⟩)) da_nil))) : DA _ (cxE P w K mg base n_Network___init__ "Network.__init__" s_Network___init__ T.A_Network___init__.f cdv A outer s H E) _ _ _).sd, pss_one (ps_expr (pe_callS (okX__check_comparer T) (hr.mono (by decide)) (by rfl) T.A__check_comparer.m T.A__check_comparer.F.kp T.A__check_comparer.b (fun σ => passAt (takes_of rfl rfl rfl rfl) σ) ((da_cons (de_var 1) (da_cons (de_var 4) (da_cons (de_var 5) da_nil))) : DA ⟨T.C, K, cs, dn⟩ _ _ _ _).pa)), passes_of rfl, (by intro _; rfl), ps_fld (pv 0) (pv 1) rfl, ps_fld (pv 0) (pv 3) rfl⟩) (fun _ _ _ => rfl) (fun x w c ds ij hc hd hl => Ty.bad_m2 x w c ds ij hc hd hl) (fun _ _ _ _ _ _ => rfl) (fun _ _ _ _ _ _ _ => rfl) (fun _ _ _ _ _ _ => rfl)
theorem ok__law_refused (T : Tx K mg) : FnOk P w K mg base CX0 4 T.A__law_refused.f T.A__law_refused.fd ["wires", "pairs"] (spD ⟨T.C, K, cs, dn⟩ 2 f__law_refused) := by
  have ND : n__law_refused.Nodup := sc__law_refused.nd
  exact ref_ok (C := ⟨T.C, K, cs, dn⟩) (IN := T.IN) (k := 3) (me := fun a => (mAnd (mIsE a true (mVar 2)) (mAnd (mIsE a true (mVar 2)) (mNot (mIsE a false (mVar 2)))))) T.A__law_refused.F sc__law_refused rfl rfl rfl T.M (okX_Network___init__ (cs := cs) (dn := dn) T) (by decide) T.mgN T.A_Network___init__.b T.x_IN (fun cdv A outer s H E hr => ⟨rfl, ⟨rfl, by decide, .inl T.EI.g⟩, fun pn xe => ⟨da_cons (de_var 0) (da_cons (de_var 1) da_nil), rfl, rfl, rfl, rfl⟩, fun a oe pn hz hf => (de_and (de_isE rfl (call_isE T.XC hz hf) (by rfl) T.z_isinstance (by rfl) T.gNE T.k_NE (de_var 2)) (de_and (de_isEB (T := "ValueError") rfl (call_isE T.XC hz hf) (by rfl) T.z_isinstance (by rfl) T.z_ValueError (by decide +kernel) T.k_VE (de_var 2)) (de_one (de_not (de_isE rfl (call_isE T.XC hz hf) (by rfl) T.z_isinstance (by rfl) T.gIT T.k_IT (de_var 2)))))), ⟨_, ((ds_ret de_bl) : DS ⟨T.C, K, cs, dn⟩ _ _ _ _).ps⟩⟩) (fun a => by simp [mAnd, mNot, mIsE, mVar])
theorem ok__law_refused_by_base (T : Tx K mg) : FnOk P w K mg base CX0 4 T.A__law_refused_by_base.f T.A__law_refused_by_base.fd ["wires", "pairs"] (spD ⟨T.C, K, cs, dn⟩ 2 f__law_refused_by_base) := by
  have ND : n__law_refused_by_base.Nodup := sc__law_refused_by_base.nd
  exact ref_ok (C := ⟨T.C, K, cs, dn⟩) (IN := T.IN) (k := 3) (me := fun a => (mIsE a true (mVar 2))) T.A__law_refused_by_base.F sc__law_refused_by_base rfl rfl rfl T.M (okX_Network___init__ (cs := cs) (dn := dn) T) (by decide) T.mgN T.A_Network___init__.b T.x_NE (fun cdv A outer s H E hr => ⟨rfl, ⟨rfl, by decide, .inl T.gNE⟩, fun pn xe => ⟨da_cons (de_var 0) (da_cons (de_var 1) da_nil), rfl, rfl, rfl, rfl⟩, fun a oe pn hz hf => (de_isE rfl (call_isE T.XC hz hf) (by rfl) T.z_isinstance (by rfl) T.EI.g T.k_IN (de_var 2)), ⟨_, ((ds_ret de_bl) : DS ⟨T.C, K, cs, dn⟩ _ _ _ _).ps⟩⟩) (fun a => by simp [mAnd, mNot, mIsE, mVar])
theorem ok_law (T : Tx K mg) : FnOk P w K mg base CX0 5 T.A_law.f T.A_law.fd ["script"] (spD ⟨T.C, K, cs, dn⟩ 1 f_law) := by
  have ND : n_law.Nodup := sc_law.nd
  exact fn_ok (k := 4) T.A_law.F sc_law fun cdv A outer s H E hr => ⟨_, (dss_cons (ds_fza 1 (ds_set 1 ND (de_call (ok__law_numbers T) (hr.mono (by decide)) T.A__law_numbers.m T.A__law_numbers.F.kp T.A__law_numbers.b (da_cons (de_var 0) (da_cons de_int da_nil)) (aCons_len (aCons_len aNil_len))))) (dss_cons (ds_fza 2 (ds_set 2 ND (de_call (ok__law_wires T) (hr.mono (by decide)) T.A__law_wires.m T.A__law_wires.F.kp T.A__law_wires.b (da_cons (de_ix (K := K) rfl rfl (de_var 1) de_int) (da_cons de_int da_nil)) (aCons_len (aCons_len aNil_len))))) (dss_cons (ds_fza 3 (ds_set 3 ND (de_call (ok__law_pairs T) (hr.mono (by decide)) T.A__law_pairs.m T.A__law_pairs.F.kp T.A__law_pairs.b (da_cons (de_var 1) (da_cons de_int (da_cons (de_var 2) (da_cons (de_eq (K := K) rfl hr (de_mod (de_ix (K := K) rfl rfl (de_var 1) de_int) de_int) de_int) da_nil)))) (aCons_len (aCons_len (aCons_len (aCons_len aNil_len))))))) (dss_cons (ds_set 4 ND (de_mod (de_ix (K := K) rfl rfl (de_var 1) de_int) (de_add (K := K) rfl (de_len (K := K) rfl rfl (by rfl) T.z_len (da_cons (de_var 3) da_nil)) de_int))) (dss_cons (ds_set 5 ND (de_mod (de_ix (K := K) rfl rfl (de_var 1) de_int) (de_var 2))) (dss_cons (ds_set 6 ND (de_ix (K := K) rfl rfl (de_var 1) de_int)) (dss_cons (ds_if (dt_eq (K := K) rfl hr (de_mod (de_ix (K := K) rfl rfl (de_var 1) de_int) de_int) de_int) (dss_one (ds_fza 6 (ds_set 6 ND (de_mul (de_var 6) (de_pow de_int de_int))))) dss_nil) (dss_cons (ds_fza 7 (ds_set 7 ND (de_lst (da_cons (de_tup (da_cons (de_var 5) (da_cons (de_var 2) da_nil))) (da_cons (de_tup (da_cons (de_var 2) (da_cons (de_var 5) da_nil))) (da_cons (de_tup (da_cons (de_var 5) (da_cons (de_add (K := K) rfl (de_var 2) (de_var 6)) da_nil))) (da_cons (de_tup (da_cons (de_add (K := K) rfl (de_var 2) (de_var 6)) (da_cons (de_var 5) da_nil))) (da_cons (de_tup (da_cons (de_var 5) (da_cons (de_neg de_int) da_nil))) (da_cons (de_tup (da_cons (de_neg de_int) (da_cons (de_var 5) da_nil))) da_nil))))))))) (dss_cons (ds_fza 7 (ds_set 7 ND (de_add (K := K) rfl (de_var 7) (de_lst (da_cons (de_tup (da_cons (de_var 5) (da_cons (de_sub (de_neg de_int) (de_var 6)) da_nil))) (da_cons (de_tup (da_cons (de_sub (de_neg de_int) (de_var 6)) (da_cons (de_var 5) da_nil))) (da_cons (de_tup (da_cons (de_var 5) (da_cons (de_var 5) da_nil))) (da_cons (de_tup (da_cons (de_var 2) (da_cons (de_neg de_int) da_nil))) da_nil)))))))) (dss_cons (ds_frz 7 (ds_for PassesOwn.never rfl (di_seq (w := false) (K := K) rfl (de_var 7)) (dgs_n 8 ND) (dss_cons (ds_fza 10 (ds_set 10 ND (de_add (K := K) rfl (de_add (K := K) rfl (de_sl (K := K) rfl (de_var 3) do_none (do_some (de_var 4))) (de_lst (da_cons (de_var 8) da_nil))) (de_sl (K := K) rfl (de_var 3) (do_some (de_var 4)) do_none)))) (dss_one (ds_if (dw_or (dt_not (dt_val (de_call (ok__law_refused T) (hr.mono (by decide)) T.A__law_refused.m T.A__law_refused.F.kp T.A__law_refused.b (da_cons (de_var 2) (da_cons (de_var 10) da_nil)) (aCons_len (aCons_len aNil_len))))) (dw_or1 (dt_not (dt_val (de_call (ok__law_refused_by_base T) (hr.mono (by decide)) T.A__law_refused_by_base.m T.A__law_refused_by_base.F.kp T.A__law_refused_by_base.b (da_cons (de_var 2) (da_cons (de_tuple (K := K) rfl (by rfl) T.z_tuple (da_cons (de_var 10) da_nil)) da_nil)) (aCons_len (aCons_len aNil_len))))))).t (dss_one (ds_ret de_bl)) dss_nil))))) (dss_cons (ds_for PassesOwn.never rfl (di_seq (w := false) (K := K) rfl (de_lst (da_cons de_int (da_cons (de_neg de_int) (da_cons (de_sub (de_neg de_int) (de_var 6)) da_nil))))) (dgs_n 9 ND) (dss_one (ds_if (dw_or (dt_not (dt_val (de_call (ok__law_refused T) (hr.mono (by decide)) T.A__law_refused.m T.A__law_refused.F.kp T.A__law_refused.b (da_cons (de_var 9) (da_cons (de_lst da_nil) da_nil)) (aCons_len (aCons_len aNil_len))))) (dw_or (dt_not (dt_val (de_call (ok__law_refused T) (hr.mono (by decide)) T.A__law_refused.m T.A__law_refused.F.kp T.A__law_refused.b (da_cons (de_var 9) (da_cons (de_var 3) da_nil)) (aCons_len (aCons_len aNil_len))))) (dw_or1 (dt_not (dt_val (de_call (ok__law_refused_by_base T) (hr.mono (by decide)) T.A__law_refused_by_base.m T.A__law_refused_by_base.F.kp T.A__law_refused_by_base.b (da_cons (de_var 9) (da_cons (de_lst da_nil) da_nil)) (aCons_len (aCons_len aNil_len)))))))).t (dss_one (ds_ret de_bl)) dss_nil))) (dss_cons (ds_if (dt_not (dt_val (de_call (ok__law_is_made T) (hr.mono (by decide)) T.A__law_is_made.m T.A__law_is_made.F.kp T.A__law_is_made.b (da_cons (de_net T.M (ok_Network___init__ T) (hr.mono (by decide)) T.mgN (da_cons (de_var 2) (da_cons (de_var 3) da_nil))) (da_cons (de_var 2) (da_cons (de_var 3) da_nil))) (aCons_len (aCons_len (aCons_len aNil_len)))))) (dss_one (ds_ret de_bl)) dss_nil) (dss_cons (ds_if (dt_eq (K := K) rfl hr (de_var 2) de_int) (dss_one (ds_ret de_bl)) dss_nil) (dss_cons (ds_for PassesOwn.never rfl (di_seq (w := false) (K := K) rfl (de_lst (da_cons (de_tup (da_cons de_int (da_cons (de_sub (de_var 2) de_int) da_nil))) (da_cons (de_tup (da_cons (de_sub (de_var 2) de_int) (da_cons de_int da_nil))) da_nil)))) (dgs_n 8 ND) (dss_cons (ds_fza 10 (ds_set 10 ND (de_add (K := K) rfl (de_add (K := K) rfl (de_sl (K := K) rfl (de_var 3) do_none (do_some (de_var 4))) (de_lst (da_cons (de_var 8) da_nil))) (de_sl (K := K) rfl (de_var 3) (do_some (de_var 4)) do_none)))) (dss_one (ds_if (dt_not (dt_val (de_call (ok__law_is_made T) (hr.mono (by decide)) T.A__law_is_made.m T.A__law_is_made.F.kp T.A__law_is_made.b (da_cons (de_net T.M (ok_Network___init__ T) (hr.mono (by decide)) T.mgN (da_cons (de_var 2) (da_cons (de_var 10) da_nil))) (da_cons (de_var 2) (da_cons (de_var 10) da_nil))) (aCons_len (aCons_len (aCons_len aNil_len)))))) (dss_one (ds_ret de_bl)) dss_nil)))) (dss_one (ds_ret de_bl))))))))))))))))⟩
end
theorem all_mk {l : PySem.W.OpenLaw} {w : World} {K : PySem.W.Frag} {h : Heap} {mg : Str → Option Value} {fa C f0 f1 f2 f3 f4 f5 f6 f7 f8 f9 f10 IN NE IT : Addr} (X : K.In h) (G : h.Ns mainGlobals mg) (hfa : mg "law" = some (.ref fa))
    {od0 an0 od1 an1 od2 an2 od3 an3 od4 an4 od5 an5 od6 an6 od7 an7 od8 an8 od9 an9 od10 an10 : Option Addr} {sl0 sl1 sl2 sl3 sl4 sl5 sl6 sl7 sl8 sl9 sl10 : Array (Option Value)} {oc0 kV0 dc0 pm0 cd0 ct0 oc1 kV1 dc1 pm1 cd1 ct1 oc2 kV2 dc2 pm2 cd2 ct2 oc3 kV3 dc3 pm3 cd3 ct3 oc4 kV4 dc4 pm4 cd4 ct4 oc5 kV5 dc5 pm5 cd5 ct5 oc6 kV6 dc6 pm6 cd6 ct6 oc7 kV7 dc7 pm7 cd7 ct7 oc8 kV8 dc8 pm8 cd8 ct8 oc9 kV9 dc9 pm9 cd9 ct9 oc10 kV10 dc10 pm10 cd10 ct10 : Value} 
    (z_ValueError : PySem.W.nsIn K mainGlobals "ValueError" = some none)
    (z_bool : PySem.W.nsIn K mainGlobals "bool" = some none)
    (z_int : PySem.W.nsIn K mainGlobals "int" = some none)
    (z_isinstance : PySem.W.nsIn K mainGlobals "isinstance" = some none)
    (z_len : PySem.W.nsIn K mainGlobals "len" = some none)
    (z_range : PySem.W.nsIn K mainGlobals "range" = some none)
    (z_tuple : PySem.W.nsIn K mainGlobals "tuple" = some none)
    (aC : PySem.W.nsIn K mainGlobals "Network" = some (some (.ref C)))
    (pg : PySem.W.plainGet K C Str.empty = true)
    (hd : PySem.W.hasDictIn K C = true)
    (po : PySem.W.plainOver K C = true)
    (sa : PySem.W.findIn K (.ref C) "__setattr__" = some (some (.builtin "object.__setattr__")))
    (nw : PySem.W.findIn K (.ref C) "wires" = some none)
    (nc : PySem.W.findIn K (.ref C) "comparers" = some none)
    (ha : PySem.W.findIn K (.ref C) "__class__" = some (some (.builtin "object.__class__")))
    (hn : PySem.W.specialIn K (.builtin "object.__class__") "__get__" = some (some (.builtin "getset_descriptor.__get__")))
    (ht : PySem.W.takesIn K (.builtin "object.__class__") = some true)
    (hm : PySem.W.mroIn K C (.type "object") = some true)
    (a0 : PySem.W.nsIn K mainGlobals "_law_numbers" = some (some (.ref f0)))
    (l0 : K.lookup f0 = some ⟨oc0, od0, .func (PySem.W.fnOf "_law_numbers" "_law_numbers" (defArgs s__law_numbers) (defBody s__law_numbers) (defScope s__law_numbers) .none kV0 dc0 pm0 an0 cd0 ct0), sl0⟩)
    (c0 : PySem.W.codeIn K cd0 "_law_numbers" = true)
    (k0 : PySem.W.keepIn K (.ref f0) = true)
    (a1 : PySem.W.nsIn K mainGlobals "_law_wires" = some (some (.ref f1)))
    (l1 : K.lookup f1 = some ⟨oc1, od1, .func (PySem.W.fnOf "_law_wires" "_law_wires" (defArgs s__law_wires) (defBody s__law_wires) (defScope s__law_wires) .none kV1 dc1 pm1 an1 cd1 ct1), sl1⟩)
    (c1 : PySem.W.codeIn K cd1 "_law_wires" = true)
    (k1 : PySem.W.keepIn K (.ref f1) = true)
    (a2 : PySem.W.nsIn K mainGlobals "_law_pairs" = some (some (.ref f2)))
    (l2 : K.lookup f2 = some ⟨oc2, od2, .func (PySem.W.fnOf "_law_pairs" "_law_pairs" (defArgs s__law_pairs) (defBody s__law_pairs) (defScope s__law_pairs) .none kV2 dc2 pm2 an2 cd2 ct2), sl2⟩)
    (c2 : PySem.W.codeIn K cd2 "_law_pairs" = true)
    (k2 : PySem.W.keepIn K (.ref f2) = true)
    (a3 : PySem.W.nsIn K mainGlobals "_law_is_number" = some (some (.ref f3)))
    (l3 : K.lookup f3 = some ⟨oc3, od3, .func (PySem.W.fnOf "_law_is_number" "_law_is_number" (defArgs s__law_is_number) (defBody s__law_is_number) (defScope s__law_is_number) .none kV3 dc3 pm3 an3 cd3 ct3), sl3⟩)
    (c3 : PySem.W.codeIn K cd3 "_law_is_number" = true)
    (k3 : PySem.W.keepIn K (.ref f3) = true)
    (a4 : PySem.W.nsIn K mainGlobals "_law_is_row" = some (some (.ref f4)))
    (l4 : K.lookup f4 = some ⟨oc4, od4, .func (PySem.W.fnOf "_law_is_row" "_law_is_row" (defArgs s__law_is_row) (defBody s__law_is_row) (defScope s__law_is_row) .none kV4 dc4 pm4 an4 cd4 ct4), sl4⟩)
    (c4 : PySem.W.codeIn K cd4 "_law_is_row" = true)
    (k4 : PySem.W.keepIn K (.ref f4) = true)
    (a5 : PySem.W.nsIn K mainGlobals "_law_is_made" = some (some (.ref f5)))
    (l5 : K.lookup f5 = some ⟨oc5, od5, .func (PySem.W.fnOf "_law_is_made" "_law_is_made" (defArgs s__law_is_made) (defBody s__law_is_made) (defScope s__law_is_made) .none kV5 dc5 pm5 an5 cd5 ct5), sl5⟩)
    (c5 : PySem.W.codeIn K cd5 "_law_is_made" = true)
    (k5 : PySem.W.keepIn K (.ref f5) = true)
    (a6 : PySem.W.nsIn K mainGlobals "_check_comparer" = some (some (.ref f6)))
    (l6 : K.lookup f6 = some ⟨oc6, od6, .func (PySem.W.fnOf "_check_comparer" "_check_comparer" (defArgs s__check_comparer) (defBody s__check_comparer) (defScope s__check_comparer) .none kV6 dc6 pm6 an6 cd6 ct6), sl6⟩)
    (c6 : PySem.W.codeIn K cd6 "_check_comparer" = true)
    (k6 : PySem.W.keepIn K (.ref f6) = true)
    (a7 : PySem.W.findIn K (.ref C) "__init__" = some (some (.ref f7)))
    (i7 : PySem.W.isFn K (.ref f7) = true)
    (l7 : K.lookup f7 = some ⟨oc7, od7, .func (PySem.W.fnOf "__init__" "Network.__init__" (defArgs s_Network___init__) (defBody s_Network___init__) (defScope s_Network___init__) .none kV7 dc7 pm7 an7 cd7 ct7), sl7⟩)
    (c7 : PySem.W.codeIn K cd7 "Network.__init__" = true)
    (k7 : PySem.W.keepIn K (.ref f7) = true)
    (a8 : PySem.W.nsIn K mainGlobals "_law_refused" = some (some (.ref f8)))
    (l8 : K.lookup f8 = some ⟨oc8, od8, .func (PySem.W.fnOf "_law_refused" "_law_refused" (defArgs s__law_refused) (defBody s__law_refused) (defScope s__law_refused) .none kV8 dc8 pm8 an8 cd8 ct8), sl8⟩)
    (c8 : PySem.W.codeIn K cd8 "_law_refused" = true)
    (k8 : PySem.W.keepIn K (.ref f8) = true)
    (a9 : PySem.W.nsIn K mainGlobals "_law_refused_by_base" = some (some (.ref f9)))
    (l9 : K.lookup f9 = some ⟨oc9, od9, .func (PySem.W.fnOf "_law_refused_by_base" "_law_refused_by_base" (defArgs s__law_refused_by_base) (defBody s__law_refused_by_base) (defScope s__law_refused_by_base) .none kV9 dc9 pm9 an9 cd9 ct9), sl9⟩)
    (c9 : PySem.W.codeIn K cd9 "_law_refused_by_base" = true)
    (k9 : PySem.W.keepIn K (.ref f9) = true)
    (a10 : PySem.W.nsIn K mainGlobals "law" = some (some (.ref f10)))
    (l10 : K.lookup f10 = some ⟨oc10, od10, .func (PySem.W.fnOf "law" "law" (defArgs s_law) (defBody s_law) (defScope s_law) .none kV10 dc10 pm10 an10 cd10 ct10), sl10⟩)
    (c10 : PySem.W.codeIn K cd10 "law" = true)
    (k10 : PySem.W.keepIn K (.ref f10) = true)
    (mk : PySem.W.makesIn K C = true)
    (kc : PySem.W.keepIn K (.ref C) = true)
    (eIN : PySem.W.nsIn K mainGlobals "InvalidNetwork" = some (some (.ref IN)))
    (icIN : PySem.W.isClsIn K IN = true)
    (tyIN : PySem.W.typeIn K (.ref IN) = some (.type "type"))
    (eNE : PySem.W.nsIn K mainGlobals "NetworkError" = some (some (.ref NE)))
    (icNE : PySem.W.isClsIn K NE = true)
    (tyNE : PySem.W.typeIn K (.ref NE) = some (.type "type"))
    (eIT : PySem.W.nsIn K mainGlobals "InvalidText" = some (some (.ref IT)))
    (icIT : PySem.W.isClsIn K IT = true)
    (tyIT : PySem.W.typeIn K (.ref IT) = some (.type "type"))
    (exn : PySem.W.excIn K IN [.type "ValueError", .type "Exception", .type "BaseException", .type "object"] "ValueError.__new__" = true)
    (kpI : PySem.W.keepIn K (.ref IN) = true)
    (bsI : PySem.W.subIn K (.ref IN) (.type "BaseException") = some true)
    (bsN : PySem.W.subIn K (.ref NE) (.type "BaseException") = some true)
    (sII : PySem.W.subIn K (.ref IN) (.ref IN) = some true)
    (sIN : PySem.W.subIn K (.ref IN) (.ref NE) = some true)
    (sIT : PySem.W.subIn K (.ref IN) (.ref IT) = some false)
    (sIV : PySem.W.subIn K (.ref IN) (.type "ValueError") = some true)
    (xga : PySem.W.findIn K (.ref IN) "__getattribute__" = some (some (.builtin "BaseException.__getattribute__")))
    (xgg : PySem.W.findIn K (.ref IN) "__getattr__" = some none)
    (xhd : PySem.W.hasDictIn K IN = true)
    (xha : PySem.W.findIn K (.ref IN) "__class__" = some (some (.builtin "object.__class__")))
    (xhm : PySem.W.mroIn K IN (.type "object") = some true)
    : ∃ fd : FuncData, (∀ (s : Shared) (v : Value), BindsTo s fd ⟨[v], []⟩ [("script", v)]) ∧ ∀ base : Heap, K.In base → base.Ns mainGlobals mg → FnOk l.prog w K mg base CX0 5 fa fd ["script"] (spLaw K) := by
  have e := hfa.symm.trans (PySem.W.mg_of X G a10)
  cases e
  let T : Tx K mg := { C := C, z_ValueError := PySem.W.mg_none_of X G z_ValueError, z_bool := PySem.W.mg_none_of X G z_bool, z_int := PySem.W.mg_none_of X G z_int, z_isinstance := PySem.W.mg_none_of X G z_isinstance, z_len := PySem.W.mg_none_of X G z_len, z_range := PySem.W.mg_none_of X G z_range, z_tuple := PySem.W.mg_none_of X G z_tuple, N := ⟨⟨pg, hd, po, sa⟩, nw, nc, ha, hn, ht, hm, kit_self⟩, mgN := PySem.W.mg_of X G aC, A__law_numbers := defAt X G a0 l0 c0 k0 (fun _ _ _ _ _ _ us hl => match us, hl with | [_, _], _ => rfl), A__law_wires := defAt X G a1 l1 c1 k1 (fun _ _ _ _ _ _ us hl => match us, hl with | [_, _], _ => rfl), A__law_pairs := defAt X G a2 l2 c2 k2 (fun _ _ _ _ _ _ us hl => match us, hl with | [_, _, _, _], _ => rfl), A__law_is_number := defAt X G a3 l3 c3 k3 (fun _ _ _ _ _ _ us hl => match us, hl with | [_], _ => rfl), A__law_is_row := defAt X G a4 l4 c4 k4 (fun _ _ _ _ _ _ us hl => match us, hl with | [_, _], _ => rfl), A__law_is_made := defAt X G a5 l5 c5 k5 (fun _ _ _ _ _ _ us hl => match us, hl with | [_, _, _], _ => rfl), A__check_comparer := defAt X G a6 l6 c6 k6 (fun _ _ _ _ _ _ us hl => match us, hl with | [_, _, _], _ => rfl), A_Network___init__ := methAt a7 i7 l7 c7 k7 (fun _ _ _ _ _ _ us hl => match us, hl with | [_, _, _], _ => rfl), A__law_refused := defAt X G a8 l8 c8 k8 (fun _ _ _ _ _ _ us hl => match us, hl with | [_, _], _ => rfl), A__law_refused_by_base := defAt X G a9 l9 c9 k9 (fun _ _ _ _ _ _ us hl => match us, hl with | [_, _], _ => rfl), A_law := defAt X G a10 l10 c10 k10 (fun _ _ _ _ _ _ us hl => match us, hl with | [_], _ => rfl), M := ⟨mk, a7, i7, kc⟩, IN := IN, NE := NE, IT := IT, EI := ⟨PySem.W.mg_of X G eIN, exn, kpI, bsI, tyIN⟩, gNE := PySem.W.mg_of X G eNE, gIT := PySem.W.mg_of X G eIT, XC := ⟨xga, xgg, bsI, xhd, xha, hn, ht, xhm⟩, x_IN := exm_by bsI icIN tyIN sII, x_NE := exm_by bsN icNE tyNE sIN, k_IN := kit_yes icIN tyIN sII, k_NE := kit_yes icNE tyNE sIN, k_IT := kit_no sII icIT tyIT sIT, k_VE := kit_bt (by decide +kernel) sIV }
  exact ⟨PySem.W.fnOf "law" "law" (defArgs s_law) (defBody s_law) (defScope s_law) .none kV10 dc10 pm10 an10 cd10 ct10, fun s v => .of_eq rfl, fun base _ _ => law_imp (ok_law (cs := []) (dn := fun _ _ _ _ _ => True) T) law_true⟩
end Lw
open PySem PySem.W PyProof.Rows
set_option maxRecDepth 100000 in
set_option maxHeartbeats 0 in
theorem PySem.Challenge.cw_neededrows_k01_network_refused_holds : PySem.Challenge.rw_neededrows_k01_network_refused.Holds := by
  w_on; o_law; k_head; (case hw => w_witness2)
  k_fill
  refine L2.walk_of (l := PySem.Challenge.rw_neededrows_k01_network_refused) (n := 63) (k := 5) (x := "script") (CX := fun _ => L2.CX0) (sp := fun w => Dt.spLaw _) rfl (by decide) rfl ⟨rfl, by decide, by decide⟩ (fun w h Y => PySem.W.kIn_of Y) ?F (fun _ _ a ns hl ho hS => ⟨a, ns, rfl, Dt.frz_of ho hS, hl, fun _ => rfl⟩) (fun _ _ _ _ _ h => h)
  case F =>
    intro w mg fa h KX G hmg
    refine' Lw.all_mk KX G hmg ?z_ValueError ?z_bool ?z_int ?z_isinstance ?z_len ?z_range ?z_tuple ?aC ?pg ?hd ?po ?sa ?nw ?nc ?ha ?hn ?ht ?hm ?a0 ?l0 ?c0 ?k0 ?a1 ?l1 ?c1 ?k1 ?a2 ?l2 ?c2 ?k2 ?a3 ?l3 ?c3 ?k3 ?a4 ?l4 ?c4 ?k4 ?a5 ?l5 ?c5 ?k5 ?a6 ?l6 ?c6 ?k6 ?a7 ?i7 ?l7 ?c7 ?k7 ?a8 ?l8 ?c8 ?k8 ?a9 ?l9 ?c9 ?k9 ?a10 ?l10 ?c10 ?k10 ?mk ?kc ?eIN ?icIN ?tyIN ?eNE ?icNE ?tyNE ?eIT ?icIT ?tyIT ?exn ?kpI ?bsI ?bsN ?sII ?sIN ?sIT ?sIV ?xga ?xgg ?xhd ?xha ?xhm
    (case z_ValueError => k_is)
    (case z_bool => k_is)
    (case z_int => k_is)
    (case z_isinstance => k_is)
    (case z_len => k_is)
    (case z_range => k_is)
    (case z_tuple => k_is)
    (case aC => k_is)
    (case pg => k_is)
    (case hd => k_is)
    (case po => k_is)
    (case sa => k_is)
    (case nw => k_is)
    (case nc => k_is)
    (case ha => k_is)
    (case hn => k_is)
    (case ht => k_is)
    (case hm => k_is)
    (case a0 => k_is)
    (case l0 => k_is)
    (case c0 => k_is)
    (case k0 => k_is)
    (case a1 => k_is)
    (case l1 => k_is)
    (case c1 => k_is)
    (case k1 => k_is)
    (case a2 => k_is)
    (case l2 => k_is)
    (case c2 => k_is)
    (case k2 => k_is)
    (case a3 => k_is)
    (case l3 => k_is)
    (case c3 => k_is)
    (case k3 => k_is)
    (case a4 => k_is)
    (case l4 => k_is)
    (case c4 => k_is)
    (case k4 => k_is)
    (case a5 => k_is)
    (case l5 => k_is)
    (case c5 => k_is)
    (case k5 => k_is)
    (case a6 => k_is)
    (case l6 => k_is)
    (case c6 => k_is)
    (case k6 => k_is)
    (case a7 => k_is)
    (case i7 => k_is)
    (case l7 => k_is)
    (case c7 => k_is)
    (case k7 => k_is)
    (case a8 => k_is)
    (case l8 => k_is)
    (case c8 => k_is)
    (case k8 => k_is)
    (case a9 => k_is)
    (case l9 => k_is)
    (case c9 => k_is)
    (case k9 => k_is)
    (case a10 => k_is)
    (case l10 => k_is)
    (case c10 => k_is)
    (case k10 => k_is)
    (case mk => k_is)
    (case kc => k_is)
    (case eIN => k_is)
    (case icIN => k_is)
    (case tyIN => k_is)
    (case eNE => k_is)
    (case icNE => k_is)
    (case tyNE => k_is)
    (case eIT => k_is)
    (case icIT => k_is)
    (case tyIT => k_is)
    (case exn => k_exc)
    (case kpI => k_is)
    (case bsI => k_is)
    (case bsN => k_is)
    (case sII => k_is)
    (case sIN => k_is)
    (case sIT => k_is)
    (case sIV => k_is)
    (case xga => k_is)
    (case xgg => k_is)
    (case xhd => k_is)
    (case xha => k_is)
    (case xhm => k_is)
