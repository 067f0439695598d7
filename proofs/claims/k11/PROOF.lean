import PyProof.Rows.All
import Wide.All
import OpenK.AllK
import Wide.FinOn
import HandS.ForMost
import HandS.Evl
import HandS.TupAny
import HandS.IsInst
import HandS.Property
import HandS.Defaults
import HandS.Star
import HandS.FStr
import HandS.Text
import PyProof.RulesMatchSeq
import PyProof.Rows.MatchSeqLen
import HandS.Walk
import PyProof.EnumMake
import PyProof.TupleIter
import PyProof.Draws
import HandS.SetFor
import HandS.Strs
import HandS.Rev
import PyProof.RulesMatchSingle
import PyProof.IsRules
import HandS.IterVal
import HandS.OwnIter
import KE.KOpsOwn
import HandS.Zip
import KE.GoesEnumKw
import PyProof.FString3
import HandS.StrMore
import KE.KxField
import HandS.ExcInit
import HandS.Nested
import KE.KExcSuper
import KE.KSuper
import HandS.ExcField
import HandS.ExcOwn
import HandS.WordsExc
import HandS.CallSlots
import HandS.More
import HandS.FStrTup
import PyProof.ReprNest
import HandS.ExcCtx
import HandS.HotCalls
import KE.KExcIs
import HandS.ExcIs
import KE.KDictZip
import KE.GoesMore
import PyProof.P3In
import PySem.Challenge.RW_armedexits_k11_program_redirected
set_option Elab.async false
set_option linter.all false
set_option maxRecDepth 100000
set_option maxHeartbeats 4000000

namespace Ax
open PySem L2 Evl

/-! ### data -/
inductive D where
  | non | bl (b : Bool) | int (i : Int) | str (x : Str)
  | tup (ds : List D) | lst (ds : List D) | ptup (ds : List D)
  | ins (C : Addr) (fs : List (Str × D))
  | cls (v : V)

mutual
inductive Rp (K : PySem.W.Frag) (H : Hp) : V → D → Prop
  | non : Rp K H .non .non
  | bl (b : Bool) : Rp K H (.bl b) (.bl b)
  | int (i : Int) : Rp K H (.int i) (.int i)
  | str (x : Str) : Rp K H (.str x) (.str x)
  | tup {a : Addr} {xs : List V} {ds : List D} : SqT K H a xs → RpA K H xs ds → Rp K H (.ref a) (.tup ds)
  | lst {a : Addr} {xs : List V} {ds : List D} : SqL K H a xs → RpA K H xs ds → Rp K H (.ref a) (.lst ds)
  | ptup {a : Addr} {o : Obj} {xs : List V} {ds : List D} : H a = some (.frz o (.tup xs)) → o.dict = none → RpA K H xs ds → Rp K H (.ref a) (.ptup ds)
  | ins {a C dx : Addr} {gs : List (Str × V)} {fs : List (Str × D)} : H a = some (.ins C dx gs) → RpF K H gs fs → Rp K H (.ref a) (.ins C fs)
  | cls (v : V) : Rp K H v (.cls v)
inductive RpA (K : PySem.W.Frag) (H : Hp) : List V → List D → Prop
  | nil : RpA K H [] []
  | cons {v : V} {vs : List V} {d : D} {ds : List D} : Rp K H v d → RpA K H vs ds → RpA K H (v :: vs) (d :: ds)
inductive RpF (K : PySem.W.Frag) (H : Hp) : List (Str × V) → List (Str × D) → Prop
  | nil : RpF K H [] []
  | cons {f : Str} {v : V} {vs : List (Str × V)} {d : D} {ds : List (Str × D)} : Rp K H v d → RpF K H vs ds → RpF K H ((f, v) :: vs) ((f, d) :: ds)
end

section
variable {K : PySem.W.Frag} {H H' : Hp}
mutual
theorem Rp.mono (e : Ex H H') : ∀ {v : V} {d : D}, Rp K H v d → Rp K H' v d
  | _, _, .non => .non
  | _, _, .bl b => .bl b
  | _, _, .int b => .int b
  | _, _, .str b => .str b
  | _, _, .tup h a => .tup (ex_t e h) (RpA.mono e a)
  | _, _, .lst h a => .lst (ex_l e h) (RpA.mono e a)
  | _, _, .ptup h p a => .ptup (e _ _ h) p (RpA.mono e a)
  | _, _, .ins h a => .ins (e _ _ h) (RpF.mono e a)
  | _, _, .cls v => .cls v
theorem RpA.mono (e : Ex H H') : ∀ {v : List V} {d : List D}, RpA K H v d → RpA K H' v d
  | _, _, .nil => .nil
  | _, _, .cons h a => .cons (Rp.mono e h) (RpA.mono e a)
theorem RpF.mono (e : Ex H H') : ∀ {v : List (Str × V)} {d : List (Str × D)}, RpF K H v d → RpF K H' v d
  | _, _, .nil => .nil
  | _, _, .cons h a => .cons (Rp.mono e h) (RpF.mono e a)
end
theorem Rp.pt {v : V} {ds : List D} (h : Rp K H v (.ptup ds)) : Rp K H v (.tup ds) := by
  cases h with
  | ptup h _ a => exact .tup (.inl (.inr ⟨_, h⟩)) a
theorem RpA.length : ∀ {vs : List V} {ds : List D}, RpA K H vs ds → vs.length = ds.length
  | _, _, .nil => rfl
  | _, _, .cons _ a => by rw [List.length_cons, List.length_cons, RpA.length a]
theorem RpA.get : ∀ {vs : List V} {ds : List D} {i : Nat} {d : D}, RpA K H vs ds → ds[i]? = some d → ∃ v, vs[i]? = some v ∧ Rp K H v d
  | _, _, _, _, .nil, e => by simp at e
  | _, _, 0, _, .cons r _, e => by simp at e; subst e; exact ⟨_, rfl, r⟩
  | _, _, i + 1, d, .cons _ t, e => by
    obtain ⟨u, h1, h2⟩ := RpA.get (i := i) (d := d) t (by simpa using e)
    exact ⟨u, by simpa using h1, h2⟩
theorem RpA.getV : ∀ {vs : List V} {ds : List D} {i : Nat} {v : V}, RpA K H vs ds → vs[i]? = some v → ∃ d, ds[i]? = some d ∧ Rp K H v d
  | _, _, _, _, .nil, e => by simp at e
  | _, _, 0, _, .cons r _, e => by simp at e; subst e; exact ⟨_, rfl, r⟩
  | _, _, i + 1, v, .cons _ t, e => by
    obtain ⟨u, h1, h2⟩ := RpA.getV (i := i) (v := v) t (by simpa using e)
    exact ⟨u, by simpa using h1, h2⟩
theorem RpA.append : ∀ {vs ws : List V} {ds es : List D}, RpA K H vs ds → RpA K H ws es → RpA K H (vs ++ ws) (ds ++ es)
  | _, _, _, _, .nil, s => s
  | _, _, _, _, .cons r t, s => .cons r (RpA.append t s)
theorem RpA.set {v : V} {d : D} (r : Rp K H v d) : ∀ {vs : List V} {ds : List D} (i : Nat), RpA K H vs ds → RpA K H (vs.set i v) (ds.set i d)
  | _, _, _, .nil => .nil
  | _, _, 0, .cons _ t => .cons r t
  | _, _, i + 1, .cons q t => .cons q (RpA.set r i t)
theorem RpA.take : ∀ {vs : List V} {ds : List D} (n : Nat), RpA K H vs ds → RpA K H (vs.take n) (ds.take n)
  | _, _, 0, _ => .nil
  | _, _, _ + 1, .nil => .nil
  | _, _, n + 1, .cons r t => .cons r (RpA.take n t)
theorem RpA.drop : ∀ {vs : List V} {ds : List D} (n : Nat), RpA K H vs ds → RpA K H (vs.drop n) (ds.drop n)
  | _, _, 0, r => r
  | _, _, _ + 1, .nil => .nil
  | _, _, n + 1, .cons _ t => RpA.drop n t
theorem RpA.ints : ∀ {ns : List Int}, RpA K H (ns.map V.int) (ns.map D.int)
  | [] => .nil
  | n :: r => .cons (.int n) (RpA.ints (ns := r))
theorem RpA.ints_inv : ∀ {vs : List V} {ns : List Int}, RpA K H vs (ns.map D.int) → vs = ns.map V.int
  | _, [], h => by cases h; rfl
  | _, n :: r, h => by
    cases h with
    | cons h1 h2 =>
      cases h1
      rw [RpA.ints_inv h2]
      rfl
theorem RpF.look : ∀ {vs : List (Str × V)} {ds : List (Str × D)} {f : Str} {d : D}, RpF K H vs ds → ds.lookup f = some d → ∃ v, vs.lookup f = some v ∧ Rp K H v d
  | _, _, _, _, .nil, e => by simp at e
  | _, _, f, d, .cons (f := g) (v := v) (d := d') r t, e => by
    rw [List.lookup_cons] at e ⊢
    cases q : f == g with
    | true => rw [q] at e; simp at e; subst e; exact ⟨v, rfl, r⟩
    | false => rw [q] at e; exact RpF.look t e
end

/-! ### what has been done between two heaps: G what stands still -/
structure Go (G H G' H' : Hp) : Prop where
  gg : Ex G G'
  gh : Ex G' H'
  hh : Ex H H'
  fr : ∀ a, H a ≠ none → G a = none → G' a = none
section
variable {G H G1 H1 G2 H2 : Hp}
theorem Go.refl (e : Ex G H) : Go G H G H := ⟨Ex.refl G, e, Ex.refl H, fun _ _ h => h⟩
theorem Go.trans (a : Go G H G1 H1) (b : Go G1 H1 G2 H2) : Go G H G2 H2 := ⟨a.gg.trans b.gg, b.gh, a.hh.trans b.hh, fun x hx hg => b.fr x (by
  cases q : H x with
  | none => exact absurd q hx
  | some o => rw [a.hh x o q]; exact fun z => nomatch z) (a.fr x hx hg)⟩
/-- a new thing that will stand still -/
theorem Go.new {p : Addr} {o : HO} (e : Ex G H) (h : H p = none) : Go G H (upd G p o) (upd H p o) := by
  have hg : G p = none := fresh_back e h
  refine ⟨Ex.new hg, fun a u q => ?_, Ex.new h, fun a ha q => ?_⟩
  · by_cases ap : a = p
    · subst ap; rw [upd_same] at q ⊢; exact q
    · rw [upd_ne ap] at q ⊢; exact e a u q
  · rw [upd_ne (b := a) (a := p) (fun z => ha (by rw [z]; exact h))]; exact q
/-- a new thing of our own -/
theorem Go.own {p : Addr} {o : HO} (e : Ex G H) (h : H p = none) : Go G H G (upd H p o) :=
  ⟨Ex.refl G, e.trans (Ex.new h), Ex.new h, fun _ _ q => q⟩
end

/-! ### slots -/
/-- an own list within an own list, or within a tuple of it -/
inductive NE where
  | row (ds : List D) | pair (d : D) (ds : List D)
inductive NRow (K : PySem.W.Frag) (G H : Hp) : V → List Addr → NE → Prop
  | row {l : Addr} {vs : List V} {ds : List D} : H l = some (.lst vs) → RpA K G vs ds → NRow K G H (.ref l) [l] (.row ds)
  | pair {t l : Addr} {u : V} {d : D} {vs : List V} {ds : List D} : H t = some (.tup [u, .ref l]) → Rp K G u d → H l = some (.lst vs) → RpA K G vs ds → NRow K G H (.ref t) [t, l] (.pair d ds)
inductive NRows (K : PySem.W.Frag) (G H : Hp) : List V → List (List Addr) → List NE → Prop
  | nil : NRows K G H [] [] []
  | cons {v : V} {vs : List V} {A : List Addr} {As : List (List Addr)} {e : NE} {es : List NE} : NRow K G H v A e → NRows K G H vs As es → NRows K G H (v :: vs) (A :: As) (e :: es)
inductive S where
  | dat (d : D) | own (ds : List D) | obj (x C : Addr) (fs : List (Str × D))
  | box (x l C : Addr) (f : Str) (r : D) (g : Str) (ds : List D)
  | nst (l : Addr) (As : List (List Addr)) (es : List NE)
abbrev Rho := List (Option S)
/-- the addresses that are ours -/
def S.fp : S → V → List Addr
  | .dat _, _ => []
  | .own _, .ref a => [a]
  | .obj x _ _, _ => [x]
  | .box x l _ _ _ _ _, _ => [x, l]
  | .nst l As _, _ => l :: As.flatten
  | .own _, _ => []
/-- our own thing, held as v -/
def OwnAt (K : PySem.W.Frag) (G H : Hp) (v : V) : S → Prop
  | .dat _ => False
  | .own ds => ∃ l vs, v = .ref l ∧ H l = some (.lst vs) ∧ RpA K G vs ds
  | .obj x C fs => v = .ref x ∧ ∃ dx gs, H x = some (.ins C dx gs) ∧ RpF K G gs fs
  | .box x l C f r g ds => v = .ref x ∧ x ≠ l ∧ ∃ dx u vs, H x = some (.ins C dx [(f, u), (g, .ref l)]) ∧ Rp K G u r ∧ H l = some (.lst vs) ∧ RpA K G vs ds
  | .nst l As es => v = .ref l ∧ (l :: As.flatten).Nodup ∧ ∃ vs, H l = some (.lst vs) ∧ NRows K G H vs As es
def S.mine : S → Bool
  | .dat _ => false
  | _ => true
section
variable {K : PySem.W.Frag} {G H G1 H1 : Hp} {v : V} {vs : List V} {A : List Addr} {As : List (List Addr)} {e : NE} {es : List NE}
theorem NRow.there (h : NRow K G H v A e) : ∀ a ∈ A, ∃ o, H a = some o := by
  cases h with
  | row h _ => intro a ha; rw [List.mem_singleton.mp ha]; exact ⟨_, h⟩
  | pair h _ h2 _ =>
    intro a ha
    rcases List.mem_cons.mp ha with z | z
    · rw [z]; exact ⟨_, h⟩
    · rw [List.mem_singleton.mp z]; exact ⟨_, h2⟩
theorem NRow.mono (h : NRow K G H v A e) (x : Ex G G1) (k : ∀ a ∈ A, ∀ o, H a = some o → H1 a = some o) : NRow K G1 H1 v A e := by
  cases h with
  | row h r => exact .row (k _ (List.mem_singleton.mpr rfl) _ h) (r.mono x)
  | pair h r h2 r2 => exact .pair (k _ List.mem_cons_self _ h) (r.mono x) (k _ (List.mem_cons_of_mem _ (List.mem_singleton.mpr rfl)) _ h2) (r2.mono x)
theorem NRows.there (h : NRows K G H vs As es) : ∀ a ∈ As.flatten, ∃ o, H a = some o := by
  induction h with
  | nil => intro a ha; cases ha
  | cons h _ ih =>
    intro a ha
    rw [List.flatten_cons] at ha
    rcases List.mem_append.mp ha with z | z
    · exact h.there a z
    · exact ih a z
theorem NRows.mono (h : NRows K G H vs As es) (x : Ex G G1) (k : ∀ a ∈ As.flatten, ∀ o, H a = some o → H1 a = some o) : NRows K G1 H1 vs As es := by
  induction h with
  | nil => exact .nil
  | cons h _ ih => exact .cons (h.mono x fun a ha => k a (by rw [List.flatten_cons]; exact List.mem_append_left _ ha)) (ih fun a ha => k a (by rw [List.flatten_cons]; exact List.mem_append_right _ ha))
theorem NRows.len (h : NRows K G H vs As es) : vs.length = es.length ∧ As.length = es.length := by
  induction h with
  | nil => exact ⟨rfl, rfl⟩
  | cons _ _ ih => exact ⟨by rw [List.length_cons, List.length_cons, ih.1], by rw [List.length_cons, List.length_cons, ih.2]⟩
end
section
variable {K : PySem.W.Frag} {G H G1 H1 : Hp} {v : V} {x : S}
theorem OwnAt.there (h : OwnAt K G H v x) : ∀ a ∈ x.fp v, ∃ o, H a = some o := by
  cases x with
  | dat d => exact h.elim
  | own ds =>
    obtain ⟨l, vs, rfl, h, _⟩ := h
    intro a ha
    rw [List.mem_singleton.mp (show a ∈ [l] from ha)]
    exact ⟨_, h⟩
  | obj y C fs =>
    obtain ⟨rfl, dx, gs, h, _⟩ := h
    intro a ha
    rw [List.mem_singleton.mp (show a ∈ [y] from ha)]
    exact ⟨_, h⟩
  | box y l C f r g ds =>
    obtain ⟨rfl, _, dx, u, vs, h, _, h2, _⟩ := h
    intro a ha
    rcases List.mem_cons.mp (show a ∈ [y, l] from ha) with z | z
    · rw [z]; exact ⟨_, h⟩
    · rw [List.mem_singleton.mp z]; exact ⟨_, h2⟩
  | nst l As es =>
    obtain ⟨rfl, _, vs, h, r⟩ := h
    intro a ha
    rcases List.mem_cons.mp (show a ∈ l :: As.flatten from ha) with z | z
    · rw [z]; exact ⟨_, h⟩
    · exact r.there a z
theorem OwnAt.mono (h : OwnAt K G H v x) (e : Ex G G1) (k : ∀ a ∈ x.fp v, ∀ o, H a = some o → H1 a = some o) : OwnAt K G1 H1 v x := by
  cases x with
  | dat d => exact h.elim
  | own ds => obtain ⟨l, vs, rfl, h, r⟩ := h; exact ⟨l, vs, rfl, k l (List.mem_singleton.mpr rfl) _ h, r.mono e⟩
  | obj y C fs => obtain ⟨rfl, dx, gs, h, r⟩ := h; exact ⟨rfl, dx, gs, k y (List.mem_singleton.mpr rfl) _ h, r.mono e⟩
  | box y l C f r g ds =>
    obtain ⟨rfl, ne, dx, u, vs, h, h1, h2, h3⟩ := h
    exact ⟨rfl, ne, dx, u, vs, k y (List.mem_cons_self) _ h, h1.mono e, k l (List.mem_cons_of_mem _ (List.mem_singleton.mpr rfl)) _ h2, h3.mono e⟩
  | nst l As es =>
    obtain ⟨rfl, nd, vs, h, r⟩ := h
    exact ⟨rfl, nd, vs, k l (List.mem_cons_self) _ h, r.mono e fun a ha => k a (List.mem_cons_of_mem _ ha)⟩
theorem OwnAt.mine (h : OwnAt K G H v x) : x.mine = true := by
  cases x with
  | dat d => exact h.elim
  | own ds => rfl
  | obj y C fs => rfl
  | box y l C f r g ds => rfl
  | nst l As es => rfl
end
structure Sl (K : PySem.W.Frag) (G0 H0 G H : Hp) (σ : L2.St) (ρ : Rho) : Prop where
  go : Go G0 H0 G H
  len : σ.length = ρ.length
  dat : ∀ (i : Nat) (d : D), ρ[i]? = some (some (.dat d)) → ∃ v, σ[i]? = some (some v) ∧ Rp K G v d
  mine : ∀ (i : Nat) (x : S), ρ[i]? = some (some x) → x.mine = true → ∃ v, σ[i]? = some (some v) ∧ (∀ a ∈ x.fp v, H0 a = none ∧ G a = none) ∧ OwnAt K G H v x
  sep : ∀ (i j : Nat) (x y : S) (v w : V), i ≠ j → ρ[i]? = some (some x) → x.mine = true → ρ[j]? = some (some y) → y.mine = true → σ[i]? = some (some v) → σ[j]? = some (some w) → ∀ a ∈ x.fp v, a ∉ y.fp w
section
variable {K : PySem.W.Frag} {G0 H0 G H G1 H1 : Hp} {σ : L2.St} {ρ : Rho}
theorem Sl.gh (s : Sl K G0 H0 G H σ ρ) : Ex G H := s.go.gh
theorem Sl.own (s : Sl K G0 H0 G H σ ρ) (i : Nat) (ds : List D) (e : ρ[i]? = some (some (.own ds))) : ∃ (l : Addr) (vs : List V), σ[i]? = some (some (.ref l)) ∧ H0 l = none ∧ G l = none ∧ H l = some (.lst vs) ∧ RpA K G vs ds := by
  obtain ⟨v, h1, h2, l, vs, rfl, h4, h5⟩ := s.mine i _ e rfl
  obtain ⟨a, b⟩ := h2 l (List.mem_singleton.mpr rfl)
  exact ⟨l, vs, h1, a, b, h4, h5⟩
theorem Sl.objAt (s : Sl K G0 H0 G H σ ρ) {i : Nat} {x C : Addr} {fs : List (Str × D)} (e : ρ[i]? = some (some (.obj x C fs))) : σ[i]? = some (some (.ref x)) ∧ H0 x = none ∧ G x = none ∧ ∃ dx gs, H x = some (.ins C dx gs) ∧ RpF K G gs fs := by
  obtain ⟨v, h1, h2, rfl, dx, gs, h4, h5⟩ := s.mine i _ e rfl
  obtain ⟨a, b⟩ := h2 x (List.mem_singleton.mpr rfl)
  exact ⟨h1, a, b, dx, gs, h4, h5⟩
theorem Sl.boxAt (s : Sl K G0 H0 G H σ ρ) {i : Nat} {x l C : Addr} {f g : Str} {r : D} {ds : List D} (e : ρ[i]? = some (some (.box x l C f r g ds))) : σ[i]? = some (some (.ref x)) ∧ (H0 x = none ∧ G x = none) ∧ (H0 l = none ∧ G l = none) ∧ x ≠ l ∧ ∃ dx u vs, H x = some (.ins C dx [(f, u), (g, .ref l)]) ∧ Rp K G u r ∧ H l = some (.lst vs) ∧ RpA K G vs ds := by
  obtain ⟨v, h1, h2, rfl, ne, h3⟩ := s.mine i _ e rfl
  exact ⟨h1, h2 x List.mem_cons_self, h2 l (List.mem_cons_of_mem _ (List.mem_singleton.mpr rfl)), ne, h3⟩
theorem Sl.step (s : Sl K G0 H0 G H σ ρ) (g : Go G H G1 H1) : Sl K G0 H0 G1 H1 σ ρ where
  go := s.go.trans g
  len := s.len
  dat := fun i d e => let ⟨v, h1, h2⟩ := s.dat i d e; ⟨v, h1, h2.mono g.gg⟩
  mine := fun i x e m => by
    obtain ⟨v, h1, h2, h4⟩ := s.mine i x e m
    exact ⟨v, h1, fun a ha => ⟨(h2 a ha).1, by
      obtain ⟨o, ho⟩ := h4.there a ha
      exact g.fr a (by rw [ho]; exact fun z => nomatch z) (h2 a ha).2⟩, h4.mono g.gg fun a _ o q => g.hh _ _ q⟩
  sep := s.sep
theorem set_get {α : Type} {l : List α} {i j : Nat} {a b : α} (h : (l.set i a)[j]? = some b) : (i = j ∧ i < l.length ∧ a = b) ∨ (i ≠ j ∧ l[j]? = some b) := by
  by_cases hj : i = j
  · subst hj
    have hi : i < l.length := by
      have := (List.getElem?_eq_some_iff.mp h).1
      simpa using this
    rw [List.getElem?_set_self hi] at h
    exact .inl ⟨rfl, hi, Option.some.inj h⟩
  · rw [List.getElem?_set_ne hj] at h
    exact .inr ⟨hj, h⟩
theorem Sl.set {i : Nat} {v : V} {d : D} (s : Sl K G0 H0 G H σ ρ) (r : Rp K G v d) : Sl K G0 H0 G H (σ.set i (some v)) (ρ.set i (some (.dat d))) := by
  refine ⟨s.go, by rw [List.length_set, List.length_set, s.len], fun j e q => ?_, fun j x q m => ?_, fun j k x y v' w' hjk q1 m1 q2 m2 h1 h2 => ?_⟩
  · rcases set_get q with ⟨rfl, hi, z⟩ | ⟨hj, q⟩
    · cases z
      exact ⟨v, by rw [List.getElem?_set_self (by rw [s.len]; exact hi)], r⟩
    · rw [List.getElem?_set_ne hj]
      exact s.dat j e q
  · rcases set_get q with ⟨rfl, hi, z⟩ | ⟨hj, q⟩
    · cases z
      cases m
    · rw [List.getElem?_set_ne hj]
      exact s.mine j x q m
  · rcases set_get q1 with ⟨rfl, hi, z⟩ | ⟨hj, q1⟩
    · cases z; cases m1
    rcases set_get q2 with ⟨rfl, hi, z⟩ | ⟨hk, q2⟩
    · cases z; cases m2
    rw [List.getElem?_set_ne hj] at h1
    rw [List.getElem?_set_ne hk] at h2
    exact s.sep j k x y v' w' hjk q1 m1 q2 m2 h1 h2
/-- a new thing of our own in a slot -/
theorem Sl.put {i : Nat} {v : V} {x : S} (s : Sl K G0 H0 G H σ ρ) (e : Ex H H1) (hn : ∀ a ∈ x.fp v, H a = none) (r : OwnAt K G H1 v x) :
    Sl K G0 H0 G H1 (σ.set i (some v)) (ρ.set i (some x)) := by
  have s2 := s.step (G1 := G) (H1 := H1) ⟨Ex.refl G, s.gh.trans e, e, fun _ _ q => q⟩
  have hx := r.mine
  have old : ∀ (j : Nat) (y : S) (w : V), ρ[j]? = some (some y) → y.mine = true → σ[j]? = some (some w) → ∀ a ∈ y.fp w, H a ≠ none := fun j y w q m z a ha => by
    obtain ⟨v', h1, _, h4⟩ := s.mine j y q m
    rw [h1] at z
    cases z
    obtain ⟨o, ho⟩ := h4.there a ha
    rw [ho]
    exact fun z => nomatch z
  refine ⟨s2.go, by rw [List.length_set, List.length_set, s.len], fun j e q => ?_, fun j y q m => ?_, fun j k y z v' w' hjk q1 m1 q2 m2 h1 h2 => ?_⟩
  · rcases set_get q with ⟨rfl, hi, z⟩ | ⟨hj, q⟩
    · cases z; cases hx
    · rw [List.getElem?_set_ne hj]
      exact s2.dat j e q
  · rcases set_get q with ⟨rfl, hi, z⟩ | ⟨hj, q⟩
    · cases z
      exact ⟨v, by rw [List.getElem?_set_self (by rw [s.len]; exact hi)], fun a ha => ⟨fresh_back s.go.hh (hn a ha), fresh_back s.gh (hn a ha)⟩, r⟩
    · rw [List.getElem?_set_ne hj]
      exact s2.mine j y q m
  · rcases set_get q1 with ⟨rfl, hi, z1⟩ | ⟨hj, q1⟩
    · rw [List.getElem?_set_self (by rw [s.len]; exact hi)] at h1
      cases z1
      cases h1
      rcases set_get q2 with ⟨rfl, _, _⟩ | ⟨hk, q2⟩
      · exact absurd rfl hjk
      rw [List.getElem?_set_ne hk] at h2
      exact fun a ha hb => old k z w' q2 m2 h2 a hb (hn a ha)
    · rw [List.getElem?_set_ne hj] at h1
      rcases set_get q2 with ⟨rfl, hi, z2⟩ | ⟨hk, q2⟩
      · rw [List.getElem?_set_self (by rw [s.len]; exact hi)] at h2
        cases z2
        cases h2
        exact fun a ha hb => old j y v' q1 m1 h1 a ha (hn a hb)
      · rw [List.getElem?_set_ne hk] at h2
        exact s.sep j k y z v' w' hjk q1 m1 q2 m2 h1 h2
theorem Sl.setO {i : Nat} {l : Addr} {vs : List V} {ds : List D} (s : Sl K G0 H0 G H σ ρ) (hn : H l = none) (r : RpA K G vs ds) :
    Sl K G0 H0 G (upd H l (.lst vs)) (σ.set i (some (.ref l))) (ρ.set i (some (.own ds))) :=
  s.put (Ex.new hn) (fun a ha => by rw [List.mem_singleton.mp (show a ∈ [l] from ha)]; exact hn) ⟨l, vs, rfl, upd_same, r⟩
/-- our own thing is changed, in its footprint alone -/
theorem Sl.mutM {i : Nat} {v : V} {x y : S} (s : Sl K G0 H0 G H σ ρ) (hi : ρ[i]? = some (some x)) (hm : x.mine = true) (hl : σ[i]? = some (some v)) (hf : y.fp v = x.fp v) (k : ∀ a o, a ∉ x.fp v → H a = some o → H1 a = some o) (r : OwnAt K G H1 v y) :
    Sl K G0 H0 G H1 σ (ρ.set i (some y)) := by
  obtain ⟨v', h1, h2, h4⟩ := s.mine i x hi hm
  rw [hl] at h1
  cases h1
  have hlt : i < ρ.length := (List.getElem?_eq_some_iff.mp hi).1
  have hy := r.mine
  refine ⟨⟨s.go.gg, fun a o e => k a o (fun z => by rw [(h2 a z).2] at e; cases e) (s.gh a o e), fun a o e => k a o (fun z => by rw [(h2 a z).1] at e; cases e) (s.go.hh a o e), s.go.fr⟩, by rw [List.length_set, s.len], fun j e q => ?_, fun j z q m => ?_, fun j n z w v' w' hjk q1 m1 q2 m2 g1 g2 => ?_⟩
  · rcases set_get q with ⟨rfl, _, z⟩ | ⟨hj, q⟩
    · cases z; cases hy
    · exact s.dat j e q
  · rcases set_get q with ⟨rfl, _, z⟩ | ⟨hj, q⟩
    · cases z
      exact ⟨v, hl, fun a ha => h2 a (by rw [← hf]; exact ha), r⟩
    · obtain ⟨u, g1, g2, g4⟩ := s.mine j z q m
      exact ⟨u, g1, g2, g4.mono (Ex.refl G) fun a ha o q2 => k a o (fun hb => s.sep i j x z v u hj hi hm q m hl g1 a hb ha) q2⟩
  · have back : ∀ (j : Nat) (z : S) (u : V), (ρ.set i (some y))[j]? = some (some z) → z.mine = true → σ[j]? = some (some u) → ∃ z', ρ[j]? = some (some z') ∧ z'.mine = true ∧ z.fp u = z'.fp u := fun j z u q m hu => by
      rcases set_get q with ⟨rfl, _, e⟩ | ⟨hj, q⟩
      · cases e
        rw [hl] at hu
        cases hu
        exact ⟨x, hi, hm, hf⟩
      · exact ⟨z, q, m, rfl⟩
    obtain ⟨z1, p1, p2, p5⟩ := back j z v' q1 m1 g1
    obtain ⟨z2, p3, p4, p6⟩ := back n w w' q2 m2 g2
    rw [p5, p6]
    exact s.sep j n z1 z2 v' w' hjk p1 p2 p3 p4 g1 g2
theorem Sl.mut {i : Nat} {l : Addr} {vs vs' : List V} {ds ds' : List D} (s : Sl K G0 H0 G H σ ρ) (hi : ρ[i]? = some (some (.own ds))) (hl : σ[i]? = some (some (.ref l))) (r : RpA K G vs' ds') :
    Sl K G0 H0 G (upd H l (.lst vs')) σ (ρ.set i (some (.own ds'))) :=
  s.mutM hi rfl hl rfl (fun a o ha e => by rw [upd_ne (fun z => ha (List.mem_singleton.mpr z))]; exact e) ⟨l, vs', rfl, upd_same, r⟩
theorem Sl.mutObj {i : Nat} {x C dx : Addr} {fs fs' : List (Str × D)} {gs' : List (Str × V)} (s : Sl K G0 H0 G H σ ρ) (hi : ρ[i]? = some (some (.obj x C fs))) (r : RpF K G gs' fs') :
    Sl K G0 H0 G (upd H x (.ins C dx gs')) σ (ρ.set i (some (.obj x C fs'))) :=
  s.mutM hi rfl (s.objAt hi).1 rfl (fun a o ha e => by rw [upd_ne (fun z => ha (List.mem_singleton.mpr z))]; exact e) ⟨rfl, dx, gs', upd_same, r⟩
theorem Sl.mutBox {i : Nat} {x l C : Addr} {f g : Str} {r : D} {ds ds' : List D} {vs' : List V} (s : Sl K G0 H0 G H σ ρ) (hi : ρ[i]? = some (some (.box x l C f r g ds))) (rr : RpA K G vs' ds') :
    Sl K G0 H0 G (upd H l (.lst vs')) σ (ρ.set i (some (.box x l C f r g ds'))) := by
  obtain ⟨h1, _, _, ne, dx, u, vs, h2, h3, h4, h5⟩ := s.boxAt hi
  exact s.mutM hi rfl h1 rfl (fun a o ha e => by rw [upd_ne (fun z => ha (List.mem_cons_of_mem _ (List.mem_singleton.mpr z)))]; exact e) ⟨rfl, ne, dx, u, vs', by rw [upd_ne ne]; exact h2, h3, upd_same, rr⟩
/-- forgetting -/
theorem Sl.weak {ρ' : Rho} (s : Sl K G0 H0 G H σ ρ) (hl : ρ'.length = ρ.length) (h : ∀ (i : Nat) (x : S), ρ'[i]? = some (some x) → ρ[i]? = some (some x)) : Sl K G0 H0 G H σ ρ' :=
  ⟨s.go, s.len.trans hl.symm, fun i d e => s.dat i d (h i _ e), fun i d e => s.mine i d (h i _ e), fun i j x y v w hij p m q n => s.sep i j x y v w hij (h i _ p) m (h j _ q) n⟩
/-- an own list is given up: it stands still from here -/
theorem Sl.freeze {i : Nat} {ds : List D} (s : Sl K G0 H0 G H σ ρ) (hi : ρ[i]? = some (some (.own ds))) : ∃ G', Ex G G' ∧ Sl K G0 H0 G' H σ (ρ.set i (some (.dat (.lst ds)))) := by
  obtain ⟨l, vs, h1, h2, h3, h4, h5⟩ := s.own i ds hi
  have hlt : i < ρ.length := (List.getElem?_eq_some_iff.mp hi).1
  have eg : Ex G (upd G l (.lst vs)) := Ex.new h3
  refine ⟨upd G l (.lst vs), eg, ⟨s.go.gg.trans eg, fun a u e => ?_, s.go.hh, fun a ha hg => ?_⟩, by rw [List.length_set, s.len], fun j e q => ?_, fun j z q m => ?_, fun j k z w v' w' hjk q1 m1 q2 m2 g1 g2 => ?_⟩
  · by_cases al : a = l
    · subst al; rw [upd_same] at e; rw [← e]; exact h4
    · rw [upd_ne al] at e; exact s.gh a u e
  · rw [upd_ne (b := a) (a := l) (fun z => ha (by rw [z]; exact h2))]; exact s.go.fr a ha hg
  · rcases set_get q with ⟨rfl, _, z⟩ | ⟨hj, q⟩
    · cases z
      exact ⟨.ref l, h1, .lst (.inl (.inl upd_same)) (h5.mono eg)⟩
    · obtain ⟨v, g1, g2⟩ := s.dat j e q
      exact ⟨v, g1, g2.mono eg⟩
  · rcases set_get q with ⟨rfl, _, z⟩ | ⟨hj, q⟩
    · cases z; cases m
    · obtain ⟨u, g1, g2, g4⟩ := s.mine j z q m
      exact ⟨u, g1, fun a ha => ⟨(g2 a ha).1, by
        rw [upd_ne (fun e => s.sep i j _ z _ u hj hi rfl q m h1 g1 l (List.mem_singleton.mpr rfl) (by rw [← e]; exact ha))]
        exact (g2 a ha).2⟩, g4.mono eg fun a _ o q => q⟩
  · have back : ∀ (j : Nat) (z : S), (ρ.set i (some (.dat (.lst ds))))[j]? = some (some z) → z.mine = true → ρ[j]? = some (some z) := fun j z q m => by
      rcases set_get q with ⟨rfl, _, e⟩ | ⟨hj, q⟩
      · cases e; cases m
      · exact q
    exact s.sep j k z w v' w' hjk (back j z q1 m1) m1 (back k w q2 m2) m2 g1 g2
end
end Ax

namespace Ax
open PySem L2 Evl

/-! ### what an expression evaluates to, from the slots alone -/
def EvD (K : PySem.W.Frag) (te : TE) (ρ : Rho) (d : D) : Prop := ∀ G0 H0 G H σ (Q : VK), Sl K G0 H0 G H σ ρ → (∀ v G' H', Go G H G' H' → Rp K G' v d → Q v H') → te σ H Q
/-- to be read at once -/
def EvR (K : PySem.W.Frag) (te : TE) (ρ : Rho) (d : D) : Prop := ∀ G0 H0 G H σ (Q : VK), Sl K G0 H0 G H σ ρ → (∀ v G' H', Go G H G' H' → Rp K H' v d → Q v H') → te σ H Q
/-- a new list -/
def EvN (K : PySem.W.Frag) (te : TE) (ρ : Rho) (ds : List D) : Prop := ∀ G0 H0 G H σ (Q : VK), Sl K G0 H0 G H σ ρ → (∀ l vs G' H', Go G H G' H' → H' l = none → RpA K G' vs ds → Q (.ref l) (upd H' l (.lst vs))) → te σ H Q
def EvB (K : PySem.W.Frag) (tt : TT) (ρ : Rho) (b : Bool) : Prop := ∀ G0 H0 G H σ (Q : Bool → Hp → Prop), Sl K G0 H0 G H σ ρ → (∀ G' H', Go G H G' H' → Q b H') → tt σ H Q
def EvS (K : PySem.W.Frag) (ta : TA) (ρ : Rho) (ds : List D) : Prop := ∀ G0 H0 G H σ (Q : List V → Hp → Prop), Sl K G0 H0 G H σ ρ → (∀ vs G' H', Go G H G' H' → RpA K G' vs ds → Q vs H') → ta σ H Q
def EvSR (K : PySem.W.Frag) (ta : TA) (ρ : Rho) (ds : List D) : Prop := ∀ G0 H0 G H σ (Q : List V → Hp → Prop), Sl K G0 H0 G H σ ρ → (∀ vs G' H', Go G H G' H' → RpA K H' vs ds → Q vs H') → ta σ H Q
def EvO (K : PySem.W.Frag) (to : TO) (ρ : Rho) (o : Option Int) : Prop := ∀ G0 H0 G H σ (Q : Option Int → Hp → Prop), Sl K G0 H0 G H σ ρ → (∀ G' H', Go G H G' H' → Q o H') → to σ H Q
/-- operations on values: what stands still, a scalar of what may be read, a new list -/
def RvD (K : PySem.W.Frag) (r : R2) (a b d : D) : Prop := ∀ G H x y (Q : VK), Ex G H → Rp K G x a → Rp K G y b → (∀ v G' H', Go G H G' H' → Rp K G' v d → Q v H') → r x y H Q
def RvS (K : PySem.W.Frag) (r : R2) (a b d : D) : Prop := ∀ H x y (Q : VK), Rp K H x a → Rp K H y b → (∀ v, (∀ G, Rp K G v d) → Q v H) → r x y H Q
def RcD (K : PySem.W.Frag) (r : List V → Hp → VK → Prop) (as : List D) (d : D) : Prop := ∀ G H vs (Q : VK), Ex G H → RpA K G vs as → (∀ v G' H', Go G H G' H' → Rp K G' v d → Q v H') → r vs H Q
def RcS (K : PySem.W.Frag) (r : List V → Hp → VK → Prop) (as : List D) (d : D) : Prop := ∀ H vs (Q : VK), RpA K H vs as → (∀ v, (∀ G, Rp K G v d) → Q v H) → r vs H Q
def RcN (K : PySem.W.Frag) (r : List V → Hp → VK → Prop) (as ds : List D) : Prop := ∀ G H vs (Q : VK), Ex G H → RpA K G vs as → (∀ l ws G' H', Go G H G' H' → H' l = none → RpA K G' ws ds → Q (.ref l) (upd H' l (.lst ws))) → r vs H Q

section
variable {K : PySem.W.Frag} {ρ : Rho} {ta tb tc te : TE} {a b c d : D} {ds es : List D} {rr : R2}
theorem EvD.rd (h : EvD K te ρ d) : EvR K te ρ d := fun G0 H0 G H σ Q s q => h G0 H0 G H σ Q s fun v G' H' g z => q v G' H' g (z.mono g.gh)
theorem EvN.dt (h : EvN K te ρ ds) : EvD K te ρ (.lst ds) := fun G0 H0 G H σ Q s q => h G0 H0 G H σ Q s fun l vs G' H' g hl z => by
  have n := Go.new (o := .lst vs) g.gh hl
  exact q (.ref l) _ _ (g.trans n) (.lst (.inl (.inl upd_same)) (z.mono n.gg))
theorem EvN.rd (h : EvN K te ρ ds) : EvR K te ρ (.lst ds) := h.dt.rd
theorem EvS.rd {ta : TA} (h : EvS K ta ρ ds) : EvSR K ta ρ ds := fun G0 H0 G H σ Q s q => h G0 H0 G H σ Q s fun v G' H' g z => q v G' H' g (z.mono g.gh)
theorem EvD.pt (h : EvD K te ρ (.ptup ds)) : EvD K te ρ (.tup ds) := fun G0 H0 G H σ Q s q => h G0 H0 G H σ Q s fun v G' H' g z => q v G' H' g z.pt
theorem ev_v {i : Nat} (h : ρ[i]? = some (some (.dat d))) : EvD K (tVar i) ρ d := fun G0 H0 G H σ Q s q => by
  obtain ⟨v, h1, h2⟩ := s.dat i d h
  exact ⟨v, h1, q v G H (Go.refl s.gh) h2⟩
theorem ev_vo {i : Nat} (h : ρ[i]? = some (some (.own ds))) : EvR K (tVar i) ρ (.lst ds) := fun G0 H0 G H σ Q s q => by
  obtain ⟨l, vs, h1, h2, h3, h4, h5⟩ := s.own i ds h
  exact ⟨.ref l, h1, q _ G H (Go.refl s.gh) (.lst (.inl (.inl h4)) (h5.mono s.gh))⟩
theorem ev_ci {i : Int} : EvD K (tC (.int i)) ρ (.int i) := fun G0 H0 G H σ Q s q => q _ G H (Go.refl s.gh) (.int i)
theorem ev_cs {i : Str} : EvD K (tC (.str i)) ρ (.str i) := fun G0 H0 G H σ Q s q => q _ G H (Go.refl s.gh) (.str i)
theorem ev_cb {i : Bool} : EvD K (tC (.bl i)) ρ (.bl i) := fun G0 H0 G H σ Q s q => q _ G H (Go.refl s.gh) (.bl i)
theorem ev_cn : EvD K (tC .non) ρ .non := fun G0 H0 G H σ Q s q => q _ G H (Go.refl s.gh) .non
theorem ev_cc {v : V} : EvD K (tC v) ρ (.cls v) := fun G0 H0 G H σ Q s q => q _ G H (Go.refl s.gh) (.cls v)
theorem ev_op (ha : EvD K ta ρ a) (hb : EvD K tb ρ b) (hr : RvD K rr a b d) : EvD K (tOp rr ta tb) ρ d := fun G0 H0 G H σ Q s q =>
  ha G0 H0 G H σ _ s fun x G1 H1 g1 r1 => hb G0 H0 G1 H1 σ _ (s.step g1) fun y G2 H2 g2 r2 => hr G2 H2 x y Q g2.gh (r1.mono g2.gg) r2 fun v G3 H3 g3 r3 => q v G3 H3 ((g1.trans g2).trans g3) r3
theorem ev_opS (ha : EvR K ta ρ a) (hb : EvR K tb ρ b) (hr : RvS K rr a b d) : EvD K (tOp rr ta tb) ρ d := fun G0 H0 G H σ Q s q =>
  ha G0 H0 G H σ _ s fun x G1 H1 g1 r1 => hb G0 H0 G1 H1 σ _ (s.step g1) fun y G2 H2 g2 r2 => hr H2 x y Q (r1.mono g2.hh) r2 fun v r3 => q v G2 H2 (g1.trans g2) (r3 G2)
theorem es_nil : EvS K tNil ρ [] := fun G0 H0 G H σ Q s q => q [] G H (Go.refl s.gh) .nil
theorem es_cons {tr : TA} (ha : EvD K ta ρ a) (hr : EvS K tr ρ ds) : EvS K (tCons ta tr) ρ (a :: ds) := fun G0 H0 G H σ Q s q =>
  ha G0 H0 G H σ _ s fun x G1 H1 g1 r1 => hr G0 H0 G1 H1 σ _ (s.step g1) fun vs G2 H2 g2 r2 => q _ G2 H2 (g1.trans g2) (.cons (r1.mono g2.gg) r2)
theorem er_nil : EvSR K tNil ρ [] := es_nil.rd
theorem er_cons {tr : TA} (ha : EvR K ta ρ a) (hr : EvSR K tr ρ ds) : EvSR K (tCons ta tr) ρ (a :: ds) := fun G0 H0 G H σ Q s q =>
  ha G0 H0 G H σ _ s fun x G1 H1 g1 r1 => hr G0 H0 G1 H1 σ _ (s.step g1) fun vs G2 H2 g2 r2 => q _ G2 H2 (g1.trans g2) (.cons (r1.mono g2.hh) r2)
theorem ev_tup {t : TA} (h : EvS K t ρ ds) (hl : ds.length ≤ 100000) : EvD K (tTup t) ρ (.tup ds) := fun G0 H0 G H σ Q s q =>
  h G0 H0 G H σ _ s fun vs G1 H1 g1 r1 => ⟨by rw [r1.length]; exact sz_of hl, fun p hp => by
    have n := Go.new (o := .tup vs) g1.gh hp
    exact q (.ref p) _ _ (g1.trans n) (.tup (.inl (.inl upd_same)) (r1.mono n.gg))⟩
theorem en_lst {t : TA} (h : EvS K t ρ ds) (hl : ds.length ≤ 100000) : EvN K (tLst t) ρ ds := fun G0 H0 G H σ Q s q =>
  h G0 H0 G H σ _ s fun vs G1 H1 g1 r1 => ⟨by rw [r1.length]; exact sz_of hl, fun p hp => q p vs G1 H1 g1 hp r1⟩
/-! ### tests -/
variable {t u : TT} {p q : Bool}
theorem eb_test (h : EvD K te ρ (.bl p)) : EvB K (tTest te) ρ p := fun G0 H0 G H σ Q s q => h G0 H0 G H σ _ s fun v G1 H1 g1 r1 => by cases r1; exact ⟨p, rfl, q G1 H1 g1⟩
theorem eb_B (h : EvD K te ρ (.bl p)) : EvB K (tB te) ρ p := fun G0 H0 G H σ Q s q => h G0 H0 G H σ _ s fun v G1 H1 g1 r1 => by cases r1; exact ⟨p, rfl, q G1 H1 g1⟩
theorem eb_and (h1 : EvB K t ρ p) (h2 : p = true → EvB K u ρ q) : EvB K (tAnd t u) ρ (p && q) := fun G0 H0 G H σ Q s k => h1 G0 H0 G H σ _ s fun G1 H1 g1 => by
  cases p with
  | true =>
    show u σ H1 Q
    exact h2 rfl G0 H0 G1 H1 σ Q (s.step g1) fun G2 H2 g2 => k G2 H2 (g1.trans g2)
  | false =>
    show Q false H1
    exact k G1 H1 g1
theorem eb_or (h1 : EvB K t ρ p) (h2 : p = false → EvB K u ρ q) : EvB K (tOr t u) ρ (p || q) := fun G0 H0 G H σ Q s k => h1 G0 H0 G H σ _ s fun G1 H1 g1 => by
  cases p with
  | true =>
    show Q true H1
    exact k G1 H1 g1
  | false =>
    show u σ H1 Q
    exact h2 rfl G0 H0 G1 H1 σ Q (s.step g1) fun G2 H2 g2 => k G2 H2 (g1.trans g2)
theorem eb_not (h : EvB K t ρ p) : EvB K (tNot t) ρ (!p) := fun G0 H0 G H σ Q s k => h G0 H0 G H σ _ s fun G1 H1 g1 => k G1 H1 g1
theorem eb_is (h : EvB K t ρ p) (e : p = q) : EvB K t ρ q := e ▸ h
theorem ev_is (h : EvD K te ρ a) (e : a = b) : EvD K te ρ b := e ▸ h
theorem ev_andV (h1 : EvD K ta ρ (.bl p)) (h2 : p = true → EvD K tb ρ (.bl q)) : EvD K (tAndV ta tb) ρ (.bl (p && q)) := fun G0 H0 G H σ Q s k => h1 G0 H0 G H σ _ s fun v G1 H1 g1 r1 => by
  cases r1
  refine ⟨p, rfl, ?_⟩
  cases p with
  | true =>
    show tb σ H1 Q
    exact h2 rfl G0 H0 G1 H1 σ Q (s.step g1) fun v G2 H2 g2 r2 => k v G2 H2 (g1.trans g2) r2
  | false =>
    show Q (.bl false) H1
    exact k _ G1 H1 g1 (.bl false)
theorem ev_orV (h1 : EvD K ta ρ (.bl p)) (h2 : p = false → EvD K tb ρ (.bl q)) : EvD K (tOrV ta tb) ρ (.bl (p || q)) := fun G0 H0 G H σ Q s k => h1 G0 H0 G H σ _ s fun v G1 H1 g1 r1 => by
  cases r1
  refine ⟨p, rfl, ?_⟩
  cases p with
  | true =>
    show Q (.bl true) H1
    exact k _ G1 H1 g1 (.bl true)
  | false =>
    show tb σ H1 Q
    exact h2 rfl G0 H0 G1 H1 σ Q (s.step g1) fun v G2 H2 g2 r2 => k v G2 H2 (g1.trans g2) r2
theorem ev_notV (h1 : EvD K ta ρ (.bl p)) : EvD K (tNotV ta) ρ (.bl (!p)) := fun G0 H0 G H σ Q s k => h1 G0 H0 G H σ _ s fun v G1 H1 g1 r1 => by
  cases r1
  exact ⟨p, rfl, k _ G1 H1 g1 (.bl _)⟩
theorem ev_if (h : EvB K t ρ p) (h1 : p = true → EvD K ta ρ a) (h2 : p = false → EvD K tb ρ a) : EvD K (tIf t ta tb) ρ a := fun G0 H0 G H σ Q s k => h G0 H0 G H σ _ s fun G1 H1 g1 => by
  cases p with
  | true =>
    show ta σ H1 Q
    exact h1 rfl G0 H0 G1 H1 σ Q (s.step g1) fun v G2 H2 g2 r2 => k v G2 H2 (g1.trans g2) r2
  | false =>
    show tb σ H1 Q
    exact h2 rfl G0 H0 G1 H1 σ Q (s.step g1) fun v G2 H2 g2 r2 => k v G2 H2 (g1.trans g2) r2
theorem ev_cbD {rc : List V → Hp → VK → Prop} {ta : TA} (h : EvS K ta ρ ds) (hr : RcD K rc ds d) : EvD K (tCB rc ta) ρ d := fun G0 H0 G H σ Q s k =>
  h G0 H0 G H σ _ s fun vs G1 H1 g1 r1 => hr G1 H1 vs Q g1.gh r1 fun v G2 H2 g2 r2 => k v G2 H2 (g1.trans g2) r2
theorem ev_cbS {rc : List V → Hp → VK → Prop} {ta : TA} (h : EvSR K ta ρ ds) (hr : RcS K rc ds d) : EvD K (tCB rc ta) ρ d := fun G0 H0 G H σ Q s k =>
  h G0 H0 G H σ _ s fun vs G1 H1 g1 r1 => hr H1 vs Q r1 fun v r2 => k v G1 H1 g1 (r2 G1)
theorem en_cb {rc : List V → Hp → VK → Prop} {ta : TA} (h : EvS K ta ρ ds) (hr : RcN K rc ds es) : EvN K (tCB rc ta) ρ es := fun G0 H0 G H σ Q s k =>
  h G0 H0 G H σ _ s fun vs G1 H1 g1 r1 => hr G1 H1 vs Q g1.gh r1 fun l ws G2 H2 g2 hl r2 => k l ws G2 H2 (g1.trans g2) hl r2
/-! ### chains -/
def RvB (K : PySem.W.Frag) (r : R2) (a b : D) (p : Bool) : Prop := RvS K r a b (.bl p)
theorem ev_chain {r r' : R2} (ha : EvD K ta ρ a) (hb : EvD K tb ρ b) (hr : RvS K r a b (.bl p)) (hc : p = true → EvD K tc ρ c) (hr' : p = true → RvS K r' b c (.bl q)) : EvD K (tChain r r' ta tb tc) ρ (.bl (p && q)) := fun G0 H0 G H σ Q s k =>
  ha G0 H0 G H σ _ s fun x G1 H1 g1 r1 => hb G0 H0 G1 H1 σ _ (s.step g1) fun y G2 H2 g2 r2 => hr H2 x y _ (r1.mono (g2.gg.trans g2.gh)) (r2.mono g2.gh) fun v r3 => by
    have r3 := r3 G2
    cases r3
    refine ⟨p, rfl, ?_⟩
    cases p with
    | true =>
      show tc σ H2 _
      refine hc rfl G0 H0 G2 H2 σ _ (s.step (g1.trans g2)) fun z G3 H3 g3 r4 => hr' rfl H3 y z Q (r2.mono (g3.gg.trans g3.gh)) (r4.mono g3.gh) fun v r5 => k v G3 H3 ((g1.trans g2).trans g3) (r5 G3)
    | false =>
      show Q (.bl false) H2
      exact k _ G2 H2 (g1.trans g2) (.bl false)
end

/-! ### statements -/
inductive Out where
  | nx (ρ : Rho) | rt (d : D) | bk (ρ : Rho) | ct (ρ : Rho)
def Post (K : PySem.W.Frag) (G0 H0 G : Hp) (W : Ends) : Out → Prop
  | .nx ρ' => ∀ G' H' σ', Ex G G' → Sl K G0 H0 G' H' σ' ρ' → W.nx σ' H'
  | .rt d => ∀ v G' H', Go G0 H0 G' H' → Rp K G' v d → W.rt v H'
  | .bk ρ' => ∀ G' H' σ', Ex G G' → Sl K G0 H0 G' H' σ' ρ' → W.bk σ' H'
  | .ct ρ' => ∀ G' H' σ', Ex G G' → Sl K G0 H0 G' H' σ' ρ' → W.ct σ' H'
def StD (K : PySem.W.Frag) (t : TS) (ρ : Rho) (o : Out) : Prop := ∀ G0 H0 G H σ (W : Ends), Sl K G0 H0 G H σ ρ → Post K G0 H0 G W o → t W σ H
section
variable {K : PySem.W.Frag} {ρ ρ' : Rho} {ta tb tc te : TE} {a b c d : D} {ds es : List D} {t u : TS} {o : Out} {c : TT} {p : Bool} {i : Nat}
theorem Post.mono {G0 H0 G G1 : Hp} {W : Ends} {o : Out} (e : Ex G G1) (h : Post K G0 H0 G W o) : Post K G0 H0 G1 W o := by
  cases o with
  | nx ρ' => exact fun G' H' σ' e1 s => h G' H' σ' (e.trans e1) s
  | rt d => exact h
  | bk ρ' => exact fun G' H' σ' e1 s => h G' H' σ' (e.trans e1) s
  | ct ρ' => exact fun G' H' σ' e1 s => h G' H' σ' (e.trans e1) s
theorem sd_seq (h1 : StD K t ρ (.nx ρ')) (h2 : StD K u ρ' o) : StD K (tSeq t u) ρ o := fun G0 H0 G H σ W s k =>
  h1 G0 H0 G H σ { W with nx := u W } s fun G' H' σ' e s' => h2 G0 H0 G' H' σ' W s' (k.mono e)
theorem sd_seqR (h1 : StD K t ρ (.rt d)) : StD K (tSeq t u) ρ (.rt d) := fun G0 H0 G H σ W s k => h1 G0 H0 G H σ { W with nx := u W } s k
theorem sd_seqB (h1 : StD K t ρ (.bk ρ')) : StD K (tSeq t u) ρ (.bk ρ') := fun G0 H0 G H σ W s k => h1 G0 H0 G H σ { W with nx := u W } s k
theorem sd_seqC (h1 : StD K t ρ (.ct ρ')) : StD K (tSeq t u) ρ (.ct ρ') := fun G0 H0 G H σ W s k => h1 G0 H0 G H σ { W with nx := u W } s k
theorem sd_next : StD K tNext ρ (.nx ρ) := fun G0 H0 G H σ W s k => k G H σ (Ex.refl G) s
theorem sd_brk : StD K tBreak ρ (.bk ρ) := fun G0 H0 G H σ W s k => k G H σ (Ex.refl G) s
theorem sd_cont : StD K tCont ρ (.ct ρ) := fun G0 H0 G H σ W s k => k G H σ (Ex.refl G) s
theorem sd_asg (h : EvD K te ρ d) : StD K (tAsg te (gName i)) ρ (.nx (ρ.set i (some (.dat d)))) := fun G0 H0 G H σ W s k =>
  h G0 H0 G H σ _ s fun v G1 H1 g1 r1 => k G1 H1 _ g1.gg ((s.step g1).set r1)
theorem sd_asgN (h : EvN K te ρ ds) : StD K (tAsg te (gName i)) ρ (.nx (ρ.set i (some (.own ds)))) := fun G0 H0 G H σ W s k =>
  h G0 H0 G H σ _ s fun l vs G1 H1 g1 hl r1 => k G1 _ _ g1.gg ((s.step g1).setO hl r1)
theorem sd_ret (h : EvD K te ρ d) : StD K (tRet te) ρ (.rt d) := fun G0 H0 G H σ W s k =>
  h G0 H0 G H σ _ s fun v G1 H1 g1 r1 => k v G1 H1 (s.go.trans g1) r1
/-- an own list handed back -/
theorem sd_retO (h : ρ[i]? = some (some (.own ds))) : StD K (tRet (tVar i)) ρ (.rt (.lst ds)) := fun G0 H0 G H σ W s k => by
  obtain ⟨G', _, s'⟩ := s.freeze h
  obtain ⟨v, h1, r1⟩ := s'.dat i (.lst ds) (by rw [List.getElem?_set_self (List.getElem?_eq_some_iff.mp h).1])
  exact ⟨v, h1, k v G' H s'.go r1⟩
theorem sd_retN : StD K tRetN ρ (.rt .non) := fun G0 H0 G H σ W s k => k .non G H s.go .non
theorem sd_drop (h : EvD K te ρ d) : StD K (tDrop te) ρ (.nx ρ) := fun G0 H0 G H σ W s k => h G0 H0 G H σ _ s fun v G1 H1 g1 _ => k G1 H1 σ g1.gg (s.step g1)
theorem sd_if (h : EvB K c ρ p) (h1 : p = true → StD K t ρ o) (h2 : p = false → StD K u ρ o) : StD K (tIfS c t u) ρ o := fun G0 H0 G H σ W s k =>
  h G0 H0 G H σ _ s fun G1 H1 g1 => by
    cases p with
    | true =>
      show t W σ H1
      exact h1 rfl G0 H0 G1 H1 σ W (s.step g1) (k.mono g1.gg)
    | false =>
      show u W σ H1
      exact h2 rfl G0 H0 G1 H1 σ W (s.step g1) (k.mono g1.gg)
theorem sd_T (h : EvB K c ρ true) (h1 : StD K t ρ o) : StD K (tIfS c t u) ρ o := sd_if h (fun _ => h1) (fun z => nomatch z)
theorem sd_F (h : EvB K c ρ false) (h1 : StD K u ρ o) : StD K (tIfS c t u) ρ o := sd_if h (fun z => nomatch z) (fun _ => h1)
theorem sd_ifp (h : EvB K c ρ p) (e : p = true) (k : StD K t ρ o) : StD K (tIfS c t u) ρ o := by subst e; exact sd_T h k
theorem sd_ifn (h : EvB K c ρ p) (e : p = false) (k : StD K u ρ o) : StD K (tIfS c t u) ρ o := by subst e; exact sd_F h k
theorem sd_retI {d' : D} (h : EvD K te ρ d) (e : d = d') : StD K (tRet te) ρ (.rt d') := by subst e; exact sd_ret h
theorem sd_weak {ρ'' : Rho} (h : StD K t ρ (.nx ρ')) (hl : ρ''.length = ρ'.length) (hw : ∀ (i : Nat) (x : S), ρ''[i]? = some (some x) → ρ'[i]? = some (some x)) : StD K t ρ (.nx ρ'') := fun G0 H0 G H σ W s k =>
  h G0 H0 G H σ W s fun G' H' σ' e s' => k G' H' σ' e (s'.weak hl hw)
/-- an own list stands still from here -/
theorem sd_freeze (h : ρ[i]? = some (some (.own ds))) (h1 : StD K t (ρ.set i (some (.dat (.lst ds)))) o) : StD K t ρ o := fun G0 H0 G H σ W s k => by
  obtain ⟨G', e, s'⟩ := s.freeze h
  exact h1 G0 H0 G' H σ W s' (k.mono e)
/-- xs.append(e), xs our own -/
theorem sd_app (h : EvD K te ρ d) (ho : ρ[i]? = some (some (.own ds))) (hz : ds.length < 100000) : StD K (tDrop (tBM K "list" rAppend (tVar i) (tCons te tNil))) ρ (.nx (ρ.set i (some (.own (ds ++ [d]))))) := fun G0 H0 G H σ W s k => by
  obtain ⟨l, vs, h1, h2, h3, h4, h5⟩ := s.own i ds ho
  refine ⟨.ref l, h1, .inl ⟨rfl, vs, .inl (.inl h4)⟩, ?_⟩
  refine h G0 H0 G H σ _ s fun v G1 H1 g1 r1 => ?_
  refine ⟨l, vs, v, rfl, rfl, g1.hh _ _ h4, by rw [h5.length]; exact sz_lt hz, ?_⟩
  exact k G1 _ _ g1.gg ((s.step g1).mut (vs := vs) ho h1 ((h5.mono g1.gg).append (.cons r1 .nil)))
/-- xs[j] = e, xs our own -/
theorem sd_setix {ti : TE} {j : Nat} {k0 : Int} (h : EvD K te ρ d) (hi : EvD K ti ρ (.int k0)) (ho : ρ[i]? = some (some (.own ds))) (hj : ixN ds.length k0 = some j) : StD K (tAsg te (gSub (tVar i) ti rSetL)) ρ (.nx (ρ.set i (some (.own (ds.set j d))))) := fun G0 H0 G H σ W s k => by
  refine h G0 H0 G H σ _ s fun v G1 H1 g1 r1 => ?_
  obtain ⟨l, vs, h1, h2, h3, h4, h5⟩ := (s.step g1).own i ds ho
  refine ⟨.ref l, h1, ?_⟩
  refine hi G0 H0 G1 H1 σ _ (s.step g1) fun w G2 H2 g2 r2 => ?_
  cases r2
  refine ⟨l, vs, k0, j, rfl, rfl, g2.hh _ _ h4, by rw [h5.length]; exact hj, ?_⟩
  exact k G2 _ _ (g1.gg.trans g2.gg) ((s.step (g1.trans g2)).mut (vs := vs) ho h1 (RpA.set (r1.mono g2.gg) j (h5.mono g2.gg)))
/-! ### loops -/
/-- what a turn comes to where the loop goes on -/
def Turn (K : PySem.W.Frag) (t : TS) (ρ : Rho) (ρ' : Rho) : Prop := StD K t ρ (.nx ρ') ∨ StD K t ρ (.ct ρ')
theorem Turn.run (h : Turn K t ρ ρ') {G0 H0 G H : Hp} {σ : L2.St} {W : Ends} {N : L2.St → Hp → Prop} (s : Sl K G0 H0 G H σ ρ) (k : ∀ G' H' σ', Ex G G' → Sl K G0 H0 G' H' σ' ρ' → N σ' H') : t { W with nx := N, ct := N, bk := W.nx } σ H := by
  rcases h with h | h
  · exact h G0 H0 G H σ { W with nx := N, ct := N, bk := W.nx } s k
  · exact h G0 H0 G H σ { W with nx := N, ct := N, bk := W.nx } s k
/-- the turns n of a loop over ds whose slots ahead of the turn are P n; it leaves in turn m, or runs through -/
def Runs (K : PySem.W.Frag) (t : TS) (j : Nat) (ds : List D) (P : Nat → Rho) (m : Nat) : Prop := ∀ (n : Nat) (d : D), n < m → ds[n]? = some d → Turn K t ((P n).set j (some (.dat d))) (P (n + 1))
/-- how a loop ends that leaves in turn m -/
inductive Leaves (K : PySem.W.Frag) (t : TS) (ρ : Rho) : Out → Prop
  | rt {d : D} : StD K t ρ (.rt d) → Leaves K t ρ (.rt d)
  | bk {ρ' : Rho} : StD K t ρ (.bk ρ') → Leaves K t ρ (.nx ρ')
theorem Leaves.run (h : Leaves K t ρ o) {G0 H0 G H : Hp} {σ : L2.St} {W : Ends} {N : L2.St → Hp → Prop} (s : Sl K G0 H0 G H σ ρ) (k : Post K G0 H0 G W o) : t { W with nx := N, ct := N, bk := W.nx } σ H := by
  cases h with
  | rt h => exact h G0 H0 G H σ { W with nx := N, ct := N, bk := W.nx } s k
  | bk h => exact h G0 H0 G H σ { W with nx := N, ct := N, bk := W.nx } s k
/-- for x in e, over a list that stands still -/
theorem sd_forL {j : Nat} (he : EvD K te ρ (.lst ds)) (P : Nat → Rho) (h0 : P 0 = ρ) (hs : Runs K t j ds P ds.length) : StD K (tFor (iList K te) (gName j) t) ρ (.nx (P ds.length)) := fun G0 H0 G H σ W s k =>
  he G0 H0 G H σ _ s fun v G1 H1 g1 r1 => by
    cases r1 with
    | lst hl ra =>
      rename_i a vs
      refine ⟨a, rfl, ⟨vs, ex_l g1.gh hl⟩, for_list (xs := vs) (fun n σ' H' => ∃ G', Ex G1 G' ∧ Sl K G0 H0 G' H' σ' (P n)) ⟨G1, Ex.refl _, by rw [h0]; exact s.step g1⟩ (fun n σ' H' _ ⟨G', e, s'⟩ => ex_l (e.trans s'.gh) hl) ?_ ?_⟩
      · rintro n x σ' H' hx ⟨G', e, s'⟩
        obtain ⟨d, hd, rd⟩ := ra.getV hx
        exact (hs n d (List.getElem?_eq_some_iff.mp hd).1 hd).run (s'.set (i := j) (rd.mono e)) fun G2 H2 σ2 e2 s2 => ⟨G2, e.trans e2, s2⟩
      · rintro σ' H' ⟨G', e, s'⟩
        rw [ra.length] at s'
        exact k G' H' σ' (g1.gg.trans e) s'
theorem sd_forLx {j m : Nat} {d : D} (he : EvD K te ρ (.lst ds)) (P : Nat → Rho) (h0 : P 0 = ρ) (hs : Runs K t j ds P m) (hm : ds[m]? = some d) (hx : Leaves K t ((P m).set j (some (.dat d))) o) : StD K (tFor (iList K te) (gName j) t) ρ o := fun G0 H0 G H σ W s k =>
  he G0 H0 G H σ _ s fun v G1 H1 g1 r1 => by
    cases r1 with
    | lst hl ra =>
      rename_i a vs
      have ml : m < ds.length := (List.getElem?_eq_some_iff.mp hm).1
      refine ⟨a, rfl, ⟨vs, ex_l g1.gh hl⟩, for_list (xs := vs) (fun n σ' H' => n ≤ m ∧ ∃ G', Ex G1 G' ∧ Sl K G0 H0 G' H' σ' (P n)) ⟨Nat.zero_le _, G1, Ex.refl _, by rw [h0]; exact s.step g1⟩ (fun n σ' H' _ ⟨_, G', e, s'⟩ => ex_l (e.trans s'.gh) hl) ?_ ?_⟩
      · rintro n x σ' H' hx2 ⟨hn, G', e, s'⟩
        obtain ⟨d', hd, rd⟩ := ra.getV hx2
        by_cases hnm : n < m
        · exact (hs n d' hnm hd).run (s'.set (i := j) (rd.mono e)) fun G2 H2 σ2 e2 s2 => ⟨hnm, G2, e.trans e2, s2⟩
        · have en : n = m := by omega
          subst en
          rw [hm] at hd
          cases hd
          exact hx.run (s'.set (i := j) (rd.mono e)) (k.mono (g1.gg.trans e))
      · rintro σ' H' ⟨hn, _⟩
        rw [ra.length] at hn
        omega
/-- .. over a tuple -/
theorem sd_forT {j : Nat} (he : EvD K te ρ (.tup ds)) (P : Nat → Rho) (h0 : P 0 = ρ) (hs : Runs K t j ds P ds.length) : StD K (tFor (iTup K te) (gName j) t) ρ (.nx (P ds.length)) := fun G0 H0 G H σ W s k =>
  he G0 H0 G H σ _ s fun v G1 H1 g1 r1 => by
    cases r1 with
    | tup hl ra =>
      rename_i a vs
      refine ⟨a, rfl, ⟨vs, ex_t g1.gh hl⟩, for_tup (xs := vs) (fun n σ' H' => ∃ G', Ex G1 G' ∧ Sl K G0 H0 G' H' σ' (P n)) ⟨G1, Ex.refl _, by rw [h0]; exact s.step g1⟩ (fun n σ' H' _ ⟨G', e, s'⟩ => ex_t (e.trans s'.gh) hl) ?_ ?_⟩
      · rintro n x σ' H' hx ⟨G', e, s'⟩
        obtain ⟨d, hd, rd⟩ := ra.getV hx
        exact (hs n d (List.getElem?_eq_some_iff.mp hd).1 hd).run (s'.set (i := j) (rd.mono e)) fun G2 H2 σ2 e2 s2 => ⟨G2, e.trans e2, s2⟩
      · rintro σ' H' ⟨G', e, s'⟩
        rw [ra.length] at s'
        exact k G' H' σ' (g1.gg.trans e) s'
theorem sd_forTx {j m : Nat} {d : D} (he : EvD K te ρ (.tup ds)) (P : Nat → Rho) (h0 : P 0 = ρ) (hs : Runs K t j ds P m) (hm : ds[m]? = some d) (hx : Leaves K t ((P m).set j (some (.dat d))) o) : StD K (tFor (iTup K te) (gName j) t) ρ o := fun G0 H0 G H σ W s k =>
  he G0 H0 G H σ _ s fun v G1 H1 g1 r1 => by
    cases r1 with
    | tup hl ra =>
      rename_i a vs
      have ml : m < ds.length := (List.getElem?_eq_some_iff.mp hm).1
      refine ⟨a, rfl, ⟨vs, ex_t g1.gh hl⟩, for_tup (xs := vs) (fun n σ' H' => n ≤ m ∧ ∃ G', Ex G1 G' ∧ Sl K G0 H0 G' H' σ' (P n)) ⟨Nat.zero_le _, G1, Ex.refl _, by rw [h0]; exact s.step g1⟩ (fun n σ' H' _ ⟨_, G', e, s'⟩ => ex_t (e.trans s'.gh) hl) ?_ ?_⟩
      · rintro n x σ' H' hx2 ⟨hn, G', e, s'⟩
        obtain ⟨d', hd, rd⟩ := ra.getV hx2
        by_cases hnm : n < m
        · exact (hs n d' hnm hd).run (s'.set (i := j) (rd.mono e)) fun G2 H2 σ2 e2 s2 => ⟨hnm, G2, e.trans e2, s2⟩
        · have en : n = m := by omega
          subst en
          rw [hm] at hd
          cases hd
          exact hx.run (s'.set (i := j) (rd.mono e)) (k.mono (g1.gg.trans e))
      · rintro σ' H' ⟨hn, _⟩
        rw [ra.length] at hn
        omega
/-- for k in range(n) -/
def RunsR (K : PySem.W.Frag) (t : TS) (j : Nat) (P : Nat → Rho) (m : Nat) : Prop := ∀ n : Nat, n < m → Turn K t ((P n).set j (some (.dat (.int (n : Int))))) (P (n + 1))
theorem sd_forR {j : Nat} {ta : TA} {n : Int} (he : EvS K ta ρ [.int n]) (hn : n ≤ 1000000) (h62 : -1000000 ≤ n) (P : Nat → Rho) (h0 : P 0 = ρ) (hs : RunsR K t j P n.toNat) : StD K (tFor (iRng1 ta) (gName j) t) ρ (.nx (P n.toNat)) := fun G0 H0 G H σ W s k =>
  he G0 H0 G H σ _ s fun vs G1 H1 g1 r1 => by
    cases r1 with
    | cons r2 r3 =>
      cases r2
      cases r3
      refine ⟨n, rfl, by omega, by omega, for_range (lo := 0) (n := n.toNat) (fun i σ' H' => ∃ G', Ex G1 G' ∧ Sl K G0 H0 G' H' σ' (P i)) ⟨G1, Ex.refl _, by rw [h0]; exact s.step g1⟩ ?_ ?_⟩
      · rintro i σ' H' hi ⟨G', e, s'⟩
        have e0 : (0 : Int) + (i : Int) = (i : Int) := Int.zero_add _
        show t { W with nx := _, ct := _, bk := W.nx } (σ'.set j (some (.int ((0 : Int) + (i : Int))))) H'
        rw [e0]
        exact (hs i hi).run (s'.set (i := j) (.int _)) fun G2 H2 σ2 e2 s2 => ⟨G2, e.trans e2, s2⟩
      · rintro σ' H' ⟨G', e, s'⟩
        exact k G' H' σ' (g1.gg.trans e) s'
theorem sd_forRx {j m : Nat} {ta : TA} {n : Int} (he : EvS K ta ρ [.int n]) (hn : n ≤ 1000000) (h62 : -1000000 ≤ n) (P : Nat → Rho) (h0 : P 0 = ρ) (hs : RunsR K t j P m) (hm : m < n.toNat) (hx : Leaves K t ((P m).set j (some (.dat (.int (m : Int))))) o) : StD K (tFor (iRng1 ta) (gName j) t) ρ o := fun G0 H0 G H σ W s k =>
  he G0 H0 G H σ _ s fun vs G1 H1 g1 r1 => by
    cases r1 with
    | cons r2 r3 =>
      cases r2
      cases r3
      refine ⟨n, rfl, by omega, by omega, for_range (lo := 0) (n := n.toNat) (fun i σ' H' => i ≤ m ∧ ∃ G', Ex G1 G' ∧ Sl K G0 H0 G' H' σ' (P i)) ⟨Nat.zero_le _, G1, Ex.refl _, by rw [h0]; exact s.step g1⟩ ?_ ?_⟩
      · rintro i σ' H' hi ⟨hn2, G', e, s'⟩
        have e0 : (0 : Int) + (i : Int) = (i : Int) := Int.zero_add _
        show t { W with nx := _, ct := _, bk := W.nx } (σ'.set j (some (.int ((0 : Int) + (i : Int))))) H'
        rw [e0]
        by_cases hnm : i < m
        · exact (hs i hnm).run (s'.set (i := j) (.int _)) fun G2 H2 σ2 e2 s2 => ⟨hnm, G2, e.trans e2, s2⟩
        · have en : i = m := by omega
          subst en
          exact hx.run (s'.set (i := j) (.int _)) (k.mono (g1.gg.trans e))
      · rintro σ' H' ⟨hn2, _⟩
        omega
end
end Ax

namespace Ax
open PySem PySem.Spec PyProof.Rows L2 Evl

/-! ### data for == -/
mutual
def D.py : D → PyData
  | .non => .none | .bl b => .bool b | .int i => .int i | .str x => .str x
  | .tup ds => .tuple (D.pys ds) | .ptup ds => .tuple (D.pys ds) | .lst ds => .list (D.pys ds) | .ins _ _ => .none | .cls _ => .none
def D.pys : List D → List PyData
  | [] => []
  | d :: ds => D.py d :: D.pys ds
end
mutual
def D.sh : D → Bool
  | .non | .bl _ | .int _ => true
  | .str x => PyData.strOk x
  | .tup ds | .ptup ds | .lst ds => D.shs ds
  | .ins _ _ | .cls _ => false
def D.shs : List D → Bool
  | [] => true
  | d :: ds => D.sh d && D.shs ds
end
mutual
def D.dep : D → Nat
  | .non | .bl _ | .int _ | .str _ | .ins _ _ | .cls _ => 0
  | .tup ds | .ptup ds | .lst ds => D.deps ds + 1
def D.deps : List D → Nat
  | [] => 0
  | d :: ds => max (D.dep d) (D.deps ds)
end
def D.ok (d : D) : Prop := D.sh d = true ∧ D.dep d ≤ 60
section
variable {K : PySem.W.Frag} {H : Hp}
mutual
theorem Rp.dp : ∀ {v : V} {d : D}, Rp K H v d → D.sh d = true → Dp K H v d.py
  | _, _, .non, _ => .non
  | _, _, .bl b, _ => .bl b
  | _, _, .int b, _ => .int b
  | _, _, .str b, _ => .str b
  | _, _, .tup h a, e => .tup h (RpA.dp a e)
  | _, _, .lst h a, e => .lst h (RpA.dp a e)
  | _, _, .ptup h _ a, e => .tup (.inl (.inr ⟨_, h⟩)) (RpA.dp a e)
  | _, _, .ins h a, e => nomatch e
  | _, _, .cls v, e => nomatch e
theorem RpA.dp : ∀ {v : List V} {d : List D}, RpA K H v d → D.shs d = true → DpAll K H v (D.pys d)
  | _, _, .nil, _ => .nil
  | _, _, .cons h a, e => .cons (Rp.dp h (Bool.and_eq_true_iff.mp e).1) (RpA.dp a (Bool.and_eq_true_iff.mp e).2)
end
end
mutual
theorem D.lay : ∀ d : D, D.sh d = true → d.py.canLay0 = true
  | .non, _ => rfl
  | .bl _, _ => rfl
  | .int _, _ => rfl
  | .str x, h => h
  | .tup ds, h => D.lays ds h
  | .lst ds, h => D.lays ds h
  | .ptup ds, h => D.lays ds h
  | .ins _ _, h => nomatch h
  | .cls _, h => nomatch h
theorem D.lays : ∀ d : List D, D.shs d = true → PyData.canLayAll0 (D.pys d) = true
  | [], _ => rfl
  | d :: ds, h => by
    have h1 := D.lay d (Bool.and_eq_true_iff.mp h).1
    have h2 := D.lays ds (Bool.and_eq_true_iff.mp h).2
    show (PyData.canLay0 (D.py d) && PyData.canLayAll0 (D.pys ds)) = true
    rw [h1, h2] <;> rfl
end
mutual
theorem D.pydep : ∀ d : D, d.py.depth = d.dep
  | .non => rfl
  | .bl _ => rfl
  | .int _ => rfl
  | .str x => rfl
  | .tup ds => by
    show PyData.depthAll (D.pys ds) + 1 = D.deps ds + 1
    rw [D.pydeps ds]
  | .lst ds => by
    show PyData.depthAll (D.pys ds) + 1 = D.deps ds + 1
    rw [D.pydeps ds]
  | .ptup ds => by
    show PyData.depthAll (D.pys ds) + 1 = D.deps ds + 1
    rw [D.pydeps ds]
  | .ins _ _ => rfl
  | .cls _ => rfl
theorem D.pydeps : ∀ d : List D, PyData.depthAll (D.pys d) = D.deps d
  | [] => rfl
  | d :: ds => by
    show max (PyData.depth (D.py d)) (PyData.depthAll (D.pys ds)) = max (D.dep d) (D.deps ds)
    rw [D.pydep d, D.pydeps ds]
end
theorem D.ok.shaped {d : D} (h : d.ok) : SeqAt.shaped d.py = true := by
  unfold SeqAt.shaped
  rw [D.lay d h.1, D.pydep d, decide_eq_true (by have := h.2; omega)] <;> rfl
theorem shs_all : ∀ ds : List D, (∀ d ∈ ds, D.sh d = true) → D.shs ds = true
  | [], _ => rfl
  | d :: ds, h => by
    show (D.sh d && D.shs ds) = true
    rw [h d List.mem_cons_self, shs_all ds fun x hx => h x (List.mem_cons_of_mem _ hx)] <;> rfl
theorem deps_all {n : Nat} : ∀ ds : List D, (∀ d ∈ ds, D.dep d ≤ n) → D.deps ds ≤ n
  | [], _ => Nat.zero_le _
  | d :: ds, h => by
    show max (D.dep d) (D.deps ds) ≤ n
    have h1 := h d List.mem_cons_self
    have h2 := deps_all ds fun x hx => h x (List.mem_cons_of_mem _ hx)
    omega
def eqD (a b : D) : Bool := PyData.eqv a.py b.py
mutual
theorem eqv_self : ∀ d : PyData, PyData.canLay0 d = true → PyData.eqv d d = true
  | .none, _ => rfl
  | .bool b, _ => by show (b == b) = true; exact beq_self_eq_true b
  | .int i, _ => by show (i == i) = true; exact beq_self_eq_true i
  | .str x, _ => by show (x == x) = true; exact beq_self_eq_true x
  | .list xs, h => eqvs_self xs h
  | .tuple xs, h => eqvs_self xs h
  | .dict _, h => nomatch h
theorem eqvs_self : ∀ d : List PyData, PyData.canLayAll0 d = true → PyData.eqvAll d d = true
  | [], _ => rfl
  | x :: xs, h => by
    show (PyData.eqv x x && PyData.eqvAll xs xs) = true
    have h' : (PyData.canLay0 x && PyData.canLayAll0 xs) = true := h
    rw [eqv_self x (Bool.and_eq_true_iff.mp h').1, eqvs_self xs (Bool.and_eq_true_iff.mp h').2] <;> rfl
end
theorem eqD_self {d : D} (h : D.sh d = true) : eqD d d = true := eqv_self _ (D.lay d h)
theorem eqD_int (i j : Int) : eqD (.int i) (.int j) = (i == j) := rfl
theorem eqD_str (i j : Str) : eqD (.str i) (.str j) = (i == j) := rfl
theorem eqD_bl (i j : Bool) : eqD (.bl i) (.bl j) = (i == j) := rfl
theorem ok_int (i : Int) : D.ok (.int i) := ⟨rfl, Nat.zero_le _⟩
theorem ok_bl (i : Bool) : D.ok (.bl i) := ⟨rfl, Nat.zero_le _⟩
theorem ok_non : D.ok .non := ⟨rfl, Nat.zero_le _⟩
theorem ok_str {x : Str} (h : PyData.strOk x = true) : D.ok (.str x) := ⟨h, Nat.zero_le _⟩

/-! ### operations on values -/
section
variable {K : PySem.W.Frag} {a b d : D} {i j : Int} {as bs : List D}
theorem rs_eq (ha : a.ok) (hb : b.ok) : RvS K (rEqD K) a b (.bl (eqD a b)) := fun H x y Q rx ry k =>
  ⟨a.py, b.py, rx.dp ha.1, ry.dp hb.1, ha.shaped, hb.shaped, k _ fun _ => .bl _⟩
theorem rs_ne (ha : a.ok) (hb : b.ok) : RvS K (rNeD K) a b (.bl (!eqD a b)) := fun H x y Q rx ry k =>
  ⟨a.py, b.py, rx.dp ha.1, ry.dp hb.1, ha.shaped, hb.shaped, k _ fun _ => .bl _⟩
theorem rs_I0 {g : Int → Int → Int} : RvS K (rI0 fun i j => .int (g i j)) (.int i) (.int j) (.int (g i j)) := fun H x y Q rx ry k => by
  cases rx; cases ry; exact ⟨i, j, rfl, rfl, k _ fun _ => .int _⟩
theorem rs_I0b {g : Int → Int → Bool} : RvS K (rI0 fun i j => .bl (g i j)) (.int i) (.int j) (.bl (g i j)) := fun H x y Q rx ry k => by
  cases rx; cases ry; exact ⟨i, j, rfl, rfl, k _ fun _ => .bl _⟩
theorem rs_I {C : Int → Int → Prop} {g : Int → Int → Int} (hc : C i j) : RvS K (rI C fun i j => .int (g i j)) (.int i) (.int j) (.int (g i j)) := fun H x y Q rx ry k => by
  cases rx; cases ry; exact ⟨i, j, rfl, rfl, hc, k _ fun _ => .int _⟩
def rAddS : R2 := fun x y H Q => ∃ i j, x = .str i ∧ y = .str j ∧ i.length + j.length ≤ sizeLine ∧ Q (.str (i ++ j)) H
/-- + of ints, texts, tuples, lists -/
def rPlus (K : PySem.W.Frag) : R2 := fun x y H Q => (rI0 (fun i j => .int (i + j)) x y H Q ∨ rAddS x y H Q) ∨ (rCatA K x y H Q ∨ rCat x y H Q)
theorem op_plus {X : Cx} : OpR X (binaryOp .Add) (rPlus X.K) := (op_add.or op_add_str).or (op_catA.or op_cat)
theorem rs_plusI : RvS K (rPlus K) (.int i) (.int j) (.int (i + j)) := fun H x y Q rx ry k => .inl (.inl (rs_I0 (K := K) (g := fun i j => i + j) H x y Q rx ry k))
theorem rs_plusS {x y : Str} (h : x.length + y.length ≤ 100000) : RvS K (rPlus K) (.str x) (.str y) (.str (x ++ y)) := fun H v w Q rx ry k => by
  cases rx; cases ry
  exact .inl (.inr ⟨x, y, rfl, rfl, sz_of h, k _ fun _ => .str _⟩)
theorem rd_plusT (h : as.length + bs.length ≤ 100000) : RvD K (rPlus K) (.tup as) (.tup bs) (.tup (as ++ bs)) := fun G H x y Q e rx ry k => by
  cases rx with
  | tup h1 a1 =>
    cases ry with
    | tup h2 a2 =>
      rename_i p xs q ys
      refine .inr (.inl ⟨p, q, xs, ys, rfl, rfl, ex_t e h1, ex_t e h2, ?_, ?_, ?_, ?_⟩)
      · rw [a1.length, a2.length]; exact sz_of h
      · intro z
        subst z
        cases a1
        exact k _ G H (Go.refl e) (.tup h2 a2)
      · intro _ z
        subst z
        cases a2
        exact k _ G H (Go.refl e) (by rw [List.append_nil]; exact .tup h1 a1)
      · intro _ _ r hr
        have n := Go.new (o := .tup (xs ++ ys)) e hr
        exact k _ _ _ n (.tup (.inl (.inl upd_same)) ((a1.append a2).mono n.gg))
theorem RvS.toD {r : R2} (h : RvS K r a b d) : RvD K r a b d := fun G H x y Q e rx ry k => h H x y Q (rx.mono e) (ry.mono e) fun v rv => k v G H (Go.refl e) (rv G)
/-! ### indexing -/
theorem atI_rp {H : Hp} {vs : List V} (r : RpA K H vs as) (h : atI as i = some d) : ∃ v, atI vs i = some v ∧ Rp K H v d := by
  unfold atI at h ⊢
  rw [r.length]
  cases q : ixN as.length i with
  | none => rw [q] at h; cases h
  | some j =>
    rw [q] at h
    obtain ⟨v, h1, h2⟩ := r.get (i := j) (d := d) h
    exact ⟨v, h1, h2⟩
theorem rd_ixT (h : atI as i = some d) : RvD K (rIx K) (.tup as) (.int i) d := fun G H x y Q e rx ry k => by
  cases ry
  cases rx with
  | tup h1 a1 =>
    obtain ⟨v, q1, q2⟩ := atI_rp a1 h
    exact .inr (.inl ⟨_, _, i, v, rfl, rfl, ex_t e h1, q1, k v G H (Go.refl e) q2⟩)
theorem rd_ixL (h : atI as i = some d) : RvD K (rIx K) (.lst as) (.int i) d := fun G H x y Q e rx ry k => by
  cases ry
  cases rx with
  | lst h1 a1 =>
    obtain ⟨v, q1, q2⟩ := atI_rp a1 h
    exact .inl ⟨_, _, i, v, rfl, rfl, ex_l e h1, q1, k v G H (Go.refl e) q2⟩
theorem rs_ixS {z : Str} {c : Nat} (hz : z.length ≤ 100000) (h : atI z.cps.toList i = some c) : RvS K (rIx K) (.str z) (.int i) (.str ⟨#[c]⟩) := fun H x y Q rx ry k => by
  cases rx; cases ry
  exact .inr (.inr ⟨z, i, c, rfl, rfl, sz_of hz, h, k _ fun _ => .str _⟩)
theorem atI_of {α : Type} {xs : List α} {x : α} (h0 : 0 ≤ i) (h : xs[i.toNat]? = some x) : atI xs i = some x := by
  have hl := (List.getElem?_eq_some_iff.mp h).1
  unfold atI ixN
  rw [if_pos h0, if_pos (by omega)]
  exact h
theorem atI_neg1 {α : Type} {xs : List α} {x : α} (h : xs.getLast? = some x) : atI xs (-1) = some x := by
  have hl : xs ≠ [] := fun z => by rw [z] at h; cases h
  have h0 : 0 < xs.length := List.length_pos_iff.mpr hl
  unfold atI ixN
  rw [if_neg (by decide), if_pos (by omega)]
  show xs[((-1 : Int) + (xs.length : Int)).toNat]? = some x
  rw [show ((-1 : Int) + (xs.length : Int)).toNat = xs.length - 1 by omega, ← List.getLast?_eq_getElem?]
  exact h
variable {ρ : Rho} {n : Nat} {tb : TE}
/-- an item of an own list -/
theorem ev_ixO (hb : EvD K tb ρ (.int i)) (ho : ρ[n]? = some (some (.own as))) (h : atI as i = some d) : EvD K (tOp (rIx K) (tVar n) tb) ρ d := fun G0 H0 G H σ Q s k => by
  obtain ⟨l, vs, h1, h2, h3, h4, h5⟩ := s.own n as ho
  refine ⟨.ref l, h1, ?_⟩
  refine hb G0 H0 G H σ _ s fun y G1 H1 g1 r1 => ?_
  cases r1
  obtain ⟨v, q1, q2⟩ := atI_rp (h5.mono g1.gg) h
  exact .inl ⟨l, vs, i, v, rfl, rfl, .inl (.inl (g1.hh _ _ h4)), q1, k v G1 H1 g1 q2⟩
/-! ### built-ins -/
theorem rs_int1 : RcS K (fun xs H Q => (∃ i, xs = [.int i] ∧ Q (.int i) H) ∨ ∃ k, xs = [.bl k] ∧ Q (.int (if k then 1 else 0)) H) [.int i] (.int i) := fun H vs Q r k => by
  cases r with
  | cons r1 r2 =>
    cases r1; cases r2
    exact .inl ⟨i, rfl, k _ fun _ => .int _⟩
theorem rs_intB {p : Bool} : RcS K (fun xs H Q => (∃ i, xs = [.int i] ∧ Q (.int i) H) ∨ ∃ k, xs = [.bl k] ∧ Q (.int (if k then 1 else 0)) H) [.bl p] (.int (if p then 1 else 0)) := fun H vs Q r k => by
  cases r with
  | cons r1 r2 =>
    cases r1; cases r2
    exact .inr ⟨p, rfl, k _ fun _ => .int _⟩
def rLen (K : PySem.W.Frag) : List V → Hp → VK → Prop := fun xs H Q => ∃ x n, xs = [x] ∧ LenV K x H n ∧ Q (.int n) H
theorem call_lenA {X : Cx} : CallR X (.builtin "len") (rLen X.K) := call_len
theorem rs_lenL : RcS K (rLen K) [.lst as] (.int as.length) := fun H vs Q r k => by
  cases r with
  | cons r1 r2 =>
    cases r2
    cases r1 with
    | lst h a =>
      exact ⟨_, _, rfl, .inl ⟨_, h, rfl⟩, k _ fun _ => by rw [a.length]; exact .int _⟩
theorem rs_lenT : RcS K (rLen K) [.tup as] (.int as.length) := fun H vs Q r k => by
  cases r with
  | cons r1 r2 =>
    cases r2
    cases r1 with
    | tup h a =>
      exact ⟨_, _, rfl, .inr ⟨_, h, rfl⟩, k _ fun _ => by rw [a.length]; exact .int _⟩
theorem rs_lenS {z : Str} (hz : z.length ≤ 100000) : RcS K (rLen K) [.str z] (.int z.length) := fun H vs Q r k => by
  cases r with
  | cons r1 r2 =>
    cases r1; cases r2
    exact ⟨_, _, rfl, ⟨sz_of hz, rfl⟩, k _ fun _ => .int _⟩
theorem rs_sum {ns : List Int} : RcS K (rSum K) [.lst (ns.map .int)] (.int ns.sum) := fun H vs Q r k => by
  cases r with
  | cons r1 r2 =>
    cases r2
    cases r1 with
    | lst h a =>
      rw [a.ints_inv] at h
      exact ⟨_, ns, rfl, h, k _ fun _ => .int _⟩
def rMax2 : List V → Hp → VK → Prop := fun xs H Q => ∃ i j, xs = [.int i, .int j] ∧ Q (.int (if j > i then j else i)) H
theorem rs_max2 : RcS K rMax2 [.int i, .int j] (.int (max i j)) := fun H vs Q r k => by
  cases r with
  | cons r1 r2 =>
    cases r1
    cases r2 with
    | cons r3 r4 =>
      cases r3; cases r4
      refine ⟨i, j, rfl, ?_⟩
      have e : (if j > i then j else i) = max i j := by
        split <;> omega
      rw [e]
      exact k _ fun _ => .int _
def rTupOf (K : PySem.W.Frag) : List V → Hp → VK → Prop := fun xs H Q => ∃ p ys, xs = [.ref p] ∧ ((SqL K H p ys ∧ ∀ l, H l = none → Q (.ref l) (upd H l (.tup ys))) ∨ (SqT K H p ys ∧ Q (.ref p) H))
theorem rd_tupL : RcD K (rTupOf K) [.lst as] (.tup as) := fun G H vs Q e r k => by
  cases r with
  | cons r1 r2 =>
    cases r2
    cases r1 with
    | lst h a =>
      rename_i q ys
      refine ⟨_, _, rfl, .inl ⟨ex_l e h, fun l hl => ?_⟩⟩
      have n := Go.new (o := .tup ys) e hl
      exact k _ _ _ n (.tup (.inl (.inl upd_same)) (a.mono n.gg))
theorem rd_tupT : RcD K (rTupOf K) [.tup as] (.tup as) := fun G H vs Q e r k => by
  cases r with
  | cons r1 r2 =>
    cases r2
    cases r1 with
    | tup h a => exact ⟨_, _, rfl, .inr ⟨ex_t e h, k _ G H (Go.refl e) (.tup h a)⟩⟩
/-- tuple(xs), xs our own -/
def rTupP (K : PySem.W.Frag) : List V → Hp → VK → Prop := fun xs H Q => ∃ p ys, xs = [.ref p] ∧ SqL K H p ys ∧ ∀ (l : Addr) (o : Obj), H l = none → o.dict = none → Q (.ref l) (upd H l (.frz o (.tup ys)))
theorem call_tupleP {X : Cx} : CallR X (.type "tuple") (rTupP X.K) := by
  intro pins s σ H xs us Q I r ⟨p, ys, e, hq, q⟩
  subst e
  obtain ⟨u, e, rx⟩ := vals1 r
  subst e
  cases rx
  obtain ⟨its, r', pl, hz⟩ := I.list hq
  have hn := r'.length
  refine call_tuple_list pl.isList (fun h' kp => ?_) (by simp only [List.size_toArray] <;> omega)
  have J := I.kept (t' := s.toks) kp
  have J2 : Inv X pins σ (upd H h'.objs.size (.frz { cls := .type "tuple", data := .seq its.toArray } (.tup ys))) { s with heap := h'.push { cls := .type "tuple", data := .seq its.toArray } } :=
    J.laid (t' := s.toks) (fun b o e => Heap.get?_push_of_some _ e) (Nat.le_refl _) ⟨Heap.get?_push_size _ rfl, hz, its, r', IsTup.new _ _⟩
  exact ⟨.ref h'.objs.size, _, J2, rfl, q _ _ (J.hok.fresh (Nat.le_refl _)) rfl⟩
theorem rd_tupP : RcD K (rTupP K) [.lst as] (.ptup as) := fun G H vs Q e r k => by
  cases r with
  | cons r1 r2 =>
    cases r2
    cases r1 with
    | lst h a =>
      rename_i p xs
      refine ⟨_, _, rfl, ex_l e h, fun l o hl hd => ?_⟩
      have n := Go.new (o := .frz o (.tup xs)) e hl
      exact k _ _ _ n (.ptup upd_same hd (a.mono n.gg))
theorem ev_tupO (ho : ρ[n]? = some (some (.own as))) : EvD K (tCB (rTupOf K) (tCons (tVar n) tNil)) ρ (.tup as) := fun G0 H0 G H σ Q s k => by
  obtain ⟨l, vs, h1, h2, h3, h4, h5⟩ := s.own n as ho
  refine ⟨.ref l, h1, l, vs, rfl, .inl ⟨.inl (.inl h4), fun p hp => ?_⟩⟩
  have g := Go.new (o := .tup vs) s.gh hp
  exact k _ _ _ g (.tup (.inl (.inl upd_same)) (h5.mono g.gg))
def rLstOf (K : PySem.W.Frag) : List V → Hp → VK → Prop := fun xs H Q => ∃ p ys, xs = [.ref p] ∧ (SqL K H p ys ∨ SqT K H p ys) ∧ ∀ l, H l = none → Q (.ref l) (upd H l (.lst ys))
theorem rn_lstL : RcN K (rLstOf K) [.lst as] as := fun G H vs Q e r k => by
  cases r with
  | cons r1 r2 =>
    cases r2
    cases r1 with
    | lst h a => exact ⟨_, _, rfl, .inl (ex_l e h), fun l hl => k l _ G H (Go.refl e) hl a⟩
theorem rn_lstT : RcN K (rLstOf K) [.tup as] as := fun G H vs Q e r k => by
  cases r with
  | cons r1 r2 =>
    cases r2
    cases r1 with
    | tup h a => exact ⟨_, _, rfl, .inr (ex_t e h), fun l hl => k l _ G H (Go.refl e) hl a⟩
theorem en_lstO (ho : ρ[n]? = some (some (.own as))) : EvN K (tCB (rLstOf K) (tCons (tVar n) tNil)) ρ as := fun G0 H0 G H σ Q s k => by
  obtain ⟨l, vs, h1, h2, h3, h4, h5⟩ := s.own n as ho
  exact ⟨.ref l, h1, l, vs, rfl, .inl (.inl (.inl h4)), fun p hp => k p vs G H (Go.refl s.gh) hp h5⟩
/-! ### isinstance -/
/-- what is known of a datum's class -/
inductive Ty (K : PySem.W.Frag) : D → Value → Prop
  | non : Ty K .non (.type "NoneType")
  | bl (x : Bool) : Ty K (.bl x) (.type "bool")
  | int (i : Int) : Ty K (.int i) (.type "int")
  | str (x : Str) : Ty K (.str x) (.type "str")
  | tup (ds : List D) : Ty K (.tup ds) (.type "tuple")
  | lst (ds : List D) : Ty K (.lst ds) (.type "list")
  | ptup (ds : List D) : Ty K (.ptup ds) (.type "tuple")
  | ins {C : Addr} {fs : List (Str × D)} (cl : Cls K C) (ha : PySem.W.findIn K (.ref C) "__class__" = some (some (.builtin "object.__class__")))
      (hn : PySem.W.specialIn K (.builtin "object.__class__") "__get__" = some (some (.builtin "getset_descriptor.__get__"))) (htk : PySem.W.takesIn K (.builtin "object.__class__") = some true)
      (hm : PySem.W.mroIn K C (.type "object") = some true) : Ty K (.ins C fs) (.ref C)
theorem Ty.of {t : Value} (h : Ty K d t) {H : Hp} {v : V} (r : Rp K H v d) : TyX K H v t := by
  cases h with
  | non => cases r; exact .base .non
  | bl x => cases r; exact .base (.bl x)
  | int x => cases r; exact .base (.int x)
  | str x => cases r; exact .base (.str x)
  | tup ds =>
    cases r with
    | tup h a =>
      rcases h with (h | ⟨o, h⟩) | ⟨o, its, n, h, hc, _⟩
      · exact .base (.tup h)
      · exact .fTuple h
      · exact .kTuple h hc
  | lst ds =>
    cases r with
    | lst h a =>
      rcases h with (h | ⟨o, h⟩) | ⟨o, its, n, h, hc, _⟩
      · exact .base (.lst h)
      · exact .base (.frz h)
      · exact .kList h hc
  | ptup ds =>
    cases r with
    | ptup h _ a => exact .fTuple h
  | ins cl ha hn htk hm =>
    cases r with
    | ins h a => exact .base (.ins h cl ha hn htk hm)
theorem rs_isi {t u : Value} {c : V} {p : Bool} (h : Ty K d t) (hc : ClsV c u) (hk : PySem.W.kitOne K t u = some p) : RcS K (rIsi K) [d, .cls c] (.bl p) := fun H vs Q r k => by
  cases r with
  | cons r1 r2 =>
    cases r2 with
    | cons r3 r4 =>
      cases r3; cases r4
      exact ⟨_, _, t, u, p, rfl, hc, h.of r1, hk, k _ fun _ => .bl _⟩
end
/-! ### defs -/
/-- a def as a function of data: n arguments -/
def spD (K : PySem.W.Frag) (n : Nat) (R : List D → D → Prop) : Sp := fun vs H Q _ => ∃ (G : Hp) (ds : List D) (d : D), vs.length = n ∧ Ex G H ∧ RpA K G vs ds ∧ R ds d ∧ ∀ v G' H', Go G H G' H' → Rp K G' v d → Q v H'
section
variable {K : PySem.W.Frag} {ρ : Rho} {ta : TA} {ds : List D} {d : D} {n : Nat} {R : List D → D → Prop}
theorem ev_call {E : XK} (h : EvS K ta ρ ds) (hn : ds.length = n) (hr : R ds d) : EvD K (tCall (spD K n R) [] E ta) ρ d := fun G0 H0 G H σ Q s k =>
  h G0 H0 G H σ _ s fun vs G1 H1 g1 r1 => ⟨G1, ds, d, by rw [List.append_nil, r1.length]; exact hn, g1.gh, by rw [List.append_nil]; exact r1, hr, fun v G' H' g r => k v G' H' (g1.trans g) r⟩
/-- own lists lent, a scalar handed back -/
def D.flat : D → Bool
  | .non | .bl _ | .int _ | .str _ | .cls _ => true
  | _ => false
theorem Rp.flat {G G' : Hp} {v : V} (h : Rp K G v d) (f : d.flat = true) : Rp K G' v d := by
  cases h with
  | non => exact .non
  | bl b => exact .bl b
  | int i => exact .int i
  | str x => exact .str x
  | cls v => exact .cls v
  | tup _ _ => cases f
  | lst _ _ => cases f
  | ptup _ _ _ => cases f
  | ins _ _ => cases f
theorem ev_callR {E : XK} (h : EvSR K ta ρ ds) (hn : ds.length = n) (hr : R ds d) (f : d.flat = true) : EvD K (tCall (spD K n R) [] E ta) ρ d := fun G0 H0 G H σ Q s k =>
  h G0 H0 G H σ _ s fun vs G1 H1 g1 r1 => ⟨H1, ds, d, by rw [List.append_nil, r1.length]; exact hn, Ex.refl H1, by rw [List.append_nil]; exact r1, hr, fun v G' H' g r =>
    k v G1 H' (g1.trans ⟨Ex.refl G1, g1.gh.trans g.hh, g.hh, fun _ _ q => q⟩) (r.flat f)⟩
def rho0 (N : List Str) (ds : List D) : Rho := ds.map (fun d => some (.dat d)) ++ List.replicate (N.length - ds.length) none
theorem sl_start {G H : Hp} {N : List Str} {vs : List V} (e : Ex G H) (r : RpA K G vs ds) : Sl K G H G H (L2.start N vs) (rho0 N ds) := by
  refine ⟨Go.refl e, ?_, fun i d h => ?_, fun i es h => ?_, fun i j es fs v w _ h => ?_⟩
  · unfold L2.start rho0
    rw [List.length_append, List.length_append, List.length_map, List.length_map, List.length_replicate, List.length_replicate, r.length]
  · unfold rho0 at h
    unfold L2.start
    by_cases hi : i < ds.length
    · rw [List.getElem?_append_left (by rw [List.length_map]; exact hi), List.getElem?_map] at h
      cases q : ds[i]? with
      | none => rw [q] at h; cases h
      | some d' =>
        rw [q] at h
        cases h
        obtain ⟨v, h1, h2⟩ := r.get q
        refine ⟨v, ?_, h2⟩
        rw [List.getElem?_append_left (by rw [List.length_map, r.length]; exact hi), List.getElem?_map, h1]
        rfl
    · rw [List.getElem?_append_right (by rw [List.length_map]; omega)] at h
      have := List.mem_of_getElem? h
      cases (List.mem_replicate.mp this).2
  · unfold rho0 at h
    have := List.mem_of_getElem? h
    rcases List.mem_append.mp this with z | z
    · obtain ⟨d, _, q⟩ := List.mem_map.mp z
      cases q
      intro m
      cases m
    · cases (List.mem_replicate.mp z).2
  · unfold rho0 at h
    have := List.mem_of_getElem? h
    rcases List.mem_append.mp this with z | z
    · obtain ⟨d, _, q⟩ := List.mem_map.mp z
      cases q
      intro m
      cases m
    · cases (List.mem_replicate.mp z).2
/-- how a body's end is the def's -/
inductive Ends1 (K : PySem.W.Frag) (t : TS) (ρ : Rho) : D → Prop
  | rt {d : D} : StD K t ρ (.rt d) → Ends1 K t ρ d
  | nx {ρ' : Rho} : StD K t ρ (.nx ρ') → Ends1 K t ρ .non
theorem fn_D {P : Program} {w : World} {mg : Str → Option Value} {base : Heap} {x qual : Str} {st : Stmt} {f : Addr} {fd : FuncData} {N ps : List Str} {k : Nat} (F : Fun K x qual st f fd) (S : FnScope N ps (defScope st)) (hn : ps.length = n)
    (hbody : ∀ (cdv : Value) (A : Around) (outer : List Env) (s : Shared) (H : Hp) (E : XK), Room k (A.deeper (envOfC qual (defScope st) s.heap.objs.size f cdv)) →
      ∃ t, PSs (cxOf CX0 P w K mg base N qual (defScope st) f cdv A outer s H E).nox (defBody st) t ∧ ∀ ds d, R ds d → Ends1 K t (rho0 N ds) d) : FnOk P w K mg base CX0 (k + 1) f fd ps (spD K n R) := by
  refine F.ok S (fun vs H Q E h => ?_) (fun cdv A outer s H vs Q E hr h => ?_)
  · obtain ⟨_, _, _, h, _⟩ := h
    rw [h, hn]
  · obtain ⟨t, h1, h2⟩ := hbody cdv A outer s H E hr
    obtain ⟨G, ds, d, hl, e, r, hR, q⟩ := h
    refine ⟨t, h1, ?_⟩
    have s0 := sl_start (N := N) e r
    cases h2 ds d hR with
    | rt h => exact h G H G H _ _ s0 fun v G' H' g r => q v G' H' g r
    | nx h => exact h G H G H _ _ s0 fun G' H' σ' _ s' => q .non G' H' s'.go .non
end
end Ax

namespace Ax
open PySem PySem.Spec PyProof.Rows L2 Evl

/-! ### own classes -/
def putD (f : Str) (v : D) : List (Str × D) → List (Str × D)
  | [] => [(f, v)]
  | (g, u) :: r => if g = f then (g, v) :: r else (g, u) :: putD f v r
section
variable {K : PySem.W.Frag} {G0 H0 G H : Hp} {ρ : Rho} {ta tb te : TE} {t : TA} {C : Addr} {fs : List (Str × D)} {f m : Str} {d : D} {ds : List D} {n : Nat} {x : Addr}
theorem RpF.put {v : V} (r : Rp K H v d) : ∀ {gs : List (Str × V)} {fs : List (Str × D)}, RpF K H gs fs → RpF K H (putF f v gs) (putD f d fs)
  | _, _, .nil => .cons r .nil
  | _, _, .cons (f := g) (v := u) (vs := us) (d := e) (ds := es) q t => by
    show RpF K H (if g = f then (g, v) :: us else (g, u) :: putF f v us) (if g = f then (g, d) :: es else (g, e) :: putD f d es)
    by_cases h : g = f
    · rw [if_pos h, if_pos h]; exact .cons r t
    · rw [if_neg h, if_neg h]; exact .cons q (RpF.put r t)
theorem RpF.length : ∀ {gs : List (Str × V)} {fs : List (Str × D)}, RpF K H gs fs → gs.length = fs.length
  | _, _, .nil => rfl
  | _, _, .cons _ t => by rw [List.length_cons, List.length_cons, RpF.length t]
theorem RpF.look0 : ∀ {gs : List (Str × V)} {fs : List (Str × D)}, RpF K H gs fs → fs.lookup m = none → gs.lookup m = none
  | _, _, .nil, _ => rfl
  | _, _, .cons (f := g) (v := u) (vs := us) (d := e) (ds := es) q t, h => by
    rw [List.lookup_cons] at h ⊢
    cases z : m == g with
    | true => rw [z] at h; cases h
    | false => rw [z] at h; exact RpF.look0 t h
theorem ev_fld (ha : EvD K ta ρ (.ins C fs)) (cl : Cls K C) (na : NoAttr K C f) (hl : fs.lookup f = some d) : EvD K (tFld K ta f) ρ d := fun G0 H0 G H σ Q s k =>
  ha G0 H0 G H σ _ s fun v G1 H1 g1 r1 => by
    cases r1 with
    | ins h a =>
      obtain ⟨u, h1, h2⟩ := a.look hl
      exact ⟨_, C, _, _, u, rfl, g1.gh _ _ h, cl, na, h1, k u G1 H1 g1 h2⟩
theorem ev_fldM (ho : ρ[n]? = some (some (.obj x C fs))) (cl : Cls K C) (na : NoAttr K C f) (hl : fs.lookup f = some d) : EvD K (tFld K (tVar n) f) ρ d := fun G0 H0 G H σ Q s k => by
  obtain ⟨h1, h2, h3, dx, gs, h4, h5⟩ := s.objAt ho
  obtain ⟨u, q1, q2⟩ := h5.look hl
  exact ⟨.ref x, h1, x, C, dx, gs, u, rfl, h4, cl, na, q1, k u G H (Go.refl s.gh) q2⟩
theorem sd_fld (h : EvD K te ρ d) (ho : ρ[n]? = some (some (.obj x C fs))) (cl : Cls K C) (na : NoAttr K C f) (hz : fs.length < 1000) : StD K (sFld K (tVar n) te f) ρ (.nx (ρ.set n (some (.obj x C (putD f d fs))))) := fun G0 H0 G H σ W s k => by
  refine h G0 H0 G H σ _ s fun v G1 H1 g1 r1 => ?_
  obtain ⟨h1, h2, h3, dx, gs, h4, h5⟩ := (s.step g1).objAt ho
  refine ⟨.ref x, h1, x, C, dx, gs, rfl, h4, cl, na, by rw [h5.length]; exact hz, ?_⟩
  exact k G1 _ σ g1.gg ((s.step g1).mutObj ho (h5.put r1))
def delx (H : Hp) (x : Addr) : Hp := fun a => if a = x then none else H a
theorem delx_same {x : Addr} : delx H x x = none := by unfold delx; rw [if_pos rfl]
theorem delx_ne {x a : Addr} (h : a ≠ x) : delx H x a = H a := by unfold delx; rw [if_neg h]
/-- the promise of an __init__: it makes these attributes -/
def spI (K : PySem.W.Frag) (C : Addr) (n : Nat) (R : List D → List (Str × D) → Prop) : Sp := fun vs H Q _ => ∃ (x dx : Addr) (us : List V) (G : Hp) (ds : List D) (fs : List (Str × D)), vs = .ref x :: us ∧ us.length = n ∧ H x = some (.ins C dx []) ∧ G x = none ∧ Ex G H ∧ RpA K G us ds ∧ R ds fs ∧
  ∀ G' H' dy gs, Go G (delx H x) G' H' → G' x = none → H' x = some (.ins C dy gs) → RpF K G' gs fs → Q .non H'
theorem ev_new {E : XK} {R : List D → List (Str × D) → Prop} (h : EvS K t ρ ds) (hn : ds.length = n) (hr : R ds fs) : EvD K (tMake C (spI K C n R) [] E t) ρ (.ins C fs) := fun G0 H0 G H σ Q s k =>
  h G0 H0 G H σ _ s fun vs G1 H1 g1 r1 => by
    intro x dx hx hdx ne
    have gx : G1 x = none := fresh_back g1.gh hx
    have hx2 : (upd H1 dx (.own x)) x = none := by rw [upd_ne (Ne.symm ne)]; exact hx
    have e2 : Ex H1 (upd (upd H1 dx (.own x)) x (.ins C dx [])) := (Ex.new hdx).trans (Ex.new hx2)
    refine ⟨x, dx, vs ++ [], G1, ds, fs, rfl, by rw [List.append_nil, r1.length]; exact hn, upd_same, gx, g1.gh.trans e2, by rw [List.append_nil]; exact r1, hr, fun G' H' dy gs g z1 z2 z3 => ?_⟩
    have keep : ∀ a o, H1 a = some o → H' a = some o := fun a o e => g.hh a o (by
      rw [delx_ne (ne_of_none e hx)]
      exact e2 a o e)
    have n : Ex G' (upd G' x (.ins C dy gs)) := Ex.new z1
    refine ⟨rfl, k (.ref x) (upd G' x (.ins C dy gs)) H' (g1.trans ⟨g.gg.trans n, fun a o e => ?_, keep, fun a ha hg => ?_⟩) (.ins upd_same (z3.mono n))⟩
    · by_cases ax : a = x
      · subst ax; rw [upd_same] at e; rw [← e]; exact z2
      · rw [upd_ne ax] at e; exact g.gh a o e
    · have ax : a ≠ x := fun z => ha (by rw [z]; exact hx)
      rw [upd_ne ax]
      refine g.fr a ?_ hg
      rw [delx_ne ax]
      cases q : H1 a with
      | none => exact absurd q ha
      | some o => rw [e2 a o q]; exact fun z => nomatch z
/-- self.m(..) of a thing that stands still -/
theorem ev_meth {E : XK} {R : List D → D → Prop} (ha : EvD K ta ρ (.ins C fs)) (hl : fs.lookup m = none) (h : EvS K t ρ ds) (hn : ds.length + 1 = n) (hr : R (.ins C fs :: ds) d) : EvD K (tMeth C m (spD K n R) [] E ta t) ρ d := fun G0 H0 G H σ Q s k =>
  ha G0 H0 G H σ _ s fun v G1 H1 g1 r1 => by
    have r1' := r1
    cases r1 with
    | ins q a =>
      refine ⟨_, _, _, rfl, g1.gh _ _ q, a.look0 hl, ?_⟩
      refine h G0 H0 G1 H1 σ _ (s.step g1) fun vs G2 H2 g2 r2 => ?_
      refine ⟨G2, _, d, ?_, g2.gh, .cons (r1'.mono g2.gg) (by rw [List.append_nil]; exact r2), hr, fun w G' H' g r => k w G' H' ((g1.trans g2).trans g) r⟩
      rw [List.append_nil, List.length_cons, r2.length]
      exact hn
theorem ev_prop {E : XK} {R : List D → D → Prop} (ha : EvD K ta ρ (.ins C fs)) (hr : R [.ins C fs] d) : EvD K (tProp C (spD K 1 R) [] E ta) ρ d := fun G0 H0 G H σ Q s k =>
  ha G0 H0 G H σ _ s fun v G1 H1 g1 r1 => by
    have r1' := r1
    cases r1 with
    | ins q a => exact ⟨_, _, _, rfl, g1.gh _ _ q, G1, _, d, rfl, g1.gh, .cons r1' .nil, hr, fun w G' H' g r => k w G' H' (g1.trans g) r⟩
def rhoI (N : List Str) (x C : Addr) (ds : List D) : Rho := some (.obj x C []) :: (ds.map (fun d => some (.dat d)) ++ List.replicate (N.length - (ds.length + 1)) none)
theorem sl_startI {N : List Str} {vs : List V} {x dx : Addr} (e : Ex G H) (hx : H x = some (.ins C dx [])) (gx : G x = none) (r : RpA K G vs ds) : Sl K G (delx H x) G H (L2.start N (.ref x :: vs)) (rhoI N x C ds) := by
  have key : ∀ (i : Nat) (y : S), (rhoI N x C ds)[i]? = some (some y) → (i = 0 ∧ y = .obj x C []) ∨ ∃ (j : Nat) (d : D), i = j + 1 ∧ ds[j]? = some d ∧ y = .dat d := fun i y h => by
    cases i with
    | zero => cases h; exact .inl ⟨rfl, rfl⟩
    | succ j =>
      have h' : (ds.map (fun d => some (S.dat d)) ++ List.replicate (N.length - (ds.length + 1)) none)[j]? = some (some y) := h
      by_cases hj : j < ds.length
      · rw [List.getElem?_append_left (by rw [List.length_map]; exact hj), List.getElem?_map] at h'
        cases q : ds[j]? with
        | none => rw [q] at h'; cases h'
        | some d' =>
          rw [q] at h'
          cases h'
          exact .inr ⟨j, d', rfl, q, rfl⟩
      · rw [List.getElem?_append_right (by rw [List.length_map]; omega)] at h'
        have := List.mem_of_getElem? h'
        cases (List.mem_replicate.mp this).2
  have ne : ∀ a o, G a = some o → a ≠ x := fun a o q z => by rw [z, gx] at q; cases q
  refine ⟨⟨Ex.refl G, e, fun a o q => ?_, fun a _ q => q⟩, ?_, fun i d h => ?_, fun i y h m => ?_, fun i j y z v w hij p1 m1 p2 m2 => ?_⟩
  · by_cases ax : a = x
    · subst ax; rw [delx_same] at q; cases q
    · rw [delx_ne ax] at q; exact q
  · unfold rhoI L2.start
    rw [List.length_append, List.length_map, List.length_cons, List.length_cons, List.length_append, List.length_map, List.length_replicate, List.length_replicate, r.length]
    omega
  · rcases key i _ h with ⟨_, z⟩ | ⟨j, d', rfl, q, z⟩
    · cases z
    · cases z
      obtain ⟨v, h1, h2⟩ := r.get q
      refine ⟨v, ?_, h2⟩
      have hj := (List.getElem?_eq_some_iff.mp h1).1
      unfold L2.start
      rw [List.getElem?_append_left (by rw [List.length_map, List.length_cons]; omega), List.getElem?_map, List.getElem?_cons_succ, h1]
      rfl
  · rcases key i _ h with ⟨rfl, rfl⟩ | ⟨j, d', rfl, q, rfl⟩
    · exact ⟨.ref x, rfl, fun a ha => by rw [List.mem_singleton.mp (show a ∈ [x] from ha)]; exact ⟨delx_same, gx⟩, rfl, dx, [], hx, .nil⟩
    · cases m
  · rcases key i _ p1 with ⟨rfl, rfl⟩ | ⟨_, _, rfl, _, rfl⟩
    · rcases key j _ p2 with ⟨rfl, rfl⟩ | ⟨_, _, rfl, _, rfl⟩
      · exact absurd rfl hij
      · cases m2
    · cases m1
/-- the promise of an __init__ out of its body -/
theorem fn_I {R : List D → List (Str × D) → Prop} {P : Program} {w : World} {mg : Str → Option Value} {base : Heap} {nm qual : Str} {st : Stmt} {f : Addr} {fd : FuncData} {N ps : List Str} {k : Nat} (F : Fun K nm qual st f fd) (Sc : FnScope N ps (defScope st)) (hn : ps.length = n + 1)
    (hbody : ∀ (cdv : Value) (A : Around) (outer : List Env) (s : Shared) (H : Hp) (E : XK), Room k (A.deeper (envOfC qual (defScope st) s.heap.objs.size f cdv)) →
      ∃ t, PSs (cxOf CX0 P w K mg base N qual (defScope st) f cdv A outer s H E).nox (defBody st) t ∧ ∀ x ds fs, R ds fs → ∃ ρ', StD K t (rhoI N x C ds) (.nx ρ') ∧ ρ'[0]? = some (some (.obj x C fs))) : FnOk P w K mg base CX0 (k + 1) f fd ps (spI K C n R) := by
  refine F.ok Sc (fun vs H Q E h => ?_) (fun cdv A outer s H vs Q E hr h => ?_)
  · obtain ⟨x, dx, us, _, _, _, h, hu, _⟩ := h
    rw [h, List.length_cons, hu, hn]
  · obtain ⟨t, h1, h2⟩ := hbody cdv A outer s H E hr
    obtain ⟨x, dx, us, G, ds, fs, rfl, hl, hx, gx, e, r, hR, q⟩ := h
    refine ⟨t, h1, ?_⟩
    have s0 := sl_startI (N := N) e hx gx r
    obtain ⟨ρ', h3, h4⟩ := h2 x ds fs hR
    refine h3 G (delx H x) G H _ _ s0 fun G' H' σ' eG s' => ?_
    obtain ⟨g1, g2, g3, dy, gs, g4, g5⟩ := s'.objAt h4
    exact q G' H' dy gs s'.go g3 g4 g5
end
/-! ### operators of own classes -/
def rOwnIn (C : Addr) (sp : Sp) (E : XK) : R2 := fun x y H Q => ∃ a dx gs, y = .ref a ∧ H a = some (.ins C dx gs) ∧ sp [.ref a, x] H (fun v H' => ∃ b, v = .bl b ∧ Q (.bl b) H') E
def rOwnCmp (C : Addr) (sp : Sp) (E : XK) : R2 := fun x y H Q => ∃ a b dx gs dy hs, x = .ref a ∧ y = .ref b ∧ H a = some (.ins C dx gs) ∧ H b = some (.ins C dy hs) ∧ sp [.ref a, .ref b] H (fun v H' => ∃ p, v = .bl p ∧ Q (.bl p) H') E
section
variable {X : Cx} {CX : CXT} {k : Nat} {C f : Addr} {fd : FuncData} {ps : List Str} {sp : Sp} {E : XK}
theorem op_inOwn (F : FnOk X.prog X.w X.K X.mg X.base CX k f fd ps sp) (hr : Room k X.A) (hs : PySem.W.findIn X.K (.ref C) "__contains__" = some (some (.ref f))) (hf : PySem.W.isFn X.K (.ref f) = true) (hb : Binds X.K fd ps []) (hx : Passes CX X E) :
    OpR X (compareOp .In) (rOwnIn C sp E) := by
  intro pins s σ H x y v u Q I rx ry h
  obtain ⟨a, dx, gs, rfl, ha, hsp⟩ := h
  cases ry
  obtain ⟨mA, J, _⟩ := ins_get I.hok ha
  obtain ⟨od, J, _⟩ := J.look
  obtain ⟨m, hF⟩ := I.fr
  refine PySem.W.in_K hF I.ok.mod.kin J hs hf ?_
  have hl := F.len _ _ _ _ hsp
  have r2 : Vals [V.ref a, x] [Value.ref a, v] := .cons rfl (.cons rx .nil)
  refine wpAny_call (codeAny_mono (F.run X.A X.stack s H ⟨[.ref a, v], []⟩ [.ref a, v] [.ref a, x] _ E hr I.env0 (by
    have := hb s [.ref a, v] I.kIn (by simpa using hl)
    simpa using this) r2 hsp) fun r s' hq => ?_)
  cases r with
  | error e => exact hx pins σ H s e s' I hq
  | ok fl =>
    cases fl with
    | ret w =>
      obtain ⟨z, H', I', rz, p, ez, q⟩ := I.after hq
      subst ez
      cases rz
      exact wpAny_truthy_bool ⟨.bl p, H', I', rfl, q⟩
    | next => exact False.elim hq
    | brk => exact False.elim hq
    | cont => exact False.elim hq
theorem rc_cmpOwn {op : CmpOp} (F : FnOk X.prog X.w X.K X.mg X.base CX k f fd ps sp) (hr : Room k X.A) (hs : PySem.W.findIn X.K (.ref C) (cmpInfo op).2.1 = some (some (.ref f))) (hf : PySem.W.isFn X.K (.ref f) = true) (hb : Binds X.K fd ps []) (hx : Passes CX X E) :
    OpR X (fun a b => richCompare op a b) (rOwnCmp C sp E) := by
  intro pins s σ H x y v u Q I rx ry h
  obtain ⟨a, b, dx, gs, dy, hs', rfl, rfl, ha, hb', hsp⟩ := h
  cases rx
  cases ry
  obtain ⟨mA, J, _⟩ := ins_get I.hok ha
  obtain ⟨mB, J', _⟩ := ins_get I.hok hb'
  obtain ⟨od, J, _⟩ := J.look
  obtain ⟨od', J', _⟩ := J'.look
  obtain ⟨m, hF⟩ := I.fr
  refine PySem.W.cmp_K (op := op) (tb := .ref C) hr.units0 hF I.ok.mod.kin J J'.type (by simp [PySem.W.notFirst]) hs hf ?_
  have hl := F.len _ _ _ _ hsp
  have r2 : Vals [V.ref a, V.ref b] [Value.ref a, Value.ref b] := .cons rfl (.cons rfl .nil)
  refine wpAny_call (codeAny_mono (F.run X.A X.stack s H ⟨[.ref a, .ref b], []⟩ [.ref a, .ref b] [.ref a, .ref b] _ E hr I.env0 (by
    have := hb s [.ref a, .ref b] I.kIn (by simpa using hl)
    simpa using this) r2 hsp) fun r s' hq => ?_)
  cases r with
  | error e => exact hx pins σ H s e s' I hq
  | ok fl =>
    cases fl with
    | ret w =>
      obtain ⟨z, H', I', rz, p, ez, q⟩ := I.after hq
      subst ez
      cases rz
      exact ⟨.bl p, H', I', rfl, q⟩
    | next => exact False.elim hq
    | brk => exact False.elim hq
    | cont => exact False.elim hq
theorem op_leOwn (F : FnOk X.prog X.w X.K X.mg X.base CX k f fd ps sp) (hr : Room k X.A) (hs : PySem.W.findIn X.K (.ref C) "__le__" = some (some (.ref f))) (hf : PySem.W.isFn X.K (.ref f) = true) (hb : Binds X.K fd ps []) (hx : Passes CX X E) : OpR X (compareOp .LtE) (rOwnCmp C sp E) := rc_cmpOwn (op := .LtE) F hr hs hf hb hx
theorem op_ltOwn (F : FnOk X.prog X.w X.K X.mg X.base CX k f fd ps sp) (hr : Room k X.A) (hs : PySem.W.findIn X.K (.ref C) "__lt__" = some (some (.ref f))) (hf : PySem.W.isFn X.K (.ref f) = true) (hb : Binds X.K fd ps []) (hx : Passes CX X E) : OpR X (compareOp .Lt) (rOwnCmp C sp E) := rc_cmpOwn (op := .Lt) F hr hs hf hb hx
theorem op_geOwn (F : FnOk X.prog X.w X.K X.mg X.base CX k f fd ps sp) (hr : Room k X.A) (hs : PySem.W.findIn X.K (.ref C) "__ge__" = some (some (.ref f))) (hf : PySem.W.isFn X.K (.ref f) = true) (hb : Binds X.K fd ps []) (hx : Passes CX X E) : OpR X (compareOp .GtE) (rOwnCmp C sp E) := rc_cmpOwn (op := .GtE) F hr hs hf hb hx
theorem op_gtOwn (F : FnOk X.prog X.w X.K X.mg X.base CX k f fd ps sp) (hr : Room k X.A) (hs : PySem.W.findIn X.K (.ref C) "__gt__" = some (some (.ref f))) (hf : PySem.W.isFn X.K (.ref f) = true) (hb : Binds X.K fd ps []) (hx : Passes CX X E) : OpR X (compareOp .Gt) (rOwnCmp C sp E) := rc_cmpOwn (op := .Gt) F hr hs hf hb hx
theorem op_eqOwn (F : FnOk X.prog X.w X.K X.mg X.base CX k f fd ps sp) (hr : Room k X.A) (hs : PySem.W.findIn X.K (.ref C) "__eq__" = some (some (.ref f))) (hf : PySem.W.isFn X.K (.ref f) = true) (hb : Binds X.K fd ps []) (hx : Passes CX X E) : OpR X (compareOp .Eq) (rOwnCmp C sp E) := rc_cmpOwn (op := .Eq) F hr hs hf hb hx
end
section
variable {K : PySem.W.Frag} {C : Addr} {E : XK} {R : List D → D → Prop} {fs gs : List (Str × D)} {d : D} {p : Bool}
theorem rd_inOwn (hr : R [.ins C fs, d] (.bl p)) : RvD K (rOwnIn C (spD K 2 R) E) d (.ins C fs) (.bl p) := fun G H x y Q e rx ry k => by
  have ry' := ry
  cases ry with
  | ins h a => exact ⟨_, _, _, rfl, e _ _ h, G, _, _, rfl, e, .cons ry' (.cons rx .nil), hr, fun v G' H' g r => by cases r; exact ⟨p, rfl, k _ G' H' g (.bl p)⟩⟩
theorem rd_cmpOwn (hr : R [.ins C fs, .ins C gs] (.bl p)) : RvD K (rOwnCmp C (spD K 2 R) E) (.ins C fs) (.ins C gs) (.bl p) := fun G H x y Q e rx ry k => by
  have ry' := ry
  have rx' := rx
  cases rx with
  | ins h a =>
    cases ry with
    | ins h2 a2 => exact ⟨_, _, _, _, _, _, rfl, rfl, e _ _ h, e _ _ h2, G, _, _, rfl, e, .cons rx' (.cons ry' .nil), hr, fun v G' H' g r => by cases r; exact ⟨p, rfl, k _ G' H' g (.bl p)⟩⟩
end
end Ax

namespace Ax
open PySem PySem.Spec PyProof.Rows L2 Evl

/-! ### defs of the top by name -/
structure Has (K : PySem.W.Frag) (mg : Str → Option Value) (x : Str) (st : Stmt) (ps : List Str) : Prop where
  ex : ∃ (f : Addr) (fd : FuncData), Fun K x x st f fd ∧ mg x = some (.ref f) ∧ Binds K fd ps [] ∧ ∀ (s : Shared) (us : List Value), us.length = ps.length → BindsTo s fd ⟨us, []⟩ (ps.zip us)
structure Cal (P : Program) (w : World) (K : PySem.W.Frag) (mg : Str → Option Value) (base : Heap) (x : Str) (k : Nat) (ps : List Str) (sp : Sp) : Prop where
  ex : ∃ (f : Addr) (fd : FuncData), FnOk P w K mg base CX0 k f fd ps sp ∧ mg x = some (.ref f) ∧ PySem.W.keepIn K (.ref f) = true ∧ Binds K fd ps []
section
variable {P : Program} {w : World} {K : PySem.W.Frag} {mg : Str → Option Value} {base : Heap} {x : Str} {k n : Nat} {ps N : List Str} {sp : Sp} {st : Stmt} {R : List D → D → Prop}
theorem Has.cal (h : Has K mg x st ps) (S : FnScope N ps (defScope st)) (hn : ps.length = n)
    (hbody : ∀ (f : Addr) (cdv : Value) (A : Around) (outer : List Env) (s : Shared) (H : Hp) (E : XK), Room k (A.deeper (envOfC x (defScope st) s.heap.objs.size f cdv)) →
      ∃ t, PSs (cxOf CX0 P w K mg base N x (defScope st) f cdv A outer s H E).nox (defBody st) t ∧ ∀ ds d, R ds d → Ends1 K t (rho0 N ds) d) : Cal P w K mg base x (k + 1) ps (spD K n R) := by
  obtain ⟨f, fd, F, m, b, _⟩ := h.ex
  exact ⟨f, fd, fn_D F S hn fun cdv A outer s H E hr => hbody f cdv A outer s H E hr, m, F.kp, b⟩
/-- a def of a class -/
structure HasM (K : PySem.W.Frag) (C : Addr) (x q : Str) (st : Stmt) (ps : List Str) (f : Addr) : Prop where
  ex : ∃ (fd : FuncData), Fun K x q st f fd ∧ Binds K fd ps []
  at_ : PySem.W.findIn K (.ref C) x = some (some (.ref f))
  fn : PySem.W.isFn K (.ref f) = true
structure CalM (P : Program) (w : World) (K : PySem.W.Frag) (mg : Str → Option Value) (base : Heap) (C : Addr) (x : Str) (k : Nat) (ps : List Str) (sp : Sp) : Prop where
  ex : ∃ (f : Addr) (fd : FuncData), FnOk P w K mg base CX0 k f fd ps sp ∧ PySem.W.findIn K (.ref C) x = some (some (.ref f)) ∧ PySem.W.isFn K (.ref f) = true ∧ PySem.W.keepIn K (.ref f) = true ∧ Binds K fd ps [] ∧ PySem.W.fnIn K f = true
theorem fn_in {q : Str} {f : Addr} {fd : FuncData} (F : Fun K x q st f fd) : PySem.W.fnIn K f = true := by
  obtain ⟨oc, od, kV, doc, pm, an, cdv, ct, osl, _, lk, _⟩ := F.ex
  unfold PySem.W.fnIn
  rw [lk]
theorem HasM.cal {C f : Addr} {q : Str} (h : HasM K C x q st ps f) (S : FnScope N ps (defScope st)) (hn : ps.length = n)
    (hbody : ∀ (cdv : Value) (A : Around) (outer : List Env) (s : Shared) (H : Hp) (E : XK), Room k (A.deeper (envOfC q (defScope st) s.heap.objs.size f cdv)) →
      ∃ t, PSs (cxOf CX0 P w K mg base N q (defScope st) f cdv A outer s H E).nox (defBody st) t ∧ ∀ ds d, R ds d → Ends1 K t (rho0 N ds) d) : CalM P w K mg base C x (k + 1) ps (spD K n R) := by
  obtain ⟨fd, F, b⟩ := h.ex
  exact ⟨f, fd, fn_D F S hn hbody, h.at_, h.fn, F.kp, b, fn_in F⟩
theorem HasM.calI {C f : Addr} {q : Str} {RI : List D → List (Str × D) → Prop} (h : HasM K C x q st ps f) (S : FnScope N ps (defScope st)) (hn : ps.length = n + 1)
    (hbody : ∀ (cdv : Value) (A : Around) (outer : List Env) (s : Shared) (H : Hp) (E : XK), Room k (A.deeper (envOfC q (defScope st) s.heap.objs.size f cdv)) →
      ∃ t, PSs (cxOf CX0 P w K mg base N q (defScope st) f cdv A outer s H E).nox (defBody st) t ∧ ∀ x ds fs, RI ds fs → ∃ ρ', StD K t (rhoI N x C ds) (.nx ρ') ∧ ρ'[0]? = some (some (.obj x C fs))) : CalM P w K mg base C x (k + 1) ps (spI K C n RI) := by
  obtain ⟨fd, F, b⟩ := h.ex
  exact ⟨f, fd, fn_I F S hn hbody, h.at_, h.fn, F.kp, b, fn_in F⟩
end
section
variable {X : Cx} {x : Str} {k : Nat} {ps : List Str} {sp : Sp} {e : Expr} {es : List Expr} {t : TA} {p pos : Pos} {C : Addr}
theorem pe_cal (c : Cal X.prog X.w X.K X.mg X.base x k ps sp) (hr : Room k X.A) (ha : PA X (e :: es) t) (hg : Gl X x := by rfl) (hdb : (x == ("__debug__" : Str)) = false := by decide) (he : starEach (e :: es) X.env = (false, eval e X.env) :: starEach es X.env := by rfl) (hpl : (backTo pos (starEach es X.env)).any (·.1) = false := by rfl) :
    PE X (.Call (.Name x p) (e :: es) [] pos) (tCall sp [] E0 t) := by
  obtain ⟨f, fd, F, m, kp, b⟩ := c.ex
  exact pe_call F hr hg m kp b .nil pass0 ha hdb he hpl
theorem pe_cal0 (c : Cal X.prog X.w X.K X.mg X.base x k ps sp) (hr : Room k X.A) (hg : Gl X x := by rfl) (hdb : (x == ("__debug__" : Str)) = false := by decide) : PE X (.Call (.Name x p) [] [] pos) (tCall sp [] E0 tNil) := by
  obtain ⟨f, fd, F, m, kp, b⟩ := c.ex
  exact pe_call0 F hr hg m kp b .nil pass0 hdb
/-- a class of the top -/
structure CCls (K : PySem.W.Frag) (mg : Str → Option Value) (x : Str) (C : Addr) : Prop where
  mgC : mg x = some (.ref C)
  cl : Cls K C
  makes : PySem.W.makesIn K C = true
  kp : PySem.W.keepIn K (.ref C) = true
theorem pe_new (M : CCls X.K X.mg x C) (c : CalM X.prog X.w X.K X.mg X.base C "__init__" k ps sp) (hr : Room (k + 1) X.A) (ha : PA X (e :: es) t) (hg : Gl X x := by rfl) (hdb : (x == ("__debug__" : Str)) = false := by decide) (he : starEach (e :: es) X.env = (false, eval e X.env) :: starEach es X.env := by rfl) (hpl : (backTo pos (starEach es X.env)).any (·.1) = false := by rfl) :
    PE X (.Call (.Name x p) (e :: es) [] pos) (tMake C sp [] E0 t) := by
  obtain ⟨f, fd, F, m, fn, kp, b, _⟩ := c.ex
  exact pe_make ⟨M.makes, m, fn, M.kp⟩ F hr hg M.mgC b .nil pass0 ha hdb he hpl
theorem op_inC (c : CalM X.prog X.w X.K X.mg X.base C "__contains__" k ps sp) (hr : Room k X.A) : OpR X (compareOp .In) (rOwnIn C sp E0) := by
  obtain ⟨f, fd, F, m, fn, kp, b, _⟩ := c.ex
  exact op_inOwn F hr m fn b pass0
theorem op_leC (c : CalM X.prog X.w X.K X.mg X.base C "__le__" k ps sp) (hr : Room k X.A) : OpR X (compareOp .LtE) (rOwnCmp C sp E0) := by
  obtain ⟨f, fd, F, m, fn, kp, b, _⟩ := c.ex
  exact op_leOwn F hr m fn b pass0
theorem op_ltC (c : CalM X.prog X.w X.K X.mg X.base C "__lt__" k ps sp) (hr : Room k X.A) : OpR X (compareOp .Lt) (rOwnCmp C sp E0) := by
  obtain ⟨f, fd, F, m, fn, kp, b, _⟩ := c.ex
  exact op_ltOwn F hr m fn b pass0
theorem op_geC (c : CalM X.prog X.w X.K X.mg X.base C "__ge__" k ps sp) (hr : Room k X.A) : OpR X (compareOp .GtE) (rOwnCmp C sp E0) := by
  obtain ⟨f, fd, F, m, fn, kp, b, _⟩ := c.ex
  exact op_geOwn F hr m fn b pass0
theorem op_gtC (c : CalM X.prog X.w X.K X.mg X.base C "__gt__" k ps sp) (hr : Room k X.A) : OpR X (compareOp .Gt) (rOwnCmp C sp E0) := by
  obtain ⟨f, fd, F, m, fn, kp, b, _⟩ := c.ex
  exact op_gtOwn F hr m fn b pass0
theorem op_eqC (c : CalM X.prog X.w X.K X.mg X.base C "__eq__" k ps sp) (hr : Room k X.A) : OpR X (compareOp .Eq) (rOwnCmp C sp E0) := by
  obtain ⟨f, fd, F, m, fn, kp, b, _⟩ := c.ex
  exact op_eqOwn F hr m fn b pass0
end
/-! ### the numbers that a law draws -/
def numT (ns : List Int) (k c : Int) : Int :=
  ((c * 48271 + k * 69621 + ns.sum * 40692 + 12345) % 2147483647 * ((c * 48271 + k * 69621 + ns.sum * 40692 + 12345) % 2147483647) + 7919 * k * ((c * 48271 + k * 69621 + ns.sum * 40692 + 12345) % 2147483647) + 1) % 2147483629 / 3
def num (ns : List Int) (k : Int) : Int :=
  if k < ns.length then (if 10 ^ 18 ≤ ns.getD k.toNat 0 then ns.getD k.toNat 0 - 10 ^ 18 else numT ns k (ns.getD k.toNat 0)) else numT ns k 0
theorem numT_nn (ns : List Int) (k c : Int) : 0 ≤ numT ns k c := Int.ediv_nonneg (Int.emod_nonneg _ (by decide)) (by decide)
theorem num_nn (ns : List Int) (k : Int) : 0 ≤ num ns k := by
  unfold num
  split
  · split
    · rename_i h
      omega
    · exact numT_nn _ _ _
  · exact numT_nn _ _ _
abbrev scr (ns : List Int) : D := .lst (ns.map .int)
def RNum (ds : List D) (d : D) : Prop := ∃ (ns : List Int) (k : Int), ds = [scr ns, .int k] ∧ 0 ≤ k ∧ d = .int (num ns k)
end Ax

namespace Ax
open PySem PySem.Spec PyProof.Rows L2 Evl

/-! ### fewer slots known -/
inductive LeR : Rho → Rho → Prop
  | nil : LeR [] []
  | c1 {x : Option S} {a b : Rho} : LeR a b → LeR (x :: a) (x :: b)
  | c0 {x : Option S} {a b : Rho} : LeR a b → LeR (none :: a) (x :: b)
theorem LeR.len : ∀ {a b : Rho}, LeR a b → a.length = b.length
  | _, _, .nil => rfl
  | _, _, .c1 h => by rw [List.length_cons, List.length_cons, h.len]
  | _, _, .c0 h => by rw [List.length_cons, List.length_cons, h.len]
theorem LeR.get : ∀ {a b : Rho}, LeR a b → ∀ (i : Nat) (x : S), a[i]? = some (some x) → b[i]? = some (some x)
  | _, _, .nil, _, _, h => h
  | _, _, .c1 h, 0, x, e => e
  | _, _, .c1 h, i + 1, x, e => h.get i x e
  | _, _, .c0 h, 0, x, e => by cases e
  | _, _, .c0 h, i + 1, x, e => h.get i x e
theorem LeR.refl : ∀ a : Rho, LeR a a
  | [] => .nil
  | x :: a => .c1 (LeR.refl a)
section
variable {K : PySem.W.Frag} {ρ ρ' ρ'' : Rho} {ta tb tc te : TE} {a b d : D} {ds es : List D} {t u : TS} {o : Out} {c : TT} {p : Bool} {i j : Nat} {m n : Int}
theorem sd_wk (h : StD K t ρ (.nx ρ')) (l : LeR ρ'' ρ') : StD K t ρ (.nx ρ'') := sd_weak h l.len l.get
theorem sd_pre (l : LeR ρ' ρ) (h : StD K t ρ' o) : StD K t ρ o := fun G0 H0 G H σ W s k => h G0 H0 G H σ W (s.weak l.len l.get) k
theorem sd_ifI (h : EvB K c ρ p) (h1 : EvD K te ρ (.int m)) (h0 : ρ[i]? = some (some (.dat (.int n)))) : StD K (tIfS c (tAsg te (gName i)) tNext) ρ (.nx (ρ.set i (some (.dat (.int (if p = true then m else n)))))) := by
  cases p with
  | true => exact sd_T h (sd_asg h1)
  | false =>
    have e : ρ.set i (some (.dat (.int n))) = ρ := by
      apply List.ext_getElem?
      intro k
      by_cases hk : i = k
      · subst hk
        rw [List.getElem?_set_self (List.getElem?_eq_some_iff.mp h0).1, h0]
      · rw [List.getElem?_set_ne hk]
    have := sd_F (K := K) (ρ := ρ) (c := c) (t := tAsg te (gName i)) (u := tNext) h sd_next
    rw [← e] at this
    show StD K _ ρ (.nx (ρ.set i (some (.dat (.int n)))))
    rw [e] at this ⊢
    exact this
/-- .. any datum -/
theorem sd_ifD (h : EvB K c ρ p) (h1 : EvD K te ρ a) (h0 : ρ[i]? = some (some (.dat b))) : StD K (tIfS c (tAsg te (gName i)) tNext) ρ (.nx (ρ.set i (some (.dat (if p = true then a else b))))) := by
  cases p with
  | true => exact sd_T h (sd_asg h1)
  | false =>
    have e : ρ.set i (some (.dat b)) = ρ := by
      apply List.ext_getElem?
      intro k
      by_cases hk : i = k
      · subst hk
        rw [List.getElem?_set_self (List.getElem?_eq_some_iff.mp h0).1, h0]
      · rw [List.getElem?_set_ne hk]
    show StD K _ ρ (.nx (ρ.set i (some (.dat b))))
    rw [e]
    exact sd_F h sd_next
/-- a test that is not met -/
theorem sd_skip (h : EvB K c ρ p) (e : p = false) : StD K (tIfS c t tNext) ρ (.nx ρ) := sd_ifn h e sd_next
/-- loops that leave the slots as they stand -/
theorem sd_forLc (he : EvD K te ρ (.lst ds)) (hs : ∀ (n : Nat) (d : D), ds[n]? = some d → Turn K t (ρ.set j (some (.dat d))) ρ) : StD K (tFor (iList K te) (gName j) t) ρ (.nx ρ) := sd_forL he (fun _ => ρ) rfl fun n d _ h => hs n d h
theorem sd_forTc (he : EvD K te ρ (.tup ds)) (hs : ∀ (n : Nat) (d : D), ds[n]? = some d → Turn K t (ρ.set j (some (.dat d))) ρ) : StD K (tFor (iTup K te) (gName j) t) ρ (.nx ρ) := sd_forT he (fun _ => ρ) rfl fun n d _ h => hs n d h
theorem sd_forRc {ta : TA} {n : Int} (he : EvS K ta ρ [.int n]) (hn : n ≤ 1000000) (h62 : -1000000 ≤ n) (hs : ∀ k : Nat, k < n.toNat → Turn K t (ρ.set j (some (.dat (.int (k : Int))))) ρ) : StD K (tFor (iRng1 ta) (gName j) t) ρ (.nx ρ) := sd_forR he hn h62 (fun _ => ρ) rfl fun k h => hs k h
theorem turn_nx (h : StD K t ρ (.nx ρ')) (l : LeR ρ'' ρ') : Turn K t ρ ρ'' := .inl (sd_wk h l)
theorem ev_eqE (ha : EvR K ta ρ a) (hb : EvR K tb ρ b) (oa : a.ok) (ob : b.ok) : EvD K (tOp (rEqD K) ta tb) ρ (.bl (eqD a b)) := ev_opS ha hb (rs_eq oa ob)
theorem ev_neE (ha : EvR K ta ρ a) (hb : EvR K tb ρ b) (oa : a.ok) (ob : b.ok) : EvD K (tOp (rNeD K) ta tb) ρ (.bl (!eqD a b)) := ev_opS ha hb (rs_ne oa ob)
theorem ev_neg {i : Int} (ha : EvD K ta ρ (.int i)) : EvD K (tUn (rU fun i => .int (-i)) ta) ρ (.int (-i)) := fun G0 H0 G H σ Q s k => ha G0 H0 G H σ _ s fun v G1 H1 g1 r1 => by
  cases r1
  exact ⟨i, rfl, k _ G1 H1 g1 (.int _)⟩
theorem ev_chainI {x y z : Int} {f g : Int → Int → Bool} (ha : EvD K ta ρ (.int x)) (hb : EvD K tb ρ (.int y)) (hc : EvD K tc ρ (.int z)) : EvD K (tChain (rI0 fun i j => .bl (f i j)) (rI0 fun i j => .bl (g i j)) ta tb tc) ρ (.bl (f x y && g y z)) :=
  ev_chain ha hb (rs_I0b (g := f)) (fun _ => hc) fun _ => rs_I0b (g := g)
end
theorem RNum.mk {ns : List Int} {k : Int} (h : 0 ≤ k) : RNum [scr ns, .int k] (.int (num ns k)) := ⟨ns, k, rfl, h, rfl⟩
/-! ### attributes -/
theorem look_hd {α : Type} {f : Str} {d : α} {r : List (Str × α)} : List.lookup f ((f, d) :: r) = some d := by
  rw [List.lookup_cons, beq_self_eq_true]
theorem look_tl {α : Type} {f g : Str} {d : α} {r : List (Str × α)} (h : ¬ f = g) : List.lookup f ((g, d) :: r) = List.lookup f r := by
  rw [List.lookup_cons, beq_eq_false_iff_ne.mpr h]
theorem put_nil {f : Str} {d : D} : putD f d [] = [(f, d)] := rfl
theorem put_tl {f g : Str} {d e : D} {r : List (Str × D)} (h : ¬ g = f) : putD f d ((g, e) :: r) = (g, e) :: putD f d r := by
  show (if g = f then _ else _) = _
  rw [if_neg h]
/-! ### isinstance of written types -/
section
variable {K : PySem.W.Frag}
theorem isi_int_int {i : Int} : RcS K (rIsi K) [.int i, .cls (.ty "int")] (.bl true) := rs_isi (.int i) (.ty _) (kit_ty (by decide +kernel))
theorem isi_int_bool {i : Int} : RcS K (rIsi K) [.int i, .cls (.ty "bool")] (.bl false) := rs_isi (.int i) (.ty _) (kit_ty (by decide +kernel))
theorem isi_bl_bool {i : Bool} : RcS K (rIsi K) [.bl i, .cls (.ty "bool")] (.bl true) := rs_isi (.bl i) (.ty _) (kit_ty (by decide +kernel))
theorem isi_bl_int {i : Bool} : RcS K (rIsi K) [.bl i, .cls (.ty "int")] (.bl true) := rs_isi (.bl i) (.ty _) (kit_ty (by decide +kernel))
theorem isi_tup_tup {ds : List D} : RcS K (rIsi K) [.tup ds, .cls (.ty "tuple")] (.bl true) := rs_isi (.tup ds) (.ty _) (kit_ty (by decide +kernel))
theorem isi_lst_tup {ds : List D} : RcS K (rIsi K) [.lst ds, .cls (.ty "tuple")] (.bl false) := rs_isi (.lst ds) (.ty _) (kit_ty (by decide +kernel))
end
/-! ### the law at last -/
def RLaw (ds : List D) (d : D) : Prop := ∃ ns : List Int, ds = [scr ns] ∧ ns.length ≤ 63 ∧ d = .bl true
theorem law_sp {K : PySem.W.Frag} {H : Hp} {a : Addr} {ns : List Int} (hl : ns.length ≤ 63) (hS : SqL K H a (ns.map V.int)) : spD K 1 RLaw [.ref a] H (fun v _ => v = .bl true) fun _ _ _ => False :=
  ⟨H, [scr ns], .bl true, rfl, Ex.refl H, .cons (.lst hS RpA.ints) .nil, ⟨ns, rfl, hl, rfl⟩, fun v G' H' _ r => by cases r; rfl⟩
/-! ### from the heap behind the top -/
section
variable {K : PySem.W.Frag} {h : Heap} {mg : Str → Option Value} {x m : Str} {st : Stmt} {ps : List Str} {f C : Addr} {oc : Value} {od an : Option Addr} {osl : Array (Option Value)} {kV doc pm cdv ct : Value}
theorem has_mk (x : Str) (st : Stmt) (ps : List Str) (X : K.In h) (G : h.Ns mainGlobals mg)
    (hb : ∀ (kV doc pm : Value) (an : Option Addr) (cdv ct : Value) (us : List Value), us.length = ps.length → bindArgs (PySem.W.fnOf x x (defArgs st) (defBody st) (defScope st) .none kV doc pm an cdv ct) ⟨us, []⟩ = pure (ps.zip us))
    (a : PySem.W.nsIn K mainGlobals x = some (some (.ref f))) (l : K.lookup f = some ⟨oc, od, .func (PySem.W.fnOf x x (defArgs st) (defBody st) (defScope st) .none kV doc pm an cdv ct), osl⟩)
    (c : PySem.W.codeIn K cdv x = true) (k : PySem.W.keepIn K (.ref f) = true) : Has K mg x st ps := by
  have F := fun_mk (st := st) l c k
  exact ⟨f, _, F, PySem.W.mg_of X G a, F.binds hb, fun s us hl => .of_eq (hb kV doc pm an cdv ct us hl)⟩
theorem hasM_mk (m q : Str) (st : Stmt) (ps : List Str)
    (hb : ∀ (kV doc pm : Value) (an : Option Addr) (cdv ct : Value) (us : List Value), us.length = ps.length → bindArgs (PySem.W.fnOf m q (defArgs st) (defBody st) (defScope st) .none kV doc pm an cdv ct) ⟨us, []⟩ = pure (ps.zip us))
    (a : PySem.W.findIn K (.ref C) m = some (some (.ref f))) (i : PySem.W.isFn K (.ref f) = true) (l : K.lookup f = some ⟨oc, od, .func (PySem.W.fnOf m q (defArgs st) (defBody st) (defScope st) .none kV doc pm an cdv ct), osl⟩)
    (c : PySem.W.codeIn K cdv q = true) (k : PySem.W.keepIn K (.ref f) = true) : ∃ f, HasM K C m q st ps f := by
  have F := fun_mk (st := st) l c k
  exact ⟨f, ⟨_, F, F.binds hb⟩, a, i⟩
theorem ccls_mk (x : Str) (X : K.In h) (G : h.Ns mainGlobals mg) (a : PySem.W.nsIn K mainGlobals x = some (some (.ref C)))
    (pg : PySem.W.plainGet K C Str.empty = true) (hd : PySem.W.hasDictIn K C = true) (po : PySem.W.plainOver K C = true) (sa : PySem.W.findIn K (.ref C) "__setattr__" = some (some (.builtin "object.__setattr__"))) (mk : PySem.W.makesIn K C = true) (kc : PySem.W.keepIn K (.ref C) = true) : CCls K mg x C :=
  ⟨PySem.W.mg_of X G a, ⟨pg, hd, po, sa⟩, mk, kc⟩
theorem na_mk {f : Str} (h : PySem.W.findIn K (.ref C) f = some none) : NoAttr K C f := h
/-- the law's own end -/
theorem Has.fin {P : Program} {w : World} {N : List Str} {k : Nat} {fa : Addr} (H0 : Has K mg "law" st ["_law_script"]) (hm : mg "law" = some (.ref fa)) (S : FnScope N ["_law_script"] (defScope st))
    (hbody : ∀ base : Heap, K.In base → base.Ns mainGlobals mg → ∀ (f : Addr) (cdv : Value) (A : Around) (outer : List Env) (s : Shared) (H : Hp) (E : XK), Room k (A.deeper (envOfC "law" (defScope st) s.heap.objs.size f cdv)) →
      ∃ t, PSs (cxOf CX0 P w K mg base N "law" (defScope st) f cdv A outer s H E).nox (defBody st) t ∧ ∀ ds d, RLaw ds d → Ends1 K t (rho0 N ds) d) :
    ∃ fd : FuncData, (∀ (s : Shared) (u : Value), BindsTo s fd ⟨[u], []⟩ [("_law_script", u)]) ∧ ∀ base : Heap, K.In base → base.Ns mainGlobals mg → FnOk P w K mg base CX0 (k + 1) fa fd ["_law_script"] (spD K 1 RLaw) := by
  obtain ⟨f, fd, F, m, b, bt⟩ := H0.ex
  rw [hm] at m
  cases m
  exact ⟨fd, fun s u => bt s [u] rfl, fun base h1 h2 => fn_D F S rfl fun cdv A outer s H E hr => hbody base h1 h2 fa cdv A outer s H E hr⟩
theorem walk_law {l : PySem.W.OpenLaw} {q : Program} {loose : List Str} {XP : (Str → Option Value) → Heap → Prop} {YP : World → Heap → Prop} {d : DefRec} {K : Params → PySem.W.Frag} {k : Nat} (hk : Room k callerA) (hn : l.most = some 63) (hdf : d.params.defaults = [])
    (hY : ∀ (w : World) (h : Heap), YP w h → (K w.params).In h)
    (F : ∀ (w : World) (mg : Str → Option Value) (fa : Addr) (h : Heap), (K w.params).In h → h.Ns mainGlobals mg → mg d.name = some (.ref fa) →
      ∃ fd : FuncData, (∀ (s : Shared) (u : Value), BindsTo s fd ⟨[u], []⟩ [("_law_script", u)]) ∧ ∀ base : Heap, (K w.params).In base → base.Ns mainGlobals mg → FnOk l.prog w (K w.params) mg base CX0 k fa fd ["_law_script"] (spD (K w.params) 1 RLaw)) :
    PySem.W.WalkO q loose XP YP l.row.toRowW d [] (fun f vs => PySem.call f vs) :=
  L2.walk_of (n := 63) (k := k) (x := "_law_script") (CX := fun _ => CX0) (sp := fun w => spD (K w.params) 1 RLaw) hn (by decide) hdf hk hY F (fun _ _ a ns hl _ hS => law_sp hl hS) fun _ _ _ _ _ z => z
end
end Ax
namespace Ax
open PySem PySem.Spec PyProof.Rows L2 Evl
section
variable {K : PySem.W.Frag} {ρ ρ' : Rho} {t u : TS} {o : Out} {c : TT} {p : Bool}
/-- behind a statement some slots of a kind -/
theorem sd_seqE {ι : Type} (P : ι → Prop) (f : ι → Rho) (h : ∃ i, P i ∧ StD K t ρ (.nx (f i))) (k : ∀ i, P i → StD K u (f i) o) : StD K (tSeq t u) ρ o := by
  obtain ⟨i, h1, h2⟩ := h
  exact sd_seq h2 (k i h1)
theorem sd_ifE {ι : Type} (P : ι → Prop) (f : ι → Rho) (h : EvB K c ρ p) (h1 : p = true → ∃ i, P i ∧ StD K t ρ (.nx (f i))) (h2 : p = false → ∃ i, P i ∧ StD K u ρ (.nx (f i))) : ∃ i, P i ∧ StD K (tIfS c t u) ρ (.nx (f i)) := by
  cases p with
  | true =>
    obtain ⟨i, a, b⟩ := h1 rfl
    exact ⟨i, a, sd_T h b⟩
  | false =>
    obtain ⟨i, a, b⟩ := h2 rfl
    exact ⟨i, a, sd_F h b⟩
end
end Ax
namespace Ax
open PySem PySem.Spec PyProof.Rows L2 Evl
theorem cls_mk {K : PySem.W.Frag} {C : Addr} (pg : PySem.W.plainGet K C Str.empty = true) (hd : PySem.W.hasDictIn K C = true) (po : PySem.W.plainOver K C = true) (sa : PySem.W.findIn K (.ref C) "__setattr__" = some (some (.builtin "object.__setattr__"))) : Cls K C := ⟨pg, hd, po, sa⟩
theorem ty_ins {K : PySem.W.Frag} {C : Addr} (cl : Cls K C) (ha : PySem.W.findIn K (.ref C) "__class__" = some (some (.builtin "object.__class__")))
      (hn : PySem.W.specialIn K (.builtin "object.__class__") "__get__" = some (some (.builtin "getset_descriptor.__get__"))) (htk : PySem.W.takesIn K (.builtin "object.__class__") = some true)
      (hm : PySem.W.mroIn K C (.type "object") = some true) : ∀ fs : List (Str × D), Ty K (.ins C fs) (.ref C) := fun _ => .ins cl ha hn htk hm
end Ax
namespace Ax
open PySem PySem.Spec PyProof.Rows L2 Evl
/-- a def that hands back something of a kind -/
def spE (K : PySem.W.Frag) (n : Nat) (A : List D → Prop) (R : List D → D → Prop) : Sp := fun vs H Q _ => ∃ (G : Hp) (ds : List D), vs.length = n ∧ Ex G H ∧ RpA K G vs ds ∧ A ds ∧ ∀ d v G' H', R ds d → Go G H G' H' → Rp K G' v d → Q v H'
section
variable {P : Program} {w : World} {K : PySem.W.Frag} {mg : Str → Option Value} {base : Heap} {x qual : Str} {k n : Nat} {ps N : List Str} {st : Stmt} {A A_ : List D → Prop} {R : List D → D → Prop} {ρ : Rho} {ds : List D}
theorem fn_E {f : Addr} {fd : FuncData} (F : Fun K x qual st f fd) (S : FnScope N ps (defScope st)) (hn : ps.length = n)
    (hbody : ∀ (cdv : Value) (A : Around) (outer : List Env) (s : Shared) (H : Hp) (E : XK), Room k (A.deeper (envOfC qual (defScope st) s.heap.objs.size f cdv)) →
      ∃ t, PSs (cxOf CX0 P w K mg base N qual (defScope st) f cdv A outer s H E).nox (defBody st) t ∧ ∀ ds, A_ ds → ∃ d, R ds d ∧ Ends1 K t (rho0 N ds) d) : FnOk P w K mg base CX0 (k + 1) f fd ps (spE K n A_ R) := by
  refine F.ok S (fun vs H Q E h => ?_) (fun cdv A outer s H vs Q E hr h => ?_)
  · obtain ⟨_, _, h, _⟩ := h
    rw [h, hn]
  · obtain ⟨t, h1, h2⟩ := hbody cdv A outer s H E hr
    obtain ⟨G, ds, hl, e, r, hA, q⟩ := h
    refine ⟨t, h1, ?_⟩
    have s0 := sl_start (N := N) e r
    obtain ⟨d, hd, h⟩ := h2 ds hA
    cases h with
    | rt h => exact h G H G H _ _ s0 fun v G' H' g r => q d v G' H' hd g r
    | nx h => exact h G H G H _ _ s0 fun G' H' σ' _ s' => q .non .non G' H' hd s'.go .non
theorem Has.calE (h : Has K mg x st ps) (S : FnScope N ps (defScope st)) (hn : ps.length = n)
    (hbody : ∀ (f : Addr) (cdv : Value) (A : Around) (outer : List Env) (s : Shared) (H : Hp) (E : XK), Room k (A.deeper (envOfC x (defScope st) s.heap.objs.size f cdv)) →
      ∃ t, PSs (cxOf CX0 P w K mg base N x (defScope st) f cdv A outer s H E).nox (defBody st) t ∧ ∀ ds, A_ ds → ∃ d, R ds d ∧ Ends1 K t (rho0 N ds) d) : Cal P w K mg base x (k + 1) ps (spE K n A_ R) := by
  obtain ⟨f, fd, F, m, b, _⟩ := h.ex
  exact ⟨f, fd, fn_E F S hn fun cdv A outer s H E hr => hbody f cdv A outer s H E hr, m, F.kp, b⟩
theorem sd_asgE {E : XK} {ta : TA} {u : TS} {o : Out} {i : Nat} (h : EvS K ta ρ ds) (hn : ds.length = n) (ha : A ds) (k : ∀ d, R ds d → StD K u (ρ.set i (some (.dat d))) o) : StD K (tSeq (tAsg (tCall (spE K n A R) [] E ta) (gName i)) u) ρ o := fun G0 H0 G H σ W s q =>
  h G0 H0 G H σ _ s fun vs G1 H1 g1 r1 => ⟨G1, ds, by rw [List.append_nil, r1.length]; exact hn, g1.gh, by rw [List.append_nil]; exact r1, ha, fun d v G' H' hd g r =>
    k d hd G0 H0 G' H' _ W ((s.step (g1.trans g)).set r) (q.mono (g1.trans g).gg)⟩
end
end Ax
namespace Ax
open PySem PySem.Spec PyProof.Rows L2 Evl
/-- a body that hands back something of R -/
def StX (K : PySem.W.Frag) (t : TS) (ρ : Rho) (R : D → Prop) : Prop := ∃ d, R d ∧ StD K t ρ (.rt d)
section
variable {K : PySem.W.Frag} {ρ ρ' : Rho} {t u : TS} {R : D → Prop} {te : TE} {d : D}
theorem stx_seq (h : StD K t ρ (.nx ρ')) (k : StX K u ρ' R) : StX K (tSeq t u) ρ R := let ⟨d, a, b⟩ := k; ⟨d, a, sd_seq h b⟩
theorem stx_seqR (h : StX K t ρ R) : StX K (tSeq t u) ρ R := let ⟨d, a, b⟩ := h; ⟨d, a, sd_seqR b⟩
theorem stx_seqE {ι : Type} (P : ι → Prop) (f : ι → Rho) (h : ∃ i, P i ∧ StD K t ρ (.nx (f i))) (k : ∀ i, P i → StX K u (f i) R) : StX K (tSeq t u) ρ R := by
  obtain ⟨i, h1, h2⟩ := h
  exact stx_seq h2 (k i h1)
theorem stx_ret (h : EvD K te ρ d) (r : R d) : StX K (tRet te) ρ R := ⟨d, r, sd_ret h⟩
theorem StX.ends {ρ : Rho} (h : StX K t ρ R) : ∃ d, R d ∧ Ends1 K t ρ d := let ⟨d, a, b⟩ := h; ⟨d, a, .rt b⟩
end
end Ax
namespace Ax
open PySem PySem.Spec PyProof.Rows L2 Evl
theorem exI {K : PySem.W.Frag} {ι : Type} {f : ι → Rho} {ρ : Rho} {t : TS} {i : ι} (h : StD K t ρ (.nx (f i))) : ∃ i, True ∧ StD K t ρ (.nx (f i)) := ⟨i, trivial, h⟩
end Ax
namespace Ax
open PySem PySem.Spec PyProof.Rows L2 Evl
theorem kit_self {K : PySem.W.Frag} {C : Addr} : PySem.W.kitOne K (.ref C) (.ref C) = some true := by
  unfold PySem.W.kitOne
  rw [if_pos (beq_self_eq_true _)]
end Ax
namespace Ax
open PySem PySem.Spec PyProof.Rows L2 Evl
theorem exI2 {K : PySem.W.Frag} {α β : Type} {f : α × β → Rho} {ρ : Rho} {t : TS} {a : α} {b : β} (h : StD K t ρ (.nx (f (a, b)))) : ∃ i, True ∧ StD K t ρ (.nx (f i)) := ⟨(a, b), trivial, h⟩
end Ax
namespace Ax
open PySem PySem.Spec PyProof.Rows L2 Evl
section
variable {X : Cx} {x m : Str} {k : Nat} {ps : List Str} {sp : Sp} {e o : Expr} {es : List Expr} {t : TA} {ta : TE} {p pos apos : Pos} {C : Addr}
theorem pe_methC {pl : Sem Bool} (he : PE X o ta) (M : CCls X.K X.mg x C) (c : CalM X.prog X.w X.K X.mg X.base C m k ps sp) (hr : Room k X.A) (ha : PA X (e :: es) t)
    (hst : starEach (e :: es) X.env = (false, eval e X.env) :: starEach es X.env := by rfl) (hpl : (backTo pos (starEach es X.env)).any (·.1) = false := by rfl)
    (ht : eval (.Call (.Attribute o m apos) (e :: es) [] pos) X.env = (do
      let ov ← eval o X.env
      standAt apos.atName
      let (f, first) ← holding [ov] (getMethod ov m pl)
      callWith pos f first (backTo pos (starEach (e :: es) X.env)) (backToKw pos (keywordEach [] X.env))) := by rfl) :
    PE X (.Call (.Attribute o m apos) (e :: es) [] pos) (tMeth C m sp [] E0 ta t) := by
  obtain ⟨f, fd, F, m, fn, kp, b, _⟩ := c.ex
  exact pe_meth he M.cl ⟨m, fn, kp⟩ F hr b .nil pass0 ha hst hpl ht
theorem pe_methC0 {pl : Sem Bool} (he : PE X o ta) (M : CCls X.K X.mg x C) (c : CalM X.prog X.w X.K X.mg X.base C m k ps sp) (hr : Room k X.A)
    (ht : eval (.Call (.Attribute o m apos) [] [] pos) X.env = (do
      let ov ← eval o X.env
      standAt apos.atName
      let (f, first) ← holding [ov] (getMethod ov m pl)
      callWith pos f first (backTo pos (starEach [] X.env)) (backToKw pos (keywordEach [] X.env))) := by rfl) :
    PE X (.Call (.Attribute o m apos) [] [] pos) (tMeth C m sp [] E0 ta tNil) := by
  obtain ⟨f, fd, F, m, fn, kp, b, _⟩ := c.ex
  exact pe_meth0 he M.cl ⟨m, fn, kp⟩ F hr b .nil pass0 ht
end
end Ax

namespace Ax
open PySem PySem.Spec PyProof.Rows L2 Evl
/-! ### slices -/
def cutD (ds : List D) (lo hi : Option Int) : List D := (ds.drop (HT.sIx ds.length 0 lo)).take (HT.sIx ds.length ds.length hi - HT.sIx ds.length 0 lo)
def rSlX (K : PySem.W.Frag) : V → Option Int → Option Int → Hp → VK → Prop := fun x lo hi H Q => rSlL K x lo hi H Q ∨ (rSlA K x lo hi H Q ∨ rSlS x lo hi H Q)
theorem sl_any {X : Cx} : SlR X (rSlX X.K) := sl_list.or (sl_tupA.or sl_str)
section
variable {K : PySem.W.Frag} {ρ : Rho} {te tf : TE} {tl th : TO} {ds es : List D} {lo hi : Option Int} {d : D} {ta : TA} {C : Addr} {fs : List (Str × D)} {n : Nat}
theorem cut_rp {H : Hp} {vs : List V} (r : RpA K H vs ds) : RpA K H (cutV vs lo hi) (cutD ds lo hi) := by
  unfold cutV cutD
  rw [r.length]
  exact (r.drop _).take _
theorem eo_no : EvO K tNoPart ρ none := fun G0 H0 G H σ Q s k => k G H (Go.refl s.gh)
theorem eo_so {i : Int} (h : EvD K te ρ (.int i)) : EvO K (tPart te) ρ (some i) := fun G0 H0 G H σ Q s k => h G0 H0 G H σ _ s fun v G1 H1 g1 r1 => by
  cases r1
  exact ⟨i, rfl, k G1 H1 g1⟩
theorem ev_slT (h : EvD K te ρ (.tup ds)) (h1 : EvO K tl ρ lo) (h2 : EvO K th ρ hi) : EvD K (tSl (rSlX K) te tl th) ρ (.tup (cutD ds lo hi)) := fun G0 H0 G H σ Q s k =>
  h G0 H0 G H σ _ s fun v G1 H1 g1 r1 => h1 G0 H0 G1 H1 σ _ (s.step g1) fun G2 H2 g2 => h2 G0 H0 G2 H2 σ _ (s.step (g1.trans g2)) fun G3 H3 g3 => by
    have r3 := r1.mono (g2.gg.trans g3.gg)
    have g := (g1.trans g2).trans g3
    cases r3 with
    | tup hs a =>
      rename_i p xs
      refine .inr (.inl ⟨p, xs, rfl, ex_t g3.gh hs, fun z => ?_, fun _ q hq => ?_⟩)
      · refine k _ G3 H3 g (.tup hs ?_)
        have e : cutV xs lo hi = xs := by
          unfold cutV
          rw [z.1, z.2, List.drop_zero, Nat.sub_zero, List.take_length]
        have := cut_rp (lo := lo) (hi := hi) a
        rw [e] at this
        exact this
      · have w := Go.new (o := .tup (cutV xs lo hi)) g3.gh hq
        exact k _ _ _ (g.trans w) (.tup (.inl (.inl upd_same)) ((cut_rp a).mono w.gg))
theorem en_slL (h : EvD K te ρ (.lst ds)) (h1 : EvO K tl ρ lo) (h2 : EvO K th ρ hi) : EvN K (tSl (rSlX K) te tl th) ρ (cutD ds lo hi) := fun G0 H0 G H σ Q s k =>
  h G0 H0 G H σ _ s fun v G1 H1 g1 r1 => h1 G0 H0 G1 H1 σ _ (s.step g1) fun G2 H2 g2 => h2 G0 H0 G2 H2 σ _ (s.step (g1.trans g2)) fun G3 H3 g3 => by
    have r3 := r1.mono (g2.gg.trans g3.gg)
    cases r3 with
    | lst hs a => exact .inl ⟨_, _, rfl, ex_l g3.gh hs, fun q hq => k q _ G3 H3 ((g1.trans g2).trans g3) hq (cut_rp a)⟩
theorem ev_slS {z : Str} (h : EvD K te ρ (.str z)) (h1 : EvO K tl ρ lo) (h2 : EvO K th ρ hi) (hz : z.length ≤ 100000) : EvD K (tSl (rSlX K) te tl th) ρ (.str (cutS z lo hi)) := fun G0 H0 G H σ Q s k =>
  h G0 H0 G H σ _ s fun v G1 H1 g1 r1 => h1 G0 H0 G1 H1 σ _ (s.step g1) fun G2 H2 g2 => h2 G0 H0 G2 H2 σ _ (s.step (g1.trans g2)) fun G3 H3 g3 => by
    cases r1
    exact .inr (.inr ⟨z, rfl, sz_of hz, k _ G3 H3 ((g1.trans g2).trans g3) (.str _)⟩)
/-! ### an instance is called -/
/-- which promise the __call__ of a class has -/
def tCallI (S : Addr → Sp → Prop) (tf : TE) (t : TA) : TE := fun σ H Q => tf σ H fun y H1 => ∃ a C sp, y = V.ref a ∧ S C sp ∧ t σ H1 fun vs H2 => (∃ dx gs, H2 a = some (.ins C dx gs)) ∧ sp (V.ref a :: vs) H2 Q E0
theorem ev_callI {S : Addr → Sp → Prop} {R : List D → D → Prop} (hf : EvD K tf ρ (.ins C fs)) (h : EvS K ta ρ ds) (hS : S C (spD K n R)) (hn : ds.length + 1 = n) (hr : R (.ins C fs :: ds) d) : EvD K (tCallI S tf ta) ρ d := fun G0 H0 G H σ Q s k =>
  hf G0 H0 G H σ _ s fun v G1 H1 g1 r1 => by
    have r1' := r1
    cases r1 with
    | ins q a =>
      refine ⟨_, C, _, rfl, hS, ?_⟩
      refine h G0 H0 G1 H1 σ _ (s.step g1) fun vs G2 H2 g2 r2 => ⟨⟨_, _, (g2.gg.trans g2.gh) _ _ q⟩, ?_⟩
      refine ⟨G2, _, d, ?_, g2.gh, .cons (r1'.mono g2.gg) r2, hr, fun w G' H' g r => k w G' H' ((g1.trans g2).trans g) r⟩
      rw [List.length_cons, r2.length]
      exact hn
/-- a new instance of a class without an __init__ -/
def tMk0 (C : Addr) : TE := fun σ H Q => ∀ x dx, H x = none → H dx = none → dx ≠ x → Q (.ref x) (upd (upd H dx (.own x)) x (.ins C dx []))
theorem ev_mk0 : EvD K (tMk0 C) ρ (.ins C []) := fun G0 H0 G H σ Q s k => by
  intro x dx hx hdx ne
  have w := Go.own (o := .own x) s.gh hdx
  have hx2 : (upd H dx (.own x)) x = none := by rw [upd_ne (Ne.symm ne)]; exact hx
  have w2 := Go.new (o := .ins C dx []) w.gh hx2
  exact k _ _ _ (w.trans w2) (.ins upd_same .nil)
/-- .. with defaults -/
theorem ev_newD {E : XK} {dvs : List V} {des : List D} {R : List D → List (Str × D) → Prop} (hd : ∀ G, RpA K G dvs des) (hn : des.length = n) (hr : R des fs) : EvD K (tMake C (spI K C n R) dvs E tNil) ρ (.ins C fs) := fun G0 H0 G H σ Q s k => by
  have key := ev_new (K := K) (ρ := ρ) (C := C) (fs := fs) (n := n) (E := E) (R := R) (t := fun _ H Q => Q dvs H) (ds := des) (fun G0 H0 G H σ Q s k => k dvs G H (Go.refl s.gh) (hd G)) hn hr
  have := key G0 H0 G H σ Q s k
  intro x dx h1 h2 h3
  have z := this x dx h1 h2 h3
  rw [List.append_nil] at z
  exact z
end
section
variable {X : Cx} {x : Str} {k : Nat} {ps : List Str} {sp : Sp} {e fe : Expr} {es : List Expr} {t : TA} {tf : TE} {p pos : Pos} {C : Addr}
theorem pe_callI {S : Addr → Sp → Prop} (hf : PE X fe tf) (c : ∀ C sp, S C sp → ∃ ps, CalM X.prog X.w X.K X.mg X.base C "__call__" k ps sp) (hr : Room k X.A) (ha : PA X (e :: es) t)
    (ht : eval (.Call fe (e :: es) [] pos) X.env = (do callWith pos (← eval fe X.env) [] (backTo pos (starEach (e :: es) X.env)) (backToKw pos (keywordEach [] X.env))) := by rfl)
    (he : starEach (e :: es) X.env = (false, eval e X.env) :: starEach es X.env := by rfl) (hpl : (backTo pos (starEach es X.env)).any (·.1) = false := by rfl) : PE X (.Call fe (e :: es) [] pos) (tCallI S tf t) := by
  refine ⟨fun pins s σ H Q I h => ?_⟩
  refine Call_ (thn (hf.run pins s σ H _ I h) fun u s1 ⟨y, H1, I1, ry, a, C, sp, ey, hS, q⟩ => ?_) ht
  subst ey
  obtain rfl : u = Value.ref a := ry
  obtain ⟨ps, cm⟩ := c C sp hS
  obtain ⟨f, fd, F, m, fn, kp, b, fi⟩ := cm.ex
  refine _root_.StX.callO_with (thn (ha.run pos pins s1 σ H1 _ I1 q) fun us s2 ⟨vs, H2, I2, r, ⟨dx, gs, hi⟩, q2⟩ => ?_) he hpl
  obtain ⟨mA, O, _⟩ := ins_get I2.hok hi
  obtain ⟨od, J, _⟩ := O.look
  refine ⟨⟨C, _, _, J, rfl⟩, ?_⟩
  have hl := F.len _ _ _ _ q2
  have r2 : Vals (V.ref a :: vs) (Value.ref a :: us) := .cons rfl r
  refine wpAny_call (PySem.W.kco_code I2.kIn J rfl m fn fi (codeAny_mono (F.run X.A X.stack s2 H2 ⟨.ref a :: us, []⟩ (.ref a :: us) (.ref a :: vs) Q E0 hr I2.env0 (by
    have := b s2 (.ref a :: us) I2.kIn (by rw [List.append_nil, ← r2.length]; exact hl)
    simpa using this) r2 q2) fun r s' hq => ?_))
  cases r with
  | error e => exact hq.elim
  | ok fl =>
    cases fl with
    | ret w => exact I2.after hq
    | next => exact False.elim hq
    | brk => exact False.elim hq
    | cont => exact False.elim hq
theorem pe_mk0 (M : CCls X.K X.mg x C) (hi : PySem.W.findIn X.K (.ref C) "__init__" = some (some (.builtin "object.__init__"))) (hg : Gl X x := by rfl) (hdb : (x == ("__debug__" : Str)) = false := by decide) : PE X (.Call (.Name x p) [] [] pos) (tMk0 C) := by
  refine ⟨fun pins s σ H Q I h => ?_⟩
  refine wpAny_Call_Name_kw (ld_glob I hg M.mgC ?_ hdb)
  refine PySem.W.callWith_K0 I.kIn M.kp (wpAny_call (make_map0 I.kIn M.makes hi (fun self => PySem.W.Looks.of_pure (PySem.W.oi_bind self)) ?_))
  have hq := h (s.heap.objs.size + 1) s.heap.objs.size (I.hok.fresh (Nat.le_succ _)) (I.hok.fresh (Nat.le_refl _)) (Nat.ne_of_lt (Nat.lt_succ_self _))
  have I2 := Inv.made (C := C) I
  have Y := PySem.W.makes_of (M := model X.prog X.w) I.kIn M.makes
  have e2 : ((s.heap.push PySem.W.emptyDict).push (PySem.W.instObj C s.heap.objs.size)).get? (s.heap.objs.size + 1) = some (PySem.W.instObj C s.heap.objs.size) := by
    have := Heap.get?_push_size (s.heap.push PySem.W.emptyDict) (o := PySem.W.instObj C s.heap.objs.size) rfl
    rwa [Heap.size_push] at this
  have t1 : PySem.W.Looks (model X.prog X.w) ((s.heap.push PySem.W.emptyDict).push (PySem.W.instObj C s.heap.objs.size)) (typeOf (.ref (s.heap.objs.size + 1))) (.ref C) := (PySem.W.Looks.ld e2).andThen .now
  have t2 : PySem.W.Looks (model X.prog X.w) ((s.heap.push PySem.W.emptyDict).push (PySem.W.instObj C s.heap.objs.size)) (isInstance (.ref (s.heap.objs.size + 1)) (.type "object")) true := t1.andThen (Y.top.keeps fun b o e => Heap.get?_push_of_some _ (Heap.get?_push_of_some _ e))
  refine codeAny_call_builtin PySem.W.oi_plain PySem.W.entry_oi (@PySem.W.check_slot (model X.prog X.w) _ _ _ "object.__init__" "object" "__init__" (.ref (s.heap.objs.size + 1)) [] [] _ PySem.W.oi_kind PySem.W.oi_split t2 (PySem.W.oi_args (.ref (s.heap.objs.size + 1))) ?_)
  rw [PySem.W.oi_run]
  exact wpAny_pure ⟨rfl, ⟨V.ref (s.heap.objs.size + 1), _, I2, rfl, hq⟩⟩
/-- C() where the __init__'s parameters all have defaults -/
structure DflM (K : PySem.W.Frag) (C : Addr) (ps : List Str) (dvs : List V) : Prop where
  ex : ∃ (f : Addr) (fd : FuncData) (ds : List Value), PySem.W.findIn K (.ref C) "__init__" = some (some (.ref f)) ∧ Vals dvs ds ∧ Binds K fd ps ds
structure CalMD (P : Program) (w : World) (K : PySem.W.Frag) (mg : Str → Option Value) (base : Heap) (C : Addr) (x : Str) (k : Nat) (ps : List Str) (sp : Sp) (dvs : List V) : Prop where
  ex : ∃ (f : Addr) (fd : FuncData) (ds : List Value), FnOk P w K mg base CX0 k f fd ps sp ∧ PySem.W.findIn K (.ref C) x = some (some (.ref f)) ∧ PySem.W.isFn K (.ref f) = true ∧ PySem.W.keepIn K (.ref f) = true ∧ Vals dvs ds ∧ Binds K fd ps ds
theorem pe_newD0 {dvs : List V} (M : CCls X.K X.mg x C) (c : CalMD X.prog X.w X.K X.mg X.base C "__init__" k ps sp dvs) (hr : Room (k + 1) X.A) (hg : Gl X x := by rfl) (hdb : (x == ("__debug__" : Str)) = false := by decide) :
    PE X (.Call (.Name x p) [] [] pos) (tMake C sp dvs E0 tNil) := by
  obtain ⟨f, fd, ds, F, m, fn, kp, hv, b⟩ := c.ex
  exact pe_make0 ⟨M.makes, m, fn, M.kp⟩ F hr hg M.mgC b hv pass0 hdb
end
/-! ### an __init__ with one default -/
structure HasMD (K : PySem.W.Frag) (C : Addr) (x q : Str) (st : Stmt) (ps : List Str) (dvs : List V) (f : Addr) : Prop where
  ex : ∃ (fd : FuncData), FunD K x q (defArgs st) (defBody st) (defScope st) dvs [] f fd ∧ Binds K fd ps [] ∧ ∃ ds, Vals dvs ds ∧ Binds K fd ps ds
  at_ : PySem.W.findIn K (.ref C) x = some (some (.ref f))
  fn : PySem.W.isFn K (.ref f) = true
section
variable {P : Program} {w : World} {K : PySem.W.Frag} {mg : Str → Option Value} {base : Heap} {x q : Str} {k n : Nat} {ps N : List Str} {st : Stmt} {C f : Addr} {dvs : List V} {RI : List D → List (Str × D) → Prop} {h : Heap}
theorem fnd_in {fd : FuncData} {params : Arguments} {body : List Stmt} {scope : Scope} {kws : List (Str × V)} (F : FunD K x q params body scope dvs kws f fd) : PySem.W.fnIn K f = true := by
  obtain ⟨oc, od, dV, kV, doc, pm, an, cdv, ct, osl, _, lk, _⟩ := F.ex
  unfold PySem.W.fnIn
  rw [lk]
theorem fn_ID {fd : FuncData} (F : FunD K x q (defArgs st) (defBody st) (defScope st) dvs [] f fd) (Sc : FnScope N ps (defScope st)) (hn : ps.length = n + 1)
    (hbody : ∀ (cdv : Value) (A : Around) (outer : List Env) (s : Shared) (H : Hp) (E : XK), Room k (A.deeper (envOfC q (defScope st) s.heap.objs.size f cdv)) →
      ∃ t, PSs (cxOf CX0 P w K mg base N q (defScope st) f cdv A outer s H E).nox (defBody st) t ∧ ∀ x ds fs, RI ds fs → ∃ ρ', StD K t (rhoI N x C ds) (.nx ρ') ∧ ρ'[0]? = some (some (.obj x C fs))) : FnOk P w K mg base CX0 (k + 1) f fd ps (spI K C n RI) := by
  refine F.ok Sc (fun vs H Q E h => ?_) (fun cdv A outer s H vs Q E hr h => ?_)
  · obtain ⟨x, dx, us, _, _, _, h, hu, _⟩ := h
    rw [h, List.length_cons, hu, hn]
  · obtain ⟨t, h1, h2⟩ := hbody cdv A outer s H E hr
    obtain ⟨x, dx, us, G, ds, fs, rfl, hl, hx, gx, e, r, hR, q⟩ := h
    refine ⟨t, h1.nox, ?_⟩
    have s0 := sl_startI (N := N) e hx gx r
    obtain ⟨ρ', h3, h4⟩ := h2 x ds fs hR
    refine h3 G (delx H x) G H _ _ s0 fun G' H' σ' eG s' => ?_
    obtain ⟨g1, g2, g3, dy, gs, g4, g5⟩ := s'.objAt h4
    exact q G' H' dy gs s'.go g3 g4 g5
theorem HasMD.calI (h : HasMD K C x q st ps dvs f) (Sc : FnScope N ps (defScope st)) (hn : ps.length = n + 1)
    (hbody : ∀ (cdv : Value) (A : Around) (outer : List Env) (s : Shared) (H : Hp) (E : XK), Room k (A.deeper (envOfC q (defScope st) s.heap.objs.size f cdv)) →
      ∃ t, PSs (cxOf CX0 P w K mg base N q (defScope st) f cdv A outer s H E).nox (defBody st) t ∧ ∀ x ds fs, RI ds fs → ∃ ρ', StD K t (rhoI N x C ds) (.nx ρ') ∧ ρ'[0]? = some (some (.obj x C fs))) :
    CalM P w K mg base C x (k + 1) ps (spI K C n RI) ∧ CalMD P w K mg base C x (k + 1) ps (spI K C n RI) dvs := by
  obtain ⟨fd, F, b, ds, hv, b2⟩ := h.ex
  have ok := fn_ID F Sc hn hbody
  exact ⟨⟨f, fd, ok, h.at_, h.fn, F.kp, b, fnd_in F⟩, ⟨f, fd, ds, ok, h.at_, h.fn, F.kp, hv, b2⟩⟩
/-- an __init__(self, a = d) out of the heap -/
theorem hasMD_mk (m q : Str) (st : Stmt) (p1 p2 : Str) (dv : V) {T : Addr} {o : Obj} {its : List Value} {nn : Nat} {oc : Value} {od an : Option Addr} {osl : Array (Option Value)} {kV doc pm cdv ct : Value}
    (hb : ∀ (T : Addr) (kV doc pm : Value) (an : Option Addr) (cdv ct : Value) (us its : List Value), us.length = 2 → its.length = 1 →
      ∃ k, bindArgs (PySem.W.fnOf m q (defArgs st) (defBody st) (defScope st) (.ref T) kV doc pm an cdv ct) ⟨us, []⟩ = seqItems? (.ref T) >>= k ∧ k (some its.toArray) = pure ([p1, p2].zip (us ++ its.drop 1)))
    (hb0 : ∀ (T : Addr) (kV doc pm : Value) (an : Option Addr) (cdv ct : Value) (us its : List Value), us.length = 1 → its.length = 1 →
      ∃ k, bindArgs (PySem.W.fnOf m q (defArgs st) (defBody st) (defScope st) (.ref T) kV doc pm an cdv ct) ⟨us, []⟩ = seqItems? (.ref T) >>= k ∧ k (some its.toArray) = pure ([p1, p2].zip (us ++ its.drop 0)))
    (a : PySem.W.findIn K (.ref C) m = some (some (.ref f))) (i : PySem.W.isFn K (.ref f) = true) (l : K.lookup f = some ⟨oc, od, .func (PySem.W.fnOf m q (defArgs st) (defBody st) (defScope st) (.ref T) kV doc pm an cdv ct), osl⟩)
    (lt : K.lookup T = some o) (ot : o.data = .seq its.toArray nn) (hv : Vals [dv] its)
    (c : PySem.W.codeIn K cdv q = true) (k : PySem.W.keepIn K (.ref f) = true) : ∃ f, HasMD K C m q st [p1, p2] [dv] f := by
  have F : FunD K m q (defArgs st) (defBody st) (defScope st) [dv] [] f (PySem.W.fnOf m q (defArgs st) (defBody st) (defScope st) (.ref T) kV doc pm an cdv ct) :=
    ⟨⟨oc, od, .ref T, kV, doc, pm, an, cdv, ct, osl, rfl, l, c, .inr ⟨by simp, T, o, its, nn, rfl, lt, ot, hv⟩, .inl rfl⟩, k⟩
  obtain ⟨ds, h1, h2⟩ := F.binds1 (ps := [p1, p2]) 2 1 (by simp) rfl hb
  obtain ⟨es, h3, h4⟩ := F.binds1 (ps := [p1, p2]) 1 0 (by simp) rfl hb0
  cases h1
  exact ⟨f, ⟨_, F, h2, es, h3, h4⟩, a, i⟩
end
end Ax
namespace Ax
open PySem PySem.Spec PyProof.Rows L2 Evl
theorem cut_from {ds : List D} (j : Nat) : cutD ds (some (j : Int)) none = ds.drop j := by
  unfold cutD
  rw [HT.sIx_nat, HT.sIx_none]
  by_cases h : j ≤ ds.length
  · rw [Nat.min_eq_left h, List.take_of_length_le (by rw [List.length_drop]; omega)]
  · rw [Nat.min_eq_right (by omega), Nat.sub_self, List.take_zero, List.drop_of_length_le (by omega)]
theorem ok_tup {ds : List D} (h : ∀ d ∈ ds, D.sh d = true ∧ D.dep d ≤ 50) : D.ok (.tup ds) :=
  ⟨shs_all ds fun d hd => (h d hd).1, by
    have := deps_all (n := 50) ds fun d hd => (h d hd).2
    show D.deps ds + 1 ≤ 60
    omega⟩
theorem ok_lst {ds : List D} (h : ∀ d ∈ ds, D.sh d = true ∧ D.dep d ≤ 50) : D.ok (.lst ds) :=
  ⟨shs_all ds fun d hd => (h d hd).1, by
    have := deps_all (n := 50) ds fun d hd => (h d hd).2
    show D.deps ds + 1 ≤ 60
    omega⟩
end Ax

namespace Ax
open PySem PySem.Spec PyProof.Rows L2 Evl
/-! ### targets -/
def TgD (K : PySem.W.Frag) (g : TG) (d : D) (ρ ρ' : Rho) (js : List Nat) : Prop := ∀ G0 H0 G H σ v (Q : L2.St → Hp → Prop), Sl K G0 H0 G H σ ρ → Rp K G v d →
  (∀ σ', Sl K G0 H0 G H σ' ρ' → σ'.length = σ.length → (∀ i, i ∉ js → σ'[i]? = σ[i]?) → Q σ' H) → g v σ H Q
def TgsD (K : PySem.W.Frag) (g : TGs) (ds : List D) (ρ ρ' : Rho) (js : List Nat) : Prop := ∀ G0 H0 G H σ vs (Q : L2.St → Hp → Prop), Sl K G0 H0 G H σ ρ → RpA K G vs ds →
  (∀ σ', Sl K G0 H0 G H σ' ρ' → σ'.length = σ.length → (∀ i, i ∉ js → σ'[i]? = σ[i]?) → Q σ' H) → g vs σ H Q
section
variable {K : PySem.W.Frag} {ρ ρ' ρ'' : Rho} {d : D} {ds es : List D} {i j n : Nat} {js ks : List Nat} {g : TG} {gs : TGs} {te tl : TE} {t : TS} {o : Out}
theorem tg_name : TgD K (gName j) d ρ (ρ.set j (some (.dat d))) [j] := fun G0 H0 G H σ v Q s r k =>
  k _ (s.set r) (List.length_set ..) fun i hi => List.getElem?_set_ne fun z => hi (by rw [z]; exact List.mem_singleton.mpr rfl)
theorem tgs_nil : TgsD K gNil [] ρ ρ [] := fun G0 H0 G H σ v Q s r k => by
  cases r
  exact ⟨rfl, k σ s rfl fun _ _ => rfl⟩
theorem tgs_cons (h : TgD K g d ρ ρ' js) (h2 : TgsD K gs ds ρ' ρ'' ks) : TgsD K (gCons g gs) (d :: ds) ρ ρ'' (js ++ ks) := fun G0 H0 G H σ v Q s r k => by
  cases r with
  | cons r1 r2 =>
    refine ⟨_, _, rfl, h G0 H0 G H σ _ _ s r1 fun σ' s' hl ho => h2 G0 H0 G H σ' _ Q s' r2 fun σ'' s'' hl2 ho2 => k σ'' s'' (hl2.trans hl) fun i hi => ?_⟩
    rw [ho2 i fun z => hi (List.mem_append_right _ z), ho i fun z => hi (List.mem_append_left _ z)]
theorem tg_tup (h : TgsD K gs ds ρ ρ' js) (hn : ds.length = n) : TgD K (gTup K n gs) (.tup ds) ρ ρ' js := fun G0 H0 G H σ v Q s r k => by
  cases r with
  | tup hs a => exact ⟨_, _, rfl, ex_t s.gh hs, by rw [a.length]; exact hn, h G0 H0 G H σ _ Q s a k⟩
theorem sd_asgT (h : EvD K te ρ d) (hg : TgD K g d ρ ρ' js) : StD K (tAsg te g) ρ (.nx ρ') := fun G0 H0 G H σ W s k =>
  h G0 H0 G H σ _ s fun v G1 H1 g1 r1 => hg G0 H0 G1 H1 σ v _ (s.step g1) r1 fun σ' s' _ _ => k G1 H1 σ' g1.gg s'
/-! ### what a comprehension forgets -/
theorem wipe_get (σ : L2.St) : ∀ (vs : List Nat) (i : Nat), (wipe σ vs)[i]? = if i ∈ vs ∧ i < σ.length then some none else σ[i]?
  | [], i => by rw [if_neg (fun z => nomatch z.1)]; rfl
  | v :: vs, i => by
    show ((wipe σ vs).set v none)[i]? = _
    by_cases hv : v = i
    · subst hv
      by_cases hl : v < σ.length
      · rw [List.getElem?_set_self (by rw [wipe_length]; exact hl), if_pos ⟨List.mem_cons_self, hl⟩]
      · rw [List.getElem?_eq_none (by rw [List.length_set, wipe_length]; omega), if_neg (fun z => hl z.2), List.getElem?_eq_none (by omega)]
    · rw [List.getElem?_set_ne hv, wipe_get σ vs i]
      by_cases h : i ∈ vs ∧ i < σ.length
      · rw [if_pos h, if_pos ⟨List.mem_cons_of_mem _ h.1, h.2⟩]
      · rw [if_neg h, if_neg fun z => h ⟨(List.mem_cons.mp z.1).resolve_left fun e => hv e.symm, z.2⟩]
theorem wipe_eq {σ σ' : L2.St} {vs : List Nat} (hl : σ'.length = σ.length) (h : ∀ i, i ∉ vs → σ'[i]? = σ[i]?) : wipe σ' vs = wipe σ vs := by
  apply List.ext_getElem?
  intro i
  rw [wipe_get, wipe_get, hl]
  by_cases hv : i ∈ vs
  · by_cases hi : i < σ.length
    · rw [if_pos ⟨hv, hi⟩, if_pos ⟨hv, hi⟩]
    · rw [if_neg (fun z => hi z.2), if_neg (fun z => hi z.2), List.getElem?_eq_none (by omega), List.getElem?_eq_none (by omega)]
  · rw [if_neg (fun z => hv z.1), if_neg (fun z => hv z.1), h i hv]
theorem wipe_wipe (σ : L2.St) (vs : List Nat) : wipe (wipe σ vs) vs = wipe σ vs := wipe_eq (wipe_length σ vs) fun i hi => by rw [wipe_get, if_neg fun z => hi z.1]
def wipeR (ρ : Rho) : List Nat → Rho
  | [] => ρ
  | v :: vs => (wipeR ρ vs).set v none
theorem Sl.unset {G0 H0 G H : Hp} {σ : L2.St} (s : Sl K G0 H0 G H σ ρ) (v : Nat) : Sl K G0 H0 G H (σ.set v none) (ρ.set v none) := by
  have key : ∀ (i : Nat) (x : S), (ρ.set v none)[i]? = some (some x) → v ≠ i ∧ ρ[i]? = some (some x) := fun i x h => by
    rcases set_get h with ⟨_, _, z⟩ | h
    · cases z
    · exact h
  refine ⟨s.go, by rw [List.length_set, List.length_set, s.len], fun i d h => ?_, fun i x h m => ?_, fun i j x y a b hij p1 m1 p2 m2 h1 h2 => ?_⟩
  · obtain ⟨ne, h⟩ := key i _ h
    rw [List.getElem?_set_ne ne]
    exact s.dat i d h
  · obtain ⟨ne, h⟩ := key i _ h
    rw [List.getElem?_set_ne ne]
    exact s.mine i x h m
  · obtain ⟨ne, p1⟩ := key i _ p1
    obtain ⟨ne2, p2⟩ := key j _ p2
    rw [List.getElem?_set_ne ne] at h1
    rw [List.getElem?_set_ne ne2] at h2
    exact s.sep i j x y a b hij p1 m1 p2 m2 h1 h2
theorem Sl.wipe {G0 H0 G H : Hp} {σ : L2.St} (s : Sl K G0 H0 G H σ ρ) : ∀ vs : List Nat, Sl K G0 H0 G H (L2.wipe σ vs) (wipeR ρ vs)
  | [] => s
  | v :: vs => (Sl.wipe s vs).unset v
/-! ### comprehensions of one for -/
/-- what the walk is over: a list or a tuple that stands still -/
def iSeq (K : PySem.W.Frag) (tl : TE) : TI := fun σ H R => iList K tl σ H R ∨ iTup K tl σ H R
theorem pi_seq {X : Cx} {tg l : Expr} (hl : PE X l tl) : PI X tg l (iSeq X.K tl) := ⟨fun pins s σ H R I h => by
  rcases h with h | h
  · exact (pi_list hl).run pins s σ H R I h
  · exact (pi_tup hl).run pins s σ H R I h⟩
def pick (p : Nat → Bool) (f : Nat → D) (n : Nat) : List D := ((List.range n).filter p).map f
theorem pick_yes {p : Nat → Bool} {f : Nat → D} (h : p n = true) : pick p f (n + 1) = pick p f n ++ [f n] := by
  unfold pick
  rw [List.range_succ, List.filter_append, List.map_append, List.filter_cons, if_pos h]; rfl
theorem pick_no {p : Nat → Bool} {f : Nat → D} (h : p n = false) : pick p f (n + 1) = pick p f n := by
  unfold pick
  rw [List.range_succ, List.filter_append, List.map_append, List.filter_cons, if_neg (by rw [h]; decide)]
  show _ ++ [] = _
  rw [List.append_nil]
theorem pick_len (p : Nat → Bool) (f : Nat → D) (n : Nat) : (pick p f n).length ≤ n := by
  unfold pick
  rw [List.length_map]
  have h := List.length_filter_le p (List.range n)
  rw [List.length_range] at h
  exact h
theorem pick_all {f : Nat → D} : pick (fun _ => true) f n = (List.range n).map f := by
  unfold pick
  rw [List.filter_eq_self.mpr fun _ _ => rfl]
theorem Sl.pad {G0 H0 G H : Hp} {σ : L2.St} (s : Sl K G0 H0 G H σ ρ) : Sl K G0 H0 G H (σ ++ [none]) (ρ ++ [none]) := by
  have key : ∀ (i : Nat) (x : S), (ρ ++ [none])[i]? = some (some x) → ρ[i]? = some (some x) := fun i x h => by
    by_cases hi : i < ρ.length
    · rw [List.getElem?_append_left hi] at h; exact h
    · rw [List.getElem?_append_right (by omega)] at h
      have := List.mem_of_getElem? h
      cases List.mem_singleton.mp this
  have up : ∀ (i : Nat) (v : V), σ[i]? = some (some v) → (σ ++ [none])[i]? = some (some v) := fun i v h => by
    rw [List.getElem?_append_left (List.getElem?_eq_some_iff.mp h).1]; exact h
  have dn : ∀ (i : Nat) (v : V), (σ ++ [none])[i]? = some (some v) → σ[i]? = some (some v) := fun i v h => by
    by_cases hi : i < σ.length
    · rw [List.getElem?_append_left hi] at h; exact h
    · rw [List.getElem?_append_right (by omega)] at h
      have := List.mem_of_getElem? h
      cases List.mem_singleton.mp this
  refine ⟨s.go, by rw [List.length_append, List.length_append, s.len]; rfl, fun i d h => ?_, fun i x h m => ?_, fun i j x y a b hij p1 m1 p2 m2 h1 h2 => s.sep i j x y a b hij (key i _ p1) m1 (key j _ p2) m2 (dn i _ h1) (dn j _ h2)⟩
  · obtain ⟨v, h1, h2⟩ := s.dat i d (key i _ h)
    exact ⟨v, up i v h1, h2⟩
  · obtain ⟨v, h1, h2, h3⟩ := s.mine i x (key i _ h) m
    exact ⟨v, up i v h1, h2, h3⟩
theorem Sl.unpad {G0 H0 G H : Hp} {σ : L2.St} {a : Option V} {b : Option S} (s : Sl K G0 H0 G H (σ ++ [a]) (ρ ++ [b])) : Sl K G0 H0 G H σ ρ := by
  have hl : σ.length = ρ.length := by
    have := s.len
    rw [List.length_append, List.length_append] at this
    exact Nat.add_right_cancel this
  have up : ∀ (i : Nat) (x : S), ρ[i]? = some (some x) → (ρ ++ [b])[i]? = some (some x) := fun i x h => by
    rw [List.getElem?_append_left (List.getElem?_eq_some_iff.mp h).1]; exact h
  have dn : ∀ (i : Nat) (v : V) (x : S), ρ[i]? = some (some x) → (σ ++ [a])[i]? = some (some v) → σ[i]? = some (some v) := fun i v x hx h => by
    have := (List.getElem?_eq_some_iff.mp hx).1
    rw [List.getElem?_append_left (by omega)] at h; exact h
  have up2 : ∀ (i : Nat) (v : V), σ[i]? = some (some v) → (σ ++ [a])[i]? = some (some v) := fun i v h => by
    rw [List.getElem?_append_left (List.getElem?_eq_some_iff.mp h).1]; exact h
  refine ⟨s.go, hl, fun i d h => ?_, fun i x h m => ?_, fun i j x y u v hij p1 m1 p2 m2 h1 h2 => s.sep i j x y u v hij (up i _ p1) m1 (up j _ p2) m2 (up2 i _ h1) (up2 j _ h2)⟩
  · obtain ⟨v, h1, h2⟩ := s.dat i d (up i _ h)
    exact ⟨v, dn i v _ h h1, h2⟩
  · obtain ⟨v, h1, h2, h3⟩ := s.mine i x (up i _ h) m
    exact ⟨v, dn i v _ h h1, h2, h3⟩
theorem set_last {α : Type} (l : List α) (a b : α) : (l ++ [a]).set l.length b = l ++ [b] := by
  rw [List.set_append_right _ _ (Nat.le_refl _), Nat.sub_self]; rfl
theorem get_last {α : Type} (l : List α) (a : α) : (l ++ [a])[l.length]? = some a := by
  rw [List.getElem?_append_right (Nat.le_refl _), Nat.sub_self]; rfl
theorem Go.del {G H G1 H1 : Hp} {l : Addr} (g : Go G H G1 H1) (h : G1 l = none) : Go G (delx H l) G1 (delx H1 l) :=
  ⟨g.gg, fun a o e => by rw [delx_ne (fun z => by rw [z, h] at e; cases e)]; exact g.gh a o e, fun a o e => by
    by_cases al : a = l
    · subst al; rw [delx_same] at e; cases e
    · rw [delx_ne al] at e ⊢; exact g.hh a o e, fun a ha hg => g.fr a (fun z => ha (by
    by_cases al : a = l
    · subst al; exact delx_same
    · rw [delx_ne al]; exact z)) hg⟩
theorem delx_upd {H : Hp} {l : Addr} {o : HO} : delx (upd H l o) l = delx H l := by
  funext a
  by_cases al : a = l
  · subst al; rw [delx_same, delx_same]
  · rw [delx_ne al, delx_ne al, upd_ne al]
theorem delx_new {H : Hp} {l : Addr} (h : H l = none) : delx H l = H := by
  funext a
  by_cases al : a = l
  · subst al; rw [delx_same, h]
  · rw [delx_ne al]
theorem upd_delx {H : Hp} {l : Addr} {o : HO} (h : H l = some o) : upd (delx H l) l o = H := by
  funext a
  by_cases al : a = l
  · subst al; rw [upd_same, h]
  · rw [upd_ne al, delx_ne al]
def LcP (K : PySem.W.Frag) (G0 H0 G1 H1 : Hp) (σ : L2.St) (ρ : Rho) (Dl : Addr) (p : Nat → Bool) (f : Nat → D) (n : Nat) (H' : Hp) : Prop := ∃ G', Go G1 H1 G' (delx H' Dl) ∧ Sl K G0 H0 G' H' (σ ++ [some (.ref Dl)]) (ρ ++ [some (.own (pick p f n))])
theorem LcP.start {G0 H0 G H : Hp} {σ : L2.St} {Dl : Addr} {p : Nat → Bool} {f : Nat → D} (s : Sl K G0 H0 G H σ ρ) (hD : H Dl = none) : LcP K G0 H0 G H σ ρ Dl p f 0 (upd H Dl (.lst [])) := by
  have := s.pad.setO (i := σ.length) (l := Dl) (vs := []) (ds := []) hD .nil
  rw [set_last, s.len, set_last] at this
  exact ⟨G, by rw [delx_upd, delx_new hD]; exact Go.refl s.gh, this⟩
/-- the turn of a comprehension -/
theorem lc_turn {tt : TT} {vs js : List Nat} {p : Nat → Bool} {f : Nat → D} {G0 H0 G1 H1 : Hp} {σ : L2.St} {Dl : Addr} (hv : ∀ j ∈ js, j ∈ vs) (hn : n < 50000) (hg : TgD K g d (wipeR ρ vs) ρ' js) (ht : EvB K tt ρ' (p n)) (he : p n = true → EvD K te ρ' (f n))
    {H' : Hp} {v : V} (h : LcP K G0 H0 G1 H1 σ ρ Dl p f n H') (hr : ∀ G', Ex G1 G' → Rp K G' v d) :
    g v (L2.wipe σ vs) H' fun σ2 H2 => L2.wipe σ2 vs = L2.wipe σ vs ∧ tt σ2 H2 fun b H3 => if b = true then te σ2 H3 fun y H4 => ∃ acc, H4 Dl = some (.lst acc) ∧ acc.length < sizeLine ∧ LcP K G0 H0 G1 H1 σ ρ Dl p f (n + 1) (upd H4 Dl (.lst (acc ++ [y]))) else LcP K G0 H0 G1 H1 σ ρ Dl p f (n + 1) H3 := by
  obtain ⟨G', e, sx⟩ := h
  have s := sx.unpad
  have hl := s.len
  have hi : (ρ ++ [some (S.own (pick p f n))])[σ.length]? = some (some (.own (pick p f n))) := by rw [hl]; exact get_last _ _
  refine hg G0 H0 G' H' _ v _ (s.wipe vs) (hr G' e.gg) fun σ2 s2 hl2 ho => ⟨(wipe_eq hl2 fun i hi => ho i fun z => hi (hv i z)).trans (wipe_wipe σ vs), ?_⟩
  refine ht G0 H0 G' H' σ2 _ s2 fun G2 H2 g2 => ?_
  cases hb : p n with
  | true =>
    show te σ2 H2 _
    refine he hb G0 H0 G2 H2 σ2 _ (s2.step g2) fun y G3 H3 g3 r3 => ?_
    have g := g2.trans g3
    have s3 := sx.step g
    obtain ⟨l, ws, h1, h2, h3, h4, h5⟩ := s3.own σ.length _ hi
    rw [get_last] at h1
    cases h1
    refine ⟨ws, h4, by rw [h5.length]; exact sz_lt (by have := pick_len p f n; omega), G3, by rw [delx_upd]; exact e.trans (g.del h3), ?_⟩
    have := s3.mut (i := σ.length) (l := Dl) (vs := ws) (vs' := ws ++ [y]) (ds' := pick p f n ++ [f n]) hi (get_last _ _) (h5.append (.cons r3 .nil))
    rw [hl, set_last] at this
    rw [pick_yes hb]
    exact this
  | false =>
    show LcP K G0 H0 G1 H1 σ ρ Dl p f (n + 1) H2
    obtain ⟨l, ws, h1, h2, h3, h4, h5⟩ := (sx.step g2).own σ.length _ hi
    rw [get_last] at h1
    cases h1
    refine ⟨G2, e.trans (g2.del h3), ?_⟩
    rw [pick_no hb]
    exact sx.step g2
theorem LcP.fin {p : Nat → Bool} {f : Nat → D} {G0 H0 G1 H1 H' : Hp} {σ : L2.St} {Dl : Addr} {Q : VK} (h : LcP K G0 H0 G1 H1 σ ρ Dl p f n H')
    (k : ∀ l vs G' H', Go G1 H1 G' H' → H' l = none → RpA K G' vs (pick p f n) → Q (.ref l) (upd H' l (.lst vs))) : Q (.ref Dl) H' := by
  obtain ⟨G', e, sx⟩ := h
  have hl := sx.unpad.len
  obtain ⟨l, ws, h1, h2, h3, h4, h5⟩ := sx.own σ.length (pick p f n) (by rw [hl]; exact get_last _ _)
  rw [get_last] at h1
  cases h1
  have := k Dl ws G' (delx H' Dl) e delx_same h5
  rw [upd_delx h4] at this
  exact this
/-- [e for t in xs if c], xs a list that stands still -/
theorem en_lcL {tt : TT} {vs js : List Nat} (p : Nat → Bool) (f : Nat → D) (R : Nat → Rho) (h : EvD K tl ρ (.lst ds)) (hz : ds.length ≤ 40000) (hv : ∀ j ∈ js, j ∈ vs)
    (hg : ∀ n d, ds[n]? = some d → TgD K g d (wipeR ρ vs) (R n) js) (ht : ∀ n d, ds[n]? = some d → EvB K tt (R n) (p n)) (he : ∀ n d, ds[n]? = some d → p n = true → EvD K te (R n) (f n)) :
    EvN K (tLc (iList K tl) g tt te vs) ρ (pick p f ds.length) := fun G0 H0 G H σ Q s k => h G0 H0 G H σ _ s fun v G1 H1 g1 r1 => by
  cases r1 with
  | lst hx ra =>
    rename_i a xs
    refine ⟨a, rfl, ⟨xs, ex_l g1.gh hx⟩, fun Dl hD => lc_list (xs := xs) (LcP K G0 H0 G1 H1 σ ρ Dl p f) (LcP.start (s.step g1) hD) (fun i H' _ ⟨G', e, sx⟩ => ex_l (e.gg.trans sx.gh) hx) (fun i x H' hi P => ?_) (fun H' P => ?_)⟩
    · obtain ⟨d, hd, rd⟩ := ra.getV hi
      have := (List.getElem?_eq_some_iff.mp hd).1
      exact lc_turn hv (by omega) (hg i d hd) (ht i d hd) (he i d hd) P fun G' e => rd.mono e
    · rw [ra.length] at P
      exact P.fin fun l vs G' H' g hl r => k l vs G' H' (g1.trans g) hl r
theorem en_lcT {tt : TT} {vs js : List Nat} (p : Nat → Bool) (f : Nat → D) (R : Nat → Rho) (h : EvD K tl ρ (.tup ds)) (hz : ds.length ≤ 40000) (hv : ∀ j ∈ js, j ∈ vs)
    (hg : ∀ n d, ds[n]? = some d → TgD K g d (wipeR ρ vs) (R n) js) (ht : ∀ n d, ds[n]? = some d → EvB K tt (R n) (p n)) (he : ∀ n d, ds[n]? = some d → p n = true → EvD K te (R n) (f n)) :
    EvN K (tLc (iTup K tl) g tt te vs) ρ (pick p f ds.length) := fun G0 H0 G H σ Q s k => h G0 H0 G H σ _ s fun v G1 H1 g1 r1 => by
  cases r1 with
  | tup hx ra =>
    rename_i a xs
    refine ⟨a, rfl, ⟨xs, ex_t g1.gh hx⟩, fun Dl hD => lc_tup (xs := xs) (LcP K G0 H0 G1 H1 σ ρ Dl p f) (LcP.start (s.step g1) hD) (fun i H' _ ⟨G', e, sx⟩ => ex_t (e.gg.trans sx.gh) hx) (fun i x H' hi P => ?_) (fun H' P => ?_)⟩
    · obtain ⟨d, hd, rd⟩ := ra.getV hi
      have := (List.getElem?_eq_some_iff.mp hd).1
      exact lc_turn hv (by omega) (hg i d hd) (ht i d hd) (he i d hd) P fun G' e => rd.mono e
    · rw [ra.length] at P
      exact P.fin fun l vs G' H' g hl r => k l vs G' H' (g1.trans g) hl r
theorem en_lcR {ta : TA} {tt : TT} {vs js : List Nat} {m : Int} (p : Nat → Bool) (f : Nat → D) (R : Nat → Rho) (h : EvS K ta ρ [.int m]) (hz : m ≤ 40000) (hz2 : -40000 ≤ m) (hv : ∀ j ∈ js, j ∈ vs)
    (hg : ∀ n : Nat, n < m.toNat → TgD K g (.int (n : Int)) (wipeR ρ vs) (R n) js) (ht : ∀ n : Nat, n < m.toNat → EvB K tt (R n) (p n)) (he : ∀ n : Nat, n < m.toNat → p n = true → EvD K te (R n) (f n)) :
    EvN K (tLc (iRng1 ta) g tt te vs) ρ (pick p f m.toNat) := fun G0 H0 G H σ Q s k => h G0 H0 G H σ _ s fun us G1 H1 g1 r1 => by
  cases r1 with
  | cons r2 r3 =>
    cases r2
    cases r3
    refine ⟨m, rfl, by omega, by omega, fun Dl hD => lc_range (lo := 0) (n := m.toNat) (LcP K G0 H0 G1 H1 σ ρ Dl p f) (LcP.start (s.step g1) hD) (fun i H' hi P => ?_) (fun H' P => ?_)⟩
    · have e0 : (0 : Int) + (i : Int) = (i : Int) := Int.zero_add _
      rw [e0]
      exact lc_turn (d := .int (i : Int)) hv (by omega) (hg i hi) (ht i hi) (he i hi) P fun G' e => .int _
    · exact P.fin fun l vs G' H' g hl r => k l vs G' H' (g1.trans g) hl r
theorem en_lcS1 {tt : TT} {vs : List Nat} (h : EvN K (tLc (iList K tl) g tt te vs) ρ es) : EvN K (tLc (iSeq K tl) g tt te vs) ρ es := fun G0 H0 G H σ Q s k => .inl (h G0 H0 G H σ Q s k)
theorem en_lcS2 {tt : TT} {vs : List Nat} (h : EvN K (tLc (iTup K tl) g tt te vs) ρ es) : EvN K (tLc (iSeq K tl) g tt te vs) ρ es := fun G0 H0 G H σ Q s k => .inr (h G0 H0 G H σ Q s k)
theorem eb_yes : EvB K tYes ρ true := fun G0 H0 G H σ Q s k => k G H (Go.refl s.gh)
end
end Ax

namespace Ax
open PySem PySem.Spec PyProof.Rows L2 Evl

/-! ### match over tuples: a text ahead, names behind -/
abbrev TMs := V → TS
structure PMs (X : Cx) (cs : List MatchCase) (t : TMs) : Prop where
  run : ∀ (first : Bool) (pins : List (Addr × Obj)) (s : Shared) (σ : L2.St) (H : Hp) (v : V) (u : Value) (D : Ends), Inv X pins σ H s → RelV v u → t v D σ H → wpAny (model X.prog X.w) X.A (matchCases cs X.env u first) (SP X pins D) X.xe s
def setAll (σ : L2.St) : List Nat → List V → L2.St
  | i :: is, v :: vs => setAll (σ.set i (some v)) is vs
  | _, _ => σ
def mNil : TMs := fun _ D σ H => D.nx σ H
def mCase (K : PySem.W.Frag) (c : Str) (is : List Nat) (body : TS) (rest : TMs) : TMs := fun v D σ H => ∃ a z ys, v = .ref a ∧ SqT K H a (.str z :: ys) ∧ SeqAt.shaped (.str z) = true ∧ if ys.length = is.length then (if z = c then body D (setAll σ is ys) H else rest v D σ H) else rest v D σ H
inductive PNs (X : Cx) : List Pattern → List Nat → Prop
  | nil : PNs X [] []
  | cons {i : Nat} {x : Str} {pos : Pos} {ps : List Pattern} {is : List Nat} (hi : X.N[i]? = some x) (hx : Loc X.env.scope x) (hf : X.fn x = true ∨ X.env.scope.names.lookup x = some .local) : PNs X ps is → PNs X (.MatchAs none (some x) pos :: ps) (i :: is)
section
variable {X : Cx} {ps : List Pattern} {is : List Nat}
theorem PNs.length (h : PNs X ps is) : ps.length = is.length := by
  induction h with
  | nil => rfl
  | cons _ _ _ _ ih => rw [List.length_cons, List.length_cons, ih]
theorem PNs.hit (hN : X.N.Nodup) {M : Model} (h : PNs X ps is) : ∀ {us : List Value} {vs : List V}, Vals vs us → vs.length = is.length → ∃ bs : List (Str × Value),
    (∀ (s : Shared) (Q : Option (List (Str × Value)) → Shared → Prop), Q (some bs) s → wpAny M X.A (matchEach ps X.env us) Q X.xe s) ∧
    ∀ (pins : List (Addr × Obj)) (s : Shared) (σ : L2.St) (H : Hp) (Q : Unit → Shared → Prop), Inv X pins σ H s → (∀ s', Inv X pins (setAll σ is vs) H s' → Q () s') →
      wpAny M X.A (assignInOrder (bs.map fun (n, _) => bindName X.env n) (bs.map (·.2))) Q X.xe s := by
  induction h with
  | nil =>
    intro us vs r hl
    cases r with
    | nil => exact ⟨[], fun s Q q => wpAny_matchEach_nil q, fun pins s σ H Q I q => wpAny_assignInOrder_none (q s I)⟩
    | cons _ _ => cases hl
  | @cons i x pos ps is hi hx hf _ ih =>
    intro us vs r hl
    cases r with
    | nil => cases hl
    | cons r1 r2 =>
      rename_i v u vs us
      obtain ⟨bs, h1, h2⟩ := ih r2 (by simpa using hl)
      refine ⟨(x, u) :: bs, fun s Q q => ?_, fun pins s σ H Q I q => ?_⟩
      · refine wpAny_matchEach_cons (wpAny_matchPattern_Capture ?_)
        exact h1 s _ q
      · refine wpAny_assignInOrder_more (wpAny_bindName ?_)
        exact store_ok I hN hi hx r1 (fun s' I' => h2 pins s' _ H Q I' q) hf
theorem pm_nil : PMs X [] mNil := ⟨fun _ _ _ σ H _ _ _ I _ h => wpAny_matchCases_nil ⟨σ, H, I, h⟩⟩
theorem pm_case {c : Str} {j : Nat} {p1 p2 p3 : Pos} {body : List Stmt} {rest : List MatchCase} {tb : TS} {tr : TMs} (hc : X.calm = true) (hN : X.N.Nodup) (hu : X.A.units + 64 < cLine) (hcs : SeqAt.shaped (.str c) = true) (hn : PNs X ps is) (hb : PSs X body tb) (hr : PMs X rest tr)
    (hstar : (Pattern.MatchValue (.Constant (.str c) j p1) p2 :: ps).findIdx? (·.isStar) = none := by rfl)
    (hwild : ((Pattern.MatchValue (.Constant (.str c) j p1) p2 :: ps).all fun p => p.isWildcard || (p.isStar && p.names.isEmpty)) = false := by rfl) :
    PMs X (⟨.MatchSequence (.MatchValue (.Constant (.str c) j p1) p2 :: ps) p3, none, body⟩ :: rest) (mCase X.K c is tb tr) := by
  refine ⟨fun first pins s σ H v u D I r h => ?_⟩
  obtain ⟨a, z, ys, rfl, hq, hsz, h⟩ := h
  have hrv := r
  cases r
  obtain ⟨its, rv, ht, hz⟩ := I.tuple hq
  have el : its.toArray.size = ys.length + 1 := by rw [List.size_toArray, ← rv.length, List.length_cons]
  have fit : ((its.toArray.size : Nat) : Int) < 2 ^ 63 := by
    rw [el]
    rw [List.length_cons] at hz
    have : sizeLine < 2 ^ 62 := by decide
    omega
  have I1 : Inv X pins σ H { s with toks := s.toks + 1 + 1 } := (I.tok _).tok _
  refine wpAny_matchCases_cons ?_
  by_cases hl : ys.length = is.length
  · rw [if_pos hl] at h
    refine matchSeq_tuple_hit ht fit (by rw [el, List.length_cons, hn.length, hl]) ?_ hstar hwild
    have e1 : (Pattern.MatchValue (.Constant (.str c) j p1) p2 :: ps).length = its.toArray.size := by rw [el, List.length_cons, hn.length, hl]
    rw [e1]
    refine unpackItems_tuple (I.ok.hd hc) (by exact ht) fun h' hx => ?_
    have I2 : Inv X pins σ H { s with heap := h', toks := s.toks + 1 + 1 } := I1.kept (t' := s.toks + 1 + 1) fun b o e => hx b o (Nat.ne_of_lt (Heap.lt_size e)) e
    cases rv with
    | cons r1 r2 =>
      rename_i u0 us
      obtain ⟨bs, q1, q2⟩ := hn.hit (M := model X.prog X.w) hN r2 hl
      refine wpAny_matchEach_cons (wpAny_matchPattern_Value (Calls.Constant_str ?_))
      have I3 := I2.tok
      refine thn (op_eqD hu pins _ σ H (.str z) (.str c) u0 _ (fun v H' => v = .bl (PyData.eqv (.str z) (.str c)) ∧ H' = H) (I2.tok _) r1 ⟨_, rfl⟩ ⟨.str z, .str c, .str z, .str c, hsz, hcs, rfl, rfl⟩) fun w s3 ⟨x, H3, I4, r3, e3, e4⟩ => ?_
      subst e3 e4
      cases r3
      refine wpAny_truthy_bool ?_
      have eq : PyData.eqv (.str z) (.str c) = decide (z = c) := by
        rw [Bool.eq_iff_iff, decide_eq_true_iff]
        exact beq_iff_eq
      rw [eq]
      by_cases hz2 : z = c
      · rw [if_pos hz2] at h
        rw [if_pos (decide_eq_true hz2)]
        refine q1 s3 _ ?_
        refine q2 pins s3 σ _ _ I4 fun s4 I5 => ?_
        exact hb.run pins s4 _ _ D I5 h
      · rw [if_neg hz2] at h
        rw [if_neg (fun e => hz2 (of_decide_eq_true e))]
        exact hr.run false pins s3 σ _ _ _ D I4 hrv h
  · rw [if_neg hl] at h
    refine matchSeq_tuple_miss ht fit (by rw [el, List.length_cons, hn.length]; omega) ?_ hstar hwild
    exact hr.run false pins _ σ H _ _ D I1 hrv h
def tMatch (te : TE) (t : TMs) : TS := fun D σ H => te σ H fun v H1 => t v D σ H1
theorem ps_match {subject : Expr} {cases : List MatchCase} {pos : Pos} {te : TE} {t : TMs} (he : PE X subject te) (hm : PMs X cases t) : PS X (.Match subject cases pos) (tMatch te t) :=
  ⟨fun pins s σ H D I h => wpAny_Match (thn (he.run pins s σ H _ I h) fun v s1 ⟨x, H1, I1, r1, q1⟩ => hm.run true pins s1 σ H1 x v D I1 r1 q1)⟩
end
/-! ### .. at the level of data -/
def MsD (K : PySem.W.Frag) (t : TMs) (ρ : Rho) (d : D) (o : Out) : Prop := ∀ G0 H0 G H σ v (W : Ends), Sl K G0 H0 G H σ ρ → Rp K G v d → Post K G0 H0 G W o → t v W σ H
def setAllR (ρ : Rho) : List Nat → List D → Rho
  | i :: is, d :: ds => setAllR (ρ.set i (some (.dat d))) is ds
  | _, _ => ρ
section
variable {K : PySem.W.Frag} {ρ : Rho} {te : TE} {d : D} {ds : List D} {tb : TS} {tr : TMs} {o : Out} {c z : Str} {is : List Nat}
theorem Sl.setAll {G0 H0 G H : Hp} : ∀ {is : List Nat} {ρ : Rho} {σ : L2.St} {vs : List V} {ds : List D}, Sl K G0 H0 G H σ ρ → RpA K G vs ds → Sl K G0 H0 G H (setAll σ is vs) (setAllR ρ is ds)
  | [], _, _, _, _, s, _ => s
  | i :: is, _, _, _, _, s, .nil => s
  | i :: is, _, _, _, _, s, .cons r t => Sl.setAll (is := is) (s.set r) t
theorem sd_match (h : EvD K te ρ d) (hm : MsD K tr ρ d o) : StD K (tMatch te tr) ρ o := fun G0 H0 G H σ W s k =>
  h G0 H0 G H σ _ s fun v G1 H1 g1 r1 => hm G0 H0 G1 H1 σ v W (s.step g1) r1 (k.mono g1.gg)
theorem ms_nil : MsD K mNil ρ d (.nx ρ) := fun G0 H0 G H σ v W s r k => k G H σ (Ex.refl G) s
theorem ms_hit (hz : SeqAt.shaped (.str c) = true) (hl : ds.length = is.length) (h : StD K tb (setAllR ρ is ds) o) : MsD K (mCase K c is tb tr) ρ (.tup (.str c :: ds)) o := fun G0 H0 G H σ v W s r k => by
  cases r with
  | tup hx ra =>
    cases ra with
    | cons r1 r2 =>
      cases r1
      refine ⟨_, c, _, rfl, ex_t s.gh hx, hz, ?_⟩
      rw [if_pos (by rw [r2.length, hl]), if_pos rfl]
      exact h G0 H0 G H _ W (s.setAll r2) k
theorem ms_miss (hz : SeqAt.shaped (.str z) = true) (hn : ds.length = is.length → z ≠ c) (h : MsD K tr ρ (.tup (.str z :: ds)) o) : MsD K (mCase K c is tb tr) ρ (.tup (.str z :: ds)) o := fun G0 H0 G H σ v W s r k => by
  have r' := r
  cases r with
  | tup hx ra =>
    cases ra with
    | cons r1 r2 =>
      cases r1
      refine ⟨_, z, _, rfl, ex_t s.gh hx, hz, ?_⟩
      by_cases hl : ds.length = is.length
      · rw [if_pos (by rw [r2.length, hl]), if_neg (hn hl)]
        exact h G0 H0 G H _ _ W s r' k
      · rw [if_neg (by rw [r2.length]; exact hl)]
        exact h G0 H0 G H _ _ W s r' k
end
end Ax

namespace Ax
open PySem PySem.Spec PyProof.Rows L2 Evl

/-! ### walks at the level of data -/
def ItOk (K : PySem.W.Frag) (G1 : Hp) (J : It) (ds : List D) : Prop := ∃ (Gd : Hp → Prop) (Y : Nat → Hp → V → Hp → Prop), Walk J ds.length Gd Y ∧ (∀ H', Ex G1 H' → Gd H') ∧
  ∀ (i : Nat) (d : D) (G' H' : Hp) (x : V) (H'' : Hp), ds[i]? = some d → Ex G1 G' → Ex G' H' → Y i H' x H'' → ∃ G'', Go G' H' G'' H'' ∧ Rp K G'' x d
def ItD (K : PySem.W.Frag) (ti : TI) (ρ : Rho) (ds : List D) : Prop := ∀ G0 H0 G H σ (R : It → Hp → Prop), Sl K G0 H0 G H σ ρ → (∀ J G1 H1, Go G H G1 H1 → ItOk K G1 J ds → R J H1) → ti σ H R
section
variable {K : PySem.W.Frag} {ρ ρ' : Rho} {te : TE} {ds es : List D} {ti : TI} {d : D} {t : TS} {g : TG} {o : Out} {js : List Nat}
theorem itOk_at {G1 : Hp} {J : It} {xs : List V} {Gd : Hp → Prop} (w : Walk J xs.length Gd (YAt xs)) (r : RpA K G1 xs ds) (hg : ∀ H', Ex G1 H' → Gd H') : ItOk K G1 J ds := by
  refine ⟨Gd, YAt xs, ?_, hg, ?_⟩
  · rw [← r.length]; exact w
  · rintro i d G' H' x H'' hd e1 e2 ⟨rfl, hx⟩
    obtain ⟨d', hd', r'⟩ := r.getV hx
    rw [hd] at hd'
    cases hd'
    exact ⟨G', Go.refl e2, r'.mono e1⟩
theorem it_list (h : EvD K te ρ (.lst ds)) : ItD K (iList K te) ρ ds := fun G0 H0 G H σ R s k => h G0 H0 G H σ _ s fun v G1 H1 g1 r1 => by
  cases r1 with
  | lst hx ra => exact ⟨_, rfl, ⟨_, ex_l g1.gh hx⟩, k _ G1 H1 g1 (itOk_at walk_list ra fun H' e => ex_l e hx)⟩
theorem it_tup (h : EvD K te ρ (.tup ds)) : ItD K (iTup K te) ρ ds := fun G0 H0 G H σ R s k => h G0 H0 G H σ _ s fun v G1 H1 g1 r1 => by
  cases r1 with
  | tup hx ra => exact ⟨_, rfl, ⟨_, ex_t g1.gh hx⟩, k _ G1 H1 g1 (itOk_at walk_tup ra fun H' e => ex_t e hx)⟩
theorem it_seqL (h : EvD K te ρ (.lst ds)) : ItD K (iSeq K te) ρ ds := fun G0 H0 G H σ R s k => .inl (it_list h G0 H0 G H σ R s k)
theorem it_seqT (h : EvD K te ρ (.tup ds)) : ItD K (iSeq K te) ρ ds := fun G0 H0 G H σ R s k => .inr (it_tup h G0 H0 G H σ R s k)
def rngD (n : Nat) : List D := (List.range n).map fun i : Nat => D.int (i : Int)
theorem rngD_len (n : Nat) : (rngD n).length = n := by unfold rngD; rw [List.length_map, List.length_range]
theorem rngD_get {n i : Nat} {d : D} (h : (rngD n)[i]? = some d) : i < n ∧ d = .int (i : Int) := by
  have hi := (List.getElem?_eq_some_iff.mp h).1
  rw [rngD_len] at hi
  unfold rngD at h
  rw [List.getElem?_map, List.getElem?_range hi] at h
  exact ⟨hi, by cases h; rfl⟩
theorem it_rng {ta : TA} {m : Int} (h : EvS K ta ρ [.int m]) (hz : m ≤ 1000000) (hz2 : -1000000 ≤ m) : ItD K (iRng1 ta) ρ (rngD m.toNat) := fun G0 H0 G H σ R s k => h G0 H0 G H σ _ s fun us G1 H1 g1 r1 => by
  cases r1 with
  | cons r2 r3 =>
    cases r2
    cases r3
    refine ⟨m, rfl, by omega, by omega, k _ G1 H1 g1 ⟨fun _ => True, _, by rw [rngD_len]; exact walk_range, fun _ _ => trivial, ?_⟩⟩
    rintro i d G' H' x H'' hd e1 e2 ⟨rfl, rfl⟩
    obtain ⟨_, rfl⟩ := rngD_get hd
    refine ⟨G', Go.refl e2, ?_⟩
    have e0 : (0 : Int) + (i : Int) = (i : Int) := Int.zero_add _
    show Rp K G' (.int ((0 : Int) + (i : Int))) _
    rw [e0]
    exact .int _
def signs (x : Str) : List D := x.cps.toList.map fun c => .str ⟨#[c]⟩
theorem it_str {x : Str} (h : EvD K te ρ (.str x)) : ItD K (iStr te) ρ (signs x) := fun G0 H0 G H σ R s k => h G0 H0 G H σ _ s fun v G1 H1 g1 r1 => by
  cases r1
  refine ⟨x, rfl, k _ G1 H1 g1 ⟨fun _ => True, (fun i H v H' => H' = H ∧ ∃ c, x.cps[i]? = some c ∧ v = .str ⟨#[c]⟩), ?_, fun _ _ => trivial, ?_⟩⟩
  · have e : (signs x).length = x.cps.size := by unfold signs; rw [List.length_map, Array.length_toList]
    rw [e]
    exact walk_str
  · rintro i d G' H' y H'' hd e1 e2 ⟨rfl, c, hc, rfl⟩
    refine ⟨G', Go.refl e2, ?_⟩
    unfold signs at hd
    rw [List.getElem?_map, Array.getElem?_toList, hc] at hd
    cases hd
    exact .str _
/-- what a for does over any walk -/
theorem sd_forI (hi : ItD K ti ρ ds) (P : Nat → Rho) (h0 : P 0 = ρ) (hs : ∀ (n : Nat) (d : D), ds[n]? = some d → ∃ ρ' js, TgD K g d (P n) ρ' js ∧ Turn K t ρ' (P (n + 1))) : StD K (tFor ti g t) ρ (.nx (P ds.length)) := fun G0 H0 G H σ W s k =>
  hi G0 H0 G H σ _ s fun J G1 H1 g1 ⟨Gd, Y, w, hG, hY⟩ => by
    refine for_it w (fun n σ' H' => ∃ G', Ex G1 G' ∧ Sl K G0 H0 G' H' σ' (P n)) ⟨G1, Ex.refl _, by rw [h0]; exact s.step g1⟩ (fun n σ' H' _ ⟨G', e, s'⟩ => hG H' (e.trans s'.gh)) ?_ ?_
    · rintro n x σ' H' H'' hn ⟨G', e, s'⟩ y
      obtain ⟨G'', g2, r⟩ := hY n _ G' H' x H'' (List.getElem?_eq_getElem hn) e s'.gh y
      obtain ⟨ρ', js, h1, h2⟩ := hs n _ (List.getElem?_eq_getElem hn)
      exact h1 G0 H0 G'' H'' σ' x _ (s'.step g2) r fun σ2 s2 _ _ => h2.run s2 fun G3 H3 σ3 e3 s3 => ⟨G3, (e.trans g2.gg).trans e3, s3⟩
    · rintro σ' H' ⟨G', e, s'⟩
      exact k G' H' σ' (g1.gg.trans e) s'
/-- .. that is left in turn m -/
theorem sd_forIx {m : Nat} (hi : ItD K ti ρ ds) (P : Nat → Rho) (h0 : P 0 = ρ) (hs : ∀ (n : Nat) (d : D), n < m → ds[n]? = some d → ∃ ρ' js, TgD K g d (P n) ρ' js ∧ Turn K t ρ' (P (n + 1))) (hm : ds[m]? = some d) (hg : TgD K g d (P m) ρ' js) (hx : Leaves K t ρ' o) : StD K (tFor ti g t) ρ o := fun G0 H0 G H σ W s k =>
  hi G0 H0 G H σ _ s fun J G1 H1 g1 ⟨Gd, Y, w, hG, hY⟩ => by
    have ml : m < ds.length := (List.getElem?_eq_some_iff.mp hm).1
    refine for_it w (fun n σ' H' => n ≤ m ∧ ∃ G', Ex G1 G' ∧ Sl K G0 H0 G' H' σ' (P n)) ⟨Nat.zero_le _, G1, Ex.refl _, by rw [h0]; exact s.step g1⟩ (fun n σ' H' _ ⟨_, G', e, s'⟩ => hG H' (e.trans s'.gh)) ?_ ?_
    · rintro n x σ' H' H'' hn ⟨hnm, G', e, s'⟩ y
      obtain ⟨G'', g2, r⟩ := hY n _ G' H' x H'' (List.getElem?_eq_getElem hn) e s'.gh y
      by_cases hlt : n < m
      · obtain ⟨ρ2, js2, h1, h2⟩ := hs n _ hlt (List.getElem?_eq_getElem hn)
        exact h1 G0 H0 G'' H'' σ' x _ (s'.step g2) r fun σ2 s2 _ _ => h2.run s2 fun G3 H3 σ3 e3 s3 => ⟨hlt, G3, (e.trans g2.gg).trans e3, s3⟩
      · have en : n = m := by omega
        subst en
        rw [List.getElem?_eq_getElem hn] at hm
        cases hm
        exact hg G0 H0 G'' H'' σ' x _ (s'.step g2) r fun σ2 s2 _ _ => hx.run s2 (k.mono ((g1.gg.trans e).trans g2.gg))
    · rintro σ' H' ⟨hn, _⟩
      omega
theorem sd_forIc (hi : ItD K ti ρ ds) (hs : ∀ (n : Nat) (d : D), ds[n]? = some d → ∃ ρ' js, TgD K g d ρ ρ' js ∧ Turn K t ρ' ρ) : StD K (tFor ti g t) ρ (.nx ρ) := sd_forI hi (fun _ => ρ) rfl hs
/-- .. with slots of which only something is known -/
theorem sd_forIE (hi : ItD K ti ρ ds) (P : Nat → Rho → Prop) (h0 : P 0 ρ) (hs : ∀ (n : Nat) (d : D) (ρ : Rho), ds[n]? = some d → P n ρ → ∃ ρ1 js ρ', TgD K g d ρ ρ1 js ∧ P (n + 1) ρ' ∧ Turn K t ρ1 ρ') : ∃ ρ', P ds.length ρ' ∧ StD K (tFor ti g t) ρ (.nx ρ') := by
  have step : ∀ (n : Nat) (x : Rho), ∃ y : Rho, ∀ d, ds[n]? = some d → P n x → ∃ ρ1 js, TgD K g d x ρ1 js ∧ P (n + 1) y ∧ Turn K t ρ1 y := fun n x => by
    by_cases h : ∃ d, ds[n]? = some d ∧ P n x
    · obtain ⟨d, h1, h2⟩ := h
      obtain ⟨ρ1, js, y, a, b, c⟩ := hs n d x h1 h2
      refine ⟨y, fun d' h1' _ => ?_⟩
      rw [h1] at h1'
      cases h1'
      exact ⟨ρ1, js, a, b, c⟩
    · exact ⟨x, fun d h1 h2 => absurd ⟨d, h1, h2⟩ h⟩
  let f : Nat → Rho := fun n => Nat.rec ρ (fun n x => Classical.choose (step n x)) n
  have hf : ∀ n, n ≤ ds.length → P n (f n) := fun n => by
    induction n with
    | zero => exact fun _ => h0
    | succ n ih =>
      intro hn
      obtain ⟨ρ1, js, _, b, _⟩ := Classical.choose_spec (step n (f n)) ds[n] (List.getElem?_eq_getElem hn) (ih (by omega))
      exact b
  refine ⟨f ds.length, hf _ (Nat.le_refl _), sd_forI hi f rfl fun n d hd => ?_⟩
  have hn := (List.getElem?_eq_some_iff.mp hd).1
  obtain ⟨ρ1, js, a, _, c⟩ := Classical.choose_spec (step n (f n)) d hd (hf n (by omega))
  exact ⟨ρ1, js, a, c⟩
end
/-! ### comprehensions over any walk -/
section
variable {K : PySem.W.Frag} {ρ ρ' : Rho} {te : TE} {ds es : List D} {ti ti1 : TI} {d : D} {g g1 : TG} {js : List Nat} {n : Nat}
/-- what a comprehension has gathered: ds -/
def LcA (K : PySem.W.Frag) (G0 H0 G1 H1 : Hp) (σ : L2.St) (ρ : Rho) (Dl : Addr) (es : List D) (H' : Hp) : Prop := ∃ G', Go G1 H1 G' (delx H' Dl) ∧ Sl K G0 H0 G' H' (σ ++ [some (.ref Dl)]) (ρ ++ [some (.own es)])
theorem LcA.start {G0 H0 G H : Hp} {σ : L2.St} {Dl : Addr} (s : Sl K G0 H0 G H σ ρ) (hD : H Dl = none) : LcA K G0 H0 G H σ ρ Dl [] (upd H Dl (.lst [])) := LcP.start (p := fun _ => false) (f := fun _ => .non) s hD
theorem LcA.fin {G0 H0 G1 H1 H' : Hp} {σ : L2.St} {Dl : Addr} {Q : VK} (h : LcA K G0 H0 G1 H1 σ ρ Dl es H') (k : ∀ l vs G' H', Go G1 H1 G' H' → H' l = none → RpA K G' vs es → Q (.ref l) (upd H' l (.lst vs))) : Q (.ref Dl) H' := by
  obtain ⟨G', e, sx⟩ := h
  have hl := sx.unpad.len
  obtain ⟨l, ws, h1, h2, h3, h4, h5⟩ := sx.own σ.length es (by rw [hl]; exact get_last _ _)
  rw [get_last] at h1
  cases h1
  have := k Dl ws G' (delx H' Dl) e delx_same h5
  rw [upd_delx h4] at this
  exact this
theorem LcA.go {G0 H0 G1 H1 H' G' G2 H2 : Hp} {σ : L2.St} {Dl : Addr} (e : Go G1 H1 G' (delx H' Dl)) (sx : Sl K G0 H0 G' H' (σ ++ [some (.ref Dl)]) (ρ ++ [some (.own es)])) (g2 : Go G' H' G2 H2) :
    Go G1 H1 G2 (delx H2 Dl) ∧ Sl K G0 H0 G2 H2 (σ ++ [some (.ref Dl)]) (ρ ++ [some (.own es)]) := by
  have hl := sx.unpad.len
  obtain ⟨l, ws, h1, h2, h3, h4, h5⟩ := (sx.step g2).own σ.length es (by rw [hl]; exact get_last _ _)
  rw [get_last] at h1
  cases h1
  exact ⟨e.trans (g2.del h3), sx.step g2⟩
theorem LcA.add {G0 H0 G1 H1 H' G' : Hp} {σ : L2.St} {Dl : Addr} {y : V} (hz : es.length < 50000) (e : Go G1 H1 G' (delx H' Dl)) (sx : Sl K G0 H0 G' H' (σ ++ [some (.ref Dl)]) (ρ ++ [some (.own es)])) (r : Rp K G' y d) :
    ∃ acc, H' Dl = some (.lst acc) ∧ acc.length < sizeLine ∧ LcA K G0 H0 G1 H1 σ ρ Dl (es ++ [d]) (upd H' Dl (.lst (acc ++ [y]))) := by
  have hl := sx.unpad.len
  have hi : (ρ ++ [some (S.own es)])[σ.length]? = some (some (.own es)) := by rw [hl]; exact get_last _ _
  obtain ⟨l, ws, h1, h2, h3, h4, h5⟩ := sx.own σ.length es hi
  rw [get_last] at h1
  cases h1
  refine ⟨ws, h4, by rw [h5.length]; exact sz_lt (by omega), G', by rw [delx_upd]; exact e, ?_⟩
  have := sx.mut (i := σ.length) (l := Dl) (vs := ws) (vs' := ws ++ [y]) (ds' := es ++ [d]) hi (get_last _ _) (h5.append (.cons r .nil))
  rw [hl, set_last] at this
  exact this
/-- [e for t in xs if c] over any walk -/
theorem en_lcI {tt : TT} {vs js : List Nat} (p : Nat → Bool) (f : Nat → D) (R : Nat → Rho) (hi : ItD K ti ρ ds) (hz : ds.length ≤ 40000) (hv : ∀ j ∈ js, j ∈ vs)
    (hg : ∀ n d, ds[n]? = some d → TgD K g d (wipeR ρ vs) (R n) js) (ht : ∀ n d, ds[n]? = some d → EvB K tt (R n) (p n)) (he : ∀ n d, ds[n]? = some d → p n = true → EvD K te (R n) (f n)) :
    EvN K (tLc ti g tt te vs) ρ (pick p f ds.length) := fun G0 H0 G H σ Q s k => hi G0 H0 G H σ _ s fun J G1 H1 g1 ⟨Gd, Y, w, hG, hY⟩ => by
  intro Dl hD
  refine lc_it w (fun n H' => LcA K G0 H0 G1 H1 σ ρ Dl (pick p f n) H') (LcA.start (s.step g1) hD) (fun i H' _ ⟨G', e, sx⟩ => hG H' (e.gg.trans sx.gh)) ?_ fun H' P => P.fin fun l vs G' H' g hl r => k l vs G' H' (g1.trans g) hl r
  rintro n x H' H'' hn ⟨G', e, sx⟩ y
  have hd : ds[n]? = some ds[n] := List.getElem?_eq_getElem hn
  obtain ⟨G'', g2, r⟩ := hY n _ G' H' x H'' hd e.gg sx.gh y
  obtain ⟨e2, sx2⟩ := LcA.go e sx g2
  refine hg n _ hd G0 H0 G'' H'' _ x _ (sx2.unpad.wipe vs) r fun σ2 s2 hl2 ho => ⟨(wipe_eq hl2 fun i hi => ho i fun z => hi (hv i z)).trans (wipe_wipe σ vs), ?_⟩
  refine ht n _ hd G0 H0 G'' H'' σ2 _ s2 fun G2 H2 g3 => ?_
  cases hb : p n with
  | true =>
    show te σ2 H2 _
    refine he n _ hd hb G0 H0 G2 H2 σ2 _ (s2.step g3) fun y G3 H3 g4 r3 => ?_
    obtain ⟨e3, sx3⟩ := LcA.go e2 sx2 (g3.trans g4)
    rw [pick_yes hb]
    exact LcA.add (by have := pick_len p f n; omega) e3 sx3 r3
  | false =>
    show LcA K G0 H0 G1 H1 σ ρ Dl _ H2
    rw [pick_no hb]
    exact ⟨G2, LcA.go e2 sx2 g3⟩
/-! ### two fors in one comprehension -/
def plain (ρ : Rho) : Prop := ∀ (i : Nat) (x : S), ρ[i]? = some (some x) → x.mine = false
theorem Sl.plain {G0 H0 G H G' H' : Hp} {σ : L2.St} (s : Sl K G0 H0 G H σ ρ) (hp : plain ρ) (g : Go G0 H0 G' H') (e : Ex G G') : Sl K G0 H0 G' H' σ ρ :=
  ⟨g, s.len, fun i d q => let ⟨v, h1, h2⟩ := s.dat i d q; ⟨v, h1, h2.mono e⟩, (fun i x q m => by rw [hp i x q] at m; cases m), (fun i j x y v w _ q m => by rw [hp i x q] at m; cases m)⟩
def nest (p : Nat → Bool) (F : Nat → List D) (n : Nat) : List D := ((List.range n).map fun i => if p i = true then F i else []).flatten
theorem nest_yes {p : Nat → Bool} {F : Nat → List D} (h : p n = true) : nest p F (n + 1) = nest p F n ++ F n := by
  unfold nest
  rw [List.range_succ, List.map_append, List.flatten_append, List.map_cons, if_pos h]
  simp
theorem nest_no {p : Nat → Bool} {F : Nat → List D} (h : p n = false) : nest p F (n + 1) = nest p F n := by
  unfold nest
  rw [List.range_succ, List.map_append, List.flatten_append, List.map_cons, if_neg (by rw [h]; decide)]
  simp
theorem nest_len {p : Nat → Bool} {F : Nat → List D} {b : Nat} (h : ∀ i, (F i).length ≤ b) : ∀ n, (nest p F n).length ≤ n * b
  | 0 => by simp [nest]
  | n + 1 => by
    have ih := nest_len (p := p) h n
    have hn := h n
    rw [Nat.succ_mul]
    cases q : p n with
    | true => rw [nest_yes q, List.length_append]; omega
    | false => rw [nest_no q]; omega
theorem en_lc2 {tt tt1 : TT} {vs vs1 js js1 : List Nat} {b : Nat} (p : Nat → Bool) (dsi : Nat → List D) (q : Nat → Nat → Bool) (f : Nat → Nat → D) (R : Nat → Rho) (R1 : Nat → Nat → Rho) (hi : ItD K ti ρ ds) (hz1 : ∀ n, (dsi n).length ≤ b) (hz : (ds.length + 1) * b ≤ 40000)
    (hv : ∀ j ∈ js, j ∈ vs) (hv1 : ∀ j ∈ js1, j ∈ vs1) (hp : ∀ n, plain (R n))
    (hg : ∀ n d, ds[n]? = some d → TgD K g d (wipeR ρ vs) (R n) js) (ht : ∀ n d, ds[n]? = some d → EvB K tt (R n) (p n))
    (hi1 : ∀ n d, ds[n]? = some d → p n = true → ItD K ti1 (R n) (dsi n))
    (hg1 : ∀ n m d, n < ds.length → (dsi n)[m]? = some d → TgD K g1 d (wipeR (R n) vs1) (R1 n m) js1) (ht1 : ∀ n m d, n < ds.length → (dsi n)[m]? = some d → EvB K tt1 (R1 n m) (q n m))
    (he : ∀ n m d, n < ds.length → (dsi n)[m]? = some d → q n m = true → EvD K te (R1 n m) (f n m)) :
    EvN K (tLc2 ti g tt ti1 g1 tt1 te vs vs1) ρ (nest p (fun n => pick (q n) (f n) (dsi n).length) ds.length) := fun G0 H0 G H σ Q s k => hi G0 H0 G H σ _ s fun J G1 H1 g1' ⟨Gd, Y, w, hG, hY⟩ => by
  have lenF : ∀ n, (pick (q n) (f n) (dsi n).length).length ≤ b := fun n => Nat.le_trans (pick_len _ _ _) (hz1 n)
  intro Dl hD
  refine ⟨fun i m H' => m = ds.length - i ∧ i ≤ ds.length ∧ LcA K G0 H0 G1 H1 σ ρ Dl (nest p (fun n => pick (q n) (f n) (dsi n).length) i) H', ⟨ds.length, by simp, Nat.zero_le _, LcA.start (s.step g1') hD⟩, ?_⟩
  rintro n m H' ⟨rfl, hn', P⟩
  have P0 := P
  obtain ⟨G', e, sx⟩ := P
  by_cases hn : n < ds.length
  · refine .inr ⟨w.goes n H' hn (hG H' (e.gg.trans sx.gh)), fun H' => LcA K G0 H0 G1 H1 σ ρ Dl (nest p (fun n => pick (q n) (f n) (dsi n).length) (n + 1)) H', fun H' P => ⟨ds.length - (n + 1), by omega, rfl, hn, P⟩, fun x H'' y => ?_⟩
    have y := w.yields n H' x H'' hn (hG H' (e.gg.trans sx.gh)) y
    have hd : ds[n]? = some ds[n] := List.getElem?_eq_getElem hn
    obtain ⟨G'', g2, r⟩ := hY n _ G' H' x H'' hd e.gg sx.gh y
    obtain ⟨e2, sx2⟩ := LcA.go e sx g2
    refine hg n _ hd G0 H0 G'' H'' _ x _ (sx2.unpad.wipe vs) r fun σ2 s2 hl2 ho => ⟨(wipe_eq hl2 fun i hi => ho i fun z => hi (hv i z)).trans (wipe_wipe σ vs), ?_⟩
    refine ht n _ hd G0 H0 G'' H'' σ2 _ s2 fun G2 H2 g3 => ?_
    obtain ⟨e3, sx3⟩ := LcA.go e2 sx2 g3
    have s3 := s2.step g3
    cases hb : p n with
    | false =>
      show LcA K G0 H0 G1 H1 σ ρ Dl _ H2
      rw [nest_no hb]
      exact ⟨G2, e3, sx3⟩
    | true =>
      show ti1 σ2 H2 _
      refine hi1 n _ hd hb G0 H0 G2 H2 σ2 _ s3 fun J1 G3 H3 g4 ⟨Gd1, Y1, w1, hG1, hY1⟩ => ?_
      obtain ⟨e4, sx4⟩ := LcA.go e3 sx3 g4
      have s4 := s3.step g4
      refine ⟨fun j k H' => k = (dsi n).length - j ∧ j ≤ (dsi n).length ∧ ∃ G', Ex G3 G' ∧ Go G1 H1 G' (delx H' Dl) ∧ Sl K G0 H0 G' H' (σ ++ [some (.ref Dl)]) (ρ ++ [some (.own (nest p (fun n => pick (q n) (f n) (dsi n).length) n ++ pick (q n) (f n) j))]), ⟨(dsi n).length, by simp, Nat.zero_le _, G3, Ex.refl G3, e4, ?_⟩, ?_⟩
      · rw [show pick (q n) (f n) 0 = [] from rfl, List.append_nil]; exact sx4
      rintro j k' H4 ⟨rfl, hj', G4, x4, e5, sx5⟩
      by_cases hj : j < (dsi n).length
      · refine .inr ⟨w1.goes j H4 hj (hG1 H4 (x4.trans sx5.gh)), fun H' => ∃ G', Ex G3 G' ∧ Go G1 H1 G' (delx H' Dl) ∧ Sl K G0 H0 G' H' (σ ++ [some (.ref Dl)]) (ρ ++ [some (.own (nest p (fun n => pick (q n) (f n) (dsi n).length) n ++ pick (q n) (f n) (j + 1)))]), fun H' P => ⟨(dsi n).length - (j + 1), by omega, rfl, hj, P⟩, fun x1 H5 y1 => ?_⟩
        have y1 := w1.yields j H4 x1 H5 hj (hG1 H4 (x4.trans sx5.gh)) y1
        have hd1 : (dsi n)[j]? = some (dsi n)[j] := List.getElem?_eq_getElem hj
        obtain ⟨G5, g5, r1⟩ := hY1 j _ G4 H4 x1 H5 hd1 x4 sx5.gh y1
        obtain ⟨e6, sx6⟩ := LcA.go e5 sx5 g5
        have x6 : Ex G3 G5 := x4.trans g5.gg
        have s6 := s4.plain (hp n) sx6.go x6
        refine hg1 n j _ hn hd1 G0 H0 G5 H5 _ x1 _ (s6.wipe vs1) r1 fun σ3 s7 hl3 ho3 => ⟨(wipe_eq hl3 fun i hi => ho3 i fun z => hi (hv1 i z)).trans (wipe_wipe σ2 vs1), ?_⟩
        refine ht1 n j _ hn hd1 G0 H0 G5 H5 σ3 _ s7 fun G6 H6 g6 => ?_
        obtain ⟨e7, sx7⟩ := LcA.go e6 sx6 g6
        cases hb1 : q n j with
        | true =>
          show te σ3 H6 _
          refine he n j _ hn hd1 hb1 G0 H0 G6 H6 σ3 _ (s7.step g6) fun y G7 H7 g7 r3 => ?_
          obtain ⟨e8, sx8⟩ := LcA.go e7 sx7 g7
          have hl1 := nest_len (p := p) (F := fun n => pick (q n) (f n) (dsi n).length) lenF n
          have hl2 := pick_len (q n) (f n) j
          have hl3 := hz1 n
          have hl4 : (ds.length + 1) * b = ds.length * b + b := Nat.succ_mul _ _
          have hl5 : n * b ≤ ds.length * b := Nat.mul_le_mul_right b hn'
          obtain ⟨acc, a1, a2, G8, a3, a4⟩ := LcA.add (d := f n j) (y := y) (by rw [List.length_append]; omega) e8 sx8 r3
          refine ⟨acc, a1, a2, G7, ?_, by rw [delx_upd]; exact e8, ?_⟩
          · exact (x6.trans g6.gg).trans g7.gg
          · have hl := sx8.unpad.len
            have hi : (ρ ++ [some (S.own (nest p (fun n => pick (q n) (f n) (dsi n).length) n ++ pick (q n) (f n) j))])[σ.length]? = some (some (.own (nest p (fun n => pick (q n) (f n) (dsi n).length) n ++ pick (q n) (f n) j))) := by rw [hl]; exact get_last _ _
            obtain ⟨l, ws, h1, h2, h3, h4, h5⟩ := sx8.own σ.length _ hi
            rw [get_last] at h1
            cases h1
            have ea : ws = acc := by
              rw [h4] at a1
              injection a1 with a1
              injection a1
            subst ea
            have := sx8.mut (i := σ.length) (l := Dl) (vs := ws) (vs' := ws ++ [y]) (ds' := (nest p (fun n => pick (q n) (f n) (dsi n).length) n ++ pick (q n) (f n) j) ++ [f n j]) hi (get_last _ _) (h5.append (.cons r3 .nil))
            rw [hl, set_last] at this
            rw [pick_yes hb1, ← List.append_assoc]
            exact this
        | false =>
          show ∃ G', _
          rw [pick_no hb1]
          exact ⟨G6, x6.trans g6.gg, e7, sx7⟩
      · have ej : j = (dsi n).length := by omega
        subst ej
        refine .inl ⟨w1.stops H4 (hG1 H4 (x4.trans sx5.gh)), ?_⟩
        show LcA K G0 H0 G1 H1 σ ρ Dl _ H4
        rw [nest_yes hb]
        exact ⟨G4, e5, sx5⟩
  · have en : n = ds.length := by omega
    subst en
    exact .inl ⟨w.stops H' (hG H' (e.gg.trans sx.gh)), P0.fin fun l vs G' H' g hl r => k l vs G' H' (g1'.trans g) hl r⟩
end
end Ax

namespace Ax
open PySem PySem.Spec PyProof.Rows L2 Evl

/-! ### enumerate over a tuple -/
section
variable {prog : PySem.Program} {w : World} {A : Around} {E : Value → Shared → Prop} {s : Shared} {a t : Addr} {j : Nat} {us : Array Value} {u : Value}
theorem tupNext (q1 : s.heap.IsTupleIter a t j) (q2 : s.heap.IsTuple t us) (q3 : us[j]? = some u) {Z : Value → Shared → Prop}
    (q4 : ∀ g, g.IsTupleIter a t (j + 1) → Heap.SameBut a s.heap g → Z u { s with heap := g }) : wpAny (model prog w) A (Builtin.SmallTypes.nextOf (.ref a)) Z E s := by
  obtain ⟨c, c1, c2, c3⟩ := id q1
  obtain ⟨d, d1, d2, m, d3⟩ := q2
  unfold Builtin.SmallTypes.nextOf
  refine wpAny_bind (wpAny_callSpecial?_slot (name := Str.ofString "__next__") q1.typeIs F.slot_tuple_iterator_next (wpAny_call_entry F.slot_tuple_iterator_next q1.typeIs F.entry_tuple_iterator_next ?_ (F.args_tuple_iterator_next_1 _)))
  show wpAny _ _ (field (.ref a) 0 >>= _) _ _ s; refine wpAny_bind (wpAny_field c1 c3 (x := .ref t) rfl ?_)
  show wpAny _ _ (if (Value.ref t == Value.none) = true then _ else _) _ _ s; rw [if_neg (show ¬ ((Value.ref t == Value.none) = true) from Bool.false_ne_true)]
  show wpAny _ _ (field (.ref a) 1 >>= _) _ _ s; refine wpAny_bind (wpAny_field c1 c3 (x := .int j 0) rfl ?_)
  show wpAny _ _ (seqItems? (.ref t) >>= _) _ _ s; refine wpAny_bind (wpAny_seqItems d1 d3 ?_)
  simp only [Int.toNat_natCast, q3]
  refine wpAny_bind (wpAny_setField c1 c3 (by simp) (wpAny_pure ⟨u, rfl, wpAny_pure (q4 _ ?_ (Heap.SameBut.update ..))⟩))
  exact ⟨_, Heap.get?_update_self _ c1 (Obj.isFreed_of_fields (Obj.data_mapFields c3 _)), (Obj.cls_mapFields ..).trans c2, by rw [Obj.data_mapFields c3]; simp [rawInt]⟩
theorem tupStop (hd : A.handled = none) (q1 : s.heap.IsTupleIter a t j) (q2 : s.heap.IsTuple t us) (q3 : us[j]? = none) {Z : Value → Shared → Prop}
    (q4 : ∀ g e, Heap.ExtBut a s.heap g → (∃ o, g.get? e = some o ∧ o.cls = .type "StopIteration") → E (.ref e) { s with heap := g }) : wpAny (model prog w) A (Builtin.SmallTypes.nextOf (.ref a)) Z E s := by
  obtain ⟨c, c1, c2, c3⟩ := id q1
  obtain ⟨d, d1, d2, m, d3⟩ := q2
  unfold Builtin.SmallTypes.nextOf
  refine wpAny_bind (wpAny_callSpecial?_slot (name := Str.ofString "__next__") q1.typeIs F.slot_tuple_iterator_next (wpAny_call_entry F.slot_tuple_iterator_next q1.typeIs F.entry_tuple_iterator_next ?_ (F.args_tuple_iterator_next_1 _)))
  show wpAny _ _ (field (.ref a) 0 >>= _) _ _ s; refine wpAny_bind (wpAny_field c1 c3 (x := .ref t) rfl ?_)
  show wpAny _ _ (if (Value.ref t == Value.none) = true then _ else _) _ _ s; rw [if_neg (show ¬ ((Value.ref t == Value.none) = true) from Bool.false_ne_true)]
  show wpAny _ _ (field (.ref a) 1 >>= _) _ _ s; refine wpAny_bind (wpAny_field c1 c3 (x := .int j 0) rfl ?_)
  show wpAny _ _ (seqItems? (.ref t) >>= _) _ _ s; refine wpAny_bind (wpAny_seqItems d1 d3 ?_)
  simp only [Int.toNat_natCast, q3]
  refine wpAny_bind (wpAny_rule (wpAny_bind (wpAny_setField c1 c3 (by simp) ?_))); show wpAny _ _ (newExc (.type "StopIteration") [] >>= _) _ _ _
  refine wpAny_bind ?_; simp only [newExc, newTuple]; refine wpAny_bind (wpAny_newObj_type ?_ (by size_fits))
  refine wpAny_bind (m := firstArgMember _ _) (wpAny_of_eq (a := Value.none) (by first | rfl | (simp only [firstArgMember]; rfl)) ?_); refine wpAny_newObj_type ?_ (by size_fits)
  simp only [raiseNew]; refine wpAny_bind (wpAny_handled ?_)
  first | rw [show A.in1.handled = none from hd] | rw [hd]
  refine wpAny_bind (wpAny_pure (wpAny_throw ?_)); exact q4 _ _ (((Heap.SameBut.update ..).extBut.push _).push _) ⟨_, Heap.get?_push_size _ rfl, rfl⟩
theorem drawsTup (hd : A.handled = none) (ne : t ≠ a) : Draws prog w A a [a, t] us.size (fun i v => us[i]? = some v) (fun i h => h.IsTupleIter a t i ∧ h.IsTuple t us) where
  live := fun _ _ st => let ⟨o, ho, _⟩ := st.1; ⟨o, ho⟩
  frame := fun _ _ _ ⟨⟨o, p1, p2⟩, ⟨o', p3, p4⟩⟩ hk => ⟨⟨o, hk a (by simp) _ p1, p2⟩, ⟨o', hk t (by simp) _ p3, p4⟩⟩
  item := fun i s Z E hi st hZ => tupNext st.1 st.2 (u := us[i]) (by simp [hi]) fun g q1 q2 => hZ _ g s.toks (by simp [hi]) ⟨q1, st.2.extBut q2.extBut ne⟩ q2
  done := fun s Z E st hE => tupStop hd st.1 st.2 (by simp) hE
theorem drawsEnd (hd : A.handled = none) (hx : us[j]? = none) : Draws prog w A a [a, t] j (fun _ _ => False) (fun i h => i = j ∧ h.IsTupleIter a t i ∧ h.IsTuple t us) where
  live := fun _ _ st => let ⟨o, ho, _⟩ := st.2.1; ⟨o, ho⟩
  frame := fun _ _ _ ⟨e, ⟨o, p1, p2⟩, ⟨o', p3, p4⟩⟩ hk => ⟨e, ⟨o, hk a (by simp) _ p1, p2⟩, ⟨o', hk t (by simp) _ p3, p4⟩⟩
  item := fun i s Z E hi st hZ => by
    obtain ⟨e, _⟩ := st
    omega
  done := fun s Z E st hE => tupStop hd st.2.1 st.2.2 hx hE
theorem madeEnumT (t : Addr) (us : Array Value) (n : Nat) (dd : Option Addr) (sl : Array (Option Value)) : Meets (Builtin.«enumerate.__new__» ⟨[.type "enumerate", .ref t], []⟩)
    (fun _ R s => s.heap.get? t = some { cls := .type "tuple", dict := dd, data := .seq us n, slots := sl } ∧ R (.ok (.ret (.ref (s.heap.push { cls := .type "tuple_iterator", data := .fields #[.ref t, .int 0 0] }).objs.size)))
      { s with heap := (s.heap.push { cls := .type "tuple_iterator", data := .fields #[.ref t, .int 0 0] }).push { cls := .type "enumerate", data := .fields #[.none, .bool false, .ref s.heap.objs.size, rawInt 0, .none, .none] } }) := .of_wp fun prog w A R s h => by
  obtain ⟨hp, g, d, tk, os⟩ := s; obtain ⟨ht, h⟩ := h
  have se := sub_enumerate; have hT : Heap.IsTuple (Shared.heap ⟨hp, g, d, tk, os⟩) t us := ⟨_, ht, rfl, n, rfl⟩
  wp_walk using AutoSeq1.wpAny_loadPart' ht
  refine wpAny_stack_any fun st => wpAny_pure ?_
  split
  · rename_i c _ _ _ _ _
    cases (c == Value.type "enumerate") <;> (wp_walk using AutoSeq1.wpAny_loadPart' ht, wpAny_pyIter_tuple hT; exact ⟨_, rfl, h⟩)
  · wp_walk using AutoSeq1.wpAny_loadPart' ht, wpAny_pyIter_tuple hT; exact ⟨_, rfl, h⟩
theorem callEnumT (hT : s.heap.IsTuple t us) {Z : Value → Shared → Prop} (h : ∀ g, IsEnum g (s.heap.objs.size + 1) s.heap.objs.size 0 .none → g.IsTupleIter s.heap.objs.size t 0 → (∀ b o, s.heap.get? b = some o → g.get? b = some o) → Z (.ref (s.heap.objs.size + 1)) { s with heap := g }) :
    wpAny (model prog w) A (call (.type "enumerate") [.ref t]) Z E s := by
  obtain ⟨⟨c, dd, dt, sl⟩, ht, hc, n, hdt⟩ := hT
  have hc : c = .type "tuple" := hc
  have hdt : dt = .seq us n := hdt
  subst hc hdt
  refine callType_new F.called_enumerate (by decide) (F.typeCall_enumerate_1 _) (F.newCall_enumerate_1 _) (fun obj => F.args_object_init_2 obj _) F.entry_enumerate_new (madeEnumT t us n dd sl) ⟨ht, ?_⟩
  have z : (s.heap.push { cls := .type "tuple_iterator", data := .fields #[.ref t, .int 0 0] }).objs.size = s.heap.objs.size + 1 := Heap.size_push ..
  show _ ∧ _
  rw [z]
  have he : IsEnum ((s.heap.push { cls := .type "tuple_iterator", data := .fields #[.ref t, .int 0 0] }).push { cls := .type "enumerate", data := .fields #[.none, .bool false, .ref s.heap.objs.size, rawInt 0, .none, .none] }) (s.heap.objs.size + 1) s.heap.objs.size 0 .none := by
    have e := Heap.get?_push_size (s.heap.push { cls := .type "tuple_iterator", data := .fields #[.ref t, .int 0 0] }) (o := { cls := .type "enumerate", data := .fields #[.none, .bool false, .ref s.heap.objs.size, rawInt 0, .none, .none] }) rfl
    rw [z] at e; exact e
  exact ⟨⟨_, he, rfl⟩, h _ he ⟨_, Heap.get?_push_of_some _ (Heap.get?_push_size _ rfl), rfl, rfl⟩ fun b o x => Heap.get?_push_of_some _ (Heap.get?_push_of_some _ x)⟩
end
/-- the tuple at a, each item in a new pair -/
def Itet (K : PySem.W.Frag) (a : Addr) : It :=
  ⟨fun i H => ∃ (xs : List V) (x : V), SqT K H a xs ∧ xs[i]? = some x, fun i H v H' => ∃ T x, v = .ref T ∧ H T = none ∧ H' = upd H T (.tup [.int (i : Nat), x]) ∧ ∀ xs, SqT K H a xs → xs[i]? = some x, fun i H => ∃ xs : List V, SqT K H a xs ∧ xs.length ≤ i⟩
theorem walk_enumT {K : PySem.W.Frag} {a : Addr} {xs : List V} : Walk (Itet K a) xs.length (fun H => SqT K H a xs) (YPair (fun i => some (.int (i : Nat))) (fun i => xs[i]?)) := by
  refine ⟨fun i _ hi q => ⟨xs, xs[i], q, by simp [hi]⟩, fun _ q => ⟨xs, q, Nat.le_refl _⟩, fun i H v H' _ q y => ?_⟩
  obtain ⟨T, x, y1, y2, y3, y4⟩ := y
  exact ⟨T, _, x, y1, y2, y3, rfl, y4 xs q⟩
theorem turn_enumT {P : PySem.Program} {w : World} {K : PySem.W.Frag} {elts : List Expr} {kk : Nat} {tpos : Pos} (a e it : Addr) :
    L2.Turn P w K (.Tuple elts kk tpos) (Itet K a) [e, it] e (fun i h => (∃ old, IsEnum h e it ((i : Nat) : Int) old) ∧ h.IsTupleIter it a i ∧ e ≠ it ∧ a ≠ it ∧ e ≠ a) where
  mem := by simp
  obj := fun i h st b hb => by
    obtain ⟨⟨old, he⟩, ⟨o, ho, hc, hd⟩, _⟩ := st
    rcases (by simpa using hb : b = e ∨ b = it) with z | z
    · rw [z]; exact ⟨_, he, fun v q => nomatch q⟩
    · rw [z]; exact ⟨o, ho, fun v q => by rw [hd] at q; cases q⟩
  keep := fun i h h' st k => let ⟨⟨old, he⟩, ⟨o, ho, r⟩, ne⟩ := st; ⟨⟨old, k e (by simp) _ he⟩, ⟨o, k it (by simp) _ ho, r⟩, ne⟩
  item := by
    intro X hP hw hK hc i pins s σ H E I hf st hg
    subst hP hw hK
    obtain ⟨⟨old, he⟩, hit, ne, ne2, ne3⟩ := st
    obtain ⟨xs, x, hq, hx⟩ := hg
    obtain ⟨its, rv, p, hz⟩ := I.tuple hq
    obtain ⟨u, hu, ru⟩ := rv.get hx
    have hel : e < s.heap.objs.size := Heap.lt_size he
    have hil : it < s.heap.objs.size := by obtain ⟨_, q, _⟩ := hit; exact Heap.lt_size q
    have hi : i < its.toArray.size := by rw [List.size_toArray, ← rv.length]; exact (List.getElem?_eq_some_iff.mp hx).1
    refine wpAny_pyNext_enum_itemD (drawsTup (us := its.toArray) (I.ok.hd hc) ne2) he ⟨hit, p⟩ hi ne (by simp [ne, ne3]) fun u' h' tk hu' ho st' hT hsz hk => ?_
    have eu : u' = u := by
      rw [List.getElem?_toArray, hu] at hu'
      exact (Option.some.inj hu').symm
    subst eu
    refine ⟨_, rfl, wpAny_letOwnedTupleGo_enum (s := { s with heap := h', toks := tk + 1 }) ho fun h'' he' sb => ?_⟩
    have hT2 : h''.get? s.heap.objs.size = some { cls := .type "tuple", data := .seq #[.int i tk, u'] } := (sb.2 _ (Nat.ne_of_gt hel)).trans hT
    have new : ObjOk X.prog X.w (upd H s.heap.objs.size (.tup [.int (i : Nat), x])) h'' s.heap.objs.size (.tup [.int (i : Nat), x]) := ⟨by show 2 ≤ sizeLine; decide, [.int i tk, u'], .cons ⟨_, rfl⟩ (.cons ru .nil), ⟨_, hT2, rfl, _, rfl⟩⟩
    have I1 : Inv X pins σ (upd H s.heap.objs.size (.tup [.int (i : Nat), x])) { s with heap := h'', toks := tk + 1 } := I.turnedNew (ch := [e, it]) (fun b ob hb q => (sb.2 b (fun z => hb (by simp [z]))).trans (hk b ob (fun z => hb (by simp [z])) (fun z => hb (by simp [z])) q)) hf (Nat.le_refl _) new
    refine ⟨.ref s.heap.objs.size, _, I1, rfl, ⟨_, x, rfl, I.hok.fresh (Nat.le_refl _), rfl, fun ys hy => by rw [I.tuple_inj hy hq]; exact hx⟩, ⟨⟨u', ?_⟩, ?_, ne, ne2, ne3⟩, fun b hb => ?_⟩
    · have e1 : ((i + 1 : Nat) : Int) = (i : Int) + 1 := by omega
      rw [e1]; exact he'
    · obtain ⟨o, q1, q2⟩ := st'.1
      exact ⟨o, (sb.2 it (Ne.symm ne)).trans q1, q2⟩
    · have hb' : b < s.heap.objs.size := by
        rcases (by simpa using hb : b = e ∨ b = it) with z | z
        · rw [z]; exact hel
        · rw [z]; exact hil
      rw [upd_ne (Nat.ne_of_lt hb')]; exact (hf b hb).1
  done := by
    intro X hP hw hK hc i pins s σ H E I hf st hg
    subst hP hw hK
    obtain ⟨⟨old, he⟩, hit, ne, ne2, ne3⟩ := st
    obtain ⟨xs, hq, hx⟩ := hg
    obtain ⟨its, rv, p, hz⟩ := I.tuple hq
    obtain ⟨f0, f1, f2, f3, f4, f5⟩ := hf it (by simp)
    have hl := rv.length
    have hn : its.toArray[i]? = none := Array.getElem?_eq_none (by rw [List.size_toArray]; omega)
    exact wpAny_pyNext_enum_endD (drawsEnd (us := its.toArray) (I.ok.hd hc) hn) he ⟨rfl, hit, p⟩ fun h' eb => ⟨rfl, I.turned (t' := s.toks) (fun b o hb q => eb b o hb q) f0 f1 f3 f4 f5⟩
  self := fun A i s Q E st h => let ⟨⟨_, he⟩, _⟩ := st; wpAny_pyIter_enum he h
def iEnumT (K : PySem.W.Frag) (ta : TA) : TI := fun σ H R => ta σ H fun vs H1 => ∃ a xs, vs = [.ref a] ∧ SqT K H1 a xs ∧ R (Itet K a) H1
theorem pi_enumT {X : Cx} {e : Expr} {ta : TA} {p pos tpos : Pos} {elts : List Expr} {kk : Nat} (hg : Gl X "enumerate") (hm : X.mg "enumerate" = none) (ha : PA X [e] ta) (hs : starEach [e] X.env = [(false, eval e X.env)] := by rfl) : PI X (.Tuple elts kk tpos) (.Call (.Name "enumerate" p) [e] [] pos) (iEnumT X.K ta) := by
  refine ⟨fun pins s σ H R I h => Call_ (ld_blt I hg hm boot_enumerate (PyProof.Rows.callWith_type1 (thn (ha.run pos pins s σ H _ I h) fun us s1 ⟨vs, H1, I1, r1, a, xs, ex, hq, q⟩ => ?_) hs rfl))⟩
  subst ex
  cases r1 with
  | cons r rr =>
    cases rr
    cases r
    obtain ⟨its, rv, p', hz⟩ := I1.tuple hq
    refine callEnumT (us := its.toArray) p' fun h' he hit hk => wpAny_pyIter_enum he ?_
    have I2 : Inv X pins σ H1 { s1 with heap := h' } := I1.kept (t' := s1.toks) hk
    have hal : a < s1.heap.objs.size := by obtain ⟨_, q, _⟩ := p'; exact Heap.lt_size q
    refine ⟨s1.heap.objs.size + 1, [s1.heap.objs.size + 1, s1.heap.objs.size], _, _, H1, rfl, I2, turn_enumT a (s1.heap.objs.size + 1) s1.heap.objs.size, ⟨⟨.none, he⟩, hit, Nat.succ_ne_self _, Nat.ne_of_lt hal, Nat.ne_of_gt (Nat.lt_succ_of_lt hal)⟩, fun b hb => ?_, q⟩
    have hle : s1.heap.objs.size ≤ b := by
      rcases (by simpa using hb : b = s1.heap.objs.size + 1 ∨ b = s1.heap.objs.size) with z | z
      · rw [z]; exact Nat.le_add_right _ _
      · rw [z]; exact Nat.le_refl _
    exact I1.fpOk hle (I1.hok.fresh hle)
/-! ### .. at the level of data -/
section
variable {K : PySem.W.Frag} {ρ : Rho} {ta : TA} {ds : List D}
def enumD (ds : List D) : List D := ds.zipIdx.map fun x => .tup [.int ((x.2 : Nat) : Int), x.1]
theorem enumD_len (ds : List D) : (enumD ds).length = ds.length := by unfold enumD; rw [List.length_map, List.length_zipIdx]
theorem enumD_get {i : Nat} {d : D} (h : (enumD ds)[i]? = some d) : ∃ e, ds[i]? = some e ∧ d = .tup [.int (i : Int), e] := by
  unfold enumD at h
  rw [List.getElem?_map, List.getElem?_zipIdx] at h
  cases q : ds[i]? with
  | none => rw [q] at h; cases h
  | some e =>
    rw [q] at h
    refine ⟨e, rfl, ?_⟩
    simpa using h.symm
theorem itOk_pair {G1 : Hp} {J : It} {xs : List V} {Gd : Hp → Prop} (w : Walk J xs.length Gd (YPair (fun i => some (.int (i : Nat))) (fun i => xs[i]?))) (r : RpA K G1 xs ds) (hg : ∀ H', Ex G1 H' → Gd H') : ItOk K G1 J (enumD ds) := by
  refine ⟨Gd, YPair (fun i => some (.int (i : Nat))) (fun i => xs[i]?), ?_, hg, ?_⟩
  · rw [enumD_len, ← r.length]; exact w
  · rintro i d G' H' x H'' hd e1 e2 ⟨T, y, z, rfl, hT, rfl, hy, hz⟩
    obtain ⟨e, he, rfl⟩ := enumD_get hd
    cases hy
    obtain ⟨d', hd', r'⟩ := r.getV hz
    rw [he] at hd'
    cases hd'
    have n := Go.new (o := .tup [.int ((i : Nat) : Int), z]) e2 hT
    exact ⟨_, n, .tup (.inl (.inl upd_same)) (.cons (.int _) (.cons (r'.mono (e1.trans n.gg)) .nil))⟩
theorem it_enumL (h : EvS K ta ρ [.lst ds]) : ItD K (iEnum K ta) ρ (enumD ds) := fun G0 H0 G H σ R s k => h G0 H0 G H σ _ s fun vs G1 H1 g1 r1 => by
  cases r1 with
  | cons r2 r3 =>
    cases r3
    cases r2 with
    | lst hx ra => exact ⟨_, _, rfl, ex_l g1.gh hx, k _ G1 H1 g1 (itOk_pair walk_enum ra fun H' e => ex_l e hx)⟩
theorem it_enumT (h : EvS K ta ρ [.tup ds]) : ItD K (iEnumT K ta) ρ (enumD ds) := fun G0 H0 G H σ R s k => h G0 H0 G H σ _ s fun vs G1 H1 g1 r1 => by
  cases r1 with
  | cons r2 r3 =>
    cases r3
    cases r2 with
    | tup hx ra => exact ⟨_, _, rfl, ex_t g1.gh hx, k _ G1 H1 g1 (itOk_pair walk_enumT ra fun H' e => ex_t e hx)⟩
end
end Ax

namespace Ax
open PySem PySem.Spec PyProof.Rows L2 Evl

/-! ### rows of texts -/
abbrev sD (xs : List Str) : List D := xs.map .str
section
variable {K : PySem.W.Frag} {H : Hp} {ρ : Rho} {te to ta : TE} {z : Str} {xs : List Str} {bs : List Bool} {n : Nat} {t : TA}
theorem strs_inv : ∀ {vs : List V} {xs : List Str}, RpA K H vs (sD xs) → vs = xs.map V.str
  | _, [], h => by cases h; rfl
  | _, x :: r, h => by
    cases h with
    | cons h1 h2 =>
      cases h1
      rw [strs_inv h2]
      rfl
theorem bls_inv : ∀ {vs : List V} {xs : List Bool}, RpA K H vs (xs.map .bl) → vs = xs.map V.bl
  | _, [], h => by cases h; rfl
  | _, x :: r, h => by
    cases h with
    | cons h1 h2 =>
      cases h1
      rw [bls_inv h2]
      rfl
theorem inV_strs (z : Str) : ∀ xs : List Str, inV (.str z) (xs.map V.str) = decide (z ∈ xs)
  | [] => rfl
  | x :: r => by
    have ih := inV_strs z r
    unfold inV at ih ⊢
    rw [List.map_cons, List.any_cons, ih, Bool.eq_iff_iff, Bool.or_eq_true, decide_eq_true_iff, decide_eq_true_iff, List.mem_cons]
    show (x == z) = true ∨ _ ↔ _
    rw [beq_iff_eq, eq_comm]
theorem rs_inT {neg : Bool} : RvS K (rIn K neg) (.str z) (.tup (sD xs)) (.bl (if neg then !decide (z ∈ xs) else decide (z ∈ xs))) := fun H x y Q rx ry k => by
  cases rx
  cases ry with
  | tup h a =>
    have := strs_inv a
    subst this
    exact ⟨_, _, rfl, .inr h, rfl, flat_strs xs, by rw [inV_strs]; exact k _ fun G => .bl _⟩
theorem rs_inP {neg : Bool} : RvS K (rIn K neg) (.str z) (.ptup (sD xs)) (.bl (if neg then !decide (z ∈ xs) else decide (z ∈ xs))) := fun H x y Q rx ry k => rs_inT H x y Q rx ry.pt k
theorem rs_inL {neg : Bool} : RvS K (rIn K neg) (.str z) (.lst (sD xs)) (.bl (if neg then !decide (z ∈ xs) else decide (z ∈ xs))) := fun H x y Q rx ry k => by
  cases rx
  cases ry with
  | lst h a =>
    have := strs_inv a
    subst this
    exact ⟨_, _, rfl, .inl h, rfl, flat_strs xs, by rw [inV_strs]; exact k _ fun G => .bl _⟩
def rLeS : R2 := fun x y H Q => ∃ i j, x = .str i ∧ y = .str j ∧ Q (.bl (!decide (j.cps.toList < i.cps.toList))) H
theorem op_leS {X : Cx} : OpR X (compareOp .LtE) rLeS := op_le_str
def leS (a b : Str) : Bool := !decide (b.cps.toList < a.cps.toList)
theorem rs_leS {a b : Str} : RvS K rLeS (.str a) (.str b) (.bl (leS a b)) := fun H x y Q rx ry k => by
  cases rx; cases ry
  exact ⟨_, _, rfl, rfl, k _ fun G => .bl _⟩
theorem rs_all : RcS K (rAll K) [.lst (bs.map .bl)] (.bl (bs.all id)) := fun H vs Q r k => by
  cases r with
  | cons r1 r2 =>
    cases r2
    cases r1 with
    | lst h a =>
      have := bls_inv a
      subst this
      exact ⟨_, bs, rfl, h, k _ fun G => .bl _⟩
theorem rs_any : RcS K (rAny K) [.lst (bs.map .bl)] (.bl (bs.any id)) := fun H vs Q r k => by
  cases r with
  | cons r1 r2 =>
    cases r2
    cases r1 with
    | lst h a =>
      have := bls_inv a
      subst this
      exact ⟨_, bs, rfl, h, k _ fun G => .bl _⟩
/-! ### list.count of a text -/
theorem countP_eqU (z : Str) : ∀ {xs : List Str} {us : List Value}, Vals (xs.map V.str) us → us.countP (eqU (.str z)) = xs.count z
  | [], _, h => by cases h; rfl
  | x :: r, _, h => by
    cases h with
    | cons h1 h2 =>
      rw [List.countP_cons, List.count_cons, countP_eqU z h2, eqU_of h1 rfl]
      rfl
def rCntS (K : PySem.W.Frag) : V → List V → Hp → VK → Prop := fun x xs H Q => ∃ (p : Addr) (ns : List Str) (z : Str), x = .ref p ∧ xs = [.str z] ∧ SqL K H p (ns.map V.str) ∧ Q (.int (ns.count z : Nat)) H
theorem mt_lcountS {X : Cx} : MtR X "list.count" (rCntS X.K) := by
  intro pins s σ H x xs v us Q I rx rxs ⟨p, ns, z, e1, e2, hs, q⟩
  subst e1 e2
  cases rx
  obtain ⟨u, e, ru⟩ := rxs.one
  subst e
  have ru' := ru
  obtain ⟨t, e⟩ := ru
  subst e
  obtain ⟨its, rv, ⟨⟨cls, dd, data, sl⟩, n, ho, hc, hdn, hd⟩, hz⟩ := I.list hs
  have hc : cls = .type "list" := hc
  have hd : data = .seq its.toArray n := hd
  subst hc hd
  refine call_meets PySem.F.slot_list_count ⟨_, ho, rfl⟩ PySem.F.entry_list_count (PySem.F.args_list_count_2 _ _) (SeqAt.list_countAt p its.toArray n dd sl (.str z t) (eqU (.str z))) ⟨ho, fun y hy => mem_eqAt ru' rfl rv (flat_strs ns) y (by simpa using hy), ?_⟩
  have ec : its.toArray.toList.countP (eqU (.str z)) = ns.count z := countP_eqU z rv
  refine ⟨.int (ns.count z : Nat), H, I.tok _, ⟨s.toks, ?_⟩, q⟩
  rw [ec]
theorem ev_count {i : Nat} (ha : EvR K to ρ (.lst (sD xs))) (hb : EvS K t ρ [.str z]) : EvD K (tBM K "list" (rCntS K) to t) ρ (.int (xs.count z : Nat)) := fun G0 H0 G H σ Q s k =>
  ha G0 H0 G H σ _ s fun v G1 H1 g1 r1 => by
    cases r1 with
    | lst h a =>
      have := strs_inv a
      subst this
      refine ⟨.inl ⟨rfl, _, h⟩, hb G0 H0 G1 H1 σ _ (s.step g1) fun vs G2 H2 g2 r2 => ?_⟩
      cases r2 with
      | cons r3 r4 =>
        cases r4
        cases r3
        exact ⟨_, xs, z, rfl, rfl, ex_l g2.hh h, k _ G2 H2 (g1.trans g2) (.int _)⟩
/-! ### methods of plain tuples -/
def tPM (K : PySem.W.Frag) (r : V → List V → Hp → VK → Prop) (to : TE) (t : TA) : TE := fun σ H Q => to σ H fun x H1 => (∃ (a : Addr) (o : Obj) (xs : List V), x = .ref a ∧ H1 a = some (.frz o (.tup xs)) ∧ o.dict = none) ∧ t σ H1 fun xs H2 => r x xs H2 Q
theorem pe_pm {X : Cx} {o e : Expr} {es : List Expr} {name : Str} {id : String} {apos cpos : Pos} {r : V → List V → Hp → VK → Prop} (slot : Slot "tuple" name id) (hty : typeOf (.builtin id) = pure (.type "method_descriptor")) (hm : MtR X id r) (ho : PE X o to) (ha : PA X (e :: es) t)
    (hbase : attributeBase o name X.env (eval o X.env) = eval o X.env := by rfl) (hfew : ((backTo cpos (starEach (e :: es) X.env)).all (fun x => !x.1) && (backToKw cpos (keywordEach [] X.env)).all (fun x => x.1.isSome) && decide ((e :: es).length + ([] : List Keyword).length + (if ([] : List Keyword).isEmpty then 0 else 1) < 30)) = true := by rfl)
    (hline : (apos.endLine == cpos.line) = true := by rfl) (hs : starEach (e :: es) X.env = (false, eval e X.env) :: starEach es X.env := by rfl) (hpl : (backTo cpos (starEach es X.env)).any (·.1) = false := by rfl) : PE X (.Call (.Attribute o name apos) (e :: es) [] cpos) (tPM X.K r to t) := by
  refine ⟨fun pins s σ H Q I h => wpAny_Call_method_late hbase hfew hline rfl (thn (ho.run pins s σ H _ I h) fun v s1 ⟨x, H1, I1, r1, ⟨a, ob, xs, ex, hf, hd⟩, q1⟩ => ?_)⟩
  subst ex
  have rr := r1
  cases r1
  obtain ⟨f1, _, its, _, it⟩ := I1.hok a _ hf
  refine ⟨"tuple", id, PySem.F.plainAttrs_tuple, slot, hty, it.typeIs, fun b eb => ?_, ?_⟩
  · cases eb
    exact ⟨ob, f1, hd⟩
  have hA := ha.run cpos pins s1 σ H1 _ I1 q1
  rw [hs] at hA ⊢
  exact Calls.callWith_builtin (by show (false || (backTo cpos (starEach es X.env)).any (·.1)) = false; rw [hpl] <;> rfl) (Calls.evalArgs_plain (thn hA fun us s2 ⟨vs, H2, I2, r2, q2⟩ => hm pins s2 σ H2 _ vs _ us Q I2 rr r2 q2))
def rTIx (K : PySem.W.Frag) : V → List V → Hp → VK → Prop := fun x xs H Q => ∃ p, ∃ ys : List Str, ∃ z j, x = .ref p ∧ xs = [.str z] ∧ SqT K H p (ys.map V.str) ∧ ys[j]? = some z ∧ (∀ m, m < j → ys[m]? ≠ some z) ∧ Q (.int (j : Nat)) H
theorem mt_tix {X : Cx} : MtR X "tuple.index" (rTIx X.K) := mt_tup_index
theorem ev_tix {j : Nat} (ha : EvD K to ρ (.ptup (sD xs))) (hb : EvS K t ρ [.str z]) (hj : xs[j]? = some z) (hn : ∀ m, m < j → xs[m]? ≠ some z) : EvD K (tPM K (rTIx K) to t) ρ (.int (j : Nat)) := fun G0 H0 G H σ Q s k =>
  ha G0 H0 G H σ _ s fun v G1 H1 g1 r1 => by
    cases r1 with
    | ptup h hd a =>
      have := strs_inv a
      subst this
      refine ⟨⟨_, _, _, rfl, g1.gh _ _ h, hd⟩, hb G0 H0 G1 H1 σ _ (s.step g1) fun vs G2 H2 g2 r2 => ?_⟩
      cases r2 with
      | cons r3 r4 =>
        cases r4
        cases r3
        exact ⟨_, xs, z, j, rfl, rfl, .inl (.inr ⟨_, g2.hh _ _ (g1.gh _ _ h)⟩), hj, hn, k _ G2 H2 (g1.trans g2) (.int _)⟩
end
end Ax

namespace Ax
open PySem PySem.Spec PyProof.Rows L2 Evl
/-! ### statements behind which the slots are of a kind -/
def StE (K : PySem.W.Frag) (t : TS) (ρ : Rho) (P : Rho → Prop) : Prop := ∃ ρ', P ρ' ∧ StD K t ρ (.nx ρ')
section
variable {K : PySem.W.Frag} {ρ ρ' ρ'' : Rho} {t u : TS} {P P1 : Rho → Prop} {R : D → Prop} {ti : TI} {g : TG} {ds es : List D} {te : TE} {d : D} {c : TT} {p : Bool} {o : Out} {i j : Nat}
theorem ste_of (h : StD K t ρ (.nx ρ')) (l : LeR ρ'' ρ') (hp : P ρ'') : StE K t ρ P := ⟨ρ'', hp, sd_wk h l⟩
theorem ste_seq (h : StD K t ρ (.nx ρ')) (k : StE K u ρ' P) : StE K (tSeq t u) ρ P := let ⟨r, a, b⟩ := k; ⟨r, a, sd_seq h b⟩
theorem ste_seqE (h : StE K t ρ P1) (k : ∀ ρ', P1 ρ' → StE K u ρ' P) : StE K (tSeq t u) ρ P := let ⟨r, a, b⟩ := h; ste_seq b (k r a)
theorem ste_if (h : EvB K c ρ p) (h1 : p = true → StE K t ρ P) (h2 : p = false → StE K u ρ P) : StE K (tIfS c t u) ρ P := by
  cases p with
  | true => obtain ⟨r, a, b⟩ := h1 rfl; exact ⟨r, a, sd_T h b⟩
  | false => obtain ⟨r, a, b⟩ := h2 rfl; exact ⟨r, a, sd_F h b⟩
theorem ste_le (h : StE K t ρ P1) (k : ∀ ρ', P1 ρ' → ∃ ρ'', LeR ρ'' ρ' ∧ P ρ'') : StE K t ρ P := by
  obtain ⟨r, a, b⟩ := h
  obtain ⟨r2, l, q⟩ := k r a
  exact ⟨r2, q, sd_wk b l⟩
theorem ste_for (hi : ItD K ti ρ ds) (P : Nat → Rho → Prop) (h0 : P 0 ρ) (hs : ∀ (n : Nat) (d : D) (ρ : Rho), ds[n]? = some d → P n ρ → ∃ ρ1 js, TgD K g d ρ ρ1 js ∧ StE K t ρ1 (P (n + 1))) : StE K (tFor ti g t) ρ (P ds.length) :=
  sd_forIE hi P h0 fun n d ρ hd hp => by
    obtain ⟨ρ1, js, a, r, b, c⟩ := hs n d ρ hd hp
    exact ⟨ρ1, js, r, a, b, .inl c⟩
theorem stx_E (h : StE K t ρ P1) (k : ∀ ρ', P1 ρ' → StX K u ρ' R) : StX K (tSeq t u) ρ R := let ⟨r, a, b⟩ := h; stx_seq b (k r a)
theorem sd_E (h : StE K t ρ P1) (k : ∀ ρ', P1 ρ' → StD K u ρ' o) : StD K (tSeq t u) ρ o := let ⟨r, a, b⟩ := h; sd_seq b (k r a)
theorem stx_retO (h : ρ[i]? = some (some (.own ds))) (r : R (.lst ds)) : StX K (tRet (tVar i)) ρ R := ⟨_, r, sd_retO h⟩
theorem ste_nx (hp : P ρ) : StE K tNext ρ P := ⟨ρ, hp, sd_next⟩
/-- an own list put into another -/
theorem sd_appO (hj : ρ[j]? = some (some (.own es))) (ho : ρ[i]? = some (some (.own ds))) (ne : j ≠ i) (hz : ds.length < 100000) : StD K (tDrop (tBM K "list" rAppend (tVar i) (tCons (tVar j) tNil))) ρ (.nx ((ρ.set j (some (.dat (.lst es)))).set i (some (.own (ds ++ [.lst es]))))) := fun G0 H0 G H σ W s k => by
  obtain ⟨G', e, s'⟩ := s.freeze hj
  have hl := (List.getElem?_eq_some_iff.mp hj).1
  exact sd_app (ρ := ρ.set j (some (.dat (.lst es)))) (ev_v (List.getElem?_set_self hl)) (by rw [List.getElem?_set_ne ne]; exact ho) hz G0 H0 G' H σ W s' (k.mono e)
end
/-! ### numbers of the top -/
def GInt (mg : Str → Option Value) (x : Str) (i : Int) : Prop := ∃ t, mg x = some (.int i t)
theorem pe_gint {X : Cx} {x : Str} {i : Int} {pos : Pos} (h : GInt X.mg x i) (hg : Gl X x := by rfl) (hd : (x == ("__debug__" : Str)) = false := by decide) : PE X (.Name x pos) (tC (.int i)) := let ⟨t, e⟩ := h; pe_glob hg e ⟨t, rfl⟩ hd
theorem gint_mk {K : PySem.W.Frag} {h : Heap} {mg : Str → Option Value} {x : Str} {i : Int} {t : Tok} (X : K.In h) (G : h.Ns mainGlobals mg) (a : PySem.W.nsIn K mainGlobals x = some (some (.int i t))) : GInt mg x i := ⟨t, PySem.W.mg_of X G a⟩
/-! ### letters -/
theorem leS_1 (a b : Nat) : leS ⟨#[a]⟩ ⟨#[b]⟩ = decide (a ≤ b) := by
  unfold leS
  show (!decide ([b] < [a])) = decide (a ≤ b)
  rw [Bool.eq_iff_iff, Bool.not_eq_true', decide_eq_false_iff_not, decide_eq_true_iff]
  constructor
  · intro h
    exact Nat.le_of_not_lt fun z => h (List.Lex.rel z)
  · intro h z
    cases z with
    | rel z => omega
    | cons z => cases z
theorem a_is : ("a" : Str) = ⟨#[97]⟩ := by decide +kernel
theorem z_is : ("z" : Str) = ⟨#[122]⟩ := by decide +kernel
theorem signs_get {w : Str} {n : Nat} {d : D} (h : (signs w)[n]? = some d) : ∃ c, w.cps.toList[n]? = some c ∧ d = .str ⟨#[c]⟩ := by
  unfold signs at h
  rw [List.getElem?_map] at h
  cases q : w.cps.toList[n]? with
  | none => rw [q] at h; cases h
  | some c => rw [q] at h; cases h; exact ⟨c, rfl, rfl⟩
theorem signs_len (w : Str) : (signs w).length = w.length := by unfold signs; rw [List.length_map, Array.length_toList]; rfl
/-- what a comprehension without a test gathers is a row of bools -/
theorem pick_bl {n : Nat} (b : Nat → Bool) : pick (fun _ => true) (fun i => .bl (b i)) n = ((List.range n).map b).map .bl := by rw [pick_all, List.map_map]; rfl
theorem all_range {α : Type} (l : List α) (x : α) (b : α → Bool) : ((List.range l.length).map fun i => b (l.getD i x)).all id = l.all b := by
  have e : ((List.range l.length).map fun i => b (l.getD i x)) = l.map b := by
    apply List.ext_getElem?
    intro i
    rw [List.getElem?_map, List.getElem?_map]
    by_cases hi : i < l.length
    · rw [List.getElem?_range hi, List.getElem?_eq_getElem hi]
      show some (b (l.getD i x)) = _
      rw [List.getD_eq_getElem?_getD, List.getElem?_eq_getElem hi]; rfl
    · rw [List.getElem?_eq_none (by rw [List.length_range]; omega), List.getElem?_eq_none (by omega)]; rfl
  rw [e, List.all_map]; rfl
theorem any_range {α : Type} (l : List α) (x : α) (b : α → Bool) : ((List.range l.length).map fun i => b (l.getD i x)).any id = l.any b := by
  have e : ((List.range l.length).map fun i => b (l.getD i x)) = l.map b := by
    apply List.ext_getElem?
    intro i
    rw [List.getElem?_map, List.getElem?_map]
    by_cases hi : i < l.length
    · rw [List.getElem?_range hi, List.getElem?_eq_getElem hi]
      show some (b (l.getD i x)) = _
      rw [List.getD_eq_getElem?_getD, List.getElem?_eq_getElem hi]; rfl
    · rw [List.getElem?_eq_none (by rw [List.length_range]; omega), List.getElem?_eq_none (by omega)]; rfl
  rw [e, List.any_map]; rfl
/-! ### cuts, members -/
theorem cut_to {ds : List D} (j : Nat) : cutD ds none (some (j : Int)) = ds.take j := by
  unfold cutD
  rw [HT.sIx_nat, HT.sIx_none, List.drop_zero, Nat.sub_zero]
  by_cases h : j ≤ ds.length
  · rw [Nat.min_eq_left h]
  · rw [Nat.min_eq_right (by omega), List.take_of_length_le (Nat.le_refl _), List.take_of_length_le (by omega)]
theorem mem_pick {p : Nat → Bool} {f : Nat → D} {n : Nat} {d : D} (h : d ∈ pick p f n) : ∃ i, i < n ∧ p i = true ∧ d = f i := by
  unfold pick at h
  obtain ⟨i, hi, rfl⟩ := List.mem_map.mp h
  obtain ⟨a, b⟩ := List.mem_filter.mp hi
  exact ⟨i, List.mem_range.mp a, b, rfl⟩
theorem mem_nest {p : Nat → Bool} {F : Nat → List D} {n : Nat} {d : D} (h : d ∈ nest p F n) : ∃ i, i < n ∧ p i = true ∧ d ∈ F i := by
  unfold nest at h
  obtain ⟨l, hl, hd⟩ := List.mem_flatten.mp h
  obtain ⟨i, hi, rfl⟩ := List.mem_map.mp hl
  by_cases q : p i = true
  · rw [if_pos q] at hd; exact ⟨i, List.mem_range.mp hi, q, hd⟩
  · rw [if_neg q] at hd; cases hd
/-- what a comprehension over a row gives -/
theorem pick_map {α : Type} (l : List α) (x : α) (f : α → D) : pick (fun _ => true) (fun i => f (l.getD i x)) l.length = l.map f := by
  rw [pick_all]
  apply List.ext_getElem?
  intro i
  rw [List.getElem?_map, List.getElem?_map]
  by_cases hi : i < l.length
  · rw [List.getElem?_range hi, List.getElem?_eq_getElem hi]
    show some (f (l.getD i x)) = _
    rw [List.getD_eq_getElem?_getD, List.getElem?_eq_getElem hi]; rfl
  · rw [List.getElem?_eq_none (by rw [List.length_range]; omega), List.getElem?_eq_none (by omega)]; rfl
theorem getD_of {α : Type} {l : List α} {x d : α} {n : Nat} (h : l[n]? = some d) : l.getD n x = d := by rw [List.getD_eq_getElem?_getD, h]; rfl
theorem nest_all {F : Nat → List D} {n : Nat} : nest (fun _ => true) F n = ((List.range n).map F).flatten := by
  unfold nest
  simp only [if_true]
theorem nest_map {α : Type} (l : List (List α)) (x : α) (f : α → D) : nest (fun _ => true) (fun p => pick (fun _ => true) (fun k => f ((l.getD p []).getD k x)) (l.getD p []).length) l.length = l.flatten.map f := by
  rw [nest_all, List.map_flatten]
  congr 1
  apply List.ext_getElem?
  intro i
  rw [List.getElem?_map, List.getElem?_map]
  by_cases hi : i < l.length
  · rw [List.getElem?_range hi, List.getElem?_eq_getElem hi]
    show some (pick _ _ _) = some _
    rw [pick_map, getD_of (List.getElem?_eq_getElem hi)]
  · rw [List.getElem?_eq_none (by rw [List.length_range]; omega), List.getElem?_eq_none (by omega)]; rfl
end Ax

namespace Ax
open PySem PySem.Spec PyProof.Rows L2 Evl
/-! ### list(reversed(a list)) -/
section
variable {prog : Program} {w : World} {A : Around} {E : Value → Shared → Prop} {s : Shared}
theorem list_of_rev {it l : Addr} {items : Array Value} {Q : Value → Shared → Prop} (hh : A.handled = none) (hit : s.heap.IsRevIter it l ((items.size : Int) - 1)) (hl : s.heap.IsList l items) (hne : l ≠ it) (hn : items.size ≤ sizeLine)
    (hQ : ∀ (h' : Heap) (tk : Nat) (acc : Array Value) (c' : Nat), (∀ b o, b ≠ it → s.heap.get? b = some o → h'.get? b = some o) →
      h'.get? s.heap.objs.size = some { cls := .type "list", dict := none, data := .seq acc c', slots := #[] } → ItemsOf (fun i v => items[items.size - 1 - i]? = some v) acc items.size →
      Q (.ref s.heap.objs.size) { s with heap := h', toks := tk }) :
    wpAny (model prog w) A (call (.type "list") [.ref it]) Q E s := by
  have W := (Walks.listRev (prog := prog) (w := w) (A := A.in1.in1) hh it l hne items).toS
  obtain ⟨oi, hoi, _⟩ := id hit
  obtain ⟨ol, hol, _⟩ := id hl
  have n1 : s.heap.objs.size ≠ it := Nat.ne_of_gt (Heap.lt_size hoi)
  have n2 : s.heap.objs.size ≠ l := Nat.ne_of_gt (Heap.lt_size hol)
  have nf : s.heap.objs.size ∉ [it, l] := by simp only [List.mem_cons, List.not_mem_nil, or_false, not_or]; exact ⟨n1, n2⟩
  refine callType_codes (Q₁ := fun obj s₁ => obj = .ref s.heap.objs.size ∧ s₁ = { s with heap := s.heap.push { cls := .type "list", data := .seq #[] } }) F.called_list (F.typeCall_list_1 _) F.entry_list_init
    (code_list_new _ ⟨rfl, rfl⟩) fun obj s₁ h₁ => ?_
  obtain ⟨rfl, rfl⟩ := h₁
  have g1 : (s.heap.push { cls := .type "list", data := .seq #[] }).get? s.heap.objs.size = some { cls := .type "list", data := .seq #[] } := Heap.get?_push_size _ rfl
  refine ⟨⟨_, g1, rfl⟩, F.args_list_init_2 _ _, ?_⟩
  show wpAny _ A.in1.in1 (Builtin.List.listItems (.ref s.heap.objs.size) >>= fun old => Builtin.List.listUpdate (.ref s.heap.objs.size) (fun _ => #[]) >>= fun _ => letGo old.toList.reverse >>= fun _ => Builtin.List.listExtendWith (.ref s.heap.objs.size) (.ref it) .none) _ _ _
  refine wpAny_bind ?_
  unfold Builtin.List.listItems
  refine wpAny_bind (wpAny_seqItems g1 rfl (wpAny_pure ?_))
  show wpAny _ A.in1.in1 (updateSeq s.heap.objs.size (fun _ => #[]) >>= fun _ => letGo (#[] : Array Value).toList.reverse >>= fun _ => Builtin.List.listExtendWith (.ref s.heap.objs.size) (.ref it) .none) _ _ _
  refine wpAny_bind (wpAny_updateSeq g1 rfl ?_)
  have g2 := Heap.get?_update_self (Obj.mapSeq (fun _ => (#[] : Array Value))) g1 rfl
  have k2 : ∀ b o, s.heap.get? b = some o → ((s.heap.push { cls := .type "list", data := .seq #[] }).update s.heap.objs.size (Obj.mapSeq (fun _ => (#[] : Array Value)))).get? b = some o :=
    fun b o e => (Heap.get?_update_other _ _ (Nat.ne_of_gt (Heap.lt_size e))).trans (Heap.get?_push_of_some _ e)
  refine wpAny_bind (wpAny_letGo ?_)
  have hit2 := hit.at fun o e => k2 _ o e
  have hl2 : ((s.heap.push { cls := .type "list", data := .seq #[] }).update s.heap.objs.size (Obj.mapSeq (fun _ => (#[] : Array Value)))).IsList l items := hl.at fun o e => k2 _ o e
  have hT : ({ s with heap := (s.heap.push { cls := .type "list", data := .seq #[] }).update s.heap.objs.size (Obj.mapSeq (fun _ => (#[] : Array Value))) } : Shared).TypeIs (.ref it) "list_reverseiterator" := Heap.IsRevIter.typeIs (s := { s with heap := (s.heap.push { cls := .type "list", data := .seq #[] }).update s.heap.objs.size (Obj.mapSeq (fun _ => (#[] : Array Value))) }) hit2
  have ne : Builtin.List.listSameRef (.ref s.heap.objs.size) (.ref it) = false := by simp [Builtin.List.listSameRef, n1]
  unfold Builtin.List.listExtendWith
  refine wpAny_bind (wpAny_typeOf hT ?_)
  rw [if_neg (by rw [ne]; decide)]
  refine wpAny_bind (wpAny_pyIter_revIter (s := { s with heap := (s.heap.push { cls := .type "list", data := .seq #[] }).update s.heap.objs.size (Obj.mapSeq (fun _ => (#[] : Array Value))) }) hit2 ?_)
  refine wpAny_bind (wpAny_holding ?_)
  unfold Builtin.List.listLengthHint
  refine wpAny_bind (wpAny_specialOf hT RT.nolen_lri ?_)
  show wpAny _ A.in1.in1 (specialOf (Value.ref it) (Str.ofString "__length_hint__") >>= _) _ _ _
  refine wpAny_bind (wpAny_specialOf hT RT.hint_lri ?_)
  generalize hid : ("list_reverseiterator.__length_hint__" : String) = id0
  wp_delta
  rw [show splitId id0 = some ("list_reverseiterator", "__length_hint__") from by subst hid; decide +kernel]
  subst hid
  refine wpAny_bind (wpAny_isInstance (b := true) hT (by rw [isSubtype_type]; kernel_rfl) ?_)
  refine wpAny_pure ?_
  rw [if_neg (by decide)]
  have e0 : ((items.size : Nat) : Int) - 1 - ((0 : Nat) : Int) = (items.size : Int) - 1 := by omega
  refine wpAny_pure ⟨plainId_quiet F.plain_extend_loop _, codeAny_extend_loopS W hn _ nf _ items.size 0 _ _ _ rfl (Nat.zero_le _) ⟨Nat.zero_le _, by rw [e0]; exact hit2, hl2⟩ g2 (ItemsOf.nil _) fun s' acc' c' hm hS' hacc => ?_⟩
  refine ⟨rfl, ?_⟩
  rw [Moved.eq_with hm]
  refine hQ s'.heap s'.toks acc' c' (fun b o hb e => hm.heap b o (fun hmem => ?_) (k2 b o e)) hS' hacc
  rcases List.mem_cons.mp hmem with e' | hmem
  · exact absurd (Heap.lt_size e) (by rw [e']; exact Nat.lt_irrefl _)
  · exact hb (List.mem_singleton.mp hmem)
end
def tLstRev (K : PySem.W.Frag) (te : TE) : TE := fun σ H Q => te σ H fun v H1 => ∃ (a : Addr) (xs : List V), v = .ref a ∧ SqL K H1 a xs ∧ ∀ q, H1 q = none → Q (.ref q) (upd H1 q (.lst xs.reverse))
section
variable {X : Cx}
theorem pe_lstRev {e : Expr} {te : TE} {p p2 pos pos2 : Pos} (hc : X.calm = true) (hg : Gl X "list") (hm : X.mg "list" = none) (hg2 : Gl X "reversed") (hm2 : X.mg "reversed" = none) (he : PE X e te)
    (hs : starEach [e] X.env = (false, eval e X.env) :: starEach [] X.env := by rfl)
    (hs2 : starEach [.Call (.Name "reversed" p2) [e] [] pos2] X.env = (false, eval (.Call (.Name "reversed" p2) [e] [] pos2) X.env) :: starEach [] X.env := by rfl) :
    PE X (.Call (.Name "list" p) [.Call (.Name "reversed" p2) [e] [] pos2] [] pos) (tLstRev X.K te) := by
  refine ⟨fun pins s σ H Q I h => ?_⟩
  refine Call_ (ld_blt I hg hm boot_list (PyProof.Rows.callWith_type1 (args_cons (Call_ (ld_blt I hg2 hm2 PyProof.Rows.boot_reversed (PyProof.Rows.callWith_type1 (args_cons (thn (he.run pins s σ H _ I h) fun u s1 ⟨v, H1, I1, r1, q1⟩ => args_nil ?_) hs) hs rfl))) hs2) hs2))
  obtain ⟨a, xs, ev, hq, q⟩ := q1
  subst ev
  obtain rfl : u = Value.ref a := r1
  obtain ⟨its, rv, pl, hz⟩ := I1.list hq
  refine call_reversed_list pl.isList (args_nil ?_)
  have hl := pl.isList
  obtain ⟨ol, hol, _⟩ := id hl
  have hne : a ≠ s1.heap.objs.size := Nat.ne_of_lt (Heap.lt_size hol)
  have hn : its.toArray.size ≤ sizeLine := by rw [List.size_toArray, ← rv.length]; exact hz
  refine list_of_rev (s := { s1 with heap := s1.heap.push (revObj a ((its.toArray.size : Int) - 1)) }) (I1.ok.hd hc) ⟨_, Heap.get?_push_size _ rfl, rfl, rfl⟩ (hl.push _) hne hn fun h' tk acc c' hk hS hi => ?_
  have k1 : ∀ b o, s1.heap.get? b = some o → h'.get? b = some o := fun b o e => hk b o (Nat.ne_of_lt (Heap.lt_size e)) (Heap.get?_push_of_some _ e)
  have le : s1.heap.objs.size ≤ (s1.heap.push (revObj a ((its.toArray.size : Int) - 1))).objs.size := by
    show _ ≤ (Array.push _ _).size
    rw [Array.size_push]; exact Nat.le_succ _
  refine ⟨.ref (s1.heap.push (revObj a ((its.toArray.size : Int) - 1))).objs.size, upd H1 (s1.heap.push (revObj a ((its.toArray.size : Int) - 1))).objs.size (.lst xs.reverse), I1.laid (t' := tk) k1 le (show ObjOk X.prog X.w _ _ _ (.lst xs.reverse) from ⟨by rw [List.length_reverse]; exact hz, acc.toList, c', RT.vals_rev rv hi, ?_⟩), rfl, q _ (I1.hok.fresh le)⟩
  rw [Array.toArray_toList]
  exact hS
end
section
variable {K : PySem.W.Frag} {ρ : Rho} {te : TE} {ds : List D} {G H : Hp}
theorem RpA.reverse {vs : List V} {es : List D} (h : RpA K H vs es) : RpA K H vs.reverse es.reverse := by
  induction es generalizing vs with
  | nil => cases h; exact .nil
  | cons d es ih =>
    cases h with
    | cons r t => rw [List.reverse_cons, List.reverse_cons]; exact (ih t).append (.cons r .nil)
theorem en_lstRev (h : EvD K te ρ (.lst ds)) : EvN K (tLstRev K te) ρ ds.reverse := fun G0 H0 G H σ Q s k => h G0 H0 G H σ _ s fun v G1 H1 g1 r1 => by
  cases r1 with
  | lst a b => exact ⟨_, _, rfl, ex_l g1.gh a, fun q hq => k q _ G1 H1 g1 hq b.reverse⟩
end
end Ax


namespace Ax
open PySem PySem.Spec PyProof.Rows L2 Evl
/-! ### match with `_`, None and tests behind a pattern -/
def setAllW (σ : L2.St) : List (Option Nat) → List V → L2.St
  | some i :: is, v :: vs => setAllW (σ.set i (some v)) is vs
  | none :: is, _ :: vs => setAllW σ is vs
  | _, _ => σ
inductive PNw (X : Cx) : List Pattern → List (Option Nat) → Prop
  | nil : PNw X [] []
  | cons {i : Nat} {x : Str} {pos : Pos} {ps : List Pattern} {is : List (Option Nat)} (hi : X.N[i]? = some x) (hx : Loc X.env.scope x) (hf : X.fn x = true ∨ X.env.scope.names.lookup x = some .local) : PNw X ps is → PNw X (.MatchAs none (some x) pos :: ps) (some i :: is)
  | skip {pos : Pos} {ps : List Pattern} {is : List (Option Nat)} : PNw X ps is → PNw X (.MatchAs none none pos :: ps) (none :: is)
def mGuard (tt : Option TT) (body : TS) (rest : TMs) : TMs := fun v D σ H => match tt with
  | none => body D σ H
  | some t => t σ H fun b H1 => if b = true then body D σ H1 else rest v D σ H1
def mCaseW (K : PySem.W.Frag) (c : Str) (is : List (Option Nat)) (tt : Option TT) (body : TS) (rest : TMs) : TMs := fun v D σ H => ∃ a z ys, v = .ref a ∧ SqT K H a (.str z :: ys) ∧ SeqAt.shaped (.str z) = true ∧ if ys.length = is.length then (if z = c then mGuard tt body rest v D (setAllW σ is ys) H else rest v D σ H) else rest v D σ H
def mNone (body : TS) (rest : TMs) : TMs := fun v D σ H => (v = .non ∧ body D σ H) ∨ (v ≠ .non ∧ rest v D σ H)
def mAny (body : TS) : TMs := fun _ D σ H => body D σ H
/-- the test behind a pattern -/
inductive PGu (X : Cx) : Option Expr → Option TT → Prop
  | no : PGu X none none
  | is {e : Expr} {t : TT} : PT X e t → PGu X (some e) (some t)
section
variable {X : Cx} {ps : List Pattern} {is : List (Option Nat)}
theorem PNw.length (h : PNw X ps is) : ps.length = is.length := by
  induction h with
  | nil => rfl
  | cons _ _ _ _ ih => rw [List.length_cons, List.length_cons, ih]
  | skip _ ih => rw [List.length_cons, List.length_cons, ih]
theorem PNw.hit (hN : X.N.Nodup) {M : Model} (h : PNw X ps is) : ∀ {us : List Value} {vs : List V}, Vals vs us → vs.length = is.length → ∃ bs : List (Str × Value),
    (∀ (s : Shared) (Q : Option (List (Str × Value)) → Shared → Prop), Q (some bs) s → wpAny M X.A (matchEach ps X.env us) Q X.xe s) ∧
    ∀ (pins : List (Addr × Obj)) (s : Shared) (σ : L2.St) (H : Hp) (Q : Unit → Shared → Prop), Inv X pins σ H s → (∀ s', Inv X pins (setAllW σ is vs) H s' → Q () s') →
      wpAny M X.A (assignInOrder (bs.map fun (n, _) => bindName X.env n) (bs.map (·.2))) Q X.xe s := by
  induction h with
  | nil =>
    intro us vs r hl
    cases r with
    | nil => exact ⟨[], fun s Q q => wpAny_matchEach_nil q, fun pins s σ H Q I q => wpAny_assignInOrder_none (q s I)⟩
    | cons _ _ => cases hl
  | @cons i x pos ps is hi hx hf _ ih =>
    intro us vs r hl
    cases r with
    | nil => cases hl
    | cons r1 r2 =>
      rename_i v u vs us
      obtain ⟨bs, h1, h2⟩ := ih r2 (by simpa using hl)
      refine ⟨(x, u) :: bs, fun s Q q => ?_, fun pins s σ H Q I q => ?_⟩
      · refine wpAny_matchEach_cons (wpAny_matchPattern_Capture ?_)
        exact h1 s _ q
      · refine wpAny_assignInOrder_more (wpAny_bindName ?_)
        exact store_ok I hN hi hx r1 (fun s' I' => h2 pins s' _ H Q I' q) hf
  | skip _ ih =>
    intro us vs r hl
    cases r with
    | nil => cases hl
    | cons r1 r2 =>
      obtain ⟨bs, h1, h2⟩ := ih r2 (by simpa using hl)
      refine ⟨bs, fun s Q q => ?_, fun pins s σ H Q I q => ?_⟩
      · refine wpAny_matchEach_cons (wpAny_matchPattern_Capture ?_)
        exact h1 s _ q
      · exact h2 pins s _ H Q I q
theorem pm_caseW {c : Str} {j : Nat} {p1 p2 p3 : Pos} {gd : Option Expr} {body : List Stmt} {rest : List MatchCase} {tt : Option TT} {tb : TS} {tr : TMs} (hc : X.calm = true) (hN : X.N.Nodup) (hu : X.A.units + 64 < cLine) (hcs : SeqAt.shaped (.str c) = true) (hn : PNw X ps is) (hg : PGu X gd tt) (hb : PSs X body tb) (hr : PMs X rest tr)
    (hstar : (Pattern.MatchValue (.Constant (.str c) j p1) p2 :: ps).findIdx? (·.isStar) = none := by rfl)
    (hwild : ((Pattern.MatchValue (.Constant (.str c) j p1) p2 :: ps).all fun p => p.isWildcard || (p.isStar && p.names.isEmpty)) = false := by rfl) :
    PMs X (⟨.MatchSequence (.MatchValue (.Constant (.str c) j p1) p2 :: ps) p3, gd, body⟩ :: rest) (mCaseW X.K c is tt tb tr) := by
  refine ⟨fun first pins s σ H v u D I r h => ?_⟩
  obtain ⟨a, z, ys, rfl, hq, hsz, h⟩ := h
  have hrv := r
  cases r
  obtain ⟨its, rv, ht, hz⟩ := I.tuple hq
  have el : its.toArray.size = ys.length + 1 := by rw [List.size_toArray, ← rv.length, List.length_cons]
  have fit : ((its.toArray.size : Nat) : Int) < 2 ^ 63 := by
    rw [el]
    rw [List.length_cons] at hz
    have : sizeLine < 2 ^ 62 := by decide
    omega
  have I1 : Inv X pins σ H { s with toks := s.toks + 1 + 1 } := (I.tok _).tok _
  refine wpAny_matchCases_cons ?_
  by_cases hl : ys.length = is.length
  · rw [if_pos hl] at h
    refine matchSeq_tuple_hit ht fit (by rw [el, List.length_cons, hn.length, hl]) ?_ hstar hwild
    have e1 : (Pattern.MatchValue (.Constant (.str c) j p1) p2 :: ps).length = its.toArray.size := by rw [el, List.length_cons, hn.length, hl]
    rw [e1]
    refine unpackItems_tuple (I.ok.hd hc) (by exact ht) fun h' hx => ?_
    have I2 : Inv X pins σ H { s with heap := h', toks := s.toks + 1 + 1 } := I1.kept (t' := s.toks + 1 + 1) fun b o e => hx b o (Nat.ne_of_lt (Heap.lt_size e)) e
    cases rv with
    | cons r1 r2 =>
      rename_i u0 us
      obtain ⟨bs, q1, q2⟩ := hn.hit (M := model X.prog X.w) hN r2 hl
      refine wpAny_matchEach_cons (wpAny_matchPattern_Value (Calls.Constant_str ?_))
      have I3 := I2.tok
      refine thn (op_eqD hu pins _ σ H (.str z) (.str c) u0 _ (fun v H' => v = .bl (PyData.eqv (.str z) (.str c)) ∧ H' = H) (I2.tok _) r1 ⟨_, rfl⟩ ⟨.str z, .str c, .str z, .str c, hsz, hcs, rfl, rfl⟩) fun w s3 ⟨x, H3, I4, r3, e3, e4⟩ => ?_
      subst e3 e4
      cases r3
      refine wpAny_truthy_bool ?_
      have eq : PyData.eqv (.str z) (.str c) = decide (z = c) := by
        rw [Bool.eq_iff_iff, decide_eq_true_iff]
        exact beq_iff_eq
      rw [eq]
      by_cases hz2 : z = c
      · rw [if_pos hz2] at h
        rw [if_pos (decide_eq_true hz2)]
        refine q1 s3 _ ?_
        refine q2 pins s3 σ _ _ I4 fun s4 I5 => ?_
        cases hg with
        | no => exact hb.run pins s4 _ _ D I5 h
        | is ht =>
          refine thn (ht.run pins s4 _ _ _ I5 h) fun b s5 ⟨H5, I6, q5⟩ => ?_
          cases b with
          | true => exact hb.run pins s5 _ _ D I6 (by rw [if_pos rfl] at q5; exact q5)
          | false => exact hr.run false pins s5 _ _ _ _ D I6 hrv (by rw [if_neg (by decide)] at q5; exact q5)
      · rw [if_neg hz2] at h
        rw [if_neg (fun e => hz2 (of_decide_eq_true e))]
        exact hr.run false pins s3 σ _ _ _ D I4 hrv h
  · rw [if_neg hl] at h
    refine matchSeq_tuple_miss ht fit (by rw [el, List.length_cons, hn.length]; omega) ?_ hstar hwild
    exact hr.run false pins _ σ H _ _ D I1 hrv h
theorem pm_none {p1 : Pos} {body : List Stmt} {rest : List MatchCase} {tb : TS} {tr : TMs} (hb : PSs X body tb) (hr : PMs X rest tr) : PMs X (⟨.MatchSingleton .none p1, none, body⟩ :: rest) (mNone tb tr) := by
  refine ⟨fun first pins s σ H v u D I r h => ?_⟩
  refine wpAny_matchCases_cons ?_
  rcases h with ⟨rfl, h⟩ | ⟨hv, h⟩
  · obtain rfl : u = .none := r
    refine wpAny_matchPattern_Singleton_None ?_
    exact wpAny_assignInOrder_none (hb.run pins s σ H D I h)
  · refine wpAny_matchPattern_Singleton_miss ?_ (hr.run false pins s σ H v u D I r h)
    have hu : u ≠ .none := fun e => by
      have := r.none_iff
      rw [e, decide_eq_false hv] at this
      exact absurd this (by decide)
    rw [arm_matchPattern_MatchSingleton]
    cases u <;> first | rfl | exact absurd rfl hu
theorem pm_any {p1 : Pos} {body : List Stmt} {rest : List MatchCase} {tb : TS} (hb : PSs X body tb) : PMs X (⟨.MatchAs none none p1, none, body⟩ :: rest) (mAny tb) :=
  ⟨fun first pins s σ H v u D I r h => wpAny_matchCases_cons (wpAny_matchPattern_Capture (wpAny_assignInOrder_none (hb.run pins s σ H D I h)))⟩
end
def setAllRW (ρ : Rho) : List (Option Nat) → List D → Rho
  | some i :: is, d :: ds => setAllRW (ρ.set i (some (.dat d))) is ds
  | none :: is, _ :: ds => setAllRW ρ is ds
  | _, _ => ρ
section
variable {K : PySem.W.Frag} {ρ : Rho} {te : TE} {d : D} {ds : List D} {tb : TS} {tr : TMs} {o : Out} {c z : Str} {is : List (Option Nat)} {tt : Option TT} {t : TT} {p : Bool}
theorem Sl.setAllW {G0 H0 G H : Hp} : ∀ {is : List (Option Nat)} {ρ : Rho} {σ : L2.St} {vs : List V} {ds : List D}, Sl K G0 H0 G H σ ρ → RpA K G vs ds → Sl K G0 H0 G H (setAllW σ is vs) (setAllRW ρ is ds)
  | [], _, _, _, _, s, _ => s
  | some i :: is, _, _, _, _, s, .nil => s
  | none :: is, _, _, _, _, s, .nil => s
  | some i :: is, _, _, _, _, s, .cons r t => Sl.setAllW (is := is) (s.set r) t
  | none :: is, _, _, _, _, s, .cons r t => Sl.setAllW (is := is) s t
theorem ms_noneT (h : MsD K tr ρ (.tup ds) o) : MsD K (mNone tb tr) ρ (.tup ds) o := fun G0 H0 G H σ v W s r k => by
  have r' := r
  cases r with
  | tup hx ra => exact .inr ⟨fun e => V.noConfusion e, h G0 H0 G H σ _ W s r' k⟩
theorem ms_noneN (h : StD K tb ρ o) : MsD K (mNone tb tr) ρ .non o := fun G0 H0 G H σ v W s r k => by
  cases r
  exact .inl ⟨rfl, h G0 H0 G H σ W s k⟩
theorem ms_any (h : StD K tb ρ o) : MsD K (mAny tb) ρ d o := fun G0 H0 G H σ v W s r k => h G0 H0 G H σ W s k
theorem ms_hitW (hz : SeqAt.shaped (.str c) = true) (hl : ds.length = is.length) (h : StD K tb (setAllRW ρ is ds) o) : MsD K (mCaseW K c is none tb tr) ρ (.tup (.str c :: ds)) o := fun G0 H0 G H σ v W s r k => by
  cases r with
  | tup hx ra =>
    cases ra with
    | cons r1 r2 =>
      cases r1
      refine ⟨_, c, _, rfl, ex_t s.gh hx, hz, ?_⟩
      rw [if_pos (by rw [r2.length, hl]), if_pos rfl]
      exact h G0 H0 G H _ W (s.setAllW r2) k
theorem ms_hitG (hz : SeqAt.shaped (.str c) = true) (hl : ds.length = is.length) (ht : EvB K t (setAllRW ρ is ds) p) (h : p = true → StD K tb (setAllRW ρ is ds) o) (h2 : p = false → MsD K tr (setAllRW ρ is ds) (.tup (.str c :: ds)) o) : MsD K (mCaseW K c is (some t) tb tr) ρ (.tup (.str c :: ds)) o := fun G0 H0 G H σ v W s r k => by
  have r' := r
  cases r with
  | tup hx ra =>
    cases ra with
    | cons r1 r2 =>
      cases r1
      refine ⟨_, c, _, rfl, ex_t s.gh hx, hz, ?_⟩
      rw [if_pos (by rw [r2.length, hl]), if_pos rfl]
      refine ht G0 H0 G H _ _ (s.setAllW r2) fun G1 H1 g1 => ?_
      cases p with
      | true => rw [if_pos rfl]; exact h rfl G0 H0 G1 H1 _ W ((s.setAllW r2).step g1) (k.mono g1.gg)
      | false => rw [if_neg (by decide)]; exact h2 rfl G0 H0 G1 H1 _ _ W ((s.setAllW r2).step g1) (r'.mono g1.gg) (k.mono g1.gg)
theorem ms_missW (hz : SeqAt.shaped (.str z) = true) (hn : ds.length = is.length → z ≠ c) (h : MsD K tr ρ (.tup (.str z :: ds)) o) : MsD K (mCaseW K c is tt tb tr) ρ (.tup (.str z :: ds)) o := fun G0 H0 G H σ v W s r k => by
  have r' := r
  cases r with
  | tup hx ra =>
    cases ra with
    | cons r1 r2 =>
      cases r1
      refine ⟨_, z, _, rfl, ex_t s.gh hx, hz, ?_⟩
      by_cases hl : ds.length = is.length
      · rw [if_pos (by rw [r2.length, hl]), if_neg (hn hl)]
        exact h G0 H0 G H _ _ W s r' k
      · rw [if_neg (by rw [r2.length]; exact hl)]
        exact h G0 H0 G H _ _ W s r' k
end
end Ax

namespace Ax
open PySem PySem.Spec PyProof.Rows L2 Evl
/-! ### x is True, the truth of data, x is None -/
def rIsB : R2 := fun x y H Q => ∃ c, y = .bl c ∧ ((x = .non ∧ Q (.bl false) H) ∨ ∃ b, x = .bl b ∧ Q (.bl (b == c)) H)
def rIsNo : R2 := fun x y H Q => y = .non ∧ Q (.bl (decide (x = .non))) H
def rNotNo : R2 := fun x y H Q => y = .non ∧ Q (.bl (!decide (x = .non))) H
def tTru (K : PySem.W.Frag) (ta : TE) : TT := fun σ H Q => ta σ H fun x H' => ∃ k, TruV K x H' k ∧ Q k H'
section
variable {X : Cx} {a : Expr} {ta : TE}
theorem op_isB : OpR X (compareOp .Is) rIsB := by
  intro pins s σ H x y v u Q I rx ry h
  obtain ⟨c, rfl, h⟩ := h
  obtain rfl : u = .bool c := ry
  rcases h with ⟨rfl, q⟩ | ⟨b, rfl, q⟩
  · obtain rfl : v = .none := rx
    refine wpAny_is_plain (by rfl) (fin_bl I q ?_)
    rfl
  · obtain rfl : v = .bool b := rx
    refine wpAny_is_plain (by rfl) (fin_bl I q ?_)
    cases b <;> cases c <;> decide
theorem op_isNo : OpR X (compareOp .Is) rIsNo := op_isN
theorem op_notNo : OpR X (compareOp .IsNot) rNotNo := op_notN
theorem pt_tru (ha : PE X a ta) (he : ∀ whole, isTrue a X.env whole = (do let v ← whole; standAt a.pos; holding [v] (truthy v))) : PT X a (tTru X.K ta) := pt_truth ha he
end
def D.isN : D → Bool
  | .non => true
  | _ => false
section
variable {K : PySem.W.Frag} {ρ : Rho} {te : TE} {d : D} {b c : Bool} {ds : List D}
theorem rs_isB : RvS K rIsB (.bl b) (.bl c) (.bl (b == c)) := fun H x y Q rx ry k => by
  cases rx; cases ry
  exact ⟨c, rfl, .inr ⟨b, rfl, k _ fun G => .bl _⟩⟩
theorem rs_isB0 : RvS K rIsB .non (.bl c) (.bl false) := fun H x y Q rx ry k => by
  cases rx; cases ry
  exact ⟨c, rfl, .inl ⟨rfl, k _ fun G => .bl _⟩⟩
theorem isN_rp {H : Hp} {v : V} (r : Rp K H v d) (hd : ∀ u, d ≠ .cls u) : decide (v = .non) = d.isN := by
  cases r <;> first | rfl | exact decide_eq_false (fun e => V.noConfusion e) | exact absurd rfl (hd _)
theorem rs_isNo (hd : ∀ u, d ≠ .cls u) : RvS K rIsNo d .non (.bl d.isN) := fun H x y Q rx ry k => by
  cases ry
  refine ⟨rfl, ?_⟩
  rw [isN_rp rx hd]
  exact k _ fun G => .bl _
theorem rs_notNo (hd : ∀ u, d ≠ .cls u) : RvS K rNotNo d .non (.bl (!d.isN)) := fun H x y Q rx ry k => by
  cases ry
  refine ⟨rfl, ?_⟩
  rw [isN_rp rx hd]
  exact k _ fun G => .bl _
theorem eb_truB (h : EvD K te ρ (.bl b)) : EvB K (tTru K te) ρ b := fun G0 H0 G H σ Q s k => h G0 H0 G H σ _ s fun v G1 H1 g1 r1 => by
  cases r1; exact ⟨b, rfl, k G1 H1 g1⟩
theorem eb_truN (h : EvD K te ρ .non) : EvB K (tTru K te) ρ false := fun G0 H0 G H σ Q s k => h G0 H0 G H σ _ s fun v G1 H1 g1 r1 => by
  cases r1; exact ⟨false, rfl, k G1 H1 g1⟩
theorem RpA.emp {H : Hp} {vs : List V} (h : RpA K H vs ds) : vs.isEmpty = ds.isEmpty := by cases h <;> rfl
theorem eb_truT (h : EvD K te ρ (.tup ds)) : EvB K (tTru K te) ρ (!ds.isEmpty) := fun G0 H0 G H σ Q s k => h G0 H0 G H σ _ s fun v G1 H1 g1 r1 => by
  cases r1 with
  | tup a r => exact ⟨_, .inr (.inl ⟨_, ex_t g1.gh a, rfl⟩), by rw [r.emp]; exact k G1 H1 g1⟩
end
/-! ### defs whose last parameter has a default -/
structure CalD (P : Program) (w : World) (K : PySem.W.Frag) (mg : Str → Option Value) (base : Heap) (x : Str) (k : Nat) (ps : List Str) (sp : Sp) (dv : V) : Prop where
  ex : ∃ (f : Addr) (fd : FuncData) (ds : List Value), FnOk P w K mg base CX0 k f fd ps sp ∧ mg x = some (.ref f) ∧ PySem.W.keepIn K (.ref f) = true ∧ Vals [dv] ds ∧ Binds K fd ps ds
structure HasD (K : PySem.W.Frag) (mg : Str → Option Value) (x : Str) (st : Stmt) (ps : List Str) (dv : V) : Prop where
  ex : ∃ (f : Addr) (fd : FuncData), FunD K x x (defArgs st) (defBody st) (defScope st) [dv] [] f fd ∧ mg x = some (.ref f) ∧ Binds K fd ps [] ∧ ∃ ds, Vals [dv] ds ∧ Binds K fd ps ds
section
variable {P : Program} {w : World} {K : PySem.W.Frag} {mg : Str → Option Value} {base : Heap} {x : Str} {k n : Nat} {ps N : List Str} {st : Stmt} {dv : V} {R : List D → D → Prop} {h : Heap} {f : Addr}
theorem fn_DD {q : Str} {fd : FuncData} (F : FunD K x q (defArgs st) (defBody st) (defScope st) [dv] [] f fd) (Sc : FnScope N ps (defScope st)) (hn : ps.length = n)
    (hbody : ∀ (cdv : Value) (A : Around) (outer : List Env) (s : Shared) (H : Hp) (E : XK), Room k (A.deeper (envOfC q (defScope st) s.heap.objs.size f cdv)) →
      ∃ t, PSs (cxOf CX0 P w K mg base N q (defScope st) f cdv A outer s H E).nox (defBody st) t ∧ ∀ ds d, R ds d → Ends1 K t (rho0 N ds) d) : FnOk P w K mg base CX0 (k + 1) f fd ps (spD K n R) := by
  refine F.ok Sc (fun vs H Q E h => ?_) (fun cdv A outer s H vs Q E hr h => ?_)
  · obtain ⟨_, _, _, h, _⟩ := h
    rw [h, hn]
  · obtain ⟨t, h1, h2⟩ := hbody cdv A outer s H E hr
    obtain ⟨G, ds, d, hl, e, r, hR, q⟩ := h
    refine ⟨t, h1.nox, ?_⟩
    have s0 := sl_start (N := N) e r
    have h := h2 ds d hR
    cases h with
    | rt h => exact h G H G H _ _ s0 fun v G' H' g r => q v G' H' g r
    | nx h => exact h G H G H _ _ s0 fun G' H' σ' _ s' => q .non G' H' s'.go .non
theorem HasD.cal (h : HasD K mg x st ps dv) (Sc : FnScope N ps (defScope st)) (hn : ps.length = n)
    (hbody : ∀ (f : Addr) (cdv : Value) (A : Around) (outer : List Env) (s : Shared) (H : Hp) (E : XK), Room k (A.deeper (envOfC x (defScope st) s.heap.objs.size f cdv)) →
      ∃ t, PSs (cxOf CX0 P w K mg base N x (defScope st) f cdv A outer s H E).nox (defBody st) t ∧ ∀ ds d, R ds d → Ends1 K t (rho0 N ds) d) :
    Cal P w K mg base x (k + 1) ps (spD K n R) ∧ CalD P w K mg base x (k + 1) ps (spD K n R) dv := by
  obtain ⟨f, fd, F, m, b, ds, hv, b2⟩ := h.ex
  have ok := fn_DD F Sc hn fun cdv A outer s H E hr => hbody f cdv A outer s H E hr
  exact ⟨⟨f, fd, ok, m, F.kp, b⟩, ⟨f, fd, ds, ok, m, F.kp, hv, b2⟩⟩
theorem hasD_mk (m : Str) (st : Stmt) (ps : List Str) (dv : V) (hp : 0 < ps.length) {T : Addr} {o : Obj} {its : List Value} {nn : Nat} {oc : Value} {od an : Option Addr} {osl : Array (Option Value)} {kV doc pm cdv ct : Value} (X : K.In h) (G : h.Ns mainGlobals mg)
    (hb : ∀ (T : Addr) (kV doc pm : Value) (an : Option Addr) (cdv ct : Value) (us its : List Value), us.length = ps.length → its.length = 1 →
      ∃ k, bindArgs (PySem.W.fnOf m m (defArgs st) (defBody st) (defScope st) (.ref T) kV doc pm an cdv ct) ⟨us, []⟩ = seqItems? (.ref T) >>= k ∧ k (some its.toArray) = pure (ps.zip (us ++ its.drop 1)))
    (hb0 : ∀ (T : Addr) (kV doc pm : Value) (an : Option Addr) (cdv ct : Value) (us its : List Value), us.length = ps.length - 1 → its.length = 1 →
      ∃ k, bindArgs (PySem.W.fnOf m m (defArgs st) (defBody st) (defScope st) (.ref T) kV doc pm an cdv ct) ⟨us, []⟩ = seqItems? (.ref T) >>= k ∧ k (some its.toArray) = pure (ps.zip (us ++ its.drop 0)))
    (a : PySem.W.nsIn K mainGlobals m = some (some (.ref f))) (l : K.lookup f = some ⟨oc, od, .func (PySem.W.fnOf m m (defArgs st) (defBody st) (defScope st) (.ref T) kV doc pm an cdv ct), osl⟩)
    (lt : K.lookup T = some o) (ot : o.data = .seq its.toArray nn) (hv : Vals [dv] its)
    (c : PySem.W.codeIn K cdv m = true) (k : PySem.W.keepIn K (.ref f) = true) : HasD K mg m st ps dv := by
  have F : FunD K m m (defArgs st) (defBody st) (defScope st) [dv] [] f (PySem.W.fnOf m m (defArgs st) (defBody st) (defScope st) (.ref T) kV doc pm an cdv ct) :=
    ⟨⟨oc, od, .ref T, kV, doc, pm, an, cdv, ct, osl, rfl, l, c, .inr ⟨by simp, T, o, its, nn, rfl, lt, ot, hv⟩, .inl rfl⟩, k⟩
  obtain ⟨ds, h1, h2⟩ := F.binds1 (ps := ps) ps.length 1 (by simp) (by simp) hb
  obtain ⟨es, h3, h4⟩ := F.binds1 (ps := ps) (ps.length - 1) 0 (by simp) (by simp only [List.length_singleton]; omega) hb0
  cases h1
  exact ⟨f, _, F, PySem.W.mg_of X G a, h2, es, h3, h4⟩
end
section
variable {X : Cx} {x : Str} {k n : Nat} {ps : List Str} {sp : Sp} {e : Expr} {es : List Expr} {t : TA} {p pos : Pos} {dv : V}
theorem pe_calD (c : CalD X.prog X.w X.K X.mg X.base x k ps sp dv) (hr : Room k X.A) (ha : PA X (e :: es) t) (hg : Gl X x := by rfl) (hdb : (x == ("__debug__" : Str)) = false := by decide) (he : starEach (e :: es) X.env = (false, eval e X.env) :: starEach es X.env := by rfl) (hpl : (backTo pos (starEach es X.env)).any (·.1) = false := by rfl) :
    PE X (.Call (.Name x p) (e :: es) [] pos) (tCall sp [dv] E0 t) := by
  obtain ⟨f, fd, ds, F, m, kp, hv, b⟩ := c.ex
  exact pe_call F hr hg m kp b hv pass0 ha hdb he hpl
end
section
variable {K : PySem.W.Frag} {ρ : Rho} {ta : TA} {ds : List D} {d dd : D} {n : Nat} {R : List D → D → Prop} {dv : V}
theorem ev_callD {E : XK} (h : EvS K ta ρ ds) (hn : ds.length + 1 = n) (hv : ∀ H, Rp K H dv dd) (hr : R (ds ++ [dd]) d) : EvD K (tCall (spD K n R) [dv] E ta) ρ d := fun G0 H0 G H σ Q s k =>
  h G0 H0 G H σ _ s fun vs G1 H1 g1 r1 => ⟨G1, ds ++ [dd], d, by rw [List.length_append, r1.length]; exact hn, g1.gh, r1.append (.cons (hv G1) .nil), hr, fun v G' H' g r => k v G' H' (g1.trans g) r⟩
end
/-! ### lists put together -/
def rCatL (K : PySem.W.Frag) : R2 := fun x y H Q => ∃ l b xs zs, x = .ref l ∧ y = .ref b ∧ SqL K H l xs ∧ SqL K H b zs ∧ xs.length + zs.length ≤ sizeLine ∧ ∀ p, H p = none → Q (.ref p) (upd H p (.lst (xs ++ zs)))
theorem op_catL {X : Cx} : OpR X (binaryOp .Add) (rCatL X.K) := by
  intro pins s σ H x y v u Q I rx ry h
  obtain ⟨l, b, xs, zs, rfl, rfl, hx, hy, hz, q⟩ := h
  cases rx
  cases ry
  obtain ⟨its, r, p1, z1⟩ := I.list hx
  obtain ⟨its2, r2, p2, z2⟩ := I.list hy
  have e1 := r.length
  have e2 := r2.length
  have hl := p1.isList
  have hb := p2.isList
  obtain ⟨⟨cls, dd, data, sl⟩, ho, hc, n, hd⟩ := id hl
  obtain ⟨⟨cls2, dd2, data2, sl2⟩, ho2, hc2, n2, hd2⟩ := id hb
  simp only at hc hd hc2 hd2
  subst hc hd hc2 hd2
  have e : its.toArray ++ its2.toArray = (its ++ its2).toArray := by simp
  refine concat_meets ⟨_, ho, rfl⟩ ⟨_, ho2, rfl⟩ noFill_list_add seq_list_add PySem.F.slot_list_add PySem.F.entry_list_add (PySem.F.args_list_add_2 _ _) (list_addW l b its.toArray its2.toArray n n2 dd dd2 sl sl2 (by simp only [List.size_toArray]; omega)) ⟨ho, ho2, ?_⟩
  rw [e]
  exact ⟨.ref _, _, I.lnew (t' := s.toks) (r.append r2) (by rw [List.length_append]; omega), rfl, q _ I.fresh⟩
section
variable {K : PySem.W.Frag} {ρ : Rho} {ta tb : TE} {as bs : List D} {d : D}
theorem en_catL (ha : EvD K ta ρ (.lst as)) (hb : EvD K tb ρ (.lst bs)) (hz : as.length + bs.length ≤ 100000) : EvN K (tOp (rCatL K) ta tb) ρ (as ++ bs) := fun G0 H0 G H σ Q s k =>
  ha G0 H0 G H σ _ s fun v G1 H1 g1 r1 => hb G0 H0 G1 H1 σ _ (s.step g1) fun w G2 H2 g2 r2 => by
    cases r1 with
    | lst h1 a1 =>
      cases r2 with
      | lst h2 a2 => exact ⟨_, _, _, _, rfl, rfl, ex_l g2.gh (ex_l g2.gg h1), ex_l g2.gh h2, by rw [a1.length, a2.length]; exact sz_of hz, fun p hp => k p _ G2 H2 (g1.trans g2) hp ((a1.mono g2.gg).append a2)⟩
theorem cut_last : cutD (as ++ [d]) none (some (-1)) = as := by
  unfold cutD
  have e : HT.sIx (as ++ [d]).length (as ++ [d]).length (some (-1)) = as.length := by
    rw [List.length_append, List.length_singleton]
    simp [HT.sIx]
    omega
  rw [HT.sIx_none, e, List.drop_zero, Nat.sub_zero, List.take_left]
theorem at_last : atI (as ++ [d]) (-1) = some d := atI_neg1 (by simp)
end
end Ax

namespace Ax
open PySem PySem.Spec PyProof.Rows L2 Evl
/-! ### expressions of which only something is known -/
def EvE (K : PySem.W.Frag) (te : TE) (ρ : Rho) (R : D → Prop) : Prop := ∀ G0 H0 G H σ (Q : VK), Sl K G0 H0 G H σ ρ → (∀ d v G' H', R d → Go G H G' H' → Rp K G' v d → Q v H') → te σ H Q
def EvSE (K : PySem.W.Frag) (ta : TA) (ρ : Rho) (R : List D → Prop) : Prop := ∀ G0 H0 G H σ (Q : List V → Hp → Prop), Sl K G0 H0 G H σ ρ → (∀ ds vs G' H', R ds → Go G H G' H' → RpA K G' vs ds → Q vs H') → ta σ H Q
section
variable {K : PySem.W.Frag} {ρ : Rho} {te tf : TE} {ta tr : TA} {d : D} {ds : List D} {P P' R' : D → Prop} {Ps : List D → Prop} {n : Nat} {R : List D → D → Prop} {A : List D → Prop} {C : Addr} {RI : List D → List (Str × D) → Prop} {o : Out} {u : TS} {r2 : R2}
theorem evE_of (h : EvD K te ρ d) : EvE K te ρ (· = d) := fun G0 H0 G H σ Q s k => h G0 H0 G H σ Q s fun v G' H' g r => k d v G' H' rfl g r
theorem esE_of (h : EvS K ta ρ ds) : EvSE K ta ρ (· = ds) := fun G0 H0 G H σ Q s k => h G0 H0 G H σ Q s fun v G' H' g r => k ds v G' H' rfl g r
theorem evE_mono (h : EvE K te ρ P) (e : ∀ d, P d → P' d) : EvE K te ρ P' := fun G0 H0 G H σ Q s k => h G0 H0 G H σ Q s fun d v G' H' hd g r => k d v G' H' (e d hd) g r
theorem esE_nil : EvSE K tNil ρ (· = []) := esE_of es_nil
theorem esE_cons (ha : EvE K te ρ P) (hr : EvSE K tr ρ Ps) : EvSE K (tCons te tr) ρ (fun ds => ∃ d es, ds = d :: es ∧ P d ∧ Ps es) := fun G0 H0 G H σ Q s k =>
  ha G0 H0 G H σ _ s fun d v G1 H1 hd g1 r1 => hr G0 H0 G1 H1 σ _ (s.step g1) fun es vs G2 H2 he g2 r2 => k (d :: es) (v :: vs) G2 H2 ⟨d, es, rfl, hd, he⟩ (g1.trans g2) (.cons (r1.mono g2.gg) r2)
theorem evE_call {E : XK} (h : EvSE K ta ρ Ps) (hr : ∀ ds, Ps ds → ds.length = n ∧ ∃ d, R ds d ∧ R' d) : EvE K (tCall (spD K n R) [] E ta) ρ R' := fun G0 H0 G H σ Q s k =>
  h G0 H0 G H σ _ s fun ds vs G1 H1 hd g1 r1 => by
    obtain ⟨hn, d, h1, h2⟩ := hr ds hd
    exact ⟨G1, ds, d, by rw [List.append_nil, r1.length]; exact hn, g1.gh, by rw [List.append_nil]; exact r1, h1, fun v G' H' g r => k d v G' H' h2 (g1.trans g) r⟩
theorem evE_callE {E : XK} (h : EvSE K ta ρ Ps) (hr : ∀ ds, Ps ds → ds.length = n ∧ A ds ∧ ∀ d, R ds d → R' d) : EvE K (tCall (spE K n A R) [] E ta) ρ R' := fun G0 H0 G H σ Q s k =>
  h G0 H0 G H σ _ s fun ds vs G1 H1 hd g1 r1 => by
    obtain ⟨hn, h1, h2⟩ := hr ds hd
    exact ⟨G1, ds, by rw [List.append_nil, r1.length]; exact hn, g1.gh, by rw [List.append_nil]; exact r1, h1, fun d v G' H' hd g r => k d v G' H' (h2 d hd) (g1.trans g) r⟩
theorem evE_new {E : XK} (h : EvSE K ta ρ Ps) (hr : ∀ ds, Ps ds → ds.length = n ∧ ∃ fs, RI ds fs ∧ R' (.ins C fs)) : EvE K (tMake C (spI K C n RI) [] E ta) ρ R' := fun G0 H0 G H σ Q s k =>
  h G0 H0 G H σ _ s fun ds vs G1 H1 hd g1 r1 => by
    obtain ⟨hn, fs, h1, h2⟩ := hr ds hd
    intro x dx hx hdx ne
    have gx : G1 x = none := fresh_back g1.gh hx
    have hx2 : (upd H1 dx (.own x)) x = none := by rw [upd_ne (Ne.symm ne)]; exact hx
    have e2 : Ex H1 (upd (upd H1 dx (.own x)) x (.ins C dx [])) := (Ex.new hdx).trans (Ex.new hx2)
    refine ⟨x, dx, vs ++ [], G1, ds, fs, rfl, by rw [List.append_nil, r1.length]; exact hn, upd_same, gx, g1.gh.trans e2, by rw [List.append_nil]; exact r1, h1, fun G' H' dy gs g z1 z2 z3 => ?_⟩
    have keep : ∀ a o, H1 a = some o → H' a = some o := fun a o e => g.hh a o (by
      rw [delx_ne (ne_of_none e hx)]
      exact e2 a o e)
    have n : Ex G' (upd G' x (.ins C dy gs)) := Ex.new z1
    refine ⟨rfl, k _ (.ref x) (upd G' x (.ins C dy gs)) H' h2 (g1.trans ⟨g.gg.trans n, fun a o e => ?_, keep, fun a ha hg => ?_⟩) (.ins upd_same (z3.mono n))⟩
    · by_cases ax : a = x
      · subst ax; rw [upd_same] at e; rw [← e]; exact z2
      · rw [upd_ne ax] at e; exact g.gh a o e
    · have ax : a ≠ x := fun z => ha (by rw [z]; exact hx)
      rw [upd_ne ax]
      refine g.fr a ?_ hg
      rw [delx_ne ax]
      cases q : H1 a with
      | none => exact absurd q ha
      | some o => rw [e2 a o q]; exact fun z => nomatch z
theorem evE_op (ha : EvE K te ρ P) (hb : EvE K tf ρ P') (hr : ∀ a b, P a → P' b → ∃ c, RvD K r2 a b c ∧ R' c) : EvE K (tOp r2 te tf) ρ R' := fun G0 H0 G H σ Q s k =>
  ha G0 H0 G H σ _ s fun a v G1 H1 pa g1 r1 => hb G0 H0 G1 H1 σ _ (s.step g1) fun b w G2 H2 pb g2 r2 => by
    obtain ⟨c, h1, h2⟩ := hr a b pa pb
    exact h1 G2 H2 v w _ (g2.gh) (r1.mono g2.gg) r2 fun u G3 H3 g3 r3 => k c u G3 H3 h2 ((g1.trans g2).trans g3) r3
theorem sd_asgX {i : Nat} (h : EvE K te ρ P) (k : ∀ d, P d → StD K u (ρ.set i (some (.dat d))) o) : StD K (tSeq (tAsg te (gName i)) u) ρ o := fun G0 H0 G H σ W s q =>
  h G0 H0 G H σ _ s fun d v G' H' hd g r => k d hd G0 H0 G' H' _ W ((s.step g).set r) (q.mono g.gg)
end
end Ax

namespace Ax
open PySem PySem.Spec PyProof.Rows L2 Evl
/-! ### data without lists and instances -/
mutual
def D.pu : D → Bool
  | .non => true
  | .bl _ => true
  | .int _ => true
  | .str _ => true
  | .tup ds => D.pus ds
  | .lst _ => false
  | .ptup ds => D.pus ds
  | .ins _ _ => false
  | .cls _ => true
def D.pus : List D → Bool
  | [] => true
  | d :: ds => D.pu d && D.pus ds
end
theorem pus_all : ∀ (ds : List D), (∀ d ∈ ds, D.pu d = true) → D.pus ds = true
  | [], _ => by unfold D.pus; rfl
  | d :: ds, h => by
    unfold D.pus
    rw [h d List.mem_cons_self, pus_all ds fun e he => h e (List.mem_cons_of_mem _ he)]; rfl
theorem pu_tup {ds : List D} (h : ∀ d ∈ ds, D.pu d = true) : D.pu (.tup ds) = true := by
  unfold D.pu; exact pus_all ds h
section
variable {K : PySem.W.Frag} {G G' : Hp}
theorem unl_t {a : Addr} {xs : List V} (e1 : ∀ a vs, G a = some (.tup vs) → G' a = some (.tup vs)) (e2 : ∀ a o vs, G a = some (.frz o (.tup vs)) → G' a = some (.frz o (.tup vs))) (h : SqT K G a xs) : SqT K G' a xs := by
  rcases h with (h | ⟨o, h⟩) | h
  · exact .inl (.inl (e1 _ _ h))
  · exact .inl (.inr ⟨o, e2 _ _ _ h⟩)
  · exact .inr h
mutual
theorem Rp.unlend (e1 : ∀ a vs, G a = some (.tup vs) → G' a = some (.tup vs)) (e2 : ∀ a o vs, G a = some (.frz o (.tup vs)) → G' a = some (.frz o (.tup vs))) : ∀ {v : V} {d : D}, Rp K G v d → d.pu = true → Rp K G' v d
  | _, _, .non, _ => .non
  | _, _, .bl b, _ => .bl b
  | _, _, .int b, _ => .int b
  | _, _, .str b, _ => .str b
  | _, _, .tup h a, p => .tup (unl_t e1 e2 h) (RpA.unlend e1 e2 a (by unfold D.pu at p; exact p))
  | _, _, .lst h a, p => by unfold D.pu at p; cases p
  | _, _, .ptup h q a, p => .ptup (e2 _ _ _ h) q (RpA.unlend e1 e2 a (by unfold D.pu at p; exact p))
  | _, _, .ins h a, p => by unfold D.pu at p; cases p
  | _, _, .cls v, _ => .cls v
theorem RpA.unlend (e1 : ∀ a vs, G a = some (.tup vs) → G' a = some (.tup vs)) (e2 : ∀ a o vs, G a = some (.frz o (.tup vs)) → G' a = some (.frz o (.tup vs))) : ∀ {v : List V} {d : List D}, RpA K G v d → D.pus d = true → RpA K G' v d
  | _, _, .nil, _ => .nil
  | _, _, .cons h a, p => by
    unfold D.pus at p
    rw [Bool.and_eq_true] at p
    exact .cons (Rp.unlend e1 e2 h p.1) (RpA.unlend e1 e2 a p.2)
end
end
/-! ### boxes: lent to be read -/
def del2 (H : Hp) (x l : Addr) : Hp := fun a => if a = x ∨ a = l then none else H a
theorem del2_x {H : Hp} {x l : Addr} : del2 H x l x = none := by unfold del2; rw [if_pos (.inl rfl)]
theorem del2_l {H : Hp} {x l : Addr} : del2 H x l l = none := by unfold del2; rw [if_pos (.inr rfl)]
theorem del2_ne {H : Hp} {x l a : Addr} (h1 : a ≠ x) (h2 : a ≠ l) : del2 H x l a = H a := by unfold del2; rw [if_neg (fun z => z.elim h1 h2)]
theorem del2_some {H : Hp} {x l a : Addr} {o : HO} (h : del2 H x l a = some o) : a ≠ x ∧ a ≠ l ∧ H a = some o := by
  by_cases h1 : a = x
  · rw [h1, del2_x] at h; cases h
  · by_cases h2 : a = l
    · rw [h2, del2_l] at h; cases h
    · rw [del2_ne h1 h2] at h; exact ⟨h1, h2, h⟩
section
variable {K : PySem.W.Frag} {G0 H0 G H G1 H1 : Hp} {σ : L2.St} {ρ ρ' : Rho} {n i : Nat} {x l C : Addr} {f g m : Str} {r d : D} {ds es es' : List D} {te : TE} {tt : TT} {p : Bool}
theorem Sl.lend (s : Sl K G0 H0 G H σ ρ) (hb : ρ[n]? = some (some (.box x l C f r g ds))) :
    ∃ G1, Ex G G1 ∧ Sl K G0 H0 G1 H σ (ρ.set n (some (.dat (.ins C [(f, r), (g, .lst ds)])))) ∧ (∃ dx gs, G1 x = some (.ins C dx gs)) ∧ (∃ vs, G1 l = some (.lst vs)) ∧ (∀ a, a ≠ x → a ≠ l → G1 a = G a) ∧ G x = none ∧ G l = none ∧ H x ≠ none ∧ H l ≠ none := by
  obtain ⟨h1, ⟨hx0, gx⟩, ⟨hl0, gl⟩, ne, dx, u, vs, h2, h3, h4, h5⟩ := s.boxAt hb
  have gx2 : (upd G l (.lst vs)) x = none := by rw [upd_ne ne]; exact gx
  have eg : Ex G (upd (upd G l (.lst vs)) x (.ins C dx [(f, u), (g, .ref l)])) := (Ex.new gl).trans (Ex.new gx2)
  have gL : (upd (upd G l (.lst vs)) x (.ins C dx [(f, u), (g, .ref l)])) l = some (.lst vs) := by rw [upd_ne (Ne.symm ne), upd_same]
  have oth : ∀ a, a ≠ x → a ≠ l → (upd (upd G l (.lst vs)) x (.ins C dx [(f, u), (g, .ref l)])) a = G a := fun a a1 a2 => by rw [upd_ne a1, upd_ne a2]
  refine ⟨_, eg, ⟨⟨s.go.gg.trans eg, fun a o e => ?_, s.go.hh, fun a ha hg => ?_⟩, by rw [List.length_set, s.len], fun j e q => ?_, fun j z q m => ?_, fun j k z w v' w' hjk q1 m1 q2 m2 g1 g2 => ?_⟩, ⟨dx, _, upd_same⟩, ⟨vs, gL⟩, oth, gx, gl, (by rw [h2]; exact fun z => nomatch z), (by rw [h4]; exact fun z => nomatch z)⟩
  · by_cases ax : a = x
    · subst ax; rw [upd_same] at e; rw [← e]; exact h2
    · by_cases al : a = l
      · subst al; rw [gL] at e; rw [← e]; exact h4
      · rw [oth a ax al] at e; exact s.gh a o e
  · rw [oth a (fun z => ha (by rw [z]; exact hx0)) (fun z => ha (by rw [z]; exact hl0))]
    exact s.go.fr a ha hg
  · rcases set_get q with ⟨rfl, _, z⟩ | ⟨hj, q⟩
    · cases z
      exact ⟨.ref x, h1, .ins upd_same (.cons (h3.mono eg) (.cons (.lst (.inl (.inl gL)) (h5.mono eg)) .nil))⟩
    · obtain ⟨v, g1, g2⟩ := s.dat j e q
      exact ⟨v, g1, g2.mono eg⟩
  · rcases set_get q with ⟨rfl, _, z⟩ | ⟨hj, q⟩
    · cases z; cases m
    · obtain ⟨u', g1, g2, g4⟩ := s.mine j z q m
      have hs := s.sep n j _ z _ u' hj hb rfl q m h1 g1
      exact ⟨u', g1, fun a ha => ⟨(g2 a ha).1, by
        rw [oth a (fun e => hs x List.mem_cons_self (by rw [← e]; exact ha)) (fun e => hs l (List.mem_cons_of_mem _ (List.mem_singleton.mpr rfl)) (by rw [← e]; exact ha))]
        exact (g2 a ha).2⟩, g4.mono eg fun a _ o q => q⟩
  · have back : ∀ (j : Nat) (z : S), (ρ.set n (some (.dat (.ins C [(f, r), (g, .lst ds)]))))[j]? = some (some z) → z.mine = true → ρ[j]? = some (some z) := fun j z q m => by
      rcases set_get q with ⟨rfl, _, e⟩ | ⟨hj, q⟩
      · cases e; cases m
      · exact q
    exact s.sep j k z w v' w' hjk (back j z q1 m1) m1 (back k w q2 m2) m2 g1 g2
theorem unlend_go {G' H' : Hp} (eg : Ex G G1) (oth : ∀ a, a ≠ x → a ≠ l → G1 a = G a) (gx : G x = none) (gl : G l = none) (hx : H x ≠ none) (hl : H l ≠ none) (g1 : Go G1 H G' H') : Go G H (del2 G' x l) H' :=
  ⟨fun a o e => by
    have ax : a ≠ x := fun z => by rw [z, gx] at e; cases e
    have al : a ≠ l := fun z => by rw [z, gl] at e; cases e
    rw [del2_ne ax al]; exact g1.gg a o (eg a o e), fun a o e => g1.gh a o (del2_some e).2.2, g1.hh, fun a ha hg => by
    by_cases ax : a = x
    · rw [ax]; exact del2_x
    · by_cases al : a = l
      · rw [al]; exact del2_l
      · rw [del2_ne ax al]; exact g1.fr a ha (by rw [oth a ax al]; exact hg)⟩
/-- a box is read: within the expression it is a thing that stands still -/
theorem ev_lend (hb : ρ[n]? = some (some (.box x l C f r g ds))) (h : EvD K te (ρ.set n (some (.dat (.ins C [(f, r), (g, .lst ds)])))) d) (hp : d.pu = true) : EvD K te ρ d := fun G0 H0 G H σ Q s k => by
  obtain ⟨G1, eg, s1, ⟨dx, gs, e1⟩, ⟨vs, e2⟩, oth, gx, gl, hx, hl⟩ := s.lend hb
  refine h G0 H0 G1 H σ _ s1 fun v G' H' g1 r1 => k v (del2 G' x l) H' (unlend_go eg oth gx gl hx hl g1) (r1.unlend (fun a vs e => ?_) (fun a o vs e => ?_) hp)
  · rw [del2_ne]
    · exact e
    · intro z; rw [z, g1.gg _ _ e1] at e; cases e
    · intro z; rw [z, g1.gg _ _ e2] at e; cases e
  · rw [del2_ne]
    · exact e
    · intro z; rw [z, g1.gg _ _ e1] at e; cases e
    · intro z; rw [z, g1.gg _ _ e2] at e; cases e
theorem eb_lend (hb : ρ[n]? = some (some (.box x l C f r g ds))) (h : EvB K tt (ρ.set n (some (.dat (.ins C [(f, r), (g, .lst ds)])))) p) : EvB K tt ρ p := fun G0 H0 G H σ Q s k => by
  obtain ⟨G1, eg, s1, _, _, oth, gx, gl, hx, hl⟩ := s.lend hb
  exact h G0 H0 G1 H σ _ s1 fun G' H' g1 => k (del2 G' x l) H' (unlend_go eg oth gx gl hx hl g1)
/-- our own thing grows -/
theorem Sl.grow {v : V} {y z : S} (s : Sl K G0 H0 G H σ ρ) (hi : ρ[i]? = some (some y)) (hm : y.mine = true) (hl : σ[i]? = some (some v)) (hf : ∀ a ∈ z.fp v, a ∈ y.fp v ∨ H a = none) (k : ∀ a o, a ∉ y.fp v → H a = some o → H1 a = some o) (rr : OwnAt K G H1 v z) :
    Sl K G0 H0 G H1 σ (ρ.set i (some z)) := by
  obtain ⟨v', h1, h2, h4⟩ := s.mine i y hi hm
  rw [hl] at h1
  cases h1
  have none0 : ∀ a, H a = none → H0 a = none ∧ G a = none := fun a e => ⟨fresh_back s.go.hh e, fresh_back s.gh e⟩
  refine ⟨⟨s.go.gg, fun a o e => k a o (fun z => by rw [(h2 a z).2] at e; cases e) (s.gh a o e), fun a o e => k a o (fun z => by rw [(h2 a z).1] at e; cases e) (s.go.hh a o e), s.go.fr⟩, by rw [List.length_set, s.len], fun j e q => ?_, fun j w q m => ?_, fun j n w w2 v' w' hjk q1 m1 q2 m2 g1 g2 => ?_⟩
  · rcases set_get q with ⟨rfl, _, e'⟩ | ⟨hj, q⟩
    · cases e'; exact rr.elim
    · exact s.dat j e q
  · rcases set_get q with ⟨rfl, _, e'⟩ | ⟨hj, q⟩
    · cases e'
      exact ⟨v, hl, fun a ha => (hf a ha).elim (h2 a) (none0 a), rr⟩
    · obtain ⟨u, g1, g2, g4⟩ := s.mine j w q m
      exact ⟨u, g1, g2, g4.mono (Ex.refl G) fun a ha o q2 => k a o (fun hb => s.sep i j y w v u hj hi hm q m hl g1 a hb ha) q2⟩
  · rcases set_get q1 with ⟨rfl, _, e1⟩ | ⟨hj, p1⟩
    · cases e1
      rw [hl] at g1
      cases g1
      rcases set_get q2 with ⟨e, _, _⟩ | ⟨hn, p2⟩
      · exact absurd e hjk
      · intro a ha hb
        rcases hf a ha with h | h
        · exact s.sep i n y w2 v w' hjk hi hm p2 m2 hl g2 a h hb
        · obtain ⟨u, u1, u2, u3⟩ := s.mine n w2 p2 m2
          rw [g2] at u1
          cases u1
          obtain ⟨o, ho⟩ := u3.there a hb
          rw [h] at ho; cases ho
    · rcases set_get q2 with ⟨rfl, _, e2⟩ | ⟨hn, p2⟩
      · cases e2
        rw [hl] at g2
        cases g2
        intro a ha hb
        rcases hf a hb with h | h
        · exact s.sep j i w y v' v hjk p1 m1 hi hm g1 hl a ha h
        · obtain ⟨u, u1, u2, u3⟩ := s.mine j w p1 m1
          rw [g1] at u1
          cases u1
          obtain ⟨o, ho⟩ := u3.there a ha
          rw [h] at ho; cases ho
      · exact s.sep j n w w2 v' w' hjk p1 m1 p2 m2 g1 g2
/-- a box is set aside -/
theorem Sl.forget (s : Sl K G0 H0 G H σ ρ) (hb : ρ[n]? = some (some (.box x l C f r g ds))) : Sl K G0 H0 G (del2 H x l) σ (ρ.set n none) := by
  obtain ⟨h1, ⟨hx0, gx⟩, ⟨hl0, gl⟩, ne, _⟩ := s.boxAt hb
  have keep : ∀ a o, a ≠ x → a ≠ l → H a = some o → del2 H x l a = some o := fun a o a1 a2 e => by rw [del2_ne a1 a2]; exact e
  refine ⟨⟨s.go.gg, fun a o e => keep a o (fun z => by rw [z, gx] at e; cases e) (fun z => by rw [z, gl] at e; cases e) (s.gh a o e), fun a o e => keep a o (fun z => by rw [z, hx0] at e; cases e) (fun z => by rw [z, hl0] at e; cases e) (s.go.hh a o e), s.go.fr⟩, by rw [List.length_set, s.len], fun j e q => ?_, fun j z q m => ?_, fun j k z w v' w' hjk q1 m1 q2 m2 g1 g2 => ?_⟩
  · rcases set_get q with ⟨_, _, e'⟩ | ⟨hj, q⟩
    · cases e'
    · exact s.dat j e q
  · rcases set_get q with ⟨_, _, e'⟩ | ⟨hj, q⟩
    · cases e'
    · obtain ⟨u, g1, g2, g4⟩ := s.mine j z q m
      have hs := s.sep n j _ z _ u hj hb rfl q m h1 g1
      exact ⟨u, g1, g2, g4.mono (Ex.refl G) fun a ha o q2 => keep a o (fun e => hs x List.mem_cons_self (by rw [← e]; exact ha)) (fun e => hs l (List.mem_cons_of_mem _ (List.mem_singleton.mpr rfl)) (by rw [← e]; exact ha)) q2⟩
  · have back : ∀ (j : Nat) (z : S), (ρ.set n none)[j]? = some (some z) → ρ[j]? = some (some z) := fun j z q => by
      rcases set_get q with ⟨_, _, e⟩ | ⟨hj, q⟩
      · cases e
      · exact q
    exact s.sep j k z w v' w' hjk (back j z q1) m1 (back k w q2) m2 g1 g2
theorem set_same {α : Type} {xs : List α} {j : Nat} {a : α} (h : xs[j]? = some a) : xs.set j a = xs := by
  apply List.ext_getElem?
  intro k
  rw [List.getElem?_set]
  by_cases e : j = k
  · subst e
    have := (List.getElem?_eq_some_iff.mp h).1
    rw [if_pos rfl, if_pos this, h]
  · rw [if_neg e]
end
/-! ### an __init__ that makes a box -/
def spIB (K : PySem.W.Frag) (C : Addr) (n : Nat) (f g : Str) (R : List D → D → List D → Prop) : Sp := fun vs H Q _ => ∃ (x dx : Addr) (us : List V) (G : Hp) (ds : List D) (r : D) (es : List D), vs = .ref x :: us ∧ us.length = n ∧ H x = some (.ins C dx []) ∧ G x = none ∧ Ex G H ∧ RpA K G us ds ∧ R ds r es ∧
  ∀ G' H' dy l u ws, Go G (delx H x) G' H' → G' x = none → G' l = none → (delx H x) l = none → x ≠ l → H' x = some (.ins C dy [(f, u), (g, .ref l)]) → Rp K G' u r → H' l = some (.lst ws) → RpA K G' ws es → Q .non H'
def EndsBox (K : PySem.W.Frag) (t : TS) (ρ : Rho) (x C : Addr) (f : Str) (r : D) (g : Str) (ds : List D) : Prop := ∀ G0 H0 G H σ (W : Ends), Sl K G0 H0 G H σ ρ →
  (∀ l G' H' σ' ρ', Ex G G' → Sl K G0 H0 G' H' σ' ρ' → ρ'[0]? = some (some (.box x l C f r g ds)) → W.nx σ' H') → t W σ H
section
variable {K : PySem.W.Frag} {σ : L2.St} {ρ ρ' : Rho} {n i : Nat} {x l C : Addr} {f g : Str} {r d : D} {ds es : List D} {te : TE} {t u : TS} {ta : TA} {o : Out} {R : List D → D → List D → Prop}
theorem xb_seq (h : StD K t ρ (.nx ρ')) (k : EndsBox K u ρ' x C f r g ds) : EndsBox K (tSeq t u) ρ x C f r g ds := fun G0 H0 G H σ W s q =>
  h G0 H0 G H σ { W with nx := u W } s fun G' H' σ' e s' => k G0 H0 G' H' σ' W s' fun l G2 H2 σ2 ρ2 e2 s2 h2 => q l G2 H2 σ2 ρ2 (e.trans e2) s2 h2
theorem xb_fld (h : EvN K te ρ ds) (ho : ρ[0]? = some (some (.obj x C [(f, r)]))) (hne : ¬ f = g) (cl : Cls K C) (na : NoAttr K C g) : EndsBox K (sFld K (tVar 0) te g) ρ x C f r g ds := fun G0 H0 G H σ W s q =>
  h G0 H0 G H σ _ s fun l vs G1 H1 g1 hl r1 => by
    have s1 := s.step g1
    obtain ⟨h1, h2, h3, dx, gs, h4, h5⟩ := s1.objAt ho
    cases h5 with
    | cons ru rt =>
      cases rt
      rename_i u0
      have nx : x ≠ l := ne_of_none h4 hl
      refine ⟨.ref x, h1, x, C, dx, _, rfl, (by rw [upd_ne nx]; exact h4), cl, na, Nat.le_of_ble_eq_true rfl, ?_⟩
      have e : putF g (V.ref l) [(f, u0)] = [(f, u0), (g, .ref l)] := by
        show (if f = g then _ else _) = _
        rw [if_neg hne]; rfl
      rw [e]
      have hlt : 0 < ρ.length := (List.getElem?_eq_some_iff.mp ho).1
      refine q l G1 _ σ (ρ.set 0 (some (.box x l C f r g ds))) g1.gg (s1.grow ho rfl h1 (fun a ha => ?_) (fun a o ha e => ?_) ⟨rfl, nx, dx, u0, vs, upd_same, ru, by rw [upd_ne (Ne.symm nx), upd_same], r1⟩) ?_
      · rcases List.mem_cons.mp (show a ∈ [x, l] from ha) with z | z
        · rw [z]; exact .inl List.mem_cons_self
        · rw [List.mem_singleton.mp z]; exact .inr hl
      · have ax : a ≠ x := fun z => ha (List.mem_singleton.mpr z)
        have al : a ≠ l := fun z => by rw [z, hl] at e; cases e
        rw [upd_ne ax, upd_ne al]; exact e
      · rw [List.getElem?_set, if_pos rfl, if_pos hlt]
theorem fn_IB {P : Program} {w : World} {mg : Str → Option Value} {base : Heap} {nm qual : Str} {st : Stmt} {fa : Addr} {fd : FuncData} {N ps : List Str} {k : Nat} (F : Fun K nm qual st fa fd) (Sc : FnScope N ps (defScope st)) (hn : ps.length = n + 1)
    (hbody : ∀ (cdv : Value) (A : Around) (outer : List Env) (s : Shared) (H : Hp) (E : XK), Room k (A.deeper (envOfC qual (defScope st) s.heap.objs.size fa cdv)) →
      ∃ t, PSs (cxOf CX0 P w K mg base N qual (defScope st) fa cdv A outer s H E).nox (defBody st) t ∧ ∀ x ds r es, R ds r es → EndsBox K t (rhoI N x C ds) x C f r g es) : FnOk P w K mg base CX0 (k + 1) fa fd ps (spIB K C n f g R) := by
  refine F.ok Sc (fun vs H Q E h => ?_) (fun cdv A outer s H vs Q E hr h => ?_)
  · obtain ⟨x, dx, us, _, _, _, _, h, hu, _⟩ := h
    rw [h, List.length_cons, hu, hn]
  · obtain ⟨t, h1, h2⟩ := hbody cdv A outer s H E hr
    obtain ⟨x, dx, us, G, ds, r, es, rfl, hl, hx, gx, e, rr, hR, q⟩ := h
    refine ⟨t, h1, ?_⟩
    have s0 := sl_startI (N := N) e hx gx rr
    refine h2 x ds r es hR G (delx H x) G H _ _ s0 fun l G' H' σ' ρ' eG s' h4 => ?_
    obtain ⟨_, ⟨a2, a3⟩, ⟨a4, a5⟩, ne, dy, u, ws, b1, b2, b3, b4⟩ := s'.boxAt h4
    exact q G' H' dy l u ws s'.go a3 a5 a4 ne b1 b2 b3 b4
theorem sd_newB {E : XK} (h : EvS K ta ρ ds) (hn : ds.length = n) (hr : R ds r es) (k : ∀ x l, StD K u (ρ.set i (some (.box x l C f r g es))) o) : StD K (tSeq (tAsg (tMake C (spIB K C n f g R) [] E ta) (gName i)) u) ρ o := fun G0 H0 G H σ W s q =>
  h G0 H0 G H σ _ s fun vs G1 H1 g1 r1 => by
    intro x dx hx hdx ne
    have gx : G1 x = none := fresh_back g1.gh hx
    have hx2 : (upd H1 dx (.own x)) x = none := by rw [upd_ne (Ne.symm ne)]; exact hx
    have e2 : Ex H1 (upd (upd H1 dx (.own x)) x (.ins C dx [])) := (Ex.new hdx).trans (Ex.new hx2)
    refine ⟨x, dx, vs ++ [], G1, ds, r, es, rfl, by rw [List.append_nil, r1.length]; exact hn, upd_same, gx, g1.gh.trans e2, by rw [List.append_nil]; exact r1, hr, fun G' H' dy l u' ws go z1 zl zf ne2 b1 b2 b3 b4 => ?_⟩
    have keep : ∀ a o, H1 a = some o → H' a = some o := fun a o e => go.hh a o (by
      rw [delx_ne (ne_of_none e hx)]
      exact e2 a o e)
    have hl : H1 l = none := by
      cases q : H1 l with
      | none => rfl
      | some o => rw [delx_ne (Ne.symm ne2), e2 l o q] at zf; cases zf
    have s1 : Sl K G0 H0 G' (del2 H' x l) σ ρ := (s.step g1).step ⟨go.gg, fun a o e => by
        rw [del2_ne (fun z => by rw [z, z1] at e; cases e) (fun z => by rw [z, zl] at e; cases e)]
        exact go.gh a o e, fun a o e => by
        rw [del2_ne (fun z => by rw [z, hx] at e; cases e) (fun z => by rw [z, hl] at e; cases e)]
        exact keep a o e, fun a ha hg => by
        by_cases ax : a = x
        · rw [ax]; exact z1
        · refine go.fr a ?_ hg
          rw [delx_ne ax]
          cases q : H1 a with
          | none => exact absurd q ha
          | some o => rw [e2 a o q]; exact fun z => nomatch z⟩
    have s2 := s1.put (i := i) (v := .ref x) (x := .box x l C f r g es) (H1 := H') (fun a o e => (del2_some e).2.2) (fun a ha => by
      rcases List.mem_cons.mp (show a ∈ [x, l] from ha) with z | z
      · rw [z]; exact del2_x
      · rw [List.mem_singleton.mp z]; exact del2_l) ⟨rfl, ne2, dy, u', ws, b1, b2, b3, b4⟩
    exact ⟨rfl, k x l G0 H0 G' H' _ W s2 (q.mono (g1.gg.trans go.gg))⟩
end
/-! ### methods that change a box -/
def spM (K : PySem.W.Frag) (C : Addr) (n : Nat) (f g : Str) (R : D → List D → List D → D → List D → Prop) : Sp := fun vs H Q _ => ∃ (x l dx : Addr) (u : V) (ws us : List V) (G : Hp) (ds : List D) (r : D) (es : List D) (d : D) (es' : List D),
  vs = .ref x :: us ∧ us.length + 1 = n ∧ x ≠ l ∧ H x = some (.ins C dx [(f, u), (g, .ref l)]) ∧ H l = some (.lst ws) ∧ G x = none ∧ G l = none ∧ Ex G H ∧ Rp K G u r ∧ RpA K G ws es ∧ RpA K G us ds ∧ R r es ds d es' ∧
  ∀ v G' H' dy u' ws', Go G (del2 H x l) G' H' → G' x = none → G' l = none → H' x = some (.ins C dy [(f, u'), (g, .ref l)]) → Rp K G' u' r → H' l = some (.lst ws') → RpA K G' ws' es' → Rp K G' v d → Q v H'
def RetM (K : PySem.W.Frag) (t : TS) (ρ : Rho) (x l C : Addr) (f : Str) (r : D) (g : Str) (d : D) (es' : List D) : Prop := ∀ G0 H0 G H σ (W : Ends), Sl K G0 H0 G H σ ρ →
  (∀ v G' H' σ' ρ', Ex G G' → Sl K G0 H0 G' H' σ' ρ' → ρ'[0]? = some (some (.box x l C f r g es')) → Rp K G' v d → W.rt v H') →
  (d = .non → ∀ G' H' σ' ρ', Ex G G' → Sl K G0 H0 G' H' σ' ρ' → ρ'[0]? = some (some (.box x l C f r g es')) → W.nx σ' H') → t W σ H
def rhoB (N : List Str) (x l C : Addr) (f : Str) (r : D) (g : Str) (es ds : List D) : Rho := some (.box x l C f r g es) :: (ds.map (fun d => some (.dat d)) ++ List.replicate (N.length - (ds.length + 1)) none)
section
variable {K : PySem.W.Frag} {G H : Hp} {σ : L2.St} {ρ ρ' : Rho} {n i j : Nat} {x l C dx : Addr} {f g m : Str} {r d : D} {ds es es' : List D} {te ti : TE} {t u : TS} {ta : TA} {o : Out} {c : TT} {p : Bool} {R : D → List D → List D → D → List D → Prop}
theorem rm_seq (h : StD K t ρ (.nx ρ')) (k : RetM K u ρ' x l C f r g d es') : RetM K (tSeq t u) ρ x l C f r g d es' := fun G0 H0 G H σ W s q1 q2 =>
  h G0 H0 G H σ { W with nx := u W } s fun G' H' σ' e s' => k G0 H0 G' H' σ' W s' (fun v G2 H2 σ2 ρ2 e2 s2 h2 r2 => q1 v G2 H2 σ2 ρ2 (e.trans e2) s2 h2 r2) fun hd G2 H2 σ2 ρ2 e2 s2 h2 => q2 hd G2 H2 σ2 ρ2 (e.trans e2) s2 h2
theorem rm_ret (h : EvD K te ρ d) (hb : ρ[0]? = some (some (.box x l C f r g es'))) : RetM K (tRet te) ρ x l C f r g d es' := fun G0 H0 G H σ W s q1 q2 =>
  h G0 H0 G H σ _ s fun v G' H' g1 r1 => q1 v G' H' σ ρ g1.gg (s.step g1) hb r1
theorem rm_nx (h : StD K t ρ (.nx ρ')) (hb : ρ'[0]? = some (some (.box x l C f r g es'))) : RetM K t ρ x l C f r g .non es' := fun G0 H0 G H σ W s q1 q2 =>
  h G0 H0 G H σ W s fun G' H' σ' e s' => q2 rfl G' H' σ' ρ' e s' hb
/-- self.g[i] = e -/
theorem sd_boxix {k0 : Int} (h : EvD K te ρ d) (hi : EvD K ti ρ (.int k0)) (ho : ρ[i]? = some (some (.box x l C f r g ds))) (hne : ¬ f = g) (cl : Cls K C) (na : NoAttr K C g) (hj : ixN ds.length k0 = some j) : StD K (tAsg te (gSub (tFld K (tVar i) g) ti rSetL)) ρ (.nx (ρ.set i (some (.box x l C f r g (ds.set j d))))) := fun G0 H0 G H σ W s k => by
  refine h G0 H0 G H σ _ s fun v G1 H1 g1 r1 => ?_
  obtain ⟨h1, _, _, ne, dx, u, vs, h2, h3, h4, h5⟩ := (s.step g1).boxAt ho
  refine ⟨.ref x, h1, x, C, dx, _, .ref l, rfl, h2, cl, na, ?_, ?_⟩
  · rw [List.lookup_cons]
    have : (g == f) = false := beq_eq_false_iff_ne.mpr fun e => hne e.symm
    rw [this]
    exact look_hd
  refine hi G0 H0 G1 H1 σ _ (s.step g1) fun w G2 H2 g2 r2 => ?_
  cases r2
  refine ⟨l, vs, k0, j, rfl, rfl, g2.hh _ _ h4, by rw [h5.length]; exact hj, ?_⟩
  exact k G2 _ _ (g1.gg.trans g2.gg) ((s.step (g1.trans g2)).mutBox ho (RpA.set (r1.mono g2.gg) j (h5.mono g2.gg)))
theorem sl_startB {N : List Str} {u : V} {vs ws : List V} (e : Ex G H) (ne : x ≠ l) (hx : H x = some (.ins C dx [(f, u), (g, .ref l)])) (hl : H l = some (.lst ws)) (gx : G x = none) (gl : G l = none) (ru : Rp K G u r) (rw' : RpA K G ws es) (rs : RpA K G vs ds) :
    Sl K G (del2 H x l) G H (L2.start N (.ref x :: vs)) (rhoB N x l C f r g es ds) := by
  have key : ∀ (i : Nat) (y : S), (rhoB N x l C f r g es ds)[i]? = some (some y) → (i = 0 ∧ y = .box x l C f r g es) ∨ ∃ (j : Nat) (d : D), i = j + 1 ∧ ds[j]? = some d ∧ y = .dat d := fun i y h => by
    cases i with
    | zero => cases h; exact .inl ⟨rfl, rfl⟩
    | succ j =>
      have h' : (ds.map (fun d => some (S.dat d)) ++ List.replicate (N.length - (ds.length + 1)) none)[j]? = some (some y) := h
      by_cases hj : j < ds.length
      · rw [List.getElem?_append_left (by rw [List.length_map]; exact hj), List.getElem?_map] at h'
        cases q : ds[j]? with
        | none => rw [q] at h'; cases h'
        | some d' =>
          rw [q] at h'
          cases h'
          exact .inr ⟨j, d', rfl, q, rfl⟩
      · rw [List.getElem?_append_right (by rw [List.length_map]; omega)] at h'
        have := List.mem_of_getElem? h'
        cases (List.mem_replicate.mp this).2
  refine ⟨⟨Ex.refl G, e, fun a o q => (del2_some q).2.2, fun a _ q => q⟩, ?_, fun i d h => ?_, fun i y h m => ?_, fun i j y z v w hij p1 m1 p2 m2 => ?_⟩
  · unfold rhoB L2.start
    rw [List.length_append, List.length_map, List.length_cons, List.length_cons, List.length_append, List.length_map, List.length_replicate, List.length_replicate, rs.length]
    omega
  · rcases key i _ h with ⟨_, z⟩ | ⟨j, d', rfl, q, z⟩
    · cases z
    · cases z
      obtain ⟨v, h1, h2⟩ := rs.get q
      refine ⟨v, ?_, h2⟩
      have hj := (List.getElem?_eq_some_iff.mp h1).1
      unfold L2.start
      rw [List.getElem?_append_left (by rw [List.length_map, List.length_cons]; omega), List.getElem?_map, List.getElem?_cons_succ, h1]
      rfl
  · rcases key i _ h with ⟨rfl, rfl⟩ | ⟨j, d', rfl, q, rfl⟩
    · refine ⟨.ref x, rfl, fun a ha => ?_, rfl, ne, dx, u, ws, hx, ru, hl, rw'⟩
      rcases List.mem_cons.mp (show a ∈ [x, l] from ha) with z | z
      · rw [z]; exact ⟨del2_x, gx⟩
      · rw [List.mem_singleton.mp z]; exact ⟨del2_l, gl⟩
    · cases m
  · rcases key i _ p1 with ⟨rfl, rfl⟩ | ⟨_, _, rfl, _, rfl⟩
    · rcases key j _ p2 with ⟨rfl, rfl⟩ | ⟨_, _, rfl, _, rfl⟩
      · exact absurd rfl hij
      · cases m2
    · cases m1
theorem fn_M {P : Program} {w : World} {mg : Str → Option Value} {base : Heap} {nm qual : Str} {st : Stmt} {fa : Addr} {fd : FuncData} {N ps : List Str} {k : Nat} (F : Fun K nm qual st fa fd) (Sc : FnScope N ps (defScope st)) (hn : ps.length = n)
    (hbody : ∀ (cdv : Value) (A : Around) (outer : List Env) (s : Shared) (H : Hp) (E : XK), Room k (A.deeper (envOfC qual (defScope st) s.heap.objs.size fa cdv)) →
      ∃ t, PSs (cxOf CX0 P w K mg base N qual (defScope st) fa cdv A outer s H E).nox (defBody st) t ∧ ∀ x l r es ds d es', R r es ds d es' → RetM K t (rhoB N x l C f r g es ds) x l C f r g d es') : FnOk P w K mg base CX0 (k + 1) fa fd ps (spM K C n f g R) := by
  refine F.ok Sc (fun vs H Q E h => ?_) (fun cdv A outer s H vs Q E hr h => ?_)
  · obtain ⟨_, _, _, _, _, us, _, _, _, _, _, _, h, hu, _⟩ := h
    rw [h, List.length_cons, hu, hn]
  · obtain ⟨t, h1, h2⟩ := hbody cdv A outer s H E hr
    obtain ⟨x, l, dx, u, ws, us, G, ds, r, es, d, es', rfl, hu, ne, hx, hl, gx, gl, e, ru, rw', rs, hR, q⟩ := h
    refine ⟨t, h1, ?_⟩
    have s0 := sl_startB (N := N) e ne hx hl gx gl ru rw' rs
    refine h2 x l r es ds d es' hR G (del2 H x l) G H _ _ s0 (fun v G' H' σ' ρ' eG s' h4 rv => ?_) (fun hd G' H' σ' ρ' eG s' h4 => ?_)
    · obtain ⟨_, ⟨a2, a3⟩, ⟨a4, a5⟩, _, dy, u', ws', b1, b2, b3, b4⟩ := s'.boxAt h4
      exact q v G' H' dy u' ws' s'.go a3 a5 b1 b2 b3 b4 rv
    · obtain ⟨_, ⟨a2, a3⟩, ⟨a4, a5⟩, _, dy, u', ws', b1, b2, b3, b4⟩ := s'.boxAt h4
      exact q .non G' H' dy u' ws' s'.go a3 a5 b1 b2 b3 b4 (by rw [hd]; exact .non)
/-- the value and the box behind a call of such a method -/
theorem call_M {E : XK} {Q : VK} {G0 H0 : Hp} (s : Sl K G0 H0 G H σ ρ) (hb : ρ[j]? = some (some (.box x l C f r g es))) (h1 : ¬ m = f) (h2 : ¬ m = g) (h : EvS K ta ρ ds) (hn : ds.length + 1 = n) (hr : R r es ds d es')
    (k : ∀ v G' H', Ex G G' → Sl K G0 H0 G' H' σ (ρ.set j (some (.box x l C f r g es'))) → Rp K G' v d → Q v H') : tMeth C m (spM K C n f g R) [] E (tVar j) ta σ H Q := by
  obtain ⟨b1, _, _, ne, dx, u, ws, b2, b3, b4, b5⟩ := s.boxAt hb
  refine ⟨.ref x, b1, x, dx, _, rfl, b2, ?_, ?_⟩
  · rw [look_tl h1, look_tl h2]; rfl
  refine h G0 H0 G H σ _ s fun vs G1 H1 g1 r1 => ?_
  have s1 := s.step g1
  obtain ⟨c1, ⟨x0, gx⟩, ⟨l0, gl⟩, _, dx', u', ws', c2, c3, c4, c5⟩ := s1.boxAt hb
  refine ⟨x, l, dx', u', ws', vs ++ [], G1, ds, r, es, d, es', rfl, by rw [List.append_nil, r1.length]; exact hn, ne, c2, c4, gx, gl, g1.gh, c3, c5, by rw [List.append_nil]; exact r1, hr, fun v G' H' dy u2 ws2 go z1 z2 e1 e2 e3 e4 rv => ?_⟩
  have s2 := s1.forget hb
  have s3 : Sl K G0 H0 G' (del2 H' x l) σ (ρ.set j none) := s2.step ⟨go.gg, fun a o e => by
      rw [del2_ne (fun z => by rw [z, z1] at e; cases e) (fun z => by rw [z, z2] at e; cases e)]
      exact go.gh a o e, fun a o e => by
      have q := del2_some e
      rw [del2_ne q.1 q.2.1]
      exact go.hh a o e, go.fr⟩
  have s4 := s3.put (i := j) (v := .ref x) (x := .box x l C f r g es') (H1 := H') (fun a o e => (del2_some e).2.2) (fun a ha => by
    rcases List.mem_cons.mp (show a ∈ [x, l] from ha) with z | z
    · rw [z]; exact del2_x
    · rw [List.mem_singleton.mp z]; exact del2_l) ⟨rfl, ne, dy, u2, ws2, e1, e2, e3, e4⟩
  rw [List.set_set, set_same b1] at s4
  exact k v G' H' (g1.gg.trans go.gg) s4 rv
theorem sd_asgM {E : XK} (hb : ρ[j]? = some (some (.box x l C f r g es))) (h1 : ¬ m = f) (h2 : ¬ m = g) (h : EvS K ta ρ ds) (hn : ds.length + 1 = n) (hr : R r es ds d es') :
    StD K (tAsg (tMeth C m (spM K C n f g R) [] E (tVar j) ta) (gName i)) ρ (.nx ((ρ.set j (some (.box x l C f r g es'))).set i (some (.dat d)))) := fun G0 H0 G H σ W s k =>
  call_M s hb h1 h2 h hn hr fun v G' H' e s' rv => k G' H' _ e (s'.set rv)
theorem sd_dropM {E : XK} (hb : ρ[j]? = some (some (.box x l C f r g es))) (h1 : ¬ m = f) (h2 : ¬ m = g) (h : EvS K ta ρ ds) (hn : ds.length + 1 = n) (hr : R r es ds d es') :
    StD K (tDrop (tMeth C m (spM K C n f g R) [] E (tVar j) ta)) ρ (.nx (ρ.set j (some (.box x l C f r g es')))) := fun G0 H0 G H σ W s k =>
  call_M s hb h1 h2 h hn hr fun v G' H' e s' rv => k G' H' _ e s'
end
end Ax

namespace Ax
open PySem PySem.Spec PyProof.Rows L2 Evl
section
variable {P : Program} {w : World} {K : PySem.W.Frag} {mg : Str → Option Value} {base : Heap} {x q : Str} {k n : Nat} {ps N : List Str} {st : Stmt} {C f : Addr}
theorem HasM.calIB {fl gl : Str} {R : List D → D → List D → Prop} (h : HasM K C x q st ps f) (Sc : FnScope N ps (defScope st)) (hn : ps.length = n + 1)
    (hbody : ∀ (cdv : Value) (A : Around) (outer : List Env) (s : Shared) (H : Hp) (E : XK), Room k (A.deeper (envOfC q (defScope st) s.heap.objs.size f cdv)) →
      ∃ t, PSs (cxOf CX0 P w K mg base N q (defScope st) f cdv A outer s H E).nox (defBody st) t ∧ ∀ x ds r es, R ds r es → EndsBox K t (rhoI N x C ds) x C fl r gl es) : CalM P w K mg base C x (k + 1) ps (spIB K C n fl gl R) := by
  obtain ⟨fd, F, b⟩ := h.ex
  exact ⟨f, fd, fn_IB F Sc hn hbody, h.at_, h.fn, F.kp, b, fn_in F⟩
theorem HasM.calM {fl gl : Str} {R : D → List D → List D → D → List D → Prop} (h : HasM K C x q st ps f) (Sc : FnScope N ps (defScope st)) (hn : ps.length = n)
    (hbody : ∀ (cdv : Value) (A : Around) (outer : List Env) (s : Shared) (H : Hp) (E : XK), Room k (A.deeper (envOfC q (defScope st) s.heap.objs.size f cdv)) →
      ∃ t, PSs (cxOf CX0 P w K mg base N q (defScope st) f cdv A outer s H E).nox (defBody st) t ∧ ∀ x l r es ds d es', R r es ds d es' → RetM K t (rhoB N x l C fl r gl es ds) x l C fl r gl d es') : CalM P w K mg base C x (k + 1) ps (spM K C n fl gl R) := by
  obtain ⟨fd, F, b⟩ := h.ex
  exact ⟨f, fd, fn_M F Sc hn hbody, h.at_, h.fn, F.kp, b, fn_in F⟩
end
/-! ### properties -/
structure HasP (K : PySem.W.Frag) (C : Addr) (x q : Str) (st : Stmt) (ps : List Str) (p g : Addr) : Prop where
  ex : ∃ (fd : FuncData), Fun K x q st g fd ∧ Binds K fd ps []
  pr : PropOf K C x p g
structure CalP (P : Program) (w : World) (K : PySem.W.Frag) (mg : Str → Option Value) (base : Heap) (C : Addr) (x : Str) (k : Nat) (ps : List Str) (sp : Sp) : Prop where
  ex : ∃ (p g : Addr) (fd : FuncData), FnOk P w K mg base CX0 k g fd ps sp ∧ PropOf K C x p g ∧ Binds K fd ps []
section
variable {P : Program} {w : World} {K : PySem.W.Frag} {mg : Str → Option Value} {base : Heap} {x q : Str} {k n : Nat} {ps N : List Str} {st : Stmt} {C p g : Addr} {R : List D → D → Prop}
theorem HasP.cal (h : HasP K C x q st ps p g) (Sc : FnScope N ps (defScope st)) (hn : ps.length = n)
    (hbody : ∀ (cdv : Value) (A : Around) (outer : List Env) (s : Shared) (H : Hp) (E : XK), Room k (A.deeper (envOfC q (defScope st) s.heap.objs.size g cdv)) →
      ∃ t, PSs (cxOf CX0 P w K mg base N q (defScope st) g cdv A outer s H E).nox (defBody st) t ∧ ∀ ds d, R ds d → Ends1 K t (rho0 N ds) d) : CalP P w K mg base C x (k + 1) ps (spD K n R) := by
  obtain ⟨fd, F, b⟩ := h.ex
  exact ⟨p, g, fd, fn_D F Sc hn hbody, h.pr, b⟩
theorem hasP_mk {rest : List Value} {oc : Value} {od an : Option Addr} {osl : Array (Option Value)} {kV doc pm cdv ct : Value} (m q : Str) (st : Stmt) (ps : List Str)
    (hb : ∀ (kV doc pm : Value) (an : Option Addr) (cdv ct : Value) (us : List Value), us.length = ps.length → bindArgs (PySem.W.fnOf m q (defArgs st) (defBody st) (defScope st) .none kV doc pm an cdv ct) ⟨us, []⟩ = pure (ps.zip us))
    (a : PySem.W.findIn K (.ref C) m = some (some (.ref p))) (gt : PySem.W.specialIn K (.ref p) "__get__" = some (some (.builtin "property.__get__"))) (tk : PySem.W.takesIn K (.ref p) = some true) (rc : PySem.W.recIn K p "property" = some (.ref g :: rest))
    (l : K.lookup g = some ⟨oc, od, .func (PySem.W.fnOf m q (defArgs st) (defBody st) (defScope st) .none kV doc pm an cdv ct), osl⟩)
    (c : PySem.W.codeIn K cdv q = true) (k : PySem.W.keepIn K (.ref g) = true) : ∃ p g, HasP K C m q st ps p g := by
  have F := fun_mk (st := st) l c k
  exact ⟨p, g, ⟨_, F, F.binds hb⟩, ⟨a, gt, tk, rest, rc⟩⟩
end
section
variable {X : Cx} {x m : Str} {k : Nat} {ps : List Str} {sp : Sp} {e : Expr} {ta : TE} {pos : Pos} {C : Addr}
theorem pe_propC (he : PE X e ta) (M : CCls X.K X.mg x C) (c : CalP X.prog X.w X.K X.mg X.base C m k ps sp) (hr : Room (k + 1) X.A)
    (hab : attributeBase e m X.env (eval e X.env) = eval e X.env := by rfl) : PE X (.Attribute e m pos) (tProp C sp [] E0 ta) := by
  obtain ⟨p, g, fd, F, hp, b⟩ := c.ex
  exact pe_prop he M.cl hp F hr b .nil pass0 hab
end
section
variable {K : PySem.W.Frag} {ρ ρ'' : Rho} {t : TS} {P : Rho → Prop}
theorem sd_ofE (h : StE K t ρ P) (k : ∀ ρ', P ρ' → LeR ρ'' ρ') : StD K t ρ (.nx ρ'') := let ⟨r, a, b⟩ := h; sd_wk b (k r a)
end
end Ax

namespace Ax
open PySem PySem.Spec PyProof.Rows L2 Evl
/-! ### x[i] and x[i] = v of own classes -/
def rOwnIx (C : Addr) (sp : Sp) (E : XK) : R2 := fun x y H Q => ∃ a dx gs, x = .ref a ∧ H a = some (.ins C dx gs) ∧ sp [.ref a, y] H Q E
def rOwnSet (C : Addr) (sp : Sp) (E : XK) : TSet := fun o i v H Q => ∃ a dx gs, o = .ref a ∧ H a = some (.ins C dx gs) ∧ sp [.ref a, i, v] H (fun _ H' => Q H') E
section
variable {X : Cx} {a b : Expr} {ta tb : TE} {k : Nat} {ps : List Str} {sp : Sp} {C : Addr} {pos : Pos}
theorem pe_ixOwn (c : CalM X.prog X.w X.K X.mg X.base C "__getitem__" k ps sp) (hr : Room (k + 1) X.A) (ha : PE X a ta) (hb : PE X b tb)
    (hs : ∀ o i, subscripted b true o i = runValue (.builtin "lifetime.subscript" ⟨[o, i], []⟩)) : PE X (.Subscript a b pos) (tOp (rOwnIx C sp E0) ta tb) := by
  obtain ⟨f, fd, F, m, fn, kp, bn, fi⟩ := c.ex
  refine ⟨fun pins s σ H Q I h => Subscript_ (binT ha hb I h fun v u s2 x y H2 I2 rx ry q => ?_)⟩
  obtain ⟨a0, dx, gs, rfl, hi, hsp⟩ := q
  cases rx
  obtain ⟨mA, J, _⟩ := ins_get I2.hok hi
  obtain ⟨od, J, _⟩ := J.look
  obtain ⟨m0, hF⟩ := I2.fr
  refine PySem.W.sub_K hF I2.ok.mod.kin J m fi fn ?_ (hs _ _)
  have hl := F.len _ _ _ _ hsp
  have r2 : Vals [V.ref a0, y] [Value.ref a0, u] := .cons rfl (.cons ry .nil)
  have e0 : Env0 X.prog X.w X.K X.mg X.base X.A.in1 X.stack s2 H2 := by
    have e := I2.env0
    exact ⟨e.frames, e.mod, e.bs, e.bsz, e.funs, e.frf, e.hok, e.bare⟩
  refine wpAny_call (codeAny_mono (F.run X.A.in1 X.stack s2 H2 ⟨[.ref a0, u], []⟩ [.ref a0, u] [.ref a0, y] _ E0 hr.in1 e0 (by
    have := bn s2 [.ref a0, u] I2.kIn (by simpa using hl)
    simpa using this) r2 hsp) fun r s' hq => ?_)
  cases r with
  | error e => exact pass0 pins σ H2 s2 e s' I2 hq
  | ok fl =>
    cases fl with
    | ret w => exact I2.after hq
    | next => exact False.elim hq
    | brk => exact False.elim hq
    | cont => exact False.elim hq
theorem set_own (c : CalM X.prog X.w X.K X.mg X.base C "__setitem__" k ps sp) (hr : Room k X.A) (hq : PySem.W.noSeq X.K C = true) : PSet X (rOwnSet C sp E0) := by
  obtain ⟨f, fd, F, m, fn, kp, bn, fi⟩ := c.ex
  intro pins s σ H o i v ov iv u Q I ro ri rv h
  obtain ⟨a0, dx, gs, rfl, ha, hsp⟩ := h
  cases ro
  obtain ⟨mA, J, _⟩ := ins_get I.hok ha
  obtain ⟨od, J, _⟩ := J.look
  obtain ⟨m0, hF⟩ := I.fr
  refine PySem.W.ksp_setItem hF I.ok.mod.kin J hq m fn ?_
  have hl := F.len _ _ _ _ hsp
  have r2 : Vals [V.ref a0, i, v] [Value.ref a0, iv, u] := .cons rfl (.cons ri (.cons rv .nil))
  refine wpAny_call (codeAny_mono (F.run X.A X.stack s H ⟨[.ref a0, iv, u], []⟩ [.ref a0, iv, u] [.ref a0, i, v] _ E0 hr I.env0 (by
    have := bn s [.ref a0, iv, u] I.kIn (by simpa using hl)
    simpa using this) r2 hsp) fun r s' hq => ?_)
  cases r with
  | error e => exact pass0 pins σ H s e s' I hq
  | ok fl =>
    cases fl with
    | ret w =>
      obtain ⟨z, H', I', rz, q⟩ := I.after hq
      exact ⟨H', I', q⟩
    | next => exact False.elim hq
    | brk => exact False.elim hq
    | cont => exact False.elim hq
end
/-! ### a list's iterator, step by step -/
section
variable {prog : Program} {w : World} {A : Around} {E : Value → Shared → Prop} {s : Shared} {it l : Addr} {i : Nat} {items : Array Value} {x : Value} {Q : Option Value → Shared → Prop}
theorem pn_item (ho : s.heap.get? it = some (GNX.itObj l i)) (hl : s.heap.IsList l items) (hx : items[i]? = some x)
    (hQ : ∀ h', h'.get? it = some (GNX.itObj l (i + 1)) → Heap.SameBut it s.heap h' → Q (some x) { s with heap := h' }) : wpAny (model prog w) A (pyNext (.ref it)) Q E s := by
  have hT : s.TypeIs (.ref it) "list_iterator" := ⟨_, ho, rfl⟩
  unfold pyNext
  refine wpAny_bind (wpAny_attempt (wpAny_callSpecial?_slot (name := Str.ofString "__next__") hT slot_listiter_next (wpAny_call_entry slot_listiter_next hT entry_listiter_next ?_ (args_listiter_next _))))
  refine wpAny_mono (GNX.next_item ho hl hx (Q := fun v s' => v = x ∧ Q (some x) s') fun h' e sb => ⟨rfl, hQ h' e sb⟩) (fun fin s' hq => ?_) fun _ _ z => z
  obtain ⟨v, e, rfl, q⟩ := hq
  first
  | exact ⟨v, e, wpAny_pure q⟩
  | exact ⟨v, e, wpAny_pure ⟨_, rfl, wpAny_pure q⟩⟩
  | exact ⟨v, e, wpAny_bind (wpAny_pure (wpAny_pure q))⟩
theorem pn_end (hh : A.handled = none) (ho : s.heap.get? it = some (GNX.itObj l i)) (hl : s.heap.IsList l items) (hx : items[i]? = none)
    (hQ : ∀ h1 h', h1.get? it = some (GNX.itEnd i) → Heap.SameBut it s.heap h1 → (∀ b o, h1.get? b = some o → h'.get? b = some o) → Q none { s with heap := h' }) : wpAny (model prog w) A (pyNext (.ref it)) Q E s := by
  have hT : s.TypeIs (.ref it) "list_iterator" := ⟨_, ho, rfl⟩
  unfold pyNext
  refine wpAny_bind (wpAny_attempt (wpAny_callSpecial?_slot (name := Str.ofString "__next__") hT slot_listiter_next (wpAny_call_entry slot_listiter_next hT entry_listiter_next ?_ (args_listiter_next _))))
  refine wpAny_mono (GNX.next_end (A := A) (Q := fun _ _ => False) (E := fun e s' => ∃ h1 h' a vs, e = .ref a ∧ s' = { s with heap := h' } ∧ h1.get? it = some (GNX.itEnd i) ∧ Heap.SameBut it s.heap h1 ∧ (∀ b o, h1.get? b = some o → h'.get? b = some o) ∧ h'.get? a = some { cls := .type "StopIteration", data := .fields vs }) hh ho hl hx fun h1 h' e vs e1 sb k ne he hv => ⟨h1, h', e, vs, rfl, rfl, e1, sb, k, he⟩) (fun fin s' hq => ?_) fun e s' hz => ?_
  · obtain ⟨v, e, q⟩ := hq
    exact q.elim
  · obtain ⟨h1, h', a, vs, rfl, rfl, e1, sb, k, he⟩ := hz
    refine wpAny_bind (wpAny_isInstance (T := "StopIteration") (b := true) ⟨_, he, rfl⟩ isSubtype_stop ?_)
    exact wpAny_pure (hQ h1 h' e1 sb k)
end
theorem upd_cm {H : Hp} {a b : Addr} {o u : HO} (h : a ≠ b) : upd (upd H a o) b u = upd (upd H b u) a o := by
  funext c
  by_cases ca : c = a
  · subst ca; rw [upd_ne h, upd_same, upd_same]
  · by_cases cb : c = b
    · subst cb; rw [upd_same, upd_ne ca, upd_same]
    · rw [upd_ne cb, upd_ne ca, upd_ne ca, upd_ne cb]
section
variable {X : Cx} {pins : List (Addr × Obj)} {σ : L2.St} {q it l : Addr} {zs : List V} {H0 : Hp} {Rs : Result → Shared → Prop} {A1 : Around}
theorem it_loop (hh : A1.in1.handled = none) (hn : q ≠ it) (hz : zs.length ≤ 100000) (hs : ∀ o1 o2, SqL X.K (upd (upd H0 q o1) it o2) l zs)
    (hdone : ∀ s, Inv X pins σ (upd (upd H0 q (.lst zs)) it (ItE it zs.length)) s → Rs (.ok (.ret .none)) s) :
    ∀ (m i : Nat) (s : Shared), m = zs.length - i → i ≤ zs.length → Inv X pins σ (upd (upd H0 q (.lst (zs.take i))) it (ItO l it i)) s → codeAny (model X.prog X.w) A1 (.builtin "list.extend.loop" ⟨[.ref q, .ref it, .none], []⟩) Rs s := by
  intro m
  induction m with
  | zero =>
    intro i s hm hi I
    have e : i = zs.length := by omega
    subst e
    refine codeAny_builtin PySem.F.entry_extend_loop ?_
    rw [Around.under_plainId PySem.F.plain_extend_loop _]
    show wpAny _ A1.in1 (pyNext (.ref it) >>= _) _ _ s
    obtain ⟨its, rv, pl, _⟩ := I.list (hs _ _)
    have mu : Mut ((upd (upd H0 q (.lst (zs.take zs.length))) it (ItO l it zs.length)) it) := by rw [upd_same]; exact True.intro
    refine wpAny_bind (pn_end hh (itO_get I upd_same) pl.isList (by rw [List.getElem?_toArray]; exact List.getElem?_eq_none (by rw [← rv.length]; omega)) fun h1 h' e1 sb k => ?_)
    have I2 := I.write (x := it) (e := it) (t' := s.toks) mu (.inl rfl) (fun b o nb z => (sb.2 b nb).trans z) ⟨_, e1⟩ (itE_ok e1)
    rw [upd_upd, List.take_of_length_le (Nat.le_refl _)] at I2
    exact wpAny_pure (hdone _ (I2.kept (t' := s.toks) k))
  | succ m ih =>
    intro i s hm hi I
    have hlt : i < zs.length := by omega
    refine codeAny_builtin PySem.F.entry_extend_loop ?_
    rw [Around.under_plainId PySem.F.plain_extend_loop _]
    show wpAny _ A1.in1 (pyNext (.ref it) >>= _) _ _ s
    obtain ⟨its, rv, pl, _⟩ := I.list (hs _ _)
    obtain ⟨u, hu, ru⟩ := rv.get (List.getElem?_eq_getElem hlt)
    have mu : Mut ((upd (upd H0 q (.lst (zs.take i))) it (ItO l it i)) it) := by rw [upd_same]; exact True.intro
    refine wpAny_bind (pn_item (itO_get I upd_same) pl.isList (by rw [List.getElem?_toArray]; exact hu) fun h' e1 sb => ?_)
    have I2 := I.write (x := it) (e := it) (t' := s.toks) mu (.inl rfl) (fun b o nb z => (sb.2 b nb).trans z) ⟨_, e1⟩ (itO_ok e1)
    rw [upd_upd] at I2
    have hq : (upd (upd H0 q (.lst (zs.take i))) it (ItO l it (i + 1))) q = some (.lst (zs.take i)) := by rw [upd_ne hn, upd_same]
    show wpAny _ A1.in1 (updateSeq q (·.push u) >>= _) _ _ _
    obtain ⟨z, its2, k2, r2, hl2, e2⟩ := I2.lstM hq
    have tl : (zs.take i).length ≤ 100000 := by rw [List.length_take]; omega
    have z1 : (100000 : Nat) + 1 ≤ sizeLine := by decide
    refine wpAny_bind (wpAny_updateSeq e2 rfl (wpAny_pure ⟨plainId_quiet PySem.F.plain_extend_loop _, ?_⟩) (by rw [List.size_toArray]; omega) (by show (its2.toArray.push u).size ≤ sizeLine + 1; rw [Array.size_push, List.size_toArray]; omega))
    have I3 := I2.lset (f := fun z => z.push u) (its' := its2 ++ [u]) (t' := s.toks) (ys := zs.take i ++ [zs[i]]) hq e2 (by show its2.toArray.push u = _; simp) (r2.append (.cons ru .nil)) (by rw [List.length_append, List.length_singleton]; omega)
    have eH : upd (upd (upd H0 q (.lst (zs.take i))) it (ItO l it (i + 1))) q (.lst (zs.take i ++ [zs[i]])) = upd (upd H0 q (.lst (zs.take (i + 1)))) it (ItO l it (i + 1)) := by
      rw [upd_cm (Ne.symm hn), upd_upd, List.take_succ, List.getElem?_eq_getElem hlt]; rfl
    rw [eH] at I3
    exact ih (i + 1) _ (by omega) hlt I3
end
/-- what such an __iter__ keeps: an iterator over the list in the field f -/
def spItr (K : PySem.W.Frag) (C : Addr) (f : Str) : Sp := fun vs H Q _ => ∃ (x : Addr) (G : Hp) (fs : List (Str × D)) (es : List D), vs = [.ref x] ∧ Ex G H ∧ Rp K G (.ref x) (.ins C fs) ∧ fs.lookup f = some (.lst es) ∧
  ∀ it l zs G' H', Go G H G' H' → H' it = none → SqL K G' l zs → RpA K G' zs es → Q (.ref it) (upd H' it (ItO l it 0))
def rListIt (K : PySem.W.Frag) (C : Addr) (sp : Sp) : List V → Hp → VK → Prop := fun xs H Q => ∃ (a dx : Addr) (fs : List (Str × V)), xs = [.ref a] ∧ H a = some (.ins C dx fs) ∧
  ∀ q, H q = none → sp [.ref a] (upd H q (.lst [])) (fun v H' => ∃ it l zs H0, v = .ref it ∧ H' = upd (upd H0 q (.lst [])) it (ItO l it 0) ∧ (∃ dx fs, H' a = some (.ins C dx fs)) ∧ q ≠ it ∧ zs.length ≤ 100000 ∧ (∀ o1 o2, SqL K (upd (upd H0 q o1) it o2) l zs) ∧ Q (.ref q) (upd (upd H0 q (.lst zs)) it (ItE it zs.length))) E0
section
variable {X : Cx} {k : Nat} {ps : List Str} {sp : Sp} {C : Addr}
theorem call_listIt (c : CalM X.prog X.w X.K X.mg X.base C "__iter__" k ps sp) (hr : Room (k + 2) X.A) (nl : NoAttr X.K C "__len__") (nh : NoAttr X.K C "__length_hint__") : CallR X (.type "list") (rListIt X.K C sp) := by
  obtain ⟨f, fd, F, m, fn, kp, bn, fi⟩ := c.ex
  intro pins s σ H xs us Q I rv h
  obtain ⟨a, dx, fs, rfl, ha, hq⟩ := h
  obtain ⟨u, rfl, ru⟩ := rv.one
  cases ru
  refine callType_codes (Q₁ := fun obj s₁ => obj = .ref s.heap.objs.size ∧ s₁ = { s with heap := s.heap.push { cls := .type "list", data := .seq #[] } }) PySem.F.called_list (PySem.F.typeCall_list_1 _) PySem.F.entry_list_init
    (code_list_new _ ⟨rfl, rfl⟩) fun obj s₁ h₁ => ?_
  obtain ⟨rfl, rfl⟩ := h₁
  have hS : (s.heap.push { cls := .type "list", data := .seq #[] }).get? s.heap.objs.size = some { cls := .type "list", data := .seq #[] } := Heap.get?_push_size _ rfl
  refine ⟨⟨_, hS, rfl⟩, PySem.F.args_list_init_2 _ _, ?_⟩
  have fr : H s.heap.objs.size = none := I.hok.fresh (Nat.le_refl _)
  have hsp := hq _ fr
  have I1 : Inv X pins σ (upd H s.heap.objs.size (.lst [])) { s with heap := s.heap.push { cls := .type "list", data := .seq #[] } } := I.lnew (its := []) (t' := s.toks) .nil (Nat.zero_le _)
  show wpAny _ _ (do let old ← Builtin.List.listItems (.ref s.heap.objs.size); Builtin.List.listUpdate (.ref s.heap.objs.size) (fun _ => #[]); letGo old.toList.reverse; Builtin.List.listExtendWith (.ref s.heap.objs.size) (.ref a) .none) _ _ _
  refine wpAny_bind ?_
  unfold Builtin.List.listItems
  refine wpAny_bind (wpAny_seqItems hS rfl (wpAny_pure ?_))
  show wpAny _ _ (updateSeq s.heap.objs.size (fun _ => #[]) >>= fun _ => letGo (#[] : Array Value).toList.reverse >>= fun _ => Builtin.List.listExtendWith (.ref s.heap.objs.size) (.ref a) .none) _ _ _
  refine wpAny_bind (wpAny_updateSeq hS rfl ?_)
  have I2 := I1.lset (f := fun _ => #[]) (its := []) (its' := []) (ys := []) (t' := s.toks) upd_same hS rfl .nil (Nat.zero_le _)
  rw [upd_upd] at I2
  refine wpAny_bind (wpAny_letGo ?_)
  have ha2 : upd H s.heap.objs.size (.lst []) a = some (.ins C dx fs) := by rw [upd_ne (ne_of_none ha fr)]; exact ha
  have hne : s.heap.objs.size ≠ a := Ne.symm (ne_of_none ha fr)
  have hr1 : Room k X.A.in1.in1 := hr.in1.in1
  generalize s.heap.objs.size = q at *
  obtain ⟨mA, J, _⟩ := ins_get I2.hok ha2
  obtain ⟨od, J, _⟩ := J.look
  obtain ⟨m0, hF⟩ := I2.fr
  unfold Builtin.List.listExtendWith
  refine wpAny_bind (J.type.here ?_)
  have h1 : Builtin.List.listSameRef (.ref q) (.ref a) = false := by simp [Builtin.List.listSameRef, hne]
  have h2 : (Value.ref C == Value.type "list") = false := rfl
  have h3 : (Value.ref C == Value.type "tuple") = false := rfl
  simp only [h1, h2, h3, Bool.or_false, Bool.false_eq_true, if_false]
  refine wpAny_bind (PySem.W.owit_iter hF I2.ok.mod.kin J m fn ?_)
  have hl := F.len _ _ _ _ hsp
  have r2 : Vals [V.ref a] [Value.ref a] := .cons rfl .nil
  have e1 := I2.env0
  have e0 : Env0 X.prog X.w X.K X.mg X.base X.A.in1.in1 X.stack _ (upd H q (.lst [])) := ⟨e1.frames, e1.mod, e1.bs, e1.bsz, e1.funs, e1.frf, e1.hok, e1.bare⟩
  refine wpAny_call (codeAny_mono (F.run X.A.in1.in1 X.stack _ _ ⟨[.ref a], []⟩ [.ref a] [.ref a] _ E0 hr1 e0 (by
    have := bn _ [.ref a] I2.kIn (by simpa using hl)
    simpa using this) r2 hsp) fun r s' hq' => ?_)
  cases r with
  | error e => exact pass0 pins σ _ _ e s' I2 hq'
  | ok fl =>
    cases fl with
    | next => exact False.elim hq'
    | brk => exact False.elim hq'
    | cont => exact False.elim hq'
    | ret u =>
      obtain ⟨v, H', I', rv, it, l, zs, H0, ev, eH, ⟨dx2, fs2, ha3⟩, nq, hz, hs, hQ⟩ := I2.after hq'
      subst ev eH
      cases rv
      have hT : s'.TypeIs (.ref it) "list_iterator" := ⟨_, itO_get I' upd_same, rfl⟩
      obtain ⟨mA', J', _⟩ := ins_get I'.hok ha3
      obtain ⟨od', J', _⟩ := J'.look
      unfold PySem.W.OwitIt
      refine wpAny_specialOf hT slot_listiter_next.lookup ?_
      refine wpAny_bind (wpAny_holding ?_)
      unfold Builtin.List.listLengthHint
      refine wpAny_bind (wpAny_bind (J'.type.here ((PySem.W.looks_findIn I'.kIn nl).here ?_)))
      refine PySem.W.KFB.if_not rfl ?_
      refine PySem.W.KFB.if_not rfl ?_
      refine wpAny_bind (wpAny_bind (J'.type.here ((PySem.W.looks_findIn I'.kIn nh).here ?_)))
      refine wpAny_pure ?_
      have hq2 : (upd (upd H0 q (.lst [])) it (ItO l it 0)) q = some (.lst []) := by rw [upd_ne nq, upd_same]
      have loop : ∀ s2, Inv X pins σ (upd (upd H0 q (.lst [])) it (ItO l it 0)) s2 → codeAny (model X.prog X.w) X.A.in1 (.builtin "list.extend.loop" ⟨[.ref q, .ref it, .none], []⟩) (wants (fun r s₂ => r = .none ∧ EP X pins σ Q (.ref q) s₂) X.xe) s2 := fun s2 I4 =>
        it_loop (A1 := X.A.in1) hr.hd nq hz hs (fun s3 I3 => ⟨rfl, .ref q, _, I3, rfl, hQ⟩) zs.length 0 s2 rfl (Nat.zero_le _) (by rw [List.take_zero]; exact I4)
      obtain ⟨z, its, k, r3, hl3, e3⟩ := I'.lstM hq2
      cases r3
      refine wpAny_ite_split (fun _ => ?_) (fun _ => wpAny_pure ⟨plainId_quiet PySem.F.plain_extend_loop _, loop s' I'⟩)
      refine wpAny_bind (wpAny_rule ?_)
      refine wpAny_bind ?_
      show wpAny _ _ (updateSeq q (·.push .none) >>= fun _ => updateSeq q (·.pop)) _ _ _
      refine wpAny_bind (wpAny_updateSeq e3 rfl ?_)
      have I5 := I'.lset (f := (·.push Value.none)) (its' := [Value.none]) (ys := [.non]) (t' := s'.toks) hq2 e3 (by simp) (.cons rfl .nil) (by rw [List.length_singleton, sizeLine_eq]; decide)
      obtain ⟨z4, its4, k4, r4, hl4, e4⟩ := I5.lstM upd_same
      obtain ⟨u4, rfl, ru4⟩ := r4.one
      refine wpAny_updateSeq e4 rfl ?_ (by show 1 ≤ sizeLine; rw [sizeLine_eq]; decide) (by show 0 ≤ sizeLine + 1; exact Nat.zero_le _)
      refine wpAny_pure ⟨plainId_quiet PySem.F.plain_extend_loop _, loop _ ?_⟩
      have I6 := I5.lset (f := (·.pop)) (its := [u4]) (its' := []) (ys := []) (t' := s'.toks) upd_same e4 (by rfl) .nil (Nat.zero_le _)
      have hH : upd (upd (upd (upd H0 q (.lst [])) it (ItO l it 0)) q (.lst [.non])) q (.lst []) = upd (upd H0 q (.lst [])) it (ItO l it 0) := by
        rw [upd_upd]
        funext b
        by_cases hb : b = q
        · rw [hb, upd_same, hq2]
        · rw [upd_ne hb]
      rw [hH] at I6
      exact I6
end
section
variable {K : PySem.W.Frag} {ρ : Rho} {te ti : TE} {es ds : List D} {d : D} {C : Addr} {fs : List (Str × D)} {f g : Str} {R : List D → D → Prop} {n j : Nat} {x l : Addr} {r : D} {RM : D → List D → List D → D → List D → Prop}
theorem en_lstIt (h : EvD K te ρ (.ins C fs)) (hf : fs.lookup f = some (.lst es)) (hz : es.length ≤ 100000) : EvN K (tCB (rListIt K C (spItr K C f)) (tCons te tNil)) ρ es := fun G0 H0 G H σ Q s k =>
  h G0 H0 G H σ _ s fun v G1 H1 g1 r1 => by
    have r1' := r1
    cases r1 with
    | ins e a =>
      refine ⟨_, _, _, rfl, g1.gh _ _ e, fun q hq => ⟨_, G1, fs, es, rfl, g1.gh.trans (Ex.new hq), r1', hf, fun it l zs G' H' go hit sl ra => ?_⟩⟩
      have hqs : H' q = some (.lst []) := go.hh q _ upd_same
      have gq : G1 q = none := fresh_back g1.gh hq
      have gq' : G' q = none := go.fr q (by rw [upd_same]; exact fun z => nomatch z) gq
      have nq : q ≠ it := fun z => by rw [z, hit] at hqs; cases hqs
      have git : G' it = none := fresh_back go.gh hit
      have hl1 : H1 it = none := by
        cases z : H1 it with
        | none => rfl
        | some o => have := go.hh it o (Ex.new hq it o z); rw [hit] at this; cases this
      have nae : ∀ {a : Addr} {o : HO}, G1 a = some o → H' a = some o ∧ a ≠ it := fun {a o} z => by
        have := go.hh a o (Ex.new hq a o (g1.gh a o z))
        exact ⟨this, fun y => by rw [y, hit] at this; cases this⟩
      refine ⟨it, l, zs, delx H' q, rfl, by rw [upd_delx hqs], ⟨_, _, by rw [upd_ne (nae e).2]; exact (nae e).1⟩, nq, by rw [ra.length]; exact hz, fun o1 o2 => ?_, ?_⟩
      · rcases sl with (sl | ⟨o, sl⟩) | sl
        · have lq : l ≠ q := fun z => by rw [z, gq'] at sl; cases sl
          have li : l ≠ it := fun z => by rw [z, git] at sl; cases sl
          exact .inl (.inl (by rw [upd_ne li, upd_ne lq, delx_ne lq]; exact go.gh _ _ sl))
        · have lq : l ≠ q := fun z => by rw [z, gq'] at sl; cases sl
          have li : l ≠ it := fun z => by rw [z, git] at sl; cases sl
          exact .inl (.inr ⟨o, by rw [upd_ne li, upd_ne lq, delx_ne lq]; exact go.gh _ _ sl⟩)
        · exact .inr sl
      · rw [upd_cm nq]
        refine k q zs G' (upd (delx H' q) it (ItE it zs.length)) (g1.trans ⟨go.gg, fun a o e => ?_, fun a o e => ?_, fun a ha hg => ?_⟩) (by rw [upd_ne nq]; exact delx_same) ra
        · have aq : a ≠ q := fun z => by rw [z, gq'] at e; cases e
          have ai : a ≠ it := fun z => by rw [z, git] at e; cases e
          rw [upd_ne ai, delx_ne aq]; exact go.gh a o e
        · have aq : a ≠ q := fun z => by rw [z, hq] at e; cases e
          have ai : a ≠ it := fun z => by rw [z, hl1] at e; cases e
          rw [upd_ne ai, delx_ne aq]; exact go.hh a o (Ex.new hq a o e)
        · refine go.fr a ?_ hg
          cases z : H1 a with
          | none => exact absurd z ha
          | some o => rw [Ex.new hq a o z]; exact fun z => nomatch z
theorem rd_ixOwn {E : XK} {fs : List (Str × D)} {i : D} (hr : R [.ins C fs, i] d) : RvD K (rOwnIx C (spD K 2 R) E) (.ins C fs) i d := fun G H x y Q e rx ry k => by
  have rx' := rx
  cases rx with
  | ins q a => exact ⟨_, _, _, rfl, e _ _ q, G, _, d, rfl, e, .cons rx' (.cons ry .nil), hr, fun w G' H' g r => k w G' H' g r⟩
/-- a changing method at a box, its arguments at hand -/
theorem app_M {E : XK} {Q : VK} {G0 H0 G H : Hp} {σ : L2.St} {us : List V} (s : Sl K G0 H0 G H σ ρ) (hb : ρ[j]? = some (some (.box x l C f r g es))) (hn : ds.length + 1 = n) (ra : RpA K G us ds) {es' : List D} (hr : RM r es ds d es')
    (k : ∀ v G' H', Ex G G' → Sl K G0 H0 G' H' σ (ρ.set j (some (.box x l C f r g es'))) → Rp K G' v d → Q v H') : spM K C n f g RM (.ref x :: us) H Q E := by
  obtain ⟨c1, ⟨x0, gx⟩, ⟨l0, gl⟩, ne, dx', u', ws', c2, c3, c4, c5⟩ := s.boxAt hb
  refine ⟨x, l, dx', u', ws', us, G, ds, r, es, d, es', rfl, by rw [ra.length]; exact hn, ne, c2, c4, gx, gl, s.gh, c3, c5, ra, hr, fun v G' H' dy u2 ws2 go z1 z2 e1 e2 e3 e4 rv => ?_⟩
  have s2 := s.forget hb
  have s3 : Sl K G0 H0 G' (del2 H' x l) σ (ρ.set j none) := s2.step ⟨go.gg, fun a o e => by
      rw [del2_ne (fun z => by rw [z, z1] at e; cases e) (fun z => by rw [z, z2] at e; cases e)]
      exact go.gh a o e, fun a o e => by
      have q := del2_some e
      rw [del2_ne q.1 q.2.1]
      exact go.hh a o e, go.fr⟩
  have s4 := s3.put (i := j) (v := .ref x) (x := .box x l C f r g es') (H1 := H') (fun a o e => (del2_some e).2.2) (fun a ha => by
    rcases List.mem_cons.mp (show a ∈ [x, l] from ha) with z | z
    · rw [z]; exact del2_x
    · rw [List.mem_singleton.mp z]; exact del2_l) ⟨rfl, ne, dy, u2, ws2, e1, e2, e3, e4⟩
  rw [List.set_set, set_same c1] at s4
  exact k v G' H' go.gg s4 rv
/-- x[i] = v, x a box whose __setitem__ changes it -/
theorem sd_setB {E : XK} {i : D} {es' : List D} {y : D} (h : EvD K te ρ d) (hi : EvD K ti ρ i) (hb : ρ[j]? = some (some (.box x l C f r g es))) (hr : RM r es [i, d] y es') :
    StD K (tAsg te (gSub (tVar j) ti (rOwnSet C (spM K C 3 f g RM) E))) ρ (.nx (ρ.set j (some (.box x l C f r g es')))) := fun G0 H0 G H σ W s k => by
  refine h G0 H0 G H σ _ s fun v G1 H1 g1 r1 => ?_
  have s1 := s.step g1
  obtain ⟨c1, _⟩ := s1.boxAt hb
  refine ⟨.ref x, c1, ?_⟩
  refine hi G0 H0 G1 H1 σ _ s1 fun w G2 H2 g2 r2 => ?_
  have s2 := s1.step g2
  obtain ⟨c2, _, _, _, dx, u, vs, c3, _⟩ := s2.boxAt hb
  refine ⟨x, dx, _, rfl, c3, ?_⟩
  exact app_M s2 hb rfl (.cons r2 (.cons (r1.mono g2.gg) .nil)) hr fun v' G' H' e s' rv => k G' H' σ ((g1.gg.trans g2.gg).trans e) s'
end
end Ax

namespace Ax
open PySem PySem.Spec PyProof.Rows L2 Evl
/-! ### an __iter__ that hands back an iterator over a list field -/
section
variable {P : Program} {w : World} {K : PySem.W.Frag} {mg : Str → Option Value} {base : Heap} {x q : Str} {k : Nat} {ps N : List Str} {st : Stmt} {C fa : Addr} {f : Str}
theorem fn_Itr {fd : FuncData} (F : Fun K x q st fa fd) (Sc : FnScope N ps (defScope st)) (hn : ps.length = 1) (cl : Cls K C) (na : NoAttr K C f)
    (hbody : ∀ (cdv : Value) (A : Around) (outer : List Env) (s : Shared) (H : Hp) (E : XK), Room k (A.deeper (envOfC q (defScope st) s.heap.objs.size fa cdv)) →
      PSs (cxOf CX0 P w K mg base N q (defScope st) fa cdv A outer s H E).nox (defBody st) (tRet (tCB (rIter K) (tCons (tFld K (tVar 0) f) tNil)))) : FnOk P w K mg base CX0 (k + 1) fa fd ps (spItr K C f) := by
  refine F.ok Sc (fun vs H Q E h => ?_) (fun cdv A outer s H vs Q E hr h => ?_)
  · obtain ⟨_, _, _, _, h, _⟩ := h
    rw [h, hn]; rfl
  · obtain ⟨y, G, fs, es, rfl, e, r, hf, q⟩ := h
    refine ⟨_, hbody cdv A outer s H E hr, ?_⟩
    have s0 := sl_start (N := N) e (.cons r .nil)
    have key : EvD K (tFld K (tVar 0) f) (rho0 N [.ins C fs]) (.lst es) := ev_fld (ev_v rfl) cl na hf
    refine key G H G H _ _ s0 fun v G' H' g1 r1 => ?_
    cases r1 with
    | lst a b => exact ⟨_, _, rfl, ex_l g1.gh a, fun it hit => q it _ _ G' H' g1 hit a b⟩
theorem HasM.calItr (h : HasM K C x q st ps fa) (Sc : FnScope N ps (defScope st)) (hn : ps.length = 1) (cl : Cls K C) (na : NoAttr K C f)
    (hbody : ∀ (cdv : Value) (A : Around) (outer : List Env) (s : Shared) (H : Hp) (E : XK), Room k (A.deeper (envOfC q (defScope st) s.heap.objs.size fa cdv)) →
      PSs (cxOf CX0 P w K mg base N q (defScope st) fa cdv A outer s H E).nox (defBody st) (tRet (tCB (rIter K) (tCons (tFld K (tVar 0) f) tNil)))) : CalM P w K mg base C x (k + 1) ps (spItr K C f) := by
  obtain ⟨fd, F, b⟩ := h.ex
  exact ⟨fa, fd, fn_Itr F Sc hn cl na hbody, h.at_, h.fn, F.kp, b, fn_in F⟩
end
/-! ### data without lists -/
mutual
def D.nl : D → Bool
  | .non => true
  | .bl _ => true
  | .int _ => true
  | .str _ => true
  | .tup ds => D.nls ds
  | .lst _ => false
  | .ptup ds => D.nls ds
  | .ins _ fs => D.nlf fs
  | .cls _ => true
def D.nls : List D → Bool
  | [] => true
  | d :: ds => D.nl d && D.nls ds
def D.nlf : List (Str × D) → Bool
  | [] => true
  | (_, d) :: ds => D.nl d && D.nlf ds
end
theorem nls_all : ∀ (ds : List D), (∀ d ∈ ds, D.nl d = true) → D.nls ds = true
  | [], _ => by unfold D.nls; rfl
  | d :: ds, h => by
    unfold D.nls
    rw [h d List.mem_cons_self, nls_all ds fun e he => h e (List.mem_cons_of_mem _ he)]; rfl
section
variable {K : PySem.W.Frag} {G G' : Hp} {l : Addr} {ws : List V}
theorem unq_t {a : Addr} {xs : List V} (hl : G l = some (.lst ws)) (e : ∀ a, a ≠ l → G' a = G a) (h : SqT K G a xs) : SqT K G' a xs := by
  rcases h with (h | ⟨o, h⟩) | h
  · exact .inl (.inl (by rw [e a fun z => by rw [z, hl] at h; cases h]; exact h))
  · exact .inl (.inr ⟨o, by rw [e a fun z => by rw [z, hl] at h; cases h]; exact h⟩)
  · exact .inr h
mutual
theorem Rp.unlist (hl : G l = some (.lst ws)) (e : ∀ a, a ≠ l → G' a = G a) : ∀ {v : V} {d : D}, Rp K G v d → d.nl = true → Rp K G' v d
  | _, _, .non, _ => .non
  | _, _, .bl b, _ => .bl b
  | _, _, .int b, _ => .int b
  | _, _, .str b, _ => .str b
  | _, _, .tup h a, p => .tup (unq_t hl e h) (RpA.unlist hl e a (by unfold D.nl at p; exact p))
  | _, _, .lst h a, p => by unfold D.nl at p; cases p
  | _, _, .ptup h q a, p => .ptup (by rw [e _ fun z => by rw [z, hl] at h; cases h]; exact h) q (RpA.unlist hl e a (by unfold D.nl at p; exact p))
  | _, _, .ins h a, p => .ins (by rw [e _ fun z => by rw [z, hl] at h; cases h]; exact h) (RpF.unlist hl e a (by unfold D.nl at p; exact p))
  | _, _, .cls v, _ => .cls v
theorem RpA.unlist (hl : G l = some (.lst ws)) (e : ∀ a, a ≠ l → G' a = G a) : ∀ {v : List V} {d : List D}, RpA K G v d → D.nls d = true → RpA K G' v d
  | _, _, .nil, _ => .nil
  | _, _, .cons h a, p => by
    unfold D.nls at p
    rw [Bool.and_eq_true] at p
    exact .cons (Rp.unlist hl e h p.1) (RpA.unlist hl e a p.2)
theorem RpF.unlist (hl : G l = some (.lst ws)) (e : ∀ a, a ≠ l → G' a = G a) : ∀ {v : List (Str × V)} {d : List (Str × D)}, RpF K G v d → D.nlf d = true → RpF K G' v d
  | _, _, .nil, _ => .nil
  | _, _, .cons h a, p => by
    unfold D.nlf at p
    rw [Bool.and_eq_true] at p
    exact .cons (Rp.unlist hl e h p.1) (RpF.unlist hl e a p.2)
end
end
section
variable {K : PySem.W.Frag} {G0 H0 G H : Hp} {σ : L2.St} {ρ : Rho} {i j n : Nat} {as ds es : List D} {C : Addr} {f g : Str} {r : D} {ta : TA} {u : TS} {o : Out} {R : List D → D → List D → Prop}
/-- an own list is lent -/
theorem Sl.lendO (s : Sl K G0 H0 G H σ ρ) (hi : ρ[i]? = some (some (.own as))) : ∃ l vs, G l = none ∧ H l = some (.lst vs) ∧ Sl K G0 H0 (upd G l (.lst vs)) H σ (ρ.set i (some (.dat (.lst as)))) := by
  obtain ⟨l, vs, h1, h2, h3, h4, h5⟩ := s.own i as hi
  have eg : Ex G (upd G l (.lst vs)) := Ex.new h3
  refine ⟨l, vs, h3, h4, ⟨⟨s.go.gg.trans eg, fun a u e => ?_, s.go.hh, fun a ha hg => ?_⟩, by rw [List.length_set, s.len], fun j e q => ?_, fun j z q m => ?_, fun j k z w v' w' hjk q1 m1 q2 m2 g1 g2 => ?_⟩⟩
  · by_cases al : a = l
    · subst al; rw [upd_same] at e; rw [← e]; exact h4
    · rw [upd_ne al] at e; exact s.gh a u e
  · rw [upd_ne (b := a) (a := l) (fun z => ha (by rw [z]; exact h2))]; exact s.go.fr a ha hg
  · rcases set_get q with ⟨rfl, _, z⟩ | ⟨hj, q⟩
    · cases z
      exact ⟨.ref l, h1, .lst (.inl (.inl upd_same)) (h5.mono eg)⟩
    · obtain ⟨v, g1, g2⟩ := s.dat j e q
      exact ⟨v, g1, g2.mono eg⟩
  · rcases set_get q with ⟨rfl, _, z⟩ | ⟨hj, q⟩
    · cases z; cases m
    · obtain ⟨u, g1, g2, g4⟩ := s.mine j z q m
      exact ⟨u, g1, fun a ha => ⟨(g2 a ha).1, by
        rw [upd_ne (fun e => s.sep i j _ z _ u hj hi rfl q m h1 g1 l (List.mem_singleton.mpr rfl) (by rw [← e]; exact ha))]
        exact (g2 a ha).2⟩, g4.mono eg fun a _ o q => q⟩
  · have back : ∀ (j : Nat) (z : S), (ρ.set i (some (.dat (.lst as))))[j]? = some (some z) → z.mine = true → ρ[j]? = some (some z) := fun j z q m => by
      rcases set_get q with ⟨rfl, _, e⟩ | ⟨hj, q⟩
      · cases e; cases m
      · exact q
    exact s.sep j k z w v' w' hjk (back j z q1 m1) m1 (back k w q2 m2) m2 g1 g2
/-- C(..) that makes a box, an own list among the arguments -/
theorem sd_newBL {E : XK} (hj : ρ[j]? = some (some (.own as))) (h : EvS K ta (ρ.set j (some (.dat (.lst as)))) ds) (hn : ds.length = n) (hr : R ds r es) (nr : r.nl = true) (ne' : D.nls es = true)
    (k : ∀ x l, StD K u (ρ.set i (some (.box x l C f r g es))) o) : StD K (tSeq (tAsg (tMake C (spIB K C n f g R) [] E ta) (gName i)) u) ρ o := fun G0 H0 G H σ W s q => by
  obtain ⟨lp, wp, glp, hlp, s1⟩ := s.lendO hj
  refine h G0 H0 _ H σ _ s1 fun vs G1 H1 g1 r1 => ?_
  intro x dx hx hdx ne
  have gx : G1 x = none := fresh_back g1.gh hx
  have hx2 : (upd H1 dx (.own x)) x = none := by rw [upd_ne (Ne.symm ne)]; exact hx
  have e2 : Ex H1 (upd (upd H1 dx (.own x)) x (.ins C dx [])) := (Ex.new hdx).trans (Ex.new hx2)
  refine ⟨x, dx, vs ++ [], G1, ds, r, es, rfl, by rw [List.append_nil, r1.length]; exact hn, upd_same, gx, g1.gh.trans e2, by rw [List.append_nil]; exact r1, hr, fun G' H' dy l u' ws go z1 zl zf ne2 b1 b2 b3 b4 => ?_⟩
  have keep : ∀ a o, H1 a = some o → H' a = some o := fun a o e => go.hh a o (by
    rw [delx_ne (ne_of_none e hx)]
    exact e2 a o e)
  have hl : H1 l = none := by
    cases q : H1 l with
    | none => rfl
    | some o => rw [delx_ne (Ne.symm ne2), e2 l o q] at zf; cases zf
  have glp' : G' lp = some (.lst wp) := go.gg _ _ (g1.gg _ _ upd_same)
  have oth : ∀ a, a ≠ lp → delx G' lp a = G' a := fun a h => delx_ne h
  have s2 : Sl K G0 H0 (delx G' lp) (del2 H' x l) σ ρ := s.step ⟨fun a o e => by
      have al : a ≠ lp := fun z => by rw [z, glp] at e; cases e
      rw [delx_ne al]
      exact go.gg a o (g1.gg a o (Ex.new glp a o e)), fun a o e => by
      have al : a ≠ lp := fun z => by rw [z, delx_same] at e; cases e
      rw [delx_ne al] at e
      rw [del2_ne (fun z => by rw [z, z1] at e; cases e) (fun z => by rw [z, zl] at e; cases e)]
      exact go.gh a o e, fun a o e => by
      have e := g1.hh a o e
      rw [del2_ne (fun z => by rw [z, hx] at e; cases e) (fun z => by rw [z, hl] at e; cases e)]
      exact keep a o e, fun a ha hg => by
      by_cases al : a = lp
      · rw [al]; exact delx_same
      · rw [delx_ne al]
        by_cases ax : a = x
        · rw [ax]; exact z1
        · have h1 : G1 a = none := g1.fr a ha (by rw [upd_ne al]; exact hg)
          refine go.fr a ?_ h1
          rw [delx_ne ax]
          cases q : H a with
          | none => exact absurd q ha
          | some o => rw [e2 a o (g1.hh a o q)]; exact fun z => nomatch z⟩
  have s3 := s2.put (i := i) (v := .ref x) (x := .box x l C f r g es) (H1 := H') (fun a o e => (del2_some e).2.2) (fun a ha => by
    rcases List.mem_cons.mp (show a ∈ [x, l] from ha) with z | z
    · rw [z]; exact del2_x
    · rw [List.mem_singleton.mp z]; exact del2_l) ⟨rfl, ne2, dy, u', ws, b1, b2.unlist glp' oth nr, b3, b4.unlist glp' oth ne'⟩
  refine ⟨rfl, k x l G0 H0 (delx G' lp) H' _ W s3 (q.mono fun a o e => ?_)⟩
  have al : a ≠ lp := fun z => by rw [z, glp] at e; cases e
  rw [delx_ne al]
  exact go.gg a o (g1.gg a o (Ex.new glp a o e))
end
end Ax

namespace Ax
open PySem PySem.Spec PyProof.Rows L2 Evl

/-! ### zip over two tuples -/
section
variable {K : PySem.W.Frag} {a b : Addr} {xs ys : List V} {ρ : Rho} {ta : TA} {ds es : List D}
theorem walk_zipT {n : Nat} (hn : n = min xs.length ys.length) : Walk (RZ.ItzT K a b) n (fun H => SqT K H a xs ∧ SqT K H b ys) (YPair (fun i => xs[i]?) (fun i => ys[i]?)) where
  goes := fun i _ hi q => by
    have m1 : i < xs.length := by omega
    have m2 : i < ys.length := by omega
    exact ⟨xs, ys, xs[i], ys[i], q.1, q.2, List.getElem?_eq_getElem m1, List.getElem?_eq_getElem m2⟩
  stops := fun _ q => ⟨xs, ys, q.1, q.2, by omega⟩
  yields := fun i H v H' _ q y => by
    obtain ⟨T, x, z, y1, y2, y3, y4, y5⟩ := y
    exact ⟨T, x, z, y1, y2, y3, y4 xs q.1, y5 ys q.2⟩
def zipD (ds es : List D) : List D := (ds.zip es).map fun p => .tup [p.1, p.2]
theorem zipD_len : (zipD ds es).length = min ds.length es.length := by unfold zipD; rw [List.length_map, List.length_zip]
theorem zipD_get {i : Nat} {d : D} (h : (zipD ds es)[i]? = some d) : ∃ x y, ds[i]? = some x ∧ es[i]? = some y ∧ d = .tup [x, y] := by
  unfold zipD at h
  rw [List.getElem?_map] at h
  cases q : (ds.zip es)[i]? with
  | none => rw [q] at h; cases h
  | some p =>
    rw [q] at h
    obtain ⟨h1, h2⟩ := List.getElem?_zip_eq_some.mp q
    refine ⟨p.1, p.2, h1, h2, ?_⟩
    cases h; rfl
theorem itOk_pair2 {G1 : Hp} {J : It} {n : Nat} {Gd : Hp → Prop} (w : Walk J n Gd (YPair (fun i => xs[i]?) (fun i => ys[i]?))) (hn : n = min xs.length ys.length) (r : RpA K G1 xs ds) (r' : RpA K G1 ys es) (hg : ∀ H', Ex G1 H' → Gd H') : ItOk K G1 J (zipD ds es) := by
  refine ⟨Gd, YPair (fun i => xs[i]?) (fun i => ys[i]?), ?_, hg, ?_⟩
  · rw [zipD_len, ← r.length, ← r'.length, ← hn]; exact w
  · rintro i d G' H' x H'' hd e1 e2 ⟨T, y, z, rfl, hT, rfl, hy, hz⟩
    obtain ⟨p, q, hp, hq, rfl⟩ := zipD_get hd
    obtain ⟨d1, m1, r1⟩ := r.getV hy
    obtain ⟨d2, m2, r2⟩ := r'.getV hz
    rw [hp] at m1; cases m1
    rw [hq] at m2; cases m2
    have n := Go.new (o := .tup [y, z]) e2 hT
    exact ⟨_, n, .tup (.inl (.inl upd_same)) (.cons (r1.mono (e1.trans n.gg)) (.cons (r2.mono (e1.trans n.gg)) .nil))⟩
theorem it_zipT (h : EvS K ta ρ [.tup ds, .tup es]) : ItD K (RZ.iZipA K ta) ρ (zipD ds es) := fun G0 H0 G H σ R s k => h G0 H0 G H σ _ s fun vs G1 H1 g1 r1 => by
  cases r1 with
  | cons r2 r3 =>
    cases r3 with
    | cons r4 r5 =>
      cases r5
      cases r2 with
      | tup hx ra =>
        cases r4 with
        | tup hy rb => exact ⟨_, _, _, _, rfl, .inr ⟨ex_t g1.gh hx, ex_t g1.gh hy, k _ G1 H1 g1 (itOk_pair2 (walk_zipT rfl) rfl ra rb fun H' e => ⟨ex_t e hx, ex_t e hy⟩)⟩⟩
end
/-! ### enumerate(list, start=k) -/
section
variable {M : Model} {A : Around} {E : Value → Shared → Prop} {s : Shared} {env : Env}
theorem callWith_typeK {pos : Pos} {T : String} {e : Expr} {rest : List Expr} {kws : List Keyword} {Q : Value → Shared → Prop} {x : Sem Value} {l : List (Bool × Sem Value)}
    (hcall : wpAny M A (spliced (backTo pos (starEach (e :: rest) env))) (fun vs s1 => wpAny M A (evalAll ((backToKw pos (keywordEach kws env)).map (·.2)))
      (fun kvs s2 => wpAny M A (call (.type T) vs (((backToKw pos (keywordEach kws env)).filterMap (·.1)).zip kvs)) Q E s2) E s1) E s)
    (he : backTo pos (starEach (e :: rest) env) = (false, x) :: l)
    (hp : (backTo pos (starEach (e :: rest) env)).any (·.1) = false)
    (ha : (backToKw pos (keywordEach kws env)).all (·.1.isSome) = true := by rfl)
    (hk : (backToKw pos (keywordEach kws env)).any (·.1.isNone) = false := by rfl) :
    wpAny M A (callWith pos (.type T) [] (backTo pos (starEach (e :: rest) env)) (backToKw pos (keywordEach kws env))) Q E s := by
  have key : wpAny M A (evalArgs (.type T) true (backTo pos (starEach (e :: rest) env)) (backToKw pos (keywordEach kws env))) (fun a s1 => wpAny M A (call (.type T) ([] ++ a.pos) a.kw) Q E s1) E s := by
    rw [he] at hcall ⊢
    exact evalArgs_kwB ha hcall
  unfold callWith
  refine wpAny_bind (wpAny_holding (wpAny_mono key (fun a s1 z => wpAny_bind (wpAny_standAt ?_)) fun _ _ x => x))
  simp only [hp, hk, Bool.or_false]
  refine wpAny_bind (wpAny_pure ?_)
  exact wpAny_bind (wpAny_mono z (fun r s2 zr => wpAny_bind (wpAny_holding (wpAny_point (wpAny_pure zr)))) fun _ _ x => x)
end
/-- the list at a, each item in a new pair, counted from k0 -/
def Iteq (K : PySem.W.Frag) (a : Addr) (k0 : Int) : It where
  go := fun i H => ∃ (xs : List V) (x : V), SqL K H a xs ∧ xs[i]? = some x
  yld := fun i H v H' => ∃ T x, v = .ref T ∧ H T = none ∧ H' = upd H T (.tup [.int (k0 + (i : Nat)), x]) ∧ ∀ xs, SqL K H a xs → xs[i]? = some x
  stop := fun i H => ∃ xs : List V, SqL K H a xs ∧ xs.length ≤ i
theorem walk_enumq {K : PySem.W.Frag} {a : Addr} {k0 : Int} {xs : List V} : Walk (Iteq K a k0) xs.length (fun H => SqL K H a xs) (YPair (fun i => some (.int (k0 + (i : Nat)))) (fun i => xs[i]?)) where
  goes := fun i _ hi q => ⟨xs, xs[i], q, List.getElem?_eq_getElem hi⟩
  stops := fun _ q => ⟨xs, q, Nat.le_refl _⟩
  yields := fun i H v H' _ q y => by
    obtain ⟨T, x, y1, y2, y3, y4⟩ := y
    exact ⟨T, _, x, y1, y2, y3, rfl, y4 xs q⟩
theorem turn_enumq {P : PySem.Program} {w : World} {K : PySem.W.Frag} {elts : List Expr} {kk : Nat} {tpos : Pos} (k0 : Int) (a e it : Addr) :
    L2.Turn P w K (.Tuple elts kk tpos) (Iteq K a k0) [e, it] e (fun i h => (∃ old, IsEnum h e it (k0 + ((i : Nat) : Int)) old) ∧ h.IsListIter it a i ∧ e ≠ it ∧ a ≠ it ∧ e ≠ a) where
  mem := by simp
  obj := fun i h st b hb => by
    obtain ⟨⟨old, he⟩, ⟨o, ho, hc, hd⟩, _⟩ := st
    rcases (by simpa using hb : b = e ∨ b = it) with z | z
    · rw [z]; exact ⟨_, he, fun v q => nomatch q⟩
    · rw [z]; exact ⟨o, ho, fun v q => by rw [hd] at q; cases q⟩
  keep := fun i h h' st k => let ⟨⟨old, he⟩, hi, ne⟩ := st; ⟨⟨old, k e (by simp) _ he⟩, hi.at fun o q => k it (by simp) o q, ne⟩
  item := by
    intro X hP hw hK hc i pins s σ H E I hf st hg
    subst hP hw hK
    obtain ⟨⟨old, he⟩, hit, ne, ne2, ne3⟩ := st
    obtain ⟨xs, x, hq, hx⟩ := hg
    obtain ⟨its, rv, p, hz⟩ := I.list hq
    obtain ⟨u, hu, ru⟩ := rv.get hx
    have hel : e < s.heap.objs.size := Heap.lt_size he
    have hil : it < s.heap.objs.size := by obtain ⟨_, q, _⟩ := hit; exact Heap.lt_size q
    have hi : i < its.toArray.size := by rw [List.size_toArray, ← rv.length]; exact (List.getElem?_eq_some_iff.mp hx).1
    refine wpAny_pyNext_enum_itemC (Draws.list (A := X.A.in1) (by rw [show X.A.in1.handled = X.A.handled from rfl]; exact I.ok.hd hc) it a ne2 its.toArray) he ⟨hit, p.isList⟩ hi ne (by simp [ne, ne3]) fun u' h' tk hu' ho st' hT hsz hk => ?_
    have eu : u' = u := by
      rw [List.getElem?_toArray, hu] at hu'
      exact (Option.some.inj hu').symm
    subst eu
    refine ⟨_, rfl, wpAny_letOwnedTupleGo_enum (s := { s with heap := h', toks := tk + 1 }) ho fun h'' he' sb => ?_⟩
    have hT2 : h''.get? s.heap.objs.size = some { cls := .type "tuple", data := .seq #[.int (k0 + (i : Nat)) tk, u'] } := (sb.2 _ (Nat.ne_of_gt hel)).trans hT
    have new : ObjOk X.prog X.w (upd H s.heap.objs.size (.tup [.int (k0 + (i : Nat)), x])) h'' s.heap.objs.size (.tup [.int (k0 + (i : Nat)), x]) := ⟨by show 2 ≤ sizeLine; decide, [.int (k0 + (i : Nat)) tk, u'], .cons ⟨_, rfl⟩ (.cons ru .nil), ⟨_, hT2, rfl, _, rfl⟩⟩
    have I1 : Inv X pins σ (upd H s.heap.objs.size (.tup [.int (k0 + (i : Nat)), x])) { s with heap := h'', toks := tk + 1 } := I.turnedNew (ch := [e, it]) (fun b ob hb q => (sb.2 b (fun z => hb (by simp [z]))).trans (hk b ob (fun z => hb (by simp [z])) (fun z => hb (by simp [z])) q)) hf (Nat.le_refl _) new
    refine ⟨.ref s.heap.objs.size, _, I1, rfl, ⟨_, x, rfl, I.hok.fresh (Nat.le_refl _), rfl, fun zs zq => by rw [I.list_inj zq hq]; exact hx⟩, ⟨⟨u', ?_⟩, st'.1.at fun o q => (sb.2 it (Ne.symm ne)).trans q, ne, ne2, ne3⟩, fun b hb => ?_⟩
    · have e1 : k0 + ((i + 1 : Nat) : Int) = k0 + (i : Int) + 1 := by omega
      rw [e1]; exact he'
    · have lb : b < s.heap.objs.size := by
        rcases (by simpa using hb : b = e ∨ b = it) with z | z
        · rw [z]; exact hel
        · rw [z]; exact hil
      rw [upd_ne (Nat.ne_of_lt lb)]; exact (hf b hb).1
  done := by
    intro X hP hw hK hc i pins s σ H E I hf st hg
    subst hP hw hK
    obtain ⟨⟨old, he⟩, hit, ne, ne2, ne3⟩ := st
    obtain ⟨xs, hq, hx⟩ := hg
    obtain ⟨its, rv, p, hz⟩ := I.list hq
    obtain ⟨f0, f1, f2, f3, f4, f5⟩ := hf it (by simp)
    have hl := rv.length
    have hd' : X.A.in1.in1.handled = none := I.ok.hd hc
    have D : Draws X.prog X.w X.A.in1 it [it, a] i (fun _ _ => False) (fun j h => j = i ∧ h.IsListIter it a i ∧ h.IsList a its.toArray) := {
      live := fun _ _ st => let ⟨o, ho, _⟩ := st.2.1; ⟨o, ho⟩
      frame := fun _ _ _ st hk => ⟨st.1, st.2.1.at fun o e => hk it (by simp) o e, st.2.2.at fun o e => hk a (by simp) o e⟩
      item := fun j s Z E hi st hZ => by
        have := st.1
        omega
      done := fun s Z E st hE => wpAny_nextOf_list_end hd' st.2.1 st.2.2 (by rw [List.getElem?_toArray]; exact List.getElem?_eq_none (by omega)) hE }
    exact wpAny_pyNext_enum_endD D he ⟨rfl, hit, p.isList⟩ fun h' eb => ⟨rfl, I.turned (t' := s.toks) (fun b o hb q => eb b o hb q) f0 f1 f3 f4 f5⟩
  self := fun A i s Q E st h => let ⟨⟨_, he⟩, _⟩ := st; wpAny_pyIter_enum he h
def iEnumq (K : PySem.W.Frag) (k0 : Int) (ta : TA) : TI := fun σ H R => ta σ H fun vs H1 => ∃ a xs, vs = [.ref a] ∧ SqL K H1 a xs ∧ R (Iteq K a k0) H1
theorem pi_enumq {X : Cx} {e : Expr} {ta : TA} {cj : Nat} {p pos tpos kp cp : Pos} {elts : List Expr} {kk : Nat} {n : Int} (hg : Gl X "enumerate") (hm : X.mg "enumerate" = none) (h0 : 0 ≤ n) (h1 : n < 1000) (ha : PA X [e] ta)
    (hs : starEach [e] X.env = (false, eval e X.env) :: starEach [] X.env := by rfl) : PI X (.Tuple elts kk tpos) (.Call (.Name "enumerate" p) [e] [⟨some "start", .Constant (.int n) cj cp, kp⟩] pos) (iEnumq X.K n ta) := by
  refine ⟨fun pins s σ H R I h => wpAny_Call_Name_kw (ld_blt I hg hm boot_enumerate (callWith_typeK (thn (ha.run pos pins s σ H _ I h) fun us s1 q0 => ?_) (by rw [hs]; rfl) (by rw [hs]; rfl)))⟩
  obtain ⟨vs, H1, I1, r1, a, xs, ex, hq, q⟩ := q0
  subst ex
  refine kws_cons (thn ((pe_int (X := X) (i := n) (j := cj) (pos := cp)).run pins s1 σ H1 (fun y H2 => y = .int n ∧ H2 = H1) I1 ⟨rfl, rfl⟩) fun kv s2 q2 => kws_nil ?_)
  obtain ⟨y, H2, I2, r2, rfl, rfl⟩ := q2
  obtain ⟨tk, rfl⟩ := r2
  cases r1 with
  | cons r rr =>
    cases rr
    cases r
    obtain ⟨its, rv, p', hz⟩ := I2.list hq
    refine enum_begins_start (begins_list a its.toArray) p'.isList (by omega) (by omega) fun h' he hit hsz hk => wpAny_pyIter_enum he ?_
    have I3 : Inv X pins σ H2 { s2 with heap := h' } := I2.kept (t' := s2.toks) hk
    have hal : a < s2.heap.objs.size := by obtain ⟨_, z, _⟩ := p'.isList; exact Heap.lt_size z
    refine ⟨s2.heap.objs.size + 1, [s2.heap.objs.size + 1, s2.heap.objs.size], _, _, H2, rfl, I3, turn_enumq n a (s2.heap.objs.size + 1) s2.heap.objs.size, ⟨⟨.none, by simpa using he⟩, ⟨_, hit, rfl, rfl⟩, Nat.succ_ne_self _, Nat.ne_of_lt hal, Nat.ne_of_gt (Nat.lt_succ_of_lt hal)⟩, fun b hb => ?_, q⟩
    have hle : s2.heap.objs.size ≤ b := by
      rcases (by simpa using hb : b = s2.heap.objs.size + 1 ∨ b = s2.heap.objs.size) with z | z
      · rw [z]; exact Nat.le_add_right _ _
      · rw [z]; exact Nat.le_refl _
    exact I2.fpOk hle (I2.hok.fresh hle)
end Ax

namespace Ax
open PySem PySem.Spec PyProof.Rows L2 Evl
/-! ### {n:>2} -/
theorem ret_tt {M : Model} {A : Around} {E : Value → Shared → Prop} {s : Shared} {X T : PySem.Str} {Q : PySem.Fin → Shared → Prop} (e : X = T) (hL : T.length ≤ sizeLine) (h : ∀ t k, Q (.done (.ret (.str T t))) { s with toks := k }) : wpAny M A (retStr X) Q E s :=
  PySem.W.KXf.ret_text e (by rw [e]; exact hL) h
def padN (a : Int) : Str := intSpecTextOf ">2" a
open PySem.W in
theorem meetsPad {a : Int} {t : Tok} (hz : a.natAbs.log2 < 1920) (hl : (padN a).length ≤ sizeLine) : ∀ u, Meets (Builtin.«int.__format__» ⟨[.int a t, .str ">2" u], []⟩) (fun _ R s => ∀ t' k, R (.ok (.ret (.str (padN a) t'))) { s with toks := k }) := by
  intro _
  apply KPc.meets_of
  intro _ _ _ _ _ _ _
  unfold Builtin.«int.__format__»
  refine wpAny_bind (wpAny_of_eq (a := (_, _)) rfl ?_)
  refine wpAny_bind (wpAny_of_eq (a := _) rfl ?_)
  kxf_if
  refine wpAny_bind (wpAny_typeNameOf (T := "str") (typeIs_str _ _ _) (by decide) fun _ => ?_)
  refine wpAny_bind (wpAny_of_eq (a := some _) rfl ?_)
  kxf_if
  kxf_if
  refine wpAny_bind (wpAny_typeNameOfCut_int ?_)
  (repeat kxf_if)
  refine wpAny_bind (wpAny_of_eq (PyProof.Rows.overDigitLimit_small hz) ?_)
  (repeat kxf_if)
  refine ret_tt (T := intSpecTextOf ">2" a) ?_ hl ?_
  · kernel_rfl
  · assumption
theorem pad_ok {a : Int} (h0 : 0 ≤ a) (h1 : a < 100) : padN a = Txt.rjust (toString a) 2 := by
  obtain ⟨n, rfl⟩ := Int.eq_ofNat_of_zero_le h0
  have hn : n < 100 := by omega
  clear h0 h1
  unfold padN
  revert hn n
  decide +kernel
theorem pad_len {a : Int} (h0 : 0 ≤ a) (h1 : a < 100) : (padN a).length = 2 := by
  obtain ⟨n, rfl⟩ := Int.eq_ofNat_of_zero_le h0
  have hn : n < 100 := by omega
  clear h0 h1
  unfold padN
  revert hn n
  decide +kernel
def tPad (te : TE) : TE := fun σ H Q => te σ H fun x H1 => ∃ i : Int, x = .int i ∧ 0 ≤ i ∧ i < 100 ∧ Q (.str (padN i)) H1
theorem pe_pad {X : Cx} {e : Expr} {te : TE} {k : Nat} {pos p q : Pos} (he : PE X e te) : PE X (.FormattedValue e (-1) (some (.JoinedStr [.Constant (.str ">2") k p] q)) pos) (tPad te) := by
  refine ⟨fun pins s σ H Q I h => wpAny_FormattedValue_spec (thn (he.run pins s σ H _ I h) fun v s1 hv => ?_)⟩
  obtain ⟨x, H1, I1, r1, i, rfl, i0, i1, q⟩ := hv
  obtain ⟨t, rfl⟩ := r1
  refine thn ((pe_joined1 (X := X) (pos := _) (pe_str (x := ">2") (j := k) (pos := p))).run pins s1 σ H1 (fun y H2 => y = .str ">2" ∧ H2 = H1) I1 ⟨rfl, rfl⟩) fun u s2 q2 => ?_
  obtain ⟨y, H2, I2, r2, rfl, rfl⟩ := q2
  obtain ⟨t2, rfl⟩ := r2
  have zl : i.natAbs.log2 < 1920 := by
    have z1 : i.natAbs < 100 := by omega
    have z2 : i.natAbs.log2 ≤ i.natAbs := Nat.log2_le_self _
    omega
  exact ⟨_, t2, rfl, PySem.W.KXf.field_int rfl (by decide +kernel) (by decide +kernel) (meetsPad zl (by rw [pad_len i0 i1]; decide)) fun t' k' => ⟨.str (padN i), H2, I2.tok _, ⟨_, rfl⟩, q⟩⟩
/-! ### texts: f-strings, join, rjust, str -/
def rJoin (K : PySem.W.Frag) : V → List V → Hp → VK → Prop := fun x xs H Q => ∃ a p, ∃ ys : List Str, x = .str a ∧ xs = [.ref p] ∧ (SqL K H p (ys.map V.str) ∨ SqT K H p (ys.map V.str)) ∧ (ys.map (·.length)).sum + ys.length * a.length ≤ 16777216 ∧ Q (.str (Txt.join a ys)) H
theorem mt_joinK {X : Cx} : MtR X "str.join" (rJoin X.K) := mt_join
def rRj : V → List V → Hp → VK → Prop := fun x xs H Q => ∃ (a : Str) (i : Int), x = .str a ∧ xs = [.int i] ∧ PadOk i = true ∧ Q (.str (Txt.rjust a i)) H
theorem mt_rj {X : Cx} : MtR X "str.rjust" rRj := mt_rjust
def rStrI : List V → Hp → VK → Prop := fun xs H Q => ∃ i, xs = [.int i] ∧ i.natAbs.log2 < 1920 ∧ Q (.str (toString i)) H
theorem call_strI {X : Cx} : CallR X (.type "str") rStrI := call_str_int
inductive EvJ (K : PySem.W.Frag) (ρ : Rho) : List TE → List Str → Prop where
  | nil : EvJ K ρ [] []
  | cons {t : TE} {y : Str} {ts : List TE} {ys : List Str} (h : EvD K t ρ (.str y)) (r : EvJ K ρ ts ys) : EvJ K ρ (t :: ts) (y :: ys)
def catS (acc : Str) : List Str → Str
  | [] => acc
  | y :: ys => catS (acc ++ y) ys
theorem str_len (a b : Str) : (a ++ b).length = a.length + b.length := by
  show (a.cps ++ b.cps).size = _
  rw [Array.size_append]; rfl
def lens (ys : List Str) : Nat := (ys.map (·.length)).sum
section
variable {K : PySem.W.Frag} {ρ : Rho} {te to : TE} {ts : List TE} {x y a : Str} {ys : List Str} {i : Int} {ta : TA}
theorem ev_fmtS (h : EvD K te ρ (.str y)) (hz : y.length ≤ 100000) : EvD K (tFmt te) ρ (.str y) := fun G0 H0 G H σ Q s k => h G0 H0 G H σ _ s fun v G1 H1 g1 r1 => by
  cases r1
  exact .inl ⟨y, rfl, sz_of hz, k _ G1 H1 g1 (.str _)⟩
theorem ev_pad (h : EvD K te ρ (.int i)) (h0 : 0 ≤ i) (h1 : i < 100) : EvD K (tPad te) ρ (.str (padN i)) := fun G0 H0 G H σ Q s k => h G0 H0 G H σ _ s fun v G1 H1 g1 r1 => by
  cases r1
  exact ⟨i, rfl, h0, h1, k _ G1 H1 g1 (.str _)⟩
theorem ev_js (h : EvJ K ρ ts ys) : ∀ acc : Str, acc.length + lens ys ≤ 100000 → ∀ G0 H0 G H σ (Q : Str → Hp → Prop), Sl K G0 H0 G H σ ρ → (∀ G' H', Go G H G' H' → Q (catS acc ys) H') → tJs ts acc σ H Q := by
  induction h with
  | nil => intro acc _ G0 H0 G H σ Q s k; exact k G H (Go.refl s.gh)
  | cons h r ih =>
    rename_i t y ts ys
    intro acc hz G0 H0 G H σ Q s k
    refine h G0 H0 G H σ _ s fun v G1 H1 g1 r1 => ?_
    cases r1
    have e : lens (y :: ys) = y.length + lens ys := by unfold lens; rw [List.map_cons, List.sum_cons]
    rw [e] at hz
    have el := str_len acc y
    exact ⟨y, rfl, sz_of (by omega), ih (acc ++ y) (by omega) G0 H0 G1 H1 σ _ (s.step g1) fun G' H' g => k G' H' (g1.trans g)⟩
def tJoined (ts : List TE) : TE := fun σ H Q => tJs ts Str.empty σ H fun out H1 => Q (.str out) H1
theorem pe_joinedK {X : Cx} {v1 v2 : Expr} {rest : List Expr} {pos : Pos} (h : PJ X (v1 :: v2 :: rest) ts) : PE X (.JoinedStr (v1 :: v2 :: rest) pos) (tJoined ts) := pe_joined h
theorem ev_joined (h : EvJ K ρ ts ys) (hz : lens ys ≤ 100000) : EvD K (tJoined ts) ρ (.str (catS Str.empty ys)) := fun G0 H0 G H σ Q s k =>
  ev_js h Str.empty (by show 0 + lens ys ≤ _; omega) G0 H0 G H σ _ s fun G' H' g => k _ G' H' g (.str _)
theorem ev_join (ha : EvD K to ρ (.str a)) (hb : EvR K te ρ (.lst (sD ys))) (hz : lens ys + ys.length * a.length ≤ 100000) : EvD K (tM1 (rJoin K) to te) ρ (.str (Txt.join a ys)) := fun G0 H0 G H σ Q s k =>
  ha G0 H0 G H σ _ s fun v G1 H1 g1 r1 => by
    cases r1
    refine ⟨⟨_, rfl⟩, hb G0 H0 G1 H1 σ _ (s.step g1) fun w G2 H2 g2 r2 => ?_⟩
    cases r2 with
    | lst h ra =>
      have := strs_inv ra
      subst this
      unfold lens at hz
      exact ⟨a, _, ys, rfl, rfl, .inl h, by omega, k _ G2 H2 (g1.trans g2) (.str _)⟩
theorem ev_rj {ti : TE} (ha : EvD K to ρ (.str a)) (hb : EvD K ti ρ (.int i)) (hp : PadOk i = true) : EvD K (tM1 rRj to ti) ρ (.str (Txt.rjust a i)) := fun G0 H0 G H σ Q s k =>
  ha G0 H0 G H σ _ s fun v G1 H1 g1 r1 => by
    cases r1
    refine ⟨⟨_, rfl⟩, hb G0 H0 G1 H1 σ _ (s.step g1) fun w G2 H2 g2 r2 => ?_⟩
    cases r2
    exact ⟨a, i, rfl, rfl, hp, k _ G2 H2 (g1.trans g2) (.str _)⟩
theorem rs_strI (hz : i.natAbs.log2 < 1920) : RcS K rStrI [.int i] (.str (toString i)) := fun H vs Q r k => by
  cases r with
  | cons r1 r2 =>
    cases r2
    cases r1
    exact ⟨i, rfl, hz, k _ fun G => .str _⟩
end
section
variable {K : PySem.W.Frag} {ρ : Rho} {te : TE} {i : Nat} {ds es : List D}
/-- xs.extend(a new list), xs our own -/
theorem sd_ext (h : EvN K te ρ es) (ho : ρ[i]? = some (some (.own ds))) (hz : ds.length + es.length ≤ 100000) : StD K (tDrop (tBM K "list" rExtend (tVar i) (tCons te tNil))) ρ (.nx (ρ.set i (some (.own (ds ++ es))))) := fun G0 H0 G H σ W s k => by
  obtain ⟨l, vs, h1, h2, h3, h4, h5⟩ := s.own i ds ho
  refine ⟨.ref l, h1, .inl ⟨rfl, vs, .inl (.inl h4)⟩, ?_⟩
  refine h G0 H0 G H σ _ s fun b ws G1 H1 g1 hb r1 => ?_
  have ne : l ≠ b := fun z => by
    have q := g1.hh _ _ h4
    rw [z, hb] at q; cases q
  have s1 := s.step g1
  have s2 := s1.step (G1 := G1) (H1 := upd H1 b (.lst ws)) ⟨Ex.refl G1, s1.gh.trans (Ex.new hb), Ex.new hb, fun _ _ q => q⟩
  refine ⟨l, b, vs, ws, rfl, rfl, by rw [upd_ne ne]; exact g1.hh _ _ h4, upd_same, by rw [h5.length, r1.length]; exact sz_of hz, ?_⟩
  exact k G1 _ _ g1.gg (s2.mut (vs := vs) ho h1 ((h5.mono g1.gg).append r1))
end
/-! ### small things -/
def GStr (mg : Str → Option Value) (x : Str) (i : Str) : Prop := ∃ t, mg x = some (.str i t)
theorem pe_gstr {X : Cx} {x : Str} {i : Str} {pos : Pos} (h : GStr X.mg x i) (hg : Gl X x := by rfl) (hd : (x == ("__debug__" : Str)) = false := by decide) : PE X (.Name x pos) (tC (.str i)) := let ⟨t, e⟩ := h; pe_glob hg e ⟨t, rfl⟩ hd
theorem gstr_mk {K : PySem.W.Frag} {h : Heap} {mg : Str → Option Value} {x : Str} {i : Str} {t : Tok} (X : K.In h) (G : h.Ns mainGlobals mg) (a : PySem.W.nsIn K mainGlobals x = some (some (.str i t))) : GStr mg x i := ⟨t, PySem.W.mg_of X G a⟩
section
variable {K : PySem.W.Frag} {ρ : Rho} {te : TE} {ti : TI} {g : TG} {ds es : List D} {vs js : List Nat}
theorem isi_str_str {x : Str} : RcS K (rIsi K) [.str x, .cls (.ty "str")] (.bl true) := rs_isi (.str x) (.ty _) (kit_ty (by decide +kernel))
/-- [e for t in xs], its items told -/
theorem en_mapI (R : Nat → Rho) (hi : ItD K ti ρ ds) (hz : ds.length ≤ 40000) (hl : es.length = ds.length) (hv : ∀ j ∈ js, j ∈ vs)
    (hg : ∀ n d, ds[n]? = some d → TgD K g d (wipeR ρ vs) (R n) js) (he : ∀ n d e, ds[n]? = some d → es[n]? = some e → EvD K te (R n) e) : EvN K (tLc ti g tYes te vs) ρ es := by
  have e0 : pick (fun _ => true) (fun i => id (es.getD i .non)) ds.length = es := by rw [← hl, pick_map, List.map_id]
  rw [← e0]
  refine en_lcI (fun _ => true) _ R hi hz hv hg (fun n d hd => eb_yes) fun n d hd _ => ?_
  have hn : n < es.length := by rw [hl]; exact (List.getElem?_eq_some_iff.mp hd).1
  have h2 := List.getElem?_eq_getElem hn
  show EvD K te (R n) (es.getD n .non)
  rw [getD_of h2]
  exact he n d _ hd h2
end
section
variable {K : PySem.W.Frag} {ρ : Rho} {te : TE} {ta : TA} {t : TS} {o : Out} {i : Nat} {ds : List D} {k0 : Int}
theorem sd_frz (h : ρ[i]? = some (some (.own ds))) (q : StD K t (ρ.set i (some (.dat (.lst ds)))) o) : StD K t ρ o := fun G0 H0 G H σ W s k => by
  obtain ⟨G', e, s'⟩ := s.freeze h
  exact q G0 H0 G' H σ W s' (k.mono e)
/-- pairs counted from k0 -/
def enumqD (k0 : Int) (ds : List D) : List D := ds.zipIdx.map fun x => .tup [.int (k0 + (x.2 : Nat)), x.1]
theorem enumqD_len : (enumqD k0 ds).length = ds.length := by unfold enumqD; rw [List.length_map, List.length_zipIdx]
theorem enumqD_get {n : Nat} {d : D} (h : (enumqD k0 ds)[n]? = some d) : ∃ e, ds[n]? = some e ∧ d = .tup [.int (k0 + (n : Int)), e] := by
  unfold enumqD at h
  rw [List.getElem?_map, List.getElem?_zipIdx] at h
  cases q : ds[n]? with
  | none => rw [q] at h; cases h
  | some e =>
    rw [q] at h
    exact ⟨e, rfl, by simpa using h.symm⟩
theorem it_enumq (h : EvS K ta ρ [.lst ds]) : ItD K (iEnumq K k0 ta) ρ (enumqD k0 ds) := fun G0 H0 G H σ R s k => h G0 H0 G H σ _ s fun vs G1 H1 g1 r1 => by
  cases r1 with
  | cons r2 r3 =>
    cases r3
    cases r2 with
    | lst hx ra =>
      rename_i xs
      refine ⟨_, _, rfl, ex_l g1.gh hx, k _ G1 H1 g1 ⟨fun H' => SqL K H' _ xs, YPair (fun i => some (.int (k0 + (i : Nat)))) (fun i => xs[i]?), ?_, fun H' e => ex_l e hx, ?_⟩⟩
      · rw [enumqD_len, ← ra.length]; exact walk_enumq
      · rintro i d G' H' x H'' hd e1 e2 ⟨T, y, z, rfl, hT, rfl, hy, hz⟩
        obtain ⟨e, he, rfl⟩ := enumqD_get hd
        cases hy
        obtain ⟨d', m, r'⟩ := ra.getV hz
        rw [he] at m
        cases m
        have n := Go.new (o := .tup [.int (k0 + (i : Nat)), z]) e2 hT
        exact ⟨_, n, .tup (.inl (.inl upd_same)) (.cons (.int _) (.cons (r'.mono (e1.trans n.gg)) .nil))⟩
end
section
variable {K : PySem.W.Frag} {ρ : Rho} {ti : TI} {g : TG} {t : TS} {ds : List D} {m : Nat}
theorem sd_forIm (hi : ItD K ti ρ ds) (hm : ds.length = m) (P : Nat → Rho) (h0 : P 0 = ρ) (hs : ∀ (n : Nat) (d : D), ds[n]? = some d → ∃ ρ' js, TgD K g d (P n) ρ' js ∧ Turn K t ρ' (P (n + 1))) : StD K (tFor ti g t) ρ (.nx (P m)) := by
  rw [← hm]; exact sd_forI hi P h0 hs
end
end Ax

namespace Ax
open PySem PySem.Spec PyProof.Rows L2 Evl
/-! ### an __init__ of an own exception that says super().__init__(text) -/
/-- the words of such a def -/
abbrev supF (m q : Str) (st : Stmt) (cc cda : Addr) : NdefX.NF := ⟨m, q, defArgs st, defBody st, defScope st, [("__class__", cc)], cda⟩
structure SupK (P : Program) (K : PySem.W.Frag) (f C : Addr) (m q : Str) (st : Stmt) (fd : FuncData) (cda cc : Addr) : Prop where
  ex : ∃ (oc : Value) (od : Option Addr) (osl : Array (Option Value)) (kV doc pm ct : Value) (an : Option Addr), fd = PySem.W.fnX m q (defArgs st) (defBody st) (defScope st) [("__class__", cc)] .none kV doc pm an (.ref cda) ct ∧ K.lookup f = some ⟨oc, od, .func fd, osl⟩
  code : PySem.W.codeIn K (.ref cda) q = true
  file : ∃ (ccl : Value) (cdd : Option Addr) (vs : Array Value) (ccs : Array (Option Value)) (file : Str) (tf : Tok), K.lookup cda = some ⟨ccl, cdd, .fields vs, ccs⟩ ∧ vs[2]? = some (.str file tf) ∧ ((P.main.file : Str) == file) = true
  cell : ∃ (cl : Value) (cld : Option Addr) (csl : Array (Option Value)), K.lookup cc = some ⟨cl, cld, .cell (some (.ref C)), csl⟩
  top : (P.main.scope.names.lookup ("super" : Str)).isSome = false
/-- what the written part says of its class -/
structure SupC (K : PySem.W.Frag) (C : Addr) : Prop where
  oex : OexC K C
  sup : PySem.W.ks_superIn K C C "__init__" = some (some (.builtin "ValueError.__init__"))
  sub : PySem.W.subIn K (.ref C) (.type "ValueError") = some true
  mro : PySem.W.mroIn K C (.ref C) = some true
  cls : ∃ cd, PySem.W.clsIn K C = some cd
  opq : PySem.W.nsIn K cStatics "thirdparty.any" = some none
section
variable {P : Program} {w : World} {K : PySem.W.Frag} {mg : Str → Option Value} {base : Heap} {f C : Addr} {m q : Str} {st : Stmt} {fd : FuncData} {cda cc : Addr} {N ps : List Str} {k : Nat} {sp : Sp}
/-- such a def by its body -/
theorem fn_sup (S : SupK P K f C m q st fd cda cc) (NS : NdefX.NScope N ps ["__class__"] (defScope st)) (len : ∀ vs H Q E, sp vs H Q E → vs.length = ps.length)
    (hrun : ∀ (A : Around) (outer : List Env) (s : Shared) (H : Hp) (vs : List V) (Q : VK) (E : XK), Room k (A.deeper (NdefX.envF (supF m q st cc cda) f s.heap.objs.size)) → sp vs H Q E → ∀ s1, Inv (NdefX.ncx CX0 P w K mg base N (supF m q st cc cda) f A outer s H E) [] (NdefX.startF N vs [none]) H s1 →
      _root_.PySem.wpAt (model P w) (A.deeper (NdefX.envF (supF m q st cc cda) f s.heap.objs.size)) (.func (defBody st) (NdefX.envF (supF m q st cc cda) f s.heap.objs.size)) (execs (defBody st) (NdefX.envF (supF m q st cc cda) f s.heap.objs.size)) (SP (NdefX.ncx CX0 P w K mg base N (supF m q st cc cda) f A outer s H E) [] { nx := fun _ H' => Q .non H', rt := Q }) (NdefX.ncx CX0 P w K mg base N (supF m q st cc cda) f A outer s H E).xe s1) :
    FnOk P w K mg base CX0 (k + 1) f fd ps sp := by
  refine ⟨len, fun A outer s H args us vs Q E hr e0 hb r hsp => ?_⟩
  have hl := len _ _ _ _ hsp
  have KX : K.In s.heap := e0.mod.kin.keeps fun b o e => (e0.bs b o e).1
  have lim : s.heap.NoLimit := e0.mod.nolimit.keeps fun b o e => (e0.bs b o e).1
  obtain ⟨oc, od, osl, kV, doc, pm, ct, an, rfl, lk⟩ := S.ex
  refine PySem.ks_codeAny_call_defAt (binds := ps.zip us) hr.depth (KX _ _ lk) rfl lim (PySem.W.codeRec_of KX S.code) rfl hb NS.nocell (fun x hx => NS.par x.1 (List.of_mem_zip hx).1) (fun g0 hns hk => ?_) NS.co NS.gen NS.kind
  obtain ⟨cl, cld, csl, hcell⟩ := S.cell
  have Cc : NdefX.CellsAt (supF m q st cc cda).cl ["__class__"] [none] s.heap H := by
    have one : ∀ {y : Str} {c : Addr}, (supF m q st cc cda).cl.lookup y = some c → y = "__class__" ∧ c = cc := fun {y c} e => by
      have e : List.lookup y [(("__class__" : Str), cc)] = some c := e
      rw [List.lookup_cons] at e
      split at e
      · rename_i h; cases e; exact ⟨beq_iff_eq.mp h, rfl⟩
      · cases e
    refine ⟨rfl, fun y c e => ?_, fun x y c e1 e2 => by rw [(one e1).1, (one e2).1], fun i y e => ?_⟩
    · obtain ⟨_, rfl⟩ := one e
      exact ⟨(e0.bs _ _ (e0.mod.kin _ _ hcell)).2, _, _, KX _ _ hcell, rfl⟩
    · cases i with
      | zero =>
        cases e
        exact ⟨cc, look_hd, fun v z => by cases z⟩
      | succ j => cases e
  have I : Inv (NdefX.ncx CX0 P w K mg base N (supF m q st cc cda) f A outer s H E) [] (NdefX.startF N vs [none]) H { s with heap := g0, toks := s.toks + (ps.zip us).length } := NdefX.inv_startN NS hr.hd e0 hl r Cc hns hk
  refine PySem.ks_wpAt_mono (hrun A outer s H vs Q E (hr.deeper _) hsp _ I) (fun fl s' hs => ?_) fun e s' hs => hs
  have fin : ∀ {σ' : L2.St} {H' : Hp} {v : V} {u : Value}, Inv (NdefX.ncx CX0 P w K mg base N (supF m q st cc cda) f A outer s H E) [] σ' H' s' → L2.RelV v u → Q v H' → CE outer P w H s Q u s' :=
    fun {σ' H' v u} J rv q => ⟨v, H', J.os, J.bare, J.base, J.hok, rv, q⟩
  cases fl with
  | ret u =>
    obtain ⟨v, σ', H', J, rv, q⟩ := hs
    exact fin J rv q
  | next =>
    obtain ⟨σ', H', J, q⟩ := hs
    exact fin (v := V.non) (u := Value.none) J rfl q
  | brk =>
    obtain ⟨_, _, _, q⟩ := hs
    exact False.elim q
  | cont =>
    obtain ⟨_, _, _, q⟩ := hs
    exact False.elim q
end
/-- at u: __init__ of the base, bound to a -/
def mwHO (u a : Addr) : HO := .ext fun h => h.get? u = some (PySem.W.kxs_mw "ValueError.__init__" a)
theorem mwHO_at {P : Program} {w : World} {H : Hp} {h : Heap} {u a : Addr} (hok : HOk P w H h) (e : H u = some (mwHO u a)) : h.get? u = some (PySem.W.kxs_mw "ValueError.__init__" a) := by
  have x : ObjOk P w H h u (.ext fun h => h.get? u = some (PySem.W.kxs_mw "ValueError.__init__" a)) := hok u _ e
  exact x.1
/-- super().__init__(e), then the rest -/
def tSup (K : PySem.W.Frag) (C : Addr) (te : TE) (u : TS) : TS := fun D σ H => ∃ a, σ[0]? = some (some (.ref a)) ∧ H a = some (exo a C none) ∧ ∀ b, H b = none → b ≠ a → tCons te tNil σ (upd H b (mwHO b a)) fun vs H2 => vs.length ≤ 1000 ∧ H2 b = some (mwHO b a) ∧ H2 a = some (exo a C none) ∧ u D σ H2
section
variable {P : Program} {w : World} {K : PySem.W.Frag} {mg : Str → Option Value} {base : Heap} {f C : Addr} {m q : Str} {st : Stmt} {fd : FuncData} {cda cc : Addr} {N ps : List Str} {A : Around} {outer : List Env} {s : Shared} {H : Hp} {E : XK}
theorem exec_sup {e : Expr} {rest body : List Stmt} {p0 p1 p2 p3 p4 : Pos} {te : TE} {u : TS} {self : Str} {ar : Arg} {σ1 : L2.St} {H1 : Hp} {s1 : Shared} {D : Ends} {pl : Sem Bool}
    (S : SupK P K f C m q st fd cda cc) (T : SupC K C)
    (X : Cx) (hX : X = NdefX.ncx CX0 P w K mg base N (supF m q st cc cda) f A outer s H E)
    (he : PE X e te) (hr : PSs X rest u) (hm : mg "super" = none) (h0 : N[0]? = some self) (har : ((defArgs st).posonlyargs ++ (defArgs st).args).head? = some ar) (hself : ar.arg = self)
    (k1 : (defScope st).names.lookup ("super" : Str) = some .globalImplicit) (k2 : (defScope st).names.lookup ("__class__" : Str) = some .free) (k3 : (defScope st).names.lookup self = some .local) (kf : (defScope st).kind = .function)
    (hmc : eval (.Call (.Attribute (.Call (.Name "super" p0) [] [] p1) "__init__" p2) [e] [] p3) X.env = (do
      let ov ← attributeBase (.Call (.Name "super" p0) [] [] p1) "__init__" X.env (eval (.Call (.Name "super" p0) [] [] p1) X.env)
      standAt p2.atName
      let (f, first) ← holding [ov] (getMethod ov "__init__" pl)
      callWith p3 f first (backTo p3 (starEach [e] X.env)) []))
    (hin : interactive X.env = false) (hsw : swapsWith (.Call (.Attribute (.Call (.Name "super" p0) [] [] p1) "__init__" p2) [e] [] p3) none p4.line X.env = pure false)
    (hst : starEach [e] X.env = (false, eval e X.env) :: starEach [] X.env)
    (I : Inv X [] σ1 H1 s1) (h : tSup K C te u D σ1 H1) :
    _root_.PySem.wpAt (model P w) X.A (.func body X.env) (execs (.Expr (.Call (.Attribute (.Call (.Name "super" p0) [] [] p1) "__init__" p2) [e] [] p3) p4 :: rest) X.env) (SP X [] D) X.xe s1 := by
  subst hX
  obtain ⟨a, ha, ea, h⟩ := h
  refine PySem.ks_wpAt_execs_cons (PySem.ks_wpAt_Expr_any (PySem.ks_wpAt_MethodCall ?_ hmc) hin hsw)
  have KX : K.In s1.heap := I.kIn
  obtain ⟨oc, od, osl, kV, doc, pm, ct, an, rfl, lk⟩ := S.ex
  obtain ⟨ccl, cdd, vs, ccs, file, tf, hcode, hvs, hfile⟩ := S.file
  obtain ⟨cl, cld, csl, hcell⟩ := S.cell
  obtain ⟨cd, hcd⟩ := T.cls
  obtain ⟨oD, hD1, hD2⟩ : ∃ oD, s1.heap.get? C = some oD ∧ oD.data = .cls cd := by
    unfold PySem.W.clsIn at hcd
    split at hcd
    · rename_i c d cd' sl ho
      cases hcd
      exact ⟨_, KX _ _ ho, rfl⟩
    · cases hcd
  obtain ⟨t1, hx⟩ := exo_at I.hok ea
  refine PySem.ks_wpAt_super_base (env := NdefX.envF (supF m q st cc cda) f s.heap.objs.size) k1 k2 (by decide) rfl (KX _ _ lk) rfl har rfl (KX _ _ hcode) rfl hvs hfile S.top ?_
  obtain ⟨mb, b1, b2⟩ := I.mod.blt
  refine PySem.W.ks_loadName_global kf k1 (Calls.loadGlobal_builtin (env := NdefX.envF (supF m q st cc cda) f s.heap.objs.size) (I.mod.glob.keeps I.bk) hm (b1.keeps I.bk) ((b2 _ (by decide +kernel)).trans (by first | boot_by_name | rfl | kernel_rfl)) ⟨rfl, ?_⟩)
  refine wpAny_loadName_free kf k2 look_hd ⟨_, KX _ _ hcell, rfl⟩ ?_
  obtain ⟨mL, hns, hl⟩ := I.loc
  have vis : Vis (NdefX.envF (supF m q st cc cda) f s.heap.objs.size).scope self := by
    first
      | exact .inl k3
      | (show Vis (defScope st) self; unfold Vis; rw [k3]; simp)
  obtain ⟨ua, rua, hlook⟩ := hl 0 self _ h0 ha vis
  obtain rfl : ua = .ref a := rua
  have hma : mL ar.arg = some (.ref a) := by
    rw [hself]
    rcases hlook with ⟨_, z⟩ | ⟨z, _⟩
    · exact z
    · have z : (defScope st).names.lookup self = some .cell ∨ (defScope st).names.lookup self = some .free := z
      rw [k3] at z
      rcases z with z | z <;> cases z
  refine wpAny_loadName_local kf (by rw [hself]; exact k3) hns hma ?_
  refine PySem.ks_wpAny_isType_cls hD1 hD2 ⟨rfl, ?_⟩
  obtain ⟨hp, g, dr, tk, os⟩ := s1
  refine PySem.ks_wpAny_call_super hD1 hD2 hx rfl (fun c z => nomatch z) (PySem.W.looks_mroIn KX T.mro) (fun h2 e2 kp2 => ?_)
  have K2 : K.In h2 := KX.keeps kp2
  have nac : a ≠ C := fun z => by
    rw [z, hD1] at hx
    cases hx
    cases hD2
  have il : PySem.W.Looks (model P w) h2 (isInstance (.ref a) (.type "ValueError")) true := (PySem.W.InstAt.type (od := none) ⟨kp2 _ _ hx, rfl, rfl, trivial⟩).andThen (PySem.W.looks_subIn K2 T.sub)
  have hsup := T.sup
  unfold PySem.W.ks_superIn at hsup
  rw [hcd, Option.bind_some] at hsup
  refine PySem.W.kxs_getMethod PySem.W.kxs_ValueError e2 (PySem.W.looks_opaque K2 T.opq) (l₀ := cd.mro) (fun A Q E s k z => wpAny_bind ((PySem.W.looks_clsIn K2 hcd) A _ E s k (wpAny_pure z))) rfl K2 hsup il nac (by decide) ?_
  have kp3 : ∀ b o, hp.get? b = some o → (h2.push (PySem.W.kxs_mw "ValueError.__init__" a)).get? b = some o := fun b o z => Heap.get?_push_of_some _ (kp2 b o z)
  have hsz : hp.objs.size ≤ h2.objs.size := Nat.le_of_lt (Heap.lt_size e2)
  have hmw : (h2.push (PySem.W.kxs_mw "ValueError.__init__" a)).get? h2.objs.size = some (PySem.W.kxs_mw "ValueError.__init__" a) := Heap.get?_push_size _ rfl
  have hnu : H1 h2.objs.size = none := I.hok.fresh hsz
  have nua : h2.objs.size ≠ a := fun z => by rw [z, ea] at hnu; cases hnu
  have I2 := I.laid (t' := tk + 1) (a := h2.objs.size) (o := mwHO h2.objs.size a) kp3 hsz ⟨hmw, ⟨_, hmw⟩, fun g1 g2 z k => k _ z⟩
  have cw := (pa_cons he pa_nil hst).run p3 [] _ σ1 _ _ I2 (h _ hnu nua)
  show wpAny _ _ (callWith p3 (Value.ref h2.objs.size) [] (backTo p3 (starEach [e] (NdefX.envF (supF m q st cc cda) f s.heap.objs.size))) []) _ _ _
  refine PySem.W.kxs_callWith (i := "ValueError.__init__") (x := a) (by rw [show starEach [e] (NdefX.envF (supF m q st cc cda) f s.heap.objs.size) = _ from hst]; rfl) ?_
  have hst' : starEach [e] (NdefX.envF (supF m q st cc cda) f s.heap.objs.size) = (false, eval e (NdefX.envF (supF m q st cc cda) f s.heap.objs.size)) :: starEach [] (NdefX.envF (supF m q st cc cda) f s.heap.objs.size) := hst
  have cw' : wpAny (model P w) (A.deeper (NdefX.envF (supF m q st cc cda) f s.heap.objs.size)) (spliced (backTo p3 (starEach [e] (NdefX.envF (supF m q st cc cda) f s.heap.objs.size)))) _ _ _ := cw
  rw [hst'] at cw' ⊢
  refine Calls.evalArgs_plain (wpAny_mono cw' (fun us s3 z => ?_) fun _ _ z => z)
  obtain ⟨vs3, H3, I3, rv3, hz3, hu3, ea3, q3⟩ := z
  have gu := mwHO_at I3.hok hu3
  obtain ⟨t3, hx3⟩ := exo_at I3.hok ea3
  refine ⟨gu, ?_⟩
  obtain ⟨nm, qn, Nn, bs, bm, sn, sub, ab, col, dd, j0, j1, j2, j3, j5, eC, hbm⟩ := T.oex.cls
  have eC3 := I3.kIn _ _ eC
  have hz4 : us.length ≤ sizeLine := by
    rw [← Paired.length rv3, sizeLine_eq]
    omega
  obtain ⟨g3, gg3, d3, tk3, os3⟩ := s3
  refine wpAny_call (codeAny_of_tree ?_)
  show wpAny _ (A.deeper (NdefX.envF (supF m q st cc cda) f s.heap.objs.size)).in1 (callAny (.ref h2.objs.size) ⟨us, []⟩) _ _ _
  simp only [callAny]
  refine wpAny_bind (wpAny_load gu ?_)
  simp only [PySem.W.kxs_mw, show (Value.type "method-wrapper" == Value.type "method" || Value.type "method-wrapper" == Value.type "builtin_function_or_method" || Value.type "method-wrapper" == Value.type "method-wrapper") = true from by decide, if_true]
  refine PySem.W.KFB.if_so (by decide) ?_
  refine wpAny_bind (PySem.W.check_bound_init PySem.F.excBase_ValueError.toExcCallFacts eC3 hx3 rfl ?_)
  refine wpAny_bind (wpAny_pure (wpAny_pure ?_))
  refine ⟨plainId_quiet PySem.F.excBase_ValueError.init.plain _, codeAny_builtin PySem.F.excBase_ValueError.initEntry ?_⟩
  refine PySem.W.exc_init_tree (cls := .ref C) (t0 := t3) (dv := none) (c2 := .none) (c3 := .none) (b4 := .bool false) hx3 hz4 fun h4 kp4 hx4 _ => ?_
  have J := I3.write (t' := tk3) (x := a) (e := a) (o := exo a C none) (by rw [ea3]; exact True.intro) (.inl rfl) kp4 ⟨_, hx4⟩ (exo_ok hx4)
  have eu : upd H3 a (exo a C none) = H3 := by
    funext b
    by_cases hb : b = a
    · rw [hb, upd_same, ea3]
    · rw [upd_ne hb]
  rw [eu] at J
  exact wpAt_of_wpAny (hr.run [] _ σ1 H3 D J q3)
end
end Ax

namespace Ax
open PySem PySem.Spec PyProof.Rows L2 Evl
/-! ### the fields of an exception that is made -/
def tFs (K : PySem.W.Frag) : List Str → Nat → TS
  | [], _ => tNext
  | f :: fl, i => tSeq (tOst K f (tVar 0) (tVar i)) (tFs K fl (i + 1))
structure XS (a C : Addr) (H0 H : Hp) (fs : List (Str × V)) : Prop where
  keep : ∀ b o, b ≠ a → H0 b = some o → H b = some o
  at_ : (fs = [] ∧ H a = some (exo a C none)) ∨ ∃ d, H0 d = none ∧ d ≠ a ∧ H a = some (exo a C (some d)) ∧ H d = some (exd d fs)
section
variable {K : PySem.W.Frag} {a C : Addr} {H0 H : Hp} {σ : L2.St} {D : Ends} {fs : List (Str × V)} {f : Str} {y : V}
theorem XS.put (T : OexC K C) (hf : PySem.W.findIn K (.ref C) f = some none) {i : Nat} (X : XS a C H0 H fs) (hz : fs.length ≤ 900) (h0 : σ[0]? = some (some (.ref a))) (hi : σ[i]? = some (some y))
    (k : ∀ H', XS a C H0 H' ((f, y) :: fs) → D.nx σ H') : tOst K f (tVar 0) (tVar i) D σ H := by
  refine ⟨y, hi, .ref a, h0, a, C, rfl, T, hf, ?_⟩
  rcases X.at_ with ⟨rfl, ea⟩ | ⟨d, d0, da, ea, ed⟩
  · refine .inl ⟨ea, fun dx hn ne => k _ ⟨fun b o hb e => ?_, .inr ⟨dx, ?_, ne, upd_same, ?_⟩⟩⟩
    · have e1 := X.keep b o hb e
      rw [upd_ne hb, upd_ne (fun z => by rw [z, hn] at e1; cases e1)]; exact e1
    · cases q : H0 dx with
      | none => rfl
      | some o => have := X.keep dx o ne q; rw [hn] at this; cases this
    · rw [upd_ne ne, upd_same]
  · refine .inr ⟨d, fs, ea, ed, hz, k _ ⟨fun b o hb e => ?_, .inr ⟨d, d0, da, ?_, upd_same⟩⟩⟩
    · rw [upd_ne (fun z => by rw [z, d0] at e; cases e)]; exact X.keep b o hb e
    · rw [upd_ne (Ne.symm da)]; exact ea
theorem flds_run (T : OexC K C) (h0 : σ[0]? = some (some (.ref a))) : ∀ (fl : List Str) (us : List V) (i : Nat) (fs : List (Str × V)) (H : Hp), fl.length = us.length → (∀ f ∈ fl, PySem.W.findIn K (.ref C) f = some none) → (∀ j y, us[j]? = some y → σ[i + j]? = some (some y)) →
    fs.length + fl.length ≤ 900 → XS a C H0 H fs → (∀ H', XS a C H0 H' ((fl.zip us).reverse ++ fs) → D.nx σ H') → tFs K fl i D σ H
  | [], us, i, fs, H, hl, _, _, _, X, k => by
    have : us = [] := List.length_eq_zero_iff.mp hl.symm
    subst this
    exact k H X
  | f :: fl, [], i, fs, H, hl, _, _, _, X, k => by cases hl
  | f :: fl, y :: us, i, fs, H, hl, hf, hs, hz, X, k => by
    show tOst K f (tVar 0) (tVar i) { D with nx := tFs K fl (i + 1) D } σ H
    rw [List.length_cons] at hz
    refine XS.put T (hf f List.mem_cons_self) X (by omega) h0 (hs 0 y rfl) fun H' X' => ?_
    refine flds_run T h0 fl us (i + 1) ((f, y) :: fs) H' (by simpa using hl) (fun g hg => hf g (List.mem_cons_of_mem _ hg)) (fun j z hz => ?_) (by rw [List.length_cons]; omega) X' fun H2 X2 => k H2 ?_
    · have := hs (j + 1) z hz
      rw [show i + 1 + j = i + (j + 1) from by omega]; exact this
    · rw [List.zip_cons_cons, List.reverse_cons, List.append_assoc]; exact X2
end
/-- the promise of such an __init__ -/
def spXI (K : PySem.W.Frag) (C : Addr) (n : Nat) (fl : List Str) (R : List D → Prop) : Sp := fun vs H Q _ => ∃ (a : Addr) (us : List V) (G : Hp) (ds : List D), vs = .ref a :: us ∧ us.length = n ∧ H a = some (exo a C none) ∧ Ex G H ∧ G a = none ∧ RpA K G us ds ∧ R ds ∧ ∀ H', XS a C H H' (fl.zip us).reverse → Q .non H'
section
variable {P : Program} {w : World} {K : PySem.W.Frag} {mg : Str → Option Value} {base : Heap} {f C : Addr} {m q : Str} {st : Stmt} {fd : FuncData} {cda cc : Addr} {N ps fl : List Str} {k n : Nat} {R : List D → Prop}
theorem startF_start {N : List Str} {vs : List V} (h : vs.length + 1 ≤ N.length) : NdefX.startF N vs [none] = L2.start N vs := by
  unfold NdefX.startF L2.start
  congr 1
  obtain ⟨r, hr⟩ : ∃ r, N.length - vs.length = r + 1 := ⟨N.length - vs.length - 1, by omega⟩
  rw [hr, List.replicate_succ]
  rfl
theorem SupK.init {e : Expr} {rest : List Stmt} {p0 p1 p2 p3 p4 : Pos} {self : Str} {ar : Arg} {pl : Sem Bool} (S : SupK P K f C m q st fd cda cc) (T : SupC K C) (NS : NdefX.NScope N ps ["__class__"] (defScope st)) (hn : ps.length = n + 1)
    (hb : defBody st = .Expr (.Call (.Attribute (.Call (.Name "super" p0) [] [] p1) "__init__" p2) [e] [] p3) p4 :: rest) (hfl : fl.length = n) (hf0 : ∀ f ∈ fl, PySem.W.findIn K (.ref C) f = some none) (hz : n ≤ 900)
    (hm : mg "super" = none) (h0 : N[0]? = some self) (har : ((defArgs st).posonlyargs ++ (defArgs st).args).head? = some ar) (hself : ar.arg = self)
    (k1 : (defScope st).names.lookup ("super" : Str) = some .globalImplicit) (k2 : (defScope st).names.lookup ("__class__" : Str) = some .free) (k3 : (defScope st).names.lookup self = some .local) (kf : (defScope st).kind = .function)
    (hbody : ∀ (A : Around) (outer : List Env) (s : Shared) (H : Hp) (E : XK), Room k (A.deeper (NdefX.envF (supF m q st cc cda) f s.heap.objs.size)) → ∃ te, PE (NdefX.ncx CX0 P w K mg base N (supF m q st cc cda) f A outer s H E) e te ∧ PSs (NdefX.ncx CX0 P w K mg base N (supF m q st cc cda) f A outer s H E) rest (tFs K fl 1) ∧ ∀ a ds, R ds → ∀ G0 H0 G H σ (Q : VK), Sl K G0 H0 G H σ (rho0 N (.cls (.ref a) :: ds)) → (∀ v G' H', Go G H G' H' → Q v H') → te σ H Q)
    (hev : ∀ (env : Env), env.scope = defScope st → eval (.Call (.Attribute (.Call (.Name "super" p0) [] [] p1) "__init__" p2) [e] [] p3) env = (do
      let ov ← attributeBase (.Call (.Name "super" p0) [] [] p1) "__init__" env (eval (.Call (.Name "super" p0) [] [] p1) env)
      standAt p2.atName
      let (f, first) ← holding [ov] (getMethod ov "__init__" pl)
      callWith p3 f first (backTo p3 (starEach [e] env)) []))
    (hin : ∀ env : Env, env.scope = defScope st → interactive env = false)
    (hsw : ∀ env : Env, swapsWith (.Call (.Attribute (.Call (.Name "super" p0) [] [] p1) "__init__" p2) [e] [] p3) none p4.line env = pure false)
    (hst : ∀ env : Env, starEach [e] env = (false, eval e env) :: starEach [] env) : FnOk P w K mg base CX0 (k + 1) f fd ps (spXI K C n fl R) := by
  refine fn_sup (N := N) S NS (fun vs H Q E h => ?_) fun A outer s H vs Q E hr h s1 I => ?_
  · obtain ⟨a, us, _, _, rfl, hu, _⟩ := h
    rw [List.length_cons, hu, hn]
  · obtain ⟨te, h1, h2, h3⟩ := hbody A outer s H E hr
    obtain ⟨a, us, G, ds, rfl, hu, ea, eG, ga, ru, hR, q⟩ := h
    have hd := h3 a ds hR
    have nl : (V.ref a :: us).length + 1 ≤ N.length := by
      have := congrArg List.length NS.pre
      rw [List.length_take, List.length_append, List.length_singleton] at this
      rw [List.length_cons]; omega
    rw [hb]
    refine exec_sup S T _ rfl h1 h2 hm h0 har hself k1 k2 k3 kf (hev _ rfl) (hin _ rfl) (hsw _) (hst _) I ?_
    rw [startF_start nl] at I ⊢
    refine ⟨a, rfl, ea, fun b hb nb => ?_⟩
    have eb : Ex H (upd H b (mwHO b a)) := Ex.new hb
    have s0 : Sl K G (upd H b (mwHO b a)) G (upd H b (mwHO b a)) (L2.start N (.ref a :: us)) (rho0 N (.cls (.ref a) :: ds)) := sl_start (eG.trans eb) (.cons (.cls _) ru)
    refine hd G _ G _ _ _ s0 fun v G' H' g => ?_
    refine ⟨Nat.le_of_ble_eq_true rfl, g.hh _ _ upd_same, g.hh _ _ (by rw [upd_ne (Ne.symm nb)]; exact ea), ?_⟩
    refine flds_run (H0 := H) T.oex (by rfl) fl us 1 [] H' (by omega) hf0 (fun j y hy => ?_) (by rw [List.length_nil]; omega) ⟨fun b' o hb' e' => g.hh _ _ (eb _ _ e'), .inl ⟨rfl, g.hh _ _ (by rw [upd_ne (Ne.symm nb)]; exact ea)⟩⟩ fun H2 X2 => ?_
    · unfold L2.start
      have hj := (List.getElem?_eq_some_iff.mp hy).1
      rw [List.getElem?_append_left (by rw [List.length_map, List.length_cons]; omega), List.getElem?_map, show 1 + j = j + 1 from by omega, List.getElem?_cons_succ, hy]; rfl
    · rw [List.append_nil] at X2
      exact q H2 X2
end
/-! ### what an exception's dict stands for -/
def RpX (K : PySem.W.Frag) (G : Hp) (fs : List (Str × V)) (fds : List (Str × D)) : Prop := ∀ f d, fds.lookup f = some d → ∃ u, fs.lookup f = some u ∧ Rp K G u d
theorem RpX.mono {K : PySem.W.Frag} {G G' : Hp} {fs : List (Str × V)} {fds : List (Str × D)} (h : RpX K G fs fds) (e : Ex G G') : RpX K G' fs fds := fun f d hd => let ⟨u, a, b⟩ := h f d hd; ⟨u, a, b.mono e⟩
theorem look_app {α : Type} {l r : List (Str × α)} {f : Str} (h : l.lookup f = none) : (l ++ r).lookup f = r.lookup f := by
  rw [List.lookup_append, h]; rfl
theorem zip_none {α : Type} : ∀ {fl : List Str} {us : List α} {f : Str}, f ∉ fl → (fl.zip us).reverse.lookup f = none
  | [], _, _, _ => rfl
  | _ :: _, [], _, _ => rfl
  | g :: fl, u :: us, f, h => by
    rw [List.zip_cons_cons, List.reverse_cons, look_app (zip_none fun z => h (List.mem_cons_of_mem _ z)), List.lookup_cons]
    have : (f == g) = false := beq_eq_false_iff_ne.mpr fun z => h (by rw [z]; exact List.mem_cons_self)
    rw [this]; rfl
theorem rpx_zip {K : PySem.W.Frag} {G : Hp} : ∀ {fl : List Str} {us : List V} {ds : List D}, fl.Nodup → RpA K G us ds → RpX K G (fl.zip us).reverse (fl.zip ds)
  | [], _, _, _, _ => fun f d h => by cases h
  | _ :: _, [], _, _, r => fun f d h => by cases r; cases h
  | g :: fl, u :: us, _, nd, r => fun f d h => by
    cases r with
    | cons r1 r2 =>
      obtain ⟨n1, n2⟩ := List.nodup_cons.mp nd
      rw [List.zip_cons_cons, List.lookup_cons] at h
      rw [List.zip_cons_cons, List.reverse_cons]
      by_cases e : f = g
      · subst e
        rw [show (f == f) = true from beq_self_eq_true _] at h
        cases h
        refine ⟨u, ?_, r1⟩
        rw [look_app (zip_none n1), List.lookup_cons, beq_self_eq_true]
      · have e' : (f == g) = false := beq_eq_false_iff_ne.mpr e
        rw [e'] at h
        obtain ⟨v, h1, h2⟩ := rpx_zip n2 r2 f d h
        refine ⟨v, ?_, h2⟩
        rw [List.lookup_append, h1]; rfl
/-- the dict of an exception that has just been made: none, where it has no field -/
def XN (K : PySem.W.Frag) (H0 G H : Hp) (dd : Option Addr) (fds : List (Str × D)) : Prop := (dd = none ∧ fds = []) ∨ ∃ d fs, dd = some d ∧ H0 d = none ∧ G d = none ∧ H d = some (.xd fs) ∧ RpX K G fs fds
theorem XN.back {K : PySem.W.Frag} {H0 H1 G H : Hp} {dd : Option Addr} {fds : List (Str × D)} (e : Ex H0 H1) (x : XN K H1 G H dd fds) : XN K H0 G H dd fds := by
  rcases x with x | ⟨d, fs, a, b, c⟩
  · exact .inl x
  · exact .inr ⟨d, fs, a, fresh_back e b, c⟩
/-! ### judgements for what raises -/
def EvW (K : PySem.W.Frag) (W : WX) (te : TE) (ρ : Rho) (C : Addr) (fds : List (Str × D)) : Prop := ∀ G0 H0 G H σ (Q : VK), Sl K G0 H0 G H σ ρ →
  (∀ d G' H', Go G H G' H' → XN K H G' H' d fds → W (.ref C) d σ H') → te σ H Q
def StW (K : PySem.W.Frag) (W : WX) (t : TS) (ρ : Rho) (C : Addr) (fds : List (Str × D)) (ρ1 : Rho) : Prop := ∀ G0 H0 G H σ (D : Ends), Sl K G0 H0 G H σ ρ →
  (∀ d G' H' σ', Ex G G' → Sl K G0 H0 G' H' σ' ρ1 → XN K H0 G' H' d fds → W (.ref C) d σ' H') → t D σ H
section
variable {K : PySem.W.Frag} {W : WX} {ρ ρ1 ρ2 : Rho} {te : TE} {ta : TA} {t u : TS} {C : Addr} {n i : Nat} {fl : List Str} {R : List D → Prop} {ds : List D} {fds : List (Str × D)} {c : TT} {p : Bool}
theorem mk_dat {G0 H0 G H : Hp} {σ : L2.St} {Q : XK} (s : Sl K G0 H0 G H σ ρ) (h : EvS K ta ρ ds) (hn : ds.length = n) (hz : n ≤ 900) (hz0 : 0 < n) (hr : R ds) (nd : fl.Nodup) (hfl : fl.length = n)
    (k : ∀ d G' H', Go G H G' H' → XN K H G' H' d (fl.zip ds) → Q (.ref C) d H') : tMkO C (spXI K C n fl R) [] ta σ H Q := by
  refine h G0 H0 G H σ _ s fun vs G1 H1 g1 r1 => ⟨by rw [r1.length]; omega, fun a ha => ?_⟩
  have ga : G1 a = none := fresh_back g1.gh ha
  refine ⟨a, vs ++ [], G1, ds, rfl, by rw [List.append_nil, r1.length]; exact hn, upd_same, g1.gh.trans (Ex.new ha), ga, by rw [List.append_nil]; exact r1, hr, fun H' X => ⟨rfl, ?_⟩⟩
  rw [List.append_nil] at X
  rcases X.at_ with ⟨e, _⟩ | ⟨d, d0, da, ea, ed⟩
  · have := congrArg List.length e
    rw [List.length_reverse, List.length_zip, r1.length, List.length_nil] at this; omega
  · have d1 : H1 d = none := by rw [upd_ne da] at d0; exact d0
    refine ⟨d, _, ea, ed, d1, k (some d) G1 _ (g1.trans ⟨Ex.refl _, fun b o e => ?_, fun b o e => ?_, fun _ _ z => z⟩) (.inr ⟨d, _, rfl, ?_, fresh_back g1.gh d1, upd_same, rpx_zip nd r1⟩)⟩
    · have e1 := g1.gh b o e
      have ba : b ≠ a := fun z => by rw [z, ha] at e1; cases e1
      rw [upd_ne (fun z => by rw [z, d1] at e1; cases e1), del_ne ba]
      exact X.keep b o ba (by rw [upd_ne ba]; exact e1)
    · have ba : b ≠ a := fun z => by rw [z, ha] at e; cases e
      rw [upd_ne (fun z => by rw [z, d1] at e; cases e), del_ne ba]
      exact X.keep b o ba (by rw [upd_ne ba]; exact e)
    · exact fresh_back g1.hh d1
/-- raise C(..) -/
theorem sw_raise (h : EvS K ta ρ ds) (hn : ds.length = n) (hz : n ≤ 900) (hz0 : 0 < n) (hr : R ds) (nd : fl.Nodup) (hfl : fl.length = n) :
    StW K W (fun _ σ H => tMkO C (spXI K C n fl R) [] ta σ H fun cls d H' => W cls d σ H') ρ C (fl.zip ds) ρ := fun G0 H0 G H σ D s k =>
  mk_dat s h hn hz hz0 hr nd hfl fun d G' H' g xn => k d G' H' σ g.gg (s.step g) (xn.back s.go.hh)
theorem sw_seq (h : StD K t ρ (.nx ρ1)) (k : StW K W u ρ1 C fds ρ2) : StW K W (tSeq t u) ρ C fds ρ2 := fun G0 H0 G H σ D s q =>
  h G0 H0 G H σ { D with nx := u D } s fun G' H' σ' e s' => k G0 H0 G' H' σ' D s' fun d G2 H2 σ2 e2 s2 xn => q d G2 H2 σ2 (e.trans e2) s2 xn
theorem sw_seqL (h : StW K W t ρ C fds ρ2) : StW K W (tSeq t u) ρ C fds ρ2 := fun G0 H0 G H σ D s q => h G0 H0 G H σ { D with nx := u D } s q
theorem sw_ifp (h : EvB K c ρ p) (e : p = true) (k : StW K W t ρ C fds ρ2) : StW K W (tIfS c t u) ρ C fds ρ2 := fun G0 H0 G H σ D s q =>
  h G0 H0 G H σ _ s fun G1 H1 g1 => by
    subst e
    exact k G0 H0 G1 H1 σ D (s.step g1) fun d G' H' σ' e' s' xn => q d G' H' σ' (g1.gg.trans e') s' xn
theorem sw_ifn (h : EvB K c ρ p) (e : p = false) (k : StW K W u ρ C fds ρ2) : StW K W (tIfS c t u) ρ C fds ρ2 := fun G0 H0 G H σ D s q =>
  h G0 H0 G H σ _ s fun G1 H1 g1 => by
    subst e
    exact k G0 H0 G1 H1 σ D (s.step g1) fun d G' H' σ' e' s' xn => q d G' H' σ' (g1.gg.trans e') s' xn
theorem sw_ret (h : EvW K W te ρ C fds) : StW K W (tRet te) ρ C fds ρ := fun G0 H0 G H σ D s q => h G0 H0 G H σ _ s fun d G' H' g xn => q d G' H' σ g.gg (s.step g) (xn.back s.go.hh)
theorem sw_asg {g : TG} (h : EvW K W te ρ C fds) : StW K W (tAsg te g) ρ C fds ρ := fun G0 H0 G H σ D s q => h G0 H0 G H σ _ s fun d G' H' g xn => q d G' H' σ g.gg (s.step g) (xn.back s.go.hh)
theorem sw_drop (h : EvW K W te ρ C fds) : StW K W (tDrop te) ρ C fds ρ := fun G0 H0 G H σ D s q => h G0 H0 G H σ _ s fun d G' H' g xn => q d G' H' σ g.gg (s.step g) (xn.back s.go.hh)
end
/-! ### promises of what may raise -/
def spDX (K : PySem.W.Frag) (n : Nat) (R : List D → D → Prop) (RX : List D → Addr → List (Str × D) → Prop) : Sp := fun vs H Q E => ∃ (G : Hp) (ds : List D), vs.length = n ∧ Ex G H ∧ RpA K G vs ds ∧
  ((∃ d, R ds d ∧ ∀ v G' H', Go G H G' H' → Rp K G' v d → Q v H') ∨ ∃ C fds, RX ds C fds ∧ ∀ d G' H', Go G H G' H' → XN K H G' H' d fds → E (.ref C) d H')
section
variable {P : Program} {w : World} {K : PySem.W.Frag} {mg : Str → Option Value} {base : Heap}
/-- a def that may raise, the exception's context None -/
theorem okN {x qual : Str} {st : Stmt} {f : Addr} {fd : FuncData} {N ps : List Str} {k : Nat} {sp : Sp} (F : Fun K x qual st f fd) (S : FnScope N ps (defScope st)) (len : ∀ vs H Q E, sp vs H Q E → vs.length = ps.length)
    (hb : ∀ (cdv : Value) (A : Around) (outer : List Env) (s : Shared) (H : Hp) (vs : List V) (Q : VK) (E : XK), Room k (A.deeper (envOfC qual (defScope st) s.heap.objs.size f cdv)) → sp vs H Q E →
      ∃ t, PSs (cxOf (L2N.CX P w) P w K mg base N qual (defScope st) f cdv A outer s H E) (defBody st) t ∧ t { nx := fun _ H' => Q .non H', rt := Q } (L2.start N vs) H) : FnOk P w K mg base (L2N.CX P w) (k + 1) f fd ps sp := by
  obtain ⟨_, _, _, _, _, _, cdv, _, _, rfl, lk, hcd⟩ := F.ex
  exact fn_of lk hcd S len fun A outer s H vs Q E hr hsp => hb cdv A outer s H vs Q E hr hsp
end
section
variable {P : Program} {w : World} {K : PySem.W.Frag} {mg : Str → Option Value} {base : Heap} {x qual : Str} {st : Stmt} {f : Addr} {fd : FuncData} {N ps : List Str} {k n : Nat} {R : List D → D → Prop} {RX : List D → Addr → List (Str × D) → Prop}
theorem fn_DX (F : Fun K x qual st f fd) (S : FnScope N ps (defScope st)) (hn : ps.length = n)
    (hbody : ∀ (cdv : Value) (A : Around) (outer : List Env) (s : Shared) (H : Hp) (E : XK), Room k (A.deeper (envOfC qual (defScope st) s.heap.objs.size f cdv)) →
      ∃ t, PSs (cxOf (L2N.CX P w) P w K mg base N qual (defScope st) f cdv A outer s H E) (defBody st) t ∧ (∀ ds d, R ds d → Ends1 K t (rho0 N ds) d) ∧ ∀ ds C fds, RX ds C fds → ∃ ρ1, StW K (fun cls d _ H => E cls d H) t (rho0 N ds) C fds ρ1) : FnOk P w K mg base (L2N.CX P w) (k + 1) f fd ps (spDX K n R RX) := by
  refine okN F S (fun vs H Q E h => ?_) (fun cdv A outer s H vs Q E hr h => ?_)
  · obtain ⟨_, _, h, _⟩ := h
    rw [h, hn]
  · obtain ⟨t, h1, h2, h3⟩ := hbody cdv A outer s H E hr
    obtain ⟨G, ds, hl, e, r, h⟩ := h
    refine ⟨t, h1, ?_⟩
    have s0 := sl_start (N := N) e r
    rcases h with ⟨d, hR, q⟩ | ⟨C, fds, hR, q⟩
    · cases h2 ds d hR with
      | rt h => exact h G H G H _ _ s0 fun v G' H' g r => q v G' H' g r
      | nx h => exact h G H G H _ _ s0 fun G' H' σ' _ s' => q .non G' H' s'.go .non
    · obtain ⟨ρ1, h⟩ := h3 ds C fds hR
      exact h G H G H _ _ s0 fun d G' H' σ' eG s' xn => q d G' H' s'.go xn
/-- a def that raises nothing, among such -/
theorem fn_up {sp : Sp} (F : FnOk P w K mg base CX0 k f fd ps sp) (h0 : ∀ vs H Q E E', sp vs H Q E → sp vs H Q E') : FnOk P w K mg base (L2N.CX P w) k f fd ps sp := by
  refine ⟨fun vs H Q E h => F.len vs H Q E h, fun A outer s H args us vs Q E hr e0 hb r h => ?_⟩
  refine codeAny_mono (F.run A outer s H args us vs Q E hr e0 hb r h) fun res s' hq => ?_
  cases res with
  | error e => exact hq.elim
  | ok fl =>
    cases fl with
    | ret u => exact hq
    | next => exact hq
    | brk => exact hq
    | cont => exact hq
end
end Ax

namespace Ax
open PySem PySem.Spec PyProof.Rows L2 Evl
/-! ### promises -/
structure CalX (P : Program) (w : World) (K : PySem.W.Frag) (mg : Str → Option Value) (base : Heap) (x : Str) (k : Nat) (ps : List Str) (sp : Sp) : Prop where
  ex : ∃ (f : Addr) (fd : FuncData), FnOk P w K mg base (L2N.CX P w) k f fd ps sp ∧ mg x = some (.ref f) ∧ PySem.W.keepIn K (.ref f) = true ∧ Binds K fd ps []
structure CalMX (P : Program) (w : World) (K : PySem.W.Frag) (mg : Str → Option Value) (base : Heap) (C : Addr) (x : Str) (k : Nat) (ps : List Str) (sp : Sp) : Prop where
  ex : ∃ (f : Addr) (fd : FuncData), FnOk P w K mg base (L2N.CX P w) k f fd ps sp ∧ PySem.W.findIn K (.ref C) x = some (some (.ref f)) ∧ PySem.W.isFn K (.ref f) = true ∧ PySem.W.keepIn K (.ref f) = true ∧ Binds K fd ps [] ∧ PySem.W.fnIn K f = true
structure CalDX (P : Program) (w : World) (K : PySem.W.Frag) (mg : Str → Option Value) (base : Heap) (x : Str) (k : Nat) (ps : List Str) (sp : Sp) (dv : V) : Prop where
  ex : ∃ (f : Addr) (fd : FuncData) (ds : List Value), FnOk P w K mg base (L2N.CX P w) k f fd ps sp ∧ mg x = some (.ref f) ∧ PySem.W.keepIn K (.ref f) = true ∧ Vals [dv] ds ∧ Binds K fd ps ds
structure CalXI (P : Program) (w : World) (K : PySem.W.Frag) (mg : Str → Option Value) (base : Heap) (C : Addr) (k : Nat) (ps : List Str) (sp : Sp) : Prop where
  ex : ∃ (f : Addr) (fd : FuncData), FnOk P w K mg base CX0 k f fd ps sp ∧ PySem.W.findIn K (.ref C) "__init__" = some (some (.ref f)) ∧ PySem.W.typeIn K (.ref f) = some (.type "function") ∧ Binds K fd ps []
theorem spD_e {K : PySem.W.Frag} {n : Nat} {R : List D → D → Prop} : ∀ vs H Q E E', spD K n R vs H Q E → spD K n R vs H Q E' := fun _ _ _ _ _ h => h
/-- the promise of one that raises nothing, as of one that may -/
theorem spDX_up {K : PySem.W.Frag} {n : Nat} {R : List D → D → Prop} {RX : List D → Addr → List (Str × D) → Prop} (h0 : ∀ ds C fds, ¬ RX ds C fds) : ∀ vs H Q E, spDX K n R RX vs H Q E → spD K n R vs H Q E := fun vs H Q E ⟨G, ds, hl, e, r, h⟩ => by
  rcases h with ⟨d, hR, q⟩ | ⟨C, fds, hR, _⟩
  · exact ⟨G, ds, d, hl, e, r, hR, q⟩
  · exact absurd hR (h0 _ _ _)
theorem CalM.up {P : Program} {w : World} {K : PySem.W.Frag} {mg : Str → Option Value} {base : Heap} {C : Addr} {x : Str} {k n : Nat} {ps : List Str} {R : List D → D → Prop} (c : CalM P w K mg base C x k ps (spD K n R)) :
    CalMX P w K mg base C x k ps (spDX K n R fun _ _ _ => False) := by
  obtain ⟨f, fd, F, r⟩ := c.ex
  exact ⟨f, fd, (fn_up F spD_e).imp (spDX_up fun _ _ _ z => z), r⟩
section
variable {P : Program} {w : World} {K : PySem.W.Frag} {mg : Str → Option Value} {base : Heap} {x q : Str} {k n : Nat} {ps N : List Str} {st : Stmt} {C f : Addr} {R : List D → D → Prop} {RX : List D → Addr → List (Str × D) → Prop} {dv : V}
theorem HasM.calX (h : HasM K C x q st ps f) (Sc : FnScope N ps (defScope st)) (hn : ps.length = n)
    (hbody : ∀ (cdv : Value) (A : Around) (outer : List Env) (s : Shared) (H : Hp) (E : XK), Room k (A.deeper (envOfC q (defScope st) s.heap.objs.size f cdv)) →
      ∃ t, PSs (cxOf (L2N.CX P w) P w K mg base N q (defScope st) f cdv A outer s H E) (defBody st) t ∧ (∀ ds d, R ds d → Ends1 K t (rho0 N ds) d) ∧ ∀ ds C fds, RX ds C fds → ∃ ρ1, StW K (fun cls d _ H => E cls d H) t (rho0 N ds) C fds ρ1) : CalMX P w K mg base C x (k + 1) ps (spDX K n R RX) := by
  obtain ⟨fd, F, b⟩ := h.ex
  exact ⟨f, fd, fn_DX F Sc hn hbody, h.at_, h.fn, F.kp, b, fn_in F⟩
theorem HasD.calX (h : HasD K mg x st ps dv) (Sc : FnScope N ps (defScope st)) (hn : ps.length = n)
    (hbody : ∀ (f : Addr) (cdv : Value) (A : Around) (outer : List Env) (s : Shared) (H : Hp) (E : XK), Room k (A.deeper (envOfC x (defScope st) s.heap.objs.size f cdv)) →
      ∃ t, PSs (cxOf (L2N.CX P w) P w K mg base N x (defScope st) f cdv A outer s H E) (defBody st) t ∧ (∀ ds d, R ds d → Ends1 K t (rho0 N ds) d) ∧ ∀ ds C fds, RX ds C fds → ∃ ρ1, StW K (fun cls d _ H => E cls d H) t (rho0 N ds) C fds ρ1) :
    CalX P w K mg base x (k + 1) ps (spDX K n R RX) ∧ CalDX P w K mg base x (k + 1) ps (spDX K n R RX) dv := by
  obtain ⟨f, fd, F, m, b, ds, hv, b2⟩ := h.ex
  have ok : FnOk P w K mg base (L2N.CX P w) (k + 1) f fd ps (spDX K n R RX) := by
    obtain ⟨⟨oc, od, dV, kV, doc, pm, an, cdv, ct, osl, rfl, lk, hcd, hd, hk⟩, _⟩ := F
    refine fn_of lk hcd Sc (fun vs H Q E h => ?_) fun A outer s H vs Q E hr h => ?_
    · obtain ⟨_, _, h, _⟩ := h
      rw [h, hn]
    · obtain ⟨t, h1, h2, h3⟩ := hbody f cdv A outer s H E hr
      obtain ⟨G, ds, hl, e, r, h⟩ := h
      refine ⟨t, h1, ?_⟩
      have s0 := sl_start (N := N) e r
      rcases h with ⟨d, hR, q⟩ | ⟨C, fds, hR, q⟩
      · cases h2 ds d hR with
        | rt h => exact h G H G H _ _ s0 fun v G' H' g r => q v G' H' g r
        | nx h => exact h G H G H _ _ s0 fun G' H' σ' _ s' => q .non G' H' s'.go .non
      · obtain ⟨ρ1, h⟩ := h3 ds C fds hR
        exact h G H G H _ _ s0 fun d G' H' σ' eG s' xn => q d G' H' s'.go xn
  exact ⟨⟨f, fd, ok, m, F.kp, b⟩, ⟨f, fd, ds, ok, m, F.kp, hv, b2⟩⟩
end
/-! ### calls -/
section
variable {X : Cx} {W : WX} {x m : Str} {k : Nat} {ps : List Str} {sp : Sp} {e o : Expr} {es : List Expr} {t ta : TA} {to : TE} {p pos apos : Pos} {C : Addr} {dv : V}
theorem passLN : Passes (L2N.CX X.prog X.w) X E0 := fun _ _ _ _ _ _ _ h => by
  obtain ⟨_, _, _, _, _, _, _, _, _, _, _, _, z⟩ := h
  exact z.elim
theorem takesN0 : L2N.Takes X (fun _ _ _ _ => False) := fun _ _ x => by
  obtain ⟨_, _, _, _, _, _, _, _, _, _, _, _, _, _, _, _, z⟩ := x
  exact z.elim
theorem pmk_oexN {CX : CXT} {fI : Addr} {fd : FuncData} (T : OexC X.K C) (iC : PySem.W.findIn X.K (.ref C) "__init__" = some (some (.ref fI))) (tI : PySem.W.typeIn X.K (.ref fI) = some (.type "function"))
    (F1 : FnOk X.prog X.w X.K X.mg X.base CX k fI fd ps sp) (hr : Room (k + 1) X.A) (hb : Binds X.K fd ps []) (hx : Passes CX X (fun _ _ _ => False)) (hg : Gl X x) (hm : X.mg x = some (.ref C)) (ha : PA X (e :: es) ta)
    (hdb : (x == ("__debug__" : Str)) = false := by decide) (he : starEach (e :: es) X.env = (false, eval e X.env) :: starEach es X.env := by rfl) (hpl : (backTo pos (starEach es X.env)).any (·.1) = false := by rfl) : L2N.PMk X (.Call (.Name x p) (e :: es) [] pos) (tMkO C sp [] ta) := by
  intro pins s σ H Q I h
  obtain ⟨nm, q, N, bs, bm, sn, sub, ab, col, dd, k0, k1, k2, k3, k5, hC, hbm⟩ := T.cls
  refine wpAny_Call_Name_kw (ld_glob I hg hm ?_ hdb)
  refine PySem.W.callWith_K (h₀ := X.base) I.ok.mod.kin T.kC (thn (ha.run pos pins s σ H _ I h) fun us s1 w1 => ?_) he hpl
  obtain ⟨vs, H1, I1, r1, hz, q1⟩ := w1
  refine ⟨I1.kIn, ?_⟩
  show wpAny _ _ (call (.ref C) us) _ _ _
  obtain ⟨hp, g, dr, tk, os⟩ := s1
  let a := hp.objs.size + 1
  have ha1 : hp.objs.size ≤ a := Nat.le_succ _
  have hq := q1 a (I1.hok.fresh ha1)
  rw [List.append_nil] at hq
  let hp2 := (hp.push (PySem.W.kdv_tup us)).push (PySem.HandSPX.excO C hp.objs.size)
  have keep : ∀ b o, hp.get? b = some o → hp2.get? b = some o := fun b o z => Heap.get?_push_of_some _ (Heap.get?_push_of_some _ z)
  have at_a : hp2.get? a = some (PySem.HandSPX.excO C hp.objs.size) := by
    show ((hp.push (PySem.W.kdv_tup us)).push (PySem.HandSPX.excO C hp.objs.size)).get? (hp.objs.size + 1) = _
    heap_get
  have I2 : Inv X pins σ (upd H1 a (exo a C none)) ⟨hp2, g, dr, tk, os⟩ := I1.laid (t' := tk) (a := a) (o := exo a C none) (h' := hp2) keep ha1 (exo_ok at_a)
  have vals : Vals (V.ref a :: vs) (Value.ref a :: us) := .cons rfl r1
  have lens : (Value.ref a :: us).length = ps.length := by
    have z := vals.length
    rw [F1.len _ _ _ _ hq] at z
    exact z.symm
  have bnd := hb _ (Value.ref a :: us) I2.kIn (by rw [List.append_nil]; exact lens)
  rw [List.append_nil] at bnd
  have small : us.length ≤ sizeLine := by
    rw [← Paired.length r1, sizeLine_eq]; omega
  refine wpAny_call (PySem.HandSPX.call_own F.excBase_ValueError (fun Y => PySem.HandSPX.refsVE_contains Y bm hbm) (I1.kIn _ _ hC) (PySem.W.looks_findIn I1.kIn iC) (fun self => PySem.W.bind_fn I1.kIn self tI) small
    (codeAny_mono (F1.run _ X.stack _ _ ⟨Value.ref a :: us, []⟩ (Value.ref a :: us) _ _ (fun _ _ _ => False) (hr.make C us []) (I2.env0.make C us []) bnd vals hq) fun r s' z => ?_))
  cases r with
  | error er => exact hx pins σ _ _ er s' I2 z
  | ok fl =>
    cases fl with
    | ret u =>
      obtain ⟨v, H2, os2, bare2, un2, hok2, rv, ev, d, fs, ea, ed, hd1, q2⟩ := z
      subst ev
      obtain ⟨h2, g2, d2, t2, os'⟩ := s'
      obtain ⟨t0, G, J, kG, ge, hoe, na⟩ := mk_end0 (d2 := d2) (t2 := t2) I1 ha1 keep un2 hok2 os2 bare2 ea ed hd1
      exact ⟨rv, a, _, _, ⟨G, g2, d2, t2, os'⟩, _, .ref C, some d, rfl, J, kG, ge, hoe, ⟨rfl, rfl, fun vs z => by cases z; rfl⟩, rfl, rfl, na, rfl, bare2, raises_own T.exC T.tyC, q2⟩
    | next => exact z.elim
    | brk => exact z.elim
    | cont => exact z.elim
theorem pmk_cal (c : CalXI X.prog X.w X.K X.mg X.base C k ps sp) (T : OexC X.K C) (hr : Room (k + 1) X.A) (hm : X.mg x = some (.ref C)) (ha : PA X (e :: es) ta) (hg : Gl X x := by rfl) (hdb : (x == ("__debug__" : Str)) = false := by decide)
    (he : starEach (e :: es) X.env = (false, eval e X.env) :: starEach es X.env := by rfl) (hpl : (backTo pos (starEach es X.env)).any (·.1) = false := by rfl) : L2N.PMk X (.Call (.Name x p) (e :: es) [] pos) (tMkO C sp [] ta) := by
  obtain ⟨f, fd, F, iC, tI, b⟩ := c.ex
  exact pmk_oexN T iC tI F hr b pass0 hg hm ha hdb he hpl
theorem pe_calS (c : CalX X.prog X.w X.K X.mg X.base x k ps sp) (tk : L2N.Takes X W) (hr : Room k X.A) (ha : PA X (e :: es) t) (hg : Gl X x := by rfl) (hdb : (x == ("__debug__" : Str)) = false := by decide)
    (he : starEach (e :: es) X.env = (false, eval e X.env) :: starEach es X.env := by rfl) (hpl : (backTo pos (starEach es X.env)).any (·.1) = false := by rfl) : PE X (.Call (.Name x p) (e :: es) [] pos) (tCallS sp (WE W) t) := by
  obtain ⟨f, fd, F, m, kp, b⟩ := c.ex
  exact pe_callS F hr hg m kp b (fun σ => L2N.passAt tk σ) ha hdb he hpl
/-- .. where it raises nothing -/
theorem pe_calX (c : CalX X.prog X.w X.K X.mg X.base x k ps sp) (hr : Room k X.A) (ha : PA X (e :: es) t) (hg : Gl X x := by rfl) (hdb : (x == ("__debug__" : Str)) = false := by decide)
    (he : starEach (e :: es) X.env = (false, eval e X.env) :: starEach es X.env := by rfl) (hpl : (backTo pos (starEach es X.env)).any (·.1) = false := by rfl) : PE X (.Call (.Name x p) (e :: es) [] pos) (tCall sp [] E0 t) := by
  obtain ⟨f, fd, F, m, kp, b⟩ := c.ex
  exact pe_call F hr hg m kp b .nil passLN ha hdb he hpl
theorem pe_calDX (c : CalDX X.prog X.w X.K X.mg X.base x k ps sp dv) (hr : Room k X.A) (ha : PA X (e :: es) t) (hg : Gl X x := by rfl) (hdb : (x == ("__debug__" : Str)) = false := by decide)
    (he : starEach (e :: es) X.env = (false, eval e X.env) :: starEach es X.env := by rfl) (hpl : (backTo pos (starEach es X.env)).any (·.1) = false := by rfl) : PE X (.Call (.Name x p) (e :: es) [] pos) (tCall sp [dv] E0 t) := by
  obtain ⟨f, fd, ds, F, m, kp, hv, b⟩ := c.ex
  exact pe_call F hr hg m kp b hv passLN ha hdb he hpl
/-- o.m(..), a method that may raise -/
def tMethW (C : Addr) (m : Str) (sp : Sp) (E : L2.St → XK) (to : TE) (t : TA) : TE := fun σ H Q => to σ H fun x H1 => ∃ a dx fs, x = .ref a ∧ H1 a = some (.ins C dx fs) ∧ fs.lookup m = none ∧ t σ H1 fun vs H2 => sp (x :: vs) H2 Q (E σ)
theorem pe_methW {pl : Sem Bool} (ho : PE X o to) (M : CCls X.K X.mg x C) (c : CalMX X.prog X.w X.K X.mg X.base C m k ps sp) (tk : L2N.Takes X W) (hr : Room k X.A) (ha : PA X (e :: es) t)
    (hst : starEach (e :: es) X.env = (false, eval e X.env) :: starEach es X.env := by rfl) (hpl : (backTo pos (starEach es X.env)).any (·.1) = false := by rfl)
    (hev : eval (.Call (.Attribute o m apos) (e :: es) [] pos) X.env = (do
      let ov ← eval o X.env
      standAt apos.atName
      let (f, first) ← holding [ov] (getMethod ov m pl)
      callWith pos f first (backTo pos (starEach (e :: es) X.env)) (backToKw pos (keywordEach [] X.env))) := by rfl) :
    PE X (.Call (.Attribute o m apos) (e :: es) [] pos) (tMethW C m sp (WE W) to t) := by
  refine ⟨fun pins s σ H Q I h => PySem.W.methodCall_KW (pl := pl) (thn (ho.run pins s σ H _ I h) fun u s1 z => ?_) hev⟩
  obtain ⟨xx, H1, I1, rx, a, dx, fs, ex, ea, l, q⟩ := z
  subst ex
  obtain rfl : u = Value.ref a := rx
  obtain ⟨f, fd, F, mm, fn, kp, b, fi⟩ := c.ex
  refine getmeth_ok I1 ea M.cl ⟨mm, fn, kp⟩ l ?_
  refine PySem.W.callWith_K (first := [.ref a]) (h₀ := X.base) I1.ok.mod.kin kp (thn (ha.run pos pins s1 σ H1 _ I1 q) fun us s2 z2 => ?_) hst hpl
  obtain ⟨vs, H2, I2, r, q2⟩ := z2
  exact ⟨I2.kIn, run_fnS (us := .ref a :: us) (vs := .ref a :: vs) F hr b (L2N.passAt tk σ) I2 (.cons rfl r) q2⟩
/-- o.f(..), f a field that holds an instance with a __call__ -/
def tCallF (K : PySem.W.Frag) (S : Addr → Sp → Prop) (E : L2.St → XK) (m : Str) (to : TE) (t : TA) : TE := fun σ H Q => to σ H fun x H1 => ∃ a C dx gs b C' sp, x = V.ref a ∧ H1 a = some (.ins C dx gs) ∧ Cls K C ∧ NoAttr K C m ∧ gs.lookup m = some (V.ref b) ∧ S C' sp ∧
  t σ H1 fun vs H2 => (∃ dx gs, H2 b = some (.ins C' dx gs)) ∧ sp (V.ref b :: vs) H2 Q (E σ)
theorem pe_callF {pl : Sem Bool} {S : Addr → Sp → Prop} (ho : PE X o to) (c : ∀ C sp, S C sp → ∃ ps, CalMX X.prog X.w X.K X.mg X.base C "__call__" k ps sp) (tk : L2N.Takes X W) (hr : Room k X.A) (ha : PA X (e :: es) t)
    (hst : starEach (e :: es) X.env = (false, eval e X.env) :: starEach es X.env := by rfl) (hpl : (backTo pos (starEach es X.env)).any (·.1) = false := by rfl)
    (hev : eval (.Call (.Attribute o m apos) (e :: es) [] pos) X.env = (do
      let ov ← eval o X.env
      standAt apos.atName
      let (f, first) ← holding [ov] (getMethod ov m pl)
      callWith pos f first (backTo pos (starEach (e :: es) X.env)) (backToKw pos (keywordEach [] X.env))) := by rfl) :
    PE X (.Call (.Attribute o m apos) (e :: es) [] pos) (tCallF X.K S (WE W) m to t) := by
  refine ⟨fun pins s σ H Q I h => PySem.W.methodCall_KW (pl := pl) (thn (ho.run pins s σ H _ I h) fun u s1 z => ?_) hev⟩
  obtain ⟨xx, H1, I1, rx, a, C, dx, gs, b, C', sp, ex, ea, cl, na, l, hS, q⟩ := z
  subst ex
  obtain rfl : u = Value.ref a := rx
  refine getmeth_fld I1 ea cl na l fun u2 s2 I2 r2 => ?_
  obtain rfl : u2 = Value.ref b := r2
  obtain ⟨ps, cm⟩ := c C' sp hS
  obtain ⟨f, fd, F, mm, fn, kp, bb, fi⟩ := cm.ex
  refine _root_.StX.callO_with (thn (ha.run pos pins s2 σ H1 _ I2 q) fun us s3 z3 => ?_) hst hpl
  obtain ⟨vs, H2, I3, r, ⟨dx2, gs2, hi⟩, q2⟩ := z3
  obtain ⟨mA, O, _⟩ := ins_get I3.hok hi
  obtain ⟨od, J, _⟩ := O.look
  refine ⟨⟨C', _, _, J, rfl⟩, ?_⟩
  have hl := F.len _ _ _ _ q2
  have rr : Vals (V.ref b :: vs) (Value.ref b :: us) := .cons rfl r
  refine wpAny_call (PySem.W.kco_code I3.kIn J rfl mm fn fi (codeAny_mono (F.run X.A X.stack s3 H2 ⟨.ref b :: us, []⟩ (.ref b :: us) (.ref b :: vs) Q (WE W σ) hr I3.env0 (by
    have := bb s3 (.ref b :: us) I3.kIn (by rw [List.append_nil, ← rr.length]; exact hl)
    simpa using this) rr q2) fun res s' hq => ?_))
  cases res with
  | error e => exact L2N.passAt tk σ pins H2 s3 e s' I3 hq
  | ok fl =>
    cases fl with
    | ret w => exact I3.after hq
    | next => exact False.elim hq
    | brk => exact False.elim hq
    | cont => exact False.elim hq
end
section
variable {K : PySem.W.Frag} {W : WX} {ρ ρ1 : Rho} {ta : TA} {ds : List D} {d : D} {n i j : Nat} {R : List D → D → Prop} {RX : List D → Addr → List (Str × D) → Prop} {E : L2.St → XK} {C C' : Addr} {fds : List (Str × D)} {x l : Addr} {f g m : Str} {r : D} {es es' : List D} {gs : List (Str × D)} {S : Addr → Sp → Prop} {dv : V} {dd : D}
theorem ev_callS (h : EvS K ta ρ ds) (hn : ds.length = n) (hr : R ds d) : EvD K (tCallS (spDX K n R RX) E ta) ρ d := fun G0 H0 G H σ Q s k =>
  h G0 H0 G H σ _ s fun vs G1 H1 g1 r1 => ⟨G1, ds, by rw [r1.length]; exact hn, g1.gh, r1, .inl ⟨d, hr, fun v G' H' g r => k v G' H' (g1.trans g) r⟩⟩
theorem ew_callS (h : EvS K ta ρ ds) (hn : ds.length = n) (hr : RX ds C fds) : EvW K W (tCallS (spDX K n R RX) (WE W) ta) ρ C fds := fun G0 H0 G H σ Q s k =>
  h G0 H0 G H σ _ s fun vs G1 H1 g1 r1 => ⟨G1, ds, by rw [r1.length]; exact hn, g1.gh, r1, .inr ⟨C, fds, hr, fun d G' H' g xn => k d G' H' (g1.trans g) (xn.back g1.hh)⟩⟩
theorem ev_callX {E : XK} (h : EvS K ta ρ ds) (hn : ds.length = n) (hr : R ds d) : EvD K (tCall (spDX K n R RX) [] E ta) ρ d := fun G0 H0 G H σ Q s k =>
  h G0 H0 G H σ _ s fun vs G1 H1 g1 r1 => ⟨G1, ds, by rw [List.append_nil, r1.length]; exact hn, g1.gh, by rw [List.append_nil]; exact r1, .inl ⟨d, hr, fun v G' H' g r => k v G' H' (g1.trans g) r⟩⟩
theorem ev_callDX {E : XK} (h : EvS K ta ρ ds) (hn : ds.length + 1 = n) (hv : ∀ H, Rp K H dv dd) (hr : R (ds ++ [dd]) d) : EvD K (tCall (spDX K n R RX) [dv] E ta) ρ d := fun G0 H0 G H σ Q s k =>
  h G0 H0 G H σ _ s fun vs G1 H1 g1 r1 => ⟨G1, ds ++ [dd], by rw [List.length_append, r1.length]; exact hn, g1.gh, r1.append (.cons (hv G1) .nil), .inl ⟨d, hr, fun v G' H' g r => k v G' H' (g1.trans g) r⟩⟩
theorem callF_dat {G0 H0 G H : Hp} {σ : L2.St} {Q : VK} (s : Sl K G0 H0 G H σ ρ) (hb : ρ[i]? = some (some (.box x l C f (.ins C' gs) g es))) (cl : Cls K C) (na : NoAttr K C f) (h : EvS K ta ρ ds) (hS : S C' (spDX K n R RX)) (hn : ds.length + 1 = n)
    (k : ∀ vs G1 H1, Go G H G1 H1 → RpA K G1 vs (.ins C' gs :: ds) → spDX K n R RX vs H1 Q (E σ)) : tCallF K S E f (tVar i) ta σ H Q := by
  obtain ⟨b1, _, _, ne, dx, u, ws, b2, b3, b4, b5⟩ := s.boxAt hb
  cases b3 with
  | ins hg ra =>
    rename_i b dy us
    refine ⟨.ref x, b1, x, C, dx, _, b, C', _, rfl, b2, cl, na, look_hd, hS, ?_⟩
    refine h G0 H0 G H σ _ s fun vs G1 H1 g1 r1 => ⟨⟨_, _, g1.gh _ _ (g1.gg _ _ hg)⟩, ?_⟩
    exact k (.ref b :: vs) G1 H1 g1 (.cons (Rp.ins (g1.gg _ _ hg) (ra.mono g1.gg)) r1)
theorem ev_callF (hb : ρ[i]? = some (some (.box x l C f (.ins C' gs) g es))) (cl : Cls K C) (na : NoAttr K C f) (h : EvS K ta ρ ds) (hS : S C' (spDX K n R RX)) (hn : ds.length + 1 = n) (hr : R (.ins C' gs :: ds) d) : EvD K (tCallF K S E f (tVar i) ta) ρ d := fun G0 H0 G H σ Q s k =>
  callF_dat s hb cl na h hS hn fun vs G1 H1 g1 r1 => ⟨G1, _, by rw [r1.length, List.length_cons]; exact hn, g1.gh, r1, .inl ⟨d, hr, fun v G' H' g r => k v G' H' (g1.trans g) r⟩⟩
theorem ew_callF {C2 : Addr} (hb : ρ[i]? = some (some (.box x l C f (.ins C' gs) g es))) (cl : Cls K C) (na : NoAttr K C f) (h : EvS K ta ρ ds) (hS : S C' (spDX K n R RX)) (hn : ds.length + 1 = n) (hr : RX (.ins C' gs :: ds) C2 fds) : EvW K W (tCallF K S (WE W) f (tVar i) ta) ρ C2 fds := fun G0 H0 G H σ Q s k =>
  callF_dat s hb cl na h hS hn fun vs G1 H1 g1 r1 => ⟨G1, _, by rw [r1.length, List.length_cons]; exact hn, g1.gh, r1, .inr ⟨C2, fds, hr, fun d G' H' g xn => k d G' H' (g1.trans g) (xn.back g1.hh)⟩⟩
end
/-! ### methods that change a box and may raise -/
def spMX (K : PySem.W.Frag) (C : Addr) (n : Nat) (f g : Str) (R : D → List D → List D → D → List D → Prop) (RX : D → List D → List D → Addr → List (Str × D) → Prop) : Sp := fun vs H Q E => ∃ (x l dx : Addr) (u : V) (ws us : List V) (G : Hp) (ds : List D) (r : D) (es : List D),
  vs = .ref x :: us ∧ us.length + 1 = n ∧ x ≠ l ∧ H x = some (.ins C dx [(f, u), (g, .ref l)]) ∧ H l = some (.lst ws) ∧ G x = none ∧ G l = none ∧ Ex G H ∧ Rp K G u r ∧ RpA K G ws es ∧ RpA K G us ds ∧
  ((∃ d es', R r es ds d es' ∧ ∀ v G' H' dy u' ws', Go G (del2 H x l) G' H' → G' x = none → G' l = none → H' x = some (.ins C dy [(f, u'), (g, .ref l)]) → Rp K G' u' r → H' l = some (.lst ws') → RpA K G' ws' es' → Rp K G' v d → Q v H') ∨
    ∃ C' fds, RX r es ds C' fds ∧ ∀ dd G' H' dy u' ws', Go G (del2 H x l) G' H' → G' x = none → G' l = none → H' x = some (.ins C dy [(f, u'), (g, .ref l)]) → Rp K G' u' r → H' l = some (.lst ws') → RpA K G' ws' es → XN K H G' H' dd fds → E (.ref C') dd H')
section
variable {P : Program} {w : World} {K : PySem.W.Frag} {mg : Str → Option Value} {base : Heap} {nm qual : Str} {st : Stmt} {fa : Addr} {fd : FuncData} {N ps : List Str} {k n : Nat} {C : Addr} {f g : Str} {R : D → List D → List D → D → List D → Prop} {RX : D → List D → List D → Addr → List (Str × D) → Prop}
theorem fn_MX (F : Fun K nm qual st fa fd) (Sc : FnScope N ps (defScope st)) (hn : ps.length = n)
    (hbody : ∀ (cdv : Value) (A : Around) (outer : List Env) (s : Shared) (H : Hp) (E : XK), Room k (A.deeper (envOfC qual (defScope st) s.heap.objs.size fa cdv)) →
      ∃ t, PSs (cxOf (L2N.CX P w) P w K mg base N qual (defScope st) fa cdv A outer s H E) (defBody st) t ∧ (∀ x l r es ds d es', R r es ds d es' → RetM K t (rhoB N x l C f r g es ds) x l C f r g d es') ∧
        ∀ x l r es ds C' fds, RX r es ds C' fds → ∃ ρ1, ρ1[0]? = some (some (.box x l C f r g es)) ∧ StW K (fun cls d _ H => E cls d H) t (rhoB N x l C f r g es ds) C' fds ρ1) : FnOk P w K mg base (L2N.CX P w) (k + 1) fa fd ps (spMX K C n f g R RX) := by
  refine okN F Sc (fun vs H Q E h => ?_) (fun cdv A outer s H vs Q E hr h => ?_)
  · obtain ⟨_, _, _, _, _, us, _, _, _, _, h, hu, _⟩ := h
    rw [h, List.length_cons, hu, hn]
  · obtain ⟨t, h1, h2, h3⟩ := hbody cdv A outer s H E hr
    obtain ⟨x, l, dx, u, ws, us, G, ds, r, es, rfl, hu, ne, hx, hl, gx, gl, e, ru, rw', rs, h⟩ := h
    refine ⟨t, h1, ?_⟩
    have s0 := sl_startB (N := N) e ne hx hl gx gl ru rw' rs
    rcases h with ⟨d, es', hR, q⟩ | ⟨C', fds, hR, q⟩
    · refine h2 x l r es ds d es' hR G (del2 H x l) G H _ _ s0 (fun v G' H' σ' ρ' eG s' h4 rv => ?_) (fun hd G' H' σ' ρ' eG s' h4 => ?_)
      · obtain ⟨_, ⟨a2, a3⟩, ⟨a4, a5⟩, _, dy, u', ws', b1, b2, b3, b4⟩ := s'.boxAt h4
        exact q v G' H' dy u' ws' s'.go a3 a5 b1 b2 b3 b4 rv
      · obtain ⟨_, ⟨a2, a3⟩, ⟨a4, a5⟩, _, dy, u', ws', b1, b2, b3, b4⟩ := s'.boxAt h4
        exact q .non G' H' dy u' ws' s'.go a3 a5 b1 b2 b3 b4 (by rw [hd]; exact .non)
    · obtain ⟨ρ1, hb, hw⟩ := h3 x l r es ds C' fds hR
      refine hw G (del2 H x l) G H _ _ s0 fun dd G' H' σ' eG s' xn => ?_
      obtain ⟨_, ⟨a2, a3⟩, ⟨a4, a5⟩, _, dy, u', ws', b1, b2, b3, b4⟩ := s'.boxAt hb
      refine q dd G' H' dy u' ws' s'.go a3 a5 b1 b2 b3 b4 ?_
      rcases xn with xn | ⟨d, fs, rfl, hd, gd, e, r⟩
      · exact .inl xn
      have nx : d ≠ x := fun z => by rw [z, b1] at e; cases e
      have nl : d ≠ l := fun z => by rw [z, b3] at e; cases e
      rw [del2_ne nx nl] at hd
      exact .inr ⟨d, fs, rfl, hd, gd, e, r⟩
theorem HasM.calMX (h : HasM K C nm qual st ps fa) (Sc : FnScope N ps (defScope st)) (hn : ps.length = n)
    (hbody : ∀ (cdv : Value) (A : Around) (outer : List Env) (s : Shared) (H : Hp) (E : XK), Room k (A.deeper (envOfC qual (defScope st) s.heap.objs.size fa cdv)) →
      ∃ t, PSs (cxOf (L2N.CX P w) P w K mg base N qual (defScope st) fa cdv A outer s H E) (defBody st) t ∧ (∀ x l r es ds d es', R r es ds d es' → RetM K t (rhoB N x l C f r g es ds) x l C f r g d es') ∧
        ∀ x l r es ds C' fds, RX r es ds C' fds → ∃ ρ1, ρ1[0]? = some (some (.box x l C f r g es)) ∧ StW K (fun cls d _ H => E cls d H) t (rhoB N x l C f r g es ds) C' fds ρ1) : CalMX P w K mg base C nm (k + 1) ps (spMX K C n f g R RX) := by
  obtain ⟨fd, F, b⟩ := h.ex
  exact ⟨fa, fd, fn_MX F Sc hn hbody, h.at_, h.fn, F.kp, b, fn_in F⟩
end
section
variable {K : PySem.W.Frag} {W : WX} {ρ : Rho} {ta : TA} {ds : List D} {d : D} {n i j : Nat} {E : L2.St → XK} {C C' : Addr} {fds : List (Str × D)} {x l : Addr} {f g m : Str} {r : D} {es es' : List D} {R : D → List D → List D → D → List D → Prop} {RX : D → List D → List D → Addr → List (Str × D) → Prop}
theorem methW_dat {G0 H0 G H : Hp} {σ : L2.St} {Q : VK} (s : Sl K G0 H0 G H σ ρ) (hb : ρ[j]? = some (some (.box x l C f r g es))) (h1 : ¬ m = f) (h2 : ¬ m = g) (h : EvS K ta ρ ds) (hn : ds.length + 1 = n)
    (k : ∀ vs G1 H1, Go G H G1 H1 → RpA K G1 vs ds → spMX K C n f g R RX (.ref x :: vs) H1 Q (E σ)) : tMethW C m (spMX K C n f g R RX) E (tVar j) ta σ H Q := by
  obtain ⟨b1, _, _, ne, dx, u, ws, b2, b3, b4, b5⟩ := s.boxAt hb
  refine ⟨.ref x, b1, x, dx, _, rfl, b2, ?_, ?_⟩
  · rw [look_tl h1, look_tl h2]; rfl
  exact h G0 H0 G H σ _ s fun vs G1 H1 g1 r1 => k vs G1 H1 g1 r1
theorem sd_dropMW (hb : ρ[j]? = some (some (.box x l C f r g es))) (h1 : ¬ m = f) (h2 : ¬ m = g) (h : EvS K ta ρ ds) (hn : ds.length + 1 = n) (hr : R r es ds d es') :
    StD K (tDrop (tMethW C m (spMX K C n f g R RX) E (tVar j) ta)) ρ (.nx (ρ.set j (some (.box x l C f r g es')))) := fun G0 H0 G H σ D s k =>
  methW_dat s hb h1 h2 h hn fun vs G1 H1 g1 r1 => by
    have s1 := s.step g1
    have b1 := (s1.boxAt hb).1
    obtain ⟨_, ⟨x0, gx⟩, ⟨l0, gl⟩, ne, dx', u', ws', c2, c3, c4, c5⟩ := s1.boxAt hb
    refine ⟨x, l, dx', u', ws', vs, G1, ds, r, es, rfl, by rw [r1.length]; exact hn, ne, c2, c4, gx, gl, g1.gh, c3, c5, r1, .inl ⟨d, es', hr, fun v G' H' dy u2 ws2 go z1 z2 e1 e2 e3 e4 rv => ?_⟩⟩
    have s2 := s1.forget hb
    have s3 : Sl K G0 H0 G' (del2 H' x l) σ (ρ.set j none) := s2.step ⟨go.gg, fun a o e => by
      rw [del2_ne (fun z => by rw [z, z1] at e; cases e) (fun z => by rw [z, z2] at e; cases e)]
      exact go.gh a o e, fun a o e => by
      have q := del2_some e
      rw [del2_ne q.1 q.2.1]
      exact go.hh a o e, go.fr⟩
    have s4 := s3.put (i := j) (v := .ref x) (x := .box x l C f r g es') (H1 := H') (fun a o e => (del2_some e).2.2) (fun a ha => by
      rcases List.mem_cons.mp (show a ∈ [x, l] from ha) with z | z
      · rw [z]; exact del2_x
      · rw [List.mem_singleton.mp z]; exact del2_l) ⟨rfl, ne, dy, u2, ws2, e1, e2, e3, e4⟩
    rw [List.set_set, set_same b1] at s4
    exact k G' H' _ (g1.gg.trans go.gg) s4
theorem sw_dropMW (hb : ρ[j]? = some (some (.box x l C f r g es))) (h1 : ¬ m = f) (h2 : ¬ m = g) (h : EvS K ta ρ ds) (hn : ds.length + 1 = n) (hr : RX r es ds C' fds) :
    StW K W (tDrop (tMethW C m (spMX K C n f g R RX) (WE W) (tVar j) ta)) ρ C' fds (ρ.set j none) := fun G0 H0 G H σ D s k =>
  methW_dat s hb h1 h2 h hn fun vs G1 H1 g1 r1 => by
    have s1 := s.step g1
    obtain ⟨_, ⟨x0, gx⟩, ⟨l0, gl⟩, ne, dx', u', ws', c2, c3, c4, c5⟩ := s1.boxAt hb
    refine ⟨x, l, dx', u', ws', vs, G1, ds, r, es, rfl, by rw [r1.length]; exact hn, ne, c2, c4, gx, gl, g1.gh, c3, c5, r1, .inr ⟨C', fds, hr, fun dd G' H' dy u2 ws2 go z1 z2 e1 e2 e3 e4 xn => ?_⟩⟩
    exact k dd G' H' σ (g1.gg.trans go.gg) ((s1.forget hb).step go) (xn.back (s.go.hh.trans g1.hh))
end
/-! ### try -/
def XD (K : PySem.W.Frag) (G : Hp) (dd : Option Addr) (fds : List (Str × D)) : Prop := (dd = none ∧ fds = []) ∨ ∃ d fs, dd = some d ∧ G d = some (.xd fs) ∧ RpX K G fs fds
theorem XD.mono {K : PySem.W.Frag} {G G' : Hp} {dd : Option Addr} {fds : List (Str × D)} (h : XD K G dd fds) (e : Ex G G') : XD K G' dd fds := by
  rcases h with h | ⟨d, fs, a, b, c⟩
  · exact .inl h
  · exact .inr ⟨d, fs, a, e _ _ b, c.mono e⟩
theorem OwnAt.noxd {K : PySem.W.Frag} {G H : Hp} {v : V} {x : S} (h : OwnAt K G H v x) : ∀ a ∈ x.fp v, ∀ fs, H a ≠ some (.xd fs) := by
  cases x with
  | dat d => exact h.elim
  | own ds =>
    obtain ⟨l, vs, rfl, h, _⟩ := h
    intro a ha fs z
    rw [List.mem_singleton.mp (show a ∈ [l] from ha), h] at z; cases z
  | obj y C gs =>
    obtain ⟨rfl, dx, gs', h, _⟩ := h
    intro a ha fs z
    rw [List.mem_singleton.mp (show a ∈ [y] from ha), h] at z; cases z
  | box y l C f r g ds =>
    obtain ⟨rfl, _, dx, u, vs, h, _, h2, _⟩ := h
    intro a ha fs z
    rcases List.mem_cons.mp (show a ∈ [y, l] from ha) with q | q
    · rw [q, h] at z; cases z
    · rw [List.mem_singleton.mp q, h2] at z; cases z
  | nst l As es =>
    obtain ⟨rfl, nd, vs, h, r⟩ := h
    intro a ha fs z
    rcases List.mem_cons.mp (show a ∈ l :: As.flatten from ha) with q | q
    · rw [q, h] at z; cases z
    · clear h nd ha
      induction r with
      | nil => cases q
      | cons h1 _ ih =>
        rw [List.flatten_cons] at q
        rcases List.mem_append.mp q with q | q
        · cases h1 with
          | row h1 _ => rw [List.mem_singleton.mp q, h1] at z; cases z
          | pair h1 _ h2 _ =>
            rcases List.mem_cons.mp q with q | q
            · rw [q, h1] at z; cases z
            · rw [List.mem_singleton.mp q, h2] at z; cases z
        · exact ih q
section
variable {K : PySem.W.Frag} {G0 H0 G H : Hp} {σ : L2.St} {ρ ρ1 : Rho} {dd : Addr} {fs : List (Str × V)} {fds : List (Str × D)}
/-- the exception's dict stands still from here -/
theorem Sl.xd0 (s : Sl K G0 H0 G H σ ρ) (h0 : H0 dd = none) (hg : G dd = none) (hd : H dd = some (.xd fs)) : Sl K G0 H0 (upd G dd (.xd fs)) H σ ρ := by
  have eg : Ex G (upd G dd (.xd fs)) := Ex.new hg
  refine ⟨⟨s.go.gg.trans eg, fun a o e => ?_, s.go.hh, fun a ha z => ?_⟩, s.len, fun i d e => ?_, fun i x e m => ?_, s.sep⟩
  · by_cases h : a = dd
    · rw [h, upd_same] at e; rw [h, hd]; exact e
    · rw [upd_ne h] at e; exact s.gh a o e
  · rw [upd_ne (fun q => ha (by rw [q]; exact h0))]; exact s.go.fr a ha z
  · obtain ⟨v, h1, h2⟩ := s.dat i d e
    exact ⟨v, h1, h2.mono eg⟩
  · obtain ⟨v, h1, h2, h4⟩ := s.mine i x e m
    exact ⟨v, h1, fun a ha => ⟨(h2 a ha).1, by
      rw [upd_ne (fun q => h4.noxd a ha fs (by rw [q]; exact hd))]; exact (h2 a ha).2⟩, h4.mono eg fun a _ o q => q⟩
theorem Sl.xd {xd : Option Addr} (s : Sl K G0 H0 G H σ ρ) (x : XN K H0 G H xd fds) : ∃ G1, Ex G G1 ∧ Sl K G0 H0 G1 H σ ρ ∧ XD K G1 xd fds := by
  rcases x with x | ⟨d, fs, rfl, h0, gd, hd, r⟩
  · exact ⟨G, Ex.refl G, s, .inl x⟩
  · exact ⟨_, Ex.new gd, s.xd0 h0 gd hd, .inr ⟨d, fs, rfl, upd_same, r.mono (Ex.new gd)⟩⟩
end
def EvXD (K : PySem.W.Frag) (te : TE) (ρ : Rho) (dd : Option Addr) (fds : List (Str × D)) (d : D) : Prop := ∀ G0 H0 G H σ (Q : VK), Sl K G0 H0 G H σ ρ → XD K G dd fds → (∀ v G' H', Go G H G' H' → Rp K G' v d → Q v H') → te σ H Q
def EsXD (K : PySem.W.Frag) (ta : TA) (ρ : Rho) (dd : Option Addr) (fds : List (Str × D)) (ds : List D) : Prop := ∀ G0 H0 G H σ (Q : List V → Hp → Prop), Sl K G0 H0 G H σ ρ → XD K G dd fds → (∀ vs G' H', Go G H G' H' → RpA K G' vs ds → Q vs H') → ta σ H Q
/-- a suite that hands back d -/
def RtXD (K : PySem.W.Frag) (t : TS) (ρ : Rho) (dd : Option Addr) (fds : List (Str × D)) (d : D) : Prop := ∀ G0 H0 G H σ (W : Ends), Sl K G0 H0 G H σ ρ → XD K G dd fds → (∀ v G' H', Go G0 H0 G' H' → Rp K G' v d → W.rt v H') → t W σ H
section
variable {K : PySem.W.Frag} {ρ ρ1 : Rho} {dd : Option Addr} {a C : Addr} {fds : List (Str × D)} {te : TE} {ta : TA} {d : D} {ds : List D} {i : Nat} {f : Str} {o : Out} {c : Value} {tb : WX → TS} {ts : Addr → Value → Option Addr → TS} {Wout : WX}
theorem exd_of (h : EvD K te ρ d) : EvXD K te ρ dd fds d := fun G0 H0 G H σ Q s x k => h G0 H0 G H σ Q s k
theorem exd_f (hi : ρ[i]? = some (some (.dat (.cls (.ref a))))) (hf : fds.lookup f = some d) : EvXD K (tXf a (.ref C) dd C f (tVar i)) ρ dd fds d := fun G0 H0 G H σ Q s x k => by
  obtain ⟨v, h1, h2⟩ := s.dat i _ hi
  cases h2
  rcases x with ⟨_, rfl⟩ | ⟨d0, fs, rfl, x1, x2⟩
  · cases hf
  obtain ⟨u, l, r⟩ := x2 f d hf
  exact ⟨.ref a, h1, rfl, rfl, d0, fs, u, rfl, s.gh _ _ x1, l, k u G H (Go.refl s.gh) r⟩
theorem exs_nil : EsXD K tNil ρ dd fds [] := fun G0 H0 G H σ Q s x k => k [] G H (Go.refl s.gh) .nil
theorem exs_cons (h : EvXD K te ρ dd fds d) (t : EsXD K ta ρ dd fds ds) : EsXD K (tCons te ta) ρ dd fds (d :: ds) := fun G0 H0 G H σ Q s x k =>
  h G0 H0 G H σ _ s x fun v G1 H1 g1 r1 => t G0 H0 G1 H1 σ _ (s.step g1) (x.mono g1.gg) fun vs G2 H2 g2 r2 => k (v :: vs) G2 H2 (g1.trans g2) (.cons (r1.mono g2.gg) r2)
theorem exd_lst (h : EsXD K ta ρ dd fds ds) (hl : ds.length ≤ 100000) : EvXD K (tLst ta) ρ dd fds (.lst ds) := fun G0 H0 G H σ Q s x k =>
  h G0 H0 G H σ _ s x fun vs G1 H1 g1 r1 => ⟨by rw [r1.length]; exact sz_of hl, fun p hp => by
    have n := Go.new (o := .lst vs) g1.gh hp
    exact k _ _ _ (g1.trans n) (.lst (.inl (.inl upd_same)) (r1.mono n.gg))⟩
theorem rxd_ret (h : EvXD K te ρ dd fds d) : RtXD K (tRet te) ρ dd fds d := fun G0 H0 G H σ W s x k => h G0 H0 G H σ _ s x fun v G' H' g r => k v G' H' (s.go.trans g) r
theorem sd_try (h : ∀ W, StD K (tb W) ρ o) : StD K (fun D σ H => tb (wAs K c i ts Wout D) D σ H) ρ o := fun G0 H0 G H σ D s k => h _ G0 H0 G H σ D s k
theorem sd_tryW (h : ∀ W, StW K W (tb W) ρ C fds ρ1) (he : PySem.W.exmOne K (.ref C) c = some true) (hs : ∀ a dd, RtXD K (ts a (.ref C) dd) (ρ1.set i (some (.dat (.cls (.ref a))))) dd fds d) :
    StD K (fun D σ H => tb (wAs K c i ts Wout D) D σ H) ρ (.rt d) := fun G0 H0 G H σ D s k =>
  h _ G0 H0 G H σ D s fun dd G' H' σ' e s' xn => by
    refine ⟨true, he, fun _ a ha => ?_, fun z => Bool.noConfusion z⟩
    obtain ⟨G1, e1, s1, x1⟩ := s'.xd xn
    exact hs a dd G0 H0 _ H' _ _ (s1.set (i := i) (v := .ref a) (.cls _)) x1 fun v G2 H2 g r2 => k v G2 H2 g r2
end
end Ax

namespace Ax
open PySem PySem.Spec PyProof.Rows L2 Evl
/-! ### repr of nested tuples: some text that is not too long -/
def ReprS (prog : PySem.Program) (w : World) (h : Heap) (d : Nat) (x : Value) (n : Nat) : Prop := ∀ b, b + n ≤ sizeLine → ∀ (A : Around) (E : Value → Shared → Prop) (s : Shared) (Q : Str → Shared → Prop), A.units + d < cLine → s.heap = h → (∀ t tk, t.length ≤ n → Q t { s with toks := tk }) → wpAny (model prog w) A (pyReprUnder b x) Q E s
inductive ReprAS (prog : PySem.Program) (w : World) (h : Heap) (d : Nat) : List Value → List Nat → Prop
  | nil : ReprAS prog w h d [] []
  | cons {x : Value} {n : Nat} {l : List Value} {ns : List Nat} : ReprS prog w h d x n → ReprAS prog w h d l ns → ReprAS prog w h d (x :: l) (n :: ns)
def costs : List Nat → Nat
  | [] => 0
  | n :: ns => n + 2 + costs ns
section
variable {prog : PySem.Program} {w : World} {h : Heap} {d : Nat}
theorem ReprS.le {x : Value} {n d' : Nat} (r : ReprS prog w h d x n) (e : d ≤ d') : ReprS prog w h d' x n := fun b hb A E s Q hu hs k => r b hb A E s Q (by omega) hs k
theorem tupFoldS : ∀ (l : List Value) (ns : List Nat) (acc : Array Str) (m : Nat) (A : Around) (E : Value → Shared → Prop) (s : Shared) (Q : (Array Str × Nat) → Shared → Prop), ReprAS prog w h d l ns → m + costs ns ≤ sizeLine → A.units + d < cLine → s.heap = h →
    (∀ ts tk, ts.length = l.length → piled ts ≤ costs ns → Q ⟨acc ++ ts.toArray, m + piled ts⟩ { s with toks := tk }) → wpAny (model prog w) A (forIn l (⟨acc, m⟩ : (Array Str × Nat)) tupBody) Q E s := by
  intro l
  induction l with
  | nil =>
    intro ns acc m A E s Q hT hm hu hs k
    cases hT
    have k0 := k [] s.toks rfl (by show piled [] ≤ 0; simp [piled])
    simp only [List.forIn_nil]
    exact wpAny_pure (by simpa [piled] using k0)
  | cons x l ih =>
    intro ns acc m A E s Q hT hm hu hs k
    cases hT with
    | cons hx hl =>
      rename_i n ns
      have ec : costs (n :: ns) = n + 2 + costs ns := rfl
      rw [ec] at hm
      rw [List.forIn_cons]
      refine wpAny_bind (wpAny_bind (hx (m + 1) (by omega) A _ s _ hu hs fun t tk ht => wpAny_pure ?_))
      refine ih ns (acc.push t) (m + (t.length + 2)) A E _ Q hl (by omega) hu hs fun ts tk2 e1 e2 => ?_
      have k1 := k (t :: ts) tk2 (by rw [List.length_cons, List.length_cons, e1]) (by rw [piled_cons, ec]; omega)
      have e : m + piled (t :: ts) = m + (t.length + 2) + piled ts := by rw [piled_cons]; omega
      rw [e] at k1
      simpa using k1
theorem len_way : ("(...)" : Str).length ≤ 5 := by decide +kernel
theorem tupleS {A : Around} {E : Value → Shared → Prop} {s : Shared} {a : Addr} {o : Obj} {items : Array Value} {n b : Nat} {ns : List Nat} {Q : PySem.Fin → Shared → Prop} (ha : s.heap.get? a = some o) (hd : o.data = .seq items n) (hT : ReprAS prog w s.heap d items.toList ns) (hu : A.units + d < cLine)
    (hz : b + (costs ns + 7) ≤ sizeLine) (k : ∀ (m : Str) (u tk : Tok), m.length ≤ costs ns + 7 → Q (.done (.ret (.str m u))) { s with toks := tk }) : wpAny (model prog w) A (Builtin.tupleReprAt b ⟨[.ref a], []⟩) Q E s := by
  rw [tuple_repr_tree]
  refine wpAny_bind (fmt_underWay fun c => ?_)
  cases c with
  | true =>
    refine PySem.W.KFB.if_so rfl (wpAny_bind (wpAny_rule ?_))
    exact wpAny_bind (wpAny_mkStr (wpAny_pure (k "(...)" _ _ (Nat.le_trans len_way (by omega)))) (by decide +kernel))
  | false =>
    refine PySem.W.KFB.if_not rfl ?_
    unfold tupleReprRest Builtin.Tuple.tupleItemsOf
    refine wpAny_bind (wpAny_bind (wpAny_seqItems ha hd (wpAny_pure ?_)))
    rw [← Array.forIn_toList]
    refine wpAny_bind (tupFoldS _ ns _ _ _ _ _ _ hT (by omega) hu rfl fun ts tk e1 e2 => ?_)
    have e3 : ts.length = items.size := by simpa using e1
    have e4 := fmt_text ts
    have e5 : (tupleText ts).length ≤ sizeLine := by omega
    refine wpAny_bind (wpAny_mkStr (wpAny_pure ?_) (by simpa [tupleText, e3] using e5))
    have k1 := k (tupleText ts) tk (tk + 1) (by omega)
    simpa [tupleText, e3] using k1
theorem reprS_tup {a : Addr} {o : Obj} {items : Array Value} {n : Nat} {ns : List Nat} (ha : h.get? a = some o) (hc : o.cls = .type "tuple") (hd : o.data = .seq items n) (hT : ReprAS prog w h d items.toList ns) : ReprS prog w h (d + 1) (.ref a) (costs ns + 7) := by
  intro b hb A E s Q hu hs k
  subst hs
  refine wpAny_pyReprUnder_ref (by omega) (wpAny_pyReprObjUnder_twin (twin := "tuple.__repr__.under") ⟨o, ha, hc⟩ F.slot_tuple_repr rfl (by omega) ?_)
  refine call_twin_own (F.quiet_tuple_repr_under _) F.entry_tuple_repr_under F.check_tuple_repr_under ⟨o, ha, hc⟩ F.slot_tuple_repr (F.args_tuple_repr_1 _) (wpOwn_of_wpAny ?_)
  refine tupleS (d := d) ha hd hT ?_ hb fun m u tk hm => ⟨⟨m, u, rfl⟩, m, u, rfl, k m tk hm⟩
  first
    | (have e := units_under_tuple_repr_under A ⟨[.ref a, rawInt b], []⟩; rw [e]; omega)
    | (show A.units + d < cLine; omega)
theorem pyReprObjS {A : Around} {E : Value → Shared → Prop} {s : Shared} {a : Addr} {o : Obj} {items : Array Value} {n : Nat} {ns : List Nat} {Q : Value → Shared → Prop} (ha : s.heap.get? a = some o) (hc : o.cls = .type "tuple") (hd : o.data = .seq items n) (hT : ReprAS prog w s.heap d items.toList ns) (hu : A.units + (d + 1) < cLine)
    (hz : costs ns + 7 ≤ sizeLine) (k : ∀ (m : Str) (u tk : Tok), m.length ≤ costs ns + 7 → Q (.str m u) { s with toks := tk }) : wpAny (model prog w) A (pyReprObj (.ref a)) Q E s := by
  have hy : s.TypeIs (.ref a) "tuple" := ⟨o, ha, hc⟩
  unfold pyReprObj
  refine wpAny_bind (wpAny_cRoomFor (by omega) (wpAny_bind (wpAny_specialOf (name := Str.ofString "__repr__") hy F.slot_tuple_repr.lookup ?_)))
  refine wpAny_bind (m := callSpecialIfBound? (.ref a) (Str.ofString "__repr__")) (wpAny_callSpecialIfBound?_slotG (name := Str.ofString "__repr__") hy F.slot_tuple_repr ?_)
  refine wpAny_call (codeAny_call_builtin_own (Code.quiet_builtin _ (by decide +kernel)) F.entry_tuple_repr (F.slot_tuple_repr.check _ _ _ _ _ _ _ _ hy (F.args_tuple_repr_1 _) (wpOwn_of_wpAny ?_)))
  show wpAny _ _ (Builtin.tupleReprAt 0 ⟨[.ref a], []⟩) _ _ s
  refine tupleS (d := d) ha hd hT ?_ (by omega) fun m u tk hm => wpAny_bind (wpAny_isInstance (T := "str") (b := true) rfl isSubtype_str_str (wpAny_pure (k m u tk hm)))
  first
    | (have e := units_under_tuple_repr A ⟨[.ref a], []⟩; rw [e]; omega)
    | (show A.units + d < cLine; omega)
end
mutual
def D.cst : D → Nat
  | .int i => (Str.ofString (toString i)).length
  | .tup ds => costs (D.csts ds) + 7
  | _ => 0
def D.csts : List D → List Nat
  | [] => []
  | d :: ds => D.cst d :: D.csts ds
end
mutual
def D.dpt : D → Nat
  | .tup ds => D.dpts ds + 1
  | _ => 0
def D.dpts : List D → Nat
  | [] => 0
  | d :: ds => max (D.dpt d) (D.dpts ds)
end
section
variable {X : Cx} {pins : List (Addr × Obj)} {σ : L2.St} {H : Hp} {s : Shared}
theorem ReprAS.le {prog : PySem.Program} {w : World} {h : Heap} {d d' : Nat} {l : List Value} {ns : List Nat} (r : ReprAS prog w h d l ns) (e : d ≤ d') : ReprAS prog w h d' l ns := by
  induction r with
  | nil => exact .nil
  | cons hx _ ih => exact .cons (hx.le e) ih
theorem cst_int (i : Int) : D.cst (.int i) = (Str.ofString (toString i)).length := by unfold D.cst; rfl
theorem cst_tup (ds : List D) : D.cst (.tup ds) = costs (D.csts ds) + 7 := by unfold D.cst; rfl
theorem dpt_tup (ds : List D) : D.dpt (.tup ds) = D.dpts ds + 1 := by unfold D.dpt; rfl
theorem reprS_int (I : Inv X pins σ H s) {v : V} {i : Int} {u : Value} {d : Nat} (r : Rp X.K H v (.int i)) (h : i.natAbs.log2 < 1920) (ru : RelV v u) : ReprS X.prog X.w s.heap d u (D.cst (.int i)) := by
  cases r
  obtain ⟨t, rfl⟩ := ru
  rw [cst_int]
  exact fun b hb A E s2 Q _ _ k => ReprIs.int t h b hb A E s2 Q fun tk => k _ tk (Nat.le_refl _)
theorem reprS_tupD (I : Inv X pins σ H s) {v : V} {ds : List D} {u : Value} (r : Rp X.K H v (.tup ds)) (ru : RelV v u) (h : ∀ vs us, RpA X.K H vs ds → Vals vs us → ReprAS X.prog X.w s.heap (D.dpts ds + 1) us (D.csts ds)) : ReprS X.prog X.w s.heap (D.dpt (.tup ds) + 1) u (D.cst (.tup ds)) := by
  cases r with
  | tup hq ra =>
    cases ru
    obtain ⟨its, rv, p, hz⟩ := I.tuple hq
    obtain ⟨o, ho, hc, n, hd⟩ := p
    rw [cst_tup, dpt_tup]
    exact reprS_tup ho hc hd (by simpa using h _ its ra rv)
theorem ReprAS.conc (I : Inv X pins σ H s) {d : D} {ds : List D} {vs : List V} {us : List Value} (r : RpA X.K H vs (d :: ds)) (ru : Vals vs us) (h1 : ∀ v u, Rp X.K H v d → RelV v u → ReprS X.prog X.w s.heap (D.dpt d + 1) u (D.cst d))
    (h2 : ∀ vs us, RpA X.K H vs ds → Vals vs us → ReprAS X.prog X.w s.heap (D.dpts ds + 1) us (D.csts ds)) : ReprAS X.prog X.w s.heap (D.dpts (d :: ds) + 1) us (D.csts (d :: ds)) := by
  cases r with
  | cons ra rb =>
    cases ru with
    | cons r1 r2 =>
      have e : D.csts (d :: ds) = D.cst d :: D.csts ds := by rw [D.csts]
      have e2 : D.dpts (d :: ds) = max (D.dpt d) (D.dpts ds) := by rw [D.dpts]
      rw [e, e2]
      exact .cons ((h1 _ _ ra r1).le (by omega)) ((h2 _ _ rb r2).le (by omega))
/-- a tuple of whole numbers -/
def D.ints (d : D) : Prop := ∃ is : List Int, d = .tup (is.map .int) ∧ ∀ i ∈ is, i.natAbs.log2 < 1920
theorem reprAS_ints (I : Inv X pins σ H s) : ∀ {is : List Int}, (∀ i ∈ is, i.natAbs.log2 < 1920) → ∀ vs us, RpA X.K H vs (is.map .int) → Vals vs us → ReprAS X.prog X.w s.heap (D.dpts (is.map .int) + 1) us (D.csts (is.map .int))
  | [], _, vs, us, r, ru => by
    cases r; cases ru
    unfold List.map D.csts
    exact .nil
  | i :: is, h, vs, us, r, ru => ReprAS.conc I r ru (fun v u a b => reprS_int I a (h i List.mem_cons_self) b) fun vs us a b => reprAS_ints I (fun j hj => h j (List.mem_cons_of_mem _ hj)) vs us a b
theorem reprAS_flat (I : Inv X pins σ H s) : ∀ {ds : List D}, (∀ d ∈ ds, D.ints d ∨ ∃ i : Int, d = .int i ∧ i.natAbs.log2 < 1920) → ∀ vs us, RpA X.K H vs ds → Vals vs us → ReprAS X.prog X.w s.heap (D.dpts ds + 1) us (D.csts ds)
  | [], _, vs, us, r, ru => by
    cases r; cases ru
    unfold D.csts
    exact .nil
  | d :: ds, h, vs, us, r, ru => ReprAS.conc I r ru (fun v u a b => by
      rcases h d List.mem_cons_self with ⟨is, rfl, hi⟩ | ⟨i, rfl, hi⟩
      · exact reprS_tupD I a b (reprAS_ints I hi)
      · exact reprS_int I a hi b) fun vs us a b => reprAS_flat I (fun e he => h e (List.mem_cons_of_mem _ he)) vs us a b
/-- {x!r}, x a tuple -/
def tFmtRD (K : PySem.W.Frag) (te : TE) : TE := fun σ H Q => te σ H fun x H1 => ∃ ds : List D, Rp K H1 x (.tup ds) ∧ (∀ d ∈ ds, D.ints d ∨ ∃ i : Int, d = .int i ∧ i.natAbs.log2 < 1920) ∧ D.dpts ds ≤ 5 ∧ D.cst (.tup ds) ≤ 100000 ∧ ∀ m : Str, m.length ≤ D.cst (.tup ds) → Q (.str m) H1
theorem pe_fmtRD {e : Expr} {te : TE} {pos : Pos} (hu : X.A.units + 64 < cLine) (he : PE X e te) : PE X (.FormattedValue e 114 none pos) (tFmtRD X.K te) := by
  refine ⟨fun pins s σ H Q I h => wpAny_FormattedValue_repr (thn (he.run pins s σ H _ I h) fun v s1 hv => ?_)⟩
  obtain ⟨x, H1, I1, r1, ds, rx, ok, dp, cz, q⟩ := hv
  have e : D.cst (.tup ds) = costs (D.csts ds) + 7 := by unfold D.cst; rfl
  rw [e] at cz q
  cases rx with
  | tup hq ra =>
    cases r1
    obtain ⟨its, rv, p, hz⟩ := I1.tuple hq
    obtain ⟨o, ho, hc, n, hd⟩ := p
    have sz := sz_of cz
    refine pyReprObjS (d := D.dpts ds + 1) ho hc hd (by simpa using reprAS_flat I1 ok _ its ra rv) (by omega) sz fun m u tk hm => ?_
    exact wpAny_formatField_str ⟨.str m, H1, I1.tok _, ⟨_, rfl⟩, q m hm⟩ ⟨.str m, H1, I1.tok _, ⟨_, rfl⟩, q m hm⟩ (by omega)
end
/-! ### texts of which only a bound is known -/
def EvT (K : PySem.W.Frag) (te : TE) (ρ : Rho) (n : Nat) : Prop := ∀ G0 H0 G H σ (Q : VK), Sl K G0 H0 G H σ ρ → (∀ (y : Str) G' H', y.length ≤ n → Go G H G' H' → Q (.str y) H') → te σ H Q
def EvAny (K : PySem.W.Frag) (te : TE) (ρ : Rho) : Prop := ∀ G0 H0 G H σ (Q : VK), Sl K G0 H0 G H σ ρ → (∀ v G' H', Go G H G' H' → Q v H') → te σ H Q
inductive EvTs (K : PySem.W.Frag) (ρ : Rho) : List TE → Nat → Prop
  | nil : EvTs K ρ [] 0
  | cons {t : TE} {n m : Nat} {ts : List TE} : EvT K t ρ n → EvTs K ρ ts m → EvTs K ρ (t :: ts) (n + m)
section
variable {K : PySem.W.Frag} {ρ : Rho} {te : TE} {ts : List TE} {n m : Nat} {x : Str} {i : Int} {ds : List D}
theorem evt_c : EvT K (tC (.str x)) ρ x.length := fun G0 H0 G H σ Q s k => k x G H (Nat.le_refl _) (Go.refl s.gh)
theorem evt_fI (h : EvD K te ρ (.int i)) (hz : i.natAbs.log2 < 1920) : EvT K (tFmt te) ρ (Str.ofString (toString i)).length := fun G0 H0 G H σ Q s k => h G0 H0 G H σ _ s fun v G1 H1 g1 r1 => by
  cases r1
  exact .inr ⟨i, rfl, hz, k _ G1 H1 (Nat.le_refl _) g1⟩
theorem evt_rT (h : EvD K te ρ (.tup ds)) (ok : ∀ d ∈ ds, D.ints d ∨ ∃ i : Int, d = .int i ∧ i.natAbs.log2 < 1920) (dp : D.dpts ds ≤ 5) (cz : D.cst (.tup ds) ≤ 100000) : EvT K (tFmtRD K te) ρ (D.cst (.tup ds)) := fun G0 H0 G H σ Q s k => h G0 H0 G H σ _ s fun v G1 H1 g1 r1 =>
  ⟨ds, r1.mono g1.gh, ok, dp, cz, fun m hm => k m G1 H1 hm g1⟩
theorem evt_js (h : EvTs K ρ ts n) : ∀ acc : Str, acc.length + n ≤ 100000 → ∀ G0 H0 G H σ (Q : Str → Hp → Prop), Sl K G0 H0 G H σ ρ → (∀ y G' H', Go G H G' H' → Q y H') → tJs ts acc σ H Q := by
  induction h with
  | nil => intro acc _ G0 H0 G H σ Q s k; exact k acc G H (Go.refl s.gh)
  | cons h r ih =>
    intro acc hz G0 H0 G H σ Q s k
    refine h G0 H0 G H σ _ s fun y G1 H1 hy g1 => ?_
    have el := str_len acc y
    exact ⟨y, rfl, sz_of (by omega), ih (acc ++ y) (by omega) G0 H0 G1 H1 σ _ (s.step g1) fun z G' H' g => k z G' H' (g1.trans g)⟩
theorem eva_joined (h : EvTs K ρ ts n) (hz : n ≤ 100000) : EvAny K (tJoined ts) ρ := fun G0 H0 G H σ Q s k =>
  evt_js h Str.empty (by show 0 + n ≤ _; omega) G0 H0 G H σ _ s fun y G' H' g => k _ G' H' g
end
end Ax

namespace Ax
open PySem PySem.Spec PyProof.Rows L2 Evl
/-! ### own exception classes, as the written part has them -/
structure XCl (K : PySem.W.Frag) (mg : Str → Option Value) (x : Str) (C : Addr) : Prop where
  sup : SupC K C
  g : mg x = some (.ref C)
  exm : PySem.W.exmOne K (.ref C) (.ref C) = some true
  xf : XfC K C
theorem xcl_mk {K : PySem.W.Frag} {h : Heap} {mg : Str → Option Value} {C N : Addr} {nm q : Str} {bs bm : List Value} {sn : List Str} {sub : List Value} {ab : Bool} {col : Option Bool} {dd : Option Addr} {k0 k1 k2 k3 k5 : Option Value} (x : Str) (X : K.In h) (G : h.Ns mainGlobals mg)
    (a : PySem.W.nsIn K mainGlobals x = some (some (.ref C))) (l : K.lookup C = some (excClassObj nm q C N bs bm true sn sub ab col dd k0 k1 k2 k3 k5 "ValueError.__new__")) (hb : PySem.HandSPX.refsVE bm = true)
    (sa : PySem.W.findIn K (.ref C) "__setattr__" = some (some (.builtin "object.__setattr__"))) (exC : PySem.W.subIn K (.ref C) (.type "BaseException") = some true) (tyC : PySem.W.typeIn K (.ref C) = some (.type "type")) (kC : PySem.W.keepIn K (.ref C) = true)
    (sup : PySem.W.ks_superIn K C C "__init__" = some (some (.builtin "ValueError.__init__"))) (sv : PySem.W.subIn K (.ref C) (.type "ValueError") = some true) (mro : PySem.W.mroIn K C (.ref C) = some true) (opq : PySem.W.nsIn K cStatics "thirdparty.any" = some none)
    (ss : PySem.W.subIn K (.ref C) (.ref C) = some true) (ga : PySem.W.findIn K (.ref C) "__getattribute__" = some (some (.builtin "BaseException.__getattribute__"))) (gg : PySem.W.findIn K (.ref C) "__getattr__" = some none) (hd : PySem.W.hasDictIn K C = true) : XCl K mg x C :=
  ⟨⟨⟨⟨nm, q, N, bs, bm, sn, sub, ab, col, dd, k0, k1, k2, k3, k5, l, hb⟩, sa, exC, tyC, kC⟩, sup, sv, mro, ⟨_, by unfold PySem.W.clsIn; rw [l] <;> rfl⟩, opq⟩, PySem.W.mg_of X G a, by
    have c : (PySem.W.clsIn K C).isSome = true := by
      unfold PySem.W.clsIn
      rw [l] <;> rfl
    unfold PySem.W.exmOne
    rw [exC, if_pos (by rfl)]
    unfold PySem.W.kitCls
    simp only [c, tyC, ss]
    rfl, ⟨ga, gg, exC, hd⟩⟩
structure HasXI (P : Program) (K : PySem.W.Frag) (C : Addr) (q : Str) (st : Stmt) (ps : List Str) : Prop where
  ex : ∃ (f : Addr) (fd : FuncData) (cda cc : Addr), SupK P K f C "__init__" q st fd cda cc ∧ PySem.W.findIn K (.ref C) "__init__" = some (some (.ref f)) ∧ PySem.W.typeIn K (.ref f) = some (.type "function") ∧ Binds K fd ps []
theorem hasXI_mk {P : Program} {K : PySem.W.Frag} {C f cda cc : Addr} {oc kV doc pm ct ccl cl : Value} {od an cdd cld : Option Addr} {osl ccs csl : Array (Option Value)} {vs : Array Value} {file : Str} {tf : Tok} (q : Str) (st : Stmt) (ps : List Str)
    (hb : ∀ (kV doc pm : Value) (an : Option Addr) (cdv ct : Value) (cc : Addr) (us : List Value), us.length = ps.length → bindArgs (PySem.W.fnX "__init__" q (defArgs st) (defBody st) (defScope st) [("__class__", cc)] .none kV doc pm an cdv ct) ⟨us, []⟩ = pure (ps.zip us))
    (a : PySem.W.findIn K (.ref C) "__init__" = some (some (.ref f))) (t : PySem.W.typeIn K (.ref f) = some (.type "function"))
    (l : K.lookup f = some ⟨oc, od, .func (PySem.W.fnX "__init__" q (defArgs st) (defBody st) (defScope st) [("__class__", cc)] .none kV doc pm an (.ref cda) ct), osl⟩) (c : PySem.W.codeIn K (.ref cda) q = true)
    (lc : K.lookup cda = some ⟨ccl, cdd, .fields vs, ccs⟩) (hvs : vs[2]? = some (.str file tf)) (hfile : ((P.main.file : Str) == file) = true) (lcc : K.lookup cc = some ⟨cl, cld, .cell (some (.ref C)), csl⟩) (top : (P.main.scope.names.lookup ("super" : Str)).isSome = false) : HasXI P K C q st ps :=
  ⟨f, _, cda, cc, ⟨⟨oc, od, osl, kV, doc, pm, ct, an, rfl, l⟩, c, ⟨ccl, cdd, vs, ccs, file, tf, lc, hvs, hfile⟩, ⟨cl, cld, csl, lcc⟩, top⟩, a, t, Binds.all fun us hu => hb kV doc pm an _ ct cc us hu⟩
section
variable {P : Program} {w : World} {K : PySem.W.Frag} {mg : Str → Option Value} {base : Heap} {C : Addr} {q : Str} {st : Stmt} {N ps fl : List Str} {k n : Nat} {R : List D → Prop}
theorem HasXI.cal {e : Expr} {rest : List Stmt} {p0 p1 p2 p3 p4 : Pos} {self : Str} {ar : Arg} {pl : Sem Bool} (h : HasXI P K C q st ps) (T : SupC K C) (NS : NdefX.NScope N ps ["__class__"] (defScope st)) (hn : ps.length = n + 1)
    (hb : defBody st = .Expr (.Call (.Attribute (.Call (.Name "super" p0) [] [] p1) "__init__" p2) [e] [] p3) p4 :: rest) (hfl : fl.length = n) (hf0 : ∀ f ∈ fl, PySem.W.findIn K (.ref C) f = some none) (hz : n ≤ 900)
    (hm : mg "super" = none) (h0 : N[0]? = some self) (har : ((defArgs st).posonlyargs ++ (defArgs st).args).head? = some ar) (hself : ar.arg = self)
    (k1 : (defScope st).names.lookup ("super" : Str) = some .globalImplicit) (k2 : (defScope st).names.lookup ("__class__" : Str) = some .free) (k3 : (defScope st).names.lookup self = some .local) (kf : (defScope st).kind = .function)
    (hbody : ∀ (f cda cc : Addr) (A : Around) (outer : List Env) (s : Shared) (H : Hp) (E : XK), Room k (A.deeper (NdefX.envF (supF "__init__" q st cc cda) f s.heap.objs.size)) → ∃ te, PE (NdefX.ncx CX0 P w K mg base N (supF "__init__" q st cc cda) f A outer s H E) e te ∧ PSs (NdefX.ncx CX0 P w K mg base N (supF "__init__" q st cc cda) f A outer s H E) rest (tFs K fl 1) ∧ ∀ a ds, R ds → EvAny K te (rho0 N (.cls (.ref a) :: ds)))
    (hev : ∀ (env : Env), env.scope = defScope st → eval (.Call (.Attribute (.Call (.Name "super" p0) [] [] p1) "__init__" p2) [e] [] p3) env = (do
      let ov ← attributeBase (.Call (.Name "super" p0) [] [] p1) "__init__" env (eval (.Call (.Name "super" p0) [] [] p1) env)
      standAt p2.atName
      let (f, first) ← holding [ov] (getMethod ov "__init__" pl)
      callWith p3 f first (backTo p3 (starEach [e] env)) []))
    (hin : ∀ env : Env, env.scope = defScope st → interactive env = false) (hsw : ∀ env : Env, swapsWith (.Call (.Attribute (.Call (.Name "super" p0) [] [] p1) "__init__" p2) [e] [] p3) none p4.line env = pure false)
    (hst : ∀ env : Env, starEach [e] env = (false, eval e env) :: starEach [] env) : CalXI P w K mg base C (k + 1) ps (spXI K C n fl R) := by
  obtain ⟨f, fd, cda, cc, S, a, t, b⟩ := h.ex
  exact ⟨f, fd, S.init T NS hn hb hfl hf0 hz hm h0 har hself k1 k2 k3 kf (fun A outer s H E hr => hbody f cda cc A outer s H E hr) hev hin hsw hst, a, t, b⟩
end
end Ax

namespace Ax
open PySem PySem.Spec PyProof.Rows L2 Evl
/-! ### a box made before something is raised -/
section
variable {K : PySem.W.Frag} {W : WX} {G H : Hp} {ρ ρ2 : Rho} {n i : Nat} {x l C C' : Addr} {f g : Str} {r : D} {ds es : List D} {fds : List (Str × D)} {u : TS} {ta : TA} {R : List D → D → List D → Prop}
theorem sw_newB {E : XK} (h : EvS K ta ρ ds) (hn : ds.length = n) (hr : R ds r es) (k : ∀ x l, StW K W u (ρ.set i (some (.box x l C f r g es))) C' fds ρ2) : StW K W (tSeq (tAsg (tMake C (spIB K C n f g R) [] E ta) (gName i)) u) ρ C' fds ρ2 := fun G0 H0 G H σ D s q =>
  h G0 H0 G H σ _ s fun vs G1 H1 g1 r1 => by
    intro x dx hx hdx ne
    have gx : G1 x = none := fresh_back g1.gh hx
    have hx2 : (upd H1 dx (.own x)) x = none := by rw [upd_ne (Ne.symm ne)]; exact hx
    have e2 : Ex H1 (upd (upd H1 dx (.own x)) x (.ins C dx [])) := (Ex.new hdx).trans (Ex.new hx2)
    refine ⟨x, dx, vs ++ [], G1, ds, r, es, rfl, by rw [List.append_nil, r1.length]; exact hn, upd_same, gx, g1.gh.trans e2, by rw [List.append_nil]; exact r1, hr, fun G' H' dy l u' ws go z1 zl zf ne2 b1 b2 b3 b4 => ?_⟩
    have keep : ∀ a o, H1 a = some o → H' a = some o := fun a o e => go.hh a o (by
      rw [delx_ne (ne_of_none e hx)]
      exact e2 a o e)
    have hl : H1 l = none := by
      cases q : H1 l with
      | none => rfl
      | some o => rw [delx_ne (Ne.symm ne2), e2 l o q] at zf; cases zf
    have s1 : Sl K G0 H0 G' (del2 H' x l) σ ρ := (s.step g1).step ⟨go.gg, fun a o e => by
        rw [del2_ne (fun z => by rw [z, z1] at e; cases e) (fun z => by rw [z, zl] at e; cases e)]
        exact go.gh a o e, fun a o e => by
        rw [del2_ne (fun z => by rw [z, hx] at e; cases e) (fun z => by rw [z, hl] at e; cases e)]
        exact keep a o e, fun a ha hg => by
        by_cases ax : a = x
        · rw [ax]; exact z1
        · refine go.fr a ?_ hg
          rw [delx_ne ax]
          cases q : H1 a with
          | none => exact absurd q ha
          | some o => rw [e2 a o q]; exact fun z => nomatch z⟩
    have s2 := s1.put (i := i) (v := .ref x) (x := .box x l C f r g es) (H1 := H') (fun a o e => (del2_some e).2.2) (fun a ha => by
      rcases List.mem_cons.mp (show a ∈ [x, l] from ha) with z | z
      · rw [z]; exact del2_x
      · rw [List.mem_singleton.mp z]; exact del2_l) ⟨rfl, ne2, dy, u', ws, b1, b2, b3, b4⟩
    exact ⟨rfl, k x l G0 H0 G' H' _ D s2 fun d G3 H3 σ3 e3 s3 xn => q d G3 H3 σ3 ((g1.gg.trans go.gg).trans e3) s3 xn⟩
end
end Ax

namespace Ax
open PySem PySem.Spec PyProof.Rows L2 Evl
/-! ### own lists within an own list -/
def NE.d : NE → D
  | .row ds => .lst ds
  | .pair d ds => .tup [d, .lst ds]
abbrev nesD (es : List NE) : D := .lst (es.map NE.d)
def lendA (G H : Hp) (A : List Addr) : Hp := fun a => if a ∈ A then H a else G a
def delA (H : Hp) (A : List Addr) : Hp := fun a => if a ∈ A then none else H a
theorem lendA_in {G H : Hp} {A : List Addr} {a : Addr} (h : a ∈ A) : lendA G H A a = H a := by unfold lendA; rw [if_pos h]
theorem lendA_out {G H : Hp} {A : List Addr} {a : Addr} (h : a ∉ A) : lendA G H A a = G a := by unfold lendA; rw [if_neg h]
theorem delA_in {H : Hp} {A : List Addr} {a : Addr} (h : a ∈ A) : delA H A a = none := by unfold delA; rw [if_pos h]
theorem delA_out {H : Hp} {A : List Addr} {a : Addr} (h : a ∉ A) : delA H A a = H a := by unfold delA; rw [if_neg h]
theorem delA_some {H : Hp} {A : List Addr} {a : Addr} {o : HO} (h : delA H A a = some o) : a ∉ A ∧ H a = some o := by
  by_cases q : a ∈ A
  · rw [delA_in q] at h; cases h
  · rw [delA_out q] at h; exact ⟨q, h⟩
section
variable {K : PySem.W.Frag} {G0 H0 G H G1 H1 : Hp} {σ : L2.St} {ρ ρ' : Rho} {n i j k : Nat} {l : Addr} {As : List (List Addr)} {A : List Addr} {es : List NE} {e : NE} {v : V} {vs : List V} {d : D} {ds : List D} {te tp ti : TE} {tt : TT} {t u : TS} {ta : TA} {o : Out} {p : Bool}
theorem NRow.froz (h : NRow K G H v A e) (x : Ex G G1) (f : ∀ a ∈ A, G1 a = H a) : Rp K G1 v e.d := by
  cases h with
  | row h r => exact .lst (.inl (.inl (by rw [f _ (List.mem_singleton.mpr rfl)]; exact h))) (r.mono x)
  | pair h r h2 r2 => exact .tup (.inl (.inl (by rw [f _ List.mem_cons_self]; exact h))) (.cons (r.mono x) (.cons (.lst (.inl (.inl (by rw [f _ (List.mem_cons_of_mem _ (List.mem_singleton.mpr rfl))]; exact h2))) (r2.mono x)) .nil))
theorem NRows.froz (h : NRows K G H vs As es) (x : Ex G G1) (f : ∀ a ∈ As.flatten, G1 a = H a) : RpA K G1 vs (es.map NE.d) := by
  induction h with
  | nil => exact .nil
  | cons h _ ih => exact .cons (h.froz x fun a ha => f a (by rw [List.flatten_cons]; exact List.mem_append_left _ ha)) (ih fun a ha => f a (by rw [List.flatten_cons]; exact List.mem_append_right _ ha))
theorem NRows.snoc (h : NRows K G H vs As es) (r : NRow K G H v A e) : NRows K G H (vs ++ [v]) (As ++ [A]) (es ++ [e]) := by
  induction h with
  | nil => exact .cons r .nil
  | cons h _ ih => exact .cons h ih
theorem NRows.rowAt (h : NRows K G H vs As es) (e : es[k]? = some (.row ds)) : ∃ l ws, vs[k]? = some (.ref l) ∧ As[k]? = some [l] ∧ H l = some (.lst ws) ∧ RpA K G ws ds := by
  induction h generalizing k with
  | nil => cases e
  | cons h _ ih =>
    cases k with
    | zero =>
      cases e
      cases h with
      | row h r => exact ⟨_, _, rfl, rfl, h, r⟩
    | succ k => exact ih e
theorem NRow.stay {l : Addr} {q : HO} (h : NRow K G H v A e) (x : l ∉ A) : NRow K G (upd H l q) v A e :=
  h.mono (Ex.refl _) fun a ha o z => by rw [upd_ne (fun w => x (by rw [← w]; exact ha))]; exact z
theorem NRows.stay {l : Addr} {q : HO} (h : NRows K G H vs As es) (x : l ∉ As.flatten) : NRows K G (upd H l q) vs As es :=
  h.mono (Ex.refl _) fun a ha o z => by rw [upd_ne (fun w => x (by rw [← w]; exact ha))]; exact z
theorem NRows.setRow {l : Addr} {ws : List V} {ds ds' : List D} (h : NRows K G H vs As es) (nd : As.flatten.Nodup) (e : es[k]? = some (.row ds)) (a : As[k]? = some [l]) (r : RpA K G ws ds') :
    NRows K G (upd H l (.lst ws)) vs As (es.set k (.row ds')) := by
  induction h generalizing k with
  | nil => cases e
  | cons h hs ih =>
    rw [List.flatten_cons] at nd
    obtain ⟨n1, n2, n3⟩ := List.nodup_append.mp nd
    cases k with
    | zero =>
      cases e
      cases a
      cases h with
      | row h r2 => exact .cons (.row upd_same r) (hs.stay fun z => n3 _ (List.mem_singleton.mpr rfl) _ z rfl)
    | succ k => exact .cons (h.stay fun z => n3 _ z l (List.mem_flatten.mpr ⟨_, List.mem_of_getElem? (show _ = some [l] from a), List.mem_singleton.mpr rfl⟩) rfl) (ih n2 e a)
theorem Sl.nstAt (s : Sl K G0 H0 G H σ ρ) (e : ρ[i]? = some (some (.nst l As es))) : σ[i]? = some (some (.ref l)) ∧ (∀ a ∈ l :: As.flatten, H0 a = none ∧ G a = none) ∧ (l :: As.flatten).Nodup ∧ ∃ vs, H l = some (.lst vs) ∧ NRows K G H vs As es := by
  obtain ⟨v, h1, h2, rfl, nd, h3⟩ := s.mine i _ e rfl
  exact ⟨h1, h2, nd, h3⟩
/-- a nested list is lent -/
theorem Sl.lendN (s : Sl K G0 H0 G H σ ρ) (hb : ρ[n]? = some (some (.nst l As es))) :
    Ex G (lendA G H (l :: As.flatten)) ∧ Sl K G0 H0 (lendA G H (l :: As.flatten)) H σ (ρ.set n (some (.dat (nesD es)))) ∧ (∀ a ∈ l :: As.flatten, G a = none) ∧ ∀ a ∈ l :: As.flatten, H a ≠ none := by
  obtain ⟨h1, fr, nd, vs, h2, h3⟩ := s.nstAt hb
  have hin : ∀ a ∈ l :: As.flatten, H a ≠ none := fun a ha => by
    rcases List.mem_cons.mp ha with z | z
    · rw [z, h2]; exact fun z => nomatch z
    · obtain ⟨o, q⟩ := h3.there a z
      rw [q]; exact fun z => nomatch z
  have eg : Ex G (lendA G H (l :: As.flatten)) := fun a o e => by
    rw [lendA_out (fun z => by rw [(fr a z).2] at e; cases e)]; exact e
  refine ⟨eg, ⟨⟨s.go.gg.trans eg, fun a o e => ?_, s.go.hh, fun a ha hg => ?_⟩, by rw [List.length_set, s.len], fun j e q => ?_, fun j z q m => ?_, fun j k z w v' w' hjk q1 m1 q2 m2 g1 g2 => ?_⟩, fun a ha => (fr a ha).2, hin⟩
  · by_cases q : a ∈ l :: As.flatten
    · rw [lendA_in q] at e; exact e
    · rw [lendA_out q] at e; exact s.gh a o e
  · rw [lendA_out (fun z => ha (fr a z).1)]
    exact s.go.fr a ha hg
  · rcases set_get q with ⟨rfl, _, z⟩ | ⟨hj, q⟩
    · cases z
      exact ⟨.ref l, h1, .lst (.inl (.inl (by rw [lendA_in List.mem_cons_self]; exact h2))) (h3.froz eg fun a ha => lendA_in (List.mem_cons_of_mem _ ha))⟩
    · obtain ⟨v, g1, g2⟩ := s.dat j e q
      exact ⟨v, g1, g2.mono eg⟩
  · rcases set_get q with ⟨rfl, _, z⟩ | ⟨hj, q⟩
    · cases z; cases m
    · obtain ⟨u', g1, g2, g4⟩ := s.mine j z q m
      have hs : ∀ a ∈ l :: As.flatten, a ∉ z.fp u' := s.sep n j _ z _ u' hj hb rfl q m h1 g1
      exact ⟨u', g1, fun a ha => ⟨(g2 a ha).1, by
        rw [lendA_out (fun e => hs a e ha)]
        exact (g2 a ha).2⟩, g4.mono eg fun a _ o q => q⟩
  · have back : ∀ (j : Nat) (z : S), (ρ.set n (some (.dat (nesD es))))[j]? = some (some z) → z.mine = true → ρ[j]? = some (some z) := fun j z q m => by
      rcases set_get q with ⟨rfl, _, e⟩ | ⟨hj, q⟩
      · cases e; cases m
      · exact q
    exact s.sep j k z w v' w' hjk (back j z q1 m1) m1 (back k w q2 m2) m2 g1 g2
theorem unlendA {G' H' : Hp} (eg : Ex G (lendA G H A)) (gn : ∀ a ∈ A, G a = none) (g1 : Go (lendA G H A) H G' H') : Go G H (delA G' A) H' :=
  ⟨fun a o e => by
    rw [delA_out (fun z => by rw [gn a z] at e; cases e)]
    exact g1.gg a o (eg a o e), fun a o e => g1.gh a o (delA_some e).2, g1.hh, fun a ha hg => by
    by_cases q : a ∈ A
    · exact delA_in q
    · rw [delA_out q]; exact g1.fr a ha (by rw [lendA_out q]; exact hg)⟩
def rows (es : List NE) : Prop := ∀ e ∈ es, ∃ ds, e = .row ds
theorem NRows.lists (h : NRows K G H vs As es) (r : rows es) : ∀ a ∈ As.flatten, ∃ ws, H a = some (.lst ws) := by
  induction h with
  | nil => intro a ha; cases ha
  | cons h _ ih =>
    intro a ha
    rw [List.flatten_cons] at ha
    rcases List.mem_append.mp ha with z | z
    · cases h with
      | row h _ => rw [List.mem_singleton.mp z]; exact ⟨_, h⟩
      | pair _ _ _ _ => obtain ⟨_, q⟩ := r _ List.mem_cons_self; cases q
    · exact ih (fun e he => r e (List.mem_cons_of_mem _ he)) a z
/-- it is read: within the expression it stands still -/
theorem ev_lendN (hb : ρ[n]? = some (some (.nst l As es))) (h : EvD K te (ρ.set n (some (.dat (nesD es)))) d) (hp : d.pu = true) (hr : rows es) : EvD K te ρ d := fun G0 H0 G H σ Q s k => by
  obtain ⟨eg, s1, gn, hin⟩ := s.lendN hb
  obtain ⟨_, _, _, vs, e1, e2⟩ := s.nstAt hb
  have all : ∀ a ∈ l :: As.flatten, ∃ ws, H a = some (.lst ws) := fun a ha => by
    rcases List.mem_cons.mp ha with z | z
    · rw [z]; exact ⟨_, e1⟩
    · exact e2.lists hr a z
  refine h G0 H0 _ H σ _ s1 fun v G' H' g1 r1 => k v (delA G' (l :: As.flatten)) H' (unlendA eg gn g1) (r1.unlend (fun a vs e => ?_) (fun a o vs e => ?_) hp)
  · rw [delA_out (fun z => ?_)]
    · exact e
    · obtain ⟨ws, w⟩ := all a z
      rw [g1.gg a _ (by rw [lendA_in z]; exact w)] at e; cases e
  · rw [delA_out (fun z => ?_)]
    · exact e
    · obtain ⟨ws, w⟩ := all a z
      rw [g1.gg a _ (by rw [lendA_in z]; exact w)] at e; cases e
theorem eb_lendN (hb : ρ[n]? = some (some (.nst l As es))) (h : EvB K tt (ρ.set n (some (.dat (nesD es)))) p) : EvB K tt ρ p := fun G0 H0 G H σ Q s k => by
  obtain ⟨eg, s1, gn, hin⟩ := s.lendN hb
  exact h G0 H0 _ H σ _ s1 fun G' H' g1 => k (delA G' (l :: As.flatten)) H' (unlendA eg gn g1)
/-- it stands still from here -/
theorem sd_freezeN (h : ρ[i]? = some (some (.nst l As es))) (h1 : StD K t (ρ.set i (some (.dat (nesD es)))) o) : StD K t ρ o := fun G0 H0 G H σ W s k => by
  obtain ⟨eg, s1, _, _⟩ := s.lendN h
  exact h1 G0 H0 _ H σ W s1 (k.mono eg)
/-- xs[a][b] = e -/
theorem sd_nsetix {a : Nat} {k0 : Int} {j : Nat} (h : EvD K te ρ d) (hp : EvD K tp ρ (.int (a : Int))) (hi : EvD K ti ρ (.int k0)) (ho : ρ[i]? = some (some (.nst l As es))) (ea : es[a]? = some (.row ds)) (hj : ixN ds.length k0 = some j) :
    StD K (tAsg te (gSub (tOp (rIx K) (tVar i) tp) ti rSetL)) ρ (.nx (ρ.set i (some (.nst l As (es.set a (.row (ds.set j d))))))) := fun G0 H0 G H σ W s k => by
  refine h G0 H0 G H σ _ s fun v G1 H1 g1 r1 => ?_
  have s1 := s.step g1
  obtain ⟨h1, _, _, _, _, _⟩ := s1.nstAt ho
  refine ⟨.ref l, h1, ?_⟩
  refine hp G0 H0 G1 H1 σ _ s1 fun w G2 H2 g2 r2 => ?_
  cases r2
  have s2 := s1.step g2
  obtain ⟨h1, _, nd, vs, h2, h3⟩ := s2.nstAt ho
  obtain ⟨l', ws, b1, b2, b3, b4⟩ := h3.rowAt ea
  have ai : atI vs (a : Int) = some (.ref l') := atI_of (by omega) (by rw [Int.toNat_natCast]; exact b1)
  refine .inl ⟨l, vs, (a : Int), .ref l', rfl, rfl, .inl (.inl h2), ai, ?_⟩
  refine hi G0 H0 G2 H2 σ _ s2 fun w G3 H3 g3 r3 => ?_
  cases r3
  refine ⟨l', ws, k0, j, rfl, rfl, g3.hh _ _ b3, by rw [b4.length]; exact hj, ?_⟩
  have s3 := s2.step g3
  obtain ⟨h1, _, nd, vs3, h5, h6⟩ := s3.nstAt ho
  obtain ⟨l2, ws2, c1, c2, c3, c4⟩ := h6.rowAt ea
  rw [b2] at c2
  cases c2
  have ew := c3
  rw [g3.hh _ _ b3] at ew
  cases ew
  have lin : l' ∈ As.flatten := List.mem_flatten.mpr ⟨_, List.mem_of_getElem? b2, List.mem_singleton.mpr rfl⟩
  have ne : l ≠ l' := fun z => (List.nodup_cons.mp nd).1 (by rw [z]; exact lin)
  exact k G3 _ _ ((g1.gg.trans g2.gg).trans g3.gg) (s3.mutM ho rfl h1 rfl (fun a o ha e => by rw [upd_ne (fun z => ha (by rw [z]; exact List.mem_cons_of_mem _ lin))]; exact e)
    ⟨rfl, nd, vs3, by rw [upd_ne ne]; exact h5, h6.setRow (List.nodup_cons.mp nd).2 ea b2 (RpA.set (r1.mono (g2.gg.trans g3.gg)) j c4)⟩)
/-- xs[a].append(e) -/
theorem sd_napp {a : Nat} (hp : EvD K tp ρ (.int (a : Int))) (h : EvD K te ρ d) (ho : ρ[i]? = some (some (.nst l As es))) (ea : es[a]? = some (.row ds)) (hz : ds.length < 100000) :
    StD K (tDrop (tBM K "list" rAppend (tOp (rIx K) (tVar i) tp) (tCons te tNil))) ρ (.nx (ρ.set i (some (.nst l As (es.set a (.row (ds ++ [d]))))))) := fun G0 H0 G H σ W s k => by
  obtain ⟨h1, _, _, _, _, _⟩ := s.nstAt ho
  refine ⟨.ref l, h1, ?_⟩
  refine hp G0 H0 G H σ _ s fun w G2 H2 g2 r2 => ?_
  cases r2
  have s2 := s.step g2
  obtain ⟨h1, _, nd, vs, h2, h3⟩ := s2.nstAt ho
  obtain ⟨l', ws, b1, b2, b3, b4⟩ := h3.rowAt ea
  have ai : atI vs (a : Int) = some (.ref l') := atI_of (by omega) (by rw [Int.toNat_natCast]; exact b1)
  refine .inl ⟨l, vs, (a : Int), .ref l', rfl, rfl, .inl (.inl h2), ai, ?_⟩
  refine ⟨.inl ⟨rfl, ws, .inl (.inl b3)⟩, ?_⟩
  refine h G0 H0 G2 H2 σ _ s2 fun v G3 H3 g3 r3 => ?_
  refine ⟨l', ws, v, rfl, rfl, g3.hh _ _ b3, by rw [b4.length]; exact sz_lt hz, ?_⟩
  have s3 := s2.step g3
  obtain ⟨h1, _, nd, vs3, h5, h6⟩ := s3.nstAt ho
  obtain ⟨l2, ws2, c1, c2, c3, c4⟩ := h6.rowAt ea
  rw [b2] at c2
  cases c2
  have ew := c3
  rw [g3.hh _ _ b3] at ew
  cases ew
  have lin : l' ∈ As.flatten := List.mem_flatten.mpr ⟨_, List.mem_of_getElem? b2, List.mem_singleton.mpr rfl⟩
  have ne : l ≠ l' := fun z => (List.nodup_cons.mp nd).1 (by rw [z]; exact lin)
  exact k G3 _ _ (g2.gg.trans g3.gg) (s3.mutM ho rfl h1 rfl (fun a o ha e => by rw [upd_ne (fun z => ha (by rw [z]; exact List.mem_cons_of_mem _ lin))]; exact e)
    ⟨rfl, nd, vs3, by rw [upd_ne ne]; exact h5, h6.setRow (List.nodup_cons.mp nd).2 ea b2 (c4.append (.cons r3 .nil))⟩)
/-- what lies behind the frame comes into it -/
theorem Sl.moveIn {v : V} {x : S} (s : Sl K G0 H0 G H (σ ++ [some v]) (ρ ++ [some x])) (m : x.mine = true) : Sl K G0 H0 G H (σ.set i (some v)) (ρ.set i (some x)) := by
  have hl := s.unpad.len
  have lst : (ρ ++ [some x])[σ.length]? = some (some x) := by rw [hl]; exact get_last _ _
  have vst : (σ ++ [some v])[σ.length]? = some (some v) := get_last _ _
  have old : ∀ (j : Nat) (y : S), ρ[j]? = some (some y) → j < σ.length ∧ (ρ ++ [some x])[j]? = some (some y) ∧ (σ ++ [some v])[j]? = σ[j]? := fun j y q => by
    have hj := (List.getElem?_eq_some_iff.mp q).1
    have hj2 : j < σ.length := by rw [hl]; exact hj
    exact ⟨hj2, by rw [List.getElem?_append_left hj]; exact q, List.getElem?_append_left hj2⟩
  refine ⟨s.go, by rw [List.length_set, List.length_set, hl], fun j e q => ?_, fun j y q my => ?_, fun j k y z v' w' hjk q1 m1 q2 m2 g1 g2 => ?_⟩
  · rcases set_get q with ⟨rfl, _, z⟩ | ⟨hj, q⟩
    · cases z; cases m
    · obtain ⟨_, a, b⟩ := old j _ q
      obtain ⟨v', g1, g2⟩ := s.dat j e a
      exact ⟨v', by rw [List.getElem?_set_ne hj, ← b]; exact g1, g2⟩
  · rcases set_get q with ⟨rfl, hi, z⟩ | ⟨hj, q⟩
    · cases z
      obtain ⟨v', g1, g2⟩ := s.mine σ.length x lst m
      rw [vst] at g1
      cases g1
      exact ⟨v, by rw [List.getElem?_set_self (by rw [hl]; exact hi)], g2⟩
    · obtain ⟨_, a, b⟩ := old j _ q
      obtain ⟨v', g1, g2⟩ := s.mine j y a my
      exact ⟨v', by rw [List.getElem?_set_ne hj, ← b]; exact g1, g2⟩
  · rcases set_get q1 with ⟨rfl, hi, z1⟩ | ⟨hj, q1⟩
    · cases z1
      rw [List.getElem?_set_self (by rw [hl]; exact hi)] at g1
      cases g1
      rcases set_get q2 with ⟨e, _, _⟩ | ⟨hk, q2⟩
      · exact absurd e hjk
      · obtain ⟨b0, a, b⟩ := old k _ q2
        rw [List.getElem?_set_ne hk, ← b] at g2
        exact s.sep σ.length k x z v w' (by omega) lst m1 a m2 vst g2
    · obtain ⟨b0, a, b⟩ := old j _ q1
      rw [List.getElem?_set_ne hj, ← b] at g1
      rcases set_get q2 with ⟨rfl, hi, z2⟩ | ⟨hk, q2⟩
      · cases z2
        rw [List.getElem?_set_self (by rw [hl]; exact hi)] at g2
        cases g2
        exact s.sep j σ.length y x v' v (by omega) a m1 lst m2 g1 vst
      · obtain ⟨c0, c, d⟩ := old k _ q2
        rw [List.getElem?_set_ne hk, ← d] at g2
        exact s.sep j k y z v' w' hjk a m1 c m2 g1 g2
/-- what a comprehension of new lists has gathered -/
def LcN (K : PySem.W.Frag) (G0 H0 G1 : Hp) (σ : L2.St) (ρ : Rho) (Dl : Addr) (f : Nat → List D) (n : Nat) (H' : Hp) : Prop := ∃ As G', As.length = n ∧ Ex G1 G' ∧ Sl K G0 H0 G' H' (σ ++ [some (.ref Dl)]) (ρ ++ [some (.nst Dl As ((List.range n).map fun i => NE.row (f i)))])
theorem LcN.start {Dl : Addr} {f : Nat → List D} (s : Sl K G0 H0 G H σ ρ) (hD : H Dl = none) : LcN K G0 H0 G σ ρ Dl f 0 (upd H Dl (.lst [])) := by
  have := s.pad.put (i := σ.length) (v := .ref Dl) (x := .nst Dl [] []) (Ex.new hD) (fun a ha => by rw [List.mem_singleton.mp (show a ∈ [Dl] from ha)]; exact hD) ⟨rfl, (List.pairwise_singleton _ _), [], upd_same, .nil⟩
  rw [set_last, s.len, set_last] at this
  exact ⟨[], G, rfl, Ex.refl _, this⟩
theorem LcN.add {Dl l : Addr} {f : Nat → List D} {G' H' : Hp} {ws : List V} (hz : n < 50000) (hA : As.length = n) (e : Ex G1 G') (sx : Sl K G0 H0 G' H' (σ ++ [some (.ref Dl)]) (ρ ++ [some (.nst Dl As ((List.range n).map fun i => NE.row (f i)))])) (hn : H' l = none) (r : RpA K G' ws (f n)) :
    ∃ acc, (upd H' l (.lst ws)) Dl = some (.lst acc) ∧ acc.length < sizeLine ∧ LcN K G0 H0 G1 σ ρ Dl f (n + 1) (upd (upd H' l (.lst ws)) Dl (.lst (acc ++ [.ref l]))) := by
  have hl := sx.unpad.len
  have lst : (ρ ++ [some (S.nst Dl As ((List.range n).map fun i => NE.row (f i)))])[σ.length]? = some (some (.nst Dl As ((List.range n).map fun i => NE.row (f i)))) := by rw [hl]; exact get_last _ _
  obtain ⟨h1, h2, nd, vs, h3, h4⟩ := sx.nstAt lst
  have nl : Dl ≠ l := fun z => by rw [z, hn] at h3; cases h3
  have nf : l ∉ As.flatten := fun z => by
    obtain ⟨o, q⟩ := h4.there l z
    rw [hn] at q; cases q
  have zl : vs.length = n := by rw [h4.len.1, List.length_map, List.length_range]
  refine ⟨vs, by rw [upd_ne nl]; exact h3, by rw [zl]; exact sz_lt (by omega), As ++ [[l]], G', by rw [List.length_append, hA]; rfl, e, ?_⟩
  have er : (List.range (n + 1)).map (fun i => NE.row (f i)) = (List.range n).map (fun i => NE.row (f i)) ++ [NE.row (f n)] := by rw [List.range_succ, List.map_append]; rfl
  have fl : (As ++ [[l]]).flatten = As.flatten ++ [l] := by rw [List.flatten_append]; rfl
  have := sx.grow (i := σ.length) (v := .ref Dl) (y := S.nst Dl As ((List.range n).map fun i => NE.row (f i))) (z := S.nst Dl (As ++ [[l]]) ((List.range (n + 1)).map fun i => NE.row (f i))) (H1 := upd (upd H' l (.lst ws)) Dl (.lst (vs ++ [.ref l]))) lst rfl h1 (fun a ha => by
      rcases List.mem_cons.mp (show a ∈ Dl :: (As ++ [[l]]).flatten from ha) with z | z
      · exact .inl (by rw [z]; exact List.mem_cons_self)
      · rw [fl] at z
        rcases List.mem_append.mp z with z | z
        · exact .inl (List.mem_cons_of_mem _ z)
        · rw [List.mem_singleton.mp z]; exact .inr hn) (fun a o ha q => by
      have a1 : a ≠ Dl := fun z => ha (by rw [z]; exact List.mem_cons_self)
      have a2 : a ≠ l := fun z => by rw [z, hn] at q; cases q
      rw [upd_ne a1, upd_ne a2]; exact q) ⟨rfl, by
      rw [fl]
      show (Dl :: (As.flatten ++ [l])).Nodup
      rw [← List.cons_append]
      exact List.nodup_append.mpr ⟨nd, (List.pairwise_singleton _ _), fun a ha b hb z => by
        rw [List.mem_singleton.mp hb] at z
        subst z
        rcases List.mem_cons.mp ha with q | q
        · exact nl q.symm
        · exact nf q⟩, _, upd_same, by
      rw [er]
      have nD : Dl ∉ As.flatten := (List.nodup_cons.mp nd).1
      exact ((h4.stay nf).stay nD).snoc (.row (by rw [upd_ne (Ne.symm nl), upd_same]) r)⟩
  rw [hl, set_last] at this
  exact this
/-- xs = [.. for t in ys], new lists -/
theorem sd_lcN {g : TG} {tz : TI} {vs js : List Nat} (f : Nat → List D) (R : Nat → Rho) (hi : ItD K tz ρ ds) (hz : ds.length ≤ 40000) (hv : ∀ j ∈ js, j ∈ vs)
    (hg : ∀ n d, ds[n]? = some d → TgD K g d (wipeR ρ vs) (R n) js) (he : ∀ n d, ds[n]? = some d → EvN K te (R n) (f n))
    (k : ∀ l As, As.length = ds.length → StD K u (ρ.set i (some (.nst l As ((List.range ds.length).map fun i => NE.row (f i))))) o) :
    StD K (tSeq (tAsg (tLc tz g tYes te vs) (gName i)) u) ρ o := fun G0 H0 G H σ W s q => hi G0 H0 G H σ _ s fun J G1 H1 g1 ⟨Gd, Y, w, hG, hY⟩ => by
  intro Dl hD
  refine lc_it w (fun n H' => LcN K G0 H0 G1 σ ρ Dl f n H') (LcN.start (s.step g1) hD) (fun i H' _ ⟨As, G', _, e, sx⟩ => hG H' (e.trans sx.gh)) ?_ ?_
  · rintro n x H' H'' hn ⟨As, G', hA, e, sx⟩ y
    have hd : ds[n]? = some ds[n] := List.getElem?_eq_getElem hn
    obtain ⟨G'', g2, r⟩ := hY n _ G' H' x H'' hd e sx.gh y
    have sx2 := sx.step g2
    refine hg n _ hd G0 H0 G'' H'' _ x _ (sx2.unpad.wipe vs) r fun σ2 s2 hl2 ho => ⟨(wipe_eq hl2 fun i hi => ho i fun z => hi (hv i z)).trans (wipe_wipe σ vs), ?_⟩
    show te σ2 H'' _
    refine he n _ hd G0 H0 G'' H'' σ2 _ s2 fun l ws G3 H3 g3 hl r3 => ?_
    exact LcN.add (by omega) hA ((e.trans g2.gg).trans g3.gg) (sx2.step g3) hl r3
  · rintro H' ⟨As, G', hA, e, sx⟩
    exact k Dl As hA G0 H0 G' H' _ W (sx.moveIn rfl) (q.mono (g1.gg.trans e))
end
end Ax

namespace Ax
open PySem PySem.Spec PyProof.Rows L2 Evl
/-! ### expressions that change what is ours -/
def EvF (K : PySem.W.Frag) (te : TE) (ρ : Rho) (d : D) (ρ' : Rho) : Prop := ∀ G0 H0 G H σ (Q : VK), Sl K G0 H0 G H σ ρ → (∀ v G' H', Ex G G' → Sl K G0 H0 G' H' σ ρ' → Rp K G' v d → Q v H') → te σ H Q
def EsF (K : PySem.W.Frag) (ta : TA) (ρ : Rho) (ds : List D) (ρ' : Rho) : Prop := ∀ G0 H0 G H σ (Q : List V → Hp → Prop), Sl K G0 H0 G H σ ρ → (∀ vs G' H', Ex G G' → Sl K G0 H0 G' H' σ ρ' → RpA K G' vs ds → Q vs H') → ta σ H Q
def EbF (K : PySem.W.Frag) (tt : TT) (ρ : Rho) (p : Bool) (ρ' : Rho) : Prop := ∀ G0 H0 G H σ (Q : Bool → Hp → Prop), Sl K G0 H0 G H σ ρ → (∀ G' H', Ex G G' → Sl K G0 H0 G' H' σ ρ' → Q p H') → tt σ H Q
def EvWF (K : PySem.W.Frag) (W : WX) (te : TE) (ρ : Rho) (C : Addr) (fds : List (Str × D)) (ρ' : Rho) : Prop := ∀ G0 H0 G H σ (Q : VK), Sl K G0 H0 G H σ ρ →
  (∀ d G' H', Ex G G' → Sl K G0 H0 G' H' σ ρ' → XN K H0 G' H' d fds → W (.ref C) d σ H') → te σ H Q
def EsWF (K : PySem.W.Frag) (W : WX) (ta : TA) (ρ : Rho) (C : Addr) (fds : List (Str × D)) (ρ' : Rho) : Prop := ∀ G0 H0 G H σ (Q : List V → Hp → Prop), Sl K G0 H0 G H σ ρ →
  (∀ d G' H', Ex G G' → Sl K G0 H0 G' H' σ ρ' → XN K H0 G' H' d fds → W (.ref C) d σ H') → ta σ H Q
def AtBox (ρ : Rho) (i j : Nat) (x : Addr) : Prop := i = j ∨ ρ[i]? = some (some (.dat (.cls (.ref x))))
section
variable {K : PySem.W.Frag} {W : WX} {ρ ρ1 ρ2 ρ' : Rho} {ta : TA} {te tb : TE} {tt tu : TT} {t u : TS} {rr : R2} {a b d : D} {ds : List D} {p q : Bool} {o : Out} {n i j : Nat} {E : L2.St → XK} {C C' : Addr} {fds : List (Str × D)} {x l : Addr} {f g m : Str} {r : D} {es es' : List D}
theorem evf_of (h : EvD K te ρ d) : EvF K te ρ d ρ := fun G0 H0 G H σ Q s k => h G0 H0 G H σ Q s fun v G' H' g r => k v G' H' g.gg (s.step g) r
theorem esf_of (h : EvS K ta ρ ds) : EsF K ta ρ ds ρ := fun G0 H0 G H σ Q s k => h G0 H0 G H σ Q s fun v G' H' g r => k v G' H' g.gg (s.step g) r
theorem ebf_of (h : EvB K tt ρ p) : EbF K tt ρ p ρ := fun G0 H0 G H σ Q s k => h G0 H0 G H σ Q s fun G' H' g => k G' H' g.gg (s.step g)
theorem esf_cons {tr : TA} (h : EvF K te ρ d ρ1) (t : EsF K tr ρ1 ds ρ2) : EsF K (tCons te tr) ρ (d :: ds) ρ2 := fun G0 H0 G H σ Q s k =>
  h G0 H0 G H σ _ s fun v G1 H1 e1 s1 r1 => t G0 H0 G1 H1 σ _ s1 fun vs G2 H2 e2 s2 r2 => k (v :: vs) G2 H2 (e1.trans e2) s2 (.cons (r1.mono e2) r2)
theorem evf_lst (h : EsF K ta ρ ds ρ1) (hl : ds.length ≤ 100000) : EvF K (tLst ta) ρ (.lst ds) ρ1 := fun G0 H0 G H σ Q s k =>
  h G0 H0 G H σ _ s fun vs G1 H1 e1 s1 r1 => ⟨by rw [r1.length]; exact sz_of hl, fun p hp => by
    have n := Go.new (o := .lst vs) s1.gh hp
    exact k _ _ _ (e1.trans n.gg) (s1.step n) (.lst (.inl (.inl upd_same)) (r1.mono n.gg))⟩
theorem evf_op (ha : EvF K te ρ a ρ1) (hb : EvD K tb ρ1 b) (hr : RvD K rr a b d) : EvF K (tOp rr te tb) ρ d ρ1 := fun G0 H0 G H σ Q s k =>
  ha G0 H0 G H σ _ s fun x G1 H1 e1 s1 r1 => hb G0 H0 G1 H1 σ _ s1 fun y G2 H2 g2 r2 => hr G2 H2 x y Q g2.gh (r1.mono g2.gg) r2 fun v G3 H3 g3 r3 => k v G3 H3 (e1.trans (g2.trans g3).gg) (s1.step (g2.trans g3)) r3
theorem evf_opS (ha : EvF K te ρ a ρ1) (hb : EvD K tb ρ1 b) (hr : RvS K rr a b d) : EvF K (tOp rr te tb) ρ d ρ1 := fun G0 H0 G H σ Q s k =>
  ha G0 H0 G H σ _ s fun x G1 H1 e1 s1 r1 => hb G0 H0 G1 H1 σ _ s1 fun y G2 H2 g2 r2 => hr H2 x y Q ((r1.mono s1.gh).mono g2.hh) (r2.mono g2.gh) fun v r3 => k v G2 H2 (e1.trans g2.gg) (s1.step g2) (r3 G2)
theorem evf_opSR (ha : EvF K te ρ a ρ1) (hb : EvR K tb ρ1 b) (hr : RvS K rr a b d) : EvF K (tOp rr te tb) ρ d ρ1 := fun G0 H0 G H σ Q s k =>
  ha G0 H0 G H σ _ s fun x G1 H1 e1 s1 r1 => hb G0 H0 G1 H1 σ _ s1 fun y G2 H2 g2 r2 => hr H2 x y Q ((r1.mono s1.gh).mono g2.hh) r2 fun v r3 => k v G2 H2 (e1.trans g2.gg) (s1.step g2) (r3 G2)
theorem ebf_test (h : EvF K te ρ (.bl p) ρ1) : EbF K (tTest te) ρ p ρ1 := fun G0 H0 G H σ Q s k => h G0 H0 G H σ _ s fun v G1 H1 e1 s1 r1 => by cases r1; exact ⟨p, rfl, k G1 H1 e1 s1⟩
theorem ebf_B (h : EvF K te ρ (.bl p) ρ1) : EbF K (tB te) ρ p ρ1 := fun G0 H0 G H σ Q s k => h G0 H0 G H σ _ s fun v G1 H1 e1 s1 r1 => by cases r1; exact ⟨p, rfl, k G1 H1 e1 s1⟩
theorem ebf_not (h : EbF K tt ρ p ρ1) : EbF K (tNot tt) ρ (!p) ρ1 := fun G0 H0 G H σ Q s k => h G0 H0 G H σ _ s fun G1 H1 e1 s1 => k G1 H1 e1 s1
theorem ebf_or (h1 : EbF K tt ρ p ρ1) (e : p = false) (h2 : EbF K tu ρ1 q ρ2) : EbF K (tOr tt tu) ρ q ρ2 := fun G0 H0 G H σ Q s k => h1 G0 H0 G H σ _ s fun G1 H1 e1 s1 => by
  subst e
  show tu σ H1 Q
  exact h2 G0 H0 G1 H1 σ Q s1 fun G2 H2 e2 s2 => k G2 H2 (e1.trans e2) s2
theorem ebf_is (h : EbF K tt ρ p ρ1) (e : p = q) : EbF K tt ρ q ρ1 := e ▸ h
theorem sdf_ifp (h : EbF K tt ρ p ρ1) (e : p = true) (k : StD K t ρ1 o) : StD K (tIfS tt t u) ρ o := fun G0 H0 G H σ D s q => h G0 H0 G H σ _ s fun G1 H1 e1 s1 => by
  subst e
  exact k G0 H0 G1 H1 σ D s1 (q.mono e1)
theorem sdf_ifn (h : EbF K tt ρ p ρ1) (e : p = false) (k : StD K u ρ1 o) : StD K (tIfS tt t u) ρ o := fun G0 H0 G H σ D s q => h G0 H0 G H σ _ s fun G1 H1 e1 s1 => by
  subst e
  exact k G0 H0 G1 H1 σ D s1 (q.mono e1)
theorem sdf_skip (h : EbF K tt ρ p ρ1) (e : p = false) : StD K (tIfS tt t tNext) ρ (.nx ρ1) := sdf_ifn h e sd_next
theorem sdf_asg (h : EvF K te ρ d ρ1) : StD K (tAsg te (gName i)) ρ (.nx (ρ1.set i (some (.dat d)))) := fun G0 H0 G H σ D s k =>
  h G0 H0 G H σ _ s fun v G1 H1 e1 s1 r1 => k G1 H1 _ e1 (s1.set r1)
theorem sdf_ret (h : EvF K te ρ d ρ1) : StD K (tRet te) ρ (.rt d) := fun G0 H0 G H σ D s k =>
  h G0 H0 G H σ _ s fun v G1 H1 e1 s1 r1 => k v G1 H1 s1.go r1
/-- y = x, x a box -/
theorem sd_alias (hb : ρ[j]? = some (some (.box x l C f r g es))) : StD K (tAsg (tVar j) (gName i)) ρ (.nx (ρ.set i (some (.dat (.cls (.ref x)))))) := fun G0 H0 G H σ D s k =>
  ⟨.ref x, (s.boxAt hb).1, k G H _ (Ex.refl G) (s.set (.cls _))⟩
theorem Sl.boxV {G0 H0 G H : Hp} {σ : L2.St} (s : Sl K G0 H0 G H σ ρ) (hb : ρ[j]? = some (some (.box x l C f r g es))) (h : AtBox ρ i j x) : σ[i]? = some (some (.ref x)) := by
  rcases h with rfl | h
  · exact (s.boxAt hb).1
  · obtain ⟨v, h1, h2⟩ := s.dat i _ h
    cases h2
    exact h1
/-- what comes back of a call that was lent a box -/
theorem Sl.backM {G0 H0 G H G' H' : Hp} {σ : L2.St} {dy : Addr} {u2 : V} {ws2 : List V} (s : Sl K G0 H0 G H σ ρ) (hb : ρ[j]? = some (some (.box x l C f r g es))) (go : Go G (del2 H x l) G' H') (z1 : G' x = none) (z2 : G' l = none)
    (e1 : H' x = some (.ins C dy [(f, u2), (g, .ref l)])) (e2 : Rp K G' u2 r) (e3 : H' l = some (.lst ws2)) (e4 : RpA K G' ws2 es') : Sl K G0 H0 G' H' σ (ρ.set j (some (.box x l C f r g es'))) := by
  obtain ⟨b1, _, _, ne, _⟩ := s.boxAt hb
  have s2 := s.forget hb
  have s3 : Sl K G0 H0 G' (del2 H' x l) σ (ρ.set j none) := s2.step ⟨go.gg, fun a o e => by
      rw [del2_ne (fun z => by rw [z, z1] at e; cases e) (fun z => by rw [z, z2] at e; cases e)]
      exact go.gh a o e, fun a o e => by
      have q := del2_some e
      rw [del2_ne q.1 q.2.1]
      exact go.hh a o e, go.fr⟩
  have s4 := s3.put (i := j) (v := .ref x) (x := .box x l C f r g es') (H1 := H') (fun a o e => (del2_some e).2.2) (fun a ha => by
    rcases List.mem_cons.mp (show a ∈ [x, l] from ha) with z | z
    · rw [z]; exact del2_x
    · rw [List.mem_singleton.mp z]; exact del2_l) ⟨rfl, ne, dy, u2, ws2, e1, e2, e3, e4⟩
  rw [List.set_set, set_same b1] at s4
  exact s4
theorem evf_M {R : D → List D → List D → D → List D → Prop} {E : XK} (hb : ρ[j]? = some (some (.box x l C f r g es))) (ha : AtBox ρ i j x) (h1 : ¬ m = f) (h2 : ¬ m = g) (h : EvS K ta ρ ds) (hn : ds.length + 1 = n) (hr : R r es ds d es') :
    EvF K (tMeth C m (spM K C n f g R) [] E (tVar i) ta) ρ d (ρ.set j (some (.box x l C f r g es'))) := fun G0 H0 G H σ Q s k => by
  obtain ⟨_, _, _, ne, dx, u, ws, b2, b3, b4, b5⟩ := s.boxAt hb
  refine ⟨.ref x, s.boxV hb ha, x, dx, _, rfl, b2, ?_, ?_⟩
  · rw [look_tl h1, look_tl h2]; rfl
  refine h G0 H0 G H σ _ s fun vs G1 H1 g1 r1 => ?_
  have s1 := s.step g1
  obtain ⟨_, ⟨x0, gx⟩, ⟨l0, gl⟩, _, dx', u', ws', c2, c3, c4, c5⟩ := s1.boxAt hb
  exact ⟨x, l, dx', u', ws', vs ++ [], G1, ds, r, es, d, es', rfl, by rw [List.append_nil, r1.length]; exact hn, ne, c2, c4, gx, gl, g1.gh, c3, c5, by rw [List.append_nil]; exact r1, hr, fun v G' H' dy u2 ws2 go z1 z2 e1 e2 e3 e4 rv =>
    k v G' H' (g1.gg.trans go.gg) (s1.backM hb go z1 z2 e1 e2 e3 e4) rv⟩
theorem evf_callB {R : D → List D → List D → D → List D → Prop} {E : L2.St → XK} (hb : ρ[j]? = some (some (.box x l C f r g es))) (ha : AtBox ρ i j x) (h : EvS K ta ρ ds) (hn : ds.length + 1 = n) (hr : R r es ds d es') :
    EvF K (tCall (spM K C n f g R) [] (E0) (tCons (tVar i) ta)) ρ d (ρ.set j (some (.box x l C f r g es'))) := fun G0 H0 G H σ Q s k => by
  obtain ⟨_, _, _, ne, _⟩ := s.boxAt hb
  refine ⟨.ref x, s.boxV hb ha, ?_⟩
  refine h G0 H0 G H σ _ s fun vs G1 H1 g1 r1 => ?_
  have s1 := s.step g1
  obtain ⟨_, ⟨x0, gx⟩, ⟨l0, gl⟩, _, dx', u', ws', c2, c3, c4, c5⟩ := s1.boxAt hb
  exact ⟨x, l, dx', u', ws', vs ++ [], G1, ds, r, es, d, es', rfl, by rw [List.append_nil, r1.length]; exact hn, ne, c2, c4, gx, gl, g1.gh, c3, c5, by rw [List.append_nil]; exact r1, hr, fun v G' H' dy u2 ws2 go z1 z2 e1 e2 e3 e4 rv =>
    k v G' H' (g1.gg.trans go.gg) (s1.backM hb go z1 z2 e1 e2 e3 e4) rv⟩
section
variable {R : D → List D → List D → D → List D → Prop} {RX : D → List D → List D → Addr → List (Str × D) → Prop}
theorem evf_MW (hb : ρ[j]? = some (some (.box x l C f r g es))) (ha : AtBox ρ i j x) (h1 : ¬ m = f) (h2 : ¬ m = g) (h : EvS K ta ρ ds) (hn : ds.length + 1 = n) (hr : R r es ds d es') :
    EvF K (tMethW C m (spMX K C n f g R RX) E (tVar i) ta) ρ d (ρ.set j (some (.box x l C f r g es'))) := fun G0 H0 G H σ Q s k => by
  obtain ⟨_, _, _, ne, dx, u, ws, b2, b3, b4, b5⟩ := s.boxAt hb
  refine ⟨.ref x, s.boxV hb ha, x, dx, _, rfl, b2, ?_, ?_⟩
  · rw [look_tl h1, look_tl h2]; rfl
  refine h G0 H0 G H σ _ s fun vs G1 H1 g1 r1 => ?_
  have s1 := s.step g1
  obtain ⟨_, ⟨x0, gx⟩, ⟨l0, gl⟩, _, dx', u', ws', c2, c3, c4, c5⟩ := s1.boxAt hb
  exact ⟨x, l, dx', u', ws', vs, G1, ds, r, es, rfl, by rw [r1.length]; exact hn, ne, c2, c4, gx, gl, g1.gh, c3, c5, r1, .inl ⟨d, es', hr, fun v G' H' dy u2 ws2 go z1 z2 e1 e2 e3 e4 rv =>
    k v G' H' (g1.gg.trans go.gg) (s1.backM hb go z1 z2 e1 e2 e3 e4) rv⟩⟩
theorem ewf_MW (hb : ρ[j]? = some (some (.box x l C f r g es))) (ha : AtBox ρ i j x) (h1 : ¬ m = f) (h2 : ¬ m = g) (h : EvS K ta ρ ds) (hn : ds.length + 1 = n) (hr : RX r es ds C' fds) :
    EvWF K W (tMethW C m (spMX K C n f g R RX) (WE W) (tVar i) ta) ρ C' fds ρ := fun G0 H0 G H σ Q s k => by
  obtain ⟨_, _, _, ne, dx, u, ws, b2, b3, b4, b5⟩ := s.boxAt hb
  refine ⟨.ref x, s.boxV hb ha, x, dx, _, rfl, b2, ?_, ?_⟩
  · rw [look_tl h1, look_tl h2]; rfl
  refine h G0 H0 G H σ _ s fun vs G1 H1 g1 r1 => ?_
  have s1 := s.step g1
  obtain ⟨_, ⟨x0, gx⟩, ⟨l0, gl⟩, _, dx', u', ws', c2, c3, c4, c5⟩ := s1.boxAt hb
  refine ⟨x, l, dx', u', ws', vs, G1, ds, r, es, rfl, by rw [r1.length]; exact hn, ne, c2, c4, gx, gl, g1.gh, c3, c5, r1, .inr ⟨C', fds, hr, fun dd G' H' dy u2 ws2 go z1 z2 e1 e2 e3 e4 xn => ?_⟩⟩
  have s4 := s1.backM hb go z1 z2 e1 e2 e3 e4
  rw [set_same hb] at s4
  exact k dd G' H' (g1.gg.trans go.gg) s4 (xn.back (s.go.hh.trans g1.hh))
end
theorem esw_head {tr : TA} (h : EvWF K W te ρ C fds ρ1) : EsWF K W (tCons te tr) ρ C fds ρ1 := fun G0 H0 G H σ Q s k => h G0 H0 G H σ _ s k
theorem esw_tail {tr : TA} (h : EvD K te ρ d) (t : EsWF K W tr ρ C fds ρ1) : EsWF K W (tCons te tr) ρ C fds ρ1 := fun G0 H0 G H σ Q s k =>
  h G0 H0 G H σ _ s fun v G1 H1 g1 r1 => t G0 H0 G1 H1 σ _ (s.step g1) fun d G' H' e => k d G' H' (g1.gg.trans e)
theorem ewf_lst (h : EsWF K W ta ρ C fds ρ1) : EvWF K W (tLst ta) ρ C fds ρ1 := fun G0 H0 G H σ Q s k => h G0 H0 G H σ _ s k
theorem ewf_opL (h : EvWF K W te ρ C fds ρ1) : EvWF K W (tOp rr te tb) ρ C fds ρ1 := fun G0 H0 G H σ Q s k => h G0 H0 G H σ _ s k
theorem sw_retF (h : EvWF K W te ρ C fds ρ1) : StW K W (tRet te) ρ C fds ρ1 := fun G0 H0 G H σ D s k => h G0 H0 G H σ _ s fun d G' H' e s' => k d G' H' σ e s'
theorem sw_dropF (h : EvWF K W te ρ C fds ρ1) : StW K W (tDrop te) ρ C fds ρ1 := fun G0 H0 G H σ D s k => h G0 H0 G H σ _ s fun d G' H' e s' => k d G' H' σ e s'
theorem rm_retF (h : EvF K te ρ d ρ1) (hb : ρ1[0]? = some (some (.box x l C f r g es'))) : RetM K (tRet te) ρ x l C f r g d es' := fun G0 H0 G H σ D s q1 q2 =>
  h G0 H0 G H σ _ s fun v G1 H1 e1 s1 r1 => q1 v G1 H1 σ ρ1 e1 s1 hb r1
end
/-! ### try around a box -/
def RtXM (K : PySem.W.Frag) (t : TS) (ρ : Rho) (x l C : Addr) (f : Str) (r : D) (g : Str) (dd : Option Addr) (fds : List (Str × D)) (d : D) (es' : List D) : Prop := ∀ G0 H0 G H σ (W : Ends), Sl K G0 H0 G H σ ρ → XD K G dd fds →
  (∀ v G' H' σ' ρ', Ex G G' → Sl K G0 H0 G' H' σ' ρ' → ρ'[0]? = some (some (.box x l C f r g es')) → Rp K G' v d → W.rt v H') → t W σ H
section
variable {K : PySem.W.Frag} {ρ ρ1 : Rho} {dd : Option Addr} {a C C' D0 x l : Addr} {f g m : Str} {r d d1 : D} {fds : List (Str × D)} {es es' ds : List D} {te ta tb : TE} {t u : TS} {p q : Bool} {i j : Nat} {c : Value} {tb' : WX → TS} {ts : Addr → Value → Option Addr → TS} {Wout : WX}
theorem rm_try (h : ∀ W, RetM K (tb' W) ρ x l C f r g d es') : RetM K (fun D σ H => tb' (wAs K c i ts Wout D) D σ H) ρ x l C f r g d es' := fun G0 H0 G H σ D s q1 q2 => h _ G0 H0 G H σ D s q1 q2
theorem rm_tryW (h : ∀ W, StW K W (tb' W) ρ C' fds ρ1) (hi : 0 < i) (he : PySem.W.exmOne K (.ref C') c = some true) (hs : ∀ a dd, RtXM K (ts a (.ref C') dd) (ρ1.set i (some (.dat (.cls (.ref a))))) x l C f r g dd fds d es') :
    RetM K (fun D σ H => tb' (wAs K c i ts Wout D) D σ H) ρ x l C f r g d es' := fun G0 H0 G H σ D s q1 q2 =>
  h _ G0 H0 G H σ D s fun dd G' H' σ' e s' xn => by
    refine ⟨true, he, fun _ a ha => ?_, fun z => Bool.noConfusion z⟩
    obtain ⟨G1, e1, s1, x1⟩ := s'.xd xn
    exact hs a dd G0 H0 _ H' _ _ (s1.set (i := i) (v := .ref a) (.cls _)) x1 fun v G2 H2 σ2 ρ2 e2 s2 hb rv => q1 v G2 H2 σ2 ρ2 ((e.trans e1).trans e2) s2 hb rv
theorem rxm_ret (h : EvXD K te ρ dd fds d) (hb : ρ[0]? = some (some (.box x l C f r g es'))) : RtXM K (tRet te) ρ x l C f r g dd fds d es' := fun G0 H0 G H σ W s w k => h G0 H0 G H σ _ s w fun v G' H' g r => k v G' H' σ ρ g.gg (s.step g) hb r
theorem rxm_asg (h : EvXD K te ρ dd fds d1) (k : RtXM K u (ρ.set i (some (.dat d1))) x l C f r g dd fds d es') : RtXM K (tSeq (tAsg te (gName i)) u) ρ x l C f r g dd fds d es' := fun G0 H0 G H σ W s w q => h G0 H0 G H σ _ s w fun v G1 H1 g1 r1 =>
  k G0 H0 G1 H1 _ W ((s.step g1).set r1) (w.mono g1.gg) fun v G2 H2 σ2 ρ2 e2 s2 hb rv => q v G2 H2 σ2 ρ2 (g1.gg.trans e2) s2 hb rv
theorem rxd_asg (h : EvXD K te ρ dd fds d1) (k : RtXD K u (ρ.set i (some (.dat d1))) dd fds d) : RtXD K (tSeq (tAsg te (gName i)) u) ρ dd fds d := fun G0 H0 G H σ W s w q => h G0 H0 G H σ _ s w fun v G1 H1 g1 r1 =>
  k G0 H0 G1 H1 _ W ((s.step g1).set r1) (w.mono g1.gg) q
theorem exd_andV (h1 : EvXD K ta ρ dd fds (.bl p)) (h2 : p = true → EvXD K tb ρ dd fds (.bl q)) : EvXD K (tAndV ta tb) ρ dd fds (.bl (p && q)) := fun G0 H0 G H σ Q s w k => h1 G0 H0 G H σ _ s w fun v G1 H1 g1 r1 => by
  cases r1
  refine ⟨p, rfl, ?_⟩
  cases p with
  | true =>
    show tb σ H1 Q
    exact h2 rfl G0 H0 G1 H1 σ Q (s.step g1) (w.mono g1.gg) fun v G2 H2 g2 r2 => k v G2 H2 (g1.trans g2) r2
  | false =>
    show Q (.bl false) H1
    exact k _ G1 H1 g1 (.bl false)
theorem exd_orV (h1 : EvXD K ta ρ dd fds (.bl p)) (h2 : p = false → EvXD K tb ρ dd fds (.bl q)) : EvXD K (tOrV ta tb) ρ dd fds (.bl (p || q)) := fun G0 H0 G H σ Q s w k => h1 G0 H0 G H σ _ s w fun v G1 H1 g1 r1 => by
  cases r1
  refine ⟨p, rfl, ?_⟩
  cases p with
  | false =>
    show tb σ H1 Q
    exact h2 rfl G0 H0 G1 H1 σ Q (s.step g1) (w.mono g1.gg) fun v G2 H2 g2 r2 => k v G2 H2 (g1.trans g2) r2
  | true =>
    show Q (.bl true) H1
    exact k _ G1 H1 g1 (.bl true)
theorem exd_is (h : EvXD K te ρ dd fds d) (e : d = d1) : EvXD K te ρ dd fds d1 := e ▸ h
end
/-! ### isinstance of a caught exception that has a dict -/
def rIsX (K : PySem.W.Frag) (cls : Value) (d : Option Addr) (a : Addr) : List V → Hp → VK → Prop := fun xs H Q => ∃ (C : Addr) (c : V) (cv : Value) (b : Bool), cls = .ref C ∧ (d = none ∨ ∃ (dd : Addr) (fs : List (Str × V)), d = some dd ∧ H dd = some (.xd fs)) ∧ L2.ExcC K C ∧ xs = [.ref a, c] ∧ (∀ u, RelV c u → u = cv) ∧ PySem.W.kitOne K (.ref C) cv = some b ∧ Q (.bl b) H
theorem call_isX {X : Cx} {a : Addr} {oe : Obj} {cls : Value} {d : Option Addr} {pn : List (Addr × Obj)} (hz : Zc cls d oe) (hf : ∃ vs, oe.data = .fields vs) : CallR (X.suite a ((a, oe) :: pn)) (.builtin "isinstance") (rIsX X.K cls d a) := by
  intro pins s σ H xs us Q I r h
  obtain ⟨C, c, cv, b, rfl, hdd, E, rfl, hcv, e, q⟩ := h
  cases r with
  | cons rx rr =>
    cases rr with
    | cons rt rr =>
      cases rr
      cases rx
      have ec := hcv _ rt
      subst ec
      obtain ⟨hget, _⟩ := I.pin (a, oe) (List.mem_append_left _ List.mem_cons_self)
      obtain ⟨vs, hv⟩ := hf
      have J : ∃ od, PySem.W.InstAt s.heap a oe C od := by
        rcases hdd with rfl | ⟨dd, fs, rfl, hd⟩
        · refine ⟨none, ?_⟩
          obtain ⟨oc, od, oda, osl⟩ := oe
          obtain ⟨h1, h2⟩ := hz
          dsimp only at h1 h2 hv
          subst h1 h2 hv
          exact ⟨hget, rfl, rfl, trivial⟩
        · have ox : ObjOk X.prog X.w H s.heap dd (.xd fs) := I.hok dd _ hd
          obtain ⟨mA, hns, _⟩ := ox
          obtain ⟨od, ho, _⟩ := lookIn_ns hns
          exact ⟨some od, hget, hz.1, by unfold PySem.W.notCls; rw [hv] <;> rfl, by rw [hz.2]; exact ho⟩
      obtain ⟨od, J⟩ := J
      have cl : (PySem.W.clsIn X.K C).isSome = true := by
        obtain ⟨cd, hc, _⟩ := PySem.W.any_some E.hd
        rw [hc]; rfl
      exact PySem.W.kia_one (PySem.W.kitx_exc cl E.hg E.hk E.hs E.ha E.hn E.ht E.hm) I.kIn J e (fun z => nomatch z) fun tk => ⟨.bl b, H, I.kept (t' := tk) fun _ _ z => z, rfl, q⟩
theorem exd_isX {K : PySem.W.Frag} {ρ : Rho} {dd : Option Addr} {a C : Addr} {fds : List (Str × D)} {i : Nat} {c : V} {cv : Value} {b : Bool} (hi : ρ[i]? = some (some (.dat (.cls (.ref a))))) (E : L2.ExcC K C) (hcv : ∀ u, RelV c u → u = cv) (hk : PySem.W.kitOne K (.ref C) cv = some b) :
    EvXD K (tCB (rIsX K (.ref C) dd a) (tCons (tVar i) (tCons (tC c) tNil))) ρ dd fds (.bl b) := fun G0 H0 G H σ Q s w k => by
  obtain ⟨v, h1, h2⟩ := s.dat i _ hi
  cases h2
  refine ⟨.ref a, h1, C, c, cv, b, rfl, ?_, E, rfl, hcv, hk, k _ G H (Go.refl s.gh) (.bl b)⟩
  rcases w with ⟨rfl, _⟩ | ⟨d0, fs, rfl, x1, _⟩
  · exact .inl rfl
  · exact .inr ⟨d0, fs, rfl, s.gh _ _ x1⟩
theorem kit_ref {K : PySem.W.Frag} {D C : Addr} {b : Bool} (h1 : PySem.W.isClsIn K C = true) (h2 : PySem.W.typeIn K (.ref C) = some (.type "type")) (h3 : PySem.W.subIn K (.ref D) (.ref C) = some b) (h4 : (D == C) = true → b = true) : PySem.W.kitOne K (.ref D) (.ref C) = some b := by
  unfold PySem.W.kitOne
  by_cases e : ((Value.ref D) == (Value.ref C)) = true
  · rw [if_pos e]
    have e2 : D = C := Value.ref.inj (beq_iff_eq.mp e)
    rw [h4 (by rw [e2]; exact beq_self_eq_true _)]
  · rw [if_neg e]
    have c : (PySem.W.clsIn K C).isSome = true := h1
    unfold PySem.W.kitCls
    simp only [c, h2, h3]
    rfl
theorem kit_tyX {K : PySem.W.Frag} {D : Addr} {T : String} {b : Bool} (h1 : PySem.W.kitMeta T = true) (h3 : PySem.W.subIn K (.ref D) (.type T) = some b) : PySem.W.kitOne K (.ref D) (.type T) = some b := by
  unfold PySem.W.kitOne
  rw [if_neg (fun z => by cases beq_iff_eq.mp z)]
  unfold PySem.W.kitCls
  simp only [h1, h3]
  rfl
end Ax

namespace Ax
open PySem PySem.Spec PyProof.Rows L2 Evl
/-! ### defs that are lent a box; defs called while an exception is handled -/
structure CalH (P : Program) (w : World) (K : PySem.W.Frag) (mg : Str → Option Value) (base : Heap) (x : Str) (k : Nat) (ps : List Str) (sp : Sp) : Prop where
  ex : ∃ (f : Addr) (fd : FuncData), L2H.FnH P w K mg base CX0 k f fd ps sp ∧ mg x = some (.ref f) ∧ PySem.W.keepIn K (.ref f) = true ∧ Binds K fd ps []
section
variable {P : Program} {w : World} {K : PySem.W.Frag} {mg : Str → Option Value} {base : Heap} {x : Str} {k n : Nat} {ps N : List Str} {st : Stmt} {C : Addr} {f g : Str}
theorem Has.calB {R : D → List D → List D → D → List D → Prop} (h : Has K mg x st ps) (Sc : FnScope N ps (defScope st)) (hn : ps.length = n)
    (hbody : ∀ (fa : Addr) (cdv : Value) (A : Around) (outer : List Env) (s : Shared) (H : Hp) (E : XK), Room k (A.deeper (envOfC x (defScope st) s.heap.objs.size fa cdv)) →
      ∃ t, PSs (cxOf CX0 P w K mg base N x (defScope st) fa cdv A outer s H E).nox (defBody st) t ∧ ∀ b l r es ds d es', R r es ds d es' → RetM K t (rhoB N b l C f r g es ds) b l C f r g d es') : Cal P w K mg base x (k + 1) ps (spM K C n f g R) := by
  obtain ⟨fa, fd, F, m, b, _⟩ := h.ex
  exact ⟨fa, fd, fn_M F Sc hn fun cdv A outer s H E hr => hbody fa cdv A outer s H E hr, m, F.kp, b⟩
theorem Has.calH {R : List D → D → Prop} (h : Has K mg x st ps) (Sc : FnScope N ps (defScope st)) (hn : ps.length = n)
    (hbody : ∀ (fa : Addr) (cdv : Value) (A : Around) (outer : List Env) (s : Shared) (H : Hp) (E : XK) (p : Addr × Obj), L2H.Hot1 A p → L2H.RoomH k (A.deeper (envOfC x (defScope st) s.heap.objs.size fa cdv)) →
      ∃ t, PSs (L2H.cxH CX0 P w K mg base N x (defScope st) fa cdv A outer s H E p) (defBody st) t ∧ ∀ ds d, R ds d → Ends1 K t (rho0 N ds) d) : CalH P w K mg base x (k + 1) ps (spD K n R) := by
  obtain ⟨fa, fd, F, m, b, _⟩ := h.ex
  refine ⟨fa, fd, ?_, m, F.kp, b⟩
  obtain ⟨_, _, _, _, _, _, cdv, _, _, rfl, lk, hcd⟩ := F.ex
  refine L2H.fn_ofH lk hcd Sc (fun vs H Q E h => ?_) fun A outer s H vs Q E p hp hr h => ?_
  · obtain ⟨_, _, _, hl, _⟩ := h
    rw [hl, hn]
  · obtain ⟨t, h1, h2⟩ := hbody fa cdv A outer s H E p hp hr
    obtain ⟨G, ds, d, hl, e, r, hR, q⟩ := h
    refine ⟨t, h1, ?_⟩
    have s0 := sl_start (N := N) e r
    cases h2 ds d hR with
    | rt h => exact h G H G H _ _ s0 fun v G' H' g r => q v G' H' g r
    | nx h => exact h G H G H _ _ s0 fun G' H' σ' _ s' => q .non G' H' s'.go .non
end
section
variable {X : Cx} {x : Str} {k : Nat} {ps : List Str} {sp : Sp} {e : Expr} {es : List Expr} {t : TA} {p pos : Pos} {a : Addr} {oe : Obj} {cls : Value} {d : Option Addr} {pn : List (Addr × Obj)}
theorem hot_suite (hz : L2N.Zn cls d oe) (hf : ∃ vs, oe.data = .fields vs) : L2H.HotC (X.suite a ((a, oe) :: pn)) := by
  obtain ⟨vs, hv⟩ := hf
  exact ⟨(a, oe), ⟨rfl, vs, hv, hz.2.2 vs hv⟩, List.mem_cons_self⟩
theorem pe_calH (c : CalH X.prog X.w X.K X.mg X.base x k ps sp) (hr : L2H.RoomH k X.A) (hc : L2H.HotC X) (ha : PA X (e :: es) t) (hg : Gl X x := by rfl) (hdb : (x == ("__debug__" : Str)) = false := by decide)
    (he : starEach (e :: es) X.env = (false, eval e X.env) :: starEach es X.env := by rfl) (hpl : (backTo pos (starEach es X.env)).any (·.1) = false := by rfl) : PE X (.Call (.Name x p) (e :: es) [] pos) (tCallS sp (fun _ => E0) t) := by
  obtain ⟨f, fd, F, m, kp, b⟩ := c.ex
  exact L2H.pe_callH F hr hc hg m kp b (fun σ _ _ _ _ _ _ c => c.elim) ha hdb he hpl
end
section
variable {K : PySem.W.Frag} {ρ : Rho} {ta : TA} {ds : List D} {d : D} {n : Nat} {R : List D → D → Prop} {E : L2.St → XK} {dd : Option Addr} {fds : List (Str × D)}
theorem exd_callS (h : EsXD K ta ρ dd fds ds) (hn : ds.length = n) (hr : R ds d) : EvXD K (tCallS (spD K n R) E ta) ρ dd fds d := fun G0 H0 G H σ Q s w k =>
  h G0 H0 G H σ _ s w fun vs G1 H1 g1 r1 => ⟨G1, ds, d, by rw [r1.length]; exact hn, g1.gh, r1, hr, fun v G' H' g r => k v G' H' (g1.trans g) r⟩
end
end Ax

namespace Ax
open PySem PySem.Spec PyProof.Rows L2 Evl
/-! ### a walk over reversed(list) -/
theorem it_rev {K : PySem.W.Frag} {ρ : Rho} {ta : TA} {ds : List D} (h : EvS K ta ρ [.lst ds]) : ItD K (iRev K ta) ρ ds.reverse := fun G0 H0 G H σ R s k => h G0 H0 G H σ _ s fun vs G1 H1 g1 r1 => by
  cases r1 with
  | cons r2 r3 =>
    cases r3
    cases r2 with
    | lst hx ra =>
      rename_i a xs
      refine ⟨a, xs, rfl, ex_l g1.gh hx, k _ G1 H1 g1 ⟨fun H => SqL K H a xs, (fun i H x H' => H' = H ∧ xs[xs.length - 1 - i]? = some x), ?_, fun H' e => ex_l e hx, ?_⟩⟩
      · rw [List.length_reverse, ← ra.length]; exact walk_rev
      · rintro i d G' H' x H'' hd e1 e2 ⟨rfl, hv⟩
        have hi := (List.getElem?_eq_some_iff.mp hd).1
        rw [List.length_reverse] at hi
        obtain ⟨d', hd', r'⟩ := ra.getV hv
        rw [List.getElem?_reverse hi, ← ra.length, hd'] at hd
        cases hd
        exact ⟨G', Go.refl e2, r'.mono e1⟩
end Ax

namespace Ax
open PySem PySem.Spec PyProof.Rows L2 Evl
/-! ### a call of an instance that may raise; an own x[i] while an exception is handled -/
def tCallIW (S : Addr → Sp → Prop) (E : L2.St → XK) (tf : TE) (t : TA) : TE := fun σ H Q => tf σ H fun y H1 => ∃ a C sp, y = V.ref a ∧ S C sp ∧ t σ H1 fun vs H2 => (∃ dx gs, H2 a = some (.ins C dx gs)) ∧ sp (V.ref a :: vs) H2 Q (E σ)
structure CalMH (P : Program) (w : World) (K : PySem.W.Frag) (mg : Str → Option Value) (base : Heap) (C : Addr) (x : Str) (k : Nat) (ps : List Str) (sp : Sp) : Prop where
  ex : ∃ (f : Addr) (fd : FuncData), L2H.FnH P w K mg base CX0 k f fd ps sp ∧ PySem.W.findIn K (.ref C) x = some (some (.ref f)) ∧ PySem.W.isFn K (.ref f) = true ∧ PySem.W.keepIn K (.ref f) = true ∧ Binds K fd ps [] ∧ PySem.W.fnIn K f = true
section
variable {P : Program} {w : World} {K : PySem.W.Frag} {mg : Str → Option Value} {base : Heap} {x q : Str} {k n : Nat} {ps N : List Str} {st : Stmt} {C f : Addr}
theorem HasM.calH {R : List D → D → Prop} (h : HasM K C x q st ps f) (Sc : FnScope N ps (defScope st)) (hn : ps.length = n)
    (hbody : ∀ (cdv : Value) (A : Around) (outer : List Env) (s : Shared) (H : Hp) (E : XK) (p : Addr × Obj), L2H.Hot1 A p → L2H.RoomH k (A.deeper (envOfC q (defScope st) s.heap.objs.size f cdv)) →
      ∃ t, PSs (L2H.cxH CX0 P w K mg base N q (defScope st) f cdv A outer s H E p) (defBody st) t ∧ ∀ ds d, R ds d → Ends1 K t (rho0 N ds) d) : CalMH P w K mg base C x (k + 1) ps (spD K n R) := by
  obtain ⟨fd, F, b⟩ := h.ex
  refine ⟨f, fd, ?_, h.at_, h.fn, F.kp, b, fn_in F⟩
  obtain ⟨_, _, _, _, _, _, cdv, _, _, rfl, lk, hcd⟩ := F.ex
  refine L2H.fn_ofH lk hcd Sc (fun vs H Q E h => ?_) fun A outer s H vs Q E p hp hr h => ?_
  · obtain ⟨_, _, _, hl, _⟩ := h
    rw [hl, hn]
  · obtain ⟨t, h1, h2⟩ := hbody cdv A outer s H E p hp hr
    obtain ⟨G, ds, d, hl, e, r, hR, q⟩ := h
    refine ⟨t, h1, ?_⟩
    have s0 := sl_start (N := N) e r
    cases h2 ds d hR with
    | rt h => exact h G H G H _ _ s0 fun v G' H' g r => q v G' H' g r
    | nx h => exact h G H G H _ _ s0 fun G' H' σ' _ s' => q .non G' H' s'.go .non
end
section
variable {X : Cx} {W : WX} {a b e fe : Expr} {ta tb tf : TE} {t : TA} {es : List Expr} {k : Nat} {ps : List Str} {sp : Sp} {C : Addr} {pos : Pos}
theorem pe_callIW {S : Addr → Sp → Prop} (hf : PE X fe tf) (c : ∀ C sp, S C sp → ∃ ps, CalMX X.prog X.w X.K X.mg X.base C "__call__" k ps sp) (tk : L2N.Takes X W) (hr : Room k X.A) (ha : PA X (e :: es) t)
    (ht : eval (.Call fe (e :: es) [] pos) X.env = (do callWith pos (← eval fe X.env) [] (backTo pos (starEach (e :: es) X.env)) (backToKw pos (keywordEach [] X.env))) := by rfl)
    (he : starEach (e :: es) X.env = (false, eval e X.env) :: starEach es X.env := by rfl) (hpl : (backTo pos (starEach es X.env)).any (·.1) = false := by rfl) : PE X (.Call fe (e :: es) [] pos) (tCallIW S (WE W) tf t) := by
  refine ⟨fun pins s σ H Q I h => Call_ (thn (hf.run pins s σ H _ I h) fun u s1 z => ?_) ht⟩
  obtain ⟨y, H1, I1, ry, a, C, sp, ey, hS, q⟩ := z
  subst ey
  obtain rfl : u = Value.ref a := ry
  obtain ⟨ps, cm⟩ := c C sp hS
  obtain ⟨f, fd, F, mm, fn, kp, bb, fi⟩ := cm.ex
  refine _root_.StX.callO_with (thn (ha.run pos pins s1 σ H1 _ I1 q) fun us s3 z3 => ?_) he hpl
  obtain ⟨vs, H2, I3, r, ⟨dx2, gs2, hi⟩, q2⟩ := z3
  obtain ⟨mA, O, _⟩ := ins_get I3.hok hi
  obtain ⟨od, J, _⟩ := O.look
  refine ⟨⟨C, _, _, J, rfl⟩, ?_⟩
  have hl := F.len _ _ _ _ q2
  have rr : Vals (V.ref a :: vs) (Value.ref a :: us) := .cons rfl r
  refine wpAny_call (PySem.W.kco_code I3.kIn J rfl mm fn fi (codeAny_mono (F.run X.A X.stack s3 H2 ⟨.ref a :: us, []⟩ (.ref a :: us) (.ref a :: vs) Q (WE W σ) hr I3.env0 (by
    have := bb s3 (.ref a :: us) I3.kIn (by rw [List.append_nil, ← rr.length]; exact hl)
    simpa using this) rr q2) fun res s' hq => ?_))
  cases res with
  | error e => exact L2N.passAt tk σ pins H2 s3 e s' I3 hq
  | ok fl =>
    cases fl with
    | ret w => exact I3.after hq
    | next => exact False.elim hq
    | brk => exact False.elim hq
    | cont => exact False.elim hq
theorem pe_ixOwnH (c : CalMH X.prog X.w X.K X.mg X.base C "__getitem__" k ps sp) (hr : L2H.RoomH (k + 1) X.A) (hc : L2H.HotC X) (ha : PE X a ta) (hb : PE X b tb)
    (hs : ∀ o i, subscripted b true o i = runValue (.builtin "lifetime.subscript" ⟨[o, i], []⟩)) : PE X (.Subscript a b pos) (tOp (rOwnIx C sp E0) ta tb) := by
  obtain ⟨f, fd, F, m, fn, kp, bn, fi⟩ := c.ex
  obtain ⟨pn, hot, hpn⟩ := hc
  refine ⟨fun pins s σ H Q I h => Subscript_ (binT ha hb I h fun v u s2 x y H2 I2 rx ry q => ?_)⟩
  obtain ⟨a0, dx, gs, rfl, hi, hsp⟩ := q
  cases rx
  obtain ⟨mA, J, _⟩ := ins_get I2.hok hi
  obtain ⟨od, J, _⟩ := J.look
  obtain ⟨m0, hF⟩ := I2.fr
  refine PySem.W.sub_K hF I2.ok.mod.kin J m fi fn ?_ (hs _ _)
  have hl := F.len _ _ _ _ hsp
  have r2 : Vals [V.ref a0, y] [Value.ref a0, u] := .cons rfl (.cons ry .nil)
  have e0 : Env0 X.prog X.w X.K X.mg X.base X.A.in1 X.stack s2 H2 := by
    have e := I2.env0
    exact ⟨e.frames, e.mod, e.bs, e.bsz, e.funs, e.frf, e.hok, e.bare⟩
  have P1 := I2.pin pn (List.mem_append_left _ hpn)
  have hpin : L2H.PinOk X.stack H2 s2 pn := ⟨P1.1, P1.2.1, fun hmm => (List.mem_cons.mp (I2.stkSub pn.1 hmm)).elim P1.2.2.1 P1.2.2.2.1, P1.2.2.2.2⟩
  have hr1 : L2H.RoomH k X.A.in1 := ⟨by have := hr.dp; show X.A.depth + _ + _ < _; omega, by have := hr.un; show X.A.units + _ + _ + _ < _; omega⟩
  refine wpAny_call (codeAny_mono (F.run X.A.in1 X.stack s2 H2 ⟨[.ref a0, u], []⟩ [.ref a0, u] [.ref a0, y] _ E0 pn hr1 ⟨hot.1, hot.2⟩ hpin e0 (by
    have := bn s2 [.ref a0, u] I2.kIn (by simpa using hl)
    simpa using this) r2 hsp) fun r s' hq => ?_)
  cases r with
  | error e => exact hq.elim
  | ok fl =>
    cases fl with
    | ret w => exact I2.after hq
    | next => exact False.elim hq
    | brk => exact False.elim hq
    | cont => exact False.elim hq
end
section
variable {K : PySem.W.Frag} {W : WX} {ρ : Rho} {tf te ta tb : TE} {t : TA} {tt : TT} {ds : List D} {d a b : D} {n i : Nat} {R : List D → D → Prop} {RX : List D → Addr → List (Str × D) → Prop} {E : L2.St → XK} {C C' x l : Addr} {f g : Str} {r : D} {es : List D} {fds : List (Str × D)} {gs : List (Str × D)} {S : Addr → Sp → Prop} {dd : Option Addr} {rr : R2} {p q : Bool}
theorem ev_callIW (hf : EvD K tf ρ (.ins C gs)) (h : EvS K t ρ ds) (hS : S C (spDX K n R RX)) (hn : ds.length + 1 = n) (hr : R (.ins C gs :: ds) d) : EvD K (tCallIW S E tf t) ρ d := fun G0 H0 G H σ Q s k =>
  hf G0 H0 G H σ _ s fun v G1 H1 g1 r1 => by
    have r1' := r1
    cases r1 with
    | ins hx ra =>
      refine ⟨_, C, _, rfl, hS, ?_⟩
      refine h G0 H0 G1 H1 σ _ (s.step g1) fun vs G2 H2 g2 r2 => ⟨⟨_, _, g2.gh _ _ (g2.gg _ _ hx)⟩, ?_⟩
      exact ⟨G2, _, by rw [List.length_cons, r2.length]; exact hn, g2.gh, .cons (r1'.mono g2.gg) r2, .inl ⟨d, hr, fun v G' H' g r => k v G' H' ((g1.trans g2).trans g) r⟩⟩
theorem ew_callIW (hf : EvD K tf ρ (.ins C gs)) (h : EvS K t ρ ds) (hS : S C (spDX K n R RX)) (hn : ds.length + 1 = n) (hr : RX (.ins C gs :: ds) C' fds) : EvW K W (tCallIW S (WE W) tf t) ρ C' fds := fun G0 H0 G H σ Q s k =>
  hf G0 H0 G H σ _ s fun v G1 H1 g1 r1 => by
    have r1' := r1
    cases r1 with
    | ins hx ra =>
      refine ⟨_, C, _, rfl, hS, ?_⟩
      refine h G0 H0 G1 H1 σ _ (s.step g1) fun vs G2 H2 g2 r2 => ⟨⟨_, _, g2.gh _ _ (g2.gg _ _ hx)⟩, ?_⟩
      exact ⟨G2, _, by rw [List.length_cons, r2.length]; exact hn, g2.gh, .cons (r1'.mono g2.gg) r2, .inr ⟨C', fds, hr, fun d G' H' g xn => k d G' H' ((g1.trans g2).trans g) (xn.back (g1.trans g2).hh)⟩⟩
theorem ewf_of (h : EvW K W te ρ C fds) : EvWF K W te ρ C fds ρ := fun G0 H0 G H σ Q s k => h G0 H0 G H σ Q s fun d G' H' g xn => k d G' H' g.gg (s.step g) (xn.back s.go.hh)
theorem exd_lend (hb : ρ[n]? = some (some (.box x l C f r g es))) (h : EvXD K te (ρ.set n (some (.dat (.ins C [(f, r), (g, .lst es)])))) dd fds d) (hp : d.pu = true) : EvXD K te ρ dd fds d := fun G0 H0 G H σ Q s w k => by
  obtain ⟨G1, eg, s1, ⟨dx, gs, e1⟩, ⟨vs, e2⟩, oth, gx, gl, hx, hl⟩ := s.lend hb
  refine h G0 H0 G1 H σ _ s1 (w.mono eg) fun v G' H' g1 r1 => k v (del2 G' x l) H' (unlend_go eg oth gx gl hx hl g1) (r1.unlend (fun a vs e => ?_) (fun a o vs e => ?_) hp)
  · rw [del2_ne]
    · exact e
    · intro z; rw [z, g1.gg _ _ e1] at e; cases e
    · intro z; rw [z, g1.gg _ _ e2] at e; cases e
  · rw [del2_ne]
    · exact e
    · intro z; rw [z, g1.gg _ _ e1] at e; cases e
    · intro z; rw [z, g1.gg _ _ e2] at e; cases e
theorem exd_op (ha : EvXD K ta ρ dd fds a) (hb : EvXD K tb ρ dd fds b) (hr : RvD K rr a b d) : EvXD K (tOp rr ta tb) ρ dd fds d := fun G0 H0 G H σ Q s w q =>
  ha G0 H0 G H σ _ s w fun x G1 H1 g1 r1 => hb G0 H0 G1 H1 σ _ (s.step g1) (w.mono g1.gg) fun y G2 H2 g2 r2 => hr G2 H2 x y Q g2.gh (r1.mono g2.gg) r2 fun v G3 H3 g3 r3 => q v G3 H3 ((g1.trans g2).trans g3) r3
theorem exd_opS (ha : EvXD K ta ρ dd fds a) (hb : EvXD K tb ρ dd fds b) (hr : RvS K rr a b d) : EvXD K (tOp rr ta tb) ρ dd fds d := fun G0 H0 G H σ Q s w q =>
  ha G0 H0 G H σ _ s w fun x G1 H1 g1 r1 => hb G0 H0 G1 H1 σ _ (s.step g1) (w.mono g1.gg) fun y G2 H2 g2 r2 => hr H2 x y Q ((r1.mono g2.gg).mono g2.gh) (r2.mono g2.gh) fun v r3 => q v G2 H2 (g1.trans g2) (r3 G2)
theorem exd_cb {rc : List V → Hp → VK → Prop} (h : EsXD K t ρ dd fds ds) (hr : RcS K rc ds d) : EvXD K (tCB rc t) ρ dd fds d := fun G0 H0 G H σ Q s w q =>
  h G0 H0 G H σ _ s w fun vs G1 H1 g1 r1 => hr H1 vs Q (r1.mono g1.gh) fun v r3 => q v G1 H1 g1 (r3 G1)
end
end Ax

namespace Ax
open PySem PySem.Spec PyProof.Rows L2 Evl
/-! ### [xs, ys], two new lists in a new one -/
theorem sd_nst2 {K : PySem.W.Frag} {ρ : Rho} {te te2 : TE} {a b : List D} {u : TS} {o : Out} {i : Nat} (h1 : EvN K te ρ a) (h2 : EvN K te2 ρ b) (k : ∀ l As, StD K u (ρ.set i (some (.nst l As [.row a, .row b]))) o) :
    StD K (tSeq (tAsg (tLst (tCons te (tCons te2 tNil))) (gName i)) u) ρ o := fun G0 H0 G H σ W s q =>
  h1 G0 H0 G H σ _ s fun l1 v1 G1 H1 g1 n1 r1 => by
    have s1 := (s.step g1).step ⟨Ex.refl _, g1.gh.trans (Ex.new (o := .lst v1) n1), Ex.new n1, fun _ _ z => z⟩
    refine h2 G0 H0 G1 _ σ _ s1 fun l2 v2 G2 H2 g2 n2 r2 => ?_
    refine ⟨sz_of (by show 2 ≤ 100000; decide), fun p hp => ?_⟩
    have k1 : H2 l1 = some (.lst v1) := g2.hh _ _ upd_same
    have l12 : l1 ≠ l2 := fun z => by rw [z, n2] at k1; cases k1
    have p2 : p ≠ l2 := fun z => by rw [z, upd_same] at hp; cases hp
    have hp2 : H2 p = none := by rw [upd_ne p2] at hp; exact hp
    have p1 : p ≠ l1 := fun z => by rw [z, k1] at hp2; cases hp2
    have gl1 : G2 l1 = none := g2.fr l1 (by rw [upd_same]; exact fun z => nomatch z) (fresh_back g1.gh n1)
    have g3 := g2.del gl1
    rw [delx_upd, delx_new n1] at g3
    have s2 := (s.step g1).step g3
    have s3 := s2.put (i := i) (v := .ref p) (x := .nst p [[l1], [l2]] [.row a, .row b]) (H1 := upd (upd H2 l2 (.lst v2)) p (.lst [.ref l1, .ref l2])) (fun x o e => by
      have x1 : x ≠ l1 := fun z => by rw [z, delx_same] at e; cases e
      rw [delx_ne x1] at e
      rw [upd_ne (fun z => by rw [z, hp2] at e; cases e), upd_ne (fun z => by rw [z, n2] at e; cases e)]
      exact e) (fun x hx => by
      rcases List.mem_cons.mp (show x ∈ [p, l1, l2] from hx) with z | z
      · rw [z, delx_ne p1]; exact hp2
      · rcases List.mem_cons.mp z with z | z
        · rw [z]; exact delx_same
        · rw [List.mem_singleton.mp z, delx_ne (Ne.symm l12)]; exact n2) ⟨rfl, by
      show [p, l1, l2].Nodup
      refine List.nodup_cons.mpr ⟨fun z => ?_, List.nodup_cons.mpr ⟨fun z => l12 (List.mem_singleton.mp z), List.pairwise_singleton _ _⟩⟩
      rcases List.mem_cons.mp z with z | z
      · exact p1 z
      · exact p2 (List.mem_singleton.mp z), _, upd_same, .cons (.row (by rw [upd_ne (Ne.symm p1), upd_ne l12]; exact k1) (r1.mono g2.gg)) (.cons (.row (by rw [upd_ne (Ne.symm p2), upd_same]) r2) .nil)⟩
    exact k p _ G0 H0 G2 _ _ W s3 (q.mono (g1.gg.trans g2.gg))
end Ax

namespace Ax
open PySem PySem.Spec PyProof.Rows L2 Evl
/-! ### C(..) whose __init__ may raise -/
def spIX (K : PySem.W.Frag) (C : Addr) (n : Nat) (R : List D → List (Str × D) → Prop) (RX : List D → Addr → List (Str × D) → Prop) : Sp := fun vs H Q E => ∃ (x dx : Addr) (us : List V) (G : Hp) (ds : List D), vs = .ref x :: us ∧ us.length = n ∧ H x = some (.ins C dx []) ∧ G x = none ∧ Ex G H ∧ RpA K G us ds ∧
  ((∃ fs, R ds fs ∧ ∀ G' H' dy gs, Go G (delx H x) G' H' → G' x = none → H' x = some (.ins C dy gs) → RpF K G' gs fs → Q .non H') ∨
    ∃ C' fds, RX ds C' fds ∧ ∀ d G' H', Go G (delx H x) G' H' → XN K (delx H x) G' H' d fds → E (.ref C') d H')
def tMakeW (C : Addr) (sp : Sp) (E : L2.St → XK) (t : TA) : TE := fun σ H Q => t σ H fun vs H1 => ∀ x dx, H1 x = none → H1 dx = none → dx ≠ x →
  sp (.ref x :: vs) (upd (upd H1 dx (.own x)) x (.ins C dx [])) (fun v H2 => v = .non ∧ Q (.ref x) H2) (E σ)
section
variable {P : Program} {w : World} {K : PySem.W.Frag} {mg : Str → Option Value} {base : Heap} {nm x qual : Str} {st : Stmt} {f C : Addr} {fd : FuncData} {N ps : List Str} {k n : Nat}
theorem fn_IX {R : List D → List (Str × D) → Prop} {RX : List D → Addr → List (Str × D) → Prop} (F : Fun K nm qual st f fd) (Sc : FnScope N ps (defScope st)) (hn : ps.length = n + 1)
    (hbody : ∀ (cdv : Value) (A : Around) (outer : List Env) (s : Shared) (H : Hp) (E : XK), Room k (A.deeper (envOfC qual (defScope st) s.heap.objs.size f cdv)) →
      ∃ t, PSs (cxOf (L2N.CX P w) P w K mg base N qual (defScope st) f cdv A outer s H E) (defBody st) t ∧ (∀ x ds fs, R ds fs → ∃ ρ', StD K t (rhoI N x C ds) (.nx ρ') ∧ ρ'[0]? = some (some (.obj x C fs))) ∧
        ∀ x ds C' fds, RX ds C' fds → ∃ ρ1, StW K (fun cls d _ H => E cls d H) t (rhoI N x C ds) C' fds ρ1) : FnOk P w K mg base (L2N.CX P w) (k + 1) f fd ps (spIX K C n R RX) := by
  refine okN F Sc (fun vs H Q E h => ?_) (fun cdv A outer s H vs Q E hr h => ?_)
  · obtain ⟨x, dx, us, _, _, h, hu, _⟩ := h
    rw [h, List.length_cons, hu, hn]
  · obtain ⟨t, h1, h2, h3⟩ := hbody cdv A outer s H E hr
    obtain ⟨x, dx, us, G, ds, rfl, hl, hx, gx, e, r, h⟩ := h
    refine ⟨t, h1, ?_⟩
    have s0 := sl_startI (N := N) e hx gx r
    rcases h with ⟨fs, hR, q⟩ | ⟨C', fds, hR, q⟩
    · obtain ⟨ρ', h4, h5⟩ := h2 x ds fs hR
      refine h4 G (delx H x) G H _ _ s0 fun G' H' σ' eG s' => ?_
      obtain ⟨g1, g2, g3, dy, gs, g4, g5⟩ := s'.objAt h5
      exact q G' H' dy gs s'.go g3 g4 g5
    · obtain ⟨ρ1, h4⟩ := h3 x ds C' fds hR
      exact h4 G (delx H x) G H _ _ s0 fun d G' H' σ' eG s' xn => q d G' H' s'.go xn
theorem HasM.calIX {R : List D → List (Str × D) → Prop} {RX : List D → Addr → List (Str × D) → Prop} (h : HasM K C nm qual st ps f) (Sc : FnScope N ps (defScope st)) (hn : ps.length = n + 1)
    (hbody : ∀ (cdv : Value) (A : Around) (outer : List Env) (s : Shared) (H : Hp) (E : XK), Room k (A.deeper (envOfC qual (defScope st) s.heap.objs.size f cdv)) →
      ∃ t, PSs (cxOf (L2N.CX P w) P w K mg base N qual (defScope st) f cdv A outer s H E) (defBody st) t ∧ (∀ x ds fs, R ds fs → ∃ ρ', StD K t (rhoI N x C ds) (.nx ρ') ∧ ρ'[0]? = some (some (.obj x C fs))) ∧
        ∀ x ds C' fds, RX ds C' fds → ∃ ρ1, StW K (fun cls d _ H => E cls d H) t (rhoI N x C ds) C' fds ρ1) : CalMX P w K mg base C nm (k + 1) ps (spIX K C n R RX) := by
  obtain ⟨fd, F, b⟩ := h.ex
  exact ⟨f, fd, fn_IX F Sc hn hbody, h.at_, h.fn, F.kp, b, fn_in F⟩
theorem Has.calX {R : List D → D → Prop} {RX : List D → Addr → List (Str × D) → Prop} (h : Has K mg x st ps) (Sc : FnScope N ps (defScope st)) (hn : ps.length = n)
    (hbody : ∀ (f : Addr) (cdv : Value) (A : Around) (outer : List Env) (s : Shared) (H : Hp) (E : XK), Room k (A.deeper (envOfC x (defScope st) s.heap.objs.size f cdv)) →
      ∃ t, PSs (cxOf (L2N.CX P w) P w K mg base N x (defScope st) f cdv A outer s H E) (defBody st) t ∧ (∀ ds d, R ds d → Ends1 K t (rho0 N ds) d) ∧ ∀ ds C fds, RX ds C fds → ∃ ρ1, StW K (fun cls d _ H => E cls d H) t (rho0 N ds) C fds ρ1) : CalX P w K mg base x (k + 1) ps (spDX K n R RX) := by
  obtain ⟨f, fd, F, m, b, _⟩ := h.ex
  exact ⟨f, fd, fn_DX F Sc hn fun cdv A outer s H E hr => hbody f cdv A outer s H E hr, m, F.kp, b⟩
theorem Cal.up {R : List D → D → Prop} (c : Cal P w K mg base x k ps (spD K n R)) : CalX P w K mg base x k ps (spDX K n R fun _ _ _ => False) := by
  obtain ⟨f, fd, F, r⟩ := c.ex
  exact ⟨f, fd, (fn_up F spD_e).imp (spDX_up fun _ _ _ z => z), r⟩
end
section
variable {X : Cx} {W : WX} {x : Str} {k : Nat} {ps : List Str} {sp : Sp} {e : Expr} {es : List Expr} {t : TA} {p pos : Pos} {C : Addr}
theorem pe_newW (M : CCls X.K X.mg x C) (c : CalMX X.prog X.w X.K X.mg X.base C "__init__" k ps sp) (tk : L2N.Takes X W) (hr : Room (k + 1) X.A) (ha : PA X (e :: es) t) (hg : Gl X x := by rfl) (hdb : (x == ("__debug__" : Str)) = false := by decide) (he : starEach (e :: es) X.env = (false, eval e X.env) :: starEach es X.env := by rfl) (hpl : (backTo pos (starEach es X.env)).any (·.1) = false := by rfl) :
    PE X (.Call (.Name x p) (e :: es) [] pos) (tMakeW C sp (WE W) t) := by
  obtain ⟨f, fd, F, m, fn, kp, b, _⟩ := c.ex
  refine ⟨fun pins s σ H Q I h => wpAny_Call_Name_kw (ld_glob I hg M.mgC ?_ hdb)⟩
  refine PySem.W.callWith_K (h₀ := X.base) I.ok.mod.kin M.kp (thn (ha.run pos pins s σ H _ I h) fun us s1 z => ?_) he hpl
  obtain ⟨vs, H1, I1, r, q⟩ := z
  refine ⟨I1.kIn, ?_⟩
  have hq := q (s1.heap.objs.size + 1) s1.heap.objs.size (I1.hok.fresh (Nat.le_succ _)) (I1.hok.fresh (Nat.le_refl _)) (Nat.ne_of_lt (Nat.lt_succ_self _))
  have I2 := Inv.made (C := C) I1
  have vals : Vals (V.ref (s1.heap.objs.size + 1) :: vs) (Value.ref (s1.heap.objs.size + 1) :: us) := .cons rfl r
  have lens : (Value.ref (s1.heap.objs.size + 1) :: us).length = ps.length := by
    have z := vals.length
    rw [F.len _ _ _ _ hq] at z
    exact z.symm
  have bnd := b _ (Value.ref (s1.heap.objs.size + 1) :: us) I2.kIn (by rw [List.append_nil]; exact lens)
  rw [List.append_nil] at bnd
  refine wpAny_call (make_map (f := f) I1.kIn M.makes m (beq_iff_eq.mp fn) (codeAny_mono (F.run _ X.stack _ _ ⟨Value.ref (s1.heap.objs.size + 1) :: us, []⟩ (Value.ref (s1.heap.objs.size + 1) :: us) _ _ (WE W σ) (hr.make C us []) (I2.env0.make C us []) bnd vals hq) fun r s' z => ?_))
  cases r with
  | error e => exact L2N.passAt tk σ pins _ _ e s' I2 z
  | ok fl =>
    cases fl with
    | ret u =>
      obtain ⟨v, H', I3, rv, ev, q3⟩ := I2.after z
      subst ev
      exact ⟨rv, ⟨V.ref (s1.heap.objs.size + 1), H', I3, rfl, q3⟩⟩
    | next => exact z.elim
    | brk => exact z.elim
    | cont => exact z.elim
end
section
variable {K : PySem.W.Frag} {W : WX} {ρ ρ1 ρ' : Rho} {t : TA} {te ta tb : TE} {tt tu : TT} {ts tr2 : TS} {ds : List D} {d a b : D} {n i m : Nat} {C C' : Addr} {fs fds : List (Str × D)} {R : List D → List (Str × D) → Prop} {RX : List D → Addr → List (Str × D) → Prop} {E : L2.St → XK} {ti : TI} {g : TG} {js : List Nat} {tr : TMs} {c z : Str} {is : List Nat} {p q : Bool} {dd : Option Addr}
theorem ev_newX (h : EvS K t ρ ds) (hn : ds.length = n) (hr : R ds fs) : EvD K (tMakeW C (spIX K C n R RX) E t) ρ (.ins C fs) := fun G0 H0 G H σ Q s k =>
  h G0 H0 G H σ _ s fun vs G1 H1 g1 r1 => by
    intro x dx hx hdx ne
    have gx : G1 x = none := fresh_back g1.gh hx
    have hx2 : (upd H1 dx (.own x)) x = none := by rw [upd_ne (Ne.symm ne)]; exact hx
    have e2 : Ex H1 (upd (upd H1 dx (.own x)) x (.ins C dx [])) := (Ex.new hdx).trans (Ex.new hx2)
    refine ⟨x, dx, vs, G1, ds, rfl, by rw [r1.length]; exact hn, upd_same, gx, g1.gh.trans e2, r1, .inl ⟨fs, hr, fun G' H' dy gs g z1 z2 z3 => ?_⟩⟩
    have keep : ∀ a o, H1 a = some o → H' a = some o := fun a o e => g.hh a o (by
      rw [delx_ne (ne_of_none e hx)]
      exact e2 a o e)
    have n : Ex G' (upd G' x (.ins C dy gs)) := Ex.new z1
    refine ⟨rfl, k (.ref x) (upd G' x (.ins C dy gs)) H' (g1.trans ⟨g.gg.trans n, fun a o e => ?_, keep, fun a ha hg => ?_⟩) (.ins upd_same (z3.mono n))⟩
    · by_cases ax : a = x
      · subst ax; rw [upd_same] at e; rw [← e]; exact z2
      · rw [upd_ne ax] at e; exact g.gh a o e
    · have ax : a ≠ x := fun z => ha (by rw [z]; exact hx)
      rw [upd_ne ax]
      refine g.fr a ?_ hg
      rw [delx_ne ax]
      cases q : H1 a with
      | none => exact absurd q ha
      | some o => rw [e2 a o q]; exact fun z => nomatch z
theorem ew_newX (h : EvS K t ρ ds) (hn : ds.length = n) (hr : RX ds C' fds) : EvW K W (tMakeW C (spIX K C n R RX) (WE W) t) ρ C' fds := fun G0 H0 G H σ Q s k =>
  h G0 H0 G H σ _ s fun vs G1 H1 g1 r1 => by
    intro x dx hx hdx ne
    have gx : G1 x = none := fresh_back g1.gh hx
    have hx2 : (upd H1 dx (.own x)) x = none := by rw [upd_ne (Ne.symm ne)]; exact hx
    have e2 : Ex H1 (upd (upd H1 dx (.own x)) x (.ins C dx [])) := (Ex.new hdx).trans (Ex.new hx2)
    have up : ∀ a o, H1 a = some o → delx (upd (upd H1 dx (.own x)) x (.ins C dx [])) x a = some o := fun a o e => by
      rw [delx_ne (ne_of_none e hx)]
      exact e2 a o e
    refine ⟨x, dx, vs, G1, ds, rfl, by rw [r1.length]; exact hn, upd_same, gx, g1.gh.trans e2, r1, .inr ⟨C', fds, hr, fun d G' H' g xn => ?_⟩⟩
    exact k d G' H' (g1.trans ⟨g.gg, g.gh, fun a o e => g.hh a o (up a o e), fun a ha hg => g.fr a (by
      cases q : H1 a with
      | none => exact absurd q ha
      | some o => rw [up a o q]; exact fun z => nomatch z) hg⟩) ((xn.back fun a o e => up a o e).back g1.hh)
/-- a loop that is left by an exception in turn m -/
theorem sw_forI (hi : ItD K ti ρ ds) (P : Nat → Rho) (h0 : P 0 = ρ) (hs : ∀ (n : Nat) (d : D), n < m → ds[n]? = some d → ∃ ρ' js, TgD K g d (P n) ρ' js ∧ Turn K ts ρ' (P (n + 1))) (hm : ds[m]? = some d) (hg : TgD K g d (P m) ρ' js) (hx : StW K W ts ρ' C fds ρ1) :
    StW K W (tFor ti g ts) ρ C fds ρ1 := fun G0 H0 G H σ D s k => hi G0 H0 G H σ _ s fun J G1 H1 g1 ⟨Gd, Y, w, hG, hY⟩ => by
  have ml : m < ds.length := (List.getElem?_eq_some_iff.mp hm).1
  refine for_it w (fun n σ' H' => n ≤ m ∧ ∃ G', Ex G1 G' ∧ Sl K G0 H0 G' H' σ' (P n)) ⟨Nat.zero_le _, G1, Ex.refl _, by rw [h0]; exact s.step g1⟩ (fun n σ' H' _ ⟨_, G', e, s'⟩ => hG H' (e.trans s'.gh)) ?_ ?_
  · rintro n x σ' H' H'' hn ⟨hnm, G', e, s'⟩ y
    obtain ⟨G'', g2, r⟩ := hY n _ G' H' x H'' (List.getElem?_eq_getElem hn) e s'.gh y
    by_cases hlt : n < m
    · obtain ⟨ρ2, js2, h1, h2⟩ := hs n _ hlt (List.getElem?_eq_getElem hn)
      exact h1 G0 H0 G'' H'' σ' x _ (s'.step g2) r fun σ2 s2 _ _ => h2.run s2 fun G3 H3 σ3 e3 s3 => ⟨hlt, G3, (e.trans g2.gg).trans e3, s3⟩
    · have en : n = m := by omega
      subst en
      rw [List.getElem?_eq_getElem hn] at hm
      cases hm
      exact hg G0 H0 G'' H'' σ' x _ (s'.step g2) r fun σ2 s2 _ _ => hx G0 H0 G'' H'' σ2 _ s2 fun d G3 H3 σ3 e3 s3 xn => k d G3 H3 σ3 (((g1.gg.trans e).trans g2.gg).trans e3) s3 xn
  · rintro σ' H' ⟨hle, _⟩
    omega
/-! match -/
def MsW (K : PySem.W.Frag) (W : WX) (t : TMs) (ρ : Rho) (d : D) (C : Addr) (fds : List (Str × D)) (ρ1 : Rho) : Prop := ∀ G0 H0 G H σ v (W' : Ends), Sl K G0 H0 G H σ ρ → Rp K G v d →
  (∀ d G' H' σ', Ex G G' → Sl K G0 H0 G' H' σ' ρ1 → XN K H0 G' H' d fds → W (.ref C) d σ' H') → t v W' σ H
theorem sw_match (h : EvD K te ρ d) (hm : MsW K W tr ρ d C fds ρ1) : StW K W (tMatch te tr) ρ C fds ρ1 := fun G0 H0 G H σ D s k =>
  h G0 H0 G H σ _ s fun v G1 H1 g1 r1 => hm G0 H0 G1 H1 σ v D (s.step g1) r1 fun d G' H' σ' e s' xn => k d G' H' σ' (g1.gg.trans e) s' xn
theorem mw_hit (hz : SeqAt.shaped (.str c) = true) (hl : ds.length = is.length) (h : StW K W ts (setAllR ρ is ds) C fds ρ1) : MsW K W (mCase K c is ts tr) ρ (.tup (.str c :: ds)) C fds ρ1 := fun G0 H0 G H σ v W' s r k => by
  cases r with
  | tup hx ra =>
    cases ra with
    | cons r1 r2 =>
      cases r1
      refine ⟨_, c, _, rfl, ex_t s.gh hx, hz, ?_⟩
      rw [if_pos (by rw [r2.length, hl]), if_pos rfl]
      exact h G0 H0 G H _ W' (s.setAll r2) k
theorem mw_miss (hz : SeqAt.shaped (.str z) = true) (hn : ds.length = is.length → z ≠ c) (h : MsW K W tr ρ (.tup (.str z :: ds)) C fds ρ1) : MsW K W (mCase K c is ts tr) ρ (.tup (.str z :: ds)) C fds ρ1 := fun G0 H0 G H σ v W' s r k => by
  have r' := r
  cases r with
  | tup hx ra =>
    cases ra with
    | cons r1 r2 =>
      cases r1
      refine ⟨_, z, _, rfl, ex_t s.gh hx, hz, ?_⟩
      by_cases hl : ds.length = is.length
      · rw [if_pos (by rw [r2.length, hl]), if_neg (hn hl)]
        exact h G0 H0 G H _ _ W' s r' k
      · rw [if_neg (by rw [r2.length]; exact hl)]
        exact h G0 H0 G H _ _ W' s r' k
/-! the repr of a text -/
theorem evt_rS {y : Str} (h : EvD K te ρ (.str y)) (hz : (reprText y).length ≤ 100000) : EvT K (tFmtR te) ρ (reprText y).length := fun G0 H0 G H σ Q s k => h G0 H0 G H σ _ s fun v G1 H1 g1 r1 => by
  cases r1
  exact .inl ⟨y, rfl, sz_of hz, k _ G1 H1 (Nat.le_refl _) g1⟩
/-! tests within a suite -/
def EbXD (K : PySem.W.Frag) (tt : TT) (ρ : Rho) (dd : Option Addr) (fds : List (Str × D)) (p : Bool) : Prop := ∀ G0 H0 G H σ (Q : Bool → Hp → Prop), Sl K G0 H0 G H σ ρ → XD K G dd fds → (∀ G' H', Go G H G' H' → Q p H') → tt σ H Q
theorem ebx_test (h : EvXD K te ρ dd fds (.bl p)) : EbXD K (tTest te) ρ dd fds p := fun G0 H0 G H σ Q s x k => h G0 H0 G H σ _ s x fun v G1 H1 g1 r1 => by cases r1; exact ⟨p, rfl, k G1 H1 g1⟩
theorem ebx_B (h : EvXD K te ρ dd fds (.bl p)) : EbXD K (tB te) ρ dd fds p := fun G0 H0 G H σ Q s x k => h G0 H0 G H σ _ s x fun v G1 H1 g1 r1 => by cases r1; exact ⟨p, rfl, k G1 H1 g1⟩
theorem ebx_of (h : EvB K tt ρ p) : EbXD K tt ρ dd fds p := fun G0 H0 G H σ Q s x k => h G0 H0 G H σ Q s k
theorem ebx_not (h : EbXD K tt ρ dd fds p) : EbXD K (tNot tt) ρ dd fds (!p) := fun G0 H0 G H σ Q s x k => h G0 H0 G H σ _ s x fun G1 H1 g1 => k G1 H1 g1
theorem ebx_or (h1 : EbXD K tt ρ dd fds p) (h2 : p = false → EbXD K tu ρ dd fds q) : EbXD K (tOr tt tu) ρ dd fds (p || q) := fun G0 H0 G H σ Q s x k => h1 G0 H0 G H σ _ s x fun G1 H1 g1 => by
  cases p with
  | true =>
    show Q true H1
    exact k G1 H1 g1
  | false =>
    show tu σ H1 Q
    exact h2 rfl G0 H0 G1 H1 σ Q (s.step g1) (x.mono g1.gg) fun G2 H2 g2 => k G2 H2 (g1.trans g2)
theorem ebx_is (h : EbXD K tt ρ dd fds p) (e : p = q) : EbXD K tt ρ dd fds q := e ▸ h
theorem rxd_ifn (h : EbXD K tt ρ dd fds p) (e : p = false) (k : RtXD K tr2 ρ dd fds d) : RtXD K (tSeq (tIfS tt ts tNext) tr2) ρ dd fds d := fun G0 H0 G H σ W' s x q => h G0 H0 G H σ _ s x fun G1 H1 g1 => by
  subst e
  exact k G0 H0 G1 H1 σ W' (s.step g1) (x.mono g1.gg) q
theorem rxd_ifp (h : EbXD K tt ρ dd fds p) (e : p = true) (k : RtXD K ts ρ dd fds d) : RtXD K (tSeq (tIfS tt ts tNext) tr2) ρ dd fds d := fun G0 H0 G H σ W' s x q => h G0 H0 G H σ _ s x fun G1 H1 g1 => by
  subst e
  exact k G0 H0 G1 H1 σ _ (s.step g1) (x.mono g1.gg) q
end
end Ax

namespace Ax
open PySem PySem.Spec PyProof.Rows L2 Evl
/-! ### defs that hand back a new thing of the caller's own -/
def spEN (K : PySem.W.Frag) (n : Nat) (A : List D → Prop) (R : List D → S → Prop) : Sp := fun vs H Q _ => ∃ (G : Hp) (ds : List D), vs.length = n ∧ Ex G H ∧ RpA K G vs ds ∧ A ds ∧ ∀ x v G' H', R ds x → Go G H G' H' → (∀ a ∈ x.fp v, H a = none ∧ G' a = none) → OwnAt K G' H' v x → Q v H'
/-- a body that hands back its own thing -/
def StXN (K : PySem.W.Frag) (t : TS) (ρ : Rho) (R : S → Prop) : Prop := ∃ x, R x ∧ ∀ G0 H0 G H σ (W : Ends), Sl K G0 H0 G H σ ρ → (∀ v G' H', Go G0 H0 G' H' → (∀ a ∈ x.fp v, H0 a = none ∧ G' a = none) → OwnAt K G' H' v x → W.rt v H') → t W σ H
section
variable {K : PySem.W.Frag} {ρ ρ' : Rho} {t u : TS} {R : S → Prop} {te : TE} {d : D} {x : S} {i : Nat} {P1 : Rho → Prop} {c : TT} {p : Bool}
theorem stxn_seq (h : StD K t ρ (.nx ρ')) (k : StXN K u ρ' R) : StXN K (tSeq t u) ρ R :=
  let ⟨x, a, b⟩ := k
  ⟨x, a, fun G0 H0 G H σ W s q => h G0 H0 G H σ { W with nx := u W } s fun G' H' σ' e s' => b G0 H0 G' H' σ' W s' q⟩
theorem stxn_seqE {ι : Type} (P : ι → Prop) (f : ι → Rho) (h : ∃ i, P i ∧ StD K t ρ (.nx (f i))) (k : ∀ i, P i → StXN K u (f i) R) : StXN K (tSeq t u) ρ R := by
  obtain ⟨i, h1, h2⟩ := h
  exact stxn_seq h2 (k i h1)
theorem stxn_E (h : StE K t ρ P1) (k : ∀ ρ', P1 ρ' → StXN K u ρ' R) : StXN K (tSeq t u) ρ R := let ⟨r, a, b⟩ := h; stxn_seq b (k r a)
theorem stxn_ret (h : ρ[i]? = some (some x)) (m : x.mine = true) (r : R x) : StXN K (tRet (tVar i)) ρ R := ⟨x, r, fun G0 H0 G H σ W s q => by
  obtain ⟨v, h1, h2, h3⟩ := s.mine i x h m
  exact ⟨v, h1, q v G H s.go h2 h3⟩⟩
theorem stxn_retO {ds : List D} (h : ρ[i]? = some (some (.own ds))) (r : R (.own ds)) : StXN K (tRet (tVar i)) ρ R := stxn_ret h rfl r
end
section
variable {K : PySem.W.Frag} {G0 H0 G H G1 H1 : Hp} {σ : L2.St} {ρ : Rho}
/-- a thing that has become ours in a step -/
theorem Sl.adopt {i : Nat} {v : V} {x : S} (s : Sl K G0 H0 G H σ ρ) (g : Go G H G1 H1) (hn : ∀ a ∈ x.fp v, H a = none ∧ G1 a = none) (r : OwnAt K G1 H1 v x) :
    Sl K G0 H0 G1 H1 (σ.set i (some v)) (ρ.set i (some x)) := by
  have s2 := s.step g
  have hx := r.mine
  have old : ∀ (j : Nat) (y : S) (w : V), ρ[j]? = some (some y) → y.mine = true → σ[j]? = some (some w) → ∀ a ∈ y.fp w, H a ≠ none := fun j y w q m z a ha => by
    obtain ⟨v', h1, _, h4⟩ := s.mine j y q m
    rw [h1] at z
    cases z
    obtain ⟨o, ho⟩ := h4.there a ha
    rw [ho]
    exact fun z => nomatch z
  refine ⟨s2.go, by rw [List.length_set, List.length_set, s.len], fun j e q => ?_, fun j y q m => ?_, fun j k y z v' w' hjk q1 m1 q2 m2 h1 h2 => ?_⟩
  · rcases set_get q with ⟨rfl, hi, z⟩ | ⟨hj, q⟩
    · cases z; cases hx
    · rw [List.getElem?_set_ne hj]
      exact s2.dat j e q
  · rcases set_get q with ⟨rfl, hi, z⟩ | ⟨hj, q⟩
    · cases z
      exact ⟨v, by rw [List.getElem?_set_self (by rw [s.len]; exact hi)], fun a ha => ⟨fresh_back s.go.hh (hn a ha).1, (hn a ha).2⟩, r⟩
    · rw [List.getElem?_set_ne hj]
      exact s2.mine j y q m
  · rcases set_get q1 with ⟨rfl, hi, z1⟩ | ⟨hj, q1⟩
    · rw [List.getElem?_set_self (by rw [s.len]; exact hi)] at h1
      cases z1
      cases h1
      rcases set_get q2 with ⟨rfl, _, _⟩ | ⟨hk, q2⟩
      · exact absurd rfl hjk
      rw [List.getElem?_set_ne hk] at h2
      exact fun a ha hb => old k z w' q2 m2 h2 a hb (hn a ha).1
    · rw [List.getElem?_set_ne hj] at h1
      rcases set_get q2 with ⟨rfl, hi, z2⟩ | ⟨hk, q2⟩
      · rw [List.getElem?_set_self (by rw [s.len]; exact hi)] at h2
        cases z2
        cases h2
        exact fun a ha hb => old j y v' q1 m1 h1 a ha (hn a hb).1
      · rw [List.getElem?_set_ne hk] at h2
        exact s.sep j k y z v' w' hjk q1 m1 q2 m2 h1 h2
end
section
variable {P : Program} {w : World} {K : PySem.W.Frag} {mg : Str → Option Value} {base : Heap} {x qual : Str} {k n : Nat} {ps N : List Str} {st : Stmt} {A A_ : List D → Prop} {R : List D → S → Prop} {ρ : Rho} {ds : List D}
theorem fn_EN {f : Addr} {fd : FuncData} (F : Fun K x qual st f fd) (S : FnScope N ps (defScope st)) (hn : ps.length = n)
    (hbody : ∀ (cdv : Value) (A : Around) (outer : List Env) (s : Shared) (H : Hp) (E : XK), Room k (A.deeper (envOfC qual (defScope st) s.heap.objs.size f cdv)) →
      ∃ t, PSs (cxOf CX0 P w K mg base N qual (defScope st) f cdv A outer s H E).nox (defBody st) t ∧ ∀ ds, A_ ds → StXN K t (rho0 N ds) (R ds)) : FnOk P w K mg base CX0 (k + 1) f fd ps (spEN K n A_ R) := by
  refine F.ok S (fun vs H Q E h => ?_) (fun cdv A outer s H vs Q E hr h => ?_)
  · obtain ⟨_, _, h, _⟩ := h
    rw [h, hn]
  · obtain ⟨t, h1, h2⟩ := hbody cdv A outer s H E hr
    obtain ⟨G, ds, hl, e, r, hA, q⟩ := h
    refine ⟨t, h1, ?_⟩
    have s0 := sl_start (N := N) e r
    obtain ⟨x, hx, h⟩ := h2 ds hA
    exact h G H G H _ _ s0 fun v G' H' g hn r => q x v G' H' hx g hn r
theorem Has.calEN (h : Has K mg x st ps) (S : FnScope N ps (defScope st)) (hn : ps.length = n)
    (hbody : ∀ (f : Addr) (cdv : Value) (A : Around) (outer : List Env) (s : Shared) (H : Hp) (E : XK), Room k (A.deeper (envOfC x (defScope st) s.heap.objs.size f cdv)) →
      ∃ t, PSs (cxOf CX0 P w K mg base N x (defScope st) f cdv A outer s H E).nox (defBody st) t ∧ ∀ ds, A_ ds → StXN K t (rho0 N ds) (R ds)) : Cal P w K mg base x (k + 1) ps (spEN K n A_ R) := by
  obtain ⟨f, fd, F, m, b, _⟩ := h.ex
  exact ⟨f, fd, fn_EN F S hn fun cdv A outer s H E hr => hbody f cdv A outer s H E hr, m, F.kp, b⟩
theorem sd_asgEN {E : XK} {ta : TA} {u : TS} {o : Out} {i : Nat} (h : EvS K ta ρ ds) (hn : ds.length = n) (ha : A ds) (k : ∀ x, R ds x → StD K u (ρ.set i (some x)) o) : StD K (tSeq (tAsg (tCall (spEN K n A R) [] E ta) (gName i)) u) ρ o := fun G0 H0 G H σ W s q =>
  h G0 H0 G H σ _ s fun vs G1 H1 g1 r1 => ⟨G1, ds, by rw [List.append_nil, r1.length]; exact hn, g1.gh, by rw [List.append_nil]; exact r1, ha, fun x v G' H' hx g hn r =>
    k x hx G0 H0 G' H' _ W ((s.step g1).adopt g hn r) (q.mono (g1.trans g).gg)⟩
theorem stx_asgEN {E : XK} {ta : TA} {u : TS} {R2 : D → Prop} {i : Nat} (h : EvS K ta ρ ds) (hn : ds.length = n) (ha : A ds) (k : ∀ x, R ds x → StD K u (ρ.set i (some x)) (.rt d)) (r : R2 d) : StX K (tSeq (tAsg (tCall (spEN K n A R) [] E ta) (gName i)) u) ρ R2 := ⟨d, r, sd_asgEN h hn ha k⟩
end
/-! ### .. where the caller knows which -/
def spDN (K : PySem.W.Frag) (n : Nat) (R : List D → S → Prop) : Sp := fun vs H Q _ => ∃ (G : Hp) (ds : List D) (x : S), vs.length = n ∧ Ex G H ∧ RpA K G vs ds ∧ R ds x ∧ ∀ v G' H', Go G H G' H' → (∀ a ∈ x.fp v, H a = none ∧ G' a = none) → OwnAt K G' H' v x → Q v H'
section
variable {P : Program} {w : World} {K : PySem.W.Frag} {mg : Str → Option Value} {base : Heap} {x qual : Str} {k n : Nat} {ps N : List Str} {st : Stmt} {R : List D → S → Prop} {ρ : Rho} {ds : List D} {y : S}
theorem Has.calDN (h : Has K mg x st ps) (S : FnScope N ps (defScope st)) (hn : ps.length = n)
    (hbody : ∀ (f : Addr) (cdv : Value) (A : Around) (outer : List Env) (s : Shared) (H : Hp) (E : XK), Room k (A.deeper (envOfC x (defScope st) s.heap.objs.size f cdv)) →
      ∃ t, PSs (cxOf CX0 P w K mg base N x (defScope st) f cdv A outer s H E).nox (defBody st) t ∧ ∀ ds y, R ds y → StXN K t (rho0 N ds) (· = y)) : Cal P w K mg base x (k + 1) ps (spDN K n R) := by
  obtain ⟨f, fd, F, m, b, _⟩ := h.ex
  refine ⟨f, fd, F.ok S (fun vs H Q E h => ?_) (fun cdv A outer s H vs Q E hr h => ?_), m, F.kp, b⟩
  · obtain ⟨_, _, _, h, _⟩ := h
    rw [h, hn]
  · obtain ⟨t, h1, h2⟩ := hbody f cdv A outer s H E hr
    obtain ⟨G, ds, y, hl, e, r, hR, q⟩ := h
    refine ⟨t, h1, ?_⟩
    have s0 := sl_start (N := N) e r
    obtain ⟨z, rfl, h⟩ := h2 ds y hR
    exact h G H G H _ _ s0 fun v G' H' g hn r => q v G' H' g hn r
theorem sd_asgDN {E : XK} {ta : TA} {i : Nat} (h : EvS K ta ρ ds) (hn : ds.length = n) (hr : R ds y) : StD K (tAsg (tCall (spDN K n R) [] E ta) (gName i)) ρ (.nx (ρ.set i (some y))) := fun G0 H0 G H σ W s q =>
  h G0 H0 G H σ _ s fun vs G1 H1 g1 r1 => ⟨G1, ds, y, by rw [List.append_nil, r1.length]; exact hn, g1.gh, by rw [List.append_nil]; exact r1, hr, fun v G' H' g hn r => q G' H' _ (g1.trans g).gg ((s.step g1).adopt g hn r)⟩
/-- a new list, given up at once -/
theorem ev_callDN {E : XK} {ta : TA} {es : List D} (h : EvS K ta ρ ds) (hn : ds.length = n) (hr : R ds (.own es)) : EvD K (tCall (spDN K n R) [] E ta) ρ (.lst es) := fun G0 H0 G H σ Q s k =>
  h G0 H0 G H σ _ s fun vs G1 H1 g1 r1 => ⟨G1, ds, .own es, by rw [List.append_nil, r1.length]; exact hn, g1.gh, by rw [List.append_nil]; exact r1, hr, fun v G' H' g hn r => by
    obtain ⟨l, vs, rfl, h4, h5⟩ := r
    obtain ⟨a1, a2⟩ := hn l (List.mem_singleton.mpr rfl)
    have eg : Ex G' (upd G' l (.lst vs)) := Ex.new a2
    refine k (.ref l) (upd G' l (.lst vs)) H' (g1.trans ⟨g.gg.trans eg, fun a u e => ?_, g.hh, fun a ha hg => ?_⟩) (.lst (.inl (.inl upd_same)) (h5.mono eg))
    · by_cases al : a = l
      · subst al; rw [upd_same] at e; rw [← e]; exact h4
      · rw [upd_ne al] at e; exact g.gh a u e
    · rw [upd_ne (b := a) (a := l) (fun z => ha (by rw [z]; exact a1))]; exact g.fr a ha hg⟩
end
end Ax

namespace Ax
open PySem PySem.Spec PyProof.Rows L2 Evl
/-! ### own exception classes without an __init__ -/
structure XBa (K : PySem.W.Frag) (mg : Str → Option Value) (x : Str) (C : Addr) : Prop where
  q : PySem.W.excIn K C [.type "ValueError", .type "Exception", .type "BaseException", .type "object"] "ValueError.__new__" = true
  g : mg x = some (.ref C)
  kC : PySem.W.keepIn K (.ref C) = true
  b : PySem.W.subIn K (.ref C) (.type "BaseException") = some true
  t : PySem.W.typeIn K (.ref C) = some (.type "type")
theorem xba_mk {K : PySem.W.Frag} {h : Heap} {mg : Str → Option Value} {C : Addr} (x : Str) (X : K.In h) (G : h.Ns mainGlobals mg) (a : PySem.W.nsIn K mainGlobals x = some (some (.ref C)))
    (q : PySem.W.excIn K C [.type "ValueError", .type "Exception", .type "BaseException", .type "object"] "ValueError.__new__" = true) (kC : PySem.W.keepIn K (.ref C) = true) (b : PySem.W.subIn K (.ref C) (.type "BaseException") = some true) (t : PySem.W.typeIn K (.ref C) = some (.type "type")) : XBa K mg x C :=
  ⟨q, PySem.W.mg_of X G a, kC, b, t⟩
section
variable {X : Cx} {x : Str} {C : Addr} {e : Expr} {ta : TE} {p pos : Pos}
/-- X(e) -/
theorem pmk_bare (B : XBa X.K X.mg x C) (he : PE X e ta) (hg : Gl X x := by rfl) (hs : starEach [e] X.env = (false, eval e X.env) :: starEach [] X.env := by rfl) (hdb : (x == ("__debug__" : Str)) = false := by decide) :
    L2N.PMk X (.Call (.Name x p) [e] [] pos) (fun σ H Q => ta σ H fun _ H1 => Q (.ref C) none H1) := by
  intro pins s σ H Q I h
  refine wpAny_Call_Name_kw (ld_glob I hg B.g ?_ hdb)
  refine PySem.W.callWith_K (h₀ := X.base) I.ok.mod.kin B.kC ?_ hs (by rfl)
  rw [hs]
  show wpAny _ _ (spliced ((false, eval e X.env) :: backTo pos (starEach [] X.env))) _ _ s
  refine Calls.spliced_cons (thn (he.run pins s σ H _ I h) fun u s1 ⟨v, H1, I1, r1, q1⟩ => ?_)
  refine Calls.spliced_nil ⟨I1.kIn, ?_⟩
  show wpAny _ _ (call (.ref C) [u]) _ _ _
  obtain ⟨bm, N, nm, qn, bs, hdct, sn, sub, ab, col, dd, k0, k1, k2, k3, k5, mN, hC, hN, hni, T⟩ := exc_obj I1.kIn B.q
  refine wpAny_call_exc_subT PySem.F.excBase_ValueError T hC hN hni (fun h' e hm => ?_) (by show 1 ≤ sizeLine; rw [sizeLine_eq]; omega)
  exact L2N.mk_of I1 hm (raises_own B.b B.t) q1 (I1.hok.gone hm.new)
end
section
variable {K : PySem.W.Frag} {W : WX} {ρ : Rho} {te : TE} {C : Addr}
theorem sw_raiseB (h : EvAny K te ρ) : StW K W (fun _ σ H => te σ H fun _ H1 => W (.ref C) none σ H1) ρ C [] ρ := fun G0 H0 G H σ D s k =>
  h G0 H0 G H σ _ s fun v G' H' g => k none G' H' σ g.gg (s.step g) (.inl ⟨rfl, rfl⟩)
end
end Ax

namespace Ax
open PySem PySem.Spec PyProof.Rows L2 Evl
/-! ### own lists of pairs (d, own list) -/
section
variable {K : PySem.W.Frag} {G0 H0 G H G1 H1 : Hp} {σ : L2.St} {ρ ρ' : Rho} {n i j k : Nat} {l : Addr} {As : List (List Addr)} {A : List Addr} {es : List NE} {e : NE} {v : V} {vs : List V} {d d2 : D} {ds : List D} {te tn tp tq ti : TE} {tt : TT} {t u : TS} {ta : TA} {o : Out} {p : Bool}
/-- xs = [], of which more is to come -/
theorem sd_nst1 (h : EvN K te ρ []) (k : ∀ l, StD K u (ρ.set i (some (.nst l [] []))) o) : StD K (tSeq (tAsg te (gName i)) u) ρ o := fun G0 H0 G H σ W s q =>
  h G0 H0 G H σ _ s fun l vs G1 H1 g1 n1 r1 => by
    cases r1
    have s1 := s.step g1
    exact k l G0 H0 G1 _ _ W (s1.put (i := i) (v := .ref l) (x := .nst l [] []) (Ex.new n1) (fun a ha => by rw [List.mem_singleton.mp (show a ∈ [l] from ha)]; exact n1) ⟨rfl, List.pairwise_singleton _ _, [], upd_same, .nil⟩) (q.mono g1.gg)
theorem sd_nst0 (k : ∀ l, StD K u (ρ.set i (some (.nst l [] []))) o) : StD K (tSeq (tAsg (tLst tNil) (gName i)) u) ρ o := sd_nst1 (en_lst es_nil (Nat.le_of_ble_eq_true rfl)) k
/-- xs.append((e, [..])), the list a new one -/
theorem sd_npush (hd : EvD K te ρ d) (hn : EvN K tn ρ ds) (ho : ρ[i]? = some (some (.nst l As es))) (hz : es.length < 50000) (k : ∀ A, StD K u (ρ.set i (some (.nst l (As ++ [A]) (es ++ [.pair d ds])))) o) :
    StD K (tSeq (tDrop (tBM K "list" rAppend (tVar i) (tCons (tTup (tCons te (tCons tn tNil))) tNil))) u) ρ o := fun G0 H0 G H σ W s q => by
  obtain ⟨h1, _, _, vs, h3, h4⟩ := s.nstAt ho
  refine ⟨.ref l, h1, .inl ⟨rfl, vs, .inl (.inl h3)⟩, ?_⟩
  refine hd G0 H0 G H σ _ s fun w G1 H1 g1 r1 => ?_
  refine hn G0 H0 G1 H1 σ _ (s.step g1) fun m ws G2 H2 g2 n2 r2 => ?_
  refine ⟨sz_of (by show 2 ≤ 100000; decide), fun t ht => ?_⟩
  have s2 := (s.step g1).step g2
  obtain ⟨h1, h2, nd, vs, h3, h4⟩ := s2.nstAt ho
  have tm : t ≠ m := fun z => by rw [z, upd_same] at ht; cases ht
  have ht2 : H2 t = none := by rw [upd_ne tm] at ht; exact ht
  have lm : l ≠ m := fun z => by rw [z, n2] at h3; cases h3
  have lt : l ≠ t := fun z => by rw [z, ht2] at h3; cases h3
  have mf : m ∉ As.flatten := fun z => by
    obtain ⟨o, q⟩ := h4.there m z
    rw [n2] at q; cases q
  have tf : t ∉ As.flatten := fun z => by
    obtain ⟨o, q⟩ := h4.there t z
    rw [ht2] at q; cases q
  refine ⟨l, vs, .ref t, rfl, rfl, by rw [upd_ne lt, upd_ne lm]; exact h3, by rw [h4.len.1]; exact sz_lt (by omega), ?_⟩
  have fl : (As ++ [[t, m]]).flatten = As.flatten ++ [t, m] := by rw [List.flatten_append]; rfl
  have s3 := s2.grow (v := .ref l) (y := S.nst l As es) (z := S.nst l (As ++ [[t, m]]) (es ++ [.pair d ds])) (H1 := upd (upd (upd H2 m (.lst ws)) t (.tup [w, .ref m])) l (.lst (vs ++ [.ref t]))) ho rfl h1 (fun a ha => by
      rcases List.mem_cons.mp (show a ∈ l :: (As ++ [[t, m]]).flatten from ha) with z | z
      · exact .inl (by rw [z]; exact List.mem_cons_self)
      · rw [fl] at z
        rcases List.mem_append.mp z with z | z
        · exact .inl (List.mem_cons_of_mem _ z)
        · rcases List.mem_cons.mp z with z | z
          · rw [z]; exact .inr ht2
          · rw [List.mem_singleton.mp z]; exact .inr n2) (fun a o ha q => by
      have a1 : a ≠ l := fun z => ha (by rw [z]; exact List.mem_cons_self)
      have a2 : a ≠ m := fun z => by rw [z, n2] at q; cases q
      have a3 : a ≠ t := fun z => by rw [z, ht2] at q; cases q
      rw [upd_ne a1, upd_ne a3, upd_ne a2]; exact q) ⟨rfl, by
      rw [fl]
      show (l :: (As.flatten ++ [t, m])).Nodup
      rw [← List.cons_append]
      refine List.nodup_append.mpr ⟨nd, List.nodup_cons.mpr ⟨fun z => tm (List.mem_singleton.mp z), List.pairwise_singleton _ _⟩, fun a ha b hb z => ?_⟩
      subst z
      rcases List.mem_cons.mp hb with z | z
      · subst z
        rcases List.mem_cons.mp ha with q | q
        · exact lt q.symm
        · exact tf q
      · rw [List.mem_singleton.mp z] at ha
        rcases List.mem_cons.mp ha with q | q
        · exact lm q.symm
        · exact mf q, _, upd_same, by
      have nD : l ∉ As.flatten := (List.nodup_cons.mp nd).1
      exact (((h4.stay mf).stay tf).stay nD).snoc (.pair (by rw [upd_ne (Ne.symm lt), upd_same]) (r1.mono g2.gg) (by rw [upd_ne (Ne.symm lm), upd_ne (Ne.symm tm), upd_same]) r2)⟩
  exact k _ G0 H0 G2 _ σ W s3 (q.mono (g1.gg.trans g2.gg))
theorem NRows.pairAt (h : NRows K G H vs As es) (e : es[k]? = some (.pair d ds)) : ∃ t m w ws, vs[k]? = some (.ref t) ∧ As[k]? = some [t, m] ∧ H t = some (.tup [w, .ref m]) ∧ Rp K G w d ∧ H m = some (.lst ws) ∧ RpA K G ws ds := by
  induction h generalizing k with
  | nil => cases e
  | cons h _ ih =>
    cases k with
    | zero =>
      cases e
      cases h with
      | pair h r h2 r2 => exact ⟨_, _, _, _, rfl, rfl, h, r, h2, r2⟩
    | succ k => exact ih e
theorem NRows.setPair {t m : Addr} {ws : List V} {ds' : List D} (h : NRows K G H vs As es) (nd : As.flatten.Nodup) (e : es[k]? = some (.pair d ds)) (a : As[k]? = some [t, m]) (r : RpA K G ws ds') :
    NRows K G (upd H m (.lst ws)) vs As (es.set k (.pair d ds')) := by
  induction h generalizing k with
  | nil => cases e
  | cons h hs ih =>
    rw [List.flatten_cons] at nd
    obtain ⟨n1, n2, n3⟩ := List.nodup_append.mp nd
    cases k with
    | zero =>
      cases e
      cases a
      cases h with
      | pair h r1 h2 r2 => exact .cons (.pair (by rw [upd_ne (fun z => (List.nodup_cons.mp n1).1 (by rw [z]; exact List.mem_singleton.mpr rfl))]; exact h) r1 upd_same r) (hs.stay fun z => n3 _ (List.mem_cons_of_mem _ (List.mem_singleton.mpr rfl)) _ z rfl)
    | succ k => exact .cons (h.stay fun z => n3 _ z m (List.mem_flatten.mpr ⟨_, List.mem_of_getElem? (show _ = some [t, m] from a), List.mem_cons_of_mem _ (List.mem_singleton.mpr rfl)⟩) rfl) (ih n2 e a)
/-- xs[a][1].append(e) -/
theorem sd_papp {a : Nat} (hp : EvD K tp ρ (.int (a : Int))) (hq : EvD K tq ρ (.int 1)) (h : EvD K te ρ d2) (ho : ρ[i]? = some (some (.nst l As es))) (ea : es[a]? = some (.pair d ds)) (hz : ds.length < 100000) :
    StD K (tDrop (tBM K "list" rAppend (tOp (rIx K) (tOp (rIx K) (tVar i) tp) tq) (tCons te tNil))) ρ (.nx (ρ.set i (some (.nst l As (es.set a (.pair d (ds ++ [d2]))))))) := fun G0 H0 G H σ W s k => by
  obtain ⟨h1, _, _, _, _, _⟩ := s.nstAt ho
  refine ⟨.ref l, h1, ?_⟩
  refine hp G0 H0 G H σ _ s fun w G2 H2 g2 r2 => ?_
  cases r2
  have s2 := s.step g2
  obtain ⟨h1, _, nd, vs, h2, h3⟩ := s2.nstAt ho
  obtain ⟨t, m, w, ws, b1, b2, b3, b4, b5, b6⟩ := h3.pairAt ea
  have ai : atI vs (a : Int) = some (.ref t) := atI_of (by omega) (by rw [Int.toNat_natCast]; exact b1)
  refine .inl ⟨l, vs, (a : Int), .ref t, rfl, rfl, .inl (.inl h2), ai, ?_⟩
  refine hq G0 H0 G2 H2 σ _ s2 fun w2 G2' H2' g2' r2' => ?_
  cases r2'
  refine .inr (.inl ⟨t, [w, .ref m], 1, .ref m, rfl, rfl, .inl (.inl (g2'.hh _ _ b3)), rfl, ?_⟩)
  refine ⟨.inl ⟨rfl, ws, .inl (.inl (g2'.hh _ _ b5))⟩, ?_⟩
  refine h G0 H0 G2' H2' σ _ (s2.step g2') fun v G3 H3 g3 r3 => ?_
  have g23 := g2'.trans g3
  refine ⟨m, ws, v, rfl, rfl, g23.hh _ _ b5, by rw [b6.length]; exact sz_lt hz, ?_⟩
  have s3 := s2.step g23
  obtain ⟨h1, _, nd, vs3, h5, h6⟩ := s3.nstAt ho
  obtain ⟨t2, m2, w2, ws2, c1, c2, c3, c4, c5, c6⟩ := h6.pairAt ea
  rw [b2] at c2
  cases c2
  have ew := c5
  rw [g23.hh _ _ b5] at ew
  cases ew
  have lin : m ∈ As.flatten := List.mem_flatten.mpr ⟨_, List.mem_of_getElem? b2, List.mem_cons_of_mem _ (List.mem_singleton.mpr rfl)⟩
  have ne : l ≠ m := fun z => (List.nodup_cons.mp nd).1 (by rw [z]; exact lin)
  exact k G3 _ _ (g2.gg.trans g23.gg) (s3.mutM ho rfl h1 rfl (fun a o ha e => by rw [upd_ne (fun z => ha (by rw [z]; exact List.mem_cons_of_mem _ lin))]; exact e)
    ⟨rfl, nd, vs3, by rw [upd_ne ne]; exact h5, h6.setPair (List.nodup_cons.mp nd).2 ea b2 (c6.append (.cons r3 .nil))⟩)
end
/-! ### what may outlive the lending of pairs -/
def D.atom : D → Bool
  | .non => true | .bl _ => true | .int _ => true | .str _ => true | _ => false
def D.isStr : D → Bool
  | .str _ => true | _ => false
def okPair : List D → Bool
  | [a, b] => !a.isStr || b.atom
  | _ => true
mutual
def D.pq : D → Bool
  | .non => true
  | .bl _ => true
  | .int _ => true
  | .str _ => true
  | .tup ds => okPair ds && D.pqs ds
  | .lst _ => false
  | .ptup ds => D.pqs ds
  | .ins _ fs => D.pqf fs
  | .cls _ => false
def D.pqs : List D → Bool
  | [] => true
  | d :: ds => D.pq d && D.pqs ds
def D.pqf : List (Str × D) → Bool
  | [] => true
  | (_, d) :: ds => D.pq d && D.pqf ds
end
theorem pqs_all : ∀ (ds : List D), (∀ d ∈ ds, D.pq d = true) → D.pqs ds = true
  | [], _ => by unfold D.pqs; rfl
  | d :: ds, h => by
    unfold D.pqs
    rw [h d List.mem_cons_self, pqs_all ds fun e he => h e (List.mem_cons_of_mem _ he)]; rfl
/-- what is lent: lists, and tuples (text, list) -/
def Lent (G : Hp) (A : List Addr) : Prop := ∀ a ∈ A, (∃ ws, G a = some (.lst ws)) ∨ ∃ (w : Str) (m : Addr), G a = some (.tup [.str w, .ref m])
section
variable {K : PySem.W.Frag} {G : Hp} {A : List Addr}
mutual
theorem Rp.unlendP (hA : Lent G A) : ∀ {v : V} {d : D}, Rp K G v d → d.pq = true → Rp K (delA G A) v d
  | _, _, .non, _ => .non
  | _, _, .bl b, _ => .bl b
  | _, _, .int b, _ => .int b
  | _, _, .str b, _ => .str b
  | _, _, .tup (a := a) (xs := xs) (ds := ds) h r, p => by
    unfold D.pq at p
    obtain ⟨p1, p2⟩ := Bool.and_eq_true_iff.mp p
    refine .tup ?_ (RpA.unlendP hA r p2)
    rcases h with (h | ⟨o, h⟩) | h
    · have na : a ∉ A := fun z => by
        rcases hA a z with ⟨ws, w⟩ | ⟨w, m, e⟩
        · rw [h] at w; cases w
        · rw [h] at e
          cases e
          cases r with
          | cons r1 r2 =>
            cases r2 with
            | cons r2 r3 =>
              cases r3
              cases r1 with
              | str =>
                cases r2 with
                | tup _ _ => cases p1
                | lst _ _ => cases p1
                | ptup _ _ _ => cases p1
                | ins _ _ => cases p1
                | cls _ => cases p1
              | cls _ =>
                unfold D.pqs at p2
                have := (Bool.and_eq_true_iff.mp p2).1
                unfold D.pq at this
                cases this
      exact .inl (.inl (by rw [delA_out na]; exact h))
    · have na : a ∉ A := fun z => by
        rcases hA a z with ⟨ws, w⟩ | ⟨w, m, e⟩
        · rw [h] at w; cases w
        · rw [h] at e; cases e
      exact .inl (.inr ⟨o, by rw [delA_out na]; exact h⟩)
    · exact .inr h
  | _, _, .lst _ _, p => by unfold D.pq at p; cases p
  | _, _, .ptup (a := a) h q r, p => by
    have na : a ∉ A := fun z => by
      rcases hA a z with ⟨ws, w⟩ | ⟨w, m, e⟩
      · rw [h] at w; cases w
      · rw [h] at e; cases e
    exact .ptup (by rw [delA_out na]; exact h) q (RpA.unlendP hA r (by unfold D.pq at p; exact p))
  | _, _, .ins (a := a) h r, p => by
    have na : a ∉ A := fun z => by
      rcases hA a z with ⟨ws, w⟩ | ⟨w, m, e⟩
      · rw [h] at w; cases w
      · rw [h] at e; cases e
    exact .ins (by rw [delA_out na]; exact h) (RpF.unlendP hA r (by unfold D.pq at p; exact p))
  | _, _, .cls v, p => by unfold D.pq at p; cases p
theorem RpA.unlendP (hA : Lent G A) : ∀ {v : List V} {d : List D}, RpA K G v d → D.pqs d = true → RpA K (delA G A) v d
  | _, _, .nil, _ => .nil
  | _, _, .cons h a, p => by
    unfold D.pqs at p
    have p := Bool.and_eq_true_iff.mp p
    exact .cons (Rp.unlendP hA h p.1) (RpA.unlendP hA a p.2)
theorem RpF.unlendP (hA : Lent G A) : ∀ {v : List (Str × V)} {d : List (Str × D)}, RpF K G v d → D.pqf d = true → RpF K (delA G A) v d
  | _, _, .nil, _ => .nil
  | _, _, .cons h a, p => by
    unfold D.pqf at p
    have p := Bool.and_eq_true_iff.mp p
    exact .cons (Rp.unlendP hA h p.1) (RpF.unlendP hA a p.2)
end
end
def strp (es : List NE) : Prop := ∀ e ∈ es, (∃ ds, e = .row ds) ∨ ∃ w ds, e = .pair (.str w) ds
section
variable {K : PySem.W.Frag} {G0 H0 G H G1 H1 : Hp} {σ : L2.St} {ρ ρ' : Rho} {n i : Nat} {l : Addr} {As : List (List Addr)} {es : List NE} {vs : List V} {d : D} {ds : List D} {te : TE} {t u : TS} {ta : TA} {o : Out}
theorem NRows.lent (h : NRows K G H vs As es) (r : strp es) : ∀ a ∈ As.flatten, (∃ ws, H a = some (.lst ws)) ∨ ∃ (w : Str) (m : Addr), H a = some (.tup [.str w, .ref m]) := by
  induction h with
  | nil => intro a ha; cases ha
  | cons h _ ih =>
    intro a ha
    rw [List.flatten_cons] at ha
    rcases List.mem_append.mp ha with z | z
    · cases h with
      | row h _ => rw [List.mem_singleton.mp z]; exact .inl ⟨_, h⟩
      | pair h r1 h2 _ =>
        rcases r _ List.mem_cons_self with ⟨_, q⟩ | ⟨w, ds, q⟩
        · cases q
        · cases q
          cases r1
          rcases List.mem_cons.mp z with z | z
          · rw [z]; exact .inr ⟨_, _, h⟩
          · rw [List.mem_singleton.mp z]; exact .inl ⟨_, h2⟩
    · exact ih (fun e he => r e (List.mem_cons_of_mem _ he)) a z
theorem ev_lendP (hb : ρ[n]? = some (some (.nst l As es))) (h : EvD K te (ρ.set n (some (.dat (nesD es)))) d) (hp : d.pq = true) (hr : strp es) : EvD K te ρ d := fun G0 H0 G H σ Q s k => by
  obtain ⟨eg, s1, gn, hin⟩ := s.lendN hb
  obtain ⟨_, _, _, vs, e1, e2⟩ := s.nstAt hb
  have all : ∀ a ∈ l :: As.flatten, (∃ ws, H a = some (.lst ws)) ∨ ∃ (w : Str) (m : Addr), H a = some (.tup [.str w, .ref m]) := fun a ha => by
    rcases List.mem_cons.mp ha with z | z
    · rw [z]; exact .inl ⟨_, e1⟩
    · exact e2.lent hr a z
  refine h G0 H0 _ H σ _ s1 fun v G' H' g1 r1 => k v (delA G' (l :: As.flatten)) H' (unlendA eg gn g1) (r1.unlendP (fun a ha => ?_) hp)
  rcases all a ha with ⟨ws, w⟩ | ⟨w, m, e⟩
  · exact .inl ⟨ws, g1.gg a _ (by rw [lendA_in ha]; exact w)⟩
  · exact .inr ⟨w, m, g1.gg a _ (by rw [lendA_in ha]; exact e)⟩
end
/-! ### defs that hand back such a list -/
def spPN (K : PySem.W.Frag) (n : Nat) (R : List D → List NE → Prop) : Sp := fun vs H Q _ => ∃ (G : Hp) (ds : List D) (es : List NE), vs.length = n ∧ Ex G H ∧ RpA K G vs ds ∧ R ds es ∧ ∀ l As v G' H', Go G H G' H' → (∀ a ∈ (S.nst l As es).fp v, H a = none ∧ G' a = none) → OwnAt K G' H' v (.nst l As es) → Q v H'
section
variable {P : Program} {w : World} {K : PySem.W.Frag} {mg : Str → Option Value} {base : Heap} {x qual : Str} {k n : Nat} {ps N : List Str} {st : Stmt} {R : List D → List NE → Prop} {ρ : Rho} {ds : List D} {es : List NE}
theorem Has.calPN (h : Has K mg x st ps) (S' : FnScope N ps (defScope st)) (hn : ps.length = n)
    (hbody : ∀ (f : Addr) (cdv : Value) (A : Around) (outer : List Env) (s : Shared) (H : Hp) (E : XK), Room k (A.deeper (envOfC x (defScope st) s.heap.objs.size f cdv)) →
      ∃ t, PSs (cxOf CX0 P w K mg base N x (defScope st) f cdv A outer s H E).nox (defBody st) t ∧ ∀ ds es, R ds es → ∀ G0 H0 G H σ (W : Ends), Sl K G0 H0 G H σ (rho0 N ds) → (∀ l As v G' H', Go G0 H0 G' H' → (∀ a ∈ (S.nst l As es).fp v, H0 a = none ∧ G' a = none) → OwnAt K G' H' v (.nst l As es) → W.rt v H') → t W σ H) : Cal P w K mg base x (k + 1) ps (spPN K n R) := by
  obtain ⟨f, fd, F, m, b, _⟩ := h.ex
  refine ⟨f, fd, F.ok S' (fun vs H Q E h => ?_) (fun cdv A outer s H vs Q E hr h => ?_), m, F.kp, b⟩
  · obtain ⟨_, _, _, h, _⟩ := h
    rw [h, hn]
  · obtain ⟨t, h1, h2⟩ := hbody f cdv A outer s H E hr
    obtain ⟨G, ds, es, hl, e, r, hR, q⟩ := h
    refine ⟨t, h1, ?_⟩
    have s0 := sl_start (N := N) e r
    exact h2 ds es hR G H G H _ _ s0 fun l As v G' H' g hn r => q l As v G' H' g hn r
/-- such a body -/
def StP (K : PySem.W.Frag) (t : TS) (ρ : Rho) (es : List NE) : Prop := ∀ G0 H0 G H σ (W : Ends), Sl K G0 H0 G H σ ρ → (∀ l As v G' H', Go G0 H0 G' H' → (∀ a ∈ (S.nst l As es).fp v, H0 a = none ∧ G' a = none) → OwnAt K G' H' v (.nst l As es) → W.rt v H') → t W σ H
theorem stp_seq {t u : TS} {ρ' : Rho} (h : StD K t ρ (.nx ρ')) (k : StP K u ρ' es) : StP K (tSeq t u) ρ es :=
  fun G0 H0 G H σ W s q => h G0 H0 G H σ { W with nx := u W } s fun G' H' σ' e s' => k G0 H0 G' H' σ' W s' q
theorem stp_E {t u : TS} {P1 : Rho → Prop} (h : StE K t ρ P1) (k : ∀ ρ', P1 ρ' → StP K u ρ' es) : StP K (tSeq t u) ρ es := let ⟨r, a, b⟩ := h; stp_seq b (k r a)
theorem stp_nst1 {u : TS} {te : TE} {i : Nat} (h : EvN K te ρ []) (k : ∀ l, StP K u (ρ.set i (some (.nst l [] []))) es) : StP K (tSeq (tAsg te (gName i)) u) ρ es := fun G0 H0 G H σ W s q =>
  h G0 H0 G H σ _ s fun l vs G1 H1 g1 n1 r1 => by
    cases r1
    have s1 := s.step g1
    exact k l G0 H0 G1 _ _ W (s1.put (i := i) (v := .ref l) (x := .nst l [] []) (Ex.new n1) (fun a ha => by rw [List.mem_singleton.mp (show a ∈ [l] from ha)]; exact n1) ⟨rfl, List.pairwise_singleton _ _, [], upd_same, .nil⟩) q
theorem stp_nst0 {u : TS} {i : Nat} (k : ∀ l, StP K u (ρ.set i (some (.nst l [] []))) es) : StP K (tSeq (tAsg (tLst tNil) (gName i)) u) ρ es := stp_nst1 (en_lst es_nil (Nat.le_of_ble_eq_true rfl)) k
theorem stp_ret {i : Nat} {l : Addr} {As : List (List Addr)} (h : ρ[i]? = some (some (.nst l As es))) : StP K (tRet (tVar i)) ρ es := fun G0 H0 G H σ W s q => by
  obtain ⟨v, h1, h2, h3⟩ := s.mine i _ h rfl
  exact ⟨v, h1, q l As v G H s.go h2 h3⟩
theorem sd_asgPN {E : XK} {ta : TA} {u : TS} {o : Out} {i : Nat} (h : EvS K ta ρ ds) (hn : ds.length = n) (hr : R ds es) (k : ∀ l As, StD K u (ρ.set i (some (.nst l As es))) o) : StD K (tSeq (tAsg (tCall (spPN K n R) [] E ta) (gName i)) u) ρ o := fun G0 H0 G H σ W s q =>
  h G0 H0 G H σ _ s fun vs G1 H1 g1 r1 => ⟨G1, ds, es, by rw [List.append_nil, r1.length]; exact hn, g1.gh, by rw [List.append_nil]; exact r1, hr, fun l As v G' H' g hn r => k l As G0 H0 G' H' _ W ((s.step g1).adopt g hn r) (q.mono (g1.trans g).gg)⟩
/-- .. given up at once -/
theorem ev_callPN {E : XK} {ta : TA} (h : EvS K ta ρ ds) (hn : ds.length = n) (hr : R ds es) : EvD K (tCall (spPN K n R) [] E ta) ρ (nesD es) := fun G0 H0 G H σ Q s k =>
  h G0 H0 G H σ _ s fun vs G1 H1 g1 r1 => ⟨G1, ds, es, by rw [List.append_nil, r1.length]; exact hn, g1.gh, by rw [List.append_nil]; exact r1, hr, fun l As v G' H' g hn r => by
    have s1 : Sl K G1 H1 G' H' ([some v] : L2.St) [some (S.nst l As es)] := by
      have s0 : Sl K G1 H1 G1 H1 ([none] : L2.St) [none] := ⟨Go.refl g1.gh, rfl, (fun i d e => by cases i <;> cases e), (fun i x e => by cases i <;> cases e), (fun i j x y v w _ e => by cases i <;> cases e)⟩
      exact s0.adopt (i := 0) g hn r
    obtain ⟨eg, s2, _, _⟩ := s1.lendN (n := 0) rfl
    obtain ⟨v2, q1, q2⟩ := s2.dat 0 (nesD es) rfl
    cases q1
    exact k v _ H' (g1.trans s2.go) q2⟩
end
/-! ### statements behind which something is known, found out as it runs -/
def StR (K : PySem.W.Frag) (t : TS) (ρ : Rho) (P : Rho → Prop) : Prop := ∀ G0 H0 G H σ (W : Ends), Sl K G0 H0 G H σ ρ → (∀ ρ' G' H' σ', P ρ' → Ex G G' → Sl K G0 H0 G' H' σ' ρ' → W.nx σ' H') → t W σ H
section
variable {K : PySem.W.Frag} {ρ ρ' ρ'' : Rho} {t u : TS} {P P' P1 : Rho → Prop} {ti : TI} {g : TG} {ds : List D} {te tn : TE} {d : D} {c : TT} {p : Bool} {o : Out} {i : Nat} {l : Addr} {As : List (List Addr)} {es : List NE}
theorem str_of (h : StD K t ρ (.nx ρ')) (l : LeR ρ'' ρ') (hp : P ρ'') : StR K t ρ P := fun G0 H0 G H σ W s k => sd_wk h l G0 H0 G H σ W s fun G' H' σ' e s' => k ρ'' G' H' σ' hp e s'
theorem str_seq (h : StD K t ρ (.nx ρ')) (k : StR K u ρ' P) : StR K (tSeq t u) ρ P := fun G0 H0 G H σ W s q =>
  h G0 H0 G H σ { W with nx := u W } s fun G' H' σ' e s' => k G0 H0 G' H' σ' W s' fun r G2 H2 σ2 hp e2 s2 => q r G2 H2 σ2 hp (e.trans e2) s2
theorem str_seqR (h : StR K t ρ P1) (k : ∀ ρ', P1 ρ' → StR K u ρ' P) : StR K (tSeq t u) ρ P := fun G0 H0 G H σ W s q =>
  h G0 H0 G H σ { W with nx := u W } s fun r G' H' σ' hr e s' => k r hr G0 H0 G' H' σ' W s' fun r G2 H2 σ2 hp e2 s2 => q r G2 H2 σ2 hp (e.trans e2) s2
theorem str_le (h : StR K t ρ P1) (k : ∀ ρ', P1 ρ' → ∃ ρ'', LeR ρ'' ρ' ∧ P ρ'') : StR K t ρ P := fun G0 H0 G H σ W s q =>
  h G0 H0 G H σ W s fun r G' H' σ' hr e s' => by
    obtain ⟨r2, l, hp⟩ := k r hr
    exact q r2 G' H' σ' hp e (s'.weak l.len l.get)
theorem str_npush (hd : EvD K te ρ d) (hn : EvN K tn ρ ds) (ho : ρ[i]? = some (some (.nst l As es))) (hz : es.length < 50000) :
    StR K (tDrop (tBM K "list" rAppend (tVar i) (tCons (tTup (tCons te (tCons tn tNil))) tNil))) ρ (fun ρ' => ∃ A, ρ' = ρ.set i (some (.nst l (As ++ [A]) (es ++ [.pair d ds])))) := fun G0 H0 G H σ W s q => by
  obtain ⟨h1, _, _, vs, h3, h4⟩ := s.nstAt ho
  refine ⟨.ref l, h1, .inl ⟨rfl, vs, .inl (.inl h3)⟩, ?_⟩
  refine hd G0 H0 G H σ _ s fun w G1 H1 g1 r1 => ?_
  refine hn G0 H0 G1 H1 σ _ (s.step g1) fun m ws G2 H2 g2 n2 r2 => ?_
  refine ⟨sz_of (by show 2 ≤ 100000; decide), fun t ht => ?_⟩
  have s2 := (s.step g1).step g2
  obtain ⟨h1, h2, nd, vs, h3, h4⟩ := s2.nstAt ho
  have tm : t ≠ m := fun z => by rw [z, upd_same] at ht; cases ht
  have ht2 : H2 t = none := by rw [upd_ne tm] at ht; exact ht
  have lm : l ≠ m := fun z => by rw [z, n2] at h3; cases h3
  have lt : l ≠ t := fun z => by rw [z, ht2] at h3; cases h3
  have mf : m ∉ As.flatten := fun z => by
    obtain ⟨o, q⟩ := h4.there m z
    rw [n2] at q; cases q
  have tf : t ∉ As.flatten := fun z => by
    obtain ⟨o, q⟩ := h4.there t z
    rw [ht2] at q; cases q
  refine ⟨l, vs, .ref t, rfl, rfl, by rw [upd_ne lt, upd_ne lm]; exact h3, by rw [h4.len.1]; exact sz_lt (by omega), ?_⟩
  have fl : (As ++ [[t, m]]).flatten = As.flatten ++ [t, m] := by rw [List.flatten_append]; rfl
  have s3 := s2.grow (v := .ref l) (y := S.nst l As es) (z := S.nst l (As ++ [[t, m]]) (es ++ [.pair d ds])) (H1 := upd (upd (upd H2 m (.lst ws)) t (.tup [w, .ref m])) l (.lst (vs ++ [.ref t]))) ho rfl h1 (fun a ha => by
      rcases List.mem_cons.mp (show a ∈ l :: (As ++ [[t, m]]).flatten from ha) with z | z
      · exact .inl (by rw [z]; exact List.mem_cons_self)
      · rw [fl] at z
        rcases List.mem_append.mp z with z | z
        · exact .inl (List.mem_cons_of_mem _ z)
        · rcases List.mem_cons.mp z with z | z
          · rw [z]; exact .inr ht2
          · rw [List.mem_singleton.mp z]; exact .inr n2) (fun a o ha q => by
      have a1 : a ≠ l := fun z => ha (by rw [z]; exact List.mem_cons_self)
      have a2 : a ≠ m := fun z => by rw [z, n2] at q; cases q
      have a3 : a ≠ t := fun z => by rw [z, ht2] at q; cases q
      rw [upd_ne a1, upd_ne a3, upd_ne a2]; exact q) ⟨rfl, by
      rw [fl]
      show (l :: (As.flatten ++ [t, m])).Nodup
      rw [← List.cons_append]
      refine List.nodup_append.mpr ⟨nd, List.nodup_cons.mpr ⟨fun z => tm (List.mem_singleton.mp z), List.pairwise_singleton _ _⟩, fun a ha b hb z => ?_⟩
      subst z
      rcases List.mem_cons.mp hb with z | z
      · subst z
        rcases List.mem_cons.mp ha with q | q
        · exact lt q.symm
        · exact tf q
      · rw [List.mem_singleton.mp z] at ha
        rcases List.mem_cons.mp ha with q | q
        · exact lm q.symm
        · exact mf q, _, upd_same, by
      have nD : l ∉ As.flatten := (List.nodup_cons.mp nd).1
      exact (((h4.stay mf).stay tf).stay nD).snoc (.pair (by rw [upd_ne (Ne.symm lt), upd_same]) (r1.mono g2.gg) (by rw [upd_ne (Ne.symm lm), upd_ne (Ne.symm tm), upd_same]) r2)⟩
  exact q _ G2 _ σ ⟨_, rfl⟩ (g1.gg.trans g2.gg) s3
theorem str_for (hi : ItD K ti ρ ds) (P : Nat → Rho → Prop) (h0 : P 0 ρ) (hs : ∀ (n : Nat) (d : D) (ρ : Rho), ds[n]? = some d → P n ρ → ∃ ρ1 js, TgD K g d ρ ρ1 js ∧ StR K t ρ1 (P (n + 1))) : StR K (tFor ti g t) ρ (P ds.length) := fun G0 H0 G H σ W s k => hi G0 H0 G H σ _ s fun J G1 H1 g1 ⟨Gd, Y, w, hG, hY⟩ => by
  refine for_it w (fun n σ' H' => ∃ ρ' G', P n ρ' ∧ Ex G1 G' ∧ Sl K G0 H0 G' H' σ' ρ') ⟨ρ, G1, h0, Ex.refl _, s.step g1⟩ (fun n σ' H' _ ⟨_, G', _, e, s'⟩ => hG H' (e.trans s'.gh)) ?_ ?_
  · rintro n x σ' H' H'' hn ⟨ρ', G', hp, e, s'⟩ y
    obtain ⟨G'', g2, r⟩ := hY n _ G' H' x H'' (List.getElem?_eq_getElem hn) e s'.gh y
    obtain ⟨ρ2, js, h1, h2⟩ := hs n _ ρ' (List.getElem?_eq_getElem hn) hp
    exact h1 G0 H0 G'' H'' σ' x _ (s'.step g2) r fun σ2 s2 _ _ => h2 G0 H0 G'' H'' σ2 _ s2 fun ρ3 G3 H3 σ3 hp3 e3 s3 => ⟨ρ3, G3, hp3, (e.trans g2.gg).trans e3, s3⟩
  · rintro σ' H' ⟨ρ', G', hp, e, s'⟩
    exact k ρ' G' H' σ' hp (g1.gg.trans e) s'
theorem stp_R {es' : List NE} (h : StR K t ρ P1) (k : ∀ ρ', P1 ρ' → StP K u ρ' es') : StP K (tSeq t u) ρ es' := fun G0 H0 G H σ W s q =>
  h G0 H0 G H σ { W with nx := u W } s fun r G' H' σ' hr _ s' => k r hr G0 H0 G' H' σ' W s' q
theorem sd_R (h : StR K t ρ P1) (k : ∀ ρ', P1 ρ' → StD K u ρ' o) : StD K (tSeq t u) ρ o := fun G0 H0 G H σ W s q =>
  h G0 H0 G H σ { W with nx := u W } s fun r G' H' σ' hr e s' => k r hr G0 H0 G' H' σ' W s' (q.mono e)
end
end Ax

namespace Ax
open PySem PySem.Spec PyProof.Rows L2 Evl
/-! ### match over a list of texts: texts and names at any place -/
inductive PIt where
  | lit (c : Str) | cap (i : Nat)
def PIt.fits : List PIt → List Str → Bool
  | [], [] => true
  | .lit c :: r, y :: ys => decide (y = c) && PIt.fits r ys
  | .cap _ :: r, _ :: ys => PIt.fits r ys
  | _, _ => false
def setAllL (σ : L2.St) : List PIt → List Str → L2.St
  | .cap i :: r, y :: ys => setAllL (σ.set i (some (.str y))) r ys
  | .lit _ :: r, _ :: ys => setAllL σ r ys
  | _, _ => σ
inductive PNl (X : Cx) : List Pattern → List PIt → Prop
  | nil : PNl X [] []
  | cap {i : Nat} {x : Str} {pos : Pos} {ps : List Pattern} {is : List PIt} (hi : X.N[i]? = some x) (hx : Loc X.env.scope x) (hf : X.fn x = true ∨ X.env.scope.names.lookup x = some .local) : PNl X ps is → PNl X (.MatchAs none (some x) pos :: ps) (.cap i :: is)
  | lit {c : Str} {j : Nat} {p1 p2 : Pos} {ps : List Pattern} {is : List PIt} (hc : SeqAt.shaped (.str c) = true) : PNl X ps is → PNl X (.MatchValue (.Constant (.str c) j p1) p2 :: ps) (.lit c :: is)
def mCaseL (K : PySem.W.Frag) (is : List PIt) (tt : Option TT) (body : TS) (rest : TMs) : TMs := fun v D σ H => ∃ (a : Addr) (ys : List Str), v = .ref a ∧ SqL K H a (ys.map V.str) ∧ (∀ y ∈ ys, SeqAt.shaped (.str y) = true) ∧
  if PIt.fits is ys = true then mGuard tt body rest v D (setAllL σ is ys) H else rest v D σ H
theorem fits_len : ∀ {is : List PIt} {ys : List Str}, PIt.fits is ys = true → ys.length = is.length
  | [], [], _ => rfl
  | [], _ :: _, h => by cases h
  | .lit _ :: _, [], h => by cases h
  | .cap _ :: _, [], h => by cases h
  | .lit c :: r, y :: ys, h => by
    unfold PIt.fits at h
    rw [List.length_cons, List.length_cons, fits_len (Bool.and_eq_true_iff.mp h).2]
  | .cap i :: r, y :: ys, h => by
    unfold PIt.fits at h
    rw [List.length_cons, List.length_cons, fits_len h]
section
variable {X : Cx} {ps : List Pattern} {is : List PIt}
theorem PNl.length (h : PNl X ps is) : ps.length = is.length := by
  induction h with
  | nil => rfl
  | cap _ _ _ _ ih => rw [List.length_cons, List.length_cons, ih]
  | lit _ _ ih => rw [List.length_cons, List.length_cons, ih]
theorem PNl.run (hN : X.N.Nodup) (hu : X.A.units + 64 < cLine) (h : PNl X ps is) : ∀ {us : List Value} {ys : List Str}, Vals (ys.map V.str) us → ys.length = is.length → (∀ y ∈ ys, SeqAt.shaped (.str y) = true) → ∃ bs : List (Str × Value),
    (∀ (pins : List (Addr × Obj)) (s : Shared) (σ : L2.St) (H : Hp) (Q : Option (List (Str × Value)) → Shared → Prop), Inv X pins σ H s → (∀ s', Inv X pins σ H s' → Q (if PIt.fits is ys = true then some bs else none) s') → wpAny (model X.prog X.w) X.A (matchEach ps X.env us) Q X.xe s) ∧
    ∀ (pins : List (Addr × Obj)) (s : Shared) (σ : L2.St) (H : Hp) (Q : Unit → Shared → Prop), Inv X pins σ H s → (∀ s', Inv X pins (setAllL σ is ys) H s' → Q () s') →
      wpAny (model X.prog X.w) X.A (assignInOrder (bs.map fun (n, _) => bindName X.env n) (bs.map (·.2))) Q X.xe s := by
  induction h with
  | nil =>
    intro us ys r hl hs
    cases ys with
    | nil => cases r; exact ⟨[], fun pins s σ H Q I q => wpAny_matchEach_nil (q s I), fun pins s σ H Q I q => wpAny_assignInOrder_none (q s I)⟩
    | cons _ _ => cases hl
  | @cap i x pos ps is hi hx hf _ ih =>
    intro us ys r hl hs
    cases ys with
    | nil => cases hl
    | cons y ys =>
      cases r with
      | cons r1 r2 =>
        rename_i u us
        obtain ⟨bs, h1, h2⟩ := ih r2 (by simpa using hl) fun z hz => hs z (List.mem_cons_of_mem _ hz)
        refine ⟨(x, u) :: bs, fun pins s σ H Q I q => ?_, fun pins s σ H Q I q => ?_⟩
        · refine wpAny_matchEach_cons (wpAny_matchPattern_Capture ?_)
          refine h1 pins s σ H _ I fun s' I' => ?_
          have e : PIt.fits (.cap i :: is) (y :: ys) = PIt.fits is ys := by conv => lhs; unfold PIt.fits
          have q := q s' I'
          rw [e] at q
          by_cases z : PIt.fits is ys = true
          · rw [if_pos z] at q ⊢; exact q
          · rw [if_neg z] at q ⊢; exact q
        · refine wpAny_assignInOrder_more (wpAny_bindName ?_)
          exact store_ok I hN hi hx r1 (fun s' I' => h2 pins s' _ H Q I' q) hf
  | @lit c j p1 p2 ps is hc _ ih =>
    intro us ys r hl hs
    cases ys with
    | nil => cases hl
    | cons y ys =>
      cases r with
      | cons r1 r2 =>
        rename_i u us
        obtain ⟨bs, h1, h2⟩ := ih r2 (by simpa using hl) fun z hz => hs z (List.mem_cons_of_mem _ hz)
        refine ⟨bs, fun pins s σ H Q I q => ?_, fun pins s σ H Q I q => h2 pins s σ H Q I q⟩
        refine wpAny_matchEach_cons (wpAny_matchPattern_Value (Calls.Constant_str ?_))
        refine thn (op_eqD hu pins _ σ H (.str y) (.str c) u _ (fun v H' => v = .bl (PyData.eqv (.str y) (.str c)) ∧ H' = H) (I.tok _) r1 ⟨_, rfl⟩ ⟨.str y, .str c, .str y, .str c, hs y List.mem_cons_self, hc, rfl, rfl⟩) fun w s3 ⟨x, H3, I4, r3, e3, e4⟩ => ?_
        subst e3 e4
        cases r3
        refine wpAny_truthy_bool ?_
        have eq : PyData.eqv (.str y) (.str c) = decide (y = c) := by
          rw [Bool.eq_iff_iff, decide_eq_true_iff]
          exact beq_iff_eq
        rw [eq]
        have e : PIt.fits (.lit c :: is) (y :: ys) = (decide (y = c) && PIt.fits is ys) := by conv => lhs; unfold PIt.fits
        by_cases hz2 : y = c
        · rw [if_pos (decide_eq_true hz2)]
          refine h1 pins s3 σ _ _ I4 fun s' I' => ?_
          have q := q s' I'
          rw [e, decide_eq_true hz2, Bool.true_and] at q
          by_cases z : PIt.fits is ys = true
          · rw [if_pos z] at q ⊢; exact q
          · rw [if_neg z] at q ⊢; exact q
        · rw [if_neg (fun e => hz2 (of_decide_eq_true e))]
          have q := q s3 I4
          rw [e, decide_eq_false hz2, Bool.false_and, if_neg (by decide)] at q
          exact q
theorem pm_caseL {p3 : Pos} {gd : Option Expr} {body : List Stmt} {rest : List MatchCase} {tt : Option TT} {tb : TS} {tr : TMs} (hc : X.calm = true) (hN : X.N.Nodup) (hu : X.A.units + 64 < cLine) (hn : PNl X ps is) (hg : PGu X gd tt) (hb : PSs X body tb) (hr : PMs X rest tr)
    (hstar : ps.findIdx? (·.isStar) = none := by rfl)
    (hwild : (ps.all fun p => p.isWildcard || (p.isStar && p.names.isEmpty)) = false := by rfl) :
    PMs X (⟨.MatchSequence ps p3, gd, body⟩ :: rest) (mCaseL X.K is tt tb tr) := by
  refine ⟨fun first pins s σ H v u D I r h => ?_⟩
  obtain ⟨a, ys, rfl, hq, hsh, h⟩ := h
  have hrv := r
  cases r
  obtain ⟨its, rv, pl, hz⟩ := I.list hq
  have ht := pl.isList
  have el : its.toArray.size = ys.length := by rw [List.size_toArray, ← rv.length, List.length_map]
  have fit : ((its.toArray.size : Nat) : Int) < 2 ^ 63 := by
    rw [el]
    rw [List.length_map] at hz
    have : sizeLine < 2 ^ 62 := by decide
    omega
  have I1 : Inv X pins σ H { s with toks := s.toks + 1 + 1 } := (I.tok _).tok _
  refine wpAny_matchCases_cons ?_
  by_cases hl : ys.length = is.length
  · refine matchSeq_list_hit ht fit (by rw [el, hn.length, hl]) ?_ hstar hwild
    have e1 : ps.length = its.toArray.size := by rw [el, hn.length, hl]
    rw [e1]
    refine PySem.W.kun_itemsOf (I.ok.hd hc) (by exact ht) fun h' hx => ?_
    have I2 : Inv X pins σ H { s with heap := h', toks := s.toks + 1 + 1 } := I1.kept (t' := s.toks + 1 + 1) fun b o e => hx b o (Nat.ne_of_lt (Heap.lt_size e)) e
    obtain ⟨bs, q1, q2⟩ := hn.run hN hu rv hl hsh
    refine q1 pins _ σ H _ I2 fun s3 I3 => ?_
    by_cases z : PIt.fits is ys = true
    · rw [if_pos z] at h ⊢
      refine q2 pins s3 σ _ _ I3 fun s4 I5 => ?_
      cases hg with
      | no => exact hb.run pins s4 _ _ D I5 h
      | is ht =>
        refine thn (ht.run pins s4 _ _ _ I5 h) fun b s5 ⟨H5, I6, q5⟩ => ?_
        cases b with
        | true => exact hb.run pins s5 _ _ D I6 (by rw [if_pos rfl] at q5; exact q5)
        | false => exact hr.run false pins s5 _ _ _ _ D I6 hrv (by rw [if_neg (by decide)] at q5; exact q5)
    · rw [if_neg z] at h ⊢
      exact hr.run false pins s3 σ _ _ _ D I3 hrv h
  · have z : PIt.fits is ys = false := by
      cases q : PIt.fits is ys with
      | false => rfl
      | true => exact absurd (fits_len q) hl
    rw [z, if_neg (by decide)] at h
    refine matchSeq_list_miss ht fit (by rw [el, hn.length]; exact hl) ?_ hstar hwild
    exact hr.run false pins _ σ H _ _ D I1 hrv h
end
def setAllLR (ρ : Rho) : List PIt → List Str → Rho
  | .cap i :: r, y :: ys => setAllLR (ρ.set i (some (.dat (.str y)))) r ys
  | .lit _ :: r, _ :: ys => setAllLR ρ r ys
  | _, _ => ρ
section
variable {K : PySem.W.Frag} {ρ : Rho} {te : TE} {d : D} {ds : List D} {tb : TS} {tr : TMs} {o : Out} {is : List PIt} {ys : List Str} {t : TT} {p : Bool}
theorem Sl.setAllL {G0 H0 G H : Hp} : ∀ {is : List PIt} {ρ : Rho} {σ : L2.St} {ys : List Str}, Sl K G0 H0 G H σ ρ → Sl K G0 H0 G H (setAllL σ is ys) (setAllLR ρ is ys)
  | [], _, _, _, s => by unfold Ax.setAllL setAllLR; exact s
  | .cap i :: is, _, _, [], s => by unfold Ax.setAllL setAllLR; exact s
  | .lit c :: is, _, _, [], s => by unfold Ax.setAllL setAllLR; exact s
  | .cap i :: is, _, _, y :: ys, s => by unfold Ax.setAllL setAllLR; exact Sl.setAllL (is := is) (s.set (.str y))
  | .lit c :: is, _, _, y :: ys, s => by unfold Ax.setAllL setAllLR; exact Sl.setAllL (is := is) s
theorem rpa_strs {H : Hp} : ∀ {vs : List V} {ys : List Str}, RpA K H vs (sD ys) → vs = ys.map V.str
  | _, [], h => by cases h; rfl
  | _, y :: ys, h => by
    cases h with
    | cons h1 h2 =>
      cases h1
      rw [rpa_strs h2]; rfl
theorem ml_hit (hs : ∀ y ∈ ys, SeqAt.shaped (.str y) = true) (hf : PIt.fits is ys = true) (h : StD K tb (setAllLR ρ is ys) o) : MsD K (mCaseL K is none tb tr) ρ (.lst (sD ys)) o := fun G0 H0 G H σ v W s r k => by
  cases r with
  | lst hx ra =>
    rename_i a xs
    have e := rpa_strs ra
    subst e
    refine ⟨_, ys, rfl, ex_l s.gh hx, hs, ?_⟩
    rw [if_pos hf]
    exact h G0 H0 G H _ W s.setAllL k
theorem ml_hitG (hs : ∀ y ∈ ys, SeqAt.shaped (.str y) = true) (hf : PIt.fits is ys = true) (ht : EvB K t (setAllLR ρ is ys) true) (h : StD K tb (setAllLR ρ is ys) o) : MsD K (mCaseL K is (some t) tb tr) ρ (.lst (sD ys)) o := fun G0 H0 G H σ v W s r k => by
  cases r with
  | lst hx ra =>
    rename_i a xs
    have e := rpa_strs ra
    subst e
    refine ⟨_, ys, rfl, ex_l s.gh hx, hs, ?_⟩
    rw [if_pos hf]
    refine ht G0 H0 G H _ _ s.setAllL fun G1 H1 g1 => ?_
    rw [if_pos rfl]
    exact h G0 H0 G1 H1 _ W (s.setAllL.step g1) (k.mono g1.gg)
theorem ml_miss {tt : Option TT} (hs : ∀ y ∈ ys, SeqAt.shaped (.str y) = true) (hf : PIt.fits is ys = false) (h : MsD K tr ρ (.lst (sD ys)) o) : MsD K (mCaseL K is tt tb tr) ρ (.lst (sD ys)) o := fun G0 H0 G H σ v W s r k => by
  have r' := r
  cases r with
  | lst hx ra =>
    rename_i a xs
    have e := rpa_strs ra
    subst e
    refine ⟨_, ys, rfl, ex_l s.gh hx, hs, ?_⟩
    rw [hf, if_neg (by decide)]
    exact h G0 H0 G H σ _ W s r' k
end
end Ax

namespace Ax
open PySem PySem.Spec PyProof.Rows L2 Evl
/-! ### methods of texts -/
section
variable {K : PySem.W.Frag} {ρ : Rho} {to te tp tq : TE} {a b : Str} {i : Nat} {l : Addr} {As : List (List Addr)} {es : List NE} {ds : List D} {d d2 : D} {tt : TT} {p : Bool}
theorem ev_m1 {r : V → List V → Hp → VK → Prop} {g : Str} (ho : EvD K to ρ (.str a)) (he : EvD K te ρ (.str b)) (hr : ∀ H Q, Q (.str g) H → r (.str a) [.str b] H Q) : EvD K (tM1 r to te) ρ (.str g) := fun G0 H0 G H σ Q s k =>
  ho G0 H0 G H σ _ s fun v G1 H1 g1 r1 => by
    cases r1
    refine ⟨⟨a, rfl⟩, he G0 H0 G1 H1 σ _ (s.step g1) fun w G2 H2 g2 r2 => ?_⟩
    cases r2
    exact hr H2 Q (k _ G2 H2 (g1.trans g2) (.str g))
theorem ev_m1b {r : V → List V → Hp → VK → Prop} {g : Bool} (ho : EvD K to ρ (.str a)) (he : EvD K te ρ (.str b)) (hr : ∀ H Q, Q (.bl g) H → r (.str a) [.str b] H Q) : EvD K (tM1 r to te) ρ (.bl g) := fun G0 H0 G H σ Q s k =>
  ho G0 H0 G H σ _ s fun v G1 H1 g1 r1 => by
    cases r1
    refine ⟨⟨a, rfl⟩, he G0 H0 G1 H1 σ _ (s.step g1) fun w G2 H2 g2 r2 => ?_⟩
    cases r2
    exact hr H2 Q (k _ G2 H2 (g1.trans g2) (.bl g))
theorem rpa_of_strs {H : Hp} : ∀ ys : List Str, RpA K H (ys.map V.str) (sD ys)
  | [] => .nil
  | y :: ys => .cons (.str y) (rpa_of_strs ys)
theorem en_split (ho : EvD K to ρ (.str a)) (he : EvD K te ρ (.str b)) (hb : (b.length == 0) = false) (hz : a.length ≤ 90000) :
    EvN K (tM1 (fun x xs H Q => ∃ a b, x = .str a ∧ xs = [.str b] ∧ (b.length == 0) = false ∧ a.length + 2 ≤ sizeLine ∧ rNewStrs (Txt.split a b) H Q) to te) ρ (sD (Txt.split a b)) := fun G0 H0 G H σ Q s k =>
  ho G0 H0 G H σ _ s fun v G1 H1 g1 r1 => by
    cases r1
    refine ⟨⟨a, rfl⟩, he G0 H0 G1 H1 σ _ (s.step g1) fun w G2 H2 g2 r2 => ?_⟩
    cases r2
    exact ⟨a, b, rfl, rfl, hb, sz_of (by omega), fun q hq => k q _ G2 H2 (g1.trans g2) hq (rpa_of_strs _)⟩
/-! the truth of a text, of an own list of lists -/
theorem eb_truS (h : EvD K te ρ (.str a)) (hz : a.length ≤ 90000) : EvB K (tTru K te) ρ ((a.length : Int) != 0) := fun G0 H0 G H σ Q s k => h G0 H0 G H σ _ s fun v G1 H1 g1 r1 => by
  cases r1
  exact ⟨_, ⟨sz_of (by omega), rfl⟩, k G1 H1 g1⟩
theorem eb_truN2 (h : ρ[i]? = some (some (.nst l As es))) : EvB K (tTru K (tVar i)) ρ (!es.isEmpty) := fun G0 H0 G H σ Q s k => by
  obtain ⟨h1, _, _, vs, h3, h4⟩ := s.nstAt h
  refine ⟨.ref l, h1, _, .inl ⟨vs, .inl (.inl h3), rfl⟩, ?_⟩
  have e : vs.isEmpty = es.isEmpty := by
    have := h4.len.1
    cases vs <;> cases es <;> first | rfl | cases this
  rw [e]
  exact k G H (Go.refl s.gh)
/-- xs[k][1].append(e) -/
theorem str_papp {k0 : Int} {a : Nat} (hp : EvD K tp ρ (.int k0)) (hq : EvD K tq ρ (.int 1)) (h : EvD K te ρ d2) (ho : ρ[i]? = some (some (.nst l As es))) (ka : ixN es.length k0 = some a) (ea : es[a]? = some (.pair d ds)) (hz : ds.length < 100000) :
    StD K (tDrop (tBM K "list" rAppend (tOp (rIx K) (tOp (rIx K) (tVar i) tp) tq) (tCons te tNil))) ρ (.nx (ρ.set i (some (.nst l As (es.set a (.pair d (ds ++ [d2]))))))) := fun G0 H0 G H σ W s k => by
  obtain ⟨h1, _, _, _, _, _⟩ := s.nstAt ho
  refine ⟨.ref l, h1, ?_⟩
  refine hp G0 H0 G H σ _ s fun w G2 H2 g2 r2 => ?_
  cases r2
  have s2 := s.step g2
  obtain ⟨h1, _, nd, vs, h2, h3⟩ := s2.nstAt ho
  obtain ⟨t, m, w, ws, b1, b2, b3, b4, b5, b6⟩ := h3.pairAt ea
  have ai : atI vs k0 = some (.ref t) := by
    unfold atI
    rw [h3.len.1, ka]
    exact b1
  refine .inl ⟨l, vs, k0, .ref t, rfl, rfl, .inl (.inl h2), ai, ?_⟩
  refine hq G0 H0 G2 H2 σ _ s2 fun w2 G2' H2' g2' r2' => ?_
  cases r2'
  refine .inr (.inl ⟨t, [w, .ref m], 1, .ref m, rfl, rfl, .inl (.inl (g2'.hh _ _ b3)), rfl, ?_⟩)
  refine ⟨.inl ⟨rfl, ws, .inl (.inl (g2'.hh _ _ b5))⟩, ?_⟩
  refine h G0 H0 G2' H2' σ _ (s2.step g2') fun v G3 H3 g3 r3 => ?_
  have g23 := g2'.trans g3
  refine ⟨m, ws, v, rfl, rfl, g23.hh _ _ b5, by rw [b6.length]; exact sz_lt hz, ?_⟩
  have s3 := s2.step g23
  obtain ⟨h1, _, nd, vs3, h5, h6⟩ := s3.nstAt ho
  obtain ⟨t2, m2, w2, ws2, c1, c2, c3, c4, c5, c6⟩ := h6.pairAt ea
  rw [b2] at c2
  cases c2
  have ew := c5
  rw [g23.hh _ _ b5] at ew
  cases ew
  have lin : m ∈ As.flatten := List.mem_flatten.mpr ⟨_, List.mem_of_getElem? b2, List.mem_cons_of_mem _ (List.mem_singleton.mpr rfl)⟩
  have ne : l ≠ m := fun z => (List.nodup_cons.mp nd).1 (by rw [z]; exact lin)
  exact k G3 _ _ (g2.gg.trans g23.gg) (s3.mutM ho rfl h1 rfl (fun a o ha e => by rw [upd_ne (fun z => ha (by rw [z]; exact List.mem_cons_of_mem _ lin))]; exact e)
    ⟨rfl, nd, vs3, by rw [upd_ne ne]; exact h5, h6.setPair (List.nodup_cons.mp nd).2 ea b2 (c6.append (.cons r3 .nil))⟩)
end
section
variable {K : PySem.W.Frag} {ρ : Rho} {c : TT} {p : Bool} {t u : TS} {P : Rho → Prop}
theorem str_ifp (h : EvB K c ρ p) (e : p = true) (k : StR K t ρ P) : StR K (tIfS c t u) ρ P := fun G0 H0 G H σ W s q =>
  h G0 H0 G H σ _ s fun G1 H1 g1 => by
    subst e
    exact k G0 H0 G1 H1 σ W (s.step g1) fun r G' H' σ' hp e' s' => q r G' H' σ' hp (g1.gg.trans e') s'
theorem str_ifn (h : EvB K c ρ p) (e : p = false) (k : StR K u ρ P) : StR K (tIfS c t u) ρ P := fun G0 H0 G H σ W s q =>
  h G0 H0 G H σ _ s fun G1 H1 g1 => by
    subst e
    exact k G0 H0 G1 H1 σ W (s.step g1) fun r G' H' σ' hp e' s' => q r G' H' σ' hp (g1.gg.trans e') s'
end
/-! ### texts at the level of their signs -/
abbrev tl (x : Str) : List Nat := x.cps.toList
theorem tl_app (a b : Str) : tl (a ++ b) = tl a ++ tl b := by
  show (a.cps ++ b.cps).toList = _
  rw [Array.toList_append]
theorem tl_inj {a b : Str} (h : tl a = tl b) : a = b := by
  cases a; cases b
  exact congrArg Str.mk (Array.toList_inj.mp h)
theorem tl_len (a : Str) : (tl a).length = a.length := Array.length_toList
theorem sep_cut {c : Nat} : ∀ {a b X Y : List Nat}, c ∉ a → c ∉ b → a ++ c :: X = b ++ c :: Y → a = b ∧ X = Y
  | [], [], X, Y, _, _, h => by cases h; exact ⟨rfl, rfl⟩
  | [], y :: b, X, Y, _, hb, h => by cases h; exact absurd List.mem_cons_self hb
  | x :: a, [], X, Y, ha, _, h => by cases h; exact absurd List.mem_cons_self ha
  | x :: a, y :: b, X, Y, ha, hb, h => by
    rw [List.cons_append, List.cons_append] at h
    injection h with h1 h2
    obtain ⟨e1, e2⟩ := sep_cut (fun z => ha (List.mem_cons_of_mem _ z)) (fun z => hb (List.mem_cons_of_mem _ z)) h2
    exact ⟨by rw [h1, e1], e2⟩
theorem tl_join (c : Nat) (a b : Str) (r : List Str) : tl (Str.join ⟨#[c]⟩ (a :: b :: r)) = tl a ++ c :: tl (Str.join ⟨#[c]⟩ (b :: r)) := by
  show tl (a ++ ⟨#[c]⟩ ++ Str.join ⟨#[c]⟩ (b :: r)) = _
  rw [tl_app, tl_app, List.append_assoc]; rfl
theorem join_one {c : Nat} : ∀ {A B : List Str}, A ≠ [] → B ≠ [] → (∀ x ∈ A, c ∉ tl x) → (∀ x ∈ B, c ∉ tl x) → Str.join ⟨#[c]⟩ A = Str.join ⟨#[c]⟩ B → A = B
  | [], _, h, _, _, _, _ => absurd rfl h
  | _ :: _, [], _, h, _, _, _ => absurd rfl h
  | [a], [b], _, _, _, _, h => by
    have h : a = b := h
    rw [h]
  | [a], b :: b2 :: r, _, _, ha, _, h => by
    have e := congrArg tl h
    rw [tl_join] at e
    have e : tl a = _ := e
    exact absurd (by rw [e]; exact List.mem_append_right _ List.mem_cons_self) (ha a List.mem_cons_self)
  | a :: a2 :: r, [b], _, _, _, hb, h => by
    have e := congrArg tl h
    rw [tl_join] at e
    have e : _ = tl b := e
    exact absurd (by rw [← e]; exact List.mem_append_right _ List.mem_cons_self) (hb b List.mem_cons_self)
  | a :: a2 :: r, b :: b2 :: q, _, _, ha, hb, h => by
    have e := congrArg tl h
    rw [tl_join, tl_join] at e
    obtain ⟨e1, e2⟩ := sep_cut (ha a List.mem_cons_self) (hb b List.mem_cons_self) e
    rw [tl_inj e1, join_one (List.cons_ne_nil _ _) (List.cons_ne_nil _ _) (fun x hx => ha x (List.mem_cons_of_mem _ hx)) (fun x hx => hb x (List.mem_cons_of_mem _ hx)) (tl_inj e2)]
theorem split_ne (x y : Str) : Txt.split x y ≠ [] := by
  unfold Txt.split
  split
  · exact List.cons_ne_nil _ _
  · split
    · exact List.cons_ne_nil _ _
    · rw [PySem.StrLaws.partsBetween_eq]
      obtain ⟨p, r, e⟩ := PySem.StrLaws.partsFrom_ne x y.length 0 (PySem.Builtin.Str.occurrences x y 0 x.length (x.length + 1))
      rw [e]; exact List.cons_ne_nil _ _
/-- what was joined comes apart again -/
theorem split_of_join {c : Nat} {A : List Str} (hA : A ≠ []) (h : ∀ x ∈ A, c ∉ tl x) : Txt.split (Str.join ⟨#[c]⟩ A) ⟨#[c]⟩ = A :=
  join_one (split_ne _ _) hA (PySem.StrLaws.split_free _ c) h (PySem.StrLaws.join_split _ _)
theorem sub_zero (a b : Str) : PySem.Builtin.Str.subAt (a ++ b) a 0 = true := by
  rw [PySem.StrLaws.subAt_eq, List.drop_zero, beq_iff_eq]
  show (tl (a ++ b)).take a.length = tl a
  rw [tl_app, ← tl_len a, List.take_left]
theorem starts_app (a b : Str) : Txt.startswith (a ++ b) a = true := by
  unfold Txt.startswith
  rw [sub_zero, Bool.and_true]
  exact decide_eq_true (by rw [Str.length_append]; omega)
theorem remove_app (a b : Str) (h : 0 < a.length) : Txt.removeprefix (a ++ b) a = b := by
  unfold Txt.removeprefix
  rw [if_pos (sub_zero a b)]
  have l : (a ++ b).length = a.length + b.length := Str.length_append ..
  show (if ((a ++ b).length - a.length == (a ++ b).length) = true then a ++ b else PySem.Builtin.Str.strSub (a ++ b) a.length (a ++ b).length) = b
  rw [if_neg (by rw [beq_iff_eq]; omega)]
  apply tl_inj
  show tl (PySem.Builtin.Str.strSub (a ++ b) a.length (a ++ b).length) = _
  unfold tl
  rw [PySem.StrLaws.strSub_toList]
  show ((tl (a ++ b)).drop a.length).take _ = tl b
  rw [tl_app, ← tl_len a, List.drop_left]
  exact List.take_of_length_le (by rw [tl_len, tl_len, l]; omega)
theorem ends_app (a b : Str) : Txt.endswith (a ++ b) b = true := by
  have l : (a ++ b).length = a.length + b.length := Str.length_append ..
  unfold Txt.endswith
  rw [PySem.StrLaws.subAt_eq, l, show a.length + b.length - b.length = a.length by omega]
  rw [Bool.and_eq_true]
  refine ⟨decide_eq_true (by omega), beq_iff_eq.mpr ?_⟩
  show ((tl (a ++ b)).drop a.length).take b.length = tl b
  rw [tl_app, ← tl_len a, List.drop_left, ← tl_len b, List.take_length]
theorem suffix_app (a b : Str) (h : 0 < b.length) : Txt.removesuffix (a ++ b) b = a := by
  have l : (a ++ b).length = a.length + b.length := Str.length_append ..
  have e := ends_app a b
  unfold Txt.endswith at e
  have e2 := (Bool.and_eq_true_iff.mp e).2
  unfold Txt.removesuffix
  rw [if_pos (Bool.and_eq_true_iff.mpr ⟨decide_eq_true (by omega), e2⟩)]
  show (if ((a ++ b).length - b.length - 0 == (a ++ b).length) = true then a ++ b else PySem.Builtin.Str.strSub (a ++ b) 0 ((a ++ b).length - b.length)) = a
  rw [if_neg (by rw [beq_iff_eq]; omega)]
  apply tl_inj
  unfold tl
  rw [PySem.StrLaws.strSub_toList]
  show ((tl (a ++ b)).drop 0).take _ = tl a
  rw [List.drop_zero, tl_app, l, show a.length + b.length - b.length - 0 = (tl a).length by rw [tl_len]; omega, List.take_left]
theorem starts_no {x y : Str} {c e : Nat} {r q : List Nat} (hx : tl x = c :: r) (hy : tl y = e :: q) (ne : c ≠ e) : Txt.startswith x y = false := by
  unfold Txt.startswith
  have : PySem.Builtin.Str.subAt x y 0 = false := by
    rw [PySem.StrLaws.subAt_eq, List.drop_zero]
    show ((tl x).take y.length == tl y) = false
    rw [← tl_len y, hx, hy]
    exact beq_eq_false_iff_ne.mpr fun z => ne (by rw [List.length_cons, List.take_succ_cons] at z; injection z)
  rw [this, Bool.and_false]
end Ax

namespace Ax
open PySem PySem.Spec PyProof.Rows L2 Evl
/-! ### list(zip(.., ..)): each side on its own -/
abbrev ZSp (prog : Program) (w : World) (i : Addr) (items : List Value) (cur : Nat → Heap → Prop) : Prop :=
  ∀ (A : Around) (E : Value → Shared → Prop) (s : Shared) (k : Nat) (Q : Value → Shared → Prop), A.handled = none → cur k s.heap →
    (∀ x h', items[k]? = some x → cur (k + 1) h' → Heap.SameBut i s.heap h' → Q x { s with heap := h' }) →
    (items[k]? = none → ∀ h' e, Heap.ExtBut i s.heap h' → (∃ o, h'.get? e = some o ∧ o.cls = .type "StopIteration") → E (.ref e) { s with heap := h' }) →
    wpAny (model prog w) A (Builtin.SmallTypes.nextOf (.ref i)) Q E s
/-- one side of a zip: its iterator i, what it gives, and where it stands; fp is what this rests on -/
structure ZSide (prog : Program) (w : World) (i : Addr) (fp : List Addr) (items : List Value) (cur : Nat → Heap → Prop) : Prop where
  go : ZSp prog w i items cur
  keep : ∀ k h h', cur k h → (∀ b, b ∈ fp → ∀ o, h.get? b = some o → h'.get? b = some o) → cur k h'
  at0 : ∀ k h, cur k h → ∃ o, h.get? i = some o ∧ ∀ v, o.data ≠ .cell v
  mem : i ∈ fp
theorem zside_tup {prog : Program} {w : World} {i l : Addr} {items : List Value} (hn : l ≠ i) : ZSide prog w i [i, l] items (fun k h => h.IsTupleIter i l k ∧ h.IsTuple l items.toArray) where
  go := fun A E s k Q hh c q1 q2 => by
    cases hx : items[k]? with
    | none => exact RZ.nextOf_tuple_end hh c.1 c.2 (by rw [List.getElem?_toArray]; exact hx) (q2 hx)
    | some x => exact RZ.nextOf_tuple_item c.1 c.2 (by rw [List.getElem?_toArray]; exact hx) fun h' t sb => q1 x h' hx ⟨t, c.2.extBut sb.extBut hn⟩ sb
  keep := fun k h h' c kp => ⟨c.1.at fun o e => kp i (List.mem_cons_self) o e, c.2.at fun o e => kp l (List.mem_cons_of_mem _ List.mem_cons_self) o e⟩
  at0 := fun k h c => by
    obtain ⟨⟨o, e, _, d⟩, _⟩ := c
    exact ⟨o, e, fun v q => by rw [d] at q; cases q⟩
  mem := List.mem_cons_self
theorem zside_lst {prog : Program} {w : World} {i l : Addr} {items : List Value} (hn : l ≠ i) : ZSide prog w i [i, l] items (fun k h => h.IsListIter i l k ∧ h.IsList l items.toArray) where
  go := fun A E s k Q hh c q1 q2 => by
    cases hx : items[k]? with
    | none => exact wpAny_nextOf_list_end hh c.1 c.2 (by rw [List.getElem?_toArray]; exact hx) (q2 hx)
    | some x => exact wpAny_nextOf_list_item c.1 c.2 (by rw [List.getElem?_toArray]; exact hx) fun h' t sb => q1 x h' hx ⟨t, c.2.extBut sb.extBut hn⟩ sb
  keep := fun k h h' c kp => ⟨c.1.at fun o e => kp i (List.mem_cons_self) o e, c.2.at fun o e => kp l (List.mem_cons_of_mem _ List.mem_cons_self) o e⟩
  at0 := fun k h c => by
    obtain ⟨⟨o, e, _, d⟩, _⟩ := c
    exact ⟨o, e, fun v q => by rw [d] at q; cases q⟩
  mem := List.mem_cons_self
structure ZFar (z TI TO i1 i2 : Addr) (f1 f2 : List Addr) : Prop where
  nz : z ∉ TO :: TI :: f1 ++ f2
  nO : TO ∉ TI :: f1 ++ f2
  nI : TI ∉ f1 ++ f2
  n1 : i1 ∉ f2
  n2 : i2 ∉ f1
/-- how the zip stands: before item k -/
def ZAt (z TI TO i1 i2 : Addr) (c1 c2 : Nat → Heap → Prop) (k : Nat) (h : Heap) : Prop :=
  IsPair h TI (.ref i1) (.ref i2) ∧ (∃ a b, IsPair h TO a b) ∧ c1 k h ∧ c2 k h ∧
  ((IsZip h z TI TO .none) ∨ ∃ T f oT, IsZipHeld h z TI TO T f ∧ h.get? T = some oT ∧ T ≠ z ∧ T ≠ TO ∧ T ≠ i1 ∧ T ≠ i2)
section
variable {prog : Program} {w : World} {A : Around} {E : Value → Shared → Prop} {s : Shared} {z TI TO i1 i2 : Addr} {f1 f2 : List Addr} {xs ys : List Value} {c1 c2 : Nat → Heap → Prop}
theorem ZFar.ne (D : ZFar z TI TO i1 i2 f1 f2) (S1 : i1 ∈ f1) (S2 : i2 ∈ f2) : TI ≠ z ∧ TO ≠ z ∧ i1 ≠ z ∧ i2 ≠ z ∧ TI ≠ TO ∧ TI ≠ i1 ∧ TI ≠ i2 ∧ TO ≠ i1 ∧ TO ≠ i2 ∧ i1 ≠ i2 := by
  obtain ⟨a, b, c, d, e⟩ := D
  simp only [List.mem_cons, List.mem_append, List.cons_append, not_or] at a b c
  exact ⟨Ne.symm a.2.1, Ne.symm a.1, fun q => a.2.2.1 (q ▸ S1), fun q => a.2.2.2 (q ▸ S2), Ne.symm b.1, fun q => c.1 (q ▸ S1), fun q => c.2 (q ▸ S2), fun q => b.2.1 (q ▸ S1), fun q => b.2.2 (q ▸ S2), fun q => d (q ▸ S2)⟩
theorem ZSide.move {i : Addr} {fp : List Addr} {vs : List Value} {cur : Nat → Heap → Prop} (S : ZSide prog w i fp vs cur) {k : Nat} {h h' : Heap} {a : Addr} (c : cur k h) (sb : Heap.ExtBut a h h') (hn : a ∉ fp) : cur k h' :=
  S.keep k h h' c fun b hb o e => sb b o (fun q => hn (q ▸ hb)) e
/-- the zip's next pair, or its end -/
theorem zat_next (S1 : ZSide prog w i1 f1 xs c1) (S2 : ZSide prog w i2 f2 ys c2) (D : ZFar z TI TO i1 i2 f1 f2) {k : Nat} (hh : A.handled = none) (st : ZAt z TI TO i1 i2 c1 c2 k s.heap) {Q : Value → Shared → Prop}
    (hQ : ∀ x y h', xs[k]? = some x → ys[k]? = some y → ZAt z TI TO i1 i2 c1 c2 (k + 1) h' → IsPair h' s.heap.objs.size x y → h'.objs.size = s.heap.objs.size + 1 →
      (∀ c o, c ≠ z → c ≠ TO → c ≠ i1 → c ≠ i2 → s.heap.get? c = some o → h'.get? c = some o) → Q (.ref s.heap.objs.size) { s with heap := h' })
    (hE : xs[k]? = none ∨ ys[k]? = none → ∀ h' e, (∀ c o, c ≠ z → c ≠ TO → c ≠ i1 → c ≠ i2 → s.heap.get? c = some o → h'.get? c = some o) → (∃ o, h'.get? e = some o ∧ o.cls = .type "StopIteration") → E (.ref e) { s with heap := h' }) :
    wpAny (model prog w) A (Builtin.«zip.__next__» ⟨[.ref z], []⟩) (fun fin s' => ∃ v, fin = .done (.ret v) ∧ Q v s') E s := by
  obtain ⟨nTz, nOz, n1z, n2z, nTO, nT1, nT2, nO1, nO2, n12⟩ := D.ne S1.mem S2.mem
  obtain ⟨hTI, ⟨a, b, hTO⟩, k1, k2, hz⟩ := st
  have zf1 : z ∉ f1 := fun q => D.nz (List.mem_cons_of_mem _ (List.mem_cons_of_mem _ (List.mem_append_left _ q)))
  have zf2 : z ∉ f2 := fun q => D.nz (List.mem_cons_of_mem _ (List.mem_cons_of_mem _ (List.mem_append_right _ q)))
  have of1 : TO ∉ f1 := fun q => D.nO (List.mem_cons_of_mem _ (List.mem_append_left _ q))
  have of2 : TO ∉ f2 := fun q => D.nO (List.mem_cons_of_mem _ (List.mem_append_right _ q))
  have hz2 : ∃ g0 g1, s.heap.get? z = some { cls := .type "zip", dict := none, data := .fields #[g0, g1, .bool false, .ref TI, .ref TO], slots := #[] } := by
    rcases hz with hz | ⟨T, f, oT, hz, _⟩ <;> exact ⟨_, _, hz⟩
  obtain ⟨g0, g1, hzz⟩ := hz2
  show wpAny _ _ (field (.ref z) 2 >>= _) _ _ _
  refine wpAny_bind (wpAny_field hzz rfl (x := .bool false) rfl ?_)
  show wpAny _ _ (field (.ref z) 3 >>= _) _ _ _
  refine wpAny_bind (wpAny_field hzz rfl (x := .ref TI) rfl (wpAny_bind (wpAny_seqItems hTI rfl ?_)))
  show wpAny _ _ (Builtin.SmallTypes.ownedTupleIsFree (.ref z) >>= _) _ _ _
  clear hzz
  rcases hz with hz | ⟨T, f, oT, hz, hT, m1, m2, m3, m4⟩
  · refine wpAny_bind ?_
    unfold Builtin.SmallTypes.ownedTupleIsFree
    refine wpAny_bind (wpAny_field hz rfl (x := .none) rfl (wpAny_pure ?_))
    simp only [if_true]
    refine wpAny_bind (wpAny_rule (wpAny_bind (wpAny_field hz rfl (x := .ref TO) rfl (wpAny_bind (wpAny_setField_rec hz (by simp) fun hA zA sA => ?_)))))
    replace zA : IsZip hA z TI TO .ellipsis := zA
    refine wpAny_bind ?_
    simp only [List.zipIdx_cons, List.zipIdx_nil, List.forIn_cons, List.forIn_nil]
    refine wpAny_bind (wpAny_bind (wpAny_onRaise ?_))
    show wpAny _ _ (Builtin.SmallTypes.nextOf (.ref i1) >>= _) _ _ _
    have k1A := S1.move k1 sA.extBut zf1
    have k2A := S2.move k2 sA.extBut zf2
    refine wpAny_bind (S1.go _ _ { s with heap := hA } k _ hh k1A (fun x hB ex k1B sB => wpAny_pure ?_) fun ex hB e sB he => ?_)
    · have oB : IsPair hB TO a b := sB.extBut _ _ nO1 (sA.extBut _ _ nOz hTO)
      refine wpAny_bind (wpAny_seqItems oB rfl (wpAny_bind (wpAny_updateSeq_pair oB fun hC oC sC => ?_)))
      replace oC : IsPair hC TO x b := oC
      refine wpAny_bind (wpAny_letGo (wpAny_pure ?_))
      refine wpAny_bind (wpAny_bind (wpAny_onRaise ?_))
      show wpAny _ _ (Builtin.SmallTypes.nextOf (.ref i2) >>= _) _ _ _
      have k2C := S2.move (S2.move k2A sB.extBut D.n1) sC.extBut of2
      refine wpAny_bind (S2.go _ _ { s with heap := hC } k _ hh k2C (fun y hD ey k2D sD => wpAny_pure ?_) fun ey hD e sD he => ?_)
      · have oD : IsPair hD TO x b := sD.extBut _ _ nO2 oC
        refine wpAny_bind (wpAny_seqItems oD rfl (wpAny_bind (wpAny_updateSeq_pair oD fun hF oF sF => ?_)))
        replace oF : IsPair hF TO x y := oF
        refine wpAny_bind (wpAny_letGo (wpAny_pure (wpAny_pure (wpAny_bind (wpAny_seqItems oF rfl (wpAny_bind (wpAny_newTuple ?_)))))))
        have hsz : hF.objs.size = s.heap.objs.size := by rw [sF.1, sD.1, sC.1, sB.1, sA.1]
        have zF : IsZip hF z TI TO .ellipsis := sF.extBut _ _ (Ne.symm nOz) (sD.extBut _ _ (Ne.symm n2z) (sC.extBut _ _ (Ne.symm nOz) (sB.extBut _ _ (Ne.symm n1z) zA)))
        have kF : ∀ c o, c ≠ z → c ≠ TO → c ≠ i1 → c ≠ i2 → s.heap.get? c = some o → hF.get? c = some o := fun c o e1 e2 e3 e4 e =>
          sF.extBut _ _ e2 (sD.extBut _ _ e4 (sC.extBut _ _ e2 (sB.extBut _ _ e3 (sA.extBut _ _ e1 e))))
        have k1F := S1.move (S1.move (S1.move k1B sC.extBut of1) sD.extBut D.n2) sF.extBut of1
        have k2F := S2.move k2D sF.extBut of2
        have ltz := Heap.lt_size zF
        have ltO := Heap.lt_size oF
        obtain ⟨q1, l1, _⟩ := S1.at0 _ _ k1F
        obtain ⟨q2, l2, _⟩ := S2.at0 _ _ k2F
        have lt1 := Heap.lt_size l1
        have lt2 := Heap.lt_size l2
        show wpAny _ _ (Builtin.SmallTypes.ownedTupleHandOut (.ref z) (.ref hF.objs.size) >>= _) _ _ _
        refine wpAny_bind ?_
        unfold Builtin.SmallTypes.ownedTupleHandOut
        have zG : IsZip (hF.push { cls := .type "tuple", data := .seq #[x, y] }) z TI TO .ellipsis := Heap.get?_push_of_some _ zF
        refine wpAny_bind (wpAny_setField_rec zG (by simp) fun hI zI sI => ?_)
        replace zI : IsZip hI z TI TO (rawInt hF.objs.size) := zI
        refine wpAny_setField_rec zI (by simp) fun hJ zJ sJ => ?_
        replace zJ : IsZipHeld hJ z TI TO hF.objs.size false := zJ
        have up : ∀ c o, c ≠ z → hF.get? c = some o → hJ.get? c = some o := fun c o e1 e => sJ.extBut _ _ e1 (sI.extBut _ _ e1 (Heap.get?_push_of_some _ e))
        have tJ : IsPair hJ hF.objs.size x y := sJ.extBut _ _ (Nat.ne_of_gt ltz) (sI.extBut _ _ (Nat.ne_of_gt ltz) (Heap.get?_push_size _ rfl))
        have z8 : hJ.objs.size = hF.objs.size + 1 := by rw [sJ.1, sI.1, Heap.size_push]
        have st' : ZAt z TI TO i1 i2 c1 c2 (k + 1) hJ := ⟨up _ _ nTz (kF _ _ nTz nTO nT1 nT2 hTI), ⟨x, y, up _ _ nOz oF⟩, S1.keep _ _ _ k1F fun b hb o e => up b o (fun q => zf1 (q ▸ hb)) e, S2.keep _ _ _ k2F fun b hb o e => up b o (fun q => zf2 (q ▸ hb)) e,
          .inr ⟨_, _, _, zJ, tJ, Nat.ne_of_gt ltz, Nat.ne_of_gt ltO, Nat.ne_of_gt lt1, Nat.ne_of_gt lt2⟩⟩
        refine wpAny_pure ⟨_, rfl, ?_⟩
        show Q (.ref hF.objs.size) _
        rw [hsz] at tJ z8 ⊢
        exact hQ x y hJ ex ey st' tJ z8 fun c o e1 e2 e3 e4 e => up c o e1 (kF c o e1 e2 e3 e4 e)
      · obtain ⟨oe, hoe, hce⟩ := he
        have zD : IsZip hD z TI TO .ellipsis := sD _ _ (Ne.symm n2z) (sC.extBut _ _ (Ne.symm nOz) (sB.extBut _ _ (Ne.symm n1z) zA))
        have ez : e ≠ z := fun q => by subst q; rw [zD] at hoe; cases hoe; simp at hce
        exact wpAny_setField_rec zD (by simp) fun hF _ sF => hE (.inr ey) hF e (fun c o e1 e2 e3 e4 q => sF.extBut _ _ e1 (sD _ _ e4 (sC.extBut _ _ e2 (sB.extBut _ _ e3 (sA.extBut _ _ e1 q))))) ⟨oe, sF.extBut _ _ ez hoe, hce⟩
    · obtain ⟨oe, hoe, hce⟩ := he
      have zB : IsZip hB z TI TO .ellipsis := sB _ _ (Ne.symm n1z) zA
      have ez : e ≠ z := fun q => by subst q; rw [zB] at hoe; cases hoe; simp at hce
      exact wpAny_setField_rec zB (by simp) fun hC _ sC => hE (.inl ex) hC e (fun c o e1 e2 e3 e4 q => sC.extBut _ _ e1 (sB _ _ e3 (sA.extBut _ _ e1 q))) ⟨oe, sC.extBut _ _ ez hoe, hce⟩
  · refine wpAny_bind (wpAny_tupleHeld_zip hz hT fun hA zA sA => ?_)
    simp only [Bool.false_eq_true, if_false]
    refine wpAny_bind ?_
    rw [← Array.forIn_toList]
    simp only [List.forIn_cons, List.forIn_nil]
    refine wpAny_bind (wpAny_bind (wpAny_holding ?_))
    show wpAny _ _ (Builtin.SmallTypes.nextOf (.ref i1) >>= _) _ _ _
    have k1A := S1.move k1 sA.extBut zf1
    have k2A := S2.move k2 sA.extBut zf2
    refine wpAny_bind (S1.go _ _ { s with heap := hA } k _ hh k1A (fun x hB ex k1B sB => wpAny_pure (wpAny_pure ?_)) fun ex hB e sB he => ?_)
    · refine wpAny_bind (wpAny_bind (wpAny_holding ?_))
      show wpAny _ _ (Builtin.SmallTypes.nextOf (.ref i2) >>= _) _ _ _
      have k2B := S2.move k2A sB.extBut D.n1
      refine wpAny_bind (S2.go _ _ { s with heap := hB } k _ hh k2B (fun y hC ey k2C sC => wpAny_pure (wpAny_pure (wpAny_pure ?_))) fun ey hC e sC he => ?_)
      · show wpAny _ _ (newTuple [x, y] >>= _) _ _ _
        refine wpAny_bind (wpAny_newTuple ?_)
        have hsz : hC.objs.size = s.heap.objs.size := by rw [sC.1, sB.1, sA.1]
        have zC : IsZipHeld hC z TI TO T true := sC.extBut _ _ (Ne.symm n2z) (sB.extBut _ _ (Ne.symm n1z) zA)
        have kC : ∀ c o, c ≠ z → c ≠ TO → c ≠ i1 → c ≠ i2 → s.heap.get? c = some o → hC.get? c = some o := fun c o e1 e2 e3 e4 e => sC.extBut _ _ e4 (sB.extBut _ _ e3 (sA.extBut _ _ e1 e))
        have k1C := S1.move k1B sC.extBut D.n2
        have up : ∀ c o, hC.get? c = some o → (hC.push { cls := .type "tuple", data := .seq #[x, y] }).get? c = some o := fun c o e => Heap.get?_push_of_some _ e
        have tC : IsPair (hC.push { cls := .type "tuple", data := .seq #[x, y] }) hC.objs.size x y := Heap.get?_push_size _ rfl
        have z8 : (hC.push { cls := .type "tuple", data := .seq #[x, y] }).objs.size = hC.objs.size + 1 := Heap.size_push ..
        have st' : ZAt z TI TO i1 i2 c1 c2 (k + 1) (hC.push { cls := .type "tuple", data := .seq #[x, y] }) := ⟨up _ _ (kC _ _ nTz nTO nT1 nT2 hTI), ⟨a, b, up _ _ (sC.extBut _ _ nO2 (sB.extBut _ _ nO1 (sA.extBut _ _ nOz hTO)))⟩, S1.keep _ _ _ k1C fun b hb o e => up b o e, S2.keep _ _ _ k2C fun b hb o e => up b o e,
          .inr ⟨_, _, _, up _ _ zC, up _ _ (kC _ _ m1 m2 m3 m4 hT), m1, m2, m3, m4⟩⟩
        refine wpAny_pure ⟨_, rfl, ?_⟩
        show Q (.ref hC.objs.size) _
        rw [hsz] at tC z8 ⊢
        exact hQ x y _ ex ey st' tC z8 fun c o e1 e2 e3 e4 e => up c o (kC c o e1 e2 e3 e4 e)
      · exact hE (.inr ey) hC e (fun c o e1 e2 e3 e4 q => sC _ _ e4 (sB.extBut _ _ e3 (sA.extBut _ _ e1 q))) he
    · exact hE (.inl ex) hB e (fun c o e1 e2 e3 e4 q => sB _ _ e3 (sA.extBut _ _ e1 q)) he
theorem pn_zat (S1 : ZSide prog w i1 f1 xs c1) (S2 : ZSide prog w i2 f2 ys c2) (D : ZFar z TI TO i1 i2 f1 f2) {k : Nat} (hh : A.handled = none) (st : ZAt z TI TO i1 i2 c1 c2 k s.heap) {Q : Option Value → Shared → Prop}
    (hQ : ∀ x y h', xs[k]? = some x → ys[k]? = some y → ZAt z TI TO i1 i2 c1 c2 (k + 1) h' → IsPair h' s.heap.objs.size x y → h'.objs.size = s.heap.objs.size + 1 →
      (∀ c o, c ≠ z → c ≠ TO → c ≠ i1 → c ≠ i2 → s.heap.get? c = some o → h'.get? c = some o) → Q (some (.ref s.heap.objs.size)) { s with heap := h' })
    (hE : xs[k]? = none ∨ ys[k]? = none → ∀ h', (∀ c o, c ≠ z → c ≠ TO → c ≠ i1 → c ≠ i2 → s.heap.get? c = some o → h'.get? c = some o) → Q none { s with heap := h' }) :
    wpAny (model prog w) A (pyNext (.ref z)) Q E s := by
  have ty : s.TypeIs (.ref z) "zip" := by
    obtain ⟨_, _, _, _, hz⟩ := id st
    rcases hz with hz | ⟨T, f, oT, hz, _⟩ <;> exact ⟨_, hz, rfl⟩
  unfold pyNext
  refine wpAny_bind (wpAny_attempt (wpAny_callSpecial?_slot (name := Str.ofString "__next__") ty PySem.F.slot_zip_next (wpAny_call_entry PySem.F.slot_zip_next ty PySem.F.entry_zip_next
    (zat_next (A := A.in1) S1 S2 D hh st (fun x y h' ex ey st' p z8 kp => ?_) fun en h' e kp he => ?_) (PySem.F.args_zip_next_1 _))))
  · exact wpAny_pure (hQ x y h' ex ey st' p z8 kp)
  · obtain ⟨o, ho, hc⟩ := he
    exact wpAny_bind (wpAny_isInstance (T := "StopIteration") (b := true) ⟨o, ho, hc⟩ isSubtype_stop (wpAny_pure (hE en h' kp)))
end
end Ax

namespace Ax
open PySem PySem.Spec PyProof.Rows L2 Evl
/-- new pairs, one after another -/
inductive NewPs (H : Hp) : List (V × V) → List V → Hp → Prop
  | nil : NewPs H [] [] H
  | more {ps : List (V × V)} {ts : List V} {H' : Hp} {T : Addr} {x y : V} : NewPs H ps ts H' → H' T = none → NewPs H (ps ++ [(x, y)]) (ts ++ [.ref T]) (upd H' T (.tup [x, y]))
theorem NewPs.len {H H' : Hp} {ps : List (V × V)} {ts : List V} (n : NewPs H ps ts H') : ts.length = ps.length := by
  induction n with
  | nil => rfl
  | more _ _ ih => rw [List.length_append, List.length_append, ih]; rfl
theorem ZAt.keep {prog : Program} {w : World} {z TI TO i1 i2 : Addr} {f1 f2 : List Addr} {xs ys : List Value} {c1 c2 : Nat → Heap → Prop} (S1 : ZSide prog w i1 f1 xs c1) (S2 : ZSide prog w i2 f2 ys c2) {k : Nat} {h h' : Heap} (st : ZAt z TI TO i1 i2 c1 c2 k h)
    (kp : ∀ b, b ∈ z :: TI :: TO :: f1 ++ f2 → ∀ o, h.get? b = some o → h'.get? b = some o) (al : ∀ b o, h.get? b = some o → ∃ o', h'.get? b = some o') : ZAt z TI TO i1 i2 c1 c2 k h' := by
  obtain ⟨hTI, ⟨a, b, hTO⟩, k1, k2, hz⟩ := st
  refine ⟨kp _ (by simp) _ hTI, ⟨a, b, kp _ (by simp) _ hTO⟩, S1.keep _ _ _ k1 fun b hb o e => kp b (by simp [hb]) o e, S2.keep _ _ _ k2 fun b hb o e => kp b (by simp [hb]) o e, ?_⟩
  rcases hz with hz | ⟨T, f, oT, hz, hT, m1, m2, m3, m4⟩
  · exact .inl (kp _ (by simp) _ hz)
  · obtain ⟨o', e'⟩ := al _ _ hT
    exact .inr ⟨T, f, o', kp _ (by simp) _ hz, e', m1, m2, m3, m4⟩
section
variable {X : Cx} {pins : List (Addr × Obj)} {σ : L2.St} {q z TI TO i1 i2 : Addr} {f1 f2 : List Addr} {vx vy : List V} {xs ys : List Value} {c1 c2 : Nat → Heap → Prop} {H0 : Hp} {Rs : Result → Shared → Prop} {A1 : Around}
theorem zl_loop (hh : A1.in1.handled = none) (S1 : ZSide X.prog X.w i1 f1 xs c1) (S2 : ZSide X.prog X.w i2 f2 ys c2) (D : ZFar z TI TO i1 i2 f1 f2) (hz : vx.length ≤ sizeLine) (rx : Vals vx xs) (ry : Vals vy ys)
    (hf : ∀ b ∈ [z, TO, i1, i2], FpOk X pins H0 b) (nq : q ∉ z :: TI :: TO :: f1 ++ f2)
    (hdone : ∀ ts H' s, NewPs H0 (vx.zip vy) ts H' → H' q = H0 q → Inv X pins σ (upd H' q (.lst ts)) s → Rs (.ok (.ret .none)) s) :
    ∀ (m i : Nat) (s : Shared) (ts : List V) (Hi : Hp), m = (vx.zip vy).length - i → i ≤ (vx.zip vy).length → NewPs H0 ((vx.zip vy).take i) ts Hi → Hi q = H0 q → Inv X pins σ (upd Hi q (.lst ts)) s → ZAt z TI TO i1 i2 c1 c2 i s.heap → (∀ b ∈ [z, TO, i1, i2], Hi b = none) →
      codeAny (model X.prog X.w) A1 (.builtin "list.extend.loop" ⟨[.ref q, .ref z, .none], []⟩) Rs s := by
  have nch : ∀ b ∈ [z, TO, i1, i2], b ≠ q := fun b hb e => by
    subst e
    have h1 := S1.mem
    have h2 := S2.mem
    have hb' : b = z ∨ b = TO ∨ b = i1 ∨ b = i2 := by simpa using hb
    rcases hb' with e | e | e | e <;> subst e <;> exact nq (by simp [h1, h2])
  have dn : ∀ (m i : Nat) (s : Shared) (ts : List V) (Hi : Hp), i ≤ (vx.zip vy).length → NewPs H0 ((vx.zip vy).take i) ts Hi → Hi q = H0 q → Inv X pins σ (upd Hi q (.lst ts)) s → (∀ b ∈ [z, TO, i1, i2], Hi b = none) →
      (xs[i]? = none ∨ ys[i]? = none) → ∀ h', (∀ c o, c ≠ z → c ≠ TO → c ≠ i1 → c ≠ i2 → s.heap.get? c = some o → h'.get? c = some o) → Rs (.ok (.ret .none)) { s with heap := h' } := fun m i s ts Hi hi np eq I hn en h' kp => by
    have l1 := rx.length
    have l2 := ry.length
    have ei : i = (vx.zip vy).length := by
      rw [List.length_zip] at hi ⊢
      rcases en with en | en
      · have := List.getElem?_eq_none_iff.mp en; omega
      · have := List.getElem?_eq_none_iff.mp en; omega
    rw [ei, List.take_length] at np
    refine hdone ts Hi _ np eq (I.turnedL (t' := s.toks) (ch := [z, TO, i1, i2]) (fun c o hb e => ?_) fun b hb => ⟨by rw [upd_ne (nch b hb)]; exact hn b hb, (hf b hb).2⟩)
    simp only [List.mem_cons, List.not_mem_nil, or_false, not_or] at hb
    exact kp c o hb.1 hb.2.1 hb.2.2.1 hb.2.2.2 e
  intro m
  induction m with
  | zero =>
    intro i s ts Hi hm hi np eq I st hn
    refine codeAny_builtin PySem.F.entry_extend_loop ?_
    rw [Around.under_plainId PySem.F.plain_extend_loop _]
    show wpAny _ A1.in1 (pyNext (.ref z) >>= _) _ _ s
    refine wpAny_bind (pn_zat S1 S2 D hh st (fun x y h' ex ey => ?_) fun en h' kp => ?_)
    · have l1 := rx.length
      have l2 := ry.length
      have e1 := (List.getElem?_eq_some_iff.mp ex).1
      have e2 := (List.getElem?_eq_some_iff.mp ey).1
      rw [List.length_zip] at hm hi
      omega
    · exact wpAny_pure (dn 0 i s ts Hi hi np eq I hn en h' kp)
  | succ m ih =>
    intro i s ts Hi hm hi np eq I st hn
    refine codeAny_builtin PySem.F.entry_extend_loop ?_
    rw [Around.under_plainId PySem.F.plain_extend_loop _]
    show wpAny _ A1.in1 (pyNext (.ref z) >>= _) _ _ s
    refine wpAny_bind (pn_zat S1 S2 D hh st (fun x y h' ex ey st' tp z8 kp => ?_) fun en h' kp => wpAny_pure (dn 0 i s ts Hi hi np eq I hn en h' kp))
    have hlt : i < (vx.zip vy).length := by omega
    have l1 := rx.length
    have l2 := ry.length
    have lx : i < vx.length := by rw [List.length_zip] at hlt; omega
    have ly : i < vy.length := by rw [List.length_zip] at hlt; omega
    obtain ⟨u1, hu1, r1⟩ := rx.get (List.getElem?_eq_getElem lx)
    obtain ⟨u2, hu2, r2⟩ := ry.get (List.getElem?_eq_getElem ly)
    rw [hu1] at ex; cases ex
    rw [hu2] at ey; cases ey
    have new : ObjOk X.prog X.w (upd (upd Hi q (.lst ts)) s.heap.objs.size (.tup [vx[i], vy[i]])) h' s.heap.objs.size (.tup [vx[i], vy[i]]) :=
      ⟨by show 2 ≤ sizeLine; rw [sizeLine_eq]; decide, [x, y], .cons r1 (.cons r2 .nil), ⟨_, tp, rfl, _, rfl⟩⟩
    have fr := I.hok.fresh (Nat.le_refl s.heap.objs.size)
    have hqq : (upd Hi q (.lst ts)) q = some (.lst ts) := upd_same
    have nT : s.heap.objs.size ≠ q := fun e => by rw [e, hqq] at fr; cases fr
    rw [upd_ne nT] at fr
    have fok : ∀ b ∈ [z, TO, i1, i2], FpOk X pins (upd Hi q (.lst ts)) b := fun b hb => ⟨by rw [upd_ne (nch b hb)]; exact hn b hb, (hf b hb).2⟩
    have I2 := I.turnedNew (t' := s.toks) (ch := [z, TO, i1, i2]) (h' := h') (fun c o hb e => by
      simp only [List.mem_cons, List.not_mem_nil, or_false, not_or] at hb
      exact kp c o hb.1 hb.2.1 hb.2.2.1 hb.2.2.2 e) fok (Nat.le_refl _) new
    rw [upd_cm (Ne.symm nT)] at I2
    have hq : (upd (upd Hi s.heap.objs.size (.tup [vx[i], vy[i]])) q (.lst ts)) q = some (.lst ts) := upd_same
    show wpAny _ A1.in1 (updateSeq q (·.push (.ref s.heap.objs.size)) >>= _) _ _ _
    obtain ⟨zz, its2, k2, rr, hl2, e2⟩ := I2.lstM hq
    have tl : ts.length + 1 ≤ sizeLine := by
      rw [np.len, List.length_take, List.length_zip]; omega
    refine wpAny_bind (wpAny_updateSeq e2 rfl (wpAny_pure ⟨plainId_quiet PySem.F.plain_extend_loop _, ?_⟩) (by rw [List.size_toArray]; omega) (by show (its2.toArray.push _).size ≤ sizeLine + 1; rw [Array.size_push, List.size_toArray]; omega))
    have I3 := I2.lset (f := fun c => c.push (.ref s.heap.objs.size)) (its' := its2 ++ [.ref s.heap.objs.size]) (t' := s.toks) (ys := ts ++ [.ref s.heap.objs.size]) hq e2 (by show its2.toArray.push _ = _; simp) (rr.append (show Vals [V.ref s.heap.objs.size] [Value.ref s.heap.objs.size] from .cons rfl .nil)) (by rw [List.length_append, List.length_singleton]; omega)
    rw [upd_upd] at I3
    have np' : NewPs H0 ((vx.zip vy).take (i + 1)) (ts ++ [.ref s.heap.objs.size]) (upd Hi s.heap.objs.size (.tup [vx[i], vy[i]])) := by
      rw [List.take_succ, List.getElem?_eq_getElem hlt, List.getElem_zip]
      exact np.more fr
    have sb : Heap.SameBut q h' (h'.update q (Obj.mapSeq fun c => c.push (.ref s.heap.objs.size))) := Heap.SameBut.update ..
    refine ih (i + 1) _ _ _ (by omega) hlt np' (by rw [upd_ne (Ne.symm nT)]; exact eq) I3 (st'.keep S1 S2 (fun b hb o e => sb.extBut b o (fun w => nq (w ▸ hb)) e) fun b o e => ?_) fun b hb => ?_
    · by_cases eb : b = q
      · rw [eb]; exact ⟨_, Heap.get?_update_self _ e2 rfl⟩
      · exact ⟨o, sb.extBut b o eb e⟩
    · have gt : b ≠ s.heap.objs.size := by
        obtain ⟨_, ⟨p1, p2, hTO⟩, k1, k2, hz'⟩ := st
        obtain ⟨o1, g1, _⟩ := S1.at0 _ _ k1
        obtain ⟨o2, g2, _⟩ := S2.at0 _ _ k2
        have hzl : z < s.heap.objs.size := by
          rcases hz' with hz' | ⟨T, f, oT, hz', _⟩ <;> exact Heap.lt_size hz'
        have hb' : b = z ∨ b = TO ∨ b = i1 ∨ b = i2 := by simpa using hb
        rcases hb' with e | e | e | e
        · rw [e]; exact Nat.ne_of_lt hzl
        · rw [e]; exact Nat.ne_of_lt (Heap.lt_size hTO)
        · rw [e]; exact Nat.ne_of_lt (Heap.lt_size g1)
        · rw [e]; exact Nat.ne_of_lt (Heap.lt_size g2)
      rw [upd_ne gt]
      exact hn b hb
end
end Ax

namespace Ax
open PySem PySem.Spec PyProof.Rows L2 Evl
theorem nolen_zip : typeLookup (.type "zip") "__len__" = pure none := by rw [typeLookup_type, builtinLookup_eq_fast]; kernel_rfl
theorem nohint_zip : typeLookup (.type "zip") "__length_hint__" = pure none := by rw [typeLookup_type, builtinLookup_eq_fast]; kernel_rfl
theorem zfar_new (n a b : Nat) (ha : a < n) (hb : b < n) : ZFar (n + 4) (n + 2) (n + 3) n (n + 1) [n, a] [n + 1, b] := by
  have key : ∀ (x y : Nat), x < y ∨ y < x → x ≠ y := fun x y h e => by omega
  constructor <;> simp only [List.mem_cons, List.mem_append, List.cons_append, List.nil_append, List.not_mem_nil, or_false, not_or]
  · exact ⟨key _ _ (by omega), key _ _ (by omega), key _ _ (by omega), key _ _ (by omega), key _ _ (by omega), key _ _ (by omega)⟩
  · exact ⟨key _ _ (by omega), key _ _ (by omega), key _ _ (by omega), key _ _ (by omega), key _ _ (by omega)⟩
  · exact ⟨key _ _ (by omega), key _ _ (by omega), key _ _ (by omega), key _ _ (by omega)⟩
  · exact ⟨key _ _ (by omega), key _ _ (by omega)⟩
  · exact ⟨key _ _ (by omega), key _ _ (by omega)⟩
def tLstZip (K : PySem.W.Frag) (ta : TA) : TE := fun σ H Q => ta σ H fun vs H1 => ∃ (a b : Addr) (xs ys : List V), vs = [.ref a, .ref b] ∧ SqT K H1 a xs ∧ SqL K H1 b ys ∧ ∀ q ts H', H1 q = none → NewPs H1 (xs.zip ys) ts H' → H' q = none → Q (.ref q) (upd H' q (.lst ts))
section
variable {X : Cx}
theorem pe_lstZip {e e2 : Expr} {ta : TA} {p p2 pos pos2 : Pos} (hc : X.calm = true) (hg : Gl X "list") (hm : X.mg "list" = none) (hg2 : Gl X "zip") (hm2 : X.mg "zip" = none) (ha : PA X [e, e2] ta)
    (hs : starEach [e, e2] X.env = (false, eval e X.env) :: starEach [e2] X.env := by rfl) (hpl : (backTo pos2 (starEach [e2] X.env)).any (·.1) = false := by rfl)
    (hs2 : starEach [.Call (.Name "zip" p2) [e, e2] [] pos2] X.env = (false, eval (.Call (.Name "zip" p2) [e, e2] [] pos2) X.env) :: starEach [] X.env := by rfl) :
    PE X (.Call (.Name "list" p) [.Call (.Name "zip" p2) [e, e2] [] pos2] [] pos) (tLstZip X.K ta) := by
  refine ⟨fun pins s σ H Q I h => ?_⟩
  refine Call_ (ld_blt I hg hm boot_list (PyProof.Rows.callWith_type1 (args_cons (Call_ (ld_blt I hg2 hm2 PyProof.Rows.boot_zip (PyProof.Rows.callWith_type1 (thn (ha.run pos2 pins s σ H _ I h) fun us s1 ⟨vs, H1, I1, r1, q1⟩ => ?_) hs hpl))) hs2) hs2))
  obtain ⟨a, b, xs, ys, ev, hqx, hqy, qq⟩ := q1
  subst ev
  cases r1 with
  | cons r rr =>
    cases rr with
    | cons r' rr =>
      cases rr; cases r; cases r'
      obtain ⟨its, rv, p1, hz1⟩ := I1.tuple hqx
      obtain ⟨its2, rv2, p2, hz2⟩ := I1.list hqy
      obtain ⟨oa, hoa, _⟩ := id p1
      have lta : a < s1.heap.objs.size := Heap.lt_size hoa
      have ltb : b < s1.heap.objs.size := p2.lt
      refine zip_begins2 (begins_tuple a its.toArray) (begins_list b its2.toArray) (show s1.heap.IsTuple a its.toArray from p1) p2.isList fun h' hz hTI hTO h1 h2 hsz hk => ?_
      have I2 : Inv X pins σ H1 { s1 with heap := h' } := I1.kept (t' := s1.toks) hk
      generalize en : s1.heap.objs.size = n at *
      have S1 : ZSide X.prog X.w n [n, a] its _ := zside_tup (items := its) (Nat.ne_of_lt lta)
      have S2 : ZSide X.prog X.w (n + 1) [n + 1, b] its2 _ := zside_lst (items := its2) (Nat.ne_of_lt (Nat.lt_succ_of_lt ltb))
      have D : ZFar (n + 4) (n + 2) (n + 3) n (n + 1) [n, a] [n + 1, b] := zfar_new n a b lta ltb
      have st : ZAt (n + 4) (n + 2) (n + 3) n (n + 1) (fun k h => h.IsTupleIter n a k ∧ h.IsTuple a its.toArray) (fun k h => h.IsListIter (n + 1) b k ∧ h.IsList b its2.toArray) 0 h' :=
        ⟨hTI, ⟨_, _, hTO⟩, ⟨⟨_, h1, rfl, rfl⟩, (show s1.heap.IsTuple a its.toArray from p1).at fun o q => hk _ o q⟩, ⟨⟨_, h2, rfl, rfl⟩, p2.isList.at fun o q => hk _ o q⟩, .inl hz⟩
      refine args_nil ?_
      refine callType_codes (Q₁ := fun obj s₁ => obj = .ref h'.objs.size ∧ s₁ = { s1 with heap := h'.push { cls := .type "list", data := .seq #[] } }) PySem.F.called_list (PySem.F.typeCall_list_1 _) PySem.F.entry_list_init
        (code_list_new _ ⟨rfl, rfl⟩) fun obj s₁ hobj => ?_
      obtain ⟨rfl, rfl⟩ := hobj
      have hS : (h'.push { cls := .type "list", data := .seq #[] }).get? h'.objs.size = some { cls := .type "list", data := .seq #[] } := Heap.get?_push_size _ rfl
      refine ⟨⟨_, hS, rfl⟩, PySem.F.args_list_init_2 _ _, ?_⟩
      have fr : H1 h'.objs.size = none := I2.hok.fresh (Nat.le_refl _)
      have I3 : Inv X pins σ (upd H1 h'.objs.size (.lst [])) { s1 with heap := h'.push { cls := .type "list", data := .seq #[] } } := I2.lnew (its := []) (t' := s1.toks) .nil (Nat.zero_le _)
      show wpAny _ _ (do let old ← Builtin.List.listItems (.ref h'.objs.size); Builtin.List.listUpdate (.ref h'.objs.size) (fun _ => #[]); letGo old.toList.reverse; Builtin.List.listExtendWith (.ref h'.objs.size) (.ref (n + 4)) .none) _ _ _
      refine wpAny_bind ?_
      unfold Builtin.List.listItems
      refine wpAny_bind (wpAny_seqItems hS rfl (wpAny_pure ?_))
      show wpAny _ _ (updateSeq h'.objs.size (fun _ => #[]) >>= fun _ => letGo (#[] : Array Value).toList.reverse >>= fun _ => Builtin.List.listExtendWith (.ref h'.objs.size) (.ref (n + 4)) .none) _ _ _
      refine wpAny_bind (wpAny_updateSeq hS rfl ?_)
      have I4 := I3.lset (f := fun _ => #[]) (its := []) (its' := []) (ys := []) (t' := s1.toks) upd_same hS rfl .nil (Nat.zero_le _)
      rw [upd_upd] at I4
      refine wpAny_bind (wpAny_letGo ?_)
      have hgt : ∀ c : Nat, c < n + 5 → c ≠ h'.objs.size := fun c hc => Nat.ne_of_lt (by rw [hsz]; exact hc)
      have nq : h'.objs.size ∉ (n + 4) :: (n + 2) :: (n + 3) :: [n, a] ++ [n + 1, b] := by
        intro hb
        simp only [List.mem_cons, List.mem_append, List.cons_append, List.nil_append, List.not_mem_nil, or_false] at hb
        rcases hb with e | e | e | e | e | e | e
        · exact hgt (n + 4) (by omega) e.symm
        · exact hgt (n + 2) (by omega) e.symm
        · exact hgt (n + 3) (by omega) e.symm
        · exact hgt n (by omega) e.symm
        · exact hgt a (Nat.lt_of_lt_of_le lta (Nat.le_add_right _ _)) e.symm
        · exact hgt (n + 1) (by omega) e.symm
        · exact hgt b (Nat.lt_of_lt_of_le ltb (Nat.le_add_right _ _)) e.symm
      have st2 := st.keep (h' := h'.push { cls := .type "list", data := .seq #[] }) S1 S2 (fun b hb o e => Heap.get?_push_of_some _ e) (fun b o e => ⟨o, Heap.get?_push_of_some _ e⟩)
      have sbu : ∀ (h0 : Heap) f, Heap.SameBut h'.objs.size h0 (h0.update h'.objs.size (Obj.mapSeq f)) := fun h0 f => Heap.SameBut.update ..
      have upk : ∀ {h0 : Heap} {f : Array Value → Array Value} {zz kk}, h0.get? h'.objs.size = some { cls := .type "list", data := .seq zz kk } → ZAt (n + 4) (n + 2) (n + 3) n (n + 1) (fun k h => h.IsTupleIter n a k ∧ h.IsTuple a its.toArray) (fun k h => h.IsListIter (n + 1) b k ∧ h.IsList b its2.toArray) 0 h0 →
          ZAt (n + 4) (n + 2) (n + 3) n (n + 1) (fun k h => h.IsTupleIter n a k ∧ h.IsTuple a its.toArray) (fun k h => h.IsListIter (n + 1) b k ∧ h.IsList b its2.toArray) 0 (h0.update h'.objs.size (Obj.mapSeq f)) := fun {h0 f zz kk} e0 z0 =>
        z0.keep S1 S2 (fun b hb o e => (sbu h0 f).extBut b o (fun w => nq (w ▸ hb)) e) fun b o e => by
          by_cases eb : b = h'.objs.size
          · rw [eb]; exact ⟨_, Heap.get?_update_self _ e0 rfl⟩
          · exact ⟨o, (sbu h0 f).extBut b o eb e⟩
      have st3 := upk (f := fun _ => #[]) hS st2
      have hT : ({ s1 with heap := (h'.push { cls := .type "list", data := .seq #[] }).update h'.objs.size (Obj.mapSeq fun _ => (#[] : Array Value)) } : Shared).TypeIs (.ref (n + 4)) "zip" := by
        obtain ⟨_, _, _, _, hz'⟩ := id st3
        rcases hz' with hz' | ⟨T, f, oT, hz', _⟩ <;> exact ⟨_, hz', rfl⟩
      have ne : Builtin.List.listSameRef (.ref h'.objs.size) (.ref (n + 4)) = false := by
        have := hgt (n + 4) (by omega)
        simp [Builtin.List.listSameRef, Ne.symm this]
      unfold Builtin.List.listExtendWith
      refine wpAny_bind (wpAny_typeOf hT ?_)
      rw [if_neg (by rw [ne]; decide)]
      have hzz : ∃ f0, IsZip ((h'.push { cls := .type "list", data := .seq #[] }).update h'.objs.size (Obj.mapSeq fun _ => (#[] : Array Value))) (n + 4) (n + 2) (n + 3) f0 := by
        refine ⟨.none, (sbu _ _).extBut _ _ (hgt (n + 4) (by omega)) (Heap.get?_push_of_some _ hz)⟩
      obtain ⟨f0, hzz⟩ := hzz
      refine wpAny_bind (wpAny_pyIter_zip (s := { s1 with heap := _ }) hzz ?_)
      refine wpAny_bind (wpAny_holding ?_)
      unfold Builtin.List.listLengthHint
      refine wpAny_bind (wpAny_specialOf hT nolen_zip ?_)
      show wpAny _ _ (specialOf (Value.ref (n + 4)) (Str.ofString "__length_hint__") >>= _) _ _ _
      refine wpAny_bind (wpAny_specialOf hT nohint_zip ?_)
      refine wpAny_pure ?_
      rw [if_pos (by rfl)]
      refine wpAny_bind (wpAny_rule ?_)
      refine wpAny_bind ?_
      show wpAny _ _ (updateSeq h'.objs.size (·.push .none) >>= fun _ => updateSeq h'.objs.size (·.pop)) _ _ _
      generalize hG : h'.objs.size = q at *
      obtain ⟨z3, its3, k3, r3, hl3, e3⟩ := I4.lstM upd_same
      cases r3
      refine wpAny_bind (wpAny_updateSeq e3 rfl ?_)
      have I5 := I4.lset (f := (·.push Value.none)) (its' := [Value.none]) (ys := [.non]) (t' := s1.toks) upd_same e3 (by simp) (.cons rfl .nil) (by rw [List.length_singleton, sizeLine_eq]; decide)
      have st4 := upk (f := (·.push Value.none)) e3 st3
      rw [upd_upd] at I5
      obtain ⟨z4, its4, k4, r4, hl4, e4⟩ := I5.lstM upd_same
      obtain ⟨u4, rfl, ru4⟩ := r4.one
      refine wpAny_updateSeq e4 rfl ?_ (by show 1 ≤ sizeLine; rw [sizeLine_eq]; decide) (by show 0 ≤ sizeLine + 1; exact Nat.zero_le _)
      have I6 := I5.lset (f := (·.pop)) (its := [u4]) (its' := []) (ys := []) (t' := s1.toks) upd_same e4 (by rfl) .nil (Nat.zero_le _)
      have st5 := upk (f := (·.pop)) e4 st4
      rw [upd_upd] at I6
      have ff : ∀ c, s1.heap.objs.size ≤ c → FpOk X pins H1 c := fun c hle => I1.fpOk hle (I1.hok.fresh hle)
      rw [en] at ff
      have fok : ∀ c ∈ [n + 4, n + 3, n, n + 1], FpOk X pins H1 c := fun c hcm => by
        have e' : c = n + 4 ∨ c = n + 3 ∨ c = n ∨ c = n + 1 := by simpa using hcm
        rcases e' with w | w | w | w <;> rw [w] <;> exact ff _ (by first | exact Nat.le_refl _ | exact Nat.le_add_right _ _)
      refine wpAny_pure ⟨plainId_quiet PySem.F.plain_extend_loop _, zl_loop (A1 := X.A.in1) (vx := xs) (vy := ys) (I1.ok.hd hc) S1 S2 D hz1 rv rv2 fok nq (fun ts H' s2 np eq I7 => ⟨rfl, .ref q, _, I7, rfl, qq q ts H' fr np (by rw [eq]; exact fr)⟩) _ 0 _ [] H1 rfl (Nat.zero_le _) .nil rfl I6 st5 fun c hcm => (fok c hcm).1⟩
theorem newps_rp {K : PySem.W.Frag} {H H' : Hp} {ps : List (V × V)} {ts : List V} (np : NewPs H ps ts H') : ∀ (G : Hp) (_ : Ex G H) (dd : List (D × D)), dd.length = ps.length →
    (∀ (i : Nat) p d, ps[i]? = some p → dd[i]? = some d → Rp K G p.1 d.1 ∧ Rp K G p.2 d.2) → ∃ G', Go G H G' H' ∧ RpA K G' ts (dd.map fun d => .tup [d.1, d.2]) := by
  induction np with
  | nil =>
    intro G gh dd hl _
    cases dd with
    | nil => exact ⟨G, Go.refl gh, .nil⟩
    | cons _ _ => cases hl
  | @more ps ts H' T x y np hT ih =>
    intro G gh dd hl hd
    rcases List.eq_nil_or_concat dd with rfl | ⟨d0, d, rfl⟩
    · rw [List.length_append] at hl; exact absurd hl (by simp)
    · have l0 : d0.length = ps.length := by simpa using hl
      obtain ⟨G', g, r⟩ := ih G gh d0 l0 fun i p e hp he => by
        have i1 := (List.getElem?_eq_some_iff.mp hp).1
        refine hd i p e ?_ ?_
        · rw [List.getElem?_append_left i1]; exact hp
        · rw [List.concat_eq_append, List.getElem?_append_left (by omega)]; exact he
      obtain ⟨a, b⟩ := hd ps.length (x, y) d (by rw [List.getElem?_append_right (Nat.le_refl _), Nat.sub_self]; rfl) (by rw [List.concat_eq_append, ← l0, List.getElem?_append_right (Nat.le_refl _), Nat.sub_self]; rfl)
      have n := Go.new (o := .tup [x, y]) g.gh hT
      refine ⟨_, g.trans n, ?_⟩
      rw [List.concat_eq_append, List.map_append]
      have e1 := g.gg.trans n.gg
      exact (r.mono n.gg).append (.cons (.tup (.inl (.inl upd_same)) (.cons (a.mono e1) (.cons (b.mono e1) .nil))) .nil)
theorem en_lstZip {K : PySem.W.Frag} {ta : TA} {ρ : Rho} {ds es : List D} (h : EvS K ta ρ [.tup ds, .lst es]) : EvN K (tLstZip K ta) ρ (zipD ds es) := fun G0 H0 G H σ Q s k =>
  h G0 H0 G H σ _ s fun vs G1 H1 g1 r1 => by
    cases r1 with
    | cons r1 r2 =>
      cases r2 with
      | cons r2 r3 =>
        cases r3
        cases r1 with
        | tup hx ra =>
          cases r2 with
          | lst hy rb =>
            refine ⟨_, _, _, _, rfl, ex_t g1.gh hx, ex_l g1.gh hy, fun q ts H' hq np hq' => ?_⟩
            obtain ⟨G', g, r⟩ := newps_rp np G1 g1.gh (ds.zip es) (by rw [List.length_zip, List.length_zip, ra.length, rb.length]) fun i p d hp hd => by
              obtain ⟨p1, p2⟩ := p
              obtain ⟨d1, d2⟩ := d
              obtain ⟨a1, a2⟩ := List.getElem?_zip_eq_some.mp hp
              obtain ⟨b1, b2⟩ := List.getElem?_zip_eq_some.mp hd
              obtain ⟨w1, c1, r1⟩ := ra.get b1
              obtain ⟨w2, c2, r2⟩ := rb.get b2
              rw [c1] at a1
              rw [c2] at a2
              cases a1
              cases a2
              exact ⟨r1, r2⟩
            exact k q ts G' H' (g1.trans g) hq' r
end
end Ax

namespace Ax
open PySem PySem.Spec PyProof.Rows L2 Evl
/-! ### deep data within a tuple or a list -/
def rInD (K : PySem.W.Frag) : R2 := fun x y H Q => ∃ d es, Dp K H x d ∧ (Dp K H y (.tuple es) ∨ Dp K H y (.list es)) ∧ PyData.canLay0 d = true ∧ d.depth ≤ 60 ∧ PyData.canLayAll0 es = true ∧ Q (.bl (es.any fun e => PyData.eqv e d)) H
theorem op_inD {X : Cx} (hu : X.A.units + 64 < cLine) : OpR X (compareOp .In) (rInD X.K) := by
  intro pins s σ H x y v u Q I rx ry h
  obtain ⟨d, es, hd, he, ld, dd, le, q⟩ := h
  obtain ⟨as, r1⟩ := Dp.reads I d x v hd rx
  have room : X.A.units + 1 + min (PyData.depthAll es) d.depth < cLine := by
    have := Nat.min_le_right (PyData.depthAll es) d.depth
    omega
  rcases he with he | he
  · obtain ⟨bs, r2⟩ := Dp.reads I _ y u he ry
    exact SeqAt.in_tuple_reads r2 r1 le ld room ⟨.bl _, H, I, rfl, q⟩
  · obtain ⟨bs, r2⟩ := Dp.reads I _ y u he ry
    exact SeqAt.in_list_reads r2 r1 le ld room ⟨.bl _, H, I, rfl, q⟩
theorem pys_any (a : D) : ∀ bs : List D, ((D.pys bs).any fun e => PyData.eqv e a.py) = bs.any fun b => eqD b a
  | [] => rfl
  | b :: bs => by
    show (PyData.eqv b.py a.py || (D.pys bs).any _) = (eqD b a || bs.any _)
    rw [pys_any a bs]; rfl
section
variable {K : PySem.W.Frag} {a : D} {bs : List D}
theorem rs_inD (ha : a.ok) (hb : D.shs bs = true) : RvS K (rInD K) a (.tup bs) (.bl (bs.any fun b => eqD b a)) := fun H x y Q rx ry k =>
  ⟨a.py, D.pys bs, rx.dp ha.1, .inl (ry.dp hb), D.lay a ha.1, by rw [D.pydep]; exact ha.2, D.lays bs hb, by rw [pys_any]; exact k _ fun G => .bl _⟩
theorem rs_inDL (ha : a.ok) (hb : D.shs bs = true) : RvS K (rInD K) a (.lst bs) (.bl (bs.any fun b => eqD b a)) := fun H x y Q rx ry k =>
  ⟨a.py, D.pys bs, rx.dp ha.1, .inr (ry.dp hb), D.lay a ha.1, by rw [D.pydep]; exact ha.2, D.lays bs hb, by rw [pys_any]; exact k _ fun G => .bl _⟩
end
end Ax

namespace Ax
open PySem PySem.Spec PyProof.Rows L2 Evl
local macro_rules | `(tactic| walk_at "side") => `(tactic| first | assumption | exact Nat.le_of_ble_eq_true rfl | omega | (unfold CMul; omega) | (unfold CDiv; omega) | (unfold CPow; decide) | decide)
local macro_rules | `(tactic| walk_at "ok") => `(tactic| first | exact ok_int _ | exact ok_bl _ | exact ok_non | assumption | (apply ok_str; first | assumption | decide +kernel))
local macro_rules | `(tactic| walk_at "rd") => `(tactic| first
  | exact RvS.toD rs_plusI
  | exact RvS.toD (rs_I0b (g := fun i j => decide (i < j)))
  | exact RvS.toD (rs_I0b (g := fun i j => decide (i ≤ j)))
  | exact RvS.toD (rs_I0b (g := fun i j => decide (j < i)))
  | exact RvS.toD (rs_I0b (g := fun i j => decide (j ≤ i)))
  | exact RvS.toD (rs_I0 (g := fun i j => i - j))
  | (refine RvS.toD (rs_I (g := fun i j => i * j) ?_); walk_at "side")
  | (refine RvS.toD (rs_I (g := fun i j => i % j) ?_); walk_at "side")
  | (refine RvS.toD (rs_I (g := fun i j => i / j) ?_); walk_at "side")
  | (refine RvS.toD (rs_I (g := fun i j => i ^ j.toNat) ?_); walk_at "side")
  | (refine RvS.toD (rs_plusS ?_); walk_at "side")
  | (apply rd_plusT; walk_at "side"))
local macro_rules | `(tactic| walk_at "spec") => `(tactic| (apply RNum.mk; walk_at "side"))
local macro_rules | `(tactic| walk_at "cb") => `(tactic| first | exact rs_int1 | exact rs_intB | exact rs_lenL | exact rs_lenT | (apply rs_lenS; walk_at "side") | exact rs_sum | exact rs_max2 | exact isi_int_int | exact isi_int_bool | exact isi_bl_bool | exact isi_bl_int | exact isi_tup_tup | exact isi_lst_tup)
local macro_rules | `(tactic| walk_at "es") => `(tactic| first | exact es_nil | (apply es_cons; (walk_at "ev"); (walk_at "es")))
local macro_rules | `(tactic| walk_at "er") => `(tactic| first | exact er_nil | (apply er_cons; (walk_at "rr"); (walk_at "er")))
local macro_rules | `(tactic| walk_at "rr") => `(tactic| first | exact ev_vo rfl | (apply EvD.rd; walk_at "ev"))
local macro_rules | `(tactic| walk_at "ev") => `(tactic| first
  | exact ev_v rfl
  | exact ev_ci | exact ev_cs | exact ev_cb | exact ev_cn
  | (apply ev_eqE; (walk_at "rr"); (walk_at "rr"); (walk_at "ok"); (walk_at "ok"))
  | (apply ev_neE; (walk_at "rr"); (walk_at "rr"); (walk_at "ok"); (walk_at "ok"))
  | (apply ev_op; (walk_at "ev"); (walk_at "ev"); (walk_at "rd"))
  | (apply ev_cbS; (walk_at "er"); (walk_at "cb"))
  | (apply ev_call; (walk_at "es"); exact rfl; (walk_at "spec"))
  | (apply ev_callR; (walk_at "er"); exact rfl; (walk_at "spec"); exact rfl)
  | (apply ev_neg; (walk_at "ev"))
  | (apply ev_tup; (walk_at "es"); (walk_at "side"))
  | (apply ev_andV; (walk_at "ev"); (intro _; walk_at "ev"))
  | (apply ev_orV; (walk_at "ev"); (intro _; walk_at "ev"))
  | (apply ev_notV; (walk_at "ev"))
  | (apply EvN.dt; (walk_at "en"))
  | (apply ev_chainI; (walk_at "ev"); (walk_at "ev"); (walk_at "ev"))
  | (apply ev_cbD; (walk_at "es"); first | exact rd_tupL | exact rd_tupT)
  | exact ev_tupO rfl
  | exact ev_cc)
local macro_rules | `(tactic| walk_at "eb") => `(tactic| first
  | (apply eb_and; (walk_at "eb"); (intro _; walk_at "eb"))
  | (apply eb_or; (walk_at "eb"); (intro _; walk_at "eb"))
  | (apply eb_not; (walk_at "eb"))
  | (apply eb_test; (walk_at "ev"))
  | (apply eb_B; (walk_at "ev")))
local macro_rules | `(tactic| walk_at "asg") => `(tactic| (apply sd_seq; apply sd_asg; (walk_at "ev"); dsimp only [List.set]))
local macro_rules | `(tactic| walk_at "en") => `(tactic| first
  | (apply en_lst; (walk_at "es"); (walk_at "side"))
  | exact en_lstO rfl
  | (apply en_cb; (walk_at "es"); first | exact rn_lstL | exact rn_lstT))
local macro_rules | `(tactic| walk_at "asgN") => `(tactic| (apply sd_seq; apply sd_asgN; (walk_at "en"); dsimp only [List.set]))
local macro_rules | `(tactic| walk_at "le") => `(tactic| first | exact LeR.nil | (apply LeR.c1; walk_at "le") | (apply LeR.c0; walk_at "le"))
local macro_rules | `(tactic| walk_at "look") => `(tactic| first | exact look_hd | (rw [look_tl (by decide +kernel)]; walk_at "look"))
local macro_rules | `(tactic| walk_at "xasg") => `(tactic| (apply stx_seq; apply sd_asg; (walk_at "ev"); dsimp only [List.set]))
local macro_rules | `(tactic| walk_at "nasg") => `(tactic| (apply stxn_seq; apply sd_asg; (walk_at "ev"); dsimp only [List.set]))


local macro_rules | `(tactic| walk_at "rd") => `(tactic| first | (apply rd_ixT; exact rfl) | (apply rd_ixL; exact rfl))

def top (i : Nat) : Stmt := PySem.Challenge.pw_armedexits_k11_program_redirected.main.body.getD i (.Pass ⟨0, 0, 0, 0⟩)
structure Txt (mg : Str → Option Value) : Prop where
  n_len : mg "len" = none
  n_int : mg "int" = none
  n_sum : mg "sum" = none
  n_isinstance : mg "isinstance" = none
  n_bool : mg "bool" = none
  n_range : mg "range" = none
  n_tuple : mg "tuple" = none
  n_all : mg "all" = none
  n_any : mg "any" = none
  n_enumerate : mg "enumerate" = none
  n_list : mg "list" = none
  n_zip : mg "zip" = none

theorem fl : ¬ (("last" : Str) = "first") := by decide +kernel
theorem lf : ¬ (("first" : Str) = "last") := by decide +kernel
abbrev strF (a b : Int) : List (Str × D) := [("first", .int a), ("last", .int b)]
abbrev strD (C : Addr) (a b : Int) : D := .ins C (strF a b)
def RInit (ds : List D) (fs : List (Str × D)) : Prop := ∃ a b : Int, ds = [.int a, .int b] ∧ fs = strF a b
def RCmpV (C : Addr) (g : Int → Int → Int → Int → Bool) (ds : List D) (d : D) : Prop := ∃ a b c e : Int, ds = [strD C a b, strD C c e] ∧ d = .bl (g a b c e)
def gEq (a b c e : Int) : Bool := (a == c) && (b == e)
def gLe (a b c e : Int) : Bool := decide (c ≤ a) && decide (b ≤ e)
def gGe (a b c e : Int) : Bool := decide (a ≤ c) && decide (e ≤ b)
def gLt (a b c e : Int) : Bool := gLe a b c e && !gEq a b c e
def gGt (a b c e : Int) : Bool := gGe a b c e && !gEq a b c e
def APair (ds : List D) : Prop := ∃ ns : List Int, ds = [scr ns]
def RPair (ds : List D) (d : D) : Prop := ∃ a b c e : Int, d = .lst [.int a, .int b, .int c, .int e]

def mkS (l : List Nat) : Str := ⟨l.toArray⟩
theorem mkS_app (a b : List Nat) : mkS a ++ mkS b = mkS (a ++ b) := by
  show Str.mk (a.toArray ++ b.toArray) = Str.mk (a ++ b).toArray
  rw [List.append_toArray]
theorem mkS_len (a : List Nat) : (mkS a).length = a.length := List.size_toArray ..
theorem mkS_nil : ("" : Str) = mkS [] := by decide +kernel
theorem alpha_is : ("abcdefghijklmnopqrstuvwxyz" : Str).cps.toList = (List.range 26).map (fun i => 97 + i) := by decide +kernel
def letF (n : Int) (k : Nat) : Nat := 97 + (n / 26 ^ k % 26).toNat
def wordL (n : Int) (s : Nat) : List Nat := (List.range s).map (letF n)
theorem wordL_len (n : Int) (s : Nat) : (wordL n s).length = s := by unfold wordL; rw [List.length_map, List.length_range]
theorem wordL_succ (n : Int) (s : Nat) : wordL n (s + 1) = wordL n s ++ [letF n s] := by unfold wordL; rw [List.range_succ, List.map_append]; rfl
def wordF (n : Int) : Str := mkS (wordL (n / 12) (1 + n % 12).toNat)
def RWord (ds : List D) (d : D) : Prop := ∃ n : Int, ds = [.int n] ∧ 0 ≤ n ∧ d = .str (wordF n)
theorem ix_alpha {K : PySem.W.Frag} {i : Int} (h0 : 0 ≤ i) (h1 : i < 26) : RvS K (rIx K) (.str ("abcdefghijklmnopqrstuvwxyz" : Str)) (.int i) (.str (mkS [97 + i.toNat])) :=
  rs_ixS (by decide +kernel) (atI_of h0 (by rw [alpha_is, List.getElem?_map, List.getElem?_range (by omega)]; rfl))
theorem ediv_pow (n : Int) (k : Nat) : n / 26 ^ k / 26 = n / 26 ^ (k + 1) := by
  rw [Int.ediv_ediv_of_nonneg (Int.pow_nonneg (by decide)), Int.pow_succ]
def menuC (n : Int) (menu : Str) : Nat := menu.cps.toList.getD (n % (menu.length : Int)).toNat 0
def someF (n : Int) (menu : Str) : Str := if 10 ^ 9 ≤ n then wordF (n - 10 ^ 9) else mkS [menuC n menu]
def RSome (ds : List D) (d : D) : Prop := ∃ (n : Int) (menu : Str), ds = [.int n, .str menu] ∧ 0 ≤ n ∧ 0 < menu.length ∧ menu.length ≤ 1000 ∧ d = .str (someF n menu)
inductive Q where
  | perf (f l : Int) | ift (w : Str) (t : Int) | go (t : Int) | act (w : Str) | stop
def Q.d : Q → D
  | .perf f l => .tup [.str "perform", .int f, .int l]
  | .ift w t => .tup [.str "if", .str w, .int t]
  | .go t => .tup [.str "go", .int t]
  | .act w => .tup [.str "act", .str w]
  | .stop => .tup [.str "stop"]
def drawnQ (n c : Int) : Q :=
  if n % 9 < 3 then .perf (n / 9 % c) (n / 9 % c + n / 9 / c % (c - n / 9 % c))
  else if n % 9 < 5 then .ift (someF (n / 9 / (c + 1)) "pqrs") (n / 9 % (c + 1) - 1)
  else if n % 9 = 5 then .go (n / 9 % (c + 1) - 1)
  else if n % 9 < 8 then .act (someF (n / 9) "vwxyz")
  else .stop
def RDrawn (ds : List D) (d : D) : Prop := ∃ n c : Int, ds = [.int n, .int c] ∧ 0 ≤ n ∧ 1 ≤ c ∧ c ≤ 8 ∧ d = (drawnQ n c).d
def Letter (c : Nat) : Prop := 97 ≤ c ∧ c ≤ 122
def NameOk (w : Str) : Prop := 1 ≤ w.length ∧ w.length ≤ 12 ∧ ∀ c ∈ w.cps.toList, Letter c
theorem wordF_ok {n : Int} (h : 0 ≤ n) : NameOk (wordF n) := by
  have h1 : 0 ≤ n % 12 := Int.emod_nonneg _ (by decide)
  have h2 : n % 12 < 12 := Int.emod_lt_of_pos _ (by decide)
  unfold wordF
  refine ⟨by rw [mkS_len, wordL_len]; omega, by rw [mkS_len, wordL_len]; omega, fun c hc => ?_⟩
  have hc : c ∈ wordL (n / 12) (1 + n % 12).toNat := by simpa [mkS] using hc
  unfold wordL at hc
  obtain ⟨k, _, rfl⟩ := List.mem_map.mp hc
  have h3 : 0 ≤ n / 12 / 26 ^ k % 26 := Int.emod_nonneg _ (by decide)
  have h4 : n / 12 / 26 ^ k % 26 < 26 := Int.emod_lt_of_pos _ (by decide)
  unfold letF Letter
  omega
theorem someF_ok {n : Int} {menu : Str} (h : 0 ≤ n) (hm : 0 < menu.length) (hl : ∀ c ∈ menu.cps.toList, Letter c) : NameOk (someF n menu) := by
  unfold someF
  by_cases q : 10 ^ 9 ≤ n
  · rw [if_pos q]; exact wordF_ok (by omega)
  · rw [if_neg q]
    refine ⟨by rw [mkS_len, List.length_singleton]; omega, by rw [mkS_len, List.length_singleton]; omega, fun c hc => ?_⟩
    have hc : c = menuC n menu := by simpa [mkS] using hc
    subst hc
    have e1 : 0 ≤ n % (menu.length : Int) := Int.emod_nonneg _ (by omega)
    have e2 : n % (menu.length : Int) < (menu.length : Int) := Int.emod_lt_of_pos _ (by omega)
    have z2 : (n % (menu.length : Int)).toNat < menu.cps.toList.length := by rw [Array.length_toList]; show _ < menu.length; omega
    refine hl _ ?_
    unfold menuC
    rw [List.getD_eq_getElem?_getD, List.getElem?_eq_getElem z2]
    exact List.getElem_mem z2
def Q.okc (c : Int) : Q → Prop
  | .perf f l => 0 ≤ f ∧ f ≤ l ∧ l < c
  | .ift w t => NameOk w ∧ -1 ≤ t ∧ t < c
  | .go t => -1 ≤ t ∧ t < c
  | .act w => NameOk w
  | .stop => True
def Q.isP : Q → Bool
  | .perf _ _ => true
  | _ => false
def Q.isJ : Q → Bool
  | .ift _ _ => true
  | .go _ => true
  | _ => false
theorem pqrs_ok : ∀ c ∈ ("pqrs" : Str).cps.toList, Letter c := by
  have e : ("pqrs" : Str).cps.toList = [112, 113, 114, 115] := by decide +kernel
  rw [e]; unfold Letter; decide
theorem vwxyz_ok : ∀ c ∈ ("vwxyz" : Str).cps.toList, Letter c := by
  have e : ("vwxyz" : Str).cps.toList = [118, 119, 120, 121, 122] := by decide +kernel
  rw [e]; unfold Letter; decide
theorem z_ok : NameOk "z" := by
  refine ⟨by decide +kernel, by decide +kernel, ?_⟩
  have e : ("z" : Str).cps.toList = [122] := by decide +kernel
  rw [e]; unfold Letter; decide
theorem drawnQ_ok {n c : Int} (hn : 0 ≤ n) (hc : 1 ≤ c) : (drawnQ n c).okc c := by
  unfold drawnQ
  have m0 : 0 ≤ n / 9 := Int.ediv_nonneg hn (by decide)
  generalize n / 9 = m at m0 ⊢
  have a1 : 0 ≤ m % c := Int.emod_nonneg _ (by omega)
  have a2 : m % c < c := Int.emod_lt_of_pos _ (by omega)
  have b1 : 0 ≤ m % (c + 1) := Int.emod_nonneg _ (by omega)
  have b2 : m % (c + 1) < c + 1 := Int.emod_lt_of_pos _ (by omega)
  have c1 : 0 ≤ m / c % (c - m % c) := Int.emod_nonneg _ (by omega)
  have c2 : m / c % (c - m % c) < c - m % c := Int.emod_lt_of_pos _ (by omega)
  split
  · show _ ∧ _ ∧ _; omega
  split
  · exact ⟨someF_ok (Int.ediv_nonneg m0 (by omega)) (by decide +kernel) pqrs_ok, by omega, by omega⟩
  split
  · show _ ∧ _; omega
  split
  · exact someF_ok m0 (by decide +kernel) vwxyz_ok
  trivial
def fitQ (q : Q) (a b : Int) : Q × Int × Int := match q with
  | .perf f l => (if a - 1 < 0 then .act "z" else .perf f l, a - 1, b)
  | .ift w t => (if b - 1 < 0 then .act "z" else .ift w t, a, b - 1)
  | .go t => (if b - 1 < 0 then .act "z" else .go t, a, b - 1)
  | .act w => (.act w, a, b)
  | .stop => (.stop, a, b)
structure BI (c : Int) (bs : List (List Q)) (x : List Q) (a b : Int) : Prop where
  old : ∀ y ∈ bs, y.length ≤ 4 ∧ ∀ q ∈ y, q.okc c
  new : ∀ q ∈ x, q.okc c
  p : (((bs.flatten ++ x).countP Q.isP : Nat) : Int) + max a 0 ≤ 4
  j : (((bs.flatten ++ x).countP Q.isJ : Nat) : Int) + max b 0 ≤ 6
theorem BI.fit {c a b : Int} {bs : List (List Q)} {x : List Q} {q : Q} (h : BI c bs x a b) (hq : q.okc c) : BI c bs (x ++ [(fitQ q a b).1]) (fitQ q a b).2.1 (fitQ q a b).2.2 := by
  have hp := h.p
  have hj := h.j
  have app : ∀ (r : Q) (f : Q → Bool), (bs.flatten ++ (x ++ [r])).countP f = (bs.flatten ++ x).countP f + (f r).toNat := fun r f => by
    rw [← List.append_assoc, List.countP_append, List.countP_cons, List.countP_nil, Nat.zero_add]
    cases f r <;> rfl
  have zp : Q.isP (.act "z") = false := rfl
  have zj : Q.isJ (.act "z") = false := rfl
  refine ⟨h.old, fun r hr => ?_, ?_, ?_⟩
  · rcases List.mem_append.mp hr with hr | hr
    · exact h.new r hr
    · rw [List.mem_singleton.mp hr]
      cases q <;> simp only [fitQ] <;> first | exact hq | (split <;> first | exact z_ok | exact hq)
  · rw [app]
    cases q with
    | perf f l =>
      show (((bs.flatten ++ x).countP Q.isP + (Q.isP (if a - 1 < 0 then .act "z" else .perf f l)).toNat : Nat) : Int) + max (a - 1) 0 ≤ 4
      by_cases z : a - 1 < 0
      · rw [if_pos z, zp]; simp only [Bool.toNat_false]; omega
      · rw [if_neg z, show Q.isP (.perf f l) = true from rfl]; simp only [Bool.toNat_true]; omega
    | ift w t =>
      show (((bs.flatten ++ x).countP Q.isP + (Q.isP (if b - 1 < 0 then .act "z" else .ift w t)).toNat : Nat) : Int) + max a 0 ≤ 4
      rw [show Q.isP (if b - 1 < 0 then .act "z" else .ift w t) = false by split <;> rfl]; simp only [Bool.toNat_false]; omega
    | go t =>
      show (((bs.flatten ++ x).countP Q.isP + (Q.isP (if b - 1 < 0 then .act "z" else .go t)).toNat : Nat) : Int) + max a 0 ≤ 4
      rw [show Q.isP (if b - 1 < 0 then .act "z" else .go t) = false by split <;> rfl]; simp only [Bool.toNat_false]; omega
    | act w =>
      show (((bs.flatten ++ x).countP Q.isP + 0 : Nat) : Int) + max a 0 ≤ 4
      omega
    | stop =>
      show (((bs.flatten ++ x).countP Q.isP + 0 : Nat) : Int) + max a 0 ≤ 4
      omega
  · rw [app]
    cases q with
    | perf f l =>
      show (((bs.flatten ++ x).countP Q.isJ + (Q.isJ (if a - 1 < 0 then .act "z" else .perf f l)).toNat : Nat) : Int) + max b 0 ≤ 6
      rw [show Q.isJ (if a - 1 < 0 then .act "z" else .perf f l) = false by split <;> rfl]; simp only [Bool.toNat_false]; omega
    | ift w t =>
      show (((bs.flatten ++ x).countP Q.isJ + (Q.isJ (if b - 1 < 0 then .act "z" else .ift w t)).toNat : Nat) : Int) + max (b - 1) 0 ≤ 6
      by_cases z : b - 1 < 0
      · rw [if_pos z, zj]; simp only [Bool.toNat_false]; omega
      · rw [if_neg z, show Q.isJ (.ift w t) = true from rfl]; simp only [Bool.toNat_true]; omega
    | go t =>
      show (((bs.flatten ++ x).countP Q.isJ + (Q.isJ (if b - 1 < 0 then .act "z" else .go t)).toNat : Nat) : Int) + max (b - 1) 0 ≤ 6
      by_cases z : b - 1 < 0
      · rw [if_pos z, zj]; simp only [Bool.toNat_false]; omega
      · rw [if_neg z, show Q.isJ (.go t) = true from rfl]; simp only [Bool.toNat_true]; omega
    | act w =>
      show (((bs.flatten ++ x).countP Q.isJ + 0 : Nat) : Int) + max b 0 ≤ 6
      omega
    | stop =>
      show (((bs.flatten ++ x).countP Q.isJ + 0 : Nat) : Int) + max b 0 ≤ 6
      omega
theorem BI.close {c a b : Int} {bs : List (List Q)} {x : List Q} (h : BI c bs x a b) (hl : x.length ≤ 4) : BI c (bs ++ [x]) [] a b := by
  have e : (bs ++ [x]).flatten ++ [] = bs.flatten ++ x := by rw [List.append_nil, List.flatten_append]; simp
  refine ⟨fun y hy => ?_, (fun _ z => nomatch z), (by rw [e]; exact h.p), (by rw [e]; exact h.j)⟩
  rcases List.mem_append.mp hy with hy | hy
  · exact h.old y hy
  · rw [List.mem_singleton.mp hy]; exact ⟨hl, h.new⟩
abbrev qsD (x : List Q) : List D := x.map Q.d
abbrev bodD (bs : List (List Q)) : List D := bs.map fun x => .lst (qsD x)
structure GoodB (bs : List (List Q)) : Prop where
  n1 : 1 ≤ bs.length
  n8 : bs.length ≤ 8
  each : ∀ y ∈ bs, y.length ≤ 4 ∧ ∀ q ∈ y, q.okc bs.length
  p : bs.flatten.countP Q.isP ≤ 4
  j : bs.flatten.countP Q.isJ ≤ 6
def ABod (ds : List D) : Prop := ∃ ns : List Int, ds = [scr ns]
def RBod (ds : List D) (d : D) : Prop := ∃ bs : List (List Q), GoodB bs ∧ d = .lst (bodD bs)
theorem cutS_to (L : List Nat) {i : Int} (h : 0 ≤ i) : cutS (mkS L) none (some i) = mkS (L.take i.toNat) := by
  obtain ⟨k, rfl⟩ := Int.eq_ofNat_of_zero_le h
  unfold cutS
  rw [HT.sIx_none, HT.sIx_nat, Int.toNat_natCast, List.drop_zero, Nat.sub_zero, mkS_len]
  show mkS _ = mkS _
  congr 1
  show List.take (min k L.length) L.toArray.toList = _
  rw [List.toList_toArray]
  by_cases q : k ≤ L.length
  · rw [Nat.min_eq_left q]
  · rw [Nat.min_eq_right (by omega), List.take_of_length_le (Nat.le_refl _), List.take_of_length_le (by omega)]
theorem cutS_from (L : List Nat) {i : Int} (h : 0 ≤ i) : cutS (mkS L) (some i) none = mkS (L.drop i.toNat) := by
  obtain ⟨k, rfl⟩ := Int.eq_ofNat_of_zero_le h
  unfold cutS
  rw [HT.sIx_none, HT.sIx_nat, Int.toNat_natCast, mkS_len]
  show mkS _ = mkS _
  congr 1
  show List.take (L.length - min k L.length) (List.drop (min k L.length) L.toArray.toList) = _
  rw [List.toList_toArray]
  by_cases q : k ≤ L.length
  · rw [Nat.min_eq_left q, List.take_of_length_le (by rw [List.length_drop]; omega)]
  · rw [Nat.min_eq_right (by omega), Nat.sub_self, List.take_zero, List.drop_of_length_le (by omega)]
def abcL : List Nat := (List.range 12).map fun i => 97 + i
theorem abc_is : ("abcdefghijkl" : Str) = mkS abcL := by decide +kernel
def baseL (sh : Int) : List Nat := (wordL (sh / 312 / 12) (1 + sh / 312 % 12).toNat).take 11
theorem baseL_ok {sh : Int} (h : 0 ≤ sh) : 1 ≤ (baseL sh).length ∧ (baseL sh).length ≤ 11 ∧ ∀ c ∈ baseL sh, Letter c := by
  have m0 : 0 ≤ sh / 312 := Int.ediv_nonneg h (by decide)
  have w := wordF_ok m0
  unfold wordF NameOk at w
  rw [mkS_len, wordL_len] at w
  refine ⟨by unfold baseL; rw [List.length_take, wordL_len]; omega, by unfold baseL; rw [List.length_take]; omega, fun c hc => w.2.2 c ?_⟩
  have := List.mem_of_mem_take hc
  simpa [mkS] using this
def nameL (B : List Nat) (sh : Int) (r : Nat → Int) (p : Nat) : List Nat :=
  if sh % 12 % 3 = 1 then (B ++ abcL).take (1 + ((p : Int) + sh % 12) % 12).toNat
  else (B.take (sh % 12).toNat ++ [97 + ((sh / 12 + 3 * (p : Int)) % 26).toNat]) ++ (B.drop (sh % 12).toNat).take (r p % 12).toNat
theorem abc_ok : ∀ c ∈ abcL, Letter c := by unfold Letter abcL; decide
theorem nameL_ok {B : List Nat} {sh : Int} {r : Nat → Int} (hB : 1 ≤ B.length ∧ B.length ≤ 11 ∧ ∀ c ∈ B, Letter c) (p : Nat) : NameOk (mkS (nameL B sh r p)) := by
  obtain ⟨b1, b2, b3⟩ := hB
  have q1 : 0 ≤ ((p : Int) + sh % 12) % 12 := Int.emod_nonneg _ (by decide)
  have q2 : ((p : Int) + sh % 12) % 12 < 12 := Int.emod_lt_of_pos _ (by decide)
  have q3 : 0 ≤ (sh / 12 + 3 * (p : Int)) % 26 := Int.emod_nonneg _ (by decide)
  have q4 : (sh / 12 + 3 * (p : Int)) % 26 < 26 := Int.emod_lt_of_pos _ (by decide)
  have la : abcL.length = 12 := rfl
  have key : (1 ≤ (nameL B sh r p).length ∧ (nameL B sh r p).length ≤ 12) ∧ ∀ c ∈ nameL B sh r p, Letter c := by
    unfold nameL
    split
    · refine ⟨by rw [List.length_take, List.length_append, la]; omega, fun c hc => ?_⟩
      rcases List.mem_append.mp (List.mem_of_mem_take hc) with z | z
      · exact b3 c z
      · exact abc_ok c z
    · refine ⟨by rw [List.length_append, List.length_append, List.length_take, List.length_take, List.length_drop, List.length_singleton]; omega, fun c hc => ?_⟩
      rcases List.mem_append.mp hc with z | z
      · rcases List.mem_append.mp z with z | z
        · exact b3 c (List.mem_of_mem_take z)
        · rw [List.mem_singleton.mp z]; unfold Letter; omega
      · exact b3 c (List.mem_of_mem_drop (List.mem_of_mem_take z))
  exact ⟨by rw [mkS_len]; exact key.1.1, by rw [mkS_len]; exact key.1.2, fun c hc => key.2 c (by simpa [mkS] using hc)⟩
theorem mkS_inj {a b : List Nat} (h : mkS a = mkS b) : a = b := by
  have := congrArg (fun z : Str => z.cps.toList) h
  simpa [mkS] using this
theorem nameL_ne {B : List Nat} {sh : Int} {r : Nat → Int} {p q : Nat} (hp : p < q) (hq : q < 8) : nameL B sh r p ≠ nameL B sh r q := by
  unfold nameL
  have la : abcL.length = 12 := rfl
  split
  · intro e
    have e := congrArg List.length e
    rw [List.length_take, List.length_take, List.length_append, la] at e
    have a1 : 0 ≤ sh % 12 := Int.emod_nonneg _ (by decide)
    have a2 : sh % 12 < 12 := Int.emod_lt_of_pos _ (by decide)
    generalize sh % 12 = a at a1 a2 e
    omega
  · intro e
    have e := (List.append_inj e (by simp)).1
    have e := (List.append_inj e rfl).2
    injection e with e
    generalize sh / 12 = a at e
    omega
structure GoodN (names : List Str) : Prop where
  ok : ∀ w ∈ names, NameOk w
  nd : names.Nodup
def ANam (ds : List D) : Prop := ∃ (ns : List Int) (c : Int), ds = [scr ns, .int c] ∧ 0 ≤ c ∧ c ≤ 8
def RNam (ds : List D) (d : D) : Prop := ∃ (ns : List Int) (c : Int) (names : List Str), ds = [scr ns, .int c] ∧ (names.length : Int) = c ∧ GoodN names ∧ d = .lst (sD names)
theorem names_good {B : List Nat} {sh : Int} {r : Nat → Int} {c : Nat} (hB : 1 ≤ B.length ∧ B.length ≤ 11 ∧ ∀ c ∈ B, Letter c) (hc : c ≤ 8) : GoodN ((List.range c).map fun p => mkS (nameL B sh r p)) := by
  refine ⟨fun w hw => ?_, ?_⟩
  · obtain ⟨p, _, rfl⟩ := List.mem_map.mp hw
    exact nameL_ok hB p
  · refine List.pairwise_map.mpr (List.Pairwise.imp_of_mem (fun {a b} ha hb hab e => ?_) List.pairwise_lt_range)
    exact nameL_ne hab (by have := List.mem_range.mp hb; omega) (mkS_inj e)
inductive Sm where
  | perf (f l : Str) | ift (w t : Str) | go (t : Str) | act (w : Str) | stop
def Sm.d : Sm → D
  | .perf f l => .tup [.str "perform", .str f, .str l]
  | .ift w t => .tup [.str "if", .str w, .str t]
  | .go t => .tup [.str "go", .str t]
  | .act w => .tup [.str "act", .str w]
  | .stop => .tup [.str "stop"]
def nth (names : List Str) (i : Int) : Str := names.getD i.toNat ""
def aimS (names : List Str) (t : Int) : Str := if 0 ≤ t then nth names t else ""
def nameQ (names : List Str) : Q → Sm
  | .perf f l => .perf (nth names f) (nth names l)
  | .ift w t => .ift w (aimS names t)
  | .go t => .go (aimS names t)
  | .act w => .act w
  | .stop => .stop
theorem nth_at {names : List Str} {i : Int} (h0 : 0 ≤ i) (h1 : i < names.length) : atI (sD names) i = some (.str (nth names i)) := by
  refine atI_of h0 ?_
  have h : i.toNat < names.length := by omega
  unfold nth sD
  rw [List.getElem?_map, List.getD_eq_getElem?_getD, List.getElem?_eq_getElem h]; rfl
def RNamed (ds : List D) (d : D) : Prop := ∃ (q : Q) (names : List Str), ds = [q.d, .lst (sD names)] ∧ q.okc names.length ∧ d = (nameQ names q).d
abbrev smD (x : List Sm) : List D := x.map Sm.d
def pD (x : Str × List Sm) : D := .tup [.str x.1, .lst (smD x.2)]
def prs (names : List Str) (bs : List (List Q)) : List (Str × List Sm) := (List.range bs.length).map fun i => (names.getD i "", (bs.getD i []).map (nameQ names))
structure OkB (names : List Str) (bs : List (List Q)) : Prop where
  le : bs.length ≤ names.length
  sm : bs.length ≤ 1000
  each : ∀ y ∈ bs, y.length ≤ 1000 ∧ ∀ q ∈ y, q.okc names.length
def RPara (ds : List D) (d : D) : Prop := ∃ (bs : List (List Q)) (names : List Str), ds = [.lst (bodD bs), .lst (sD names)] ∧ OkB names bs ∧ d = .lst ((prs names bs).map pD)
def nameB (w : Str) : Bool := decide (1 ≤ w.length) && decide (w.length ≤ 12) && w.cps.toList.all fun c => decide (97 ≤ c) && decide (c ≤ 122)
theorem nameB_ok {w : Str} (h : NameOk w) : nameB w = true := by
  unfold nameB
  rw [decide_eq_true h.1, decide_eq_true h.2.1, Bool.true_and, Bool.true_and, List.all_eq_true]
  intro c hc
  have := h.2.2 c hc
  rw [decide_eq_true this.1, decide_eq_true this.2]; rfl
def RIsName (ds : List D) (d : D) : Prop := ∃ w : Str, ds = [.str w] ∧ w.length ≤ 100000 ∧ d = .bl (nameB w)
def RChkWord (ds : List D) (d : D) : Prop := ∃ w : Str, ds = [.str w] ∧ NameOk w ∧ d = .non
def AimOk (names : List Str) (t : Str) : Prop := t = "" ∨ t ∈ names
def RChkAim (ds : List D) (d : D) : Prop := ∃ (names : List Str) (t : Str), ds = [.ptup (sD names), .str t] ∧ PyData.strOk t = true ∧ AimOk names t ∧ d = .non
/-- the place of a word: the first -/
def At (names : List Str) (w : Str) (j : Nat) : Prop := names[j]? = some w ∧ ∀ m, m < j → names[m]? ≠ some w
def RChkStr (ds : List D) (d : D) : Prop := ∃ (names : List Str) (f l : Str) (i j : Nat), ds = [.ptup (sD names), .str f, .str l] ∧ At names f i ∧ At names l j ∧ i ≤ j ∧ d = .non
def Sm.okn (names : List Str) : Sm → Prop
  | .perf f l => ∃ i j, At names f i ∧ At names l j ∧ i ≤ j
  | .ift w t => NameOk w ∧ PyData.strOk t = true ∧ AimOk names t
  | .go t => PyData.strOk t = true ∧ AimOk names t
  | .act w => NameOk w
  | .stop => True
def RChkSm (ds : List D) (d : D) : Prop := ∃ (names : List Str) (x : Sm), ds = [.ptup (sD names), x.d] ∧ x.okn names ∧ d = .non
def RChkNames (ds : List D) (d : D) : Prop := ∃ names : List Str, ds = [.ptup (sD names)] ∧ GoodN names ∧ names.length ≤ 1000 ∧ d = .non
abbrev sbD (bs : List (List Sm)) : List D := bs.map fun x => .tup (smD x)
def ptF (bs : List (List Sm)) (p k : Nat) : D := .tup [.tup [.int (p : Int), .int (k : Int)], ((bs.getD p []).getD k .stop).d]
def ptsD (bs : List (List Sm)) : List D := nest (fun _ => true) (fun p => pick (fun _ => true) (ptF bs p) (enumD (smD (bs.getD p []))).length) bs.length
structure FewS (bs : List (List Sm)) : Prop where
  n : bs.length ≤ 100
  each : ∀ y ∈ bs, y.length ≤ 100
def RWith (ds : List D) (d : D) : Prop := ∃ bs : List (List Sm), ds = [.tup (sbD bs)] ∧ FewS bs ∧ d = .lst (ptsD bs)
theorem FewS.at {bs : List (List Sm)} (h : FewS bs) (p : Nat) : (bs.getD p []).length ≤ 100 := by
  rw [List.getD_eq_getElem?_getD]
  cases q : bs[p]? with
  | none => exact Nat.zero_le _
  | some y => exact h.each y (List.mem_of_getElem? q)
theorem mem_pts {bs : List (List Sm)} {d : D} (h : d ∈ ptsD bs) : ∃ (p k : Nat) (y : List Sm) (x : Sm), bs[p]? = some y ∧ y[k]? = some x ∧ d = .tup [.tup [.int (p : Int), .int (k : Int)], x.d] := by
  obtain ⟨p, hp, _, h⟩ := mem_nest h
  obtain ⟨k, hk, _, rfl⟩ := mem_pick h
  have e : bs.getD p [] = bs[p] := getD_of (List.getElem?_eq_getElem hp)
  rw [enumD_len, List.length_map, e] at hk
  refine ⟨p, k, bs[p], bs[p][k], List.getElem?_eq_getElem hp, List.getElem?_eq_getElem hk, ?_⟩
  unfold ptF
  rw [e, getD_of (List.getElem?_eq_getElem hk)]
def Sm.word : Sm → Str
  | .perf _ _ => "perform" | .ift _ _ => "if" | .go _ => "go" | .act _ => "act" | .stop => "stop"
structure SizeOk (bs : List (List Sm)) : Prop where
  n1 : 1 ≤ bs.length
  n8 : bs.length ≤ 8
  each : ∀ y ∈ bs, y.length ≤ 4
  p : (bs.flatten.map Sm.word).count ("perform" : Str) ≤ 4
  j : (bs.flatten.map Sm.word).count ("go" : Str) + (bs.flatten.map Sm.word).count ("if" : Str) ≤ 6
def RChkSize (ds : List D) (d : D) : Prop := ∃ bs : List (List Sm), ds = [.tup (sbD bs)] ∧ SizeOk bs ∧ d = .non
theorem ix_word {K : PySem.W.Frag} (x : Sm) : RvD K (rIx K) x.d (.int 0) (.str x.word) := by
  cases x <;> exact rd_ixT (atI_of (by decide) rfl)
theorem nb : ¬ (("bodies" : Str) = "names") := by decide +kernel
theorem bn : ¬ (("names" : Str) = "bodies") := by decide +kernel
abbrev progF (names : List Str) (bs : List (List Sm)) : List (Str × D) := [("names", .ptup (sD names)), ("bodies", .tup (sbD bs))]
abbrev progD (C : Addr) (names : List Str) (bs : List (List Sm)) : D := .ins C (progF names bs)
structure PrgOk (names : List Str) (bs : List (List Sm)) : Prop where
  len : names.length = bs.length
  size : SizeOk bs
  nms : GoodN names
  sms : ∀ y ∈ bs, ∀ x ∈ y, x.okn names
def RPrgI (ds : List D) (fs : List (Str × D)) : Prop := ∃ ps : List (Str × List Sm), ds = [.lst (ps.map pD)] ∧ PrgOk (ps.map (·.1)) (ps.map (·.2)) ∧ fs = progF (ps.map (·.1)) (ps.map (·.2))
def RSof (CS CP : Addr) (ds : List D) (d : D) : Prop := ∃ (names : List Str) (bs : List (List Sm)) (y : List Sm) (f l : Str) (p k i j : Nat), ds = [progD CP names bs, .tup [.int (p : Int), .int ((k : Int) + 1)]] ∧ bs[p]? = some y ∧ y[k]? = some (.perf f l) ∧ At names f i ∧ At names l j ∧ d = strD CS (i : Int) (j : Int)
theorem at_nth {names : List Str} {i : Int} (nd : names.Nodup) (h0 : 0 ≤ i) (h1 : i < names.length) : At names (nth names i) i.toNat := by
  have hi : i.toNat < names.length := by omega
  have e : names[i.toNat]? = some (nth names i) := by unfold nth; rw [List.getD_eq_getElem?_getD, List.getElem?_eq_getElem hi]; rfl
  refine ⟨e, fun m hm z => ?_⟩
  have := (List.getElem?_inj hi nd).mp (e.trans z.symm)
  omega
theorem sb_at {bs : List (List Sm)} {p : Nat} {y : List Sm} (h : bs[p]? = some y) : atI (sbD bs) (p : Int) = some (.tup (smD y)) := atI_of (by omega) (by rw [Int.toNat_natCast, List.getElem?_map, h]; rfl)
theorem sm_at {y : List Sm} {k : Nat} {x : Sm} (h : y[k]? = some x) : atI (smD y) (k : Int) = some x.d := atI_of (by omega) (by rw [Int.toNat_natCast, List.getElem?_map, h]; rfl)
theorem bod_at {bs : List (List Q)} {p : Nat} {y : List Q} (h : bs[p]? = some y) : atI (bodD bs) (p : Int) = some (.lst (qsD y)) := atI_of (by omega) (by rw [Int.toNat_natCast, List.getElem?_map, h]; rfl)
theorem q_at {y : List Q} {k : Nat} {x : Q} (h : y[k]? = some x) : atI (qsD y) (k : Int) = some x.d := atI_of (by omega) (by rw [Int.toNat_natCast, List.getElem?_map, h]; rfl)
def Q.word : Q → Str
  | .perf _ _ => "perform" | .ift _ _ => "if" | .go _ => "go" | .act _ => "act" | .stop => "stop"
theorem ix_wordQ {K : PySem.W.Frag} (x : Q) : RvD K (rIx K) x.d (.int 0) (.str x.word) := by
  cases x <;> exact rd_ixT (atI_of (by decide) rfl)
theorem wordQ_ok (x : Q) : PyData.strOk x.word = true := by cases x <;> (show PyData.strOk (Str.ofString _) = true; decide +kernel)
theorem wordQ_perf {x : Q} (h : x.word = "perform") : ∃ f l, x = .perf f l := by
  cases x with
  | perf f l => exact ⟨f, l, rfl⟩
  | ift w t => exact absurd h (by show ¬ (("if" : Str) = "perform"); decide +kernel)
  | go t => exact absurd h (by show ¬ (("go" : Str) = "perform"); decide +kernel)
  | act w => exact absurd h (by show ¬ (("act" : Str) = "perform"); decide +kernel)
  | stop => exact absurd h (by show ¬ (("stop" : Str) = "perform"); decide +kernel)
abbrev nmB (names : List Str) (bs : List (List Q)) : List (List Sm) := bs.map (·.map (nameQ names))
def RStrs (CP : Addr) (ds : List D) (d : D) : Prop := ∃ (names : List Str) (bs : List (List Q)), ds = [progD CP names (nmB names bs), .lst (bodD bs)] ∧ GoodB bs ∧ names.Nodup ∧ names.length = bs.length ∧ d = .bl true
theorem strOk_name {w : Str} (h : NameOk w) : PyData.strOk w = true := by
  unfold PyData.strOk
  rw [← Array.all_toList, List.all_eq_true]
  intro c hc
  have := h.2.2 c hc
  unfold Letter at this
  exact decide_eq_true (by omega)
theorem nth_mem {names : List Str} {i : Int} (h0 : 0 ≤ i) (h1 : i < names.length) : nth names i ∈ names := by
  have h : i.toNat < names.length := by omega
  unfold nth
  rw [List.getD_eq_getElem?_getD, List.getElem?_eq_getElem h]
  exact List.getElem_mem h
theorem aim_ok {names : List Str} {t : Int} (hn : ∀ w ∈ names, NameOk w) (h1 : t < names.length) : PyData.strOk (aimS names t) = true ∧ AimOk names (aimS names t) := by
  unfold aimS
  by_cases z : 0 ≤ t
  · rw [if_pos z]; exact ⟨strOk_name (hn _ (nth_mem z h1)), .inr (nth_mem z h1)⟩
  · rw [if_neg z]; exact ⟨by decide +kernel, .inl rfl⟩
theorem word_name (names : List Str) (q : Q) : (nameQ names q).word = q.word := by cases q <;> rfl
theorem nm_words (names : List Str) (bs : List (List Q)) : (nmB names bs).flatten.map Sm.word = bs.flatten.map Q.word := by
  unfold nmB
  rw [← List.map_flatten, List.map_map]
  exact List.map_congr_left fun q _ => word_name names q
theorem w_perf (q : Q) : (q.word == ("perform" : Str)) = q.isP := by cases q <;> first | (show (("perform" : Str) == "perform") = true; decide +kernel) | (show (("if" : Str) == "perform") = false; decide +kernel) | (show (("go" : Str) == "perform") = false; decide +kernel) | (show (("act" : Str) == "perform") = false; decide +kernel) | (show (("stop" : Str) == "perform") = false; decide +kernel)
theorem w_jump (q : Q) : (q.word == ("go" : Str)).toNat + (q.word == ("if" : Str)).toNat = q.isJ.toNat := by
  cases q <;> first | (show (("perform" : Str) == "go").toNat + (("perform" : Str) == "if").toNat = 0; decide +kernel) | (show (("if" : Str) == "go").toNat + (("if" : Str) == "if").toNat = 1; decide +kernel) | (show (("go" : Str) == "go").toNat + (("go" : Str) == "if").toNat = 1; decide +kernel) | (show (("act" : Str) == "go").toNat + (("act" : Str) == "if").toNat = 0; decide +kernel) | (show (("stop" : Str) == "go").toNat + (("stop" : Str) == "if").toNat = 0; decide +kernel)
theorem cnt_if {α : Type} (p : α → Bool) (a : α) (l : List α) : (a :: l).countP p = l.countP p + (p a).toNat := by
  rw [List.countP_cons]; cases p a <;> rfl
theorem cnt_perf (l : List Q) : (l.map Q.word).count ("perform" : Str) = l.countP Q.isP := by
  induction l with
  | nil => rfl
  | cons q l ih => rw [List.map_cons, List.count_eq_countP, cnt_if, cnt_if, ← List.count_eq_countP, ih, w_perf]
theorem cnt_jump (l : List Q) : (l.map Q.word).count ("go" : Str) + (l.map Q.word).count ("if" : Str) = l.countP Q.isJ := by
  induction l with
  | nil => rfl
  | cons q l ih =>
    rw [List.map_cons, List.count_eq_countP, List.count_eq_countP, cnt_if, cnt_if, cnt_if, ← List.count_eq_countP, ← List.count_eq_countP, ← ih, ← w_jump]
    omega
theorem prg_ok {names : List Str} {bs : List (List Q)} (hb : GoodB bs) (hn : GoodN names) (hl : names.length = bs.length) : PrgOk names (nmB names bs) := by
  refine ⟨by rw [List.length_map]; exact hl, ⟨by rw [List.length_map]; exact hb.n1, by rw [List.length_map]; exact hb.n8, fun y hy => ?_, ?_, ?_⟩, hn, fun y hy x hx => ?_⟩
  · obtain ⟨z, hz, rfl⟩ := List.mem_map.mp hy
    rw [List.length_map]; exact (hb.each z hz).1
  · rw [nm_words, cnt_perf]; exact hb.p
  · rw [nm_words, cnt_jump]; exact hb.j
  · obtain ⟨z, hz, rfl⟩ := List.mem_map.mp hy
    obtain ⟨q, hq, rfl⟩ := List.mem_map.mp hx
    have ok := (hb.each z hz).2 q hq
    rw [← hl] at ok
    cases q with
    | perf f l =>
      obtain ⟨f0, fl, lc⟩ := ok
      exact ⟨f.toNat, l.toNat, at_nth hn.nd f0 (by omega), at_nth hn.nd (by omega) lc, by omega⟩
    | ift w t => exact ⟨ok.1, aim_ok hn.ok ok.2.2⟩
    | go t => exact aim_ok hn.ok ok.2
    | act w => exact ok
    | stop => trivial
theorem prs_fst {names : List Str} {bs : List (List Q)} (hl : names.length = bs.length) : (prs names bs).map (·.1) = names := by
  unfold prs
  rw [List.map_map, ← hl]
  exact List.ext_getElem? fun i => by
    rw [List.getElem?_map]
    by_cases hi : i < names.length
    · rw [List.getElem?_range hi, List.getElem?_eq_getElem hi]
      show some (names.getD i "") = _
      rw [List.getD_eq_getElem?_getD, List.getElem?_eq_getElem hi]; rfl
    · rw [List.getElem?_eq_none (by rw [List.length_range]; omega), List.getElem?_eq_none (by omega)]; rfl
theorem prs_snd {names : List Str} {bs : List (List Q)} : (prs names bs).map (·.2) = nmB names bs := by
  unfold prs
  rw [List.map_map]
  exact List.ext_getElem? fun i => by
    rw [List.getElem?_map, List.getElem?_map]
    by_cases hi : i < bs.length
    · rw [List.getElem?_range hi, List.getElem?_eq_getElem hi]
      show some ((bs.getD i []).map (nameQ names)) = _
      rw [List.getD_eq_getElem?_getD, List.getElem?_eq_getElem hi]; rfl
    · rw [List.getElem?_eq_none (by rw [List.length_range]; omega), List.getElem?_eq_none (by omega)]; rfl
theorem prg_i {names : List Str} {bs : List (List Q)} (hb : GoodB bs) (hn : GoodN names) (hl : names.length = bs.length) : RPrgI [.lst ((prs names bs).map pD)] (progF names (nmB names bs)) :=
  ⟨prs names bs, rfl, by rw [prs_fst hl, prs_snd]; exact prg_ok hb hn hl, by rw [prs_fst hl, prs_snd]⟩
theorem okb_of {names : List Str} {bs : List (List Q)} (hb : GoodB bs) (hl : names.length = bs.length) : OkB names bs :=
  ⟨by omega, by have := hb.n8; omega, fun y hy => ⟨by have := (hb.each y hy).1; omega, fun q hq => by rw [hl]; exact (hb.each y hy).2 q hq⟩⟩
theorem goodN_rev {names : List Str} (h : GoodN names) : GoodN names.reverse := ⟨fun w hw => h.ok w (List.mem_reverse.mp hw), List.pairwise_reverse.mpr (h.nd.imp fun z e => z e.symm)⟩

theorem filt_map {α β : Type} (p : β → Bool) (f : α → β) : ∀ l : List α, (l.map f).filter p = (l.filter (fun a => p (f a))).map f
  | [] => rfl
  | a :: l => by
    rw [List.map_cons, List.filter_cons, List.filter_cons, filt_map p f l]
    cases p (f a) <;> rfl
theorem filt_flat {α : Type} (p : α → Bool) : ∀ l : List (List α), l.flatten.filter p = (l.map fun y => y.filter p).flatten
  | [] => rfl
  | a :: l => by rw [List.flatten_cons, List.filter_append, filt_flat p l]; rfl
theorem pick_filt {α : Type} (L : List α) (x0 : α) (g : α → Bool) (h : α → D) : pick (fun n => g (L.getD n x0)) (fun n => h (L.getD n x0)) L.length = (L.filter g).map h := by
  have e : (List.range L.length).map (fun n => L.getD n x0) = L := by
    apply List.ext_getElem?
    intro i
    rw [List.getElem?_map]
    by_cases hi : i < L.length
    · rw [List.getElem?_range hi, List.getElem?_eq_getElem hi]
      show some (L.getD i x0) = _
      rw [List.getD_eq_getElem?_getD, List.getElem?_eq_getElem hi]; rfl
    · rw [List.getElem?_eq_none (by rw [List.length_range]; omega), List.getElem?_eq_none (by omega)]; rfl
  have e2 : (L.filter g).map h = (((List.range L.length).map (fun n => L.getD n x0)).filter g).map h := by rw [e]
  rw [e2, filt_map, List.map_map]; rfl
def Sm.isP : Sm → Bool
  | .perf _ _ => true | _ => false
def Sm.isJ : Sm → Bool
  | .ift _ t => !(t == ("" : Str)) | .go t => !(t == ("" : Str)) | _ => false
def Sm.lok : Sm → Prop
  | .ift _ t => PyData.strOk t = true | .go t => PyData.strOk t = true | _ => True
def ptD (p k : Nat) : D := .tup [.int (p : Int), .int (k : Int)]
def rowB {α : Type} (x0 : α) (f : α → Bool) (y : List α) (p k : Nat) : List D := ((List.range k).filter fun j => f (y.getD j x0)).map (ptD p)
/-- the points at which f is, of the first n paragraphs -/
def ptsB {α : Type} (x0 : α) (f : α → Bool) (bs : List (List α)) (n : Nat) : List D := ((List.range n).map fun p => rowB x0 f (bs.getD p []) p (bs.getD p []).length).flatten
theorem rowB_yes {α : Type} {x0 : α} {f : α → Bool} {y : List α} {p k : Nat} (h : f (y.getD k x0) = true) : rowB x0 f y p (k + 1) = rowB x0 f y p k ++ [ptD p k] := by
  unfold rowB
  rw [List.range_succ, List.filter_append, List.map_append, List.filter_cons, if_pos h]; rfl
theorem rowB_no {α : Type} {x0 : α} {f : α → Bool} {y : List α} {p k : Nat} (h : f (y.getD k x0) = false) : rowB x0 f y p (k + 1) = rowB x0 f y p k := by
  unfold rowB
  rw [List.range_succ, List.filter_append, List.map_append, List.filter_cons, if_neg (by rw [h]; decide)]
  simp
theorem rowB_len {α : Type} {x0 : α} {f : α → Bool} {y : List α} {p k : Nat} : (rowB x0 f y p k).length ≤ k := by
  unfold rowB
  rw [List.length_map]
  have h := List.length_filter_le (fun j => f (y.getD j x0)) (List.range k)
  rw [List.length_range] at h; exact h
theorem ptsB_succ {α : Type} {x0 : α} {f : α → Bool} {bs : List (List α)} {n : Nat} : ptsB x0 f bs (n + 1) = ptsB x0 f bs n ++ rowB x0 f (bs.getD n []) n (bs.getD n []).length := by
  unfold ptsB
  rw [List.range_succ, List.map_append, List.flatten_append]
  simp
theorem ptsB_len {α : Type} {x0 : α} {f : α → Bool} {bs : List (List α)} (h : ∀ y ∈ bs, y.length ≤ 100) : ∀ n, (ptsB x0 f bs n).length ≤ n * 100
  | 0 => by simp [ptsB]
  | n + 1 => by
    have ih := ptsB_len (x0 := x0) (f := f) h n
    rw [ptsB_succ, List.length_append]
    have a := rowB_len (x0 := x0) (f := f) (y := bs.getD n []) (p := n) (k := (bs.getD n []).length)
    have b : (bs.getD n []).length ≤ 100 := by
      rw [List.getD_eq_getElem?_getD]
      cases q : bs[n]? with
      | none => exact Nat.zero_le _
      | some y => exact h y (List.mem_of_getElem? q)
    omega
theorem ptsB_congr {α β : Type} {x0 : α} {y0 : β} {f : α → Bool} {g : β → Bool} {as : List (List α)} {bs : List (List β)} (n : Nat) (hl : ∀ p, (as.getD p []).length = (bs.getD p []).length) (h : ∀ p k, k < (as.getD p []).length → f ((as.getD p []).getD k x0) = g ((bs.getD p []).getD k y0)) : ptsB x0 f as n = ptsB y0 g bs n := by
  unfold ptsB
  congr 1
  refine List.map_congr_left fun p _ => ?_
  unfold rowB
  rw [← hl p]
  congr 1
  refine List.filter_congr fun k hk => ?_
  exact h p k (List.mem_range.mp hk)
def ptsX (bs : List (List Sm)) : List ((Nat × Nat) × Sm) := ((List.range bs.length).map fun p => (List.range (bs.getD p []).length).map fun k => ((p, k), (bs.getD p []).getD k .stop)).flatten
def ptXD (y : (Nat × Nat) × Sm) : D := .tup [ptD y.1.1 y.1.2, y.2.d]
theorem ptsX_D (bs : List (List Sm)) : ptsD bs = (ptsX bs).map ptXD := by
  unfold ptsD ptsX
  rw [nest_all, List.map_flatten, List.map_map]
  congr 1
  refine List.map_congr_left fun p _ => ?_
  show pick (fun _ => true) (ptF bs p) (enumD (smD (bs.getD p []))).length = ((List.range _).map _).map ptXD
  rw [pick_all, enumD_len, List.length_map, List.map_map]; rfl
theorem ptsX_filt (bs : List (List Sm)) (f : Sm → Bool) : ((ptsX bs).filter fun y => f y.2).map (fun y => ptD y.1.1 y.1.2) = ptsB .stop f bs bs.length := by
  unfold ptsX ptsB
  rw [filt_flat, List.map_flatten, List.map_map, List.map_map]
  congr 1
  refine List.map_congr_left fun p _ => ?_
  show (((List.range _).map _).filter _).map _ = rowB _ _ _ _ _
  rw [filt_map, List.map_map]; rfl
theorem mem_ptsX {bs : List (List Sm)} {y : (Nat × Nat) × Sm} (h : y ∈ ptsX bs) : ∃ z ∈ bs, y.2 ∈ z := by
  unfold ptsX at h
  obtain ⟨l, hl, hy⟩ := List.mem_flatten.mp h
  obtain ⟨p, hp, rfl⟩ := List.mem_map.mp hl
  obtain ⟨k, hk, rfl⟩ := List.mem_map.mp hy
  have hp := List.mem_range.mp hp
  have hk := List.mem_range.mp hk
  have e : bs.getD p [] = bs[p] := getD_of (List.getElem?_eq_getElem hp)
  rw [e] at hk ⊢
  refine ⟨bs[p], List.getElem_mem hp, ?_⟩
  show bs[p].getD k .stop ∈ bs[p]
  rw [getD_of (List.getElem?_eq_getElem hk)]
  exact List.getElem_mem hk
theorem ptsX_len {bs : List (List Sm)} (h : FewS bs) : (ptsX bs).length ≤ 10000 := by
  have e := congrArg List.length (ptsX_D bs)
  rw [List.length_map] at e
  rw [← e]
  unfold ptsD
  have := nest_len (p := fun _ => true) (F := fun p => pick (fun _ => true) (ptF bs p) (enumD (smD (bs.getD p []))).length) (b := 100) (fun i => by
    refine Nat.le_trans (pick_len _ _ _) ?_
    rw [enumD_len, List.length_map]; exact h.at i) bs.length
  have := h.n
  omega
def RIsJ (ds : List D) (d : D) : Prop := ∃ x : Sm, ds = [x.d] ∧ x.lok ∧ d = .bl x.isJ
def RPerf (CP : Addr) (ds : List D) (d : D) : Prop := ∃ (names : List Str) (bs : List (List Sm)), ds = [progD CP names bs] ∧ FewS bs ∧ d = .tup (ptsB .stop Sm.isP bs bs.length)
def RJumps (CP : Addr) (ds : List D) (d : D) : Prop := ∃ (names : List Str) (bs : List (List Sm)), ds = [progD CP names bs] ∧ FewS bs ∧ (∀ y ∈ bs, ∀ x ∈ y, x.lok) ∧ d = .tup (ptsB .stop Sm.isJ bs bs.length)
theorem wordS_ok (x : Sm) : PyData.strOk x.word = true := by cases x <;> (show PyData.strOk (Str.ofString _) = true; decide +kernel)
theorem w_perfS (x : Sm) : eqD (.str x.word) (.str "perform") = x.isP := by
  rw [eqD_str]
  cases x <;> first | (show (("perform" : Str) == "perform") = true; decide +kernel) | (show (("if" : Str) == "perform") = false; decide +kernel) | (show (("go" : Str) == "perform") = false; decide +kernel) | (show (("act" : Str) == "perform") = false; decide +kernel) | (show (("stop" : Str) == "perform") = false; decide +kernel)

/-- a statement of one of the kinds, that aims somewhere -/
def Q.hit (kinds : List Str) : Q → Bool
  | .perf _ l => decide (("perform" : Str) ∈ kinds) && !decide (l = -1)
  | .ift _ t => decide (("if" : Str) ∈ kinds) && !decide (t = -1)
  | .go t => decide (("go" : Str) ∈ kinds) && !decide (t = -1)
  | .act _ => false
  | .stop => false
abbrev kP : List Str := ["perform"]
abbrev kJ : List Str := ["go", "if"]
structure GoodQ (c : Nat) (bs : List (List Q)) : Prop where
  n : bs.length = c
  n8 : c ≤ 8
  each : ∀ y ∈ bs, y.length ≤ 4 ∧ ∀ q ∈ y, q.okc c
theorem goodq_of {bs : List (List Q)} (h : GoodB bs) : GoodQ bs.length bs := ⟨rfl, h.n8, h.each⟩
theorem GoodQ.few {c : Nat} {bs : List (List Q)} (h : GoodQ c bs) : ∀ y ∈ bs, y.length ≤ 100 := fun y hy => by have := (h.each y hy).1; omega
def RPts (ds : List D) (d : D) : Prop := ∃ (bs : List (List Q)) (kinds : List Str) (c : Nat), ds = [.lst (bodD bs), .tup (sD kinds)] ∧ (kinds = kP ∨ kinds = kJ) ∧ GoodQ c bs ∧ d = .tup (ptsB .stop (Q.hit kinds) bs bs.length)
def RSame (CP : Addr) (ds : List D) (d : D) : Prop := ∃ (names : List Str) (bs : List (List Q)), ds = [progD CP names (nmB names bs), .lst (sD names), .lst (bodD bs)] ∧ GoodQ names.length bs ∧ (∀ w ∈ names, NameOk w) ∧ d = .bl true
theorem nmB_getD (names : List Str) (bs : List (List Q)) (p : Nat) : (nmB names bs).getD p [] = (bs.getD p []).map (nameQ names) := by
  rw [List.getD_eq_getElem?_getD, List.getD_eq_getElem?_getD, List.getElem?_map]
  cases bs[p]? <;> rfl
theorem nm_getD (names : List Str) (y : List Q) (k : Nat) : (y.map (nameQ names)).getD k .stop = nameQ names (y.getD k .stop) := by
  rw [List.getD_eq_getElem?_getD, List.getD_eq_getElem?_getD, List.getElem?_map]
  cases y[k]? <;> rfl
theorem pts_nm {names : List Str} {bs : List (List Q)} {f : Sm → Bool} {g : Q → Bool} (n : Nat) (h : ∀ y ∈ bs, ∀ q ∈ y, f (nameQ names q) = g q) : ptsB .stop f (nmB names bs) n = ptsB .stop g bs n := by
  refine ptsB_congr n (fun p => by rw [nmB_getD, List.length_map]) fun p k hk => ?_
  rw [nmB_getD] at hk ⊢
  rw [List.length_map] at hk
  rw [nm_getD]
  have e := List.getElem?_eq_getElem hk
  rw [getD_of e]
  have hp : p < bs.length := by
    by_cases z : p < bs.length
    · exact z
    · rw [List.getD_eq_getElem?_getD, List.getElem?_eq_none (by omega)] at hk
      exact absurd hk (Nat.not_lt_zero _)
  refine h _ ?_ _ (List.getElem_mem hk)
  rw [getD_of (List.getElem?_eq_getElem hp)]
  exact List.getElem_mem hp
theorem aim_emp {names : List Str} {t : Int} (hn : ∀ w ∈ names, NameOk w) (h0 : -1 ≤ t) (h1 : t < names.length) : (aimS names t == ("" : Str)) = decide (t = -1) := by
  unfold aimS
  by_cases z : 0 ≤ t
  · rw [if_pos z, decide_eq_false (by omega)]
    have ok := (hn _ (nth_mem z h1)).1
    refine beq_eq_false_iff_ne.mpr fun e => ?_
    rw [e] at ok
    exact absurd ok (by decide +kernel)
  · rw [if_neg z, decide_eq_true (by omega)]
    exact beq_self_eq_true _
theorem hit_P {names : List Str} {q : Q} {c : Nat} (h : q.okc c) : Sm.isP (nameQ names q) = Q.hit kP q := by
  cases q with
  | perf f l =>
    obtain ⟨a, b, _⟩ := h
    show true = (decide (("perform" : Str) ∈ kP) && !decide (l = -1))
    rw [decide_eq_false (show ¬ l = -1 by omega), show decide (("perform" : Str) ∈ kP) = true by decide +kernel]; rfl
  | ift w t => show false = (decide (("if" : Str) ∈ kP) && !decide (t = -1)); rw [show decide (("if" : Str) ∈ kP) = false by decide +kernel]; rfl
  | go t => show false = (decide (("go" : Str) ∈ kP) && !decide (t = -1)); rw [show decide (("go" : Str) ∈ kP) = false by decide +kernel]; rfl
  | act w => rfl
  | stop => rfl
theorem hit_J {names : List Str} {q : Q} (hn : ∀ w ∈ names, NameOk w) (h : q.okc names.length) : Sm.isJ (nameQ names q) = Q.hit kJ q := by
  cases q with
  | perf f l => show false = (decide (("perform" : Str) ∈ kJ) && !decide (l = -1)); rw [show decide (("perform" : Str) ∈ kJ) = false by decide +kernel]; rfl
  | ift w t =>
    show (!(aimS names t == ("" : Str))) = (decide (("if" : Str) ∈ kJ) && !decide (t = -1))
    rw [aim_emp hn h.2.1 h.2.2, show decide (("if" : Str) ∈ kJ) = true by decide +kernel]; rfl
  | go t =>
    show (!(aimS names t == ("" : Str))) = (decide (("go" : Str) ∈ kJ) && !decide (t = -1))
    rw [aim_emp hn h.1 h.2, show decide (("go" : Str) ∈ kJ) = true by decide +kernel]; rfl
  | act w => rfl
  | stop => rfl
theorem lok_nm {names : List Str} {q : Q} (hn : ∀ w ∈ names, NameOk w) (h : q.okc names.length) : (nameQ names q).lok := by
  cases q with
  | perf f l => trivial
  | ift w t => exact (aim_ok hn h.2.2).1
  | go t => exact (aim_ok hn h.2).1
  | act w => trivial
  | stop => trivial
/-- of what all is short: the statements of such bodies -/
theorem sh_nm {names : List Str} {q : Q} (hn : ∀ w ∈ names, NameOk w) (h : q.okc names.length) : D.sh (nameQ names q).d = true ∧ D.dep (nameQ names q).d ≤ 3 := by
  have s0 : ∀ {w : Str}, PyData.strOk w = true → D.sh (.str w) = true ∧ D.dep (.str w) ≤ 2 := fun h => ⟨h, Nat.zero_le _⟩
  have k0 : ∀ {ds : List D}, (∀ d ∈ ds, D.sh d = true ∧ D.dep d ≤ 2) → D.sh (.tup ds) = true ∧ D.dep (.tup ds) ≤ 3 := fun {ds} h => by
    refine ⟨shs_all ds fun d hd => (h d hd).1, ?_⟩
    have := deps_all (n := 2) ds fun d hd => (h d hd).2
    show D.deps ds + 1 ≤ 3
    omega
  have nt : ∀ i : Int, 0 ≤ i → i < names.length → PyData.strOk (nth names i) = true := fun i a b => strOk_name (hn _ (nth_mem a b))
  cases q with
  | perf f l =>
    obtain ⟨f0, fl, lc⟩ := h
    refine k0 fun d hd => ?_
    rcases List.mem_cons.mp hd with rfl | hd
    · exact s0 (by decide +kernel)
    · rcases List.mem_cons.mp hd with rfl | hd
      · exact s0 (nt f f0 (by omega))
      · rw [List.mem_singleton.mp hd]; exact s0 (nt l (by omega) lc)
  | ift w t =>
    refine k0 fun d hd => ?_
    rcases List.mem_cons.mp hd with rfl | hd
    · exact s0 (by decide +kernel)
    · rcases List.mem_cons.mp hd with rfl | hd
      · exact s0 (strOk_name h.1)
      · rw [List.mem_singleton.mp hd]; exact s0 (aim_ok hn h.2.2).1
  | go t =>
    refine k0 fun d hd => ?_
    rcases List.mem_cons.mp hd with rfl | hd
    · exact s0 (by decide +kernel)
    · rw [List.mem_singleton.mp hd]; exact s0 (aim_ok hn h.2).1
  | act w =>
    refine k0 fun d hd => ?_
    rcases List.mem_cons.mp hd with rfl | hd
    · exact s0 (by decide +kernel)
    · rw [List.mem_singleton.mp hd]; exact s0 (strOk_name h)
  | stop =>
    refine k0 fun d hd => ?_
    rw [List.mem_singleton.mp hd]; exact s0 (by decide +kernel)
theorem sh_row {names : List Str} {y : List Q} (hn : ∀ w ∈ names, NameOk w) (h : ∀ q ∈ y, q.okc names.length) : D.shs (smD (y.map (nameQ names))) = true ∧ D.deps (smD (y.map (nameQ names))) ≤ 3 :=
  ⟨shs_all _ fun d hd => by
    obtain ⟨x, hx, rfl⟩ := List.mem_map.mp hd
    obtain ⟨q, hq, rfl⟩ := List.mem_map.mp hx
    exact (sh_nm hn (h q hq)).1, deps_all _ fun d hd => by
    obtain ⟨x, hx, rfl⟩ := List.mem_map.mp hd
    obtain ⟨q, hq, rfl⟩ := List.mem_map.mp hx
    exact (sh_nm hn (h q hq)).2⟩
theorem ok_nms {names : List Str} (h : ∀ w ∈ names, NameOk w) : D.ok (.tup (sD names)) := ok_tup fun d hd => by
  obtain ⟨w, hw, rfl⟩ := List.mem_map.mp hd
  exact ⟨strOk_name (h w hw), Nat.zero_le _⟩
theorem ok_bds {names : List Str} {bs : List (List Q)} (hn : ∀ w ∈ names, NameOk w) (h : ∀ y ∈ bs, ∀ q ∈ y, q.okc names.length) : D.ok (.tup (sbD (nmB names bs))) := ok_tup fun d hd => by
  obtain ⟨x, hx, rfl⟩ := List.mem_map.mp hd
  obtain ⟨y, hy, rfl⟩ := List.mem_map.mp hx
  obtain ⟨a, b⟩ := sh_row hn (h y hy)
  exact ⟨a, by show D.deps (smD _) + 1 ≤ 50; omega⟩
theorem ok_prsQ {names : List Str} {bs : List (List Q)} (hl : names.length = bs.length) (hn : ∀ w ∈ names, NameOk w) (h : ∀ y ∈ bs, ∀ q ∈ y, q.okc names.length) : D.ok (.lst ((prs names bs).map pD)) := ok_lst fun d hd => by
  obtain ⟨y, hy, rfl⟩ := List.mem_map.mp hd
  have h1 : y.1 ∈ names := by
    have : y.1 ∈ (prs names bs).map (·.1) := List.mem_map.mpr ⟨y, hy, rfl⟩
    rw [prs_fst hl] at this; exact this
  have h2 : y.2 ∈ nmB names bs := by
    have : y.2 ∈ (prs names bs).map (·.2) := List.mem_map.mpr ⟨y, hy, rfl⟩
    rw [prs_snd] at this; exact this
  obtain ⟨z, hz, e⟩ := List.mem_map.mp h2
  obtain ⟨a, b⟩ := sh_row hn (h z hz)
  have a : D.shs (smD y.2) = true := by rw [← e]; exact a
  have b : D.deps (smD y.2) ≤ 3 := by rw [← e]; exact b
  refine ⟨shs_all _ fun d hd => ?_, ?_⟩
  · rcases List.mem_cons.mp hd with rfl | hd
    · exact strOk_name (hn _ h1)
    · rw [List.mem_singleton.mp hd]; exact a
  · have := deps_all (n := 4) [D.str y.1, D.lst (smD y.2)] fun d hd => by
      rcases List.mem_cons.mp hd with rfl | hd
      · exact Nat.zero_le _
      · rw [List.mem_singleton.mp hd]; show D.deps (smD y.2) + 1 ≤ 4; omega
    show D.deps [D.str y.1, D.lst (smD y.2)] + 1 ≤ 50
    omega
theorem ok_pts {α : Type} {x0 : α} {f : α → Bool} {bs : List (List α)} {n : Nat} : D.ok (.tup (ptsB x0 f bs n)) := ok_tup fun d hd => by
  unfold ptsB at hd
  obtain ⟨l, hl, hd⟩ := List.mem_flatten.mp hd
  obtain ⟨p, _, rfl⟩ := List.mem_map.mp hl
  obtain ⟨k, _, rfl⟩ := List.mem_map.mp hd
  exact ⟨rfl, Nat.le_of_ble_eq_true rfl⟩
abbrev esP (ps : List (Str × List Sm)) : List NE := ps.map fun y => .pair (.str y.1) (smD y.2)
theorem esP_nes (ps : List (Str × List Sm)) : nesD (esP ps) = .lst (ps.map pD) := by
  show D.lst ((ps.map _).map NE.d) = _
  rw [List.map_map]; rfl
theorem esP_strp (ps : List (Str × List Sm)) : strp (esP ps) := fun e he => by
  obtain ⟨y, _, rfl⟩ := List.mem_map.mp he
  exact .inr ⟨_, _, rfl⟩
def RParaP (ds : List D) (es : List NE) : Prop := ∃ (bs : List (List Q)) (names : List Str), ds = [.lst (bodD bs), .lst (sD names)] ∧ OkB names bs ∧ es = esP (prs names bs)
theorem pq_sm (x : Sm) : D.pq x.d = true := by
  cases x <;> rfl
theorem pq_prog {C : Addr} {names : List Str} {bs : List (List Sm)} : D.pq (progD C names bs) = true := by
  have h1 : D.pqs (sD names) = true := pqs_all _ fun d hd => by
    obtain ⟨w, _, rfl⟩ := List.mem_map.mp hd
    rfl
  have ok : ∀ (ds : List D), (∀ d ∈ ds, D.isStr d = false) → okPair ds = true := fun ds h => by
    match ds, h with
    | [], _ => rfl
    | [_], _ => rfl
    | [a, b], h =>
      show (!a.isStr || b.atom) = true
      rw [h a List.mem_cons_self]; rfl
    | _ :: _ :: _ :: _, _ => rfl
  have st : ∀ d ∈ sbD bs, D.isStr d = false := fun d hd => by
    obtain ⟨y, _, rfl⟩ := List.mem_map.mp hd
    rfl
  have st2 : ∀ (y : List Sm), ∀ d ∈ smD y, D.isStr d = false := fun y d hd => by
    obtain ⟨x, _, rfl⟩ := List.mem_map.mp hd
    cases x <;> rfl
  have h2 : D.pq (.tup (sbD bs)) = true := by
    unfold D.pq
    rw [ok _ st, pqs_all _ fun d hd => ?_]; rfl
    obtain ⟨y, _, rfl⟩ := List.mem_map.mp hd
    unfold D.pq
    rw [ok _ (st2 y), pqs_all _ fun d hd => ?_]; rfl
    obtain ⟨x, _, rfl⟩ := List.mem_map.mp hd
    exact pq_sm x
  have h0 : D.pq (.ptup (sD names)) = true := by unfold D.pq; exact h1
  unfold D.pq
  show (D.pq (.ptup (sD names)) && (D.pq (.tup (sbD bs)) && true)) = true
  rw [h0, h2]; rfl
def Q.isA : Q → Bool
  | .act _ => true | _ => false
def shortB (y : List Q) : List (List Q) := [.act "z" :: (y.filter Q.isA).take 3]
theorem short_acts {y : List Q} {q : Q} {c d : Int} (h : ∀ q ∈ y, q.okc c) (hq : q ∈ .act "z" :: (y.filter Q.isA).take 3) : q.okc d ∧ q.isP = false ∧ q.isJ = false := by
  rcases List.mem_cons.mp hq with rfl | hq
  · exact ⟨z_ok, rfl, rfl⟩
  · have hq := List.mem_of_mem_take hq
    obtain ⟨a, b⟩ := List.mem_filter.mp hq
    have := h q a
    cases q with
    | act w => exact ⟨this, rfl, rfl⟩
    | perf f l => cases b
    | ift w t => cases b
    | go t => cases b
    | stop => cases b
theorem good_short {y : List Q} {c : Int} (h : ∀ q ∈ y, q.okc c) : GoodB (shortB y) := by
  have fl : (shortB y).flatten = .act "z" :: (y.filter Q.isA).take 3 := by unfold shortB; simp
  refine ⟨Nat.le_refl 1, by show 1 ≤ 8; decide, fun z hz => ?_, ?_, ?_⟩
  · rw [List.mem_singleton.mp hz]
    refine ⟨by rw [List.length_cons, List.length_take]; omega, fun q hq => (short_acts h hq).1⟩
  · rw [fl, List.countP_eq_zero.mpr fun q hq => by rw [(short_acts (d := 0) h hq).2.1]; decide]; decide
  · rw [fl, List.countP_eq_zero.mpr fun q hq => by rw [(short_acts (d := 0) h hq).2.2]; decide]; decide
theorem w_act (q : Q) : eqD (.str q.word) (.str "act") = q.isA := by
  rw [eqD_str]
  cases q <;> first | (show (("act" : Str) == "act") = true; decide +kernel) | (show (("perform" : Str) == "act") = false; decide +kernel) | (show (("if" : Str) == "act") = false; decide +kernel) | (show (("go" : Str) == "act") = false; decide +kernel) | (show (("stop" : Str) == "act") = false; decide +kernel)
section cutm
variable {α β : Type} {c : α → α} {zs ws : List (Nat × Nat)} {p k n : Nat} {y : List α} {bs : List (List α)} {x x0 : α}
def cutR (c : α → α) (zs : List (Nat × Nat)) (p : Nat) (y : List α) : List α := y.mapIdx fun k x => if (p, k) ∈ zs then c x else x
def cutB (c : α → α) (zs : List (Nat × Nat)) (bs : List (List α)) : List (List α) := bs.mapIdx fun p y => cutR c zs p y
theorem cutR_len : (cutR c zs p y).length = y.length := List.length_mapIdx
theorem cutB_len : (cutB c zs bs).length = bs.length := List.length_mapIdx
theorem cutR_get : (cutR c zs p y)[k]? = (y[k]?).map fun x => if (p, k) ∈ zs then c x else x := List.getElem?_mapIdx
theorem cutB_get : (cutB c zs bs)[p]? = (bs[p]?).map (cutR c zs p) := List.getElem?_mapIdx
theorem cutR_nil : cutR c [] p y = y := List.ext_getElem? fun i => by
  rw [cutR_get]
  cases y[i]? with
  | none => rfl
  | some x => show some (if (p, i) ∈ [] then c x else x) = _; rw [if_neg (by simp)]
theorem cutB_nil : cutB c [] bs = bs := List.ext_getElem? fun i => by
  rw [cutB_get]
  cases bs[i]? with
  | none => rfl
  | some y => show some (cutR c [] i y) = _; rw [cutR_nil]
theorem cutB_step (hy : bs[p]? = some y) (hx : y[k]? = some x) : (cutB c zs bs).set p ((cutR c zs p y).set k (c x)) = cutB c (zs ++ [(p, k)]) bs := by
  have mm : ∀ i j, ((i, j) ∈ zs ++ [(p, k)]) ↔ ((i, j) ∈ zs ∨ (i = p ∧ j = k)) := fun i j => by
    rw [List.mem_append, List.mem_singleton, Prod.mk.injEq]
  have hp := (List.getElem?_eq_some_iff.mp hy).1
  have hk := (List.getElem?_eq_some_iff.mp hx).1
  refine List.ext_getElem? fun i => ?_
  rw [cutB_get]
  by_cases e : p = i
  · subst e
    rw [List.getElem?_set_self (by rw [cutB_len]; exact hp), hy]
    show some _ = some _
    congr 1
    refine List.ext_getElem? fun j => ?_
    rw [cutR_get]
    by_cases e2 : k = j
    · subst e2
      rw [List.getElem?_set_self (by rw [cutR_len]; exact hk), hx]
      show some _ = some _
      dsimp only
      rw [if_pos ((mm _ _).mpr (.inr ⟨rfl, rfl⟩))]
    · rw [List.getElem?_set_ne e2, cutR_get]
      cases y[j]? with
      | none => rfl
      | some z =>
        show some _ = some _
        congr 1
        dsimp only
        by_cases q : (p, j) ∈ zs
        · rw [if_pos q, if_pos ((mm _ _).mpr (.inl q))]
        · rw [if_neg q, if_neg fun h => by
            rcases (mm _ _).mp h with h | h
            · exact q h
            · exact e2 h.2.symm]
  · rw [List.getElem?_set_ne e, cutB_get]
    cases bs[i]? with
    | none => rfl
    | some z =>
      show some _ = some _
      congr 1
      refine List.ext_getElem? fun j => ?_
      rw [cutR_get, cutR_get]
      cases z[j]? with
      | none => rfl
      | some z =>
        show some _ = some _
        congr 1
        dsimp only
        by_cases q : (i, j) ∈ zs
        · rw [if_pos q, if_pos ((mm _ _).mpr (.inl q))]
        · rw [if_neg q, if_neg fun h => by
            rcases (mm _ _).mp h with h | h
            · exact q h
            · exact e h.1.symm]
theorem cutR_cut (hc : ∀ x, c (c x) = c x) : cutR c ws p (cutR c zs p y) = cutR c (zs ++ ws) p y := List.ext_getElem? fun i => by
  rw [cutR_get, cutR_get, cutR_get]
  cases y[i]? with
  | none => rfl
  | some x =>
    show some _ = some _
    congr 1
    dsimp only
    by_cases a : (p, i) ∈ zs
    · rw [if_pos a, if_pos (List.mem_append_left _ a)]
      split
      · exact hc x
      · rfl
    · rw [if_neg a]
      by_cases b : (p, i) ∈ ws
      · rw [if_pos b, if_pos (List.mem_append_right _ b)]
      · rw [if_neg b, if_neg fun h => by
          rcases List.mem_append.mp h with h | h
          · exact a h
          · exact b h]
theorem cutB_cut (hc : ∀ x, c (c x) = c x) : cutB c ws (cutB c zs bs) = cutB c (zs ++ ws) bs := List.ext_getElem? fun i => by
  rw [cutB_get, cutB_get, cutB_get]
  cases bs[i]? with
  | none => rfl
  | some y => show some _ = some _; rw [cutR_cut hc]
theorem cutB_map (f : α → β) (hf : ∀ x, f (c x) = f x) : (cutB c zs bs).map (·.map f) = bs.map (·.map f) := List.ext_getElem? fun i => by
  rw [List.getElem?_map, List.getElem?_map, cutB_get]
  cases bs[i]? with
  | none => rfl
  | some y =>
    show some _ = some _
    congr 1
    refine List.ext_getElem? fun j => ?_
    rw [List.getElem?_map, List.getElem?_map, cutR_get]
    cases y[j]? with
    | none => rfl
    | some x =>
      show some _ = some _
      congr 1
      split
      · exact hf x
      · rfl
theorem cutB_count (f : α → Bool) (hf : ∀ x, f (c x) = f x) : (cutB c zs bs).flatten.countP f = bs.flatten.countP f := by
  have key : ∀ l : List (List α), l.flatten.countP f = (l.map (·.map f)).flatten.countP id := fun l => by
    rw [← List.map_flatten, List.countP_map]; rfl
  rw [key, key, cutB_map f hf]
theorem cutB_row {z : List α} (h : z ∈ cutB c zs bs) : ∃ p y, bs[p]? = some y ∧ z = cutR c zs p y := by
  obtain ⟨p, hp⟩ := List.getElem?_of_mem h
  rw [cutB_get] at hp
  cases q : bs[p]? with
  | none => rw [q] at hp; cases hp
  | some y => rw [q] at hp; cases hp; exact ⟨p, y, q, rfl⟩
theorem cutR_mem {z : α} (h : z ∈ cutR c zs p y) : ∃ x ∈ y, z = x ∨ z = c x := by
  obtain ⟨k, hk⟩ := List.getElem?_of_mem h
  rw [cutR_get] at hk
  cases q : y[k]? with
  | none => rw [q] at hk; cases hk
  | some x =>
    rw [q] at hk
    have hk : some (if (p, k) ∈ zs then c x else x) = some z := hk
    injection hk with hk
    refine ⟨x, List.mem_of_getElem? q, ?_⟩
    split at hk
    · exact .inr hk.symm
    · exact .inl hk.symm
/-- the points at which f is -/
def rowP (x0 : α) (f : α → Bool) (y : List α) (p k : Nat) : List (Nat × Nat) := ((List.range k).filter fun j => f (y.getD j x0)).map fun j => (p, j)
def ptsP (x0 : α) (f : α → Bool) (bs : List (List α)) (n : Nat) : List (Nat × Nat) := ((List.range n).map fun p => rowP x0 f (bs.getD p []) p (bs.getD p []).length).flatten
theorem rowP_yes {f : α → Bool} (h : f (y.getD k x0) = true) : rowP x0 f y p (k + 1) = rowP x0 f y p k ++ [(p, k)] := by
  unfold rowP
  rw [List.range_succ, List.filter_append, List.map_append, List.filter_cons, if_pos h]; rfl
theorem rowP_no {f : α → Bool} (h : f (y.getD k x0) = false) : rowP x0 f y p (k + 1) = rowP x0 f y p k := by
  unfold rowP
  rw [List.range_succ, List.filter_append, List.map_append, List.filter_cons, if_neg (by rw [h]; decide)]
  simp
theorem ptsP_succ {f : α → Bool} : ptsP x0 f bs (n + 1) = ptsP x0 f bs n ++ rowP x0 f (bs.getD n []) n (bs.getD n []).length := by
  unfold ptsP
  rw [List.range_succ, List.map_append, List.flatten_append]
  simp
theorem mem_rowP {f : α → Bool} {z : Nat × Nat} (h : z ∈ rowP x0 f y p k) : z.1 = p ∧ z.2 < k ∧ f (y.getD z.2 x0) = true := by
  unfold rowP at h
  obtain ⟨j, hj, rfl⟩ := List.mem_map.mp h
  obtain ⟨a, b⟩ := List.mem_filter.mp hj
  exact ⟨rfl, List.mem_range.mp a, b⟩
theorem mem_ptsP {f : α → Bool} {z : Nat × Nat} (h : z ∈ ptsP x0 f bs n) : z.1 < n ∧ z.2 < (bs.getD z.1 []).length ∧ f ((bs.getD z.1 []).getD z.2 x0) = true := by
  unfold ptsP at h
  obtain ⟨l, hl, hz⟩ := List.mem_flatten.mp h
  obtain ⟨p, hp, rfl⟩ := List.mem_map.mp hl
  obtain ⟨a, b, d⟩ := mem_rowP hz
  rw [a]
  exact ⟨List.mem_range.mp hp, b, d⟩
theorem cutR_getD (h0 : c x0 = x0) : (cutR c zs p y).getD k x0 = if (p, k) ∈ zs then c (y.getD k x0) else y.getD k x0 := by
  rw [List.getD_eq_getElem?_getD, cutR_get, List.getD_eq_getElem?_getD]
  cases y[k]? with
  | none => show x0 = if _ then c x0 else x0; rw [h0]; split <;> rfl
  | some x => rfl
theorem rowP_cut {f : α → Bool} (h0 : c x0 = x0) (hf : ∀ x, f (c x) = false) : rowP x0 f (cutR c zs p y) p k = (rowP x0 f y p k).filter fun z => !decide (z ∈ zs) := by
  unfold rowP
  rw [List.filter_map, List.filter_filter]
  congr 1
  refine List.filter_congr fun j _ => ?_
  rw [cutR_getD h0]
  show _ = ((!decide ((p, j) ∈ zs)) && _)
  by_cases q : (p, j) ∈ zs
  · rw [if_pos q, hf, decide_eq_true q]; rfl
  · rw [if_neg q, decide_eq_false q]; rfl
theorem cutB_getD : (cutB c zs bs).getD p [] = cutR c zs p (bs.getD p []) := by
  rw [List.getD_eq_getElem?_getD, cutB_get, List.getD_eq_getElem?_getD]
  cases bs[p]? with
  | none => rfl
  | some x => rfl
theorem ptsP_cut {f : α → Bool} (h0 : c x0 = x0) (hf : ∀ x, f (c x) = false) : ptsP x0 f (cutB c zs bs) n = (ptsP x0 f bs n).filter fun z => !decide (z ∈ zs) := by
  unfold ptsP
  rw [List.filter_flatten, List.map_map]
  congr 1
  refine List.map_congr_left fun p _ => ?_
  show _ = List.filter _ _
  rw [cutB_getD, cutR_len, rowP_cut h0 hf]
inductive Part : List (Nat × Nat) → List (Nat × Nat) → List (Nat × Nat) → Prop
  | nil : Part [] [] []
  | l {L C R x} : Part L C R → x ∉ L → Part (L ++ [x]) (C ++ [x]) R
  | r {L C R x} : Part L C R → x ∉ L → Part (L ++ [x]) C (R ++ [x])
theorem Part.swap {L C R} (h : Part L C R) : Part L R C := by
  induction h with
  | nil => exact .nil
  | l _ n ih => exact .r ih n
  | r _ n ih => exact .l ih n
theorem Part.sub {L C R} (h : Part L C R) : ∀ z ∈ C, z ∈ L := by
  induction h with
  | nil => exact fun _ z => z
  | l _ n ih =>
    intro z hz
    rcases List.mem_append.mp hz with q | q
    · exact List.mem_append_left _ (ih z q)
    · exact List.mem_append_right _ q
  | r _ n ih => exact fun z hz => List.mem_append_left _ (ih z hz)
theorem Part.rest {L C R} (h : Part L C R) : L.filter (fun z => !decide (z ∈ C)) = R := by
  induction h with
  | nil => rfl
  | @l L C R x h n ih =>
    rw [List.filter_append, List.filter_cons, if_neg (by simp), List.filter_nil, List.append_nil, ← ih]
    refine List.filter_congr fun z hz => ?_
    congr 1
    have : z ≠ x := fun e => n (e ▸ hz)
    simp [this]
  | @r L C R x h n ih =>
    rw [List.filter_append, List.filter_cons, if_pos (by simp; exact fun q => n (h.sub x q)), List.filter_nil, ih]
theorem Part.all {L C R} (h : Part L C R) : ∀ z ∈ L, z ∈ C ++ R := by
  induction h with
  | nil => exact fun _ z => z
  | l _ n ih =>
    intro z hz
    rcases List.mem_append.mp hz with q | q
    · rcases List.mem_append.mp (ih z q) with a | a
      · exact List.mem_append_left _ (List.mem_append_left _ a)
      · exact List.mem_append_right _ a
    · exact List.mem_append_left _ (List.mem_append_right _ q)
  | r _ n ih =>
    intro z hz
    rcases List.mem_append.mp hz with q | q
    · rcases List.mem_append.mp (ih z q) with a | a
      · exact List.mem_append_left _ a
      · exact List.mem_append_right _ (List.mem_append_left _ a)
    · exact List.mem_append_right _ (List.mem_append_right _ q)
theorem Part.none {L C R} (h : Part L C R) : L.filter (fun z => !decide (z ∈ C ++ R)) = [] := by
  rw [List.filter_eq_nil_iff]
  intro z hz
  rw [decide_eq_true (h.all z hz)]; decide
theorem Part.len {L C R} (h : Part L C R) : C.length + R.length = L.length := by
  induction h with
  | nil => rfl
  | l _ _ ih => rw [List.length_append, List.length_append, List.length_singleton]; omega
  | r _ _ ih => rw [List.length_append, List.length_append, List.length_singleton]; omega
end cutm

theorem ixN_nat {n j : Nat} (h : j < n) : ixN n (j : Int) = some j := by
  unfold ixN
  simp; omega
def Q.cut : Q → Q
  | .ift w _ => .ift w (-1)
  | .go _ => .go (-1)
  | q => q
theorem Q.cut_cut (q : Q) : q.cut.cut = q.cut := by cases q <;> rfl
theorem Q.cut_P (q : Q) : Q.isP q.cut = Q.isP q := by cases q <;> rfl
theorem Q.cut_J (q : Q) : Q.isJ q.cut = Q.isJ q := by cases q <;> rfl
theorem Q.cut_hit (q : Q) : Q.hit kJ q.cut = false := by
  cases q with
  | perf f l => show (decide (("perform" : Str) ∈ kJ) && !decide (l = -1)) = false; rw [show decide (("perform" : Str) ∈ kJ) = false by decide +kernel]; rfl
  | ift w t => show (decide (("if" : Str) ∈ kJ) && !decide ((-1 : Int) = -1)) = false; rw [decide_eq_true (show (-1 : Int) = -1 from rfl), Bool.not_true, Bool.and_false]
  | go t => show (decide (("go" : Str) ∈ kJ) && !decide ((-1 : Int) = -1)) = false; rw [decide_eq_true (show (-1 : Int) = -1 from rfl), Bool.not_true, Bool.and_false]
  | act w => rfl
  | stop => rfl
theorem Q.cut_ok {q : Q} {c : Int} (h : q.okc c) : q.cut.okc c := by
  cases q with
  | ift w t => exact ⟨h.1, Int.le_refl _, by have := h.2; omega⟩
  | go t => exact ⟨Int.le_refl _, by have : -1 ≤ t ∧ t < c := h; omega⟩
  | perf f l => exact h
  | act w => exact h
  | stop => exact h
abbrev ptD2 (z : Nat × Nat) : D := ptD z.1 z.2
theorem rowB_P {α : Type} {x0 : α} {f : α → Bool} {y : List α} {p k : Nat} : rowB x0 f y p k = (rowP x0 f y p k).map ptD2 := by
  unfold rowB rowP
  rw [List.map_map]; rfl
theorem ptsB_P {α : Type} {x0 : α} {f : α → Bool} {bs : List (List α)} {n : Nat} : ptsB x0 f bs n = (ptsP x0 f bs n).map ptD2 := by
  unfold ptsB ptsP
  rw [List.map_flatten, List.map_map]
  congr 1
  refine List.map_congr_left fun p _ => ?_
  exact rowB_P
theorem ptsP_len {α : Type} {x0 : α} {f : α → Bool} {bs : List (List α)} (h : ∀ y ∈ bs, y.length ≤ 100) (n : Nat) : (ptsP x0 f bs n).length ≤ n * 100 := by
  have e := ptsB_len (x0 := x0) (f := f) h n
  rw [ptsB_P, List.length_map] at e
  exact e
theorem cut_each {c : Nat} {zs : List (Nat × Nat)} {bs : List (List Q)} (h : ∀ y ∈ bs, y.length ≤ 4 ∧ ∀ q ∈ y, q.okc c) : ∀ y ∈ cutB Q.cut zs bs, y.length ≤ 4 ∧ ∀ q ∈ y, q.okc c := fun z hz => by
  obtain ⟨p, y, hy, rfl⟩ := cutB_row hz
  obtain ⟨a, b⟩ := h y (List.mem_of_getElem? hy)
  refine ⟨by rw [cutR_len]; exact a, fun q hq => ?_⟩
  obtain ⟨x, hx, e⟩ := cutR_mem hq
  rcases e with rfl | rfl
  · exact b _ hx
  · exact Q.cut_ok (b _ hx)
theorem goodb_cut {zs : List (Nat × Nat)} {bs : List (List Q)} (h : GoodB bs) : GoodB (cutB Q.cut zs bs) :=
  ⟨by rw [cutB_len]; exact h.n1, by rw [cutB_len]; exact h.n8, by rw [cutB_len]; exact cut_each h.each, by rw [cutB_count _ Q.cut_P]; exact h.p, by rw [cutB_count _ Q.cut_J]; exact h.j⟩
theorem goodq_cut {c : Nat} {zs : List (Nat × Nat)} {bs : List (List Q)} (h : GoodQ c bs) : GoodQ c (cutB Q.cut zs bs) :=
  ⟨by rw [cutB_len]; exact h.n, h.n8, cut_each h.each⟩
def PtsJ (zs : List (Nat × Nat)) (bs : List (List Q)) : Prop := ∀ z ∈ zs, ∃ y q, bs[z.1]? = some y ∧ y[z.2]? = some q ∧ q.isJ = true
theorem PtsJ.cut {zs ws : List (Nat × Nat)} {bs : List (List Q)} (h : PtsJ zs bs) : PtsJ zs (cutB Q.cut ws bs) := fun z hz => by
  obtain ⟨y, q, h1, h2, h3⟩ := h z hz
  refine ⟨cutR Q.cut ws z.1 y, if (z.1, z.2) ∈ ws then q.cut else q, by rw [cutB_get, h1]; rfl, by rw [cutR_get, h2]; rfl, ?_⟩
  split
  · rw [Q.cut_J]; exact h3
  · exact h3
theorem PtsJ.app {zs ws : List (Nat × Nat)} {bs : List (List Q)} (h : PtsJ zs bs) (h2 : PtsJ ws bs) : PtsJ (zs ++ ws) bs := fun z hz => by
  rcases List.mem_append.mp hz with q | q
  · exact h z q
  · exact h2 z q
theorem hit_isJ {q : Q} (h : Q.hit kJ q = true) : q.isJ = true := by
  cases q with
  | perf f l =>
    have h : (decide (("perform" : Str) ∈ kJ) && !decide (l = -1)) = true := h
    rw [show decide (("perform" : Str) ∈ kJ) = false by decide +kernel] at h; cases h
  | ift w t => rfl
  | go t => rfl
  | act w => cases h
  | stop => cases h
theorem ptsJ_of {zs : List (Nat × Nat)} {bs : List (List Q)} (h : ∀ z ∈ zs, z ∈ ptsP .stop (Q.hit kJ) bs bs.length) : PtsJ zs bs := fun z hz => by
  obtain ⟨a, b, c⟩ := mem_ptsP (h z hz)
  have e : bs.getD z.1 [] = bs[z.1] := getD_of (List.getElem?_eq_getElem a)
  rw [e] at b c
  rw [getD_of (List.getElem?_eq_getElem b)] at c
  exact ⟨bs[z.1], bs[z.1][z.2], List.getElem?_eq_getElem a, List.getElem?_eq_getElem b, hit_isJ c⟩
theorem eqPt (a b : Nat × Nat) : eqD (ptD2 a) (ptD2 b) = decide (a = b) := by
  show ((((a.1 : Nat) : Int) == ((b.1 : Nat) : Int)) && ((((a.2 : Nat) : Int) == ((b.2 : Nat) : Int)) && true)) = decide (a = b)
  rw [Bool.and_true, Bool.eq_iff_iff, Bool.and_eq_true, beq_iff_eq, beq_iff_eq, decide_eq_true_iff, Prod.ext_iff]
  omega
theorem any_pt (z : Nat × Nat) : ∀ zs : List (Nat × Nat), ((zs.map ptD2).any fun b => eqD b (ptD2 z)) = decide (z ∈ zs)
  | [] => rfl
  | y :: zs => by
    rw [List.map_cons, List.any_cons, any_pt z zs, eqPt, Bool.eq_iff_iff, Bool.or_eq_true, decide_eq_true_iff, decide_eq_true_iff, decide_eq_true_iff, List.mem_cons, eq_comm]
theorem pt_ok (z : Nat × Nat) : D.ok (ptD2 z) := ⟨rfl, Nat.le_of_ble_eq_true rfl⟩
theorem pts_sh (zs : List (Nat × Nat)) : D.shs (zs.map ptD2) = true := shs_all _ fun d hd => by
  obtain ⟨z, _, rfl⟩ := List.mem_map.mp hd
  exact (pt_ok z).1
theorem pts_okD (zs : List (Nat × Nat)) : D.ok (.tup (zs.map ptD2)) := ok_tup fun d hd => by
  obtain ⟨z, _, rfl⟩ := List.mem_map.mp hd
  exact ⟨rfl, Nat.le_of_ble_eq_true rfl⟩
abbrev rowsE (L : List (List Sm)) : List NE := L.map fun y => NE.row (smD y)
theorem rowsE_rows (L : List (List Sm)) : rows (rowsE L) := fun e he => by
  obtain ⟨y, _, rfl⟩ := List.mem_map.mp he
  exact ⟨_, rfl⟩
theorem rowsE_D (L : List (List Sm)) : nesD (rowsE L) = .lst (L.map fun y => .lst (smD y)) := by
  show D.lst ((L.map _).map NE.d) = _
  rw [List.map_map]; rfl
theorem rowsE_range (L : List (List Sm)) : (List.range L.length).map (fun i => NE.row (smD (L.getD i []))) = rowsE L := by
  refine List.ext_getElem? fun i => ?_
  rw [List.getElem?_map, List.getElem?_map]
  by_cases hi : i < L.length
  · rw [List.getElem?_range hi, List.getElem?_eq_getElem hi]
    show some (NE.row (smD (L.getD i []))) = _
    rw [List.getD_eq_getElem?_getD, List.getElem?_eq_getElem hi]; rfl
  · rw [List.getElem?_eq_none (by rw [List.length_range]; omega), List.getElem?_eq_none (by omega)]; rfl
theorem rowsE_set {names : List Str} {L : List (List Q)} {p k : Nat} {y : List Q} {x : Q} : (rowsE (nmB names L)).set p (.row ((smD (y.map (nameQ names))).set k (nameQ names x).d)) = rowsE (nmB names (L.set p (y.set k x))) := by
  unfold rowsE nmB smD
  rw [List.map_set, List.map_set]
  show _ = List.set _ p (NE.row (((y.set k x).map (nameQ names)).map Sm.d))
  rw [List.map_set, List.map_set]
theorem zip_prs {names : List Str} {bs : List (List Q)} (hl : names.length = bs.length) : zipD (sD names) ((nmB names bs).map fun y => .lst (smD y)) = (prs names bs).map pD := by
  have a : sD names = (prs names bs).map fun y => D.str y.1 := by
    have e : sD ((prs names bs).map (·.1)) = (prs names bs).map fun y => D.str y.1 := by unfold sD; rw [List.map_map]; rfl
    rw [prs_fst hl] at e; exact e
  have b : (nmB names bs).map (fun y => D.lst (smD y)) = (prs names bs).map fun y => D.lst (smD y.2) := by
    have e : ((prs names bs).map (·.2)).map (fun y => D.lst (smD y)) = (prs names bs).map fun y => D.lst (smD y.2) := by rw [List.map_map]; rfl
    rw [prs_snd] at e; exact e
  rw [a, b]
  unfold zipD
  rw [List.zip_map', List.map_map]; rfl
theorem aim_m1 (names : List Str) : aimS names (-1) = "" := by unfold aimS; rw [if_neg (by decide)]
def RCut (ds : List D) (d : D) : Prop := ∃ (bs : List (List Q)) (zs : List (Nat × Nat)) (c : Nat), ds = [.lst (bodD bs), .tup (zs.map ptD2)] ∧ GoodQ c bs ∧ PtsJ zs bs ∧ d = .lst (bodD (cutB Q.cut zs bs))
def RSameB (CP : Addr) (ds : List D) (d : D) : Prop := ∃ (names : List Str) (bs : List (List Q)), ds = [progD CP names (nmB names bs), .lst (sD names), .lst (bodD bs)] ∧ GoodQ names.length bs ∧ (∀ w ∈ names, NameOk w) ∧ d = .bl true
def RRed (CP : Addr) (ds : List D) (d : D) : Prop := ∃ (names : List Str) (bs : List (List Q)) (zs : List (Nat × Nat)), ds = [progD CP names (nmB names bs), .tup (zs.map ptD2)] ∧ GoodB bs ∧ GoodN names ∧ names.length = bs.length ∧ PtsJ zs bs ∧ d = progD CP names (nmB names (cutB Q.cut zs bs))
theorem pu_sm (x : Sm) : D.pu x.d = true := by cases x <;> rfl
theorem red_v {K : PySem.W.Frag} {names : List Str} {q : Q} {te : TE} {ρ : Rho} (hJ : q.isJ = true) (h : EvD K te ρ (nameQ names q).d) : EvD K (tOp (rPlus K) (tSl (rSlX K) te tNoPart (tPart (tUn (rU fun i => .int (-i)) (tC (.int 1))))) (tTup (tCons (tC (.str "")) tNil))) ρ (nameQ names q.cut).d := by
  cases q with
  | perf f l => cases hJ
  | act w => cases hJ
  | stop => cases hJ
  | go t =>
    refine ev_is (ev_op (ev_slT (ds := [.str "go", .str (aimS names t)]) h eo_no (eo_so (ev_neg ev_ci))) (ev_tup (es_cons ev_cs es_nil) (Nat.le_of_ble_eq_true rfl)) (rd_plusT (Nat.le_of_ble_eq_true rfl))) ?_
    show _ = D.tup [.str "go", .str (aimS names (-1))]
    rw [aim_m1]; rfl
  | ift w t =>
    refine ev_is (ev_op (ev_slT (ds := [.str "if", .str w, .str (aimS names t)]) h eo_no (eo_so (ev_neg ev_ci))) (ev_tup (es_cons ev_cs es_nil) (Nat.le_of_ble_eq_true rfl)) (rd_plusT (Nat.le_of_ble_eq_true rfl))) ?_
    show _ = D.tup [.str "if", .str w, .str (aimS names (-1))]
    rw [aim_m1]; rfl
theorem cut_v {K : PySem.W.Frag} {q : Q} {te : TE} {ρ : Rho} (hJ : q.isJ = true) (h : EvD K te ρ q.d) : EvD K (tOp (rPlus K) (tSl (rSlX K) te tNoPart (tPart (tUn (rU fun i => .int (-i)) (tC (.int 1))))) (tTup (tCons (tUn (rU fun i => .int (-i)) (tC (.int 1))) tNil))) ρ q.cut.d := by
  cases q with
  | perf f l => cases hJ
  | act w => cases hJ
  | stop => cases hJ
  | go t => exact ev_is (ev_op (ev_slT (ds := [.str "go", .int t]) h eo_no (eo_so (ev_neg ev_ci))) (ev_tup (es_cons (ev_neg ev_ci) es_nil) (Nat.le_of_ble_eq_true rfl)) (rd_plusT (Nat.le_of_ble_eq_true rfl))) rfl
  | ift w t => exact ev_is (ev_op (ev_slT (ds := [.str "if", .str w, .int t]) h eo_no (eo_so (ev_neg ev_ci))) (ev_tup (es_cons (ev_neg ev_ci) es_nil) (Nat.le_of_ble_eq_true rfl)) (rd_plusT (Nat.le_of_ble_eq_true rfl))) rfl

theorem hit_test {K : PySem.W.Frag} {q : Q} {X : TE} {ρ : Rho} (h : EvD K X ρ q.d) : EvB K (tAnd (tTest (tOp (rIn K false) (tOp (rIx K) X (tC (.int 0))) (tTup (tCons (tC (.str "go")) (tCons (tC (.str "if")) tNil))))) (tTest (tOp (rNeD K) (tOp (rIx K) X (tUn (rU fun i => .int (-i)) (tC (.int 1)))) (tUn (rU fun i => .int (-i)) (tC (.int 1)))))) ρ (Q.hit kJ q) := by
  have w0 : EvB K (tTest (tOp (rIn K false) (tOp (rIx K) X (tC (.int 0))) (tTup (tCons (tC (.str "go")) (tCons (tC (.str "if")) tNil))))) ρ (decide (q.word ∈ kJ)) := eb_test (ev_op (ev_op h ev_ci (ix_wordQ q)) (ev_tup (es_cons ev_cs (es_cons ev_cs es_nil)) (Nat.le_of_ble_eq_true rfl)) (RvS.toD (rs_inT (neg := false) (xs := kJ))))
  have off : ∀ (w : Str), q.word = w → w ∉ kJ → Q.hit kJ q = false → EvB K (tAnd (tTest (tOp (rIn K false) (tOp (rIx K) X (tC (.int 0))) (tTup (tCons (tC (.str "go")) (tCons (tC (.str "if")) tNil))))) (tTest (tOp (rNeD K) (tOp (rIx K) X (tUn (rU fun i => .int (-i)) (tC (.int 1)))) (tUn (rU fun i => .int (-i)) (tC (.int 1)))))) ρ (Q.hit kJ q) := fun w hw hn hf => by
    refine eb_is (eb_and (q := false) w0 fun z => ?_) ?_
    · rw [hw, decide_eq_true_eq] at z; exact absurd z hn
    · rw [Bool.and_false, hf]
  have on : ∀ (w : Str) (t : Int), q.word = w → EvD K (tOp (rIx K) X (tUn (rU fun i => .int (-i)) (tC (.int 1)))) ρ (.int t) → Q.hit kJ q = (decide (w ∈ kJ) && !decide (t = -1)) → EvB K (tAnd (tTest (tOp (rIn K false) (tOp (rIx K) X (tC (.int 0))) (tTup (tCons (tC (.str "go")) (tCons (tC (.str "if")) tNil))))) (tTest (tOp (rNeD K) (tOp (rIx K) X (tUn (rU fun i => .int (-i)) (tC (.int 1)))) (tUn (rU fun i => .int (-i)) (tC (.int 1)))))) ρ (Q.hit kJ q) := fun w t hw ht hf => by
    refine eb_is (eb_and w0 fun z => eb_test (ev_neE ht.rd (EvD.rd (ev_neg ev_ci)) (ok_int _) (ok_int _))) ?_
    rw [hw, hf, eqD_int]
    congr 2
  cases q with
  | perf f l => exact off "perform" rfl (by decide +kernel) (by show (decide (("perform" : Str) ∈ kJ) && !decide (l = -1)) = false; rw [show decide (("perform" : Str) ∈ kJ) = false by decide +kernel]; rfl)
  | ift w t => exact on "if" t rfl (ev_op h (ev_neg ev_ci) (rd_ixT (as := [.str "if", .str w, .int t]) (atI_neg1 rfl))) rfl
  | go t => exact on "go" t rfl (ev_op h (ev_neg ev_ci) (rd_ixT (as := [.str "go", .int t]) (atI_neg1 rfl))) rfl
  | act w => exact off "act" rfl (by decide +kernel) rfl
  | stop => exact off "stop" rfl (by decide +kernel) rfl

section
variable {P : Program} {w : World} {K : PySem.W.Frag} {mg : Str → Option Value} {base : Heap}
variable {C_Program : Addr}
abbrev s_law_number : Stmt := top 26
theorem sc_law_number : FnScope ["_law_script", "_law_k", "_law_cell", "_law_mixed"] ["_law_script", "_law_k"] (defScope s_law_number) := ⟨rfl, rfl, rfl, by decide +kernel, rfl, by decide +kernel, by decide +kernel⟩
theorem cal_law_number (T : Txt mg) (h : Has K mg "_law_number" s_law_number ["_law_script", "_law_k"]) : Cal P w K mg base "_law_number" 1 ["_law_script", "_law_k"] (spD K 2 RNum) := by
  refine h.cal sc_law_number rfl fun f cdv A outer s H E hr => ?_
  have nd := sc_law_number.nd
  have hu := hr.units
  refine ⟨_, (pss_cons (ps_set (i := 2) nd rfl (Or.inl rfl) pe_int)
      (pss_cons (ps_if (pt_cmpR op_lt (pv 1) (pe_callB call_lenA (by rfl) T.n_len (by decide +kernel) (pa_cons (pv 0) pa_nil)) (nomark _)) (pss_cons (ps_set (i := 2) nd rfl (Or.inl rfl) (pe_ix ix_seq (pv 0) (pv 1) (fun _ _ => rfl)))
      (pss_one (ps_if (pt_cmpR op_ge (pv 2) (pe_op op_pow pe_int pe_int) (nomark _)) (pss_one (ps_ret (pe_op op_sub (pv 2) (pe_op op_pow pe_int pe_int)))) pss_nil))) pss_nil)
      (pss_cons (ps_set (i := 3) nd rfl (Or.inl rfl) (pe_op op_mod (pe_callTy call_int1 (by rfl) T.n_int (by decide +kernel) (pa_cons (pe_op op_plus (pe_op op_plus (pe_op op_plus (pe_op op_mul (pv 2) pe_int) (pe_op op_mul (pv 1) pe_int)) (pe_op op_mul (pe_callB (cr_sum rfl) (by rfl) T.n_sum (by decide +kernel) (pa_cons (pv 0) pa_nil)) pe_int)) pe_int) pa_nil)) pe_int))
      (pss_one (ps_ret (pe_op op_fdiv (pe_op op_mod (pe_callTy call_int1 (by rfl) T.n_int (by decide +kernel) (pa_cons (pe_op op_plus (pe_op op_plus (pe_op op_mul (pv 3) (pv 3)) (pe_op op_mul (pe_op op_mul pe_int (pv 1)) (pv 3))) pe_int) pa_nil)) pe_int) pe_int)))))), ?_⟩
  try dsimp only [Cx.nox, Cx.wish, cxOf]
  rintro ds d ⟨ns, k, rfl, hk, rfl⟩
  refine .rt ?_
  show StD K _ [some (.dat (scr ns)), some (.dat (.int k)), none, none] _
  walk_at "asg"
  by_cases h1 : k < ns.length
  · have e1 : atI (ns.map D.int) k = some (.int (ns.getD k.toNat 0)) := atI_of hk (by
      rw [List.getElem?_map, List.getD_eq_getElem?_getD, List.getElem?_eq_getElem (show k.toNat < ns.length by omega)]
      rfl)
    by_cases h2 : 10 ^ 18 ≤ ns.getD k.toNat 0
    · apply sd_seqR; apply sd_ifp; walk_at "eb"
      · rw [List.length_map]; exact decide_eq_true h1
      apply sd_seq; apply sd_asg; exact ev_op (ev_v rfl) (ev_v rfl) (rd_ixL e1); dsimp only [List.set]
      apply sd_ifp; walk_at "eb"
      · exact decide_eq_true h2
      apply sd_retI; walk_at "ev"
      rw [num, if_pos h1, if_pos h2]
      rfl
    · apply sd_seq; apply sd_ifp; walk_at "eb"
      · rw [List.length_map]; exact decide_eq_true h1
      · apply sd_seq; apply sd_asg; exact ev_op (ev_v rfl) (ev_v rfl) (rd_ixL e1); dsimp only [List.set]
        apply sd_ifn; walk_at "eb"
        · exact decide_eq_false h2
        exact sd_next
      rw [num, if_pos h1, if_neg h2]
      generalize ns.getD k.toNat 0 = c
      walk_at "asg"
      unfold numT
      have h3 : (0 : Int) ≤ (c * 48271 + k * 69621 + ns.sum * 40692 + 12345) % 2147483647 := Int.emod_nonneg _ (by decide)
      have h4 : (c * 48271 + k * 69621 + ns.sum * 40692 + 12345) % 2147483647 < 2147483647 := Int.emod_lt_of_pos _ (by decide)
      generalize (c * 48271 + k * 69621 + ns.sum * 40692 + 12345) % 2147483647 = m at h3 h4 ⊢
      apply sd_ret; walk_at "ev"
  · apply sd_seq; apply sd_ifn; walk_at "eb"
    · rw [List.length_map]; exact decide_eq_false h1
    · exact sd_next
    rw [num, if_neg h1]
    walk_at "asg"
    unfold numT
    have h3 : (0 : Int) ≤ (0 * 48271 + k * 69621 + ns.sum * 40692 + 12345) % 2147483647 := Int.emod_nonneg _ (by decide)
    have h4 : (0 * 48271 + k * 69621 + ns.sum * 40692 + 12345) % 2147483647 < 2147483647 := Int.emod_lt_of_pos _ (by decide)
    generalize (0 * 48271 + k * 69621 + ns.sum * 40692 + 12345) % 2147483647 = m at h3 h4 ⊢
    apply sd_ret; walk_at "ev"
abbrev s_law_word : Stmt := top 27
theorem sc_law_word : FnScope ["_law_n", "_law_word_here", "_law_size", "_law_k"] ["_law_n"] (defScope s_law_word) := ⟨rfl, rfl, rfl, by decide +kernel, rfl, by decide +kernel, by decide +kernel⟩
theorem cal_law_word (T : Txt mg) (h : Has K mg "_law_word" s_law_word ["_law_n"]) : Cal P w K mg base "_law_word" 1 ["_law_n"] (spD K 1 RWord) := by
  refine h.cal sc_law_word rfl fun f cdv A outer s H E hr => ?_
  have nd := sc_law_word.nd
  have hu := hr.units
  refine ⟨_, (pss_cons (ps_set (i := 1) nd rfl (Or.inl rfl) pe_str)
      (pss_cons (ps_set (i := 2) nd rfl (Or.inl rfl) (pe_op op_plus pe_int (pe_op op_mod (pe_callTy call_int1 (by rfl) T.n_int (by decide +kernel) (pa_cons (pv 0) pa_nil)) pe_int)))
      (pss_cons (ps_set (i := 0) nd rfl (Or.inl rfl) (pe_op op_fdiv (pv 0) pe_int))
      (pss_cons (ps_for PassesOwn.never rfl (pi_range1 (by rfl) T.n_range (pa_cons (pv 2) pa_nil)) (pg_name (i := 3) nd rfl (Or.inl rfl)) (pss_cons (ps_set (i := 1) nd rfl (Or.inl rfl) (pe_op op_plus (pv 1) (pe_ix ix_seq pe_str (pe_op op_mod (pe_callTy call_int1 (by rfl) T.n_int (by decide +kernel) (pa_cons (pv 0) pa_nil)) pe_int) (fun _ _ => rfl))))
      (pss_one (ps_set (i := 0) nd rfl (Or.inl rfl) (pe_op op_fdiv (pv 0) pe_int)))))
      (pss_one (ps_ret (pv 1))))))), ?_⟩
  try dsimp only [Cx.nox, Cx.wish, cxOf]
  rintro ds d ⟨n, rfl, hn, rfl⟩
  refine .rt ?_
  show StD K _ [some (.dat (.int n)), none, none, none] _
  walk_at "asg"
  walk_at "asg"
  walk_at "asg"
  have s1 : 0 ≤ n % 12 := Int.emod_nonneg _ (by decide)
  have s2 : n % 12 < 12 := Int.emod_lt_of_pos _ (by decide)
  have m0 : 0 ≤ n / 12 := Int.ediv_nonneg hn (by decide)
  unfold wordF
  generalize n / 12 = m at m0 ⊢
  generalize n % 12 = q at s1 s2 ⊢
  apply sd_seq
  · apply sd_forR (es_cons (ev_v rfl) es_nil) (by omega) (by omega) (fun k => [some (.dat (.int (m / 26 ^ k))), some (.dat (.str (mkS (wordL m k)))), some (.dat (.int (1 + q))), none])
    · show [_, _, _, _] = [_, _, _, _]
      rw [Int.pow_zero, Int.ediv_one, mkS_nil]; rfl
    intro k hk
    dsimp only [List.set]
    have e1 : 0 ≤ m / 26 ^ k := Int.ediv_nonneg m0 (Int.pow_nonneg (by decide))
    have e2 : 0 ≤ m / 26 ^ k % 26 := Int.emod_nonneg _ (by decide)
    have e3 : m / 26 ^ k % 26 < 26 := Int.emod_lt_of_pos _ (by decide)
    apply turn_nx
    · apply sd_seq; apply sd_asg
      · apply ev_op (ev_v rfl) (ev_op ev_cs (ev_op (ev_cbS (er_cons (ev_v rfl).rd er_nil) rs_int1) ev_ci (RvS.toD (rs_I (g := fun i j => i % j) (by decide)))) (RvS.toD (ix_alpha e2 e3))) (RvS.toD (rs_plusS ?_))
        rw [mkS_len, mkS_len, wordL_len]; show k + 1 ≤ _; omega
      dsimp only [List.set]
      apply sd_asg; walk_at "ev"
    · dsimp only [List.set]
      rw [mkS_app, ediv_pow]
      have : wordL m k ++ [97 + (m / 26 ^ k % 26).toNat] = wordL m (k + 1) := (wordL_succ m k).symm
      rw [this]
      walk_at "le"
  exact sd_ret (ev_v rfl)
abbrev s_law_some : Stmt := top 28
theorem sc_law_some : FnScope ["_law_n", "_law_menu"] ["_law_n", "_law_menu"] (defScope s_law_some) := ⟨rfl, rfl, rfl, by decide +kernel, rfl, by decide +kernel, by decide +kernel⟩
theorem cal_law_some (T : Txt mg) (c__law_word : Cal P w K mg base "_law_word" 1 ["_law_n"] (spD K 1 RWord)) (h : Has K mg "_law_some" s_law_some ["_law_n", "_law_menu"]) : Cal P w K mg base "_law_some" 2 ["_law_n", "_law_menu"] (spD K 2 RSome) := by
  refine h.cal sc_law_some rfl fun f cdv A outer s H E hr => ?_
  have nd := sc_law_some.nd
  have hu := hr.units
  refine ⟨_, (pss_cons (ps_if (pt_cmpR op_ge (pv 0) (pe_op op_pow pe_int pe_int) (nomark _)) (pss_one (ps_ret (pe_cal c__law_word (hr.mono (by decide)) (pa_cons (pe_op op_sub (pv 0) (pe_op op_pow pe_int pe_int)) pa_nil)))) pss_nil)
      (pss_one (ps_ret (pe_ix ix_seq (pv 1) (pe_op op_mod (pe_callTy call_int1 (by rfl) T.n_int (by decide +kernel) (pa_cons (pv 0) pa_nil)) (pe_callB call_lenA (by rfl) T.n_len (by decide +kernel) (pa_cons (pv 1) pa_nil))) (fun _ _ => rfl))))), ?_⟩
  try dsimp only [Cx.nox, Cx.wish, cxOf]
  rintro ds d ⟨n, menu, rfl, hn, hm, hm2, rfl⟩
  refine .rt ?_
  show StD K _ [some (.dat (.int n)), some (.dat (.str menu))] _
  unfold someF
  by_cases h : 10 ^ 9 ≤ n
  · apply sd_seqR; apply sd_ifp; walk_at "eb"; exact decide_eq_true h
    rw [if_pos h]
    apply sd_ret; apply ev_call; walk_at "es"; exact rfl
    refine ⟨_, rfl, ?_, rfl⟩
    show (0 : Int) ≤ n - 10 ^ 9
    omega
  · apply sd_seq; apply sd_ifn; walk_at "eb"; exact decide_eq_false h; exact sd_next
    rw [if_neg h]
    apply sd_ret
    have z : 0 < (menu.length : Int) := by omega
    have e1 : 0 ≤ n % (menu.length : Int) := Int.emod_nonneg _ (by omega)
    have e2 : n % (menu.length : Int) < (menu.length : Int) := Int.emod_lt_of_pos _ z
    apply ev_op; exact ev_v rfl
    · apply ev_op; walk_at "ev"
      · apply ev_cbS; walk_at "er"; exact rs_lenS (by omega)
      · exact RvS.toD (rs_I (C := fun _ j => 0 < j) (g := fun i j => i % j) z)
    refine RvS.toD (rs_ixS (c := menuC n menu) (by omega) (atI_of e1 ?_))
    unfold menuC
    have z2 : (n % (menu.length : Int)).toNat < menu.cps.toList.length := by rw [Array.length_toList]; show _ < menu.length; omega
    rw [List.getD_eq_getElem?_getD, List.getElem?_eq_getElem z2]; rfl
abbrev s_law_drawn : Stmt := top 29
theorem sc_law_drawn : FnScope ["_law_n", "_law_count", "_law_kind", "_law_first"] ["_law_n", "_law_count"] (defScope s_law_drawn) := ⟨rfl, rfl, rfl, by decide +kernel, rfl, by decide +kernel, by decide +kernel⟩
theorem cal_law_drawn (T : Txt mg) (c__law_some : Cal P w K mg base "_law_some" 2 ["_law_n", "_law_menu"] (spD K 2 RSome)) (h : Has K mg "_law_drawn" s_law_drawn ["_law_n", "_law_count"]) : Cal P w K mg base "_law_drawn" 3 ["_law_n", "_law_count"] (spD K 2 RDrawn) := by
  refine h.cal sc_law_drawn rfl fun f cdv A outer s H E hr => ?_
  have nd := sc_law_drawn.nd
  have hu := hr.units
  refine ⟨_, (pss_cons (ps_set (i := 2) nd rfl (Or.inl rfl) (pe_op op_mod (pe_callTy call_int1 (by rfl) T.n_int (by decide +kernel) (pa_cons (pv 0) pa_nil)) pe_int))
      (pss_cons (ps_set (i := 0) nd rfl (Or.inl rfl) (pe_op op_fdiv (pv 0) pe_int))
      (pss_cons (ps_if (pt_cmpR op_lt (pv 2) pe_int (nomark _)) (pss_cons (ps_set (i := 3) nd rfl (Or.inl rfl) (pe_op op_mod (pe_callTy call_int1 (by rfl) T.n_int (by decide +kernel) (pa_cons (pv 0) pa_nil)) (pv 1)))
      (pss_one (ps_ret (pe_tup (pa_cons pe_str (pa_cons (pv 3) (pa_cons (pe_op op_plus (pv 3) (pe_op op_mod (pe_callTy call_int1 (by rfl) T.n_int (by decide +kernel) (pa_cons (pe_op op_fdiv (pv 0) (pv 1)) pa_nil)) (pe_op op_sub (pv 1) (pv 3)))) pa_nil))))))) pss_nil)
      (pss_cons (ps_if (pt_cmpR op_lt (pv 2) pe_int (nomark _)) (pss_one (ps_ret (pe_tup (pa_cons pe_str (pa_cons (pe_cal c__law_some (hr.mono (by decide)) (pa_cons (pe_op op_fdiv (pv 0) (pe_op op_plus (pv 1) pe_int)) (pa_cons pe_str pa_nil))) (pa_cons (pe_op op_sub (pe_op op_mod (pe_callTy call_int1 (by rfl) T.n_int (by decide +kernel) (pa_cons (pv 0) pa_nil)) (pe_op op_plus (pv 1) pe_int)) pe_int) pa_nil)))))) pss_nil)
      (pss_cons (ps_if (pt_cmpR (op_eqD hu) (pv 2) pe_int (nomark _)) (pss_one (ps_ret (pe_tup (pa_cons pe_str (pa_cons (pe_op op_sub (pe_op op_mod (pe_callTy call_int1 (by rfl) T.n_int (by decide +kernel) (pa_cons (pv 0) pa_nil)) (pe_op op_plus (pv 1) pe_int)) pe_int) pa_nil))))) pss_nil)
      (pss_cons (ps_if (pt_cmpR op_lt (pv 2) pe_int (nomark _)) (pss_one (ps_ret (pe_tup (pa_cons pe_str (pa_cons (pe_cal c__law_some (hr.mono (by decide)) (pa_cons (pv 0) (pa_cons pe_str pa_nil))) pa_nil))))) pss_nil)
      (pss_one (ps_ret (pe_tup (pa_cons pe_str pa_nil)))))))))), ?_⟩
  try dsimp only [Cx.nox, Cx.wish, cxOf]
  rintro ds d ⟨n, c, rfl, hn, hc, hc2, rfl⟩
  refine .rt ?_
  show StD K _ [some (.dat (.int n)), some (.dat (.int c)), none, none] _
  walk_at "asg"
  walk_at "asg"
  unfold drawnQ
  have k0 : 0 ≤ n % 9 := Int.emod_nonneg _ (by decide)
  have k1 : n % 9 < 9 := Int.emod_lt_of_pos _ (by decide)
  have m0 : 0 ≤ n / 9 := Int.ediv_nonneg hn (by decide)
  generalize n % 9 = k at k0 k1 ⊢
  generalize n / 9 = m at m0 ⊢
  have a1 : 0 ≤ m % c := Int.emod_nonneg _ (by omega)
  have a2 : m % c < c := Int.emod_lt_of_pos _ (by omega)
  have a3 : 0 ≤ m / (c + 1) := Int.ediv_nonneg m0 (by omega)
  have cs : ∀ (n : Int) (menu : Str) (ρ : Rho) (ta tb : TE), 0 ≤ n → 0 < menu.length → menu.length ≤ 1000 → EvD K ta ρ (.int n) → EvD K tb ρ (.str menu) → EvD K (tCall (spD K 2 RSome) [] E0 (tCons ta (tCons tb tNil))) ρ (.str (someF n menu)) := fun n menu ρ ta tb h1 h2 h3 ha hb => ev_call (es_cons ha (es_cons hb es_nil)) rfl ⟨n, menu, rfl, h1, h2, h3, rfl⟩
  by_cases h3 : k < 3
  · apply sd_seqR; apply sd_ifp; walk_at "eb"; exact decide_eq_true h3
    rw [if_pos h3]
    walk_at "asg"
    apply sd_retI; walk_at "ev"; rfl
  rw [if_neg h3]
  apply sd_seq; apply sd_ifn; walk_at "eb"; exact decide_eq_false h3; exact sd_next
  by_cases h5 : k < 5
  · apply sd_seqR; apply sd_ifp; walk_at "eb"; exact decide_eq_true h5
    rw [if_pos h5]
    apply sd_retI
    · apply ev_tup
      · apply es_cons; exact ev_cs
        apply es_cons; exact cs _ _ _ _ _ a3 (by decide +kernel) (by decide +kernel) (by walk_at "ev") ev_cs
        apply es_cons; walk_at "ev"
        exact es_nil
      · exact Nat.le_of_ble_eq_true rfl
    rfl
  rw [if_neg h5]
  apply sd_seq; apply sd_ifn; walk_at "eb"; exact decide_eq_false h5; exact sd_next
  by_cases h6 : k = 5
  · apply sd_seqR; apply sd_ifp; walk_at "eb"
    · rw [eqD_int]; exact beq_iff_eq.mpr h6
    rw [if_pos h6]
    apply sd_retI; walk_at "ev"; rfl
  rw [if_neg h6]
  apply sd_seq; apply sd_ifn; walk_at "eb"
  · rw [eqD_int]; exact beq_eq_false_iff_ne.mpr h6
  · exact sd_next
  by_cases h8 : k < 8
  · apply sd_seqR; apply sd_ifp; walk_at "eb"; exact decide_eq_true h8
    rw [if_pos h8]
    apply sd_retI
    · apply ev_tup
      · apply es_cons; exact ev_cs
        apply es_cons; exact cs _ _ _ _ _ m0 (by decide +kernel) (by decide +kernel) (ev_v rfl) ev_cs
        exact es_nil
      · exact Nat.le_of_ble_eq_true rfl
    rfl
  rw [if_neg h8]
  apply sd_seq; apply sd_ifn; walk_at "eb"; exact decide_eq_false h8; exact sd_next
  apply sd_retI; walk_at "ev"; rfl
abbrev s_law_bodies : Stmt := top 30
theorem sc_law_bodies : FnScope ["_law_script", "_law_shape", "_law_count", "_law_left", "_law_bodies_here", "_law_p", "_law_body", "_law_k", "_law_n", "_law_statement", "_law_which"] ["_law_script"] (defScope s_law_bodies) := ⟨rfl, rfl, rfl, by decide +kernel, rfl, by decide +kernel, by decide +kernel⟩
theorem cal_law_bodies (T : Txt mg) (c__law_number : Cal P w K mg base "_law_number" 1 ["_law_script", "_law_k"] (spD K 2 RNum)) (c__law_drawn : Cal P w K mg base "_law_drawn" 3 ["_law_n", "_law_count"] (spD K 2 RDrawn)) (h : Has K mg "_law_bodies" s_law_bodies ["_law_script"]) : Cal P w K mg base "_law_bodies" 4 ["_law_script"] (spE K 1 ABod RBod) := by
  refine h.calE sc_law_bodies rfl fun f cdv A outer s H E hr => ?_
  have nd := sc_law_bodies.nd
  have hu := hr.units
  refine ⟨_, (pss_cons (ps_set (i := 1) nd rfl (Or.inl rfl) (pe_callTy call_int1 (by rfl) T.n_int (by decide +kernel) (pa_cons (pe_cal c__law_number (hr.mono (by decide)) (pa_cons (pv 0) (pa_cons pe_int pa_nil))) pa_nil)))
      (pss_cons (ps_set (i := 2) nd rfl (Or.inl rfl) (pe_op op_plus pe_int (pe_op op_mod (pv 1) pe_int)))
      (pss_cons (ps_set (i := 3) nd rfl (Or.inl rfl) (pe_lst (pa_cons pe_int (pa_cons pe_int pa_nil))))
      (pss_cons (ps_set (i := 4) nd rfl (Or.inl rfl) (pe_lst pa_nil))
      (pss_cons (ps_for PassesOwn.never rfl (pi_range1 (by rfl) T.n_range (pa_cons (pv 2) pa_nil)) (pg_name (i := 5) nd rfl (Or.inl rfl)) (pss_cons (ps_set (i := 6) nd rfl (Or.inl rfl) (pe_lst pa_nil))
      (pss_cons (ps_for PassesOwn.never rfl (pi_range1 (by rfl) T.n_range (pa_cons (pe_op op_mod (pe_callTy call_int1 (by rfl) T.n_int (by decide +kernel) (pa_cons (pe_cal c__law_number (hr.mono (by decide)) (pa_cons (pv 0) (pa_cons (pe_op op_plus pe_int (pv 5)) pa_nil))) pa_nil)) pe_int) pa_nil)) (pg_name (i := 7) nd rfl (Or.inl rfl)) (pss_cons (ps_set (i := 8) nd rfl (Or.inl rfl) (pe_cal c__law_number (hr.mono (by decide)) (pa_cons (pv 0) (pa_cons (pe_op op_plus (pe_op op_plus pe_int (pe_op op_mul pe_int (pv 5))) (pv 7)) pa_nil))))
      (pss_cons (ps_if (PW.pt (pw_and (pt_cmpR (op_eqD hu) (pv 5) pe_int (nomark _)) (pw_and (pt_cmpR (op_eqD hu) (pv 7) pe_int (nomark _)) (pw_and1 (pt_cmpR op_gt (pe_op op_mod (pe_op op_fdiv (pv 1) pe_int) pe_int) pe_int (nomark _)))))) (pss_one (ps_set (i := 8) nd rfl (Or.inl rfl) (pe_op op_sub (pv 8) (pe_op op_mod (pe_callTy call_int1 (by rfl) T.n_int (by decide +kernel) (pa_cons (pv 8) pa_nil)) pe_int)))) pss_nil)
      (pss_cons (ps_set (i := 9) nd rfl (Or.inl rfl) (pe_cal c__law_drawn (hr.mono (by decide)) (pa_cons (pv 8) (pa_cons (pv 2) pa_nil))))
      (pss_cons (ps_if (pt_cmpR op_in_seq (pe_ix ix_seq (pv 9) pe_int (fun _ _ => rfl)) (pe_tup (pa_cons pe_str (pa_cons pe_str (pa_cons pe_str pa_nil)))) rfl) (pss_cons (ps_set (i := 10) nd rfl (Or.inl rfl) (pe_callTy call_int1 (by rfl) T.n_int (by decide +kernel) (pa_cons (pe_cmpR (op_neD hu) (pe_ix ix_seq (pv 9) pe_int (fun _ _ => rfl)) pe_str (nomark _)) pa_nil)))
      (pss_cons (ps_asg (pe_op op_sub (pe_ix ix_seq (pv 3) (pv 10) (fun _ _ => rfl)) pe_int) (pg_sub (pv 3) (pv 10) set_list))
      (pss_one (ps_if (pt_cmpR op_lt (pe_ix ix_seq (pv 3) (pv 10) (fun _ _ => rfl)) pe_int (nomark _)) (pss_one (ps_set (i := 9) nd rfl (Or.inl rfl) (pe_tup (pa_cons pe_str (pa_cons pe_str pa_nil))))) pss_nil)))) pss_nil)
      (pss_one (ps_expr (pe_bm PySem.F.plainAttrs_list PySem.F.slot_list_append PySem.F.type_list_append mt_append (pv 6) (pa_cons (pv 9) pa_nil)))))))))
      (pss_one (ps_expr (pe_bm PySem.F.plainAttrs_list PySem.F.slot_list_append PySem.F.type_list_append mt_append (pv 4) (pa_cons (pv 6) pa_nil)))))))
      (pss_one (ps_ret (pv 4)))))))), ?_⟩
  try dsimp only [Cx.nox, Cx.wish, cxOf]
  rintro ds ⟨ns, rfl⟩
  apply StX.ends
  show StX K _ [some (.dat (scr ns)), none, none, none, none, none, none, none, none, none, none] _
  walk_at "xasg"
  walk_at "xasg"
  apply stx_seq; apply sd_asgN; walk_at "en"; dsimp only [List.set]
  apply stx_seq; apply sd_asgN; walk_at "en"; dsimp only [List.set]
  have s1 : 0 ≤ num ns 0 % 8 := Int.emod_nonneg _ (by decide)
  have s2 : num ns 0 % 8 < 8 := Int.emod_lt_of_pos _ (by decide)
  have s0 := num_nn ns 0
  generalize hc : 1 + num ns 0 % 8 = c
  have c1 : 1 ≤ c := by omega
  have c8 : c ≤ 8 := by omega
  generalize num ns 0 = sh at s0 ⊢
  refine stx_E (ste_for (it_rng (es_cons (ev_v rfl) es_nil) (by omega) (by omega)) (fun p ρ => ∃ (bs : List (List Q)) (a b : Int), bs.length = p ∧ BI c bs [] a b ∧ ρ = [some (.dat (scr ns)), some (.dat (.int sh)), some (.dat (.int c)), some (.own [.int a, .int b]), some (.own (bodD bs)), none, none, none, none, none, none]) ⟨[], 4, 6, rfl, ⟨(fun _ z => nomatch z), (fun _ z => nomatch z), (by decide), (by decide)⟩, rfl⟩ ?_) ?_
  · rintro p d ρ hd ⟨bs, a, b, hl, hb, rfl⟩
    obtain ⟨hp, rfl⟩ := rngD_get hd
    refine ⟨_, _, tg_name, ?_⟩
    dsimp only [List.set]
    apply ste_seq; apply sd_asgN; walk_at "en"; dsimp only [List.set]
    have k1 : 0 ≤ num ns (3 + (p : Int)) % 5 := Int.emod_nonneg _ (by decide)
    have k2 : num ns (3 + (p : Int)) % 5 < 5 := Int.emod_lt_of_pos _ (by decide)
    refine ste_seqE (ste_for (it_rng (m := num ns (3 + (p : Int)) % 5) ?it (by omega) (by omega)) (fun k ρ => ∃ (x : List Q) (a b : Int), x.length = k ∧ BI c bs x a b ∧ ρ = [some (.dat (scr ns)), some (.dat (.int sh)), some (.dat (.int c)), some (.own [.int a, .int b]), some (.own (bodD bs)), some (.dat (.int (p : Int))), some (.own (qsD x)), none, none, none, none]) ⟨[], a, b, rfl, hb, rfl⟩ ?_) ?_
    case it => walk_at "es"
    · clear hb a b
      rintro k d ρ hd ⟨x, a, b, hx, hb, rfl⟩
      obtain ⟨hk, rfl⟩ := rngD_get hd
      refine ⟨_, _, tg_name, ?_⟩
      dsimp only [List.set]
      apply ste_seq; apply sd_asg; walk_at "ev"; dsimp only [List.set]
      have n0 := num_nn ns (11 + 4 * (p : Int) + (k : Int))
      generalize num ns (11 + 4 * (p : Int) + (k : Int)) = n at n0 ⊢
      have n1 : 0 ≤ n - n % 9 := by omega
      apply ste_seqE (P1 := fun ρ => ∃ m : Int, 0 ≤ m ∧ ρ = [some (.dat (scr ns)), some (.dat (.int sh)), some (.dat (.int c)), some (.own [.int a, .int b]), some (.own (bodD bs)), some (.dat (.int (p : Int))), some (.own (qsD x)), some (.dat (.int (k : Int))), some (.dat (.int m)), none, none])
      · apply ste_if; walk_at "eb"
        · intro _; exact ⟨_, ⟨_, n1, rfl⟩, sd_asg (by walk_at "ev")⟩
        · intro _; exact ste_nx ⟨n, n0, rfl⟩
      clear n0 n1
      rintro ρ ⟨m, m0, rfl⟩
      apply ste_seq; apply sd_asg
      · exact ev_call (es_cons (ev_v rfl) (es_cons (ev_v rfl) es_nil)) rfl ⟨m, c, rfl, m0, c1, c8, rfl⟩
      dsimp only [List.set]
      have q0 := drawnQ_ok m0 c1
      generalize drawnQ m c = q at q0 ⊢
      apply ste_seqE (P1 := fun ρ => ρ = [some (.dat (scr ns)), some (.dat (.int sh)), some (.dat (.int c)), some (.own [.int (fitQ q a b).2.1, .int (fitQ q a b).2.2]), some (.own (bodD bs)), some (.dat (.int (p : Int))), some (.own (qsD x)), some (.dat (.int (k : Int))), some (.dat (.int m)), some (.dat (fitQ q a b).1.d), none])
      · clear q0
        cases q with
        | perf f l =>
          apply ste_if (p := decide (("perform" : Str) ∈ (["perform", "go", "if"] : List Str)))
          · apply eb_test; apply ev_op
            · apply ev_op; exact ev_v rfl; exact ev_ci; exact rd_ixT (atI_of (by decide) rfl)
            · exact ev_tup (es_cons ev_cs (es_cons ev_cs (es_cons ev_cs es_nil))) (Nat.le_of_ble_eq_true rfl)
            · exact RvS.toD (rs_inT (neg := false) (xs := ["perform", "go", "if"]))
          · intro _
            apply ste_seq
            · apply sd_asg
              refine ev_is (a := .int (if (!eqD (.str "perform") (.str "perform")) = true then 1 else 0)) (b := .int 0) ?_ ?_
              · refine ev_cbS (er_cons (EvD.rd ?_) er_nil) rs_intB
                refine ev_neE (EvD.rd ?_) ev_cs.rd (ok_str (by decide +kernel)) (ok_str (by decide +kernel))
                exact ev_op (ev_v rfl) ev_ci (rd_ixT (atI_of (by decide) rfl))
              · rw [show (!eqD (.str "perform") (.str "perform")) = false by rw [eqD_str]; decide +kernel]; rfl
            dsimp only [List.set]
            apply ste_seq
            · apply sd_setix (j := 0) (d := .int (a - 1))
              · exact ev_op (ev_ixO (d := .int a) (ev_v rfl) rfl (atI_of (by decide) rfl)) ev_ci (RvS.toD (rs_I0 (g := fun i j => i - j)))
              · exact ev_v rfl
              · rfl
              · rfl
            dsimp only [List.set]
            apply ste_if (p := decide (a - 1 < 0))
            · apply eb_test; exact ev_op (ev_ixO (d := .int (a - 1)) (ev_v rfl) rfl (atI_of (by decide) rfl)) ev_ci (RvS.toD (rs_I0b (g := fun i j => decide (i < j))))
            · intro z
              have z := of_decide_eq_true z
              refine ste_of (sd_asg (ev_tup (es_cons ev_cs (es_cons ev_cs es_nil)) (Nat.le_of_ble_eq_true rfl))) ?_ rfl
              simp only [fitQ, if_pos z]
              dsimp only [List.set]
              walk_at "le"
            · intro z
              have z := of_decide_eq_false z
              refine ste_of sd_next ?_ rfl
              simp only [fitQ, if_neg z]
              walk_at "le"
          · intro z; exact absurd z (by decide +kernel)
        | ift w t =>
          apply ste_if (p := decide (("if" : Str) ∈ (["perform", "go", "if"] : List Str)))
          · apply eb_test; apply ev_op
            · apply ev_op; exact ev_v rfl; exact ev_ci; exact rd_ixT (atI_of (by decide) rfl)
            · exact ev_tup (es_cons ev_cs (es_cons ev_cs (es_cons ev_cs es_nil))) (Nat.le_of_ble_eq_true rfl)
            · exact RvS.toD (rs_inT (neg := false) (xs := ["perform", "go", "if"]))
          · intro _
            apply ste_seq
            · apply sd_asg
              refine ev_is (a := .int (if (!eqD (.str "if") (.str "perform")) = true then 1 else 0)) (b := .int 1) ?_ ?_
              · refine ev_cbS (er_cons (EvD.rd ?_) er_nil) rs_intB
                refine ev_neE (EvD.rd ?_) ev_cs.rd (ok_str (by decide +kernel)) (ok_str (by decide +kernel))
                exact ev_op (ev_v rfl) ev_ci (rd_ixT (atI_of (by decide) rfl))
              · rw [show (!eqD (.str "if") (.str "perform")) = true by rw [eqD_str]; decide +kernel]; rfl
            dsimp only [List.set]
            apply ste_seq
            · apply sd_setix (j := 1) (d := .int (b - 1))
              · exact ev_op (ev_ixO (d := .int b) (ev_v rfl) rfl (atI_of (by decide) rfl)) ev_ci (RvS.toD (rs_I0 (g := fun i j => i - j)))
              · exact ev_v rfl
              · rfl
              · rfl
            dsimp only [List.set]
            apply ste_if (p := decide (b - 1 < 0))
            · apply eb_test; exact ev_op (ev_ixO (d := .int (b - 1)) (ev_v rfl) rfl (atI_of (by decide) rfl)) ev_ci (RvS.toD (rs_I0b (g := fun i j => decide (i < j))))
            · intro z
              have z := of_decide_eq_true z
              refine ste_of (sd_asg (ev_tup (es_cons ev_cs (es_cons ev_cs es_nil)) (Nat.le_of_ble_eq_true rfl))) ?_ rfl
              simp only [fitQ, if_pos z]
              dsimp only [List.set]
              walk_at "le"
            · intro z
              have z := of_decide_eq_false z
              refine ste_of sd_next ?_ rfl
              simp only [fitQ, if_neg z]
              walk_at "le"
          · intro z; exact absurd z (by decide +kernel)
        | go t =>
          apply ste_if (p := decide (("go" : Str) ∈ (["perform", "go", "if"] : List Str)))
          · apply eb_test; apply ev_op
            · apply ev_op; exact ev_v rfl; exact ev_ci; exact rd_ixT (atI_of (by decide) rfl)
            · exact ev_tup (es_cons ev_cs (es_cons ev_cs (es_cons ev_cs es_nil))) (Nat.le_of_ble_eq_true rfl)
            · exact RvS.toD (rs_inT (neg := false) (xs := ["perform", "go", "if"]))
          · intro _
            apply ste_seq
            · apply sd_asg
              refine ev_is (a := .int (if (!eqD (.str "go") (.str "perform")) = true then 1 else 0)) (b := .int 1) ?_ ?_
              · refine ev_cbS (er_cons (EvD.rd ?_) er_nil) rs_intB
                refine ev_neE (EvD.rd ?_) ev_cs.rd (ok_str (by decide +kernel)) (ok_str (by decide +kernel))
                exact ev_op (ev_v rfl) ev_ci (rd_ixT (atI_of (by decide) rfl))
              · rw [show (!eqD (.str "go") (.str "perform")) = true by rw [eqD_str]; decide +kernel]; rfl
            dsimp only [List.set]
            apply ste_seq
            · apply sd_setix (j := 1) (d := .int (b - 1))
              · exact ev_op (ev_ixO (d := .int b) (ev_v rfl) rfl (atI_of (by decide) rfl)) ev_ci (RvS.toD (rs_I0 (g := fun i j => i - j)))
              · exact ev_v rfl
              · rfl
              · rfl
            dsimp only [List.set]
            apply ste_if (p := decide (b - 1 < 0))
            · apply eb_test; exact ev_op (ev_ixO (d := .int (b - 1)) (ev_v rfl) rfl (atI_of (by decide) rfl)) ev_ci (RvS.toD (rs_I0b (g := fun i j => decide (i < j))))
            · intro z
              have z := of_decide_eq_true z
              refine ste_of (sd_asg (ev_tup (es_cons ev_cs (es_cons ev_cs es_nil)) (Nat.le_of_ble_eq_true rfl))) ?_ rfl
              simp only [fitQ, if_pos z]
              dsimp only [List.set]
              walk_at "le"
            · intro z
              have z := of_decide_eq_false z
              refine ste_of sd_next ?_ rfl
              simp only [fitQ, if_neg z]
              walk_at "le"
          · intro z; exact absurd z (by decide +kernel)
        | act w =>
          apply ste_if (p := decide (("act" : Str) ∈ (["perform", "go", "if"] : List Str)))
          · apply eb_test; apply ev_op
            · apply ev_op; exact ev_v rfl; exact ev_ci; exact rd_ixT (atI_of (by decide) rfl)
            · exact ev_tup (es_cons ev_cs (es_cons ev_cs (es_cons ev_cs es_nil))) (Nat.le_of_ble_eq_true rfl)
            · exact RvS.toD (rs_inT (neg := false) (xs := ["perform", "go", "if"]))
          · intro z; exact absurd z (by decide +kernel)
          · intro _; exact ste_nx rfl
        | stop =>
          apply ste_if (p := decide (("stop" : Str) ∈ (["perform", "go", "if"] : List Str)))
          · apply eb_test; apply ev_op
            · apply ev_op; exact ev_v rfl; exact ev_ci; exact rd_ixT (atI_of (by decide) rfl)
            · exact ev_tup (es_cons ev_cs (es_cons ev_cs (es_cons ev_cs es_nil))) (Nat.le_of_ble_eq_true rfl)
            · exact RvS.toD (rs_inT (neg := false) (xs := ["perform", "go", "if"]))
          · intro z; exact absurd z (by decide +kernel)
          · intro _; exact ste_nx rfl
      rintro ρ rfl
      refine ste_of (sd_app (ev_v rfl) rfl ?_) ?_ ⟨x ++ [(fitQ q a b).1], _, _, ?_, hb.fit q0, rfl⟩
      · rw [List.length_map]; omega
      · dsimp only [List.set]
        rw [show qsD (x ++ [(fitQ q a b).1]) = qsD x ++ [(fitQ q a b).1.d] from List.map_append]
        walk_at "le"
      · rw [List.length_append, hx]; rfl
    · rintro ρ ⟨x, a, b, hx, hb, rfl⟩
      rw [rngD_len] at hx
      refine ste_of (sd_appO (j := 6) (i := 4) rfl rfl (by decide) ?_) ?_ ⟨bs ++ [x], a, b, ?_, hb.close (by omega), rfl⟩
      · rw [List.length_map]; omega
      · dsimp only [List.set]
        rw [show bodD (bs ++ [x]) = bodD bs ++ [.lst (qsD x)] from List.map_append]
        walk_at "le"
      · rw [List.length_append, hl]; rfl
  · rintro ρ ⟨bs, a, b, hl, hb, rfl⟩
    rw [rngD_len] at hl
    apply stx_retO rfl
    have e : (bs.length : Int) = c := by omega
    have hp := hb.p
    have hj := hb.j
    rw [List.append_nil] at hp hj
    exact ⟨bs, ⟨by omega, by omega, by rw [e]; exact hb.old, by omega, by omega⟩, rfl⟩
abbrev s_law_names : Stmt := top 31
theorem sc_law_names : FnScope ["_law_script", "_law_count", "_law_shape", "_law_base", "_law_at", "_law_names_here", "_law_p", "_law_letter", "_law_tail", "_law_name"] ["_law_script", "_law_count"] (defScope s_law_names) := ⟨rfl, rfl, rfl, by decide +kernel, rfl, by decide +kernel, by decide +kernel⟩
theorem cal_law_names (T : Txt mg) (c__law_number : Cal P w K mg base "_law_number" 1 ["_law_script", "_law_k"] (spD K 2 RNum)) (c__law_word : Cal P w K mg base "_law_word" 1 ["_law_n"] (spD K 1 RWord)) (h : Has K mg "_law_names" s_law_names ["_law_script", "_law_count"]) : Cal P w K mg base "_law_names" 2 ["_law_script", "_law_count"] (spE K 2 ANam RNam) := by
  refine h.calE sc_law_names rfl fun f cdv A outer s H E hr => ?_
  have nd := sc_law_names.nd
  have hu := hr.units
  refine ⟨_, (pss_cons (ps_set (i := 2) nd rfl (Or.inl rfl) (pe_callTy call_int1 (by rfl) T.n_int (by decide +kernel) (pa_cons (pe_cal c__law_number (hr.mono (by decide)) (pa_cons (pv 0) (pa_cons pe_int pa_nil))) pa_nil)))
      (pss_cons (ps_set (i := 3) nd rfl (Or.inl rfl) (pe_slice sl_any (pe_cal c__law_word (hr.mono (by decide)) (pa_cons (pe_op op_fdiv (pv 2) pe_int) pa_nil)) po_none (po_some pe_int)))
      (pss_cons (ps_set (i := 4) nd rfl (Or.inl rfl) (pe_op op_mod (pv 2) pe_int))
      (pss_cons (ps_set (i := 5) nd rfl (Or.inl rfl) (pe_lst pa_nil))
      (pss_cons (ps_for PassesOwn.never rfl (pi_range1 (by rfl) T.n_range (pa_cons (pv 1) pa_nil)) (pg_name (i := 6) nd rfl (Or.inl rfl)) (pss_cons (ps_set (i := 7) nd rfl (Or.inl rfl) (pe_ix ix_seq pe_str (pe_op op_mod (pe_op op_plus (pe_op op_fdiv (pv 2) pe_int) (pe_op op_mul pe_int (pv 6))) pe_int) (fun _ _ => rfl)))
      (pss_cons (ps_set (i := 8) nd rfl (Or.inl rfl) (pe_slice sl_any (pv 3) (po_some (pv 4)) po_none))
      (pss_cons (ps_set (i := 9) nd rfl (Or.inl rfl) (pe_op op_plus (pe_op op_plus (pe_slice sl_any (pv 3) po_none (po_some (pv 4))) (pv 7)) (pe_slice sl_any (pv 8) po_none (po_some (pe_op op_mod (pe_callTy call_int1 (by rfl) T.n_int (by decide +kernel) (pa_cons (pe_cal c__law_number (hr.mono (by decide)) (pa_cons (pv 0) (pa_cons (pe_op op_plus pe_int (pv 6)) pa_nil))) pa_nil)) pe_int)))))
      (pss_cons (ps_if (pt_cmpR (op_eqD hu) (pe_op op_mod (pv 4) pe_int) pe_int (nomark _)) (pss_one (ps_set (i := 9) nd rfl (Or.inl rfl) (pe_slice sl_any (pe_op op_plus (pv 3) pe_str) po_none (po_some (pe_op op_plus pe_int (pe_op op_mod (pe_op op_plus (pv 6) (pv 4)) pe_int)))))) pss_nil)
      (pss_one (ps_expr (pe_bm PySem.F.plainAttrs_list PySem.F.slot_list_append PySem.F.type_list_append mt_append (pv 5) (pa_cons (pv 9) pa_nil)))))))))
      (pss_one (ps_ret (pv 5)))))))), ?_⟩
  try dsimp only [Cx.nox, Cx.wish, cxOf]
  rintro ds ⟨ns, c, rfl, c0, c8⟩
  apply StX.ends
  show StX K _ [some (.dat (scr ns)), some (.dat (.int c)), none, none, none, none, none, none, none, none] _
  walk_at "xasg"
  have s0 := num_nn ns 43
  generalize num ns 43 = sh at s0 ⊢
  have m0 : 0 ≤ sh / 312 := Int.ediv_nonneg s0 (by decide)
  have hB := baseL_ok s0
  apply stx_seq; apply sd_asg
  · refine ev_is (b := .str (mkS (baseL sh))) (ev_slS (ev_call (es_cons (by walk_at "ev") es_nil) rfl ⟨sh / 312, rfl, m0, rfl⟩) eo_no (eo_so ev_ci) ?_) ?_
    · have := (wordF_ok m0).2.1; omega
    · unfold wordF; rw [cutS_to _ (by decide)]; rfl
  dsimp only [List.set]
  walk_at "xasg"
  have a1 : 0 ≤ sh % 12 := Int.emod_nonneg _ (by decide)
  have a2 : sh % 12 < 12 := Int.emod_lt_of_pos _ (by decide)
  apply stx_seq; apply sd_asgN; walk_at "en"; dsimp only [List.set]
  apply stx_seq
  · apply sd_forR (es_cons (ev_v rfl) es_nil) (by omega) (by omega) (fun k => [some (.dat (scr ns)), some (.dat (.int c)), some (.dat (.int sh)), some (.dat (.str (mkS (baseL sh)))), some (.dat (.int (sh % 12))), some (.own (sD ((List.range k).map fun p => mkS (nameL (baseL sh) sh (fun p => num ns (44 + (p : Int))) p)))), none, none, none, none]) rfl
    intro k hk
    dsimp only [List.set]
    obtain ⟨b1, b2, b3⟩ := hB
    have q3 : 0 ≤ (sh / 12 + 3 * (k : Int)) % 26 := Int.emod_nonneg _ (by decide)
    have q4 : (sh / 12 + 3 * (k : Int)) % 26 < 26 := Int.emod_lt_of_pos _ (by decide)
    have r1 : 0 ≤ num ns (44 + (k : Int)) % 12 := Int.emod_nonneg _ (by decide)
    have r2 : num ns (44 + (k : Int)) % 12 < 12 := Int.emod_lt_of_pos _ (by decide)
    have t1 : 0 ≤ ((k : Int) + sh % 12) % 12 := Int.emod_nonneg _ (by decide)
    apply turn_nx
    · apply sd_seq; apply sd_asg; exact ev_op ev_cs (by walk_at "ev") (RvS.toD (ix_alpha q3 q4)); dsimp only [List.set]
      apply sd_seq; apply sd_asg; exact ev_is (ev_slS (ev_v rfl) (eo_so (ev_v rfl)) eo_no (by rw [mkS_len]; omega)) (congrArg D.str (cutS_from _ a1)); dsimp only [List.set]
      apply sd_seq; apply sd_asg
      · apply ev_op (b := .str (mkS (((baseL sh).drop (sh % 12).toNat).take (num ns (44 + (k : Int)) % 12).toNat)))
        · apply ev_op (a := .str (mkS ((baseL sh).take (sh % 12).toNat)))
          · exact ev_is (ev_slS (ev_v rfl) eo_no (eo_so (ev_v rfl)) (by rw [mkS_len]; omega)) (congrArg D.str (cutS_to _ a1))
          · exact ev_v rfl
          · exact RvS.toD (rs_plusS (by rw [mkS_len, mkS_len, List.length_take, List.length_singleton]; omega))
        · exact ev_is (ev_slS (ev_v rfl) eo_no (eo_so (by walk_at "ev")) (by rw [mkS_len, List.length_drop]; omega)) (congrArg D.str (cutS_to _ r1))
        · exact RvS.toD (rs_plusS (by rw [mkS_app, mkS_len, mkS_len, List.length_append, List.length_take, List.length_take, List.length_drop, List.length_singleton]; omega))
      dsimp only [List.set]
      rw [mkS_app, mkS_app]
      apply sd_seq
      · apply sd_ifD (a := .str (mkS ((baseL sh ++ abcL).take (1 + ((k : Int) + sh % 12) % 12).toNat))) (p := decide (sh % 12 % 3 = 1)) (i := 9) ?eb ?ev rfl
        case eb =>
          refine eb_is (p := eqD (.int (sh % 12 % 3)) (.int 1)) ?_ ?_
          · walk_at "eb"
          · rw [eqD_int, Bool.eq_iff_iff, beq_iff_eq, decide_eq_true_iff]
        case ev =>
          refine ev_is (ev_slS (z := mkS (baseL sh ++ abcL)) ?_ eo_no (eo_so (i := 1 + ((k : Int) + sh % 12) % 12) ?_) ?_) (congrArg D.str (cutS_to _ (by omega)))
          · refine ev_is (ev_op (ev_v rfl) ev_cs (RvS.toD (rs_plusS ?_))) ?_
            · rw [mkS_len]; have : ("abcdefghijkl" : Str).length = 12 := by decide +kernel
              omega
            · rw [abc_is, mkS_app]
          · walk_at "ev"
          · rw [mkS_len, List.length_append]; have : abcL.length = 12 := rfl
            omega
      dsimp only [List.set]
      exact sd_app (ev_v rfl) rfl (by rw [List.length_map, List.length_map, List.length_range]; omega)
    · dsimp only [List.set]
      have e : (if decide (sh % 12 % 3 = 1) = true then D.str (mkS ((baseL sh ++ abcL).take (1 + ((k : Int) + sh % 12) % 12).toNat)) else .str (mkS ((baseL sh).take (sh % 12).toNat ++ [97 + ((sh / 12 + 3 * (k : Int)) % 26).toNat] ++ ((baseL sh).drop (sh % 12).toNat).take (num ns (44 + (k : Int)) % 12).toNat))) = .str (mkS (nameL (baseL sh) sh (fun p => num ns (44 + (p : Int))) k)) := by
        unfold nameL
        by_cases q : sh % 12 % 3 = 1
        · rw [if_pos (decide_eq_true q), if_pos q]
        · rw [if_neg (by rw [decide_eq_false q]; decide), if_neg q]
      rw [e, List.range_succ, List.map_append]
      have ap : ∀ a b : List Str, sD (a ++ b) = sD a ++ sD b := fun a b => List.map_append
      rw [ap]
      walk_at "le"
  apply stx_retO rfl
  refine ⟨ns, c, _, rfl, ?_, names_good hB ?_, rfl⟩
  · rw [List.length_map, List.length_range]; omega
  · omega
abbrev s_law_named : Stmt := top 32
theorem sc_law_named : FnScope ["_law_statement", "_law_names_here", "_law_target"] ["_law_statement", "_law_names_here"] (defScope s_law_named) := ⟨rfl, rfl, rfl, by decide +kernel, rfl, by decide +kernel, by decide +kernel⟩
theorem cal_law_named (T : Txt mg) (h : Has K mg "_law_named" s_law_named ["_law_statement", "_law_names_here"]) : Cal P w K mg base "_law_named" 1 ["_law_statement", "_law_names_here"] (spD K 2 RNamed) := by
  refine h.cal sc_law_named rfl fun f cdv A outer s H E hr => ?_
  have nd := sc_law_named.nd
  have hu := hr.units
  refine ⟨_, (pss_cons (ps_if (pt_cmpR (op_eqD hu) (pe_ix ix_seq (pv 0) pe_int (fun _ _ => rfl)) pe_str (nomark _)) (pss_one (ps_ret (pe_tup (pa_cons pe_str (pa_cons (pe_ix ix_seq (pv 1) (pe_ix ix_seq (pv 0) pe_int (fun _ _ => rfl)) (fun _ _ => rfl)) (pa_cons (pe_ix ix_seq (pv 1) (pe_ix ix_seq (pv 0) pe_int (fun _ _ => rfl)) (fun _ _ => rfl)) pa_nil)))))) pss_nil)
      (pss_cons (ps_if (PW.pt (pw_or (pt_cmpR (op_eqD hu) (pe_ix ix_seq (pv 0) pe_int (fun _ _ => rfl)) pe_str (nomark _)) (pw_or1 (pt_cmpR (op_eqD hu) (pe_ix ix_seq (pv 0) pe_int (fun _ _ => rfl)) pe_str (nomark _))))) (pss_cons (ps_set (i := 2) nd rfl (Or.inl rfl) pe_str)
      (pss_cons (ps_if (pt_cmpR op_ge (pe_ix ix_seq (pv 0) (pe_un un_neg pe_int) (fun _ _ => rfl)) pe_int (nomark _)) (pss_one (ps_set (i := 2) nd rfl (Or.inl rfl) (pe_ix ix_seq (pv 1) (pe_ix ix_seq (pv 0) (pe_un un_neg pe_int) (fun _ _ => rfl)) (fun _ _ => rfl)))) pss_nil)
      (pss_one (ps_ret (pe_op op_plus (pe_slice sl_any (pv 0) po_none (po_some (pe_un un_neg pe_int))) (pe_tup (pa_cons (pv 2) pa_nil))))))) pss_nil)
      (pss_one (ps_ret (pv 0))))), ?_⟩
  try dsimp only [Cx.nox, Cx.wish, cxOf]
  rintro ds d ⟨q, names, rfl, hq, rfl⟩
  refine .rt ?_
  show StD K _ [some (.dat q.d), some (.dat (.lst (sD names))), none] _
  have rest : ∀ (hd : List D) (t : Int) (word : Str), hd ≠ [] → -1 ≤ t → t < names.length → True := fun _ _ _ _ _ _ => trivial
  cases q with
  | perf f l =>
    obtain ⟨f0, fl, lc⟩ := hq
    apply sd_seqR; apply sd_ifp; walk_at "eb"
    · rw [eqD_str]; decide +kernel
    apply sd_retI
    · apply ev_tup
      · apply es_cons; exact ev_cs
        apply es_cons; exact ev_op (ev_v rfl) (ev_op (ev_v rfl) ev_ci (rd_ixT (atI_of (by decide) rfl))) (rd_ixL (nth_at f0 (by omega)))
        apply es_cons; exact ev_op (ev_v rfl) (ev_op (ev_v rfl) ev_ci (rd_ixT (atI_of (by decide) rfl))) (rd_ixL (nth_at (by omega) lc))
        exact es_nil
      · exact Nat.le_of_ble_eq_true rfl
    rfl
  | act w =>
    apply sd_seq; apply sd_ifn; walk_at "eb"; rw [eqD_str]; decide +kernel; exact sd_next
    apply sd_seq; apply sd_ifn; walk_at "eb"; rw [eqD_str, eqD_str]; decide +kernel; exact sd_next
    exact sd_ret (ev_v rfl)
  | stop =>
    apply sd_seq; apply sd_ifn; walk_at "eb"; rw [eqD_str]; decide +kernel; exact sd_next
    apply sd_seq; apply sd_ifn; walk_at "eb"; rw [eqD_str, eqD_str]; decide +kernel; exact sd_next
    exact sd_ret (ev_v rfl)
  | go t =>
    obtain ⟨t0, t1⟩ := hq
    apply sd_seq; apply sd_ifn; walk_at "eb"; rw [eqD_str]; decide +kernel; exact sd_next
    apply sd_seqR; apply sd_ifp; walk_at "eb"
    · rw [eqD_str, eqD_str]; decide +kernel
    walk_at "asg"
    apply sd_seq (ρ' := [some (.dat (Q.go t).d), some (.dat (.lst (sD names))), some (.dat (.str (aimS names t)))])
    · by_cases z : 0 ≤ t
      · apply sd_ifp (p := decide (0 ≤ t))
        · exact eb_test (ev_op (ev_op (ev_v rfl) (ev_neg ev_ci) (rd_ixT (atI_neg1 rfl))) ev_ci (RvS.toD (rs_I0b (g := fun i j => decide (j ≤ i)))))
        · exact decide_eq_true z
        · unfold aimS; rw [if_pos z]
          exact sd_asg (i := 2) (ev_op (ev_v rfl) (ev_op (ev_v rfl) (ev_neg ev_ci) (rd_ixT (atI_neg1 rfl))) (rd_ixL (nth_at z t1)))
      · apply sd_ifn (p := decide (0 ≤ t))
        · exact eb_test (ev_op (ev_op (ev_v rfl) (ev_neg ev_ci) (rd_ixT (atI_neg1 rfl))) ev_ci (RvS.toD (rs_I0b (g := fun i j => decide (j ≤ i)))))
        · exact decide_eq_false z
        · unfold aimS; rw [if_neg z]; exact sd_next
    apply sd_retI
    · exact ev_op (ev_slT (ev_v rfl) eo_no (eo_so (ev_neg ev_ci))) (ev_tup (es_cons (ev_v rfl) es_nil) (Nat.le_of_ble_eq_true rfl)) (rd_plusT (Nat.le_of_ble_eq_true rfl))
    rfl
  | ift w t =>
    obtain ⟨_, t0, t1⟩ := hq
    apply sd_seq; apply sd_ifn; walk_at "eb"; rw [eqD_str]; decide +kernel; exact sd_next
    apply sd_seqR; apply sd_ifp; walk_at "eb"
    · rw [eqD_str, eqD_str]; decide +kernel
    walk_at "asg"
    apply sd_seq (ρ' := [some (.dat (Q.ift w t).d), some (.dat (.lst (sD names))), some (.dat (.str (aimS names t)))])
    · by_cases z : 0 ≤ t
      · apply sd_ifp (p := decide (0 ≤ t))
        · exact eb_test (ev_op (ev_op (ev_v rfl) (ev_neg ev_ci) (rd_ixT (atI_neg1 rfl))) ev_ci (RvS.toD (rs_I0b (g := fun i j => decide (j ≤ i)))))
        · exact decide_eq_true z
        · unfold aimS; rw [if_pos z]
          exact sd_asg (i := 2) (ev_op (ev_v rfl) (ev_op (ev_v rfl) (ev_neg ev_ci) (rd_ixT (atI_neg1 rfl))) (rd_ixL (nth_at z t1)))
      · apply sd_ifn (p := decide (0 ≤ t))
        · exact eb_test (ev_op (ev_op (ev_v rfl) (ev_neg ev_ci) (rd_ixT (atI_neg1 rfl))) ev_ci (RvS.toD (rs_I0b (g := fun i j => decide (j ≤ i)))))
        · exact decide_eq_false z
        · unfold aimS; rw [if_neg z]; exact sd_next
    apply sd_retI
    · exact ev_op (ev_slT (ev_v rfl) eo_no (eo_so (ev_neg ev_ci))) (ev_tup (es_cons (ev_v rfl) es_nil) (Nat.le_of_ble_eq_true rfl)) (rd_plusT (Nat.le_of_ble_eq_true rfl))
    rfl
abbrev s_law_paragraphs : Stmt := top 33
theorem sc_law_paragraphs : FnScope ["_law_bodies_here", "_law_names_here", "_law_paragraphs_here", "_law_p", "_law_statement"] ["_law_bodies_here", "_law_names_here"] (defScope s_law_paragraphs) := ⟨rfl, rfl, rfl, by decide +kernel, rfl, by decide +kernel, by decide +kernel⟩
theorem cal_law_paragraphs (T : Txt mg) (c__law_named : Cal P w K mg base "_law_named" 1 ["_law_statement", "_law_names_here"] (spD K 2 RNamed)) (h : Has K mg "_law_paragraphs" s_law_paragraphs ["_law_bodies_here", "_law_names_here"]) : Cal P w K mg base "_law_paragraphs" 2 ["_law_bodies_here", "_law_names_here"] (spD K 2 RPara) := by
  refine h.cal sc_law_paragraphs rfl fun f cdv A outer s H E hr => ?_
  have nd := sc_law_paragraphs.nd
  have hu := hr.units
  refine ⟨_, (pss_cons (ps_set (i := 2) nd rfl (Or.inl rfl) (pe_lst pa_nil))
      (pss_cons (ps_for PassesOwn.never rfl (pi_range1 (by rfl) T.n_range (pa_cons (pe_callB call_lenA (by rfl) T.n_len (by decide +kernel) (pa_cons (pv 0) pa_nil)) pa_nil)) (pg_name (i := 3) nd rfl (Or.inl rfl)) (pss_one (ps_expr (pe_bm PySem.F.plainAttrs_list PySem.F.slot_list_append PySem.F.type_list_append mt_append (pv 2) (pa_cons (pe_tup (pa_cons (pe_ix ix_seq (pv 1) (pv 3) (fun _ _ => rfl)) (pa_cons (pe_lc (own := [("_law_statement", 4)]) (g := (gName 4)) (tt := tYes) (te := (tCall _ [] E0 (tCons (tVar 4) (tCons (tVar 1) tNil)))) (by rfl) nd (pi_list (pe_ix ix_seq (pv 0) (pv 3) (fun _ _ => rfl))) (blkOk_by (N := ["_law_bodies_here", "_law_names_here", "_law_paragraphs_here", "_law_p", "_law_statement"]) (sc := defScope s_law_paragraphs) (by decide +kernel)) (fun _ _ _ _ _ => pg_name (i := 4) nd rfl (Or.inl rfl)) (fun _ _ _ _ _ => pts_nil) (fun _ _ _ _ _ => (pe_cal c__law_named (hr.mono (by decide)) (pa_cons (pv 4) (pa_cons (pv 1) pa_nil))))) pa_nil))) pa_nil)))))
      (pss_one (ps_ret (pv 2))))), ?_⟩
  try dsimp only [Cx.nox, Cx.wish, cxOf]
  rintro ds d ⟨bs, names, rfl, hb, rfl⟩
  refine .rt ?_
  show StD K _ [some (.dat (.lst (bodD bs))), some (.dat (.lst (sD names))), none, none, none] _
  apply sd_seq; apply sd_asgN; walk_at "en"; dsimp only [List.set]
  have hsm := hb.sm
  apply sd_seq
  · apply sd_forR (n := (bs.length : Int)) ?es (by omega) (by omega) (fun k => [some (.dat (.lst (bodD bs))), some (.dat (.lst (sD names))), some (.own (((List.range k).map fun i => (names.getD i "", (bs.getD i []).map (nameQ names))).map pD)), none, none]) rfl
    case es =>
      have e : (bodD bs).length = bs.length := List.length_map ..
      rw [← e]
      walk_at "es"
    intro k hk
    have hk : k < bs.length := by omega
    dsimp only [List.set]
    have hy := hb.each bs[k] (List.getElem_mem hk)
    have e1 : atI (bodD bs) (k : Int) = some (.lst (qsD bs[k])) := atI_of (by omega) (by rw [Int.toNat_natCast, List.getElem?_map, List.getElem?_eq_getElem hk]; rfl)
    have e2 : atI (sD names) (k : Int) = some (.str (nth names k)) := nth_at (by omega) (by have := hb.le; omega)
    apply turn_nx
    · apply sd_app (d := .tup [.str (nth names k), .lst (smD (bs[k].map (nameQ names)))])
      · apply ev_tup
        · apply es_cons; exact ev_op (ev_v rfl) (ev_v rfl) (rd_ixL e2)
          apply es_cons
          · refine (EvN.dt ?_)
            have hq : ∀ (n : Nat) (d : D), (qsD bs[k])[n]? = some d → ∃ q, d = q.d ∧ q ∈ bs[k] ∧ (smD (bs[k].map (nameQ names)))[n]? = some (nameQ names q).d := fun n d hd => by
              rw [List.getElem?_map] at hd
              cases z : bs[k][n]? with
              | none => rw [z] at hd; cases hd
              | some q =>
                rw [z] at hd
                cases hd
                exact ⟨q, rfl, List.mem_of_getElem? z, by rw [List.getElem?_map, List.getElem?_map, z]; rfl⟩
            have pk : pick (fun _ => true) (fun n => (smD (bs[k].map (nameQ names))).getD n .non) (qsD bs[k]).length = smD (bs[k].map (nameQ names)) := by
              rw [pick_all]
              have el : (qsD bs[k]).length = (smD (bs[k].map (nameQ names))).length := by simp
              rw [el]
              apply List.ext_getElem?
              intro i
              rw [List.getElem?_map]
              by_cases hi : i < (smD (bs[k].map (nameQ names))).length
              · rw [List.getElem?_range hi]
                show some (List.getD _ i _) = _
                rw [List.getD_eq_getElem?_getD, List.getElem?_eq_getElem hi]; rfl
              · rw [List.getElem?_eq_none (by rw [List.length_range]; omega), List.getElem?_eq_none (by omega)]; rfl
            rw [← pk]
            refine en_lcI (js := [4]) (fun _ => true) _ (fun n => [some (.dat (.lst (bodD bs))), some (.dat (.lst (sD names))), some (.own (((List.range k).map fun i => (names.getD i "", (bs.getD i []).map (nameQ names))).map pD)), some (.dat (.int (k : Int))), some (.dat ((qsD bs[k]).getD n .non))]) (it_list (ev_op (ev_v rfl) (ev_v rfl) (rd_ixL e1))) ?_ (by decide) ?_ ?_ ?_
            · rw [List.length_map]; omega
            · intro n d hd
              have e : d = (qsD bs[k]).getD n .non := by rw [List.getD_eq_getElem?_getD, hd]; rfl
              rw [e]
              exact tg_name
            · intro n d hd; exact eb_yes
            · intro n d hd _
              obtain ⟨q, rfl, hm, h2⟩ := hq n d hd
              refine ev_is (ev_call (es_cons (ev_v rfl) (es_cons (ev_v rfl) es_nil)) rfl ⟨q, names, ?_, hy.2 q hm, rfl⟩) ?_
              · rw [List.getD_eq_getElem?_getD, hd]; rfl
              · show _ = List.getD _ n _
                rw [List.getD_eq_getElem?_getD, h2]; rfl
          exact es_nil
        · exact Nat.le_of_ble_eq_true rfl
      · rfl
      · rw [List.length_map, List.length_map, List.length_range]; omega
    · dsimp only [List.set]
      rw [List.range_succ, List.map_append, List.map_append]
      have e3 : nth names k = names.getD k "" := rfl
      have e4 : bs.getD k [] = bs[k] := by rw [List.getD_eq_getElem?_getD, List.getElem?_eq_getElem hk]; rfl
      rw [e3, ← e4]
      walk_at "le"
  apply sd_retO
  rw [Int.toNat_natCast]; rfl
abbrev s_is_name : Stmt := top 18
theorem sc_is_name : FnScope ["word", "letter"] ["word"] (defScope s_is_name) := ⟨rfl, rfl, rfl, by decide +kernel, rfl, by decide +kernel, by decide +kernel⟩
theorem cal_is_name (T : Txt mg) (g_LONGEST_NAME : GInt mg "LONGEST_NAME" 12) (h : Has K mg "_is_name" s_is_name ["word"]) : Cal P w K mg base "_is_name" 1 ["word"] (spD K 1 RIsName) := by
  refine h.cal sc_is_name rfl fun f cdv A outer s H E hr => ?_
  have nd := sc_is_name.nd
  have hu := hr.units
  refine ⟨_, (pss_one (ps_ret (pe_and (pe_chain op_le op_le pe_int (pe_callB call_lenA (by rfl) T.n_len (by decide +kernel) (pa_cons (pv 0) pa_nil)) (pe_gint g_LONGEST_NAME)) (pe_one (pe_callB (cr_all rfl) (by rfl) T.n_all (by decide +kernel) (pa_cons (pe_lc (own := [("letter", 1)]) (g := (gName 1)) (tt := tYes) (te := (tChain _ _ (tC (.str "a")) (tVar 1) (tC (.str "z")))) (by rfl) nd (pi_str (pv 0)) (blkOk_by (N := ["word", "letter"]) (sc := defScope s_is_name) (by decide +kernel)) (fun _ _ _ _ _ => pg_name (i := 1) nd rfl (Or.inl rfl)) (fun _ _ _ _ _ => pts_nil) (fun _ _ _ _ _ => (pe_chain op_leS op_leS pe_str (pv 1) pe_str))) pa_nil)))))), ?_⟩
  try dsimp only [Cx.nox, Cx.wish, cxOf]
  rintro ds d ⟨w, rfl, hw, rfl⟩
  refine .rt ?_
  show StD K _ [some (.dat (.str w)), none] _
  apply sd_retI
  · apply ev_andV
    · exact ev_chainI (f := fun i j => decide (i ≤ j)) (g := fun i j => decide (i ≤ j)) ev_ci (ev_cbS (er_cons (ev_v rfl).rd er_nil) (rs_lenS hw)) ev_ci
    · intro h
      have h2 := of_decide_eq_true (Bool.and_eq_true_iff.mp h).2
      refine ev_cbS (er_cons (EvN.rd ?_) er_nil) (rs_all (bs := (List.range (signs w).length).map fun i => (fun c => decide (97 ≤ c) && decide (c ≤ 122)) (w.cps.toList.getD i 0)))
      rw [← pick_bl]
      refine en_lcI (js := [1]) (fun _ => true) _ (fun n => [some (.dat (.str w)), some (.dat ((signs w).getD n .non))]) (it_str (ev_v rfl)) (by rw [signs_len]; omega) (by decide) ?_ ?_ ?_
      · intro n d hd
        have e : d = (signs w).getD n .non := by rw [List.getD_eq_getElem?_getD, hd]; rfl
        rw [e]
        exact tg_name
      · intro n d hd; exact eb_yes
      · intro n d hd _
        obtain ⟨c, hc, rfl⟩ := signs_get hd
        have e : (signs w).getD n .non = .str ⟨#[c]⟩ := by rw [List.getD_eq_getElem?_getD, hd]; rfl
        have e2 : w.cps.toList.getD n 0 = c := by rw [List.getD_eq_getElem?_getD, hc]; rfl
        rw [e, e2]
        refine ev_is (ev_chain ev_cs (ev_v rfl) rs_leS (fun _ => ev_cs) fun _ => rs_leS) ?_
        rw [a_is, z_is, leS_1, leS_1]
  · have e : (signs w).length = w.cps.toList.length := by unfold signs; rw [List.length_map]
    rw [e, all_range w.cps.toList 0 (fun c => decide (97 ≤ c) && decide (c ≤ 122))]
    unfold nameB
    congr 3
    · rw [decide_eq_decide]; omega
    · rw [decide_eq_decide]; omega
abbrev s_check_word : Stmt := top 22
theorem sc_check_word : FnScope ["word"] ["word"] (defScope s_check_word) := ⟨rfl, rfl, rfl, by decide +kernel, rfl, by decide +kernel, by decide +kernel⟩
theorem cal_check_word (T : Txt mg) (c__is_name : Cal P w K mg base "_is_name" 1 ["word"] (spD K 1 RIsName)) (h : Has K mg "_check_word" s_check_word ["word"]) : Cal P w K mg base "_check_word" 2 ["word"] (spD K 1 RChkWord) := by
  refine h.cal sc_check_word rfl fun f cdv A outer s H E hr => ?_
  have nd := sc_check_word.nd
  have hu := hr.units
  refine ⟨_, (pss_one (ps_if (pt_not (pt_val (pe_cal c__is_name (hr.mono (by decide)) (pa_cons (pv 0) pa_nil)))) (pss_one ps_never) pss_nil)), ?_⟩
  try dsimp only [Cx.nox, Cx.wish, cxOf]
  rintro ds d ⟨w, rfl, hw, rfl⟩
  apply Ends1.nx
  show StD K _ [some (.dat (.str w))] _
  apply sd_skip
  · apply eb_not; apply eb_B; exact ev_call (es_cons (ev_v rfl) es_nil) rfl ⟨w, rfl, by have := hw.2.1; omega, rfl⟩
  · rw [nameB_ok hw]; rfl
abbrev s_check_target : Stmt := top 23
theorem sc_check_target : FnScope ["names", "target"] ["names", "target"] (defScope s_check_target) := ⟨rfl, rfl, rfl, by decide +kernel, rfl, by decide +kernel, by decide +kernel⟩
theorem cal_check_target (T : Txt mg) (h : Has K mg "_check_target" s_check_target ["names", "target"]) : Cal P w K mg base "_check_target" 1 ["names", "target"] (spD K 2 RChkAim) := by
  refine h.cal sc_check_target rfl fun f cdv A outer s H E hr => ?_
  have nd := sc_check_target.nd
  have hu := hr.units
  refine ⟨_, (pss_one (ps_if (PW.pt (pw_and (pt_cmpR (op_neD hu) (pv 1) pe_str (nomark _)) (pw_and1 (pt_cmpR op_notIn_seq (pv 1) (pv 0) rfl)))) (pss_one ps_never) pss_nil)), ?_⟩
  try dsimp only [Cx.nox, Cx.wish, cxOf]
  rintro ds d ⟨names, t, rfl, ht, ha, rfl⟩
  apply Ends1.nx
  show StD K _ [some (.dat (.ptup (sD names))), some (.dat (.str t))] _
  apply sd_skip (p := !eqD (.str t) (.str "") && !decide (t ∈ names))
  · apply eb_and; walk_at "eb"
    intro _
    apply eb_test; exact ev_op (ev_v rfl) (ev_v rfl) (RvS.toD (rs_inP (neg := true)))
  · rw [eqD_str]
    rcases ha with rfl | ha
    · rw [show (("" : Str) == "") = true from beq_self_eq_true _]; rfl
    · rw [decide_eq_true ha]; cases (t == "") <;> rfl
abbrev s_check_stretch : Stmt := top 24
theorem sc_check_stretch : FnScope ["names", "first", "last", "name"] ["names", "first", "last"] (defScope s_check_stretch) := ⟨rfl, rfl, rfl, by decide +kernel, rfl, by decide +kernel, by decide +kernel⟩
theorem cal_check_stretch (T : Txt mg) (h : Has K mg "_check_stretch" s_check_stretch ["names", "first", "last"]) : Cal P w K mg base "_check_stretch" 1 ["names", "first", "last"] (spD K 3 RChkStr) := by
  refine h.cal sc_check_stretch rfl fun f cdv A outer s H E hr => ?_
  have nd := sc_check_stretch.nd
  have hu := hr.units
  refine ⟨_, (pss_cons (ps_for PassesOwn.never rfl (pi_tup (pe_tup (pa_cons (pv 1) (pa_cons (pv 2) pa_nil)))) (pg_name (i := 3) nd rfl (Or.inl rfl)) (pss_one (ps_if (pt_cmpR op_notIn_seq (pv 3) (pv 0) rfl) (pss_one ps_never) pss_nil)))
      (pss_one (ps_if (pt_cmpR op_lt (pe_pm PySem.F.slot_tuple_index PySem.F.type_tuple_index mt_tix (pv 0) (pa_cons (pv 2) pa_nil)) (pe_pm PySem.F.slot_tuple_index PySem.F.type_tuple_index mt_tix (pv 0) (pa_cons (pv 1) pa_nil)) (nomark _)) (pss_one ps_never) pss_nil))), ?_⟩
  try dsimp only [Cx.nox, Cx.wish, cxOf]
  rintro ds d ⟨names, f, l, i, j, rfl, hf, hl, hij, rfl⟩
  apply Ends1.nx
  show StD K _ [some (.dat (.ptup (sD names))), some (.dat (.str f)), some (.dat (.str l)), none] _
  have mf : f ∈ names := List.mem_of_getElem? hf.1
  have ml : l ∈ names := List.mem_of_getElem? hl.1
  apply sd_seq
  · refine sd_forTc (ds := [.str f, .str l]) (ev_tup (es_cons (ev_v rfl) (es_cons (ev_v rfl) es_nil)) (Nat.le_of_ble_eq_true rfl)) fun n d hd => ?_
    have : ∃ w : Str, d = .str w ∧ w ∈ names := by
      have := List.mem_of_getElem? hd
      simp only [List.mem_cons, List.not_mem_nil, or_false] at this
      rcases this with rfl | rfl
      · exact ⟨f, rfl, mf⟩
      · exact ⟨l, rfl, ml⟩
    obtain ⟨w, rfl, hw⟩ := this
    dsimp only [List.set]
    apply turn_nx
    · apply sd_skip (p := !decide (w ∈ names))
      · apply eb_test; exact ev_op (ev_v rfl) (ev_v rfl) (RvS.toD (rs_inP (neg := true)))
      · rw [decide_eq_true hw]; rfl
    · walk_at "le"
  apply sd_skip (p := decide ((j : Int) < (i : Int)))
  · apply eb_test
    exact ev_op (ev_tix (ev_v rfl) (es_cons (ev_v rfl) es_nil) hl.1 hl.2) (ev_tix (ev_v rfl) (es_cons (ev_v rfl) es_nil) hf.1 hf.2) (RvS.toD (rs_I0b (g := fun i j => decide (i < j))))
  · exact decide_eq_false (by omega)
abbrev s_check_statement : Stmt := top 21
theorem sc_check_statement : FnScope ["names", "statement", "word", "target", "test", "first", "last"] ["names", "statement"] (defScope s_check_statement) := ⟨rfl, rfl, rfl, by decide +kernel, rfl, by decide +kernel, by decide +kernel⟩
theorem cal_check_statement (T : Txt mg) (c__check_word : Cal P w K mg base "_check_word" 2 ["word"] (spD K 1 RChkWord)) (c__check_target : Cal P w K mg base "_check_target" 1 ["names", "target"] (spD K 2 RChkAim)) (c__check_stretch : Cal P w K mg base "_check_stretch" 1 ["names", "first", "last"] (spD K 3 RChkStr)) (h : Has K mg "_check_statement" s_check_statement ["names", "statement"]) : Cal P w K mg base "_check_statement" 3 ["names", "statement"] (spD K 2 RChkSm) := by
  refine h.cal sc_check_statement rfl fun f cdv A outer s H E hr => ?_
  have nd := sc_check_statement.nd
  have hu := hr.units
  refine ⟨_, (pss_one (ps_match (pv 1) (pm_case rfl nd hu (by decide +kernel) (PNs.cons (i := 2) rfl (Or.inl rfl) (by first | exact Or.inl rfl | exact Or.inr rfl) PNs.nil)
      (pss_one (ps_expr (pe_cal c__check_word (hr.mono (by decide)) (pa_cons (pv 2) pa_nil))))
      (pm_case rfl nd hu (by decide +kernel) (PNs.cons (i := 3) rfl (Or.inl rfl) (by first | exact Or.inl rfl | exact Or.inr rfl) PNs.nil)
      (pss_one (ps_expr (pe_cal c__check_target (hr.mono (by decide)) (pa_cons (pv 0) (pa_cons (pv 3) pa_nil)))))
      (pm_case rfl nd hu (by decide +kernel) (PNs.cons (i := 4) rfl (Or.inl rfl) (by first | exact Or.inl rfl | exact Or.inr rfl) (PNs.cons (i := 3) rfl (Or.inl rfl) (by first | exact Or.inl rfl | exact Or.inr rfl) PNs.nil))
      (pss_cons (ps_expr (pe_cal c__check_word (hr.mono (by decide)) (pa_cons (pv 4) pa_nil)))
      (pss_one (ps_expr (pe_cal c__check_target (hr.mono (by decide)) (pa_cons (pv 0) (pa_cons (pv 3) pa_nil))))))
      (pm_case rfl nd hu (by decide +kernel) (PNs.cons (i := 5) rfl (Or.inl rfl) (by first | exact Or.inl rfl | exact Or.inr rfl) (PNs.cons (i := 6) rfl (Or.inl rfl) (by first | exact Or.inl rfl | exact Or.inr rfl) PNs.nil))
      (pss_one (ps_expr (pe_cal c__check_stretch (hr.mono (by decide)) (pa_cons (pv 0) (pa_cons (pv 5) (pa_cons (pv 6) pa_nil))))))
      pm_nil)))))), ?_⟩
  try dsimp only [Cx.nox, Cx.wish, cxOf]
  rintro ds d ⟨names, x, rfl, hx, rfl⟩
  apply Ends1.nx (ρ' := [some (.dat (.ptup (sD names))), some (.dat x.d), none, none, none, none, none])
  show StD K _ [some (.dat (.ptup (sD names))), some (.dat x.d), none, none, none, none, none] _
  refine sd_match (ev_v rfl) ?_
  cases x with
  | act w =>
    refine ms_hit (by decide +kernel) rfl ?_
    apply sd_wk
    · exact sd_drop (ev_call (es_cons (ev_v rfl) es_nil) rfl ⟨w, rfl, hx, rfl⟩)
    · simp only [setAllR, List.set]; walk_at "le"
  | go t =>
    refine ms_miss (by decide +kernel) (fun _ => by decide +kernel) (ms_hit (by decide +kernel) rfl ?_)
    apply sd_wk
    · exact sd_drop (ev_call (es_cons (ev_v rfl) (es_cons (ev_v rfl) es_nil)) rfl ⟨names, t, rfl, hx.1, hx.2, rfl⟩)
    · simp only [setAllR, List.set]; walk_at "le"
  | ift w t =>
    refine ms_miss (by decide +kernel) (fun _ => by decide +kernel) (ms_miss (by decide +kernel) (fun _ => by decide +kernel) (ms_hit (by decide +kernel) rfl ?_))
    apply sd_wk
    · exact sd_seq (sd_drop (ev_call (es_cons (ev_v rfl) es_nil) rfl ⟨w, rfl, hx.1, rfl⟩)) (sd_drop (ev_call (es_cons (ev_v rfl) (es_cons (ev_v rfl) es_nil)) rfl ⟨names, t, rfl, hx.2.1, hx.2.2, rfl⟩))
    · simp only [setAllR, List.set]; walk_at "le"
  | perf f l =>
    obtain ⟨i, j, h1, h2, h3⟩ := hx
    refine ms_miss (by decide +kernel) (fun _ => by decide +kernel) (ms_miss (by decide +kernel) (fun _ => by decide +kernel) (ms_miss (by decide +kernel) (fun _ => by decide +kernel) (ms_hit (by decide +kernel) rfl ?_)))
    apply sd_wk
    · exact sd_drop (ev_call (es_cons (ev_v rfl) (es_cons (ev_v rfl) (es_cons (ev_v rfl) es_nil))) rfl ⟨names, f, l, i, j, rfl, h1, h2, h3, rfl⟩)
    · simp only [setAllR, List.set]; walk_at "le"
  | stop =>
    exact ms_miss (by decide +kernel) (fun _ => by decide +kernel) (ms_miss (by decide +kernel) (fun _ => by decide +kernel) (ms_miss (by decide +kernel) (fun _ => by decide +kernel) (ms_miss (by decide +kernel) (fun _ => by decide +kernel) ms_nil)))
abbrev s_check_names : Stmt := top 20
theorem sc_check_names : FnScope ["names", "at", "name"] ["names"] (defScope s_check_names) := ⟨rfl, rfl, rfl, by decide +kernel, rfl, by decide +kernel, by decide +kernel⟩
theorem cal_check_names (T : Txt mg) (c__check_word : Cal P w K mg base "_check_word" 2 ["word"] (spD K 1 RChkWord)) (h : Has K mg "_check_names" s_check_names ["names"]) : Cal P w K mg base "_check_names" 3 ["names"] (spD K 1 RChkNames) := by
  refine h.cal sc_check_names rfl fun f cdv A outer s H E hr => ?_
  have nd := sc_check_names.nd
  have hu := hr.units
  refine ⟨_, (pss_one (ps_for PassesOwn.never rfl (pi_enumT (by rfl) T.n_enumerate (pa_cons (pv 0) pa_nil)) (pg_tup (by rfl) (pgs_cons (pg_name (i := 1) nd rfl (Or.inl rfl)) (pgs_cons (pg_name (i := 2) nd rfl (Or.inl rfl)) pgs_nil))) (pss_cons (ps_expr (pe_cal c__check_word (hr.mono (by decide)) (pa_cons (pv 2) pa_nil)))
      (pss_one (ps_if (pt_cmpR op_in_seq (pv 2) (pe_slice sl_any (pv 0) po_none (po_some (pv 1))) rfl) (pss_one ps_never) pss_nil))))), ?_⟩
  try dsimp only [Cx.nox, Cx.wish, cxOf]
  rintro ds d ⟨names, rfl, hg, hz, rfl⟩
  apply Ends1.nx
  show StD K _ [some (.dat (.ptup (sD names))), none, none] _
  refine sd_forIc (it_enumT (es_cons (ev_v rfl).pt es_nil)) fun n d hd => ?_
  obtain ⟨e, he, rfl⟩ := enumD_get hd
  rw [List.getElem?_map] at he
  cases hw : names[n]? with
  | none => rw [hw] at he; cases he
  | some w =>
    rw [hw] at he
    cases he
    refine ⟨_, _, tg_tup (tgs_cons tg_name (tgs_cons tg_name tgs_nil)) rfl, ?_⟩
    dsimp only [List.set]
    apply turn_nx
    · apply sd_seq; exact sd_drop (ev_call (es_cons (ev_v rfl) es_nil) rfl ⟨w, rfl, hg.ok w (List.mem_of_getElem? hw), rfl⟩)
      apply sd_skip (p := decide (w ∈ names.take n))
      · apply eb_test
        refine ev_op (b := .tup (sD (names.take n))) (ev_v rfl) ?_ (RvS.toD (rs_inT (neg := false)))
        refine ev_is (ev_slT (ev_v rfl).pt eo_no (eo_so (ev_v rfl))) ?_
        rw [cut_to]
        unfold sD
        rw [List.map_take]
      · refine decide_eq_false fun hm => ?_
        obtain ⟨i, hi⟩ := List.getElem?_of_mem hm
        rw [List.getElem?_take] at hi
        split at hi
        · rename_i hin
          have := (List.getElem?_inj (List.getElem?_eq_some_iff.mp hi).1 hg.nd).mp (hi.trans hw.symm)
          omega
        · cases hi
    · walk_at "le"
abbrev s_with_points : Stmt := top 16
theorem sc_with_points : FnScope ["bodies", "paragraph", "body", "at", "statement"] ["bodies"] (defScope s_with_points) := ⟨rfl, rfl, rfl, by decide +kernel, rfl, by decide +kernel, by decide +kernel⟩
theorem cal_with_points (T : Txt mg) (h : Has K mg "_with_points" s_with_points ["bodies"]) : Cal P w K mg base "_with_points" 1 ["bodies"] (spD K 1 RWith) := by
  refine h.cal sc_with_points rfl fun f cdv A outer s H E hr => ?_
  have nd := sc_with_points.nd
  have hu := hr.units
  refine ⟨_, (pss_one (ps_ret (pe_lc2 (own := [("paragraph", 1), ("body", 2), ("at", 3), ("statement", 4)]) (vs1 := [3, 4]) (g := (gTup K 2 (gCons (gName 1) (gCons (gName 2) gNil)))) (tt := tYes) (wi1 := (iEnumT K (tCons (tVar 2) tNil))) (g1 := (gTup K 2 (gCons (gName 3) (gCons (gName 4) gNil)))) (tt1 := tYes) (te := (tTup (tCons (tTup (tCons (tVar 1) (tCons (tVar 3) tNil))) (tCons (tVar 4) tNil)))) (by rfl) nd (pi_enumT (by rfl) T.n_enumerate (pa_cons (pv 0) pa_nil)) (blkOk_by (N := ["bodies", "paragraph", "body", "at", "statement"]) (sc := defScope s_with_points) (by decide +kernel)) (by decide) (fun _ _ _ _ _ => (pg_tup (by rfl) (pgs_cons (pg_name (i := 1) nd rfl (Or.inl rfl)) (pgs_cons (pg_name (i := 2) nd rfl (Or.inl rfl)) pgs_nil)))) (fun _ _ _ _ _ => pts_nil) (fun _ _ _ _ _ => (pi_enumT (by rfl) T.n_enumerate (pa_cons (pv 2) pa_nil))) (fun _ _ _ _ _ => (pg_tup (by rfl) (pgs_cons (pg_name (i := 3) nd rfl (Or.inl rfl)) (pgs_cons (pg_name (i := 4) nd rfl (Or.inl rfl)) pgs_nil)))) (fun _ _ _ _ _ => pts_nil) (fun _ _ _ _ _ => (pe_tup (pa_cons (pe_tup (pa_cons (pv 1) (pa_cons (pv 3) pa_nil))) (pa_cons (pv 4) pa_nil))))))), ?_⟩
  try dsimp only [Cx.nox, Cx.wish, cxOf]
  rintro ds d ⟨bs, rfl, hb, rfl⟩
  refine .rt ?_
  show StD K _ [some (.dat (.tup (sbD bs))), none, none, none, none] _
  apply sd_ret
  apply EvN.dt
  have hn := hb.n
  have el : (enumD (sbD bs)).length = bs.length := by rw [enumD_len, List.length_map]
  unfold ptsD
  rw [← el]
  have key : ∀ (n : Nat) (d : D), (enumD (sbD bs))[n]? = some d → n < bs.length ∧ d = .tup [.int (n : Int), .tup (smD (bs.getD n []))] := fun n d hd => by
    obtain ⟨e, he, rfl⟩ := enumD_get hd
    rw [List.getElem?_map] at he
    cases hw : bs[n]? with
    | none => rw [hw] at he; cases he
    | some y =>
      rw [hw] at he
      cases he
      rw [getD_of hw]
      exact ⟨(List.getElem?_eq_some_iff.mp hw).1, rfl⟩
  have key2 : ∀ (n m : Nat) (d : D), (enumD (smD (bs.getD n [])))[m]? = some d → d = .tup [.int (m : Int), ((bs.getD n []).getD m .stop).d] := fun n m d hd => by
    obtain ⟨e, he, rfl⟩ := enumD_get hd
    rw [List.getElem?_map] at he
    cases hw : (bs.getD n [])[m]? with
    | none => rw [hw] at he; cases he
    | some y =>
      rw [hw] at he
      cases he
      rw [getD_of hw]
  refine en_lc2 (b := 100) (js := [1, 2]) (js1 := [3, 4]) (fun _ => true) (fun n => enumD (smD (bs.getD n []))) (fun _ _ => true) (fun n m => ptF bs n m) (fun n => [some (.dat (.tup (sbD bs))), some (.dat (.int (n : Int))), some (.dat (.tup (smD (bs.getD n [])))), none, none])
    (fun n m => [some (.dat (.tup (sbD bs))), some (.dat (.int (n : Int))), some (.dat (.tup (smD (bs.getD n [])))), some (.dat (.int (m : Int))), some (.dat ((bs.getD n []).getD m .stop).d)])
    (it_enumT (es_cons (ev_v rfl) es_nil)) (fun n => by rw [enumD_len, List.length_map]; exact hb.at n) (by rw [el]; omega) (by decide) (by decide) ?_ ?_ ?_ ?_ ?_ ?_ ?_
  · intro n i x h
    rcases i with _ | _ | _ | _ | _ | i
    · cases h; rfl
    · cases h; rfl
    · cases h; rfl
    · cases h
    · cases h
    · cases h
  · intro n d hd
    obtain ⟨_, rfl⟩ := key n d hd
    exact tg_tup (tgs_cons tg_name (tgs_cons tg_name tgs_nil)) rfl
  · intro n d hd; exact eb_yes
  · intro n d hd _; exact it_enumT (es_cons (ev_v rfl) es_nil)
  · intro n m d _ hd
    rw [key2 n m d hd]
    exact tg_tup (tgs_cons tg_name (tgs_cons tg_name tgs_nil)) rfl
  · intro n m d _ hd; exact eb_yes
  · intro n m d _ hd _
    exact ev_tup (es_cons (ev_tup (es_cons (ev_v rfl) (es_cons (ev_v rfl) es_nil)) (Nat.le_of_ble_eq_true rfl)) (es_cons (ev_v rfl) es_nil)) (Nat.le_of_ble_eq_true rfl)
abbrev s_check_size : Stmt := top 19
theorem sc_check_size : FnScope ["bodies", "body", "words", "statement"] ["bodies"] (defScope s_check_size) := ⟨rfl, rfl, rfl, by decide +kernel, rfl, by decide +kernel, by decide +kernel⟩
theorem cal_check_size (T : Txt mg) (g_MOST_PARAGRAPHS : GInt mg "MOST_PARAGRAPHS" 8) (g_MOST_STATEMENTS : GInt mg "MOST_STATEMENTS" 4) (g_MOST_PERFORMS : GInt mg "MOST_PERFORMS" 4) (g_MOST_JUMPS : GInt mg "MOST_JUMPS" 6) (h : Has K mg "_check_size" s_check_size ["bodies"]) : Cal P w K mg base "_check_size" 1 ["bodies"] (spD K 1 RChkSize) := by
  refine h.cal sc_check_size rfl fun f cdv A outer s H E hr => ?_
  have nd := sc_check_size.nd
  have hu := hr.units
  refine ⟨_, (pss_cons (ps_if (pt_not (pt_chain op_le op_le pe_int (pe_callB call_lenA (by rfl) T.n_len (by decide +kernel) (pa_cons (pv 0) pa_nil)) (pe_gint g_MOST_PARAGRAPHS))) (pss_one ps_never) pss_nil)
      (pss_cons (ps_if (pt_val (pe_callB (cr_any rfl) (by rfl) T.n_any (by decide +kernel) (pa_cons (pe_lc (own := [("body", 1)]) (g := (gName 1)) (tt := tYes) (te := (tOp _ (tCB (rLen K) (tCons (tVar 1) tNil)) _)) (by rfl) nd (pi_tup (pv 0)) (blkOk_by (N := ["bodies", "body", "words", "statement"]) (sc := defScope s_check_size) (by decide +kernel)) (fun _ _ _ _ _ => pg_name (i := 1) nd rfl (Or.inl rfl)) (fun _ _ _ _ _ => pts_nil) (fun _ _ _ _ _ => (pe_cmpR op_gt (pe_callB call_lenA (by rfl) T.n_len (by decide +kernel) (pa_cons (pv 1) pa_nil)) (pe_gint g_MOST_STATEMENTS) (nomark _)))) pa_nil))) (pss_one ps_never) pss_nil)
      (pss_cons (ps_setLc2 (i := 2) (own := [("body", 1), ("statement", 3)]) (vs1 := [3]) (g := (gName 1)) (tt := tYes) (wi1 := (iTup K (tVar 1))) (g1 := (gName 3)) (tt1 := tYes) (te := (tOp (rIx K) (tVar 3) (tC (.int 0)))) (by rfl) nd rfl rfl (sw_true rfl rfl rfl (by decide +kernel)) (pi_tup (pv 0)) (blkOk_by (N := ["bodies", "body", "words", "statement"]) (sc := defScope s_check_size) (by decide +kernel)) (by decide) (fun _ _ _ _ _ => pg_name (i := 1) nd rfl (Or.inl rfl)) (fun _ _ _ _ _ => pts_nil) (fun _ _ _ _ _ => (pi_tup (pv 1))) (fun _ _ _ _ _ => pg_name (i := 3) nd rfl (Or.inl rfl)) (fun _ _ _ _ _ => pts_nil) (fun _ _ _ _ _ => (pe_ix ix_seq (pv 3) pe_int (fun _ _ => rfl))))
      (pss_cons (ps_if (pt_cmpR op_gt (pe_bm PySem.F.plainAttrs_list PySem.F.slot_list_count PySem.F.type_list_count mt_lcountS (pv 2) (pa_cons pe_str pa_nil)) (pe_gint g_MOST_PERFORMS) (nomark _)) (pss_one ps_never) pss_nil)
      (pss_one (ps_if (pt_cmpR op_gt (pe_op op_plus (pe_bm PySem.F.plainAttrs_list PySem.F.slot_list_count PySem.F.type_list_count mt_lcountS (pv 2) (pa_cons pe_str pa_nil)) (pe_bm PySem.F.plainAttrs_list PySem.F.slot_list_count PySem.F.type_list_count mt_lcountS (pv 2) (pa_cons pe_str pa_nil))) (pe_gint g_MOST_JUMPS) (nomark _)) (pss_one ps_never) pss_nil)))))), ?_⟩
  try dsimp only [Cx.nox, Cx.wish, cxOf]
  rintro ds d ⟨bs, rfl, hb, rfl⟩
  apply Ends1.nx (ρ' := [some (.dat (.tup (sbD bs))), none, some (.own (sD (bs.flatten.map Sm.word))), none])
  show StD K _ [some (.dat (.tup (sbD bs))), none, none, none] _
  have h1 := hb.n1
  have h8 := hb.n8
  apply sd_seq
  · apply sd_skip (p := !(decide ((1 : Int) ≤ ((sbD bs).length : Int)) && decide (((sbD bs).length : Int) ≤ 8)))
    · apply eb_not; apply eb_test
      exact ev_chainI (f := fun i j => decide (i ≤ j)) (g := fun i j => decide (i ≤ j)) ev_ci (ev_cbS (er_cons (ev_v rfl).rd er_nil) rs_lenT) ev_ci
    · rw [List.length_map, decide_eq_true (by omega), decide_eq_true (by omega)]; rfl
  apply sd_seq
  · apply sd_skip (p := (((List.range bs.length).map fun i => (fun y : List Sm => decide (4 < y.length)) (bs.getD i [])).any id))
    · apply eb_B
      refine ev_cbS (er_cons (EvN.rd ?_) er_nil) rs_any
      rw [← pick_bl]
      have el : (sbD bs).length = bs.length := List.length_map ..
      rw [← el]
      refine en_lcI (js := [1]) (fun _ => true) _ (fun n => [some (.dat (.tup (sbD bs))), some (.dat (.tup (smD (bs.getD n [])))), none, none]) (it_tup (ev_v rfl)) (by omega) (by decide) ?_ ?_ ?_
      · intro n d hd
        have e : d = .tup (smD (bs.getD n [])) := by
          rw [List.getElem?_map] at hd
          cases hw : bs[n]? with
          | none => rw [hw] at hd; cases hd
          | some y => rw [hw] at hd; cases hd; rw [getD_of hw]
        rw [e]
        exact tg_name
      · intro n d hd; exact eb_yes
      · intro n d hd _
        refine ev_is (ev_op (ev_cbS (er_cons (ev_v rfl).rd er_nil) rs_lenT) ev_ci (RvS.toD (rs_I0b (g := fun i j => decide (j < i))))) ?_
        rw [List.length_map]
        congr 1
        rw [decide_eq_decide]
        omega
    · rw [any_range bs [] (fun y => decide (4 < y.length)), List.any_eq_false]
      intro y hy
      rw [decide_eq_false (by have := hb.each y hy; omega)]; decide
  apply sd_seq
  · apply sd_asgN (ds := sD (bs.flatten.map Sm.word))
    have e0 : sD (bs.flatten.map Sm.word) = bs.flatten.map fun x => .str x.word := by unfold sD; rw [List.map_map]; rfl
    have el : (sbD bs).length = bs.length := List.length_map ..
    rw [e0, ← nest_map bs .stop]
    have el2 : ∀ n, (bs.getD n []).length = (smD (bs.getD n [])).length := fun n => (List.length_map ..).symm
    rw [show (fun p => pick (fun _ => true) (fun k => D.str ((bs.getD p []).getD k .stop).word) (bs.getD p []).length) = fun p => pick (fun _ => true) (fun k => D.str ((bs.getD p []).getD k .stop).word) (smD (bs.getD p [])).length from funext fun p => by rw [el2], ← el]
    refine en_lc2 (b := 4) (js := [1]) (js1 := [3]) (fun _ => true) (fun n => smD (bs.getD n [])) (fun _ _ => true) (fun n m => D.str ((bs.getD n []).getD m .stop).word) (fun n => [some (.dat (.tup (sbD bs))), some (.dat (.tup (smD (bs.getD n [])))), none, none])
      (fun n m => [some (.dat (.tup (sbD bs))), some (.dat (.tup (smD (bs.getD n [])))), none, some (.dat ((bs.getD n []).getD m .stop).d)]) (it_tup (ev_v rfl)) ?_ (by omega) (by decide) (by decide) ?_ ?_ ?_ ?_ ?_ ?_ ?_
    · intro n
      rw [List.length_map, List.getD_eq_getElem?_getD]
      cases hw : bs[n]? with
      | none => exact Nat.zero_le _
      | some y => exact hb.each y (List.mem_of_getElem? hw)
    · intro n i x h
      rcases i with _ | _ | _ | _ | i
      · cases h; rfl
      · cases h; rfl
      · cases h
      · cases h
      · cases h
    · intro n d hd
      have e : d = .tup (smD (bs.getD n [])) := by
        rw [List.getElem?_map] at hd
        cases hw : bs[n]? with
        | none => rw [hw] at hd; cases hd
        | some y => rw [hw] at hd; cases hd; rw [getD_of hw]
      rw [e]
      exact tg_name
    · intro n d hd; exact eb_yes
    · intro n d hd _; exact it_tup (ev_v rfl)
    · intro n m d _ hd
      have e : d = ((bs.getD n []).getD m .stop).d := by
        rw [List.getElem?_map] at hd
        cases hw : (bs.getD n [])[m]? with
        | none => rw [hw] at hd; cases hd
        | some y => rw [hw] at hd; cases hd; rw [getD_of hw]
      rw [e]
      exact tg_name
    · intro n m d _ hd; exact eb_yes
    · intro n m d _ hd _
      exact ev_op (ev_v rfl) ev_ci (ix_word _)
  dsimp only [List.set]
  have hp := hb.p
  have hj := hb.j
  generalize bs.flatten.map Sm.word = ws at hp hj ⊢
  apply sd_seq
  · apply sd_skip (p := decide ((4 : Int) < (ws.count ("perform" : Str) : Nat)))
    · apply eb_test; exact ev_op (ev_count (i := 0) (ev_vo rfl) (es_cons ev_cs es_nil)) ev_ci (RvS.toD (rs_I0b (g := fun i j => decide (j < i))))
    · exact decide_eq_false (by omega)
  apply sd_skip (p := decide ((6 : Int) < ((ws.count ("go" : Str) : Nat) : Int) + (ws.count ("if" : Str) : Nat)))
  · apply eb_test; exact ev_op (ev_op (ev_count (i := 0) (ev_vo rfl) (es_cons ev_cs es_nil)) (ev_count (i := 0) (ev_vo rfl) (es_cons ev_cs es_nil)) (RvS.toD rs_plusI)) ev_ci (RvS.toD (rs_I0b (g := fun i j => decide (j < i))))
  · exact decide_eq_false (by omega)
abbrev s_Program_init : Stmt := inClass (top 15) 0
theorem sc_Program_init : FnScope ["self", "paragraphs", "name", "_", "statements", "statement"] ["self", "paragraphs"] (defScope s_Program_init) := ⟨rfl, rfl, rfl, by decide +kernel, rfl, by decide +kernel, by decide +kernel⟩
theorem cal_Program_init (T : Txt mg) (M_Program : CCls K mg "Program" C_Program) (na_names : NoAttr K C_Program "names") (na_bodies : NoAttr K C_Program "bodies") (c__check_size : Cal P w K mg base "_check_size" 1 ["bodies"] (spD K 1 RChkSize)) (c__check_names : Cal P w K mg base "_check_names" 3 ["names"] (spD K 1 RChkNames)) (c__with_points : Cal P w K mg base "_with_points" 1 ["bodies"] (spD K 1 RWith)) (c__check_statement : Cal P w K mg base "_check_statement" 3 ["names", "statement"] (spD K 2 RChkSm)) {f : Addr} (h : HasM K C_Program "__init__" "Program.__init__" s_Program_init ["self", "paragraphs"] f) : CalM P w K mg base C_Program "__init__" 4 ["self", "paragraphs"] (spI K C_Program 1 RPrgI) := by
  refine h.calI sc_Program_init rfl fun cdv A outer s H E hr => ?_
  have nd := sc_Program_init.nd
  have hu := hr.units
  refine ⟨_, (pss_cons (ps_fld (pv 0) (pe_callTy call_tupleP (by rfl) T.n_tuple (by decide +kernel) (pa_cons (pe_lc (own := [("name", 2), ("_", 3)]) (g := (gTup K 2 (gCons (gName 2) (gCons (gName 3) gNil)))) (tt := tYes) (te := (tVar 2)) (by rfl) nd (pi_list (pv 1)) (blkOk_by (N := ["self", "paragraphs", "name", "_", "statements", "statement"]) (sc := defScope s_Program_init) (by decide +kernel)) (fun _ _ _ _ _ => (pg_tup (by rfl) (pgs_cons (pg_name (i := 2) nd rfl (Or.inl rfl)) (pgs_cons (pg_name (i := 3) nd rfl (Or.inl rfl)) pgs_nil)))) (fun _ _ _ _ _ => pts_nil) (fun _ _ _ _ _ => (pv 2))) pa_nil)) rfl)
      (pss_cons (ps_fld (pv 0) (pe_callTy call_tuple_of (by rfl) T.n_tuple (by decide +kernel) (pa_cons (pe_lc (own := [("_", 3), ("statements", 4)]) (g := (gTup K 2 (gCons (gName 3) (gCons (gName 4) gNil)))) (tt := tYes) (te := (tCB (rTupOf K) (tCons (tVar 4) tNil))) (by rfl) nd (pi_list (pv 1)) (blkOk_by (N := ["self", "paragraphs", "name", "_", "statements", "statement"]) (sc := defScope s_Program_init) (by decide +kernel)) (fun _ _ _ _ _ => (pg_tup (by rfl) (pgs_cons (pg_name (i := 3) nd rfl (Or.inl rfl)) (pgs_cons (pg_name (i := 4) nd rfl (Or.inl rfl)) pgs_nil)))) (fun _ _ _ _ _ => pts_nil) (fun _ _ _ _ _ => (pe_callTy call_tuple_of (by rfl) T.n_tuple (by decide +kernel) (pa_cons (pv 4) pa_nil)))) pa_nil)) rfl)
      (pss_cons (ps_expr (pe_cal c__check_size (hr.mono (by decide)) (pa_cons (pe_fld (pv 0) rfl) pa_nil)))
      (pss_cons (ps_expr (pe_cal c__check_names (hr.mono (by decide)) (pa_cons (pe_fld (pv 0) rfl) pa_nil)))
      (pss_one (ps_for PassesOwn.never rfl (pi_list (pe_cal c__with_points (hr.mono (by decide)) (pa_cons (pe_fld (pv 0) rfl) pa_nil))) (pg_tup (by rfl) (pgs_cons (pg_name (i := 3) nd rfl (Or.inl rfl)) (pgs_cons (pg_name (i := 5) nd rfl (Or.inl rfl)) pgs_nil))) (pss_one (ps_expr (pe_cal c__check_statement (hr.mono (by decide)) (pa_cons (pe_fld (pv 0) rfl) (pa_cons (pv 5) pa_nil))))))))))), ?_⟩
  try dsimp only [Cx.nox, Cx.wish, cxOf]
  rintro x ds fs ⟨ps, rfl, hp, rfl⟩
  have hsz := hp.size
  have hl : ps.length ≤ 8 := by have := hsz.n8; rw [List.length_map] at this; exact this
  refine ⟨[some (.obj x C_Program (progF (ps.map (·.1)) (ps.map (·.2)))), some (.dat (.lst (ps.map pD))), none, none, none, none], ?_, rfl⟩
  show StD K _ [some (.obj x C_Program []), some (.dat (.lst (ps.map pD))), none, none, none, none] _
  have el : (ps.map pD).length = ps.length := List.length_map ..
  have key : ∀ (n : Nat) (d : D), (ps.map pD)[n]? = some d → d = .tup [.str (ps.getD n ("", [])).1, .lst (smD (ps.getD n ("", [])).2)] := fun n d hd => by
    rw [List.getElem?_map] at hd
    cases hw : ps[n]? with
    | none => rw [hw] at hd; cases hd
    | some y => rw [hw] at hd; cases hd; rw [getD_of hw]; rfl
  apply sd_seq
  · refine sd_fld (d := .ptup (sD (ps.map (·.1)))) (ev_cbD (es_cons (EvN.dt ?_) es_nil) rd_tupP) rfl M_Program.cl na_names (by decide)
    have e : sD (ps.map (·.1)) = pick (fun _ => true) (fun i => (fun y : Str × List Sm => D.str y.1) (ps.getD i ("", []))) ps.length := (by unfold sD; rw [List.map_map]; rfl : sD (ps.map (·.1)) = ps.map fun y => D.str y.1).trans (pick_map ps ("", []) (fun y : Str × List Sm => D.str y.1)).symm
    rw [e, ← el]
    refine en_lcI (js := [2, 3]) (fun _ => true) _ (fun n => [some (.obj x C_Program []), some (.dat (.lst (ps.map pD))), some (.dat (.str (ps.getD n ("", [])).1)), some (.dat (.lst (smD (ps.getD n ("", [])).2))), none, none]) (it_list (ev_v rfl)) (by omega) (by decide) ?_ ?_ ?_
    · intro n d hd
      rw [key n d hd]
      exact tg_tup (tgs_cons tg_name (tgs_cons tg_name tgs_nil)) rfl
    · intro n d hd; exact eb_yes
    · intro n d hd _; exact ev_v rfl
  rw [put_nil]
  dsimp only [List.set]
  apply sd_seq
  · refine sd_fld (d := .tup (sbD (ps.map (·.2)))) (ev_cbD (es_cons (EvN.dt ?_) es_nil) rd_tupL) rfl M_Program.cl na_bodies (by show 1 < 1000; decide)
    have e : sbD (ps.map (·.2)) = pick (fun _ => true) (fun i => (fun y : Str × List Sm => D.tup (smD y.2)) (ps.getD i ("", []))) ps.length := (by unfold sbD; rw [List.map_map]; rfl : sbD (ps.map (·.2)) = ps.map fun y => D.tup (smD y.2)).trans (pick_map ps ("", []) (fun y : Str × List Sm => D.tup (smD y.2))).symm
    rw [e, ← el]
    refine en_lcI (js := [3, 4]) (fun _ => true) _ (fun n => [some (.obj x C_Program [("names", .ptup (sD (ps.map (·.1))))]), some (.dat (.lst (ps.map pD))), none, some (.dat (.str (ps.getD n ("", [])).1)), some (.dat (.lst (smD (ps.getD n ("", [])).2))), none]) (it_list (ev_v rfl)) (by omega) (by decide) ?_ ?_ ?_
    · intro n d hd
      rw [key n d hd]
      exact tg_tup (tgs_cons tg_name (tgs_cons tg_name tgs_nil)) rfl
    · intro n d hd; exact eb_yes
    · intro n d hd _; exact ev_cbD (es_cons (ev_v rfl) es_nil) rd_tupL
  rw [put_tl bn, put_nil]
  dsimp only [List.set]
  generalize ps.map (·.1) = names at hp ⊢
  generalize ps.map (·.2) = bs at hp hsz ⊢
  have fb : EvD K (tFld K (tVar 0) "bodies") [some (.obj x C_Program (progF names bs)), some (.dat (.lst (ps.map pD))), none, none, none, none] (.tup (sbD bs)) := ev_fldM rfl M_Program.cl na_bodies (by unfold progF; rw [look_tl nb]; exact look_hd)
  apply sd_seq; exact sd_drop (ev_call (es_cons fb es_nil) rfl ⟨bs, rfl, hsz, rfl⟩)
  apply sd_seq
  · refine sd_drop (ev_call (es_cons (ev_fldM rfl M_Program.cl na_names look_hd) es_nil) rfl ⟨names, rfl, hp.nms, ?_, rfl⟩)
    have := hsz.n8; have := hp.len; omega
  refine sd_forIc (it_list (ev_call (es_cons fb es_nil) rfl ⟨bs, rfl, ⟨by have := hsz.n8; omega, fun y hy => by have := hsz.each y hy; omega⟩, rfl⟩)) fun n d hd => ?_
  obtain ⟨p, k, y, z, hy, hz, rfl⟩ := mem_pts (List.mem_of_getElem? hd)
  refine ⟨_, _, tg_tup (tgs_cons tg_name (tgs_cons tg_name tgs_nil)) rfl, ?_⟩
  dsimp only [List.set]
  apply turn_nx
  · exact sd_drop (ev_call (es_cons (ev_fldM rfl M_Program.cl na_names look_hd) (es_cons (ev_v rfl) es_nil)) rfl ⟨names, z, rfl, hp.sms y (List.mem_of_getElem? hy) z (List.mem_of_getElem? hz), rfl⟩)
  · walk_at "le"
abbrev s_Program_redirected : Stmt := inClass (top 15) 4
theorem sc_Program_redirected : FnScope ["self", "choice", "bodies", "body", "paragraph", "at", "statement"] ["self", "choice"] (defScope s_Program_redirected) := ⟨rfl, rfl, rfl, by decide +kernel, rfl, by decide +kernel, by decide +kernel⟩
theorem cal_Program_redirected (T : Txt mg) (M_Program : CCls K mg "Program" C_Program) (na_names : NoAttr K C_Program "names") (na_bodies : NoAttr K C_Program "bodies") (c_Program_init : CalM P w K mg base C_Program "__init__" 4 ["self", "paragraphs"] (spI K C_Program 1 RPrgI)) {f : Addr} (h : HasM K C_Program "redirected" "Program.redirected" s_Program_redirected ["self", "choice"] f) : CalM P w K mg base C_Program "redirected" 6 ["self", "choice"] (spD K 2 (RRed C_Program)) := by
  refine h.cal sc_Program_redirected rfl fun cdv A outer s H E hr => ?_
  have nd := sc_Program_redirected.nd
  have hu := hr.units
  refine ⟨_, (pss_cons (ps_setLc (i := 2) (own := [("body", 3)]) (g := (gName 3)) (tt := tYes) (te := (tCB (rLstOf K) (tCons (tVar 3) tNil))) (by rfl) nd rfl rfl (sw_true rfl rfl rfl (by decide +kernel)) (pi_tup (pe_fld (pv 0) rfl)) (blkOk_by (N := ["self", "choice", "bodies", "body", "paragraph", "at", "statement"]) (sc := defScope s_Program_redirected) (by decide +kernel)) (fun _ _ _ _ _ => pg_name (i := 3) nd rfl (Or.inl rfl)) (fun _ _ _ _ _ => pts_nil) (fun _ _ _ _ _ => (pe_callTy call_list_of (by rfl) T.n_list (by decide +kernel) (pa_cons (pv 3) pa_nil))))
      (pss_cons (ps_for PassesOwn.never rfl (pi_tup (pv 1)) (pg_tup (by rfl) (pgs_cons (pg_name (i := 4) nd rfl (Or.inl rfl)) (pgs_cons (pg_name (i := 5) nd rfl (Or.inl rfl)) pgs_nil))) (pss_cons (ps_set (i := 6) nd rfl (Or.inl rfl) (pe_ix ix_seq (pe_ix ix_seq (pv 2) (pv 4) (fun _ _ => rfl)) (pv 5) (fun _ _ => rfl)))
      (pss_one (ps_asg (pe_op op_plus (pe_slice sl_any (pv 6) po_none (po_some (pe_un un_neg pe_int))) (pe_tup (pa_cons pe_str pa_nil))) (pg_sub (pe_ix ix_seq (pv 2) (pv 4) (fun _ _ => rfl)) (pv 5) set_list)))))
      (pss_one (ps_ret (pe_new M_Program c_Program_init (hr.mono (by decide)) (pa_cons (pe_lstZip (by rfl) (by rfl) T.n_list (by rfl) T.n_zip (pa_cons (pe_fld (pv 0) rfl) (pa_cons (pv 2) pa_nil))) pa_nil)))))), ?_⟩
  try dsimp only [Cx.nox, Cx.wish, cxOf]
  rintro ds d ⟨names, bs, zs, rfl, hb, hn, hl, hz, rfl⟩
  refine .rt ?_
  show StD K _ [some (.dat (progD C_Program names (nmB names bs))), some (.dat (.tup (zs.map ptD2))), none, none, none, none, none] _
  have fn : ∀ ρ : Rho, ρ[0]? = some (some (.dat (progD C_Program names (nmB names bs)))) → EvD K (tFld K (tVar 0) "names") ρ (.tup (sD names)) := fun ρ h => EvD.pt (ev_fld (ev_v h) M_Program.cl na_names look_hd)
  have fb : ∀ ρ : Rho, ρ[0]? = some (some (.dat (progD C_Program names (nmB names bs)))) → EvD K (tFld K (tVar 0) "bodies") ρ (.tup (sbD (nmB names bs))) := fun ρ h => ev_fld (ev_v h) M_Program.cl na_bodies (by unfold progF; rw [look_tl nb]; exact look_hd)
  have h8 := hb.n8
  have e0 : (sbD (nmB names bs)).length = (nmB names bs).length := List.length_map ..
  have e1 : (nmB names bs).length = bs.length := List.length_map ..
  have prg := prg_i (goodb_cut (zs := zs) hb) hn (by rw [cutB_len]; exact hl)
  rw [← zip_prs (by rw [cutB_len]; exact hl)] at prg
  refine sd_lcN (i := 2) (js := [3]) (fun n => smD ((nmB names bs).getD n [])) (fun n => [some (.dat (progD C_Program names (nmB names bs))), some (.dat (.tup (zs.map ptD2))), none, some (.dat (.tup (smD ((nmB names bs).getD n [])))), none, none, none]) (it_tup (fb _ rfl)) (by omega) (by decide) (fun n d hd => ?_) (fun n d hd => en_cb (es_cons (ev_v rfl) es_nil) rn_lstT) fun l As hA => ?_
  · rw [List.getElem?_map] at hd
    cases hw : (nmB names bs)[n]? with
    | none => rw [hw] at hd; cases hd
    | some y =>
      rw [hw] at hd
      cases hd
      rw [getD_of hw]
      exact tg_name
  rw [e0, rowsE_range]
  dsimp only [List.set]
  have em : (zs.map ptD2).length = zs.length := List.length_map ..
  apply sd_E (ste_for (it_tup (ev_v rfl)) (fun i ρ => ρ = [some (.dat (progD C_Program names (nmB names bs))), some (.dat (.tup (zs.map ptD2))), some (.nst l As (rowsE (nmB names (cutB Q.cut (zs.take i) bs)))), none, none, none, none]) (by rw [List.take_zero, cutB_nil]) ?_) ?_
  · rintro i d ρ hd rfl
    rw [List.getElem?_map] at hd
    cases hw : zs[i]? with
    | none => rw [hw] at hd; cases hd
    | some z =>
      rw [hw] at hd
      cases hd
      obtain ⟨y, q, hy, hq, hJ⟩ := hz z (List.mem_of_getElem? hw)
      have tk : zs.take (i + 1) = zs.take i ++ [z] := by rw [List.take_add_one, hw]; rfl
      generalize zs.take i = ws at tk
      refine ⟨_, _, tg_tup (tgs_cons tg_name (tgs_cons tg_name tgs_nil)) rfl, ?_⟩
      dsimp only [List.set]
      have hy2 : (cutB Q.cut ws bs)[z.1]? = some (cutR Q.cut ws z.1 y) := by rw [cutB_get, hy]; rfl
      have hq2 : (cutR Q.cut ws z.1 y)[z.2]? = some (if (z.1, z.2) ∈ ws then q.cut else q) := by rw [cutR_get, hq]; rfl
      have hc2 : Q.cut (if (z.1, z.2) ∈ ws then q.cut else q) = q.cut := by
        split
        · exact Q.cut_cut q
        · rfl
      have hJ2 : Q.isJ (if (z.1, z.2) ∈ ws then q.cut else q) = true := by
        split
        · rw [Q.cut_J]; exact hJ
        · exact hJ
      have st := cutB_step (c := Q.cut) (zs := ws) hy hq
      rw [← hc2] at st
      generalize (if (z.1, z.2) ∈ ws then q.cut else q) = q' at hq2 hJ2 st
      generalize cutR Q.cut ws z.1 y = y' at hy2 hq2 st
      generalize cutB Q.cut ws bs = bs' at hy2 st
      have a1 : (rowsE (nmB names bs'))[z.1]? = some (.row (smD (y'.map (nameQ names)))) := by rw [List.getElem?_map, List.getElem?_map, hy2]; rfl
      have a2 : (smD (y'.map (nameQ names)))[z.2]? = some (nameQ names q').d := by rw [List.getElem?_map, List.getElem?_map, hq2]; rfl
      have a3 : atI ((nmB names bs').map fun y => D.lst (smD y)) (z.1 : Int) = some (.lst (smD (y'.map (nameQ names)))) := atI_of (by omega) (by rw [Int.toNat_natCast, List.getElem?_map, List.getElem?_map, hy2]; rfl)
      have a4 : atI (smD (y'.map (nameQ names))) (z.2 : Int) = some (nameQ names q').d := atI_of (by omega) (by rw [Int.toNat_natCast]; exact a2)
      apply ste_seq; apply sd_asg (d := (nameQ names q').d)
      · refine ev_lendN (n := 2) rfl ?_ (pu_sm _) (rowsE_rows _)
        dsimp only [List.set]
        rw [rowsE_D]
        exact ev_op (ev_op (ev_v rfl) (ev_v rfl) (rd_ixL a3)) (ev_v rfl) (rd_ixL a4)
      dsimp only [List.set]
      refine ste_of (sd_nsetix (i := 2) (a := z.1) (k0 := (z.2 : Int)) (j := z.2) (d := (nameQ names q'.cut).d) (red_v hJ2 (ev_v rfl)) (ev_v rfl) (ev_v rfl) rfl a1 (ixN_nat (List.getElem?_eq_some_iff.mp a2).1)) ?_ rfl
      dsimp only [List.set]
      rw [rowsE_set, st, tk]
      walk_at "le"
  rintro ρ rfl
  rw [em, List.take_length]
  refine sd_freezeN (i := 2) rfl ?_
  rw [rowsE_D]
  dsimp only [List.set]
  exact sd_retI (ev_new (es_cons (EvN.dt (en_lstZip (es_cons (fn _ rfl) (es_cons (ev_v rfl) es_nil)))) es_nil) rfl prg) rfl
abbrev s_is_jump : Stmt := top 17
theorem sc_is_jump : FnScope ["statement"] ["statement"] (defScope s_is_jump) := ⟨rfl, rfl, rfl, by decide +kernel, rfl, by decide +kernel, by decide +kernel⟩
theorem cal_is_jump (T : Txt mg) (h : Has K mg "_is_jump" s_is_jump ["statement"]) : Cal P w K mg base "_is_jump" 1 ["statement"] (spD K 1 RIsJ) := by
  refine h.cal sc_is_jump rfl fun f cdv A outer s H E hr => ?_
  have nd := sc_is_jump.nd
  have hu := hr.units
  refine ⟨_, (pss_one (ps_ret (pe_and (pe_cmpR op_in_seq (pe_ix ix_seq (pv 0) pe_int (fun _ _ => rfl)) (pe_tup (pa_cons pe_str (pa_cons pe_str pa_nil))) rfl) (pe_one (pe_cmpR (op_neD hu) (pe_ix ix_seq (pv 0) (pe_un un_neg pe_int) (fun _ _ => rfl)) pe_str (nomark _)))))), ?_⟩
  try dsimp only [Cx.nox, Cx.wish, cxOf]
  rintro ds d ⟨x, rfl, hx, rfl⟩
  refine .rt ?_
  show StD K _ [some (.dat x.d)] _
  have e0 : EvD K (tOp (rIn K false) (tOp (rIx K) (tVar 0) (tC (.int 0))) (tTup (tCons (tC (.str "go")) (tCons (tC (.str "if")) tNil)))) [some (.dat x.d)] (.bl (decide (x.word ∈ (["go", "if"] : List Str)))) := ev_op (ev_op (ev_v rfl) ev_ci (ix_word x)) (ev_tup (es_cons ev_cs (es_cons ev_cs es_nil)) (Nat.le_of_ble_eq_true rfl)) (RvS.toD (rs_inT (neg := false) (xs := ["go", "if"])))
  cases x with
  | perf f l => exact sd_retI (ev_andV (q := false) e0 fun z => absurd z (by show ¬ decide (("perform" : Str) ∈ (["go", "if"] : List Str)) = true; decide +kernel)) (by rw [Bool.and_false]; rfl)
  | act w => exact sd_retI (ev_andV (q := false) e0 fun z => absurd z (by show ¬ decide (("act" : Str) ∈ (["go", "if"] : List Str)) = true; decide +kernel)) (by rw [Bool.and_false]; rfl)
  | stop => exact sd_retI (ev_andV (q := false) e0 fun z => absurd z (by show ¬ decide (("stop" : Str) ∈ (["go", "if"] : List Str)) = true; decide +kernel)) (by rw [Bool.and_false]; rfl)
  | go t =>
    refine sd_retI (ev_andV e0 fun _ => ev_neE (EvD.rd (ev_op (ev_v rfl) (ev_neg ev_ci) (rd_ixT (d := .str t) (atI_neg1 rfl)))) ev_cs.rd (ok_str hx) (ok_str (by decide +kernel))) ?_
    rw [eqD_str, show decide ((Sm.go t).word ∈ (["go", "if"] : List Str)) = true from by show decide (("go" : Str) ∈ (["go", "if"] : List Str)) = true; decide +kernel]; rfl
  | ift w t =>
    refine sd_retI (ev_andV e0 fun _ => ev_neE (EvD.rd (ev_op (ev_v rfl) (ev_neg ev_ci) (rd_ixT (d := .str t) (atI_neg1 rfl)))) ev_cs.rd (ok_str hx) (ok_str (by decide +kernel))) ?_
    rw [eqD_str, show decide ((Sm.ift w t).word ∈ (["go", "if"] : List Str)) = true from by show decide (("if" : Str) ∈ (["go", "if"] : List Str)) = true; decide +kernel]; rfl
abbrev s_Program_jumps : Stmt := inClass (top 15) 2
theorem sc_Program_jumps : FnScope ["self", "point", "statement"] ["self"] (defScope s_Program_jumps) := ⟨rfl, rfl, rfl, by decide +kernel, rfl, by decide +kernel, by decide +kernel⟩
theorem cal_Program_jumps (T : Txt mg) (M_Program : CCls K mg "Program" C_Program) (na_bodies : NoAttr K C_Program "bodies") (c__with_points : Cal P w K mg base "_with_points" 1 ["bodies"] (spD K 1 RWith)) (c__is_jump : Cal P w K mg base "_is_jump" 1 ["statement"] (spD K 1 RIsJ)) {p g : Addr} (h : HasP K C_Program "jumps" "Program.jumps" s_Program_jumps ["self"] p g) : CalP P w K mg base C_Program "jumps" 2 ["self"] (spD K 1 (RJumps C_Program)) := by
  refine h.cal sc_Program_jumps rfl fun cdv A outer s H E hr => ?_
  have nd := sc_Program_jumps.nd
  have hu := hr.units
  refine ⟨_, (pss_one (ps_ret (pe_callTy call_tuple_of (by rfl) T.n_tuple (by decide +kernel) (pa_cons (pe_lc (own := [("point", 1), ("statement", 2)]) (g := (gTup K 2 (gCons (gName 1) (gCons (gName 2) gNil)))) (tt := (tB (tCall _ [] E0 (tCons (tVar 2) tNil)))) (te := (tVar 1)) (by rfl) nd (pi_list (pe_cal c__with_points (hr.mono (by decide)) (pa_cons (pe_fld (pv 0) rfl) pa_nil))) (blkOk_by (N := ["self", "point", "statement"]) (sc := defScope s_Program_jumps) (by decide +kernel)) (fun _ _ _ _ _ => (pg_tup (by rfl) (pgs_cons (pg_name (i := 1) nd rfl (Or.inl rfl)) (pgs_cons (pg_name (i := 2) nd rfl (Or.inl rfl)) pgs_nil)))) (fun _ _ _ _ _ => (pts_one (pt_val (pe_cal c__is_jump (hr.mono (by decide)) (pa_cons (pv 2) pa_nil))))) (fun _ _ _ _ _ => (pv 1))) pa_nil)))), ?_⟩
  try dsimp only [Cx.nox, Cx.wish, cxOf]
  rintro ds d ⟨names, bs, rfl, hf, hk, rfl⟩
  refine .rt ?_
  show StD K _ [some (.dat (progD C_Program names bs)), none, none] _
  have fb : EvD K (tFld K (tVar 0) "bodies") [some (.dat (progD C_Program names bs)), none, none] (.tup (sbD bs)) := ev_fld (ev_v rfl) M_Program.cl na_bodies (by unfold progF; rw [look_tl nb]; exact look_hd)
  have hl := ptsX_len hf
  have key : ∀ (n : Nat) (d : D), ((ptsX bs).map ptXD)[n]? = some d → ∃ y, (ptsX bs)[n]? = some y ∧ (ptsX bs).getD n ((0, 0), .stop) = y ∧ d = ptXD y := fun n d hd => by
    rw [List.getElem?_map] at hd
    cases hw : (ptsX bs)[n]? with
    | none => rw [hw] at hd; cases hd
    | some y => rw [hw] at hd; cases hd; exact ⟨y, rfl, getD_of hw, rfl⟩
  have lm : ((ptsX bs).map ptXD).length = (ptsX bs).length := List.length_map ..
  apply sd_ret
  refine ev_cbD (es_cons (EvN.dt ?_) es_nil) rd_tupL
  rw [← ptsX_filt, ← pick_filt (ptsX bs) ((0, 0), .stop) (fun y => y.2.isJ) (fun y => ptD y.1.1 y.1.2), ← lm]
  refine en_lcI (js := [1, 2]) (fun n => ((ptsX bs).getD n ((0, 0), .stop)).2.isJ) _ (fun n => [some (.dat (progD C_Program names bs)), some (.dat (ptD ((ptsX bs).getD n ((0, 0), .stop)).1.1 ((ptsX bs).getD n ((0, 0), .stop)).1.2)), some (.dat ((ptsX bs).getD n ((0, 0), .stop)).2.d)]) (it_list (ev_call (es_cons fb es_nil) rfl ⟨bs, rfl, hf, congrArg D.lst (ptsX_D bs).symm⟩)) (by omega) (by decide) ?_ ?_ ?_
  · intro n d hd
    obtain ⟨y, h1, h2, rfl⟩ := key n d hd
    rw [h2]
    exact tg_tup (tgs_cons tg_name (tgs_cons tg_name tgs_nil)) rfl
  · intro n d hd
    obtain ⟨y, h1, h2, rfl⟩ := key n d hd
    rw [h2]
    obtain ⟨z, hz, hx⟩ := mem_ptsX (List.mem_of_getElem? h1)
    exact eb_B (ev_call (es_cons (ev_v rfl) es_nil) rfl ⟨y.2, rfl, hk z hz _ hx, rfl⟩)
  · intro n d hd _; exact ev_v rfl
abbrev s_law_cut : Stmt := top 34
theorem sc_law_cut : FnScope ["_law_bodies_here", "_law_choice", "_law_result", "_law_p", "_law_body", "_law_k", "_law_statement"] ["_law_bodies_here", "_law_choice"] (defScope s_law_cut) := ⟨rfl, rfl, rfl, by decide +kernel, rfl, by decide +kernel, by decide +kernel⟩
theorem cal_law_cut (T : Txt mg) (h : Has K mg "_law_cut" s_law_cut ["_law_bodies_here", "_law_choice"]) : Cal P w K mg base "_law_cut" 1 ["_law_bodies_here", "_law_choice"] (spD K 2 RCut) := by
  refine h.cal sc_law_cut rfl fun f cdv A outer s H E hr => ?_
  have nd := sc_law_cut.nd
  have hu := hr.units
  refine ⟨_, (pss_cons (ps_set (i := 2) nd rfl (Or.inl rfl) (pe_lst pa_nil))
      (pss_cons (ps_for PassesOwn.never rfl (pi_range1 (by rfl) T.n_range (pa_cons (pe_callB call_lenA (by rfl) T.n_len (by decide +kernel) (pa_cons (pv 0) pa_nil)) pa_nil)) (pg_name (i := 3) nd rfl (Or.inl rfl)) (pss_cons (ps_set (i := 4) nd rfl (Or.inl rfl) (pe_lst pa_nil))
      (pss_cons (ps_for PassesOwn.never rfl (pi_range1 (by rfl) T.n_range (pa_cons (pe_callB call_lenA (by rfl) T.n_len (by decide +kernel) (pa_cons (pe_ix ix_seq (pv 0) (pv 3) (fun _ _ => rfl)) pa_nil)) pa_nil)) (pg_name (i := 5) nd rfl (Or.inl rfl)) (pss_cons (ps_set (i := 6) nd rfl (Or.inl rfl) (pe_ix ix_seq (pe_ix ix_seq (pv 0) (pv 3) (fun _ _ => rfl)) (pv 5) (fun _ _ => rfl)))
      (pss_cons (ps_if (pt_cmpR (op_inD hu) (pe_tup (pa_cons (pv 3) (pa_cons (pv 5) pa_nil))) (pv 1) rfl) (pss_one (ps_set (i := 6) nd rfl (Or.inl rfl) (pe_op op_plus (pe_slice sl_any (pv 6) po_none (po_some (pe_un un_neg pe_int))) (pe_tup (pa_cons (pe_un un_neg pe_int) pa_nil))))) pss_nil)
      (pss_one (ps_expr (pe_bm PySem.F.plainAttrs_list PySem.F.slot_list_append PySem.F.type_list_append mt_append (pv 4) (pa_cons (pv 6) pa_nil)))))))
      (pss_one (ps_expr (pe_bm PySem.F.plainAttrs_list PySem.F.slot_list_append PySem.F.type_list_append mt_append (pv 2) (pa_cons (pv 4) pa_nil)))))))
      (pss_one (ps_ret (pv 2))))), ?_⟩
  try dsimp only [Cx.nox, Cx.wish, cxOf]
  rintro ds d ⟨bs, zs, c, rfl, hb, hz, rfl⟩
  refine .rt ?_
  show StD K _ [some (.dat (.lst (bodD bs))), some (.dat (.tup (zs.map ptD2))), none, none, none, none, none] _
  have e : (bodD bs).length = bs.length := List.length_map ..
  have c8 := hb.n8
  have cn := hb.n
  apply sd_seq; apply sd_asgN; exact en_lst es_nil (Nat.le_of_ble_eq_true rfl)
  dsimp only [List.set]
  apply sd_E (ste_for (it_rng (m := ((bodD bs).length : Int)) (es_cons (ev_cbS (er_cons (ev_v rfl).rd er_nil) rs_lenL) es_nil) (by omega) (by omega)) (fun p ρ => ρ = [some (.dat (.lst (bodD bs))), some (.dat (.tup (zs.map ptD2))), some (.own (bodD ((cutB Q.cut zs bs).take p))), none, none, none, none]) rfl ?_) ?_
  · rintro p d ρ hd rfl
    obtain ⟨hp, rfl⟩ := rngD_get hd
    have hp : p < bs.length := by omega
    refine ⟨_, _, tg_name, ?_⟩
    dsimp only [List.set]
    have hy := List.getElem?_eq_getElem hp
    generalize bs[p] = y at hy
    obtain ⟨y4, yok⟩ := hb.each y (List.mem_of_getElem? hy)
    have ey : (qsD y).length = y.length := List.length_map ..
    have tk : (cutB Q.cut zs bs).take (p + 1) = (cutB Q.cut zs bs).take p ++ [cutR Q.cut zs p y] := by rw [List.take_add_one, cutB_get, hy]; rfl
    have tl : ((cutB Q.cut zs bs).take p).length ≤ 8 := by rw [List.length_take, cutB_len]; omega
    generalize (cutB Q.cut zs bs).take p = R at tk tl
    rw [tk]
    clear tk
    have py : ∀ ρ : Rho, ρ[0]? = some (some (.dat (.lst (bodD bs)))) → ρ[3]? = some (some (.dat (.int (p : Int)))) → EvD K (tOp (rIx K) (tVar 0) (tVar 3)) ρ (.lst (qsD y)) := fun ρ h0 h3 => ev_op (ev_v h0) (ev_v h3) (rd_ixL (bod_at hy))
    apply ste_seq; apply sd_asgN; exact en_lst es_nil (Nat.le_of_ble_eq_true rfl)
    dsimp only [List.set]
    refine ste_seqE (ste_for (it_rng (m := ((qsD y).length : Int)) (es_cons (ev_cbS (er_cons (EvD.rd (py _ rfl rfl)) er_nil) rs_lenL) es_nil) (by omega) (by omega)) (fun k ρ => ρ = [some (.dat (.lst (bodD bs))), some (.dat (.tup (zs.map ptD2))), some (.own (bodD R)), some (.dat (.int (p : Int))), some (.own (qsD ((cutR Q.cut zs p y).take k))), none, none]) rfl ?_) ?_
    · rintro k d ρ hd rfl
      obtain ⟨hk2, rfl⟩ := rngD_get hd
      have hk2 : k < y.length := by omega
      refine ⟨_, _, tg_name, ?_⟩
      dsimp only [List.set]
      have hq := List.getElem?_eq_getElem hk2
      generalize y[k] = q at hq
      have tk : (cutR Q.cut zs p y).take (k + 1) = (cutR Q.cut zs p y).take k ++ [if (p, k) ∈ zs then q.cut else q] := by rw [List.take_add_one, cutR_get, hq]; rfl
      have tl2 : ((cutR Q.cut zs p y).take k).length ≤ 4 := by rw [List.length_take, cutR_len]; omega
      generalize (cutR Q.cut zs p y).take k = B at tk tl2
      rw [tk]
      clear tk
      apply ste_seq; apply sd_asg (d := q.d)
      · exact ev_op (py _ rfl rfl) (ev_v rfl) (rd_ixL (q_at hq))
      dsimp only [List.set]
      apply ste_seq (ρ' := [some (.dat (.lst (bodD bs))), some (.dat (.tup (zs.map ptD2))), some (.own (bodD R)), some (.dat (.int (p : Int))), some (.own (qsD B)), some (.dat (.int (k : Int))), some (.dat (Q.d (if (p, k) ∈ zs then q.cut else q)))])
      · have tst : EvB K (tTest (tOp (rInD K) (tTup (tCons (tVar 3) (tCons (tVar 5) tNil))) (tVar 1))) [some (.dat (.lst (bodD bs))), some (.dat (.tup (zs.map ptD2))), some (.own (bodD R)), some (.dat (.int (p : Int))), some (.own (qsD B)), some (.dat (.int (k : Int))), some (.dat q.d)] (decide ((p, k) ∈ zs)) :=
          eb_is (eb_test (ev_opS (EvD.rd (ev_tup (es_cons (ev_v rfl) (es_cons (ev_v rfl) es_nil)) (Nat.le_of_ble_eq_true rfl))) (ev_v rfl).rd (rs_inD (pt_ok (p, k)) (pts_sh zs)))) (any_pt (p, k) zs)
        by_cases m : (p, k) ∈ zs
        · rw [if_pos m]
          obtain ⟨y', q', h1, h2, hJ⟩ := hz _ m
          have h1 : bs[p]? = some y' := h1
          rw [hy] at h1
          cases h1
          have h2 : y[k]? = some q' := h2
          rw [hq] at h2
          cases h2
          exact sd_ifp tst (decide_eq_true m) (sd_asg (i := 6) (cut_v hJ (ev_v rfl)))
        · rw [if_neg m]
          exact sd_skip tst (decide_eq_false m)
      refine ste_of (sd_app (i := 4) (d := Q.d (if (p, k) ∈ zs then q.cut else q)) (ev_v rfl) rfl (by rw [List.length_map]; omega)) ?_ rfl
      dsimp only [List.set]
      rw [show qsD (B ++ [if (p, k) ∈ zs then q.cut else q]) = qsD B ++ [Q.d (if (p, k) ∈ zs then q.cut else q)] by unfold qsD; rw [List.map_append]; rfl]
      walk_at "le"
    · rintro ρ rfl
      rw [rngD_len, Int.toNat_natCast, ey, show y.length = (cutR Q.cut zs p y).length from cutR_len.symm, List.take_length]
      refine ste_of (sd_appO (j := 4) (i := 2) rfl rfl (by decide) (by rw [List.length_map]; omega)) ?_ rfl
      dsimp only [List.set]
      rw [show bodD (R ++ [cutR Q.cut zs p y]) = bodD R ++ [.lst (qsD (cutR Q.cut zs p y))] by unfold bodD; rw [List.map_append]; rfl]
      walk_at "le"
  rintro ρ rfl
  rw [rngD_len, Int.toNat_natCast, e, show bs.length = (cutB Q.cut zs bs).length from cutB_len.symm, List.take_length]
  exact sd_retO rfl
abbrev s_law_same_bodies : Stmt := top 35
theorem sc_law_same_bodies : FnScope ["_law_program", "_law_names_here", "_law_bodies_here", "_law_due", "_law_p", "_law_statement"] ["_law_program", "_law_names_here", "_law_bodies_here"] (defScope s_law_same_bodies) := ⟨rfl, rfl, rfl, by decide +kernel, rfl, by decide +kernel, by decide +kernel⟩
theorem cal_law_same_bodies (T : Txt mg) (M_Program : CCls K mg "Program" C_Program) (na_names : NoAttr K C_Program "names") (na_bodies : NoAttr K C_Program "bodies") (ty_pr : ∀ fs : List (Str × D), Ty K (.ins C_Program fs) (.ref C_Program)) (c__law_named : Cal P w K mg base "_law_named" 1 ["_law_statement", "_law_names_here"] (spD K 2 RNamed)) (h : Has K mg "_law_same_bodies" s_law_same_bodies ["_law_program", "_law_names_here", "_law_bodies_here"]) : Cal P w K mg base "_law_same_bodies" 2 ["_law_program", "_law_names_here", "_law_bodies_here"] (spD K 3 (RSameB C_Program)) := by
  refine h.cal sc_law_same_bodies rfl fun f cdv A outer s H E hr => ?_
  have nd := sc_law_same_bodies.nd
  have hu := hr.units
  refine ⟨_, (pss_cons (ps_set (i := 3) nd rfl (Or.inl rfl) (pe_lst pa_nil))
      (pss_cons (ps_for PassesOwn.never rfl (pi_range1 (by rfl) T.n_range (pa_cons (pe_callB call_lenA (by rfl) T.n_len (by decide +kernel) (pa_cons (pv 2) pa_nil)) pa_nil)) (pg_name (i := 4) nd rfl (Or.inl rfl)) (pss_one (ps_expr (pe_bm PySem.F.plainAttrs_list PySem.F.slot_list_append PySem.F.type_list_append mt_append (pv 3) (pa_cons (pe_callTy call_tuple_of (by rfl) T.n_tuple (by decide +kernel) (pa_cons (pe_lc (own := [("_law_statement", 5)]) (g := (gName 5)) (tt := tYes) (te := (tCall _ [] E0 (tCons (tVar 5) (tCons (tVar 1) tNil)))) (by rfl) nd (pi_list (pe_ix ix_seq (pv 2) (pv 4) (fun _ _ => rfl))) (blkOk_by (N := ["_law_program", "_law_names_here", "_law_bodies_here", "_law_due", "_law_p", "_law_statement"]) (sc := defScope s_law_same_bodies) (by decide +kernel)) (fun _ _ _ _ _ => pg_name (i := 5) nd rfl (Or.inl rfl)) (fun _ _ _ _ _ => pts_nil) (fun _ _ _ _ _ => (pe_cal c__law_named (hr.mono (by decide)) (pa_cons (pv 5) (pa_cons (pv 1) pa_nil))))) pa_nil)) pa_nil)))))
      (pss_cons (ps_if (PW.pt (pw_or (pt_not (pt_val (pe_callB call_isi (by rfl) T.n_isinstance (by decide +kernel) (pa_cons (pv 0) (pa_cons (pe_glob (v := .ref C_Program) (by rfl) M_Program.mgC rfl) pa_nil))))) (pw_or1 (pt_cmpR (op_neD hu) (pe_fld (pv 0) rfl) (pe_callTy call_tuple_of (by rfl) T.n_tuple (by decide +kernel) (pa_cons (pv 1) pa_nil)) (nomark _))))) (pss_one (ps_ret pe_bl)) pss_nil)
      (pss_one (ps_ret (pe_and (pe_callB call_isi (by rfl) T.n_isinstance (by decide +kernel) (pa_cons (pe_fld (pv 0) rfl) (pa_cons (pe_bltn (v := .ty "tuple") (by rfl) T.n_tuple (by decide +kernel) rfl) pa_nil))) (pe_one (pe_cmpR (op_eqD hu) (pe_fld (pv 0) rfl) (pe_callTy call_tuple_of (by rfl) T.n_tuple (by decide +kernel) (pa_cons (pv 3) pa_nil)) (nomark _))))))))), ?_⟩
  try dsimp only [Cx.nox, Cx.wish, cxOf]
  rintro ds d ⟨names, bs, rfl, hb, hn, rfl⟩
  refine .rt ?_
  show StD K _ [some (.dat (progD C_Program names (nmB names bs))), some (.dat (.lst (sD names))), some (.dat (.lst (bodD bs))), none, none, none] _
  have e : (bodD bs).length = bs.length := List.length_map ..
  have c8 := hb.n8
  have cn := hb.n
  have hok : ∀ y ∈ bs, ∀ q ∈ y, q.okc names.length := fun y hy => (hb.each y hy).2
  have on := ok_nms hn
  have ob := ok_bds hn hok
  apply sd_seq; apply sd_asgN; exact en_lst es_nil (Nat.le_of_ble_eq_true rfl)
  dsimp only [List.set]
  apply sd_E (ste_for (it_rng (m := ((bodD bs).length : Int)) (es_cons (ev_cbS (er_cons (ev_v rfl).rd er_nil) rs_lenL) es_nil) (by omega) (by omega)) (fun p ρ => ρ = [some (.dat (progD C_Program names (nmB names bs))), some (.dat (.lst (sD names))), some (.dat (.lst (bodD bs))), some (.own (sbD (nmB names (bs.take p)))), none, none]) rfl ?_) ?_
  · rintro p d ρ hd rfl
    obtain ⟨hp, rfl⟩ := rngD_get hd
    have hp : p < bs.length := by omega
    refine ⟨_, _, tg_name, ?_⟩
    dsimp only [List.set]
    have hy := List.getElem?_eq_getElem hp
    generalize bs[p] = y at hy
    obtain ⟨y4, yok⟩ := hb.each y (List.mem_of_getElem? hy)
    have tk : bs.take (p + 1) = bs.take p ++ [y] := by rw [List.take_add_one, hy]; rfl
    have hq : ∀ (n : Nat) (d : D), (qsD y)[n]? = some d → ∃ q, d = q.d ∧ q ∈ y ∧ (smD (y.map (nameQ names)))[n]? = some (nameQ names q).d := fun n d hd => by
      rw [List.getElem?_map] at hd
      cases z : y[n]? with
      | none => rw [z] at hd; cases hd
      | some q =>
        rw [z] at hd
        cases hd
        exact ⟨q, rfl, List.mem_of_getElem? z, by rw [List.getElem?_map, List.getElem?_map, z]; rfl⟩
    have pk : pick (fun _ => true) (fun n => (smD (y.map (nameQ names))).getD n .non) (qsD y).length = smD (y.map (nameQ names)) := by
      rw [show (qsD y).length = (smD (y.map (nameQ names))).length by simp]
      exact (pick_map (smD (y.map (nameQ names))) .non (fun d => d)).trans (List.map_id _)
    refine ste_of (sd_app (d := .tup (smD (y.map (nameQ names)))) (ev_cbD (es_cons (EvN.dt (ds := smD (y.map (nameQ names))) ?_) es_nil) rd_tupL) rfl ?_) ?_ rfl
    · rw [← pk]
      refine en_lcI (js := [5]) (fun _ => true) _ (fun n => [some (.dat (progD C_Program names (nmB names bs))), some (.dat (.lst (sD names))), some (.dat (.lst (bodD bs))), some (.own (sbD (nmB names (bs.take p)))), some (.dat (.int (p : Int))), some (.dat ((qsD y).getD n .non))]) (it_list (ev_op (ev_v rfl) (ev_v rfl) (rd_ixL (bod_at hy)))) ?_ (by decide) ?_ ?_ ?_
      · rw [List.length_map]; omega
      · intro n d hd
        have e : d = (qsD y).getD n .non := by rw [List.getD_eq_getElem?_getD, hd]; rfl
        rw [e]
        exact tg_name
      · intro n d hd; exact eb_yes
      · intro n d hd _
        obtain ⟨q, rfl, hm, h2⟩ := hq n d hd
        refine ev_is (ev_call (es_cons (ev_v rfl) (es_cons (ev_v rfl) es_nil)) rfl ⟨q, names, ?_, yok q hm, rfl⟩) ?_
        · rw [List.getD_eq_getElem?_getD, hd]; rfl
        · show _ = List.getD _ n _
          rw [List.getD_eq_getElem?_getD, h2]; rfl
    · rw [List.length_map, List.length_map, List.length_take]; omega
    · dsimp only [List.set]
      rw [tk]
      show LeR _ [_, _, _, some (S.own (sbD (nmB names (bs.take p)) ++ [_])), _, _]
      rw [show sbD (nmB names (bs.take p ++ [y])) = sbD (nmB names (bs.take p)) ++ [.tup (smD (y.map (nameQ names)))] by unfold sbD nmB; rw [List.map_append, List.map_append]; rfl]
      walk_at "le"
  rintro ρ rfl
  rw [rngD_len, Int.toNat_natCast, e, List.take_length]
  have fn : ∀ ρ : Rho, ρ[0]? = some (some (.dat (progD C_Program names (nmB names bs)))) → EvD K (tFld K (tVar 0) "names") ρ (.tup (sD names)) := fun ρ h => EvD.pt (ev_fld (ev_v h) M_Program.cl na_names look_hd)
  have fb : ∀ ρ : Rho, ρ[0]? = some (some (.dat (progD C_Program names (nmB names bs)))) → EvD K (tFld K (tVar 0) "bodies") ρ (.tup (sbD (nmB names bs))) := fun ρ h => ev_fld (ev_v h) M_Program.cl na_bodies (by unfold progF; rw [look_tl nb]; exact look_hd)
  apply sd_seq
  · exact sd_skip (p := (!true || !eqD (.tup (sD names)) (.tup (sD names)))) (eb_or (eb_not (eb_B (ev_cbS (er_cons (ev_v rfl).rd (er_cons ev_cc.rd er_nil)) (rs_isi (ty_pr _) (.own _) kit_self)))) fun _ => eb_test (ev_neE (fn _ rfl).rd (EvD.rd (ev_cbD (es_cons (ev_v rfl) es_nil) rd_tupL)) on on)) (by rw [eqD_self on.1]; rfl)
  refine sd_retI (ev_andV (ev_cbS (er_cons (fb _ rfl).rd (er_cons ev_cc.rd er_nil)) isi_tup_tup) fun _ => ev_eqE (fb _ rfl).rd (EvD.rd (ev_tupO rfl)) ob ob) ?_
  rw [eqD_self ob.1]; rfl
abbrev s_law : Stmt := top 36
theorem sc_law : FnScope ["_law_script", "_law_bodies_here", "_law_names_here", "_law_program", "_law_chosen", "_law_rest", "_law_n", "_law_p", "_law_k", "_law_redirected", "_law_other", "_law_both"] ["_law_script"] (defScope s_law) := ⟨rfl, rfl, rfl, by decide +kernel, rfl, by decide +kernel, by decide +kernel⟩
theorem body_law (T : Txt mg) (M_Program : CCls K mg "Program" C_Program) (c__law_number : Cal P w K mg base "_law_number" 1 ["_law_script", "_law_k"] (spD K 2 RNum)) (c__law_bodies : Cal P w K mg base "_law_bodies" 4 ["_law_script"] (spE K 1 ABod RBod)) (c__law_names : Cal P w K mg base "_law_names" 2 ["_law_script", "_law_count"] (spE K 2 ANam RNam)) (c__law_paragraphs : Cal P w K mg base "_law_paragraphs" 2 ["_law_bodies_here", "_law_names_here"] (spD K 2 RPara)) (c_Program_init : CalM P w K mg base C_Program "__init__" 4 ["self", "paragraphs"] (spI K C_Program 1 RPrgI)) (c_Program_redirected : CalM P w K mg base C_Program "redirected" 6 ["self", "choice"] (spD K 2 (RRed C_Program))) (c_Program_jumps : CalP P w K mg base C_Program "jumps" 2 ["self"] (spD K 1 (RJumps C_Program))) (c__law_cut : Cal P w K mg base "_law_cut" 1 ["_law_bodies_here", "_law_choice"] (spD K 2 RCut)) (c__law_same_bodies : Cal P w K mg base "_law_same_bodies" 2 ["_law_program", "_law_names_here", "_law_bodies_here"] (spD K 3 (RSameB C_Program))) (f : Addr) (cdv : Value) (A : Around) (outer : List Env) (s : Shared) (H : Hp) (E : XK) (hr : Room 6 (A.deeper (envOfC "law" (defScope s_law) s.heap.objs.size f cdv))) :
    ∃ t, PSs (cxOf CX0 P w K mg base ["_law_script", "_law_bodies_here", "_law_names_here", "_law_program", "_law_chosen", "_law_rest", "_law_n", "_law_p", "_law_k", "_law_redirected", "_law_other", "_law_both"] "law" (defScope s_law) f cdv A outer s H E).nox (defBody s_law) t ∧ ∀ ds d, RLaw ds d → Ends1 K t (rho0 ["_law_script", "_law_bodies_here", "_law_names_here", "_law_program", "_law_chosen", "_law_rest", "_law_n", "_law_p", "_law_k", "_law_redirected", "_law_other", "_law_both"] ds) d := by
  have nd := sc_law.nd
  have hu := hr.units
  refine ⟨_, (pss_cons (ps_set (i := 1) nd rfl (Or.inl rfl) (pe_cal c__law_bodies (hr.mono (by decide)) (pa_cons (pv 0) pa_nil)))
      (pss_cons (ps_set (i := 2) nd rfl (Or.inl rfl) (pe_cal c__law_names (hr.mono (by decide)) (pa_cons (pv 0) (pa_cons (pe_callB call_lenA (by rfl) T.n_len (by decide +kernel) (pa_cons (pv 1) pa_nil)) pa_nil))))
      (pss_cons (ps_set (i := 3) nd rfl (Or.inl rfl) (pe_new M_Program c_Program_init (hr.mono (by decide)) (pa_cons (pe_cal c__law_paragraphs (hr.mono (by decide)) (pa_cons (pv 1) (pa_cons (pv 2) pa_nil))) pa_nil)))
      (pss_cons (ps_set (i := 4) nd rfl (Or.inl rfl) (pe_tup pa_nil))
      (pss_cons (ps_set (i := 5) nd rfl (Or.inl rfl) (pe_tup pa_nil))
      (pss_cons (ps_set (i := 6) nd rfl (Or.inl rfl) (pe_cal c__law_number (hr.mono (by decide)) (pa_cons (pv 0) (pa_cons pe_int pa_nil))))
      (pss_cons (ps_for PassesOwn.never rfl (pi_range1 (by rfl) T.n_range (pa_cons (pe_callB call_lenA (by rfl) T.n_len (by decide +kernel) (pa_cons (pv 1) pa_nil)) pa_nil)) (pg_name (i := 7) nd rfl (Or.inl rfl)) (pss_one (ps_for PassesOwn.never rfl (pi_range1 (by rfl) T.n_range (pa_cons (pe_callB call_lenA (by rfl) T.n_len (by decide +kernel) (pa_cons (pe_ix ix_seq (pv 1) (pv 7) (fun _ _ => rfl)) pa_nil)) pa_nil)) (pg_name (i := 8) nd rfl (Or.inl rfl)) (pss_one (ps_if (PW.pt (pw_and (pt_cmpR op_in_seq (pe_ix ix_seq (pe_ix ix_seq (pe_ix ix_seq (pv 1) (pv 7) (fun _ _ => rfl)) (pv 8) (fun _ _ => rfl)) pe_int (fun _ _ => rfl)) (pe_tup (pa_cons pe_str (pa_cons pe_str pa_nil))) rfl) (pw_and1 (pt_cmpR (op_neD hu) (pe_ix ix_seq (pe_ix ix_seq (pe_ix ix_seq (pv 1) (pv 7) (fun _ _ => rfl)) (pv 8) (fun _ _ => rfl)) (pe_un un_neg pe_int) (fun _ _ => rfl)) (pe_un un_neg pe_int) (nomark _))))) (pss_cons (ps_if (pt_cmpR (op_eqD hu) (pe_op op_mod (pe_callTy call_int1 (by rfl) T.n_int (by decide +kernel) (pa_cons (pv 6) pa_nil)) pe_int) pe_int (nomark _)) (pss_one (ps_set (i := 4) nd rfl (Or.inl rfl) (pe_op op_plus (pv 4) (pe_tup (pa_cons (pe_tup (pa_cons (pv 7) (pa_cons (pv 8) pa_nil))) pa_nil))))) (pss_one (ps_set (i := 5) nd rfl (Or.inl rfl) (pe_op op_plus (pv 5) (pe_tup (pa_cons (pe_tup (pa_cons (pv 7) (pa_cons (pv 8) pa_nil))) pa_nil))))))
      (pss_one (ps_set (i := 6) nd rfl (Or.inl rfl) (pe_op op_fdiv (pv 6) pe_int)))) pss_nil)))))
      (pss_cons (ps_set (i := 9) nd rfl (Or.inl rfl) (pe_methC (pv 3) M_Program c_Program_redirected (hr.mono (by decide)) (pa_cons (pv 4) pa_nil)))
      (pss_cons (ps_if (PW.pt (pw_or (pt_not (pt_val (pe_cal c__law_same_bodies (hr.mono (by decide)) (pa_cons (pv 9) (pa_cons (pv 2) (pa_cons (pe_cal c__law_cut (hr.mono (by decide)) (pa_cons (pv 1) (pa_cons (pv 4) pa_nil))) pa_nil)))))) (pw_or1 (pt_cmpR (op_neD hu) (pe_propC (pv 9) M_Program c_Program_jumps (hr.mono (by decide))) (pv 5) (nomark _))))) (pss_one (ps_ret pe_bl)) pss_nil)
      (pss_cons (ps_if (pt_not (pt_val (pe_cal c__law_same_bodies (hr.mono (by decide)) (pa_cons (pv 3) (pa_cons (pv 2) (pa_cons (pv 1) pa_nil)))))) (pss_one (ps_ret pe_bl)) pss_nil)
      (pss_cons (ps_set (i := 10) nd rfl (Or.inl rfl) (pe_methC (pv 3) M_Program c_Program_redirected (hr.mono (by decide)) (pa_cons (pv 5) pa_nil)))
      (pss_cons (ps_if (PW.pt (pw_or (pt_not (pt_val (pe_cal c__law_same_bodies (hr.mono (by decide)) (pa_cons (pv 10) (pa_cons (pv 2) (pa_cons (pe_cal c__law_cut (hr.mono (by decide)) (pa_cons (pv 1) (pa_cons (pv 5) pa_nil))) pa_nil)))))) (pw_or1 (pt_cmpR (op_neD hu) (pe_propC (pv 10) M_Program c_Program_jumps (hr.mono (by decide))) (pv 4) (nomark _))))) (pss_one (ps_ret pe_bl)) pss_nil)
      (pss_cons (ps_set (i := 11) nd rfl (Or.inl rfl) (pe_methC (pv 9) M_Program c_Program_redirected (hr.mono (by decide)) (pa_cons (pv 5) pa_nil)))
      (pss_one (ps_ret (pe_and (pe_cal c__law_same_bodies (hr.mono (by decide)) (pa_cons (pv 11) (pa_cons (pv 2) (pa_cons (pe_cal c__law_cut (hr.mono (by decide)) (pa_cons (pv 1) (pa_cons (pe_op op_plus (pv 4) (pv 5)) pa_nil))) pa_nil)))) (pe_one (pe_cmpR (op_eqD hu) (pe_propC (pv 11) M_Program c_Program_jumps (hr.mono (by decide))) (pe_tup pa_nil) (nomark _))))))))))))))))))), ?_⟩
  try dsimp only [Cx.nox, Cx.wish, cxOf]
  rintro ds d ⟨ns, rfl, hl, rfl⟩
  refine .rt ?_
  show StD K _ [some (.dat (scr ns)), none, none, none, none, none, none, none, none, none, none, none] _
  apply sd_asgE (es_cons (ev_v rfl) es_nil) rfl ⟨ns, rfl⟩
  rintro d ⟨bs, hb, rfl⟩
  dsimp only [List.set]
  have e0 : (bodD bs).length = bs.length := List.length_map ..
  have h8 := hb.n8
  have h1 := hb.n1
  apply sd_asgE (ds := [scr ns, .int ((bodD bs).length : Int)]) (es_cons (ev_v rfl) (es_cons (by walk_at "ev") es_nil)) rfl ⟨ns, _, rfl, by omega, by omega⟩
  rintro d ⟨ns', c, names, he, hcc, hn, rfl⟩
  dsimp only [List.set]
  have hc : names.length = bs.length := by
    injection he with _ he; injection he with he; injection he with he; omega
  clear he hcc
  have gq : GoodQ names.length bs := by rw [hc]; exact goodq_of hb
  have few : ∀ y ∈ bs, y.length ≤ 100 := gq.few
  apply sd_seq; apply sd_asg (d := progD C_Program names (nmB names bs))
  · exact ev_new (es_cons (ev_call (es_cons (ev_v rfl) (es_cons (ev_v rfl) es_nil)) rfl ⟨bs, names, rfl, okb_of hb hc, rfl⟩) es_nil) rfl (prg_i hb hn hc)
  dsimp only [List.set]
  apply sd_seq; apply sd_asg (d := .tup (([] : List (Nat × Nat)).map ptD2)); exact ev_tup es_nil (Nat.le_of_ble_eq_true rfl)
  dsimp only [List.set]
  apply sd_seq; apply sd_asg (d := .tup (([] : List (Nat × Nat)).map ptD2)); exact ev_tup es_nil (Nat.le_of_ble_eq_true rfl)
  dsimp only [List.set]
  apply sd_seq; apply sd_asg; walk_at "ev"; dsimp only [List.set]
  have n0 := num_nn ns 1
  generalize num ns 1 = n at n0 ⊢
  apply sd_E (ste_for (it_rng (m := ((bodD bs).length : Int)) (es_cons (ev_cbS (er_cons (ev_v rfl).rd er_nil) rs_lenL) es_nil) (by omega) (by omega)) (fun p ρ => ∃ (C R : List (Nat × Nat)) (n : Int), Part (ptsP .stop (Q.hit kJ) bs p) C R ∧ 0 ≤ n ∧ ρ = [some (.dat (scr ns)), some (.dat (.lst (bodD bs))), some (.dat (.lst (sD names))), some (.dat (progD C_Program names (nmB names bs))), some (.dat (.tup (C.map ptD2))), some (.dat (.tup (R.map ptD2))), some (.dat (.int n)), none, none, none, none, none]) ⟨[], [], n, .nil, n0, rfl⟩ ?_) ?_
  · rintro p d ρ hd ⟨C, R, n, pt, n0, rfl⟩
    obtain ⟨hp, rfl⟩ := rngD_get hd
    have hp : p < bs.length := by omega
    refine ⟨_, _, tg_name, ?_⟩
    dsimp only [List.set]
    have hy := List.getElem?_eq_getElem hp
    generalize bs[p] = y at hy
    obtain ⟨y4, yok⟩ := gq.each y (List.mem_of_getElem? hy)
    have eg : bs.getD p [] = y := getD_of hy
    have ey : (qsD y).length = y.length := List.length_map ..
    have py : ∀ ρ : Rho, ρ[1]? = some (some (.dat (.lst (bodD bs)))) → ρ[7]? = some (some (.dat (.int (p : Int)))) → EvD K (tOp (rIx K) (tVar 1) (tVar 7)) ρ (.lst (qsD y)) := fun ρ h0 h3 => ev_op (ev_v h0) (ev_v h3) (rd_ixL (bod_at hy))
    have pl := ptsP_len (x0 := Q.stop) (f := Q.hit kJ) few p
    refine ste_le (ste_for (it_rng (m := ((qsD y).length : Int)) (es_cons (ev_cbS (er_cons (EvD.rd (py _ rfl rfl)) er_nil) rs_lenL) es_nil) (by omega) (by omega)) (fun k ρ => ∃ (C R : List (Nat × Nat)) (n : Int), Part (ptsP .stop (Q.hit kJ) bs p ++ rowP .stop (Q.hit kJ) y p k) C R ∧ 0 ≤ n ∧ ρ = [some (.dat (scr ns)), some (.dat (.lst (bodD bs))), some (.dat (.lst (sD names))), some (.dat (progD C_Program names (nmB names bs))), some (.dat (.tup (C.map ptD2))), some (.dat (.tup (R.map ptD2))), some (.dat (.int n)), some (.dat (.int (p : Int))), none, none, none, none]) ⟨C, R, n, by unfold rowP; rw [List.range_zero, List.filter_nil, List.map_nil, List.append_nil]; exact pt, n0, rfl⟩ ?_) ?_
    · clear pt n0
      clear n R C
      rintro k d ρ hd ⟨C, R, n, pt, n0, rfl⟩
      obtain ⟨hk2, rfl⟩ := rngD_get hd
      have hk2 : k < y.length := by omega
      refine ⟨_, _, tg_name, ?_⟩
      dsimp only [List.set]
      have hq := List.getElem?_eq_getElem hk2
      generalize y[k] = q at hq
      have gq2 : y.getD k .stop = q := getD_of hq
      have rl : (rowP .stop (Q.hit kJ) y p k).length ≤ k := by
        unfold rowP
        rw [List.length_map]
        have h := List.length_filter_le (fun j => Q.hit kJ (y.getD j .stop)) (List.range k)
        rw [List.length_range] at h; exact h
      have ln := pt.len
      rw [List.length_append] at ln
      have nin : (p, k) ∉ ptsP .stop (Q.hit kJ) bs p ++ rowP .stop (Q.hit kJ) y p k := fun m => by
        rcases List.mem_append.mp m with m | m
        · exact absurd (mem_ptsP m).1 (Nat.lt_irrefl _)
        · exact absurd (mem_rowP m).2.1 (Nat.lt_irrefl _)
      refine ste_if (p := Q.hit kJ q) (hit_test (ev_op (py _ rfl rfl) (ev_v rfl) (rd_ixL (q_at hq)))) (fun hh => ?_) fun hh => ?_
      · have r1 : rowP .stop (Q.hit kJ) y p (k + 1) = rowP .stop (Q.hit kJ) y p k ++ [(p, k)] := rowP_yes (by rw [gq2]; exact hh)
        rw [r1, ← List.append_assoc]
        generalize ptsP .stop (Q.hit kJ) bs p ++ rowP .stop (Q.hit kJ) y p k = L at pt nin
        have lc : (C.map ptD2).length = C.length := List.length_map ..
        have lr : (R.map ptD2).length = R.length := List.length_map ..
        apply ste_seqE (P1 := fun ρ => ∃ (C R : List (Nat × Nat)), Part (L ++ [(p, k)]) C R ∧ ρ = [some (.dat (scr ns)), some (.dat (.lst (bodD bs))), some (.dat (.lst (sD names))), some (.dat (progD C_Program names (nmB names bs))), some (.dat (.tup (C.map ptD2))), some (.dat (.tup (R.map ptD2))), some (.dat (.int n)), some (.dat (.int (p : Int))), some (.dat (.int (k : Int))), none, none, none])
        · apply ste_if
          · walk_at "eb"
          · intro _
            refine ste_of (sd_asg (i := 4) (d := .tup (C.map ptD2 ++ [ptD2 (p, k)])) (ev_op (ev_v rfl) (ev_tup (es_cons (ev_tup (es_cons (ev_v rfl) (es_cons (ev_v rfl) es_nil)) (Nat.le_of_ble_eq_true rfl)) es_nil) (Nat.le_of_ble_eq_true rfl)) (rd_plusT (by rw [lc]; show _ + 1 ≤ _; omega)))) ?_ ⟨C ++ [(p, k)], R, .l pt nin, rfl⟩
            dsimp only [List.set]
            rw [List.map_append]
            walk_at "le"
          · intro _
            refine ste_of (sd_asg (i := 5) (d := .tup (R.map ptD2 ++ [ptD2 (p, k)])) (ev_op (ev_v rfl) (ev_tup (es_cons (ev_tup (es_cons (ev_v rfl) (es_cons (ev_v rfl) es_nil)) (Nat.le_of_ble_eq_true rfl)) es_nil) (Nat.le_of_ble_eq_true rfl)) (rd_plusT (by rw [lr]; show _ + 1 ≤ _; omega)))) ?_ ⟨C, R ++ [(p, k)], .r pt nin, rfl⟩
            dsimp only [List.set]
            rw [List.map_append]
            walk_at "le"
        · rintro ρ ⟨C, R, pt, rfl⟩
          refine ste_of (sd_asg (i := 6) (by walk_at "ev")) ?_ ⟨C, R, n / 2, pt, Int.ediv_nonneg n0 (by decide), rfl⟩
          dsimp only [List.set]
          walk_at "le"
      · have r1 : rowP .stop (Q.hit kJ) y p (k + 1) = rowP .stop (Q.hit kJ) y p k := rowP_no (by rw [gq2]; exact hh)
        rw [r1]
        exact ste_of sd_next (by walk_at "le") ⟨C, R, n, pt, n0, rfl⟩
    · rintro ρ ⟨C, R, n, pt, n0, rfl⟩
      refine ⟨[some (.dat (scr ns)), some (.dat (.lst (bodD bs))), some (.dat (.lst (sD names))), some (.dat (progD C_Program names (nmB names bs))), some (.dat (.tup (C.map ptD2))), some (.dat (.tup (R.map ptD2))), some (.dat (.int n)), none, none, none, none, none], ?_, C, R, n, ?_, n0, rfl⟩
      · walk_at "le"
      · rw [rngD_len, Int.toNat_natCast, ey] at pt
        rw [ptsP_succ, eg]
        exact pt
  clear n0 n
  rintro ρ ⟨C, R, n, pt, n0, rfl⟩
  rw [rngD_len, Int.toNat_natCast, e0] at pt
  have cJ : PtsJ C bs := ptsJ_of pt.sub
  have rJ : PtsJ R bs := ptsJ_of pt.swap.sub
  have ll := pt.len
  have pl := ptsP_len (x0 := Q.stop) (f := Q.hit kJ) few bs.length
  have red : ∀ (ρ : Rho) (te tz : TE) (bs' : List (List Q)) (zs : List (Nat × Nat)), GoodB bs' → names.length = bs'.length → PtsJ zs bs' → EvD K te ρ (progD C_Program names (nmB names bs')) → EvD K tz ρ (.tup (zs.map ptD2)) → EvD K (tMeth C_Program "redirected" (spD K 2 (RRed C_Program)) [] E0 te (tCons tz tNil)) ρ (progD C_Program names (nmB names (cutB Q.cut zs bs'))) := fun ρ te tz bs' zs hb' hl' hz' h h2 => ev_meth h (by rfl) (es_cons h2 es_nil) rfl ⟨names, bs', zs, rfl, hb', hn, hl', hz', rfl⟩
  have same : ∀ (ρ : Rho) (te tb : TE) (bs' : List (List Q)), GoodQ names.length bs' → ρ[2]? = some (some (.dat (.lst (sD names)))) → EvD K te ρ (progD C_Program names (nmB names bs')) → EvD K tb ρ (.lst (bodD bs')) → EvD K (tCall (spD K 3 (RSameB C_Program)) [] E0 (tCons te (tCons (tVar 2) (tCons tb tNil)))) ρ (.bl true) := fun ρ te tb bs' hg h2 h hb => ev_call (es_cons h (es_cons (ev_v h2) (es_cons hb es_nil))) rfl ⟨names, bs', rfl, hg, hn.ok, rfl⟩
  have cut : ∀ (ρ : Rho) (tz : TE) (zs : List (Nat × Nat)), PtsJ zs bs → ρ[1]? = some (some (.dat (.lst (bodD bs)))) → EvD K tz ρ (.tup (zs.map ptD2)) → EvD K (tCall (spD K 2 RCut) [] E0 (tCons (tVar 1) (tCons tz tNil))) ρ (.lst (bodD (cutB Q.cut zs bs))) := fun ρ tz zs hz h1 h => ev_call (es_cons (ev_v h1) (es_cons h es_nil)) rfl ⟨bs, zs, _, rfl, gq, hz, rfl⟩
  have jm : ∀ (ρ : Rho) (te : TE) (bs' : List (List Q)) (L : List (Nat × Nat)), GoodQ names.length bs' → ptsP .stop (Q.hit kJ) bs' bs'.length = L → EvD K te ρ (progD C_Program names (nmB names bs')) → EvD K (tProp C_Program (spD K 1 (RJumps C_Program)) [] E0 te) ρ (.tup (L.map ptD2)) := fun ρ te bs' L hg hL h => ev_prop h ⟨names, nmB names bs', rfl, ⟨by rw [List.length_map]; have := hg.n8; have := hg.n; omega, fun y hy => by
      obtain ⟨z, hz, rfl⟩ := List.mem_map.mp hy
      rw [List.length_map]; exact hg.few z hz⟩, (fun y hy x hx => by
      obtain ⟨z, hz, rfl⟩ := List.mem_map.mp hy
      obtain ⟨q, hq, rfl⟩ := List.mem_map.mp hx
      exact lok_nm hn.ok ((hg.each z hz).2 q hq)), by
      rw [← hL, ← ptsB_P, show (nmB names bs').length = bs'.length from List.length_map ..]
      exact congrArg D.tup (pts_nm (g := Q.hit kJ) _ fun y hy q hq => hit_J hn.ok ((hg.each y hy).2 q hq)).symm⟩
  have jC : ptsP .stop (Q.hit kJ) (cutB Q.cut C bs) (cutB Q.cut C bs).length = R := by rw [cutB_len, ptsP_cut rfl Q.cut_hit]; exact pt.rest
  have jR : ptsP .stop (Q.hit kJ) (cutB Q.cut R bs) (cutB Q.cut R bs).length = C := by rw [cutB_len, ptsP_cut rfl Q.cut_hit]; exact pt.swap.rest
  have jA : ptsP .stop (Q.hit kJ) (cutB Q.cut (C ++ R) bs) (cutB Q.cut (C ++ R) bs).length = [] := by rw [cutB_len, ptsP_cut rfl Q.cut_hit]; exact pt.none
  have okC := pts_okD C
  have okR := pts_okD R
  have okN := pts_okD []
  clear pt
  apply sd_seq; apply sd_asg
  · exact red _ _ _ bs C hb hc cJ (ev_v rfl) (ev_v rfl)
  dsimp only [List.set]
  apply sd_seq
  · exact sd_skip (p := (!true || !eqD (.tup (R.map ptD2)) (.tup (R.map ptD2)))) (eb_or (eb_not (eb_B (same _ _ _ (cutB Q.cut C bs) (goodq_cut gq) rfl (ev_v rfl) (cut _ _ C cJ rfl (ev_v rfl))))) fun _ => eb_test (ev_neE (EvD.rd (jm _ _ (cutB Q.cut C bs) R (goodq_cut gq) jC (ev_v rfl))) (ev_v rfl).rd okR okR)) (by rw [eqD_self okR.1]; rfl)
  apply sd_seq
  · exact sd_skip (eb_not (eb_B (same _ _ _ bs gq rfl (ev_v rfl) (ev_v rfl)))) rfl
  apply sd_seq; apply sd_asg
  · exact red _ _ _ bs R hb hc rJ (ev_v rfl) (ev_v rfl)
  dsimp only [List.set]
  apply sd_seq
  · exact sd_skip (p := (!true || !eqD (.tup (C.map ptD2)) (.tup (C.map ptD2)))) (eb_or (eb_not (eb_B (same _ _ _ (cutB Q.cut R bs) (goodq_cut gq) rfl (ev_v rfl) (cut _ _ R rJ rfl (ev_v rfl))))) fun _ => eb_test (ev_neE (EvD.rd (jm _ _ (cutB Q.cut R bs) C (goodq_cut gq) jR (ev_v rfl))) (ev_v rfl).rd okC okC)) (by rw [eqD_self okC.1]; rfl)
  apply sd_seq; apply sd_asg (d := progD C_Program names (nmB names (cutB Q.cut (C ++ R) bs)))
  · refine ev_is (red _ _ _ (cutB Q.cut C bs) R (goodb_cut hb) (by rw [cutB_len]; exact hc) rJ.cut (ev_v rfl) (ev_v rfl)) ?_
    rw [cutB_cut Q.cut_cut]
  dsimp only [List.set]
  refine sd_retI (ev_andV (same _ _ _ (cutB Q.cut (C ++ R) bs) (goodq_cut gq) rfl (ev_v rfl) (cut _ _ (C ++ R) (cJ.app rJ) rfl ?_)) fun _ => ev_eqE (EvD.rd (jm _ _ (cutB Q.cut (C ++ R) bs) [] (goodq_cut gq) jA (ev_v rfl))) (EvD.rd (ev_tup es_nil (Nat.le_of_ble_eq_true rfl))) okN okN) ?_
  · refine ev_is (ev_op (ev_v rfl) (ev_v rfl) (rd_plusT ?_)) ?_
    · rw [List.length_map, List.length_map]; omega
    · rw [List.map_append]
  · show D.bl (true && eqD (.tup (([] : List (Nat × Nat)).map ptD2)) (.tup (([] : List (Nat × Nat)).map ptD2))) = D.bl true
    rw [eqD_self okN.1]; rfl
theorem fin_law (T : Txt mg) (M_Program : CCls K mg "Program" C_Program) (g_LONGEST_NAME : GInt mg "LONGEST_NAME" 12) (g_MOST_PARAGRAPHS : GInt mg "MOST_PARAGRAPHS" 8) (g_MOST_STATEMENTS : GInt mg "MOST_STATEMENTS" 4) (g_MOST_PERFORMS : GInt mg "MOST_PERFORMS" 4) (g_MOST_JUMPS : GInt mg "MOST_JUMPS" 6) (na_names : NoAttr K C_Program "names") (na_bodies : NoAttr K C_Program "bodies") (ty_pr : ∀ fs : List (Str × D), Ty K (.ins C_Program fs) (.ref C_Program)) (h_law_number : Has K mg "_law_number" s_law_number ["_law_script", "_law_k"]) (h_law_word : Has K mg "_law_word" s_law_word ["_law_n"]) (h_law_some : Has K mg "_law_some" s_law_some ["_law_n", "_law_menu"]) (h_law_drawn : Has K mg "_law_drawn" s_law_drawn ["_law_n", "_law_count"]) (h_law_bodies : Has K mg "_law_bodies" s_law_bodies ["_law_script"]) (h_law_names : Has K mg "_law_names" s_law_names ["_law_script", "_law_count"]) (h_law_named : Has K mg "_law_named" s_law_named ["_law_statement", "_law_names_here"]) (h_law_paragraphs : Has K mg "_law_paragraphs" s_law_paragraphs ["_law_bodies_here", "_law_names_here"]) (h_is_name : Has K mg "_is_name" s_is_name ["word"]) (h_check_word : Has K mg "_check_word" s_check_word ["word"]) (h_check_target : Has K mg "_check_target" s_check_target ["names", "target"]) (h_check_stretch : Has K mg "_check_stretch" s_check_stretch ["names", "first", "last"]) (h_check_statement : Has K mg "_check_statement" s_check_statement ["names", "statement"]) (h_check_names : Has K mg "_check_names" s_check_names ["names"]) (h_with_points : Has K mg "_with_points" s_with_points ["bodies"]) (h_check_size : Has K mg "_check_size" s_check_size ["bodies"]) (h_Program_init : ∃ f, HasM K C_Program "__init__" "Program.__init__" s_Program_init ["self", "paragraphs"] f) (h_Program_redirected : ∃ f, HasM K C_Program "redirected" "Program.redirected" s_Program_redirected ["self", "choice"] f) (h_is_jump : Has K mg "_is_jump" s_is_jump ["statement"]) (h_Program_jumps : ∃ p g, HasP K C_Program "jumps" "Program.jumps" s_Program_jumps ["self"] p g) (h_law_cut : Has K mg "_law_cut" s_law_cut ["_law_bodies_here", "_law_choice"]) (h_law_same_bodies : Has K mg "_law_same_bodies" s_law_same_bodies ["_law_program", "_law_names_here", "_law_bodies_here"]) (h_law : Has K mg "law" s_law ["_law_script"]) {fa : Addr} (hm : mg "law" = some (.ref fa)) :
    ∃ fd : FuncData, (∀ (s : Shared) (u : Value), BindsTo s fd ⟨[u], []⟩ [("_law_script", u)]) ∧ ∀ base : Heap, K.In base → base.Ns mainGlobals mg → FnOk P w K mg base CX0 7 fa fd ["_law_script"] (spD K 1 RLaw) := by
  refine h_law.fin hm sc_law fun base _ _ f cdv A outer s H E hr => ?_
  have c__law_number := cal_law_number (P := P) (w := w) (base := base) T h_law_number
  have c__law_word := cal_law_word (P := P) (w := w) (base := base) T h_law_word
  have c__law_some := cal_law_some (P := P) (w := w) (base := base) T c__law_word h_law_some
  have c__law_drawn := cal_law_drawn (P := P) (w := w) (base := base) T c__law_some h_law_drawn
  have c__law_bodies := cal_law_bodies (P := P) (w := w) (base := base) T c__law_number c__law_drawn h_law_bodies
  have c__law_names := cal_law_names (P := P) (w := w) (base := base) T c__law_number c__law_word h_law_names
  have c__law_named := cal_law_named (P := P) (w := w) (base := base) T h_law_named
  have c__law_paragraphs := cal_law_paragraphs (P := P) (w := w) (base := base) T c__law_named h_law_paragraphs
  have c__is_name := cal_is_name (P := P) (w := w) (base := base) T g_LONGEST_NAME h_is_name
  have c__check_word := cal_check_word (P := P) (w := w) (base := base) T c__is_name h_check_word
  have c__check_target := cal_check_target (P := P) (w := w) (base := base) T h_check_target
  have c__check_stretch := cal_check_stretch (P := P) (w := w) (base := base) T h_check_stretch
  have c__check_statement := cal_check_statement (P := P) (w := w) (base := base) T c__check_word c__check_target c__check_stretch h_check_statement
  have c__check_names := cal_check_names (P := P) (w := w) (base := base) T c__check_word h_check_names
  have c__with_points := cal_with_points (P := P) (w := w) (base := base) T h_with_points
  have c__check_size := cal_check_size (P := P) (w := w) (base := base) T g_MOST_PARAGRAPHS g_MOST_STATEMENTS g_MOST_PERFORMS g_MOST_JUMPS h_check_size
  obtain ⟨f_Program_init, h_Program_init⟩ := h_Program_init
  have c_Program_init := cal_Program_init (P := P) (w := w) (mg := mg) (base := base) (C_Program := C_Program) T M_Program na_names na_bodies c__check_size c__check_names c__with_points c__check_statement h_Program_init
  obtain ⟨f_Program_redirected, h_Program_redirected⟩ := h_Program_redirected
  have c_Program_redirected := cal_Program_redirected (P := P) (w := w) (mg := mg) (base := base) (C_Program := C_Program) T M_Program na_names na_bodies c_Program_init h_Program_redirected
  have c__is_jump := cal_is_jump (P := P) (w := w) (base := base) T h_is_jump
  obtain ⟨p_Program_jumps, g_Program_jumps, h_Program_jumps⟩ := h_Program_jumps
  have c_Program_jumps := cal_Program_jumps (P := P) (w := w) (mg := mg) (base := base) (C_Program := C_Program) T M_Program na_bodies c__with_points c__is_jump h_Program_jumps
  have c__law_cut := cal_law_cut (P := P) (w := w) (base := base) T h_law_cut
  have c__law_same_bodies := cal_law_same_bodies (P := P) (w := w) (base := base) (C_Program := C_Program) T M_Program na_names na_bodies ty_pr c__law_named h_law_same_bodies
  exact body_law (base := base) (C_Program := C_Program) T M_Program c__law_number c__law_bodies c__law_names c__law_paragraphs c_Program_init c_Program_redirected c_Program_jumps c__law_cut c__law_same_bodies f cdv A outer s H E hr
end
end Ax
open PySem PySem.W PyProof.Rows
set_option maxHeartbeats 0
theorem PySem.Challenge.cw_armedexits_k11_program_redirected_holds : PySem.Challenge.rw_armedexits_k11_program_redirected.Holds := by
  w_on; o_law; k_head; (case hw => w_witness2)
  k_fill
  refine Ax.walk_law (l := PySem.Challenge.rw_armedexits_k11_program_redirected) (k := 7) ⟨rfl, by decide, by decide⟩ rfl rfl (fun w h Y => PySem.W.kIn_of Y) ?F
  case F =>
    intro w mg fa h KX G hmg
    refine' Ax.fin_law (P := _) (w := w) ⟨PySem.W.mg_none_of KX G ?b_len, PySem.W.mg_none_of KX G ?b_int, PySem.W.mg_none_of KX G ?b_sum, PySem.W.mg_none_of KX G ?b_isinstance, PySem.W.mg_none_of KX G ?b_bool, PySem.W.mg_none_of KX G ?b_range, PySem.W.mg_none_of KX G ?b_tuple, PySem.W.mg_none_of KX G ?b_all, PySem.W.mg_none_of KX G ?b_any, PySem.W.mg_none_of KX G ?b_enumerate, PySem.W.mg_none_of KX G ?b_list, PySem.W.mg_none_of KX G ?b_zip⟩ (Ax.ccls_mk "Program" KX G ?ca_Program ?cb_Program ?cc_Program ?cd_Program ?ce_Program ?cf_Program ?cg_Program) (Ax.gint_mk KX G ?gLN) (Ax.gint_mk KX G ?gMP) (Ax.gint_mk KX G ?gMS) (Ax.gint_mk KX G ?gMF) (Ax.gint_mk KX G ?gMJ) (Ax.na_mk ?na_names) (Ax.na_mk ?na_bodies) (Ax.ty_ins (C := _) (Ax.cls_mk ?typ1 ?typ2 ?typ3 ?typ4) ?typ5 ?typ6 ?typ7 ?typ8)
      (Ax.has_mk "_law_number" Ax.s_law_number ["_law_script", "_law_k"] KX G (fun _ _ _ _ _ _ us hl => match us, hl with | [_, _], _ => rfl) ?a_law_number ?l_law_number ?c_law_number ?k_law_number)
      (Ax.has_mk "_law_word" Ax.s_law_word ["_law_n"] KX G (fun _ _ _ _ _ _ us hl => match us, hl with | [_], _ => rfl) ?a_law_word ?l_law_word ?c_law_word ?k_law_word)
      (Ax.has_mk "_law_some" Ax.s_law_some ["_law_n", "_law_menu"] KX G (fun _ _ _ _ _ _ us hl => match us, hl with | [_, _], _ => rfl) ?a_law_some ?l_law_some ?c_law_some ?k_law_some)
      (Ax.has_mk "_law_drawn" Ax.s_law_drawn ["_law_n", "_law_count"] KX G (fun _ _ _ _ _ _ us hl => match us, hl with | [_, _], _ => rfl) ?a_law_drawn ?l_law_drawn ?c_law_drawn ?k_law_drawn)
      (Ax.has_mk "_law_bodies" Ax.s_law_bodies ["_law_script"] KX G (fun _ _ _ _ _ _ us hl => match us, hl with | [_], _ => rfl) ?a_law_bodies ?l_law_bodies ?c_law_bodies ?k_law_bodies)
      (Ax.has_mk "_law_names" Ax.s_law_names ["_law_script", "_law_count"] KX G (fun _ _ _ _ _ _ us hl => match us, hl with | [_, _], _ => rfl) ?a_law_names ?l_law_names ?c_law_names ?k_law_names)
      (Ax.has_mk "_law_named" Ax.s_law_named ["_law_statement", "_law_names_here"] KX G (fun _ _ _ _ _ _ us hl => match us, hl with | [_, _], _ => rfl) ?a_law_named ?l_law_named ?c_law_named ?k_law_named)
      (Ax.has_mk "_law_paragraphs" Ax.s_law_paragraphs ["_law_bodies_here", "_law_names_here"] KX G (fun _ _ _ _ _ _ us hl => match us, hl with | [_, _], _ => rfl) ?a_law_paragraphs ?l_law_paragraphs ?c_law_paragraphs ?k_law_paragraphs)
      (Ax.has_mk "_is_name" Ax.s_is_name ["word"] KX G (fun _ _ _ _ _ _ us hl => match us, hl with | [_], _ => rfl) ?a_is_name ?l_is_name ?c_is_name ?k_is_name)
      (Ax.has_mk "_check_word" Ax.s_check_word ["word"] KX G (fun _ _ _ _ _ _ us hl => match us, hl with | [_], _ => rfl) ?a_check_word ?l_check_word ?c_check_word ?k_check_word)
      (Ax.has_mk "_check_target" Ax.s_check_target ["names", "target"] KX G (fun _ _ _ _ _ _ us hl => match us, hl with | [_, _], _ => rfl) ?a_check_target ?l_check_target ?c_check_target ?k_check_target)
      (Ax.has_mk "_check_stretch" Ax.s_check_stretch ["names", "first", "last"] KX G (fun _ _ _ _ _ _ us hl => match us, hl with | [_, _, _], _ => rfl) ?a_check_stretch ?l_check_stretch ?c_check_stretch ?k_check_stretch)
      (Ax.has_mk "_check_statement" Ax.s_check_statement ["names", "statement"] KX G (fun _ _ _ _ _ _ us hl => match us, hl with | [_, _], _ => rfl) ?a_check_statement ?l_check_statement ?c_check_statement ?k_check_statement)
      (Ax.has_mk "_check_names" Ax.s_check_names ["names"] KX G (fun _ _ _ _ _ _ us hl => match us, hl with | [_], _ => rfl) ?a_check_names ?l_check_names ?c_check_names ?k_check_names)
      (Ax.has_mk "_with_points" Ax.s_with_points ["bodies"] KX G (fun _ _ _ _ _ _ us hl => match us, hl with | [_], _ => rfl) ?a_with_points ?l_with_points ?c_with_points ?k_with_points)
      (Ax.has_mk "_check_size" Ax.s_check_size ["bodies"] KX G (fun _ _ _ _ _ _ us hl => match us, hl with | [_], _ => rfl) ?a_check_size ?l_check_size ?c_check_size ?k_check_size)
      (Ax.hasM_mk "__init__" "Program.__init__" Ax.s_Program_init ["self", "paragraphs"] (fun _ _ _ _ _ _ us hl => match us, hl with | [_, _], _ => rfl) ?a_Program_init ?i_Program_init ?l_Program_init ?c_Program_init ?k_Program_init)
      (Ax.hasM_mk "redirected" "Program.redirected" Ax.s_Program_redirected ["self", "choice"] (fun _ _ _ _ _ _ us hl => match us, hl with | [_, _], _ => rfl) ?a_Program_redirected ?i_Program_redirected ?l_Program_redirected ?c_Program_redirected ?k_Program_redirected)
      (Ax.has_mk "_is_jump" Ax.s_is_jump ["statement"] KX G (fun _ _ _ _ _ _ us hl => match us, hl with | [_], _ => rfl) ?a_is_jump ?l_is_jump ?c_is_jump ?k_is_jump)
      (Ax.hasP_mk "jumps" "Program.jumps" Ax.s_Program_jumps ["self"] (fun _ _ _ _ _ _ us hl => match us, hl with | [_], _ => rfl) ?a_Program_jumps ?gt_Program_jumps ?tk_Program_jumps ?rc_Program_jumps ?l_Program_jumps ?c_Program_jumps ?k_Program_jumps)
      (Ax.has_mk "_law_cut" Ax.s_law_cut ["_law_bodies_here", "_law_choice"] KX G (fun _ _ _ _ _ _ us hl => match us, hl with | [_, _], _ => rfl) ?a_law_cut ?l_law_cut ?c_law_cut ?k_law_cut)
      (Ax.has_mk "_law_same_bodies" Ax.s_law_same_bodies ["_law_program", "_law_names_here", "_law_bodies_here"] KX G (fun _ _ _ _ _ _ us hl => match us, hl with | [_, _, _], _ => rfl) ?a_law_same_bodies ?l_law_same_bodies ?c_law_same_bodies ?k_law_same_bodies)
      (Ax.has_mk "law" Ax.s_law ["_law_script"] KX G (fun _ _ _ _ _ _ us hl => match us, hl with | [_], _ => rfl) ?a_law ?l_law ?c_law ?k_law) hmg
    (case b_len => k_is)
    (case b_int => k_is)
    (case b_sum => k_is)
    (case b_isinstance => k_is)
    (case b_bool => k_is)
    (case b_range => k_is)
    (case b_tuple => k_is)
    (case b_all => k_is)
    (case b_any => k_is)
    (case b_enumerate => k_is)
    (case b_list => k_is)
    (case b_zip => k_is)
    (case ca_Program => k_is)
    (case cb_Program => k_is)
    (case cc_Program => k_is)
    (case cd_Program => k_is)
    (case ce_Program => k_is)
    (case cf_Program => k_is)
    (case cg_Program => k_is)
    (case gLN => k_is)
    (case gMP => k_is)
    (case gMS => k_is)
    (case gMF => k_is)
    (case gMJ => k_is)
    (case na_names => k_is)
    (case na_bodies => k_is)
    (case typ1 => k_is)
    (case typ2 => k_is)
    (case typ3 => k_is)
    (case typ4 => k_is)
    (case typ5 => k_is)
    (case typ6 => k_is)
    (case typ7 => k_is)
    (case typ8 => k_is)
    (case a_law_number => k_is)
    (case l_law_number => k_is)
    (case c_law_number => k_is)
    (case k_law_number => k_is)
    (case a_law_word => k_is)
    (case l_law_word => k_is)
    (case c_law_word => k_is)
    (case k_law_word => k_is)
    (case a_law_some => k_is)
    (case l_law_some => k_is)
    (case c_law_some => k_is)
    (case k_law_some => k_is)
    (case a_law_drawn => k_is)
    (case l_law_drawn => k_is)
    (case c_law_drawn => k_is)
    (case k_law_drawn => k_is)
    (case a_law_bodies => k_is)
    (case l_law_bodies => k_is)
    (case c_law_bodies => k_is)
    (case k_law_bodies => k_is)
    (case a_law_names => k_is)
    (case l_law_names => k_is)
    (case c_law_names => k_is)
    (case k_law_names => k_is)
    (case a_law_named => k_is)
    (case l_law_named => k_is)
    (case c_law_named => k_is)
    (case k_law_named => k_is)
    (case a_law_paragraphs => k_is)
    (case l_law_paragraphs => k_is)
    (case c_law_paragraphs => k_is)
    (case k_law_paragraphs => k_is)
    (case a_is_name => k_is)
    (case l_is_name => k_is)
    (case c_is_name => k_is)
    (case k_is_name => k_is)
    (case a_check_word => k_is)
    (case l_check_word => k_is)
    (case c_check_word => k_is)
    (case k_check_word => k_is)
    (case a_check_target => k_is)
    (case l_check_target => k_is)
    (case c_check_target => k_is)
    (case k_check_target => k_is)
    (case a_check_stretch => k_is)
    (case l_check_stretch => k_is)
    (case c_check_stretch => k_is)
    (case k_check_stretch => k_is)
    (case a_check_statement => k_is)
    (case l_check_statement => k_is)
    (case c_check_statement => k_is)
    (case k_check_statement => k_is)
    (case a_check_names => k_is)
    (case l_check_names => k_is)
    (case c_check_names => k_is)
    (case k_check_names => k_is)
    (case a_with_points => k_is)
    (case l_with_points => k_is)
    (case c_with_points => k_is)
    (case k_with_points => k_is)
    (case a_check_size => k_is)
    (case l_check_size => k_is)
    (case c_check_size => k_is)
    (case k_check_size => k_is)
    (case a_Program_init => k_is)
    (case i_Program_init => k_is)
    (case l_Program_init => k_is)
    (case c_Program_init => k_is)
    (case k_Program_init => k_is)
    (case a_Program_redirected => k_is)
    (case i_Program_redirected => k_is)
    (case l_Program_redirected => k_is)
    (case c_Program_redirected => k_is)
    (case k_Program_redirected => k_is)
    (case a_is_jump => k_is)
    (case l_is_jump => k_is)
    (case c_is_jump => k_is)
    (case k_is_jump => k_is)
    (case a_Program_jumps => k_is)
    (case gt_Program_jumps => k_is)
    (case tk_Program_jumps => k_is)
    (case rc_Program_jumps => k_is)
    (case l_Program_jumps => k_is)
    (case c_Program_jumps => k_is)
    (case k_Program_jumps => k_is)
    (case a_law_cut => k_is)
    (case l_law_cut => k_is)
    (case c_law_cut => k_is)
    (case k_law_cut => k_is)
    (case a_law_same_bodies => k_is)
    (case l_law_same_bodies => k_is)
    (case c_law_same_bodies => k_is)
    (case k_law_same_bodies => k_is)
    (case a_law => k_is)
    (case l_law => k_is)
    (case c_law => k_is)
    (case k_law => k_is)
