import PyProof.Rows.All
import Wide.All
import OpenK.AllK
import Wide.FinOn
import HandS.ForMost
import HandS.Evl
import HandS.TupAny
import HandS.IsInst
import HandS.Property
import HandS.Defaults
import HandS.Star
import HandS.FStr
import HandS.Text
import PySem.Challenge.RW_armedexits_k04_rules_keep
set_option Elab.async false
set_option linter.all false
set_option maxRecDepth 100000
set_option maxHeartbeats 4000000

namespace Ax
open PySem L2 Evl

/-! ### data -/
inductive D where
  | non | bl (b : Bool) | int (i : Int) | str (x : Str)
  | tup (ds : List D) | lst (ds : List D)
  | ins (C : Addr) (fs : List (Str × D))
  | cls (v : V)

mutual
inductive Rp (K : PySem.W.Frag) (H : Hp) : V → D → Prop
  | non : Rp K H .non .non
  | bl (b : Bool) : Rp K H (.bl b) (.bl b)
  | int (i : Int) : Rp K H (.int i) (.int i)
  | str (x : Str) : Rp K H (.str x) (.str x)
  | tup {a : Addr} {xs : List V} {ds : List D} : SqT K H a xs → RpA K H xs ds → Rp K H (.ref a) (.tup ds)
  | lst {a : Addr} {xs : List V} {ds : List D} : SqL K H a xs → RpA K H xs ds → Rp K H (.ref a) (.lst ds)
  | ins {a C dx : Addr} {gs : List (Str × V)} {fs : List (Str × D)} : H a = some (.ins C dx gs) → RpF K H gs fs → Rp K H (.ref a) (.ins C fs)
  | cls (v : V) : Rp K H v (.cls v)
inductive RpA (K : PySem.W.Frag) (H : Hp) : List V → List D → Prop
  | nil : RpA K H [] []
  | cons {v : V} {vs : List V} {d : D} {ds : List D} : Rp K H v d → RpA K H vs ds → RpA K H (v :: vs) (d :: ds)
inductive RpF (K : PySem.W.Frag) (H : Hp) : List (Str × V) → List (Str × D) → Prop
  | nil : RpF K H [] []
  | cons {f : Str} {v : V} {vs : List (Str × V)} {d : D} {ds : List (Str × D)} : Rp K H v d → RpF K H vs ds → RpF K H ((f, v) :: vs) ((f, d) :: ds)
end

section
variable {K : PySem.W.Frag} {H H' : Hp}
mutual
theorem Rp.mono (e : Ex H H') : ∀ {v : V} {d : D}, Rp K H v d → Rp K H' v d
  | _, _, .non => .non
  | _, _, .bl b => .bl b
  | _, _, .int b => .int b
  | _, _, .str b => .str b
  | _, _, .tup h a => .tup (ex_t e h) (RpA.mono e a)
  | _, _, .lst h a => .lst (ex_l e h) (RpA.mono e a)
  | _, _, .ins h a => .ins (e _ _ h) (RpF.mono e a)
  | _, _, .cls v => .cls v
theorem RpA.mono (e : Ex H H') : ∀ {v : List V} {d : List D}, RpA K H v d → RpA K H' v d
  | _, _, .nil => .nil
  | _, _, .cons h a => .cons (Rp.mono e h) (RpA.mono e a)
theorem RpF.mono (e : Ex H H') : ∀ {v : List (Str × V)} {d : List (Str × D)}, RpF K H v d → RpF K H' v d
  | _, _, .nil => .nil
  | _, _, .cons h a => .cons (Rp.mono e h) (RpF.mono e a)
end
theorem RpA.length : ∀ {vs : List V} {ds : List D}, RpA K H vs ds → vs.length = ds.length
  | _, _, .nil => rfl
  | _, _, .cons _ a => by rw [List.length_cons, List.length_cons, RpA.length a]
theorem RpA.get : ∀ {vs : List V} {ds : List D} {i : Nat} {d : D}, RpA K H vs ds → ds[i]? = some d → ∃ v, vs[i]? = some v ∧ Rp K H v d
  | _, _, _, _, .nil, e => by simp at e
  | _, _, 0, _, .cons r _, e => by simp at e; subst e; exact ⟨_, rfl, r⟩
  | _, _, i + 1, d, .cons _ t, e => by
    obtain ⟨u, h1, h2⟩ := RpA.get (i := i) (d := d) t (by simpa using e)
    exact ⟨u, by simpa using h1, h2⟩
theorem RpA.getV : ∀ {vs : List V} {ds : List D} {i : Nat} {v : V}, RpA K H vs ds → vs[i]? = some v → ∃ d, ds[i]? = some d ∧ Rp K H v d
  | _, _, _, _, .nil, e => by simp at e
  | _, _, 0, _, .cons r _, e => by simp at e; subst e; exact ⟨_, rfl, r⟩
  | _, _, i + 1, v, .cons _ t, e => by
    obtain ⟨u, h1, h2⟩ := RpA.getV (i := i) (v := v) t (by simpa using e)
    exact ⟨u, by simpa using h1, h2⟩
theorem RpA.append : ∀ {vs ws : List V} {ds es : List D}, RpA K H vs ds → RpA K H ws es → RpA K H (vs ++ ws) (ds ++ es)
  | _, _, _, _, .nil, s => s
  | _, _, _, _, .cons r t, s => .cons r (RpA.append t s)
theorem RpA.set {v : V} {d : D} (r : Rp K H v d) : ∀ {vs : List V} {ds : List D} (i : Nat), RpA K H vs ds → RpA K H (vs.set i v) (ds.set i d)
  | _, _, _, .nil => .nil
  | _, _, 0, .cons _ t => .cons r t
  | _, _, i + 1, .cons q t => .cons q (RpA.set r i t)
theorem RpA.take : ∀ {vs : List V} {ds : List D} (n : Nat), RpA K H vs ds → RpA K H (vs.take n) (ds.take n)
  | _, _, 0, _ => .nil
  | _, _, _ + 1, .nil => .nil
  | _, _, n + 1, .cons r t => .cons r (RpA.take n t)
theorem RpA.drop : ∀ {vs : List V} {ds : List D} (n : Nat), RpA K H vs ds → RpA K H (vs.drop n) (ds.drop n)
  | _, _, 0, r => r
  | _, _, _ + 1, .nil => .nil
  | _, _, n + 1, .cons _ t => RpA.drop n t
theorem RpA.ints : ∀ {ns : List Int}, RpA K H (ns.map V.int) (ns.map D.int)
  | [] => .nil
  | n :: r => .cons (.int n) (RpA.ints (ns := r))
theorem RpA.ints_inv : ∀ {vs : List V} {ns : List Int}, RpA K H vs (ns.map D.int) → vs = ns.map V.int
  | _, [], h => by cases h; rfl
  | _, n :: r, h => by
    cases h with
    | cons h1 h2 =>
      cases h1
      rw [RpA.ints_inv h2]
      rfl
theorem RpF.look : ∀ {vs : List (Str × V)} {ds : List (Str × D)} {f : Str} {d : D}, RpF K H vs ds → ds.lookup f = some d → ∃ v, vs.lookup f = some v ∧ Rp K H v d
  | _, _, _, _, .nil, e => by simp at e
  | _, _, f, d, .cons (f := g) (v := v) (d := d') r t, e => by
    rw [List.lookup_cons] at e ⊢
    cases q : f == g with
    | true => rw [q] at e; simp at e; subst e; exact ⟨v, rfl, r⟩
    | false => rw [q] at e; exact RpF.look t e
end

/-! ### what has been done between two heaps: G what stands still -/
structure Go (G H G' H' : Hp) : Prop where
  gg : Ex G G'
  gh : Ex G' H'
  hh : Ex H H'
  fr : ∀ a, H a ≠ none → G a = none → G' a = none
section
variable {G H G1 H1 G2 H2 : Hp}
theorem Go.refl (e : Ex G H) : Go G H G H := ⟨Ex.refl G, e, Ex.refl H, fun _ _ h => h⟩
theorem Go.trans (a : Go G H G1 H1) (b : Go G1 H1 G2 H2) : Go G H G2 H2 := ⟨a.gg.trans b.gg, b.gh, a.hh.trans b.hh, fun x hx hg => b.fr x (by
  cases q : H x with
  | none => exact absurd q hx
  | some o => rw [a.hh x o q]; exact fun z => nomatch z) (a.fr x hx hg)⟩
/-- a new thing that will stand still -/
theorem Go.new {p : Addr} {o : HO} (e : Ex G H) (h : H p = none) : Go G H (upd G p o) (upd H p o) := by
  have hg : G p = none := fresh_back e h
  refine ⟨Ex.new hg, fun a u q => ?_, Ex.new h, fun a ha q => ?_⟩
  · by_cases ap : a = p
    · subst ap; rw [upd_same] at q ⊢; exact q
    · rw [upd_ne ap] at q ⊢; exact e a u q
  · rw [upd_ne (b := a) (a := p) (fun z => ha (by rw [z]; exact h))]; exact q
/-- a new thing of our own -/
theorem Go.own {p : Addr} {o : HO} (e : Ex G H) (h : H p = none) : Go G H G (upd H p o) :=
  ⟨Ex.refl G, e.trans (Ex.new h), Ex.new h, fun _ _ q => q⟩
end

/-! ### slots -/
inductive S where
  | dat (d : D) | own (ds : List D) | obj (x C : Addr) (fs : List (Str × D))
abbrev Rho := List (Option S)
/-- our own thing at l -/
def OwnAt (K : PySem.W.Frag) (G H : Hp) (l : Addr) : S → Prop
  | .dat _ => False
  | .own ds => ∃ vs, H l = some (.lst vs) ∧ RpA K G vs ds
  | .obj x C fs => l = x ∧ ∃ dx gs, H l = some (.ins C dx gs) ∧ RpF K G gs fs
def S.mine : S → Bool
  | .dat _ => false
  | _ => true
section
variable {K : PySem.W.Frag} {G H G1 H1 : Hp} {l : Addr} {x : S}
theorem OwnAt.there (h : OwnAt K G H l x) : ∃ o, H l = some o := by
  cases x with
  | dat d => exact h.elim
  | own ds => obtain ⟨vs, h, _⟩ := h; exact ⟨_, h⟩
  | obj x C fs => obtain ⟨_, dx, gs, h, _⟩ := h; exact ⟨_, h⟩
theorem OwnAt.mono (h : OwnAt K G H l x) (e : Ex G G1) (k : ∀ o, H l = some o → H1 l = some o) : OwnAt K G1 H1 l x := by
  cases x with
  | dat d => exact h.elim
  | own ds => obtain ⟨vs, h, r⟩ := h; exact ⟨vs, k _ h, r.mono e⟩
  | obj x C fs => obtain ⟨z, dx, gs, h, r⟩ := h; exact ⟨z, dx, gs, k _ h, r.mono e⟩
end
structure Sl (K : PySem.W.Frag) (G0 H0 G H : Hp) (σ : L2.St) (ρ : Rho) : Prop where
  go : Go G0 H0 G H
  len : σ.length = ρ.length
  dat : ∀ (i : Nat) (d : D), ρ[i]? = some (some (.dat d)) → ∃ v, σ[i]? = some (some v) ∧ Rp K G v d
  mine : ∀ (i : Nat) (x : S), ρ[i]? = some (some x) → x.mine = true → ∃ l : Addr, σ[i]? = some (some (.ref l)) ∧ H0 l = none ∧ G l = none ∧ OwnAt K G H l x
  sep : ∀ (i j : Nat) (x y : S) (l : Addr), i ≠ j → ρ[i]? = some (some x) → x.mine = true → ρ[j]? = some (some y) → y.mine = true → σ[i]? = some (some (.ref l)) → σ[j]? ≠ some (some (.ref l))
section
variable {K : PySem.W.Frag} {G0 H0 G H G1 H1 : Hp} {σ : L2.St} {ρ : Rho}
theorem Sl.gh (s : Sl K G0 H0 G H σ ρ) : Ex G H := s.go.gh
theorem Sl.own (s : Sl K G0 H0 G H σ ρ) (i : Nat) (ds : List D) (e : ρ[i]? = some (some (.own ds))) : ∃ (l : Addr) (vs : List V), σ[i]? = some (some (.ref l)) ∧ H0 l = none ∧ G l = none ∧ H l = some (.lst vs) ∧ RpA K G vs ds := by
  obtain ⟨l, h1, h2, h3, vs, h4, h5⟩ := s.mine i _ e rfl
  exact ⟨l, vs, h1, h2, h3, h4, h5⟩
theorem Sl.step (s : Sl K G0 H0 G H σ ρ) (g : Go G H G1 H1) : Sl K G0 H0 G1 H1 σ ρ where
  go := s.go.trans g
  len := s.len
  dat := fun i d e => let ⟨v, h1, h2⟩ := s.dat i d e; ⟨v, h1, h2.mono g.gg⟩
  mine := fun i x e m => by
    obtain ⟨l, h1, h2, h3, h4⟩ := s.mine i x e m
    obtain ⟨o, ho⟩ := h4.there
    exact ⟨l, h1, h2, g.fr l (by rw [ho]; exact fun z => nomatch z) h3, h4.mono g.gg fun o q => g.hh _ _ q⟩
  sep := s.sep
theorem set_get {α : Type} {l : List α} {i j : Nat} {a b : α} (h : (l.set i a)[j]? = some b) : (i = j ∧ i < l.length ∧ a = b) ∨ (i ≠ j ∧ l[j]? = some b) := by
  by_cases hj : i = j
  · subst hj
    have hi : i < l.length := by
      have := (List.getElem?_eq_some_iff.mp h).1
      simpa using this
    rw [List.getElem?_set_self hi] at h
    exact .inl ⟨rfl, hi, Option.some.inj h⟩
  · rw [List.getElem?_set_ne hj] at h
    exact .inr ⟨hj, h⟩
theorem Sl.set {i : Nat} {v : V} {d : D} (s : Sl K G0 H0 G H σ ρ) (r : Rp K G v d) : Sl K G0 H0 G H (σ.set i (some v)) (ρ.set i (some (.dat d))) := by
  refine ⟨s.go, by rw [List.length_set, List.length_set, s.len], fun j e q => ?_, fun j x q m => ?_, fun j k x y l hjk q1 m1 q2 m2 h1 => ?_⟩
  · rcases set_get q with ⟨rfl, hi, z⟩ | ⟨hj, q⟩
    · cases z
      exact ⟨v, by rw [List.getElem?_set_self (by rw [s.len]; exact hi)], r⟩
    · rw [List.getElem?_set_ne hj]
      exact s.dat j e q
  · rcases set_get q with ⟨rfl, hi, z⟩ | ⟨hj, q⟩
    · cases z
      cases m
    · rw [List.getElem?_set_ne hj]
      exact s.mine j x q m
  · rcases set_get q1 with ⟨rfl, hi, z⟩ | ⟨hj, q1⟩
    · cases z; cases m1
    rcases set_get q2 with ⟨rfl, hi, z⟩ | ⟨hk, q2⟩
    · cases z; cases m2
    rw [List.getElem?_set_ne hj] at h1
    rw [List.getElem?_set_ne hk]
    exact s.sep j k x y l hjk q1 m1 q2 m2 h1
/-- a new thing of our own in a slot -/
theorem Sl.setM {i : Nat} {l : Addr} {o : HO} {x : S} (s : Sl K G0 H0 G H σ ρ) (hn : H l = none) (r : OwnAt K G (upd H l o) l x) :
    Sl K G0 H0 G (upd H l o) (σ.set i (some (.ref l))) (ρ.set i (some x)) := by
  have s2 := s.step (Go.own (o := o) s.gh hn)
  have h0 : H0 l = none := fresh_back s.go.hh hn
  have g0 : G l = none := fresh_back s.gh hn
  have hx : x.mine = true := by
    cases x with
    | dat d => exact r.elim
    | own ds => rfl
    | obj x C fs => rfl
  have old : ∀ (j : Nat) (y : S), ρ[j]? = some (some y) → y.mine = true → σ[j]? ≠ some (some (.ref l)) := fun j y q m z => by
    obtain ⟨l', h1, _, _, h4⟩ := s.mine j y q m
    rw [h1] at z
    cases z
    obtain ⟨o, ho⟩ := h4.there
    rw [hn] at ho
    cases ho
  refine ⟨s2.go, by rw [List.length_set, List.length_set, s.len], fun j e q => ?_, fun j y q m => ?_, fun j k y z m hjk q1 m1 q2 m2 h1 => ?_⟩
  · rcases set_get q with ⟨rfl, hi, z⟩ | ⟨hj, q⟩
    · cases z; cases hx
    · rw [List.getElem?_set_ne hj]
      exact s2.dat j e q
  · rcases set_get q with ⟨rfl, hi, z⟩ | ⟨hj, q⟩
    · cases z
      exact ⟨l, by rw [List.getElem?_set_self (by rw [s.len]; exact hi)], h0, g0, r⟩
    · rw [List.getElem?_set_ne hj]
      exact s2.mine j y q m
  · rcases set_get q1 with ⟨rfl, hi, z1⟩ | ⟨hj, q1⟩
    · rw [List.getElem?_set_self (by rw [s.len]; exact hi)] at h1
      cases h1
      rcases set_get q2 with ⟨rfl, _, _⟩ | ⟨hk, q2⟩
      · exact absurd rfl hjk
      rw [List.getElem?_set_ne hk]
      exact old k z q2 m2
    · rw [List.getElem?_set_ne hj] at h1
      rcases set_get q2 with ⟨rfl, hi, z2⟩ | ⟨hk, q2⟩
      · rw [List.getElem?_set_self (by rw [s.len]; exact hi)]
        intro w
        cases w
        exact old j y q1 m1 h1
      · rw [List.getElem?_set_ne hk]
        exact s.sep j k y z m hjk q1 m1 q2 m2 h1
theorem Sl.setO {i : Nat} {l : Addr} {vs : List V} {ds : List D} (s : Sl K G0 H0 G H σ ρ) (hn : H l = none) (r : RpA K G vs ds) :
    Sl K G0 H0 G (upd H l (.lst vs)) (σ.set i (some (.ref l))) (ρ.set i (some (.own ds))) := s.setM hn ⟨vs, upd_same, r⟩
/-- our own thing is changed -/
theorem Sl.mutM {i : Nat} {l : Addr} {o : HO} {x y : S} (s : Sl K G0 H0 G H σ ρ) (hi : ρ[i]? = some (some x)) (hm : x.mine = true) (hl : σ[i]? = some (some (.ref l))) (r : OwnAt K G (upd H l o) l y) :
    Sl K G0 H0 G (upd H l o) σ (ρ.set i (some y)) := by
  obtain ⟨l', h1, h2, h3, h4⟩ := s.mine i x hi hm
  rw [hl] at h1
  cases h1
  have hlt : i < ρ.length := (List.getElem?_eq_some_iff.mp hi).1
  have hy : y.mine = true := by
    cases y with
    | dat d => exact r.elim
    | own ds => rfl
    | obj x C fs => rfl
  refine ⟨⟨s.go.gg, fun a o e => ?_, Ex.mut s.go.hh h2, s.go.fr⟩, by rw [List.length_set, s.len], fun j e q => ?_, fun j z q m => ?_, fun j k z w m hjk q1 m1 q2 m2 g1 => ?_⟩
  · rw [upd_ne (ne_of_none e h3)]; exact s.gh a o e
  · rcases set_get q with ⟨rfl, _, z⟩ | ⟨hj, q⟩
    · cases z; cases hy
    · exact s.dat j e q
  · rcases set_get q with ⟨rfl, _, z⟩ | ⟨hj, q⟩
    · cases z
      exact ⟨l, hl, h2, h3, r⟩
    · obtain ⟨a, g1, g2, g3, g4⟩ := s.mine j z q m
      have nm : a ≠ l := fun e => s.sep i j x z l hj hi hm q m hl (by rw [g1, e])
      exact ⟨a, g1, g2, g3, g4.mono (Ex.refl G) fun o q => by rw [upd_ne nm]; exact q⟩
  · have back : ∀ (j : Nat) (z : S), (ρ.set i (some y))[j]? = some (some z) → z.mine = true → ∃ z', ρ[j]? = some (some z') ∧ z'.mine = true := fun j z q m => by
      rcases set_get q with ⟨rfl, _, _⟩ | ⟨hj, q⟩
      · exact ⟨x, hi, hm⟩
      · exact ⟨z, q, m⟩
    obtain ⟨z1, p1, p2⟩ := back j z q1 m1
    obtain ⟨z2, p3, p4⟩ := back k w q2 m2
    exact s.sep j k z1 z2 m hjk p1 p2 p3 p4 g1
theorem Sl.mut {i : Nat} {l : Addr} {vs vs' : List V} {ds ds' : List D} (s : Sl K G0 H0 G H σ ρ) (hi : ρ[i]? = some (some (.own ds))) (hl : σ[i]? = some (some (.ref l))) (r : RpA K G vs' ds') :
    Sl K G0 H0 G (upd H l (.lst vs')) σ (ρ.set i (some (.own ds'))) := s.mutM hi rfl hl ⟨vs', upd_same, r⟩
/-- forgetting -/
theorem Sl.weak {ρ' : Rho} (s : Sl K G0 H0 G H σ ρ) (hl : ρ'.length = ρ.length) (h : ∀ (i : Nat) (x : S), ρ'[i]? = some (some x) → ρ[i]? = some (some x)) : Sl K G0 H0 G H σ ρ' :=
  ⟨s.go, s.len.trans hl.symm, fun i d e => s.dat i d (h i _ e), fun i d e => s.mine i d (h i _ e), fun i j x y l hij p m q n => s.sep i j x y l hij (h i _ p) m (h j _ q) n⟩
/-- our own thing is given up: it stands still from here -/
theorem Sl.freezeM {i : Nat} {x : S} {d : D} (s : Sl K G0 H0 G H σ ρ) (hi : ρ[i]? = some (some x)) (hm : x.mine = true) (hd : ∀ (l : Addr) (o : HO), H l = some o → G l = none → OwnAt K G H l x → Rp K (upd G l o) (.ref l) d) : ∃ G', Ex G G' ∧ Sl K G0 H0 G' H σ (ρ.set i (some (.dat d))) := by
  obtain ⟨l, h1, h2, h3, h4⟩ := s.mine i x hi hm
  obtain ⟨o, ho⟩ := h4.there
  have hlt : i < ρ.length := (List.getElem?_eq_some_iff.mp hi).1
  have eg : Ex G (upd G l o) := Ex.new h3
  refine ⟨upd G l o, eg, ⟨s.go.gg.trans eg, fun a u e => ?_, s.go.hh, fun a ha hg => ?_⟩, by rw [List.length_set, s.len], fun j e q => ?_, fun j z q m => ?_, fun j k z w m hjk q1 m1 q2 m2 g1 => ?_⟩
  · by_cases al : a = l
    · subst al; rw [upd_same] at e; rw [← e]; exact ho
    · rw [upd_ne al] at e; exact s.gh a u e
  · rw [upd_ne (b := a) (a := l) (fun z => ha (by rw [z]; exact h2))]; exact s.go.fr a ha hg
  · rcases set_get q with ⟨rfl, _, z⟩ | ⟨hj, q⟩
    · cases z
      exact ⟨.ref l, h1, hd l o ho h3 h4⟩
    · obtain ⟨v, g1, g2⟩ := s.dat j e q
      exact ⟨v, g1, g2.mono eg⟩
  · rcases set_get q with ⟨rfl, _, z⟩ | ⟨hj, q⟩
    · cases z; cases m
    · obtain ⟨a, g1, g2, g3, g4⟩ := s.mine j z q m
      have nm : a ≠ l := fun e => s.sep i j x z l hj hi hm q m h1 (by rw [g1, e])
      exact ⟨a, g1, g2, by rw [upd_ne nm]; exact g3, g4.mono eg fun o q => q⟩
  · have back : ∀ (j : Nat) (z : S), (ρ.set i (some (.dat d)))[j]? = some (some z) → z.mine = true → ρ[j]? = some (some z) := fun j z q m => by
      rcases set_get q with ⟨rfl, _, e⟩ | ⟨hj, q⟩
      · cases e; cases m
      · exact q
    exact s.sep j k z w m hjk (back j z q1 m1) m1 (back k w q2 m2) m2 g1
theorem Sl.freeze {i : Nat} {ds : List D} (s : Sl K G0 H0 G H σ ρ) (hi : ρ[i]? = some (some (.own ds))) : ∃ G', Ex G G' ∧ Sl K G0 H0 G' H σ (ρ.set i (some (.dat (.lst ds)))) := s.freezeM hi rfl fun l o ho hg ⟨vs, h1, h2⟩ => by
  rw [ho] at h1
  cases h1
  exact .lst (.inl (.inl upd_same)) (h2.mono (Ex.new hg))
end
end Ax

namespace Ax
open PySem L2 Evl

/-! ### what an expression evaluates to, from the slots alone -/
def EvD (K : PySem.W.Frag) (te : TE) (ρ : Rho) (d : D) : Prop := ∀ G0 H0 G H σ (Q : VK), Sl K G0 H0 G H σ ρ → (∀ v G' H', Go G H G' H' → Rp K G' v d → Q v H') → te σ H Q
/-- to be read at once -/
def EvR (K : PySem.W.Frag) (te : TE) (ρ : Rho) (d : D) : Prop := ∀ G0 H0 G H σ (Q : VK), Sl K G0 H0 G H σ ρ → (∀ v G' H', Go G H G' H' → Rp K H' v d → Q v H') → te σ H Q
/-- a new list -/
def EvN (K : PySem.W.Frag) (te : TE) (ρ : Rho) (ds : List D) : Prop := ∀ G0 H0 G H σ (Q : VK), Sl K G0 H0 G H σ ρ → (∀ l vs G' H', Go G H G' H' → H' l = none → RpA K G' vs ds → Q (.ref l) (upd H' l (.lst vs))) → te σ H Q
def EvB (K : PySem.W.Frag) (tt : TT) (ρ : Rho) (b : Bool) : Prop := ∀ G0 H0 G H σ (Q : Bool → Hp → Prop), Sl K G0 H0 G H σ ρ → (∀ G' H', Go G H G' H' → Q b H') → tt σ H Q
def EvS (K : PySem.W.Frag) (ta : TA) (ρ : Rho) (ds : List D) : Prop := ∀ G0 H0 G H σ (Q : List V → Hp → Prop), Sl K G0 H0 G H σ ρ → (∀ vs G' H', Go G H G' H' → RpA K G' vs ds → Q vs H') → ta σ H Q
def EvSR (K : PySem.W.Frag) (ta : TA) (ρ : Rho) (ds : List D) : Prop := ∀ G0 H0 G H σ (Q : List V → Hp → Prop), Sl K G0 H0 G H σ ρ → (∀ vs G' H', Go G H G' H' → RpA K H' vs ds → Q vs H') → ta σ H Q
def EvO (K : PySem.W.Frag) (to : TO) (ρ : Rho) (o : Option Int) : Prop := ∀ G0 H0 G H σ (Q : Option Int → Hp → Prop), Sl K G0 H0 G H σ ρ → (∀ G' H', Go G H G' H' → Q o H') → to σ H Q
/-- operations on values: what stands still, a scalar of what may be read, a new list -/
def RvD (K : PySem.W.Frag) (r : R2) (a b d : D) : Prop := ∀ G H x y (Q : VK), Ex G H → Rp K G x a → Rp K G y b → (∀ v G' H', Go G H G' H' → Rp K G' v d → Q v H') → r x y H Q
def RvS (K : PySem.W.Frag) (r : R2) (a b d : D) : Prop := ∀ H x y (Q : VK), Rp K H x a → Rp K H y b → (∀ v, (∀ G, Rp K G v d) → Q v H) → r x y H Q
def RcD (K : PySem.W.Frag) (r : List V → Hp → VK → Prop) (as : List D) (d : D) : Prop := ∀ G H vs (Q : VK), Ex G H → RpA K G vs as → (∀ v G' H', Go G H G' H' → Rp K G' v d → Q v H') → r vs H Q
def RcS (K : PySem.W.Frag) (r : List V → Hp → VK → Prop) (as : List D) (d : D) : Prop := ∀ H vs (Q : VK), RpA K H vs as → (∀ v, (∀ G, Rp K G v d) → Q v H) → r vs H Q
def RcN (K : PySem.W.Frag) (r : List V → Hp → VK → Prop) (as ds : List D) : Prop := ∀ G H vs (Q : VK), Ex G H → RpA K G vs as → (∀ l ws G' H', Go G H G' H' → H' l = none → RpA K G' ws ds → Q (.ref l) (upd H' l (.lst ws))) → r vs H Q

section
variable {K : PySem.W.Frag} {ρ : Rho} {ta tb tc te : TE} {a b c d : D} {ds es : List D} {rr : R2}
theorem EvD.rd (h : EvD K te ρ d) : EvR K te ρ d := fun G0 H0 G H σ Q s q => h G0 H0 G H σ Q s fun v G' H' g z => q v G' H' g (z.mono g.gh)
theorem EvN.dt (h : EvN K te ρ ds) : EvD K te ρ (.lst ds) := fun G0 H0 G H σ Q s q => h G0 H0 G H σ Q s fun l vs G' H' g hl z => by
  have n := Go.new (o := .lst vs) g.gh hl
  exact q (.ref l) _ _ (g.trans n) (.lst (.inl (.inl upd_same)) (z.mono n.gg))
theorem EvN.rd (h : EvN K te ρ ds) : EvR K te ρ (.lst ds) := h.dt.rd
theorem EvS.rd {ta : TA} (h : EvS K ta ρ ds) : EvSR K ta ρ ds := fun G0 H0 G H σ Q s q => h G0 H0 G H σ Q s fun v G' H' g z => q v G' H' g (z.mono g.gh)
theorem ev_v {i : Nat} (h : ρ[i]? = some (some (.dat d))) : EvD K (tVar i) ρ d := fun G0 H0 G H σ Q s q => by
  obtain ⟨v, h1, h2⟩ := s.dat i d h
  exact ⟨v, h1, q v G H (Go.refl s.gh) h2⟩
theorem ev_vo {i : Nat} (h : ρ[i]? = some (some (.own ds))) : EvR K (tVar i) ρ (.lst ds) := fun G0 H0 G H σ Q s q => by
  obtain ⟨l, vs, h1, h2, h3, h4, h5⟩ := s.own i ds h
  exact ⟨.ref l, h1, q _ G H (Go.refl s.gh) (.lst (.inl (.inl h4)) (h5.mono s.gh))⟩
theorem ev_ci {i : Int} : EvD K (tC (.int i)) ρ (.int i) := fun G0 H0 G H σ Q s q => q _ G H (Go.refl s.gh) (.int i)
theorem ev_cs {i : Str} : EvD K (tC (.str i)) ρ (.str i) := fun G0 H0 G H σ Q s q => q _ G H (Go.refl s.gh) (.str i)
theorem ev_cb {i : Bool} : EvD K (tC (.bl i)) ρ (.bl i) := fun G0 H0 G H σ Q s q => q _ G H (Go.refl s.gh) (.bl i)
theorem ev_cn : EvD K (tC .non) ρ .non := fun G0 H0 G H σ Q s q => q _ G H (Go.refl s.gh) .non
theorem ev_cc {v : V} : EvD K (tC v) ρ (.cls v) := fun G0 H0 G H σ Q s q => q _ G H (Go.refl s.gh) (.cls v)
theorem ev_op (ha : EvD K ta ρ a) (hb : EvD K tb ρ b) (hr : RvD K rr a b d) : EvD K (tOp rr ta tb) ρ d := fun G0 H0 G H σ Q s q =>
  ha G0 H0 G H σ _ s fun x G1 H1 g1 r1 => hb G0 H0 G1 H1 σ _ (s.step g1) fun y G2 H2 g2 r2 => hr G2 H2 x y Q g2.gh (r1.mono g2.gg) r2 fun v G3 H3 g3 r3 => q v G3 H3 ((g1.trans g2).trans g3) r3
theorem ev_opS (ha : EvR K ta ρ a) (hb : EvR K tb ρ b) (hr : RvS K rr a b d) : EvD K (tOp rr ta tb) ρ d := fun G0 H0 G H σ Q s q =>
  ha G0 H0 G H σ _ s fun x G1 H1 g1 r1 => hb G0 H0 G1 H1 σ _ (s.step g1) fun y G2 H2 g2 r2 => hr H2 x y Q (r1.mono g2.hh) r2 fun v r3 => q v G2 H2 (g1.trans g2) (r3 G2)
theorem es_nil : EvS K tNil ρ [] := fun G0 H0 G H σ Q s q => q [] G H (Go.refl s.gh) .nil
theorem es_cons {tr : TA} (ha : EvD K ta ρ a) (hr : EvS K tr ρ ds) : EvS K (tCons ta tr) ρ (a :: ds) := fun G0 H0 G H σ Q s q =>
  ha G0 H0 G H σ _ s fun x G1 H1 g1 r1 => hr G0 H0 G1 H1 σ _ (s.step g1) fun vs G2 H2 g2 r2 => q _ G2 H2 (g1.trans g2) (.cons (r1.mono g2.gg) r2)
theorem er_nil : EvSR K tNil ρ [] := es_nil.rd
theorem er_cons {tr : TA} (ha : EvR K ta ρ a) (hr : EvSR K tr ρ ds) : EvSR K (tCons ta tr) ρ (a :: ds) := fun G0 H0 G H σ Q s q =>
  ha G0 H0 G H σ _ s fun x G1 H1 g1 r1 => hr G0 H0 G1 H1 σ _ (s.step g1) fun vs G2 H2 g2 r2 => q _ G2 H2 (g1.trans g2) (.cons (r1.mono g2.hh) r2)
theorem ev_tup {t : TA} (h : EvS K t ρ ds) (hl : ds.length ≤ 100000) : EvD K (tTup t) ρ (.tup ds) := fun G0 H0 G H σ Q s q =>
  h G0 H0 G H σ _ s fun vs G1 H1 g1 r1 => ⟨by rw [r1.length]; exact sz_of hl, fun p hp => by
    have n := Go.new (o := .tup vs) g1.gh hp
    exact q (.ref p) _ _ (g1.trans n) (.tup (.inl (.inl upd_same)) (r1.mono n.gg))⟩
theorem en_lst {t : TA} (h : EvS K t ρ ds) (hl : ds.length ≤ 100000) : EvN K (tLst t) ρ ds := fun G0 H0 G H σ Q s q =>
  h G0 H0 G H σ _ s fun vs G1 H1 g1 r1 => ⟨by rw [r1.length]; exact sz_of hl, fun p hp => q p vs G1 H1 g1 hp r1⟩
/-! ### tests -/
variable {t u : TT} {p q : Bool}
theorem eb_test (h : EvD K te ρ (.bl p)) : EvB K (tTest te) ρ p := fun G0 H0 G H σ Q s q => h G0 H0 G H σ _ s fun v G1 H1 g1 r1 => by cases r1; exact ⟨p, rfl, q G1 H1 g1⟩
theorem eb_B (h : EvD K te ρ (.bl p)) : EvB K (tB te) ρ p := fun G0 H0 G H σ Q s q => h G0 H0 G H σ _ s fun v G1 H1 g1 r1 => by cases r1; exact ⟨p, rfl, q G1 H1 g1⟩
theorem eb_and (h1 : EvB K t ρ p) (h2 : p = true → EvB K u ρ q) : EvB K (tAnd t u) ρ (p && q) := fun G0 H0 G H σ Q s k => h1 G0 H0 G H σ _ s fun G1 H1 g1 => by
  cases p with
  | true =>
    show u σ H1 Q
    exact h2 rfl G0 H0 G1 H1 σ Q (s.step g1) fun G2 H2 g2 => k G2 H2 (g1.trans g2)
  | false =>
    show Q false H1
    exact k G1 H1 g1
theorem eb_or (h1 : EvB K t ρ p) (h2 : p = false → EvB K u ρ q) : EvB K (tOr t u) ρ (p || q) := fun G0 H0 G H σ Q s k => h1 G0 H0 G H σ _ s fun G1 H1 g1 => by
  cases p with
  | true =>
    show Q true H1
    exact k G1 H1 g1
  | false =>
    show u σ H1 Q
    exact h2 rfl G0 H0 G1 H1 σ Q (s.step g1) fun G2 H2 g2 => k G2 H2 (g1.trans g2)
theorem eb_not (h : EvB K t ρ p) : EvB K (tNot t) ρ (!p) := fun G0 H0 G H σ Q s k => h G0 H0 G H σ _ s fun G1 H1 g1 => k G1 H1 g1
theorem eb_is (h : EvB K t ρ p) (e : p = q) : EvB K t ρ q := e ▸ h
theorem ev_is (h : EvD K te ρ a) (e : a = b) : EvD K te ρ b := e ▸ h
theorem ev_andV (h1 : EvD K ta ρ (.bl p)) (h2 : p = true → EvD K tb ρ (.bl q)) : EvD K (tAndV ta tb) ρ (.bl (p && q)) := fun G0 H0 G H σ Q s k => h1 G0 H0 G H σ _ s fun v G1 H1 g1 r1 => by
  cases r1
  refine ⟨p, rfl, ?_⟩
  cases p with
  | true =>
    show tb σ H1 Q
    exact h2 rfl G0 H0 G1 H1 σ Q (s.step g1) fun v G2 H2 g2 r2 => k v G2 H2 (g1.trans g2) r2
  | false =>
    show Q (.bl false) H1
    exact k _ G1 H1 g1 (.bl false)
theorem ev_orV (h1 : EvD K ta ρ (.bl p)) (h2 : p = false → EvD K tb ρ (.bl q)) : EvD K (tOrV ta tb) ρ (.bl (p || q)) := fun G0 H0 G H σ Q s k => h1 G0 H0 G H σ _ s fun v G1 H1 g1 r1 => by
  cases r1
  refine ⟨p, rfl, ?_⟩
  cases p with
  | true =>
    show Q (.bl true) H1
    exact k _ G1 H1 g1 (.bl true)
  | false =>
    show tb σ H1 Q
    exact h2 rfl G0 H0 G1 H1 σ Q (s.step g1) fun v G2 H2 g2 r2 => k v G2 H2 (g1.trans g2) r2
theorem ev_notV (h1 : EvD K ta ρ (.bl p)) : EvD K (tNotV ta) ρ (.bl (!p)) := fun G0 H0 G H σ Q s k => h1 G0 H0 G H σ _ s fun v G1 H1 g1 r1 => by
  cases r1
  exact ⟨p, rfl, k _ G1 H1 g1 (.bl _)⟩
theorem ev_if (h : EvB K t ρ p) (h1 : p = true → EvD K ta ρ a) (h2 : p = false → EvD K tb ρ a) : EvD K (tIf t ta tb) ρ a := fun G0 H0 G H σ Q s k => h G0 H0 G H σ _ s fun G1 H1 g1 => by
  cases p with
  | true =>
    show ta σ H1 Q
    exact h1 rfl G0 H0 G1 H1 σ Q (s.step g1) fun v G2 H2 g2 r2 => k v G2 H2 (g1.trans g2) r2
  | false =>
    show tb σ H1 Q
    exact h2 rfl G0 H0 G1 H1 σ Q (s.step g1) fun v G2 H2 g2 r2 => k v G2 H2 (g1.trans g2) r2
theorem ev_cbD {rc : List V → Hp → VK → Prop} {ta : TA} (h : EvS K ta ρ ds) (hr : RcD K rc ds d) : EvD K (tCB rc ta) ρ d := fun G0 H0 G H σ Q s k =>
  h G0 H0 G H σ _ s fun vs G1 H1 g1 r1 => hr G1 H1 vs Q g1.gh r1 fun v G2 H2 g2 r2 => k v G2 H2 (g1.trans g2) r2
theorem ev_cbS {rc : List V → Hp → VK → Prop} {ta : TA} (h : EvSR K ta ρ ds) (hr : RcS K rc ds d) : EvD K (tCB rc ta) ρ d := fun G0 H0 G H σ Q s k =>
  h G0 H0 G H σ _ s fun vs G1 H1 g1 r1 => hr H1 vs Q r1 fun v r2 => k v G1 H1 g1 (r2 G1)
theorem en_cb {rc : List V → Hp → VK → Prop} {ta : TA} (h : EvS K ta ρ ds) (hr : RcN K rc ds es) : EvN K (tCB rc ta) ρ es := fun G0 H0 G H σ Q s k =>
  h G0 H0 G H σ _ s fun vs G1 H1 g1 r1 => hr G1 H1 vs Q g1.gh r1 fun l ws G2 H2 g2 hl r2 => k l ws G2 H2 (g1.trans g2) hl r2
/-! ### chains -/
def RvB (K : PySem.W.Frag) (r : R2) (a b : D) (p : Bool) : Prop := RvS K r a b (.bl p)
theorem ev_chain {r r' : R2} (ha : EvD K ta ρ a) (hb : EvD K tb ρ b) (hr : RvS K r a b (.bl p)) (hc : p = true → EvD K tc ρ c) (hr' : p = true → RvS K r' b c (.bl q)) : EvD K (tChain r r' ta tb tc) ρ (.bl (p && q)) := fun G0 H0 G H σ Q s k =>
  ha G0 H0 G H σ _ s fun x G1 H1 g1 r1 => hb G0 H0 G1 H1 σ _ (s.step g1) fun y G2 H2 g2 r2 => hr H2 x y _ (r1.mono (g2.gg.trans g2.gh)) (r2.mono g2.gh) fun v r3 => by
    have r3 := r3 G2
    cases r3
    refine ⟨p, rfl, ?_⟩
    cases p with
    | true =>
      show tc σ H2 _
      refine hc rfl G0 H0 G2 H2 σ _ (s.step (g1.trans g2)) fun z G3 H3 g3 r4 => hr' rfl H3 y z Q (r2.mono (g3.gg.trans g3.gh)) (r4.mono g3.gh) fun v r5 => k v G3 H3 ((g1.trans g2).trans g3) (r5 G3)
    | false =>
      show Q (.bl false) H2
      exact k _ G2 H2 (g1.trans g2) (.bl false)
end

/-! ### statements -/
inductive Out where
  | nx (ρ : Rho) | rt (d : D) | bk (ρ : Rho) | ct (ρ : Rho)
def Post (K : PySem.W.Frag) (G0 H0 G : Hp) (W : Ends) : Out → Prop
  | .nx ρ' => ∀ G' H' σ', Ex G G' → Sl K G0 H0 G' H' σ' ρ' → W.nx σ' H'
  | .rt d => ∀ v G' H', Go G0 H0 G' H' → Rp K G' v d → W.rt v H'
  | .bk ρ' => ∀ G' H' σ', Ex G G' → Sl K G0 H0 G' H' σ' ρ' → W.bk σ' H'
  | .ct ρ' => ∀ G' H' σ', Ex G G' → Sl K G0 H0 G' H' σ' ρ' → W.ct σ' H'
def StD (K : PySem.W.Frag) (t : TS) (ρ : Rho) (o : Out) : Prop := ∀ G0 H0 G H σ (W : Ends), Sl K G0 H0 G H σ ρ → Post K G0 H0 G W o → t W σ H
section
variable {K : PySem.W.Frag} {ρ ρ' : Rho} {ta tb tc te : TE} {a b c d : D} {ds es : List D} {t u : TS} {o : Out} {c : TT} {p : Bool} {i : Nat}
theorem Post.mono {G0 H0 G G1 : Hp} {W : Ends} {o : Out} (e : Ex G G1) (h : Post K G0 H0 G W o) : Post K G0 H0 G1 W o := by
  cases o with
  | nx ρ' => exact fun G' H' σ' e1 s => h G' H' σ' (e.trans e1) s
  | rt d => exact h
  | bk ρ' => exact fun G' H' σ' e1 s => h G' H' σ' (e.trans e1) s
  | ct ρ' => exact fun G' H' σ' e1 s => h G' H' σ' (e.trans e1) s
theorem sd_seq (h1 : StD K t ρ (.nx ρ')) (h2 : StD K u ρ' o) : StD K (tSeq t u) ρ o := fun G0 H0 G H σ W s k =>
  h1 G0 H0 G H σ { W with nx := u W } s fun G' H' σ' e s' => h2 G0 H0 G' H' σ' W s' (k.mono e)
theorem sd_seqR (h1 : StD K t ρ (.rt d)) : StD K (tSeq t u) ρ (.rt d) := fun G0 H0 G H σ W s k => h1 G0 H0 G H σ { W with nx := u W } s k
theorem sd_seqB (h1 : StD K t ρ (.bk ρ')) : StD K (tSeq t u) ρ (.bk ρ') := fun G0 H0 G H σ W s k => h1 G0 H0 G H σ { W with nx := u W } s k
theorem sd_seqC (h1 : StD K t ρ (.ct ρ')) : StD K (tSeq t u) ρ (.ct ρ') := fun G0 H0 G H σ W s k => h1 G0 H0 G H σ { W with nx := u W } s k
theorem sd_next : StD K tNext ρ (.nx ρ) := fun G0 H0 G H σ W s k => k G H σ (Ex.refl G) s
theorem sd_brk : StD K tBreak ρ (.bk ρ) := fun G0 H0 G H σ W s k => k G H σ (Ex.refl G) s
theorem sd_cont : StD K tCont ρ (.ct ρ) := fun G0 H0 G H σ W s k => k G H σ (Ex.refl G) s
theorem sd_asg (h : EvD K te ρ d) : StD K (tAsg te (gName i)) ρ (.nx (ρ.set i (some (.dat d)))) := fun G0 H0 G H σ W s k =>
  h G0 H0 G H σ _ s fun v G1 H1 g1 r1 => k G1 H1 _ g1.gg ((s.step g1).set r1)
theorem sd_asgN (h : EvN K te ρ ds) : StD K (tAsg te (gName i)) ρ (.nx (ρ.set i (some (.own ds)))) := fun G0 H0 G H σ W s k =>
  h G0 H0 G H σ _ s fun l vs G1 H1 g1 hl r1 => k G1 _ _ g1.gg ((s.step g1).setO hl r1)
theorem sd_ret (h : EvD K te ρ d) : StD K (tRet te) ρ (.rt d) := fun G0 H0 G H σ W s k =>
  h G0 H0 G H σ _ s fun v G1 H1 g1 r1 => k v G1 H1 (s.go.trans g1) r1
/-- an own list handed back -/
theorem sd_retO (h : ρ[i]? = some (some (.own ds))) : StD K (tRet (tVar i)) ρ (.rt (.lst ds)) := fun G0 H0 G H σ W s k => by
  obtain ⟨G', _, s'⟩ := s.freeze h
  obtain ⟨v, h1, r1⟩ := s'.dat i (.lst ds) (by rw [List.getElem?_set_self (List.getElem?_eq_some_iff.mp h).1])
  exact ⟨v, h1, k v G' H s'.go r1⟩
theorem sd_retN : StD K tRetN ρ (.rt .non) := fun G0 H0 G H σ W s k => k .non G H s.go .non
theorem sd_drop (h : EvD K te ρ d) : StD K (tDrop te) ρ (.nx ρ) := fun G0 H0 G H σ W s k => h G0 H0 G H σ _ s fun v G1 H1 g1 _ => k G1 H1 σ g1.gg (s.step g1)
theorem sd_if (h : EvB K c ρ p) (h1 : p = true → StD K t ρ o) (h2 : p = false → StD K u ρ o) : StD K (tIfS c t u) ρ o := fun G0 H0 G H σ W s k =>
  h G0 H0 G H σ _ s fun G1 H1 g1 => by
    cases p with
    | true =>
      show t W σ H1
      exact h1 rfl G0 H0 G1 H1 σ W (s.step g1) (k.mono g1.gg)
    | false =>
      show u W σ H1
      exact h2 rfl G0 H0 G1 H1 σ W (s.step g1) (k.mono g1.gg)
theorem sd_T (h : EvB K c ρ true) (h1 : StD K t ρ o) : StD K (tIfS c t u) ρ o := sd_if h (fun _ => h1) (fun z => nomatch z)
theorem sd_F (h : EvB K c ρ false) (h1 : StD K u ρ o) : StD K (tIfS c t u) ρ o := sd_if h (fun z => nomatch z) (fun _ => h1)
theorem sd_ifp (h : EvB K c ρ p) (e : p = true) (k : StD K t ρ o) : StD K (tIfS c t u) ρ o := by subst e; exact sd_T h k
theorem sd_ifn (h : EvB K c ρ p) (e : p = false) (k : StD K u ρ o) : StD K (tIfS c t u) ρ o := by subst e; exact sd_F h k
theorem sd_retI {d' : D} (h : EvD K te ρ d) (e : d = d') : StD K (tRet te) ρ (.rt d') := by subst e; exact sd_ret h
theorem sd_weak {ρ'' : Rho} (h : StD K t ρ (.nx ρ')) (hl : ρ''.length = ρ'.length) (hw : ∀ (i : Nat) (x : S), ρ''[i]? = some (some x) → ρ'[i]? = some (some x)) : StD K t ρ (.nx ρ'') := fun G0 H0 G H σ W s k =>
  h G0 H0 G H σ W s fun G' H' σ' e s' => k G' H' σ' e (s'.weak hl hw)
/-- an own list stands still from here -/
theorem sd_freeze (h : ρ[i]? = some (some (.own ds))) (h1 : StD K t (ρ.set i (some (.dat (.lst ds)))) o) : StD K t ρ o := fun G0 H0 G H σ W s k => by
  obtain ⟨G', e, s'⟩ := s.freeze h
  exact h1 G0 H0 G' H σ W s' (k.mono e)
/-- xs.append(e), xs our own -/
theorem sd_app (h : EvD K te ρ d) (ho : ρ[i]? = some (some (.own ds))) (hz : ds.length < 100000) : StD K (tDrop (tBM K "list" rAppend (tVar i) (tCons te tNil))) ρ (.nx (ρ.set i (some (.own (ds ++ [d]))))) := fun G0 H0 G H σ W s k => by
  obtain ⟨l, vs, h1, h2, h3, h4, h5⟩ := s.own i ds ho
  refine ⟨.ref l, h1, .inl ⟨rfl, vs, .inl (.inl h4)⟩, ?_⟩
  refine h G0 H0 G H σ _ s fun v G1 H1 g1 r1 => ?_
  refine ⟨l, vs, v, rfl, rfl, g1.hh _ _ h4, by rw [h5.length]; exact sz_lt hz, ?_⟩
  exact k G1 _ _ g1.gg ((s.step g1).mut (vs := vs) ho h1 ((h5.mono g1.gg).append (.cons r1 .nil)))
/-- xs[j] = e, xs our own -/
theorem sd_setix {ti : TE} {j : Nat} {k0 : Int} (h : EvD K te ρ d) (hi : EvD K ti ρ (.int k0)) (ho : ρ[i]? = some (some (.own ds))) (hj : ixN ds.length k0 = some j) : StD K (tAsg te (gSub (tVar i) ti rSetL)) ρ (.nx (ρ.set i (some (.own (ds.set j d))))) := fun G0 H0 G H σ W s k => by
  refine h G0 H0 G H σ _ s fun v G1 H1 g1 r1 => ?_
  obtain ⟨l, vs, h1, h2, h3, h4, h5⟩ := (s.step g1).own i ds ho
  refine ⟨.ref l, h1, ?_⟩
  refine hi G0 H0 G1 H1 σ _ (s.step g1) fun w G2 H2 g2 r2 => ?_
  cases r2
  refine ⟨l, vs, k0, j, rfl, rfl, g2.hh _ _ h4, by rw [h5.length]; exact hj, ?_⟩
  exact k G2 _ _ (g1.gg.trans g2.gg) ((s.step (g1.trans g2)).mut (vs := vs) ho h1 (RpA.set (r1.mono g2.gg) j (h5.mono g2.gg)))
/-! ### loops -/
/-- what a turn comes to where the loop goes on -/
def Turn (K : PySem.W.Frag) (t : TS) (ρ : Rho) (ρ' : Rho) : Prop := StD K t ρ (.nx ρ') ∨ StD K t ρ (.ct ρ')
theorem Turn.run (h : Turn K t ρ ρ') {G0 H0 G H : Hp} {σ : L2.St} {W : Ends} {N : L2.St → Hp → Prop} (s : Sl K G0 H0 G H σ ρ) (k : ∀ G' H' σ', Ex G G' → Sl K G0 H0 G' H' σ' ρ' → N σ' H') : t { W with nx := N, ct := N, bk := W.nx } σ H := by
  rcases h with h | h
  · exact h G0 H0 G H σ { W with nx := N, ct := N, bk := W.nx } s k
  · exact h G0 H0 G H σ { W with nx := N, ct := N, bk := W.nx } s k
/-- the turns n of a loop over ds whose slots ahead of the turn are P n; it leaves in turn m, or runs through -/
def Runs (K : PySem.W.Frag) (t : TS) (j : Nat) (ds : List D) (P : Nat → Rho) (m : Nat) : Prop := ∀ (n : Nat) (d : D), n < m → ds[n]? = some d → Turn K t ((P n).set j (some (.dat d))) (P (n + 1))
/-- how a loop ends that leaves in turn m -/
inductive Leaves (K : PySem.W.Frag) (t : TS) (ρ : Rho) : Out → Prop
  | rt {d : D} : StD K t ρ (.rt d) → Leaves K t ρ (.rt d)
  | bk {ρ' : Rho} : StD K t ρ (.bk ρ') → Leaves K t ρ (.nx ρ')
theorem Leaves.run (h : Leaves K t ρ o) {G0 H0 G H : Hp} {σ : L2.St} {W : Ends} {N : L2.St → Hp → Prop} (s : Sl K G0 H0 G H σ ρ) (k : Post K G0 H0 G W o) : t { W with nx := N, ct := N, bk := W.nx } σ H := by
  cases h with
  | rt h => exact h G0 H0 G H σ { W with nx := N, ct := N, bk := W.nx } s k
  | bk h => exact h G0 H0 G H σ { W with nx := N, ct := N, bk := W.nx } s k
/-- for x in e, over a list that stands still -/
theorem sd_forL {j : Nat} (he : EvD K te ρ (.lst ds)) (P : Nat → Rho) (h0 : P 0 = ρ) (hs : Runs K t j ds P ds.length) : StD K (tFor (iList K te) (gName j) t) ρ (.nx (P ds.length)) := fun G0 H0 G H σ W s k =>
  he G0 H0 G H σ _ s fun v G1 H1 g1 r1 => by
    cases r1 with
    | lst hl ra =>
      rename_i a vs
      refine ⟨a, rfl, ⟨vs, ex_l g1.gh hl⟩, for_list (xs := vs) (fun n σ' H' => ∃ G', Ex G1 G' ∧ Sl K G0 H0 G' H' σ' (P n)) ⟨G1, Ex.refl _, by rw [h0]; exact s.step g1⟩ (fun n σ' H' _ ⟨G', e, s'⟩ => ex_l (e.trans s'.gh) hl) ?_ ?_⟩
      · rintro n x σ' H' hx ⟨G', e, s'⟩
        obtain ⟨d, hd, rd⟩ := ra.getV hx
        exact (hs n d (List.getElem?_eq_some_iff.mp hd).1 hd).run (s'.set (i := j) (rd.mono e)) fun G2 H2 σ2 e2 s2 => ⟨G2, e.trans e2, s2⟩
      · rintro σ' H' ⟨G', e, s'⟩
        rw [ra.length] at s'
        exact k G' H' σ' (g1.gg.trans e) s'
theorem sd_forLx {j m : Nat} {d : D} (he : EvD K te ρ (.lst ds)) (P : Nat → Rho) (h0 : P 0 = ρ) (hs : Runs K t j ds P m) (hm : ds[m]? = some d) (hx : Leaves K t ((P m).set j (some (.dat d))) o) : StD K (tFor (iList K te) (gName j) t) ρ o := fun G0 H0 G H σ W s k =>
  he G0 H0 G H σ _ s fun v G1 H1 g1 r1 => by
    cases r1 with
    | lst hl ra =>
      rename_i a vs
      have ml : m < ds.length := (List.getElem?_eq_some_iff.mp hm).1
      refine ⟨a, rfl, ⟨vs, ex_l g1.gh hl⟩, for_list (xs := vs) (fun n σ' H' => n ≤ m ∧ ∃ G', Ex G1 G' ∧ Sl K G0 H0 G' H' σ' (P n)) ⟨Nat.zero_le _, G1, Ex.refl _, by rw [h0]; exact s.step g1⟩ (fun n σ' H' _ ⟨_, G', e, s'⟩ => ex_l (e.trans s'.gh) hl) ?_ ?_⟩
      · rintro n x σ' H' hx2 ⟨hn, G', e, s'⟩
        obtain ⟨d', hd, rd⟩ := ra.getV hx2
        by_cases hnm : n < m
        · exact (hs n d' hnm hd).run (s'.set (i := j) (rd.mono e)) fun G2 H2 σ2 e2 s2 => ⟨hnm, G2, e.trans e2, s2⟩
        · have en : n = m := by omega
          subst en
          rw [hm] at hd
          cases hd
          exact hx.run (s'.set (i := j) (rd.mono e)) (k.mono (g1.gg.trans e))
      · rintro σ' H' ⟨hn, _⟩
        rw [ra.length] at hn
        omega
/-- .. over a tuple -/
theorem sd_forT {j : Nat} (he : EvD K te ρ (.tup ds)) (P : Nat → Rho) (h0 : P 0 = ρ) (hs : Runs K t j ds P ds.length) : StD K (tFor (iTup K te) (gName j) t) ρ (.nx (P ds.length)) := fun G0 H0 G H σ W s k =>
  he G0 H0 G H σ _ s fun v G1 H1 g1 r1 => by
    cases r1 with
    | tup hl ra =>
      rename_i a vs
      refine ⟨a, rfl, ⟨vs, ex_t g1.gh hl⟩, for_tup (xs := vs) (fun n σ' H' => ∃ G', Ex G1 G' ∧ Sl K G0 H0 G' H' σ' (P n)) ⟨G1, Ex.refl _, by rw [h0]; exact s.step g1⟩ (fun n σ' H' _ ⟨G', e, s'⟩ => ex_t (e.trans s'.gh) hl) ?_ ?_⟩
      · rintro n x σ' H' hx ⟨G', e, s'⟩
        obtain ⟨d, hd, rd⟩ := ra.getV hx
        exact (hs n d (List.getElem?_eq_some_iff.mp hd).1 hd).run (s'.set (i := j) (rd.mono e)) fun G2 H2 σ2 e2 s2 => ⟨G2, e.trans e2, s2⟩
      · rintro σ' H' ⟨G', e, s'⟩
        rw [ra.length] at s'
        exact k G' H' σ' (g1.gg.trans e) s'
theorem sd_forTx {j m : Nat} {d : D} (he : EvD K te ρ (.tup ds)) (P : Nat → Rho) (h0 : P 0 = ρ) (hs : Runs K t j ds P m) (hm : ds[m]? = some d) (hx : Leaves K t ((P m).set j (some (.dat d))) o) : StD K (tFor (iTup K te) (gName j) t) ρ o := fun G0 H0 G H σ W s k =>
  he G0 H0 G H σ _ s fun v G1 H1 g1 r1 => by
    cases r1 with
    | tup hl ra =>
      rename_i a vs
      have ml : m < ds.length := (List.getElem?_eq_some_iff.mp hm).1
      refine ⟨a, rfl, ⟨vs, ex_t g1.gh hl⟩, for_tup (xs := vs) (fun n σ' H' => n ≤ m ∧ ∃ G', Ex G1 G' ∧ Sl K G0 H0 G' H' σ' (P n)) ⟨Nat.zero_le _, G1, Ex.refl _, by rw [h0]; exact s.step g1⟩ (fun n σ' H' _ ⟨_, G', e, s'⟩ => ex_t (e.trans s'.gh) hl) ?_ ?_⟩
      · rintro n x σ' H' hx2 ⟨hn, G', e, s'⟩
        obtain ⟨d', hd, rd⟩ := ra.getV hx2
        by_cases hnm : n < m
        · exact (hs n d' hnm hd).run (s'.set (i := j) (rd.mono e)) fun G2 H2 σ2 e2 s2 => ⟨hnm, G2, e.trans e2, s2⟩
        · have en : n = m := by omega
          subst en
          rw [hm] at hd
          cases hd
          exact hx.run (s'.set (i := j) (rd.mono e)) (k.mono (g1.gg.trans e))
      · rintro σ' H' ⟨hn, _⟩
        rw [ra.length] at hn
        omega
/-- for k in range(n) -/
def RunsR (K : PySem.W.Frag) (t : TS) (j : Nat) (P : Nat → Rho) (m : Nat) : Prop := ∀ n : Nat, n < m → Turn K t ((P n).set j (some (.dat (.int (n : Int))))) (P (n + 1))
theorem sd_forR {j : Nat} {ta : TA} {n : Int} (he : EvS K ta ρ [.int n]) (hn : n ≤ 1000000) (h62 : -1000000 ≤ n) (P : Nat → Rho) (h0 : P 0 = ρ) (hs : RunsR K t j P n.toNat) : StD K (tFor (iRng1 ta) (gName j) t) ρ (.nx (P n.toNat)) := fun G0 H0 G H σ W s k =>
  he G0 H0 G H σ _ s fun vs G1 H1 g1 r1 => by
    cases r1 with
    | cons r2 r3 =>
      cases r2
      cases r3
      refine ⟨n, rfl, by omega, by omega, for_range (lo := 0) (n := n.toNat) (fun i σ' H' => ∃ G', Ex G1 G' ∧ Sl K G0 H0 G' H' σ' (P i)) ⟨G1, Ex.refl _, by rw [h0]; exact s.step g1⟩ ?_ ?_⟩
      · rintro i σ' H' hi ⟨G', e, s'⟩
        have e0 : (0 : Int) + (i : Int) = (i : Int) := Int.zero_add _
        show t { W with nx := _, ct := _, bk := W.nx } (σ'.set j (some (.int ((0 : Int) + (i : Int))))) H'
        rw [e0]
        exact (hs i hi).run (s'.set (i := j) (.int _)) fun G2 H2 σ2 e2 s2 => ⟨G2, e.trans e2, s2⟩
      · rintro σ' H' ⟨G', e, s'⟩
        exact k G' H' σ' (g1.gg.trans e) s'
theorem sd_forRx {j m : Nat} {ta : TA} {n : Int} (he : EvS K ta ρ [.int n]) (hn : n ≤ 1000000) (h62 : -1000000 ≤ n) (P : Nat → Rho) (h0 : P 0 = ρ) (hs : RunsR K t j P m) (hm : m < n.toNat) (hx : Leaves K t ((P m).set j (some (.dat (.int (m : Int))))) o) : StD K (tFor (iRng1 ta) (gName j) t) ρ o := fun G0 H0 G H σ W s k =>
  he G0 H0 G H σ _ s fun vs G1 H1 g1 r1 => by
    cases r1 with
    | cons r2 r3 =>
      cases r2
      cases r3
      refine ⟨n, rfl, by omega, by omega, for_range (lo := 0) (n := n.toNat) (fun i σ' H' => i ≤ m ∧ ∃ G', Ex G1 G' ∧ Sl K G0 H0 G' H' σ' (P i)) ⟨Nat.zero_le _, G1, Ex.refl _, by rw [h0]; exact s.step g1⟩ ?_ ?_⟩
      · rintro i σ' H' hi ⟨hn2, G', e, s'⟩
        have e0 : (0 : Int) + (i : Int) = (i : Int) := Int.zero_add _
        show t { W with nx := _, ct := _, bk := W.nx } (σ'.set j (some (.int ((0 : Int) + (i : Int))))) H'
        rw [e0]
        by_cases hnm : i < m
        · exact (hs i hnm).run (s'.set (i := j) (.int _)) fun G2 H2 σ2 e2 s2 => ⟨hnm, G2, e.trans e2, s2⟩
        · have en : i = m := by omega
          subst en
          exact hx.run (s'.set (i := j) (.int _)) (k.mono (g1.gg.trans e))
      · rintro σ' H' ⟨hn2, _⟩
        omega
end
end Ax

namespace Ax
open PySem PySem.Spec PyProof.Rows L2 Evl

/-! ### data for == -/
mutual
def D.py : D → PyData
  | .non => .none | .bl b => .bool b | .int i => .int i | .str x => .str x
  | .tup ds => .tuple (D.pys ds) | .lst ds => .list (D.pys ds) | .ins _ _ => .none | .cls _ => .none
def D.pys : List D → List PyData
  | [] => []
  | d :: ds => D.py d :: D.pys ds
end
mutual
def D.sh : D → Bool
  | .non | .bl _ | .int _ => true
  | .str x => PyData.strOk x
  | .tup ds | .lst ds => D.shs ds
  | .ins _ _ | .cls _ => false
def D.shs : List D → Bool
  | [] => true
  | d :: ds => D.sh d && D.shs ds
end
mutual
def D.dep : D → Nat
  | .non | .bl _ | .int _ | .str _ | .ins _ _ | .cls _ => 0
  | .tup ds | .lst ds => D.deps ds + 1
def D.deps : List D → Nat
  | [] => 0
  | d :: ds => max (D.dep d) (D.deps ds)
end
def D.ok (d : D) : Prop := D.sh d = true ∧ D.dep d ≤ 60
section
variable {K : PySem.W.Frag} {H : Hp}
mutual
theorem Rp.dp : ∀ {v : V} {d : D}, Rp K H v d → D.sh d = true → Dp K H v d.py
  | _, _, .non, _ => .non
  | _, _, .bl b, _ => .bl b
  | _, _, .int b, _ => .int b
  | _, _, .str b, _ => .str b
  | _, _, .tup h a, e => .tup h (RpA.dp a e)
  | _, _, .lst h a, e => .lst h (RpA.dp a e)
  | _, _, .ins h a, e => nomatch e
  | _, _, .cls v, e => nomatch e
theorem RpA.dp : ∀ {v : List V} {d : List D}, RpA K H v d → D.shs d = true → DpAll K H v (D.pys d)
  | _, _, .nil, _ => .nil
  | _, _, .cons h a, e => .cons (Rp.dp h (Bool.and_eq_true_iff.mp e).1) (RpA.dp a (Bool.and_eq_true_iff.mp e).2)
end
end
mutual
theorem D.lay : ∀ d : D, D.sh d = true → d.py.canLay0 = true
  | .non, _ => rfl
  | .bl _, _ => rfl
  | .int _, _ => rfl
  | .str x, h => h
  | .tup ds, h => D.lays ds h
  | .lst ds, h => D.lays ds h
  | .ins _ _, h => nomatch h
  | .cls _, h => nomatch h
theorem D.lays : ∀ d : List D, D.shs d = true → PyData.canLayAll0 (D.pys d) = true
  | [], _ => rfl
  | d :: ds, h => by
    have h1 := D.lay d (Bool.and_eq_true_iff.mp h).1
    have h2 := D.lays ds (Bool.and_eq_true_iff.mp h).2
    show (PyData.canLay0 (D.py d) && PyData.canLayAll0 (D.pys ds)) = true
    rw [h1, h2] <;> rfl
end
mutual
theorem D.pydep : ∀ d : D, d.py.depth = d.dep
  | .non => rfl
  | .bl _ => rfl
  | .int _ => rfl
  | .str x => rfl
  | .tup ds => by
    show PyData.depthAll (D.pys ds) + 1 = D.deps ds + 1
    rw [D.pydeps ds]
  | .lst ds => by
    show PyData.depthAll (D.pys ds) + 1 = D.deps ds + 1
    rw [D.pydeps ds]
  | .ins _ _ => rfl
  | .cls _ => rfl
theorem D.pydeps : ∀ d : List D, PyData.depthAll (D.pys d) = D.deps d
  | [] => rfl
  | d :: ds => by
    show max (PyData.depth (D.py d)) (PyData.depthAll (D.pys ds)) = max (D.dep d) (D.deps ds)
    rw [D.pydep d, D.pydeps ds]
end
theorem D.ok.shaped {d : D} (h : d.ok) : SeqAt.shaped d.py = true := by
  unfold SeqAt.shaped
  rw [D.lay d h.1, D.pydep d, decide_eq_true (by have := h.2; omega)] <;> rfl
theorem shs_all : ∀ ds : List D, (∀ d ∈ ds, D.sh d = true) → D.shs ds = true
  | [], _ => rfl
  | d :: ds, h => by
    show (D.sh d && D.shs ds) = true
    rw [h d List.mem_cons_self, shs_all ds fun x hx => h x (List.mem_cons_of_mem _ hx)] <;> rfl
theorem deps_all {n : Nat} : ∀ ds : List D, (∀ d ∈ ds, D.dep d ≤ n) → D.deps ds ≤ n
  | [], _ => Nat.zero_le _
  | d :: ds, h => by
    show max (D.dep d) (D.deps ds) ≤ n
    have h1 := h d List.mem_cons_self
    have h2 := deps_all ds fun x hx => h x (List.mem_cons_of_mem _ hx)
    omega
def eqD (a b : D) : Bool := PyData.eqv a.py b.py
mutual
theorem eqv_self : ∀ d : PyData, PyData.canLay0 d = true → PyData.eqv d d = true
  | .none, _ => rfl
  | .bool b, _ => by show (b == b) = true; exact beq_self_eq_true b
  | .int i, _ => by show (i == i) = true; exact beq_self_eq_true i
  | .str x, _ => by show (x == x) = true; exact beq_self_eq_true x
  | .list xs, h => eqvs_self xs h
  | .tuple xs, h => eqvs_self xs h
  | .dict _, h => nomatch h
theorem eqvs_self : ∀ d : List PyData, PyData.canLayAll0 d = true → PyData.eqvAll d d = true
  | [], _ => rfl
  | x :: xs, h => by
    show (PyData.eqv x x && PyData.eqvAll xs xs) = true
    have h' : (PyData.canLay0 x && PyData.canLayAll0 xs) = true := h
    rw [eqv_self x (Bool.and_eq_true_iff.mp h').1, eqvs_self xs (Bool.and_eq_true_iff.mp h').2] <;> rfl
end
theorem eqD_self {d : D} (h : D.sh d = true) : eqD d d = true := eqv_self _ (D.lay d h)
theorem eqD_int (i j : Int) : eqD (.int i) (.int j) = (i == j) := rfl
theorem eqD_str (i j : Str) : eqD (.str i) (.str j) = (i == j) := rfl
theorem eqD_bl (i j : Bool) : eqD (.bl i) (.bl j) = (i == j) := rfl
theorem ok_int (i : Int) : D.ok (.int i) := ⟨rfl, Nat.zero_le _⟩
theorem ok_bl (i : Bool) : D.ok (.bl i) := ⟨rfl, Nat.zero_le _⟩
theorem ok_non : D.ok .non := ⟨rfl, Nat.zero_le _⟩
theorem ok_str {x : Str} (h : PyData.strOk x = true) : D.ok (.str x) := ⟨h, Nat.zero_le _⟩

/-! ### operations on values -/
section
variable {K : PySem.W.Frag} {a b d : D} {i j : Int} {as bs : List D}
theorem rs_eq (ha : a.ok) (hb : b.ok) : RvS K (rEqD K) a b (.bl (eqD a b)) := fun H x y Q rx ry k =>
  ⟨a.py, b.py, rx.dp ha.1, ry.dp hb.1, ha.shaped, hb.shaped, k _ fun _ => .bl _⟩
theorem rs_ne (ha : a.ok) (hb : b.ok) : RvS K (rNeD K) a b (.bl (!eqD a b)) := fun H x y Q rx ry k =>
  ⟨a.py, b.py, rx.dp ha.1, ry.dp hb.1, ha.shaped, hb.shaped, k _ fun _ => .bl _⟩
theorem rs_I0 {g : Int → Int → Int} : RvS K (rI0 fun i j => .int (g i j)) (.int i) (.int j) (.int (g i j)) := fun H x y Q rx ry k => by
  cases rx; cases ry; exact ⟨i, j, rfl, rfl, k _ fun _ => .int _⟩
theorem rs_I0b {g : Int → Int → Bool} : RvS K (rI0 fun i j => .bl (g i j)) (.int i) (.int j) (.bl (g i j)) := fun H x y Q rx ry k => by
  cases rx; cases ry; exact ⟨i, j, rfl, rfl, k _ fun _ => .bl _⟩
theorem rs_I {C : Int → Int → Prop} {g : Int → Int → Int} (hc : C i j) : RvS K (rI C fun i j => .int (g i j)) (.int i) (.int j) (.int (g i j)) := fun H x y Q rx ry k => by
  cases rx; cases ry; exact ⟨i, j, rfl, rfl, hc, k _ fun _ => .int _⟩
def rAddS : R2 := fun x y H Q => ∃ i j, x = .str i ∧ y = .str j ∧ i.length + j.length ≤ sizeLine ∧ Q (.str (i ++ j)) H
/-- + of ints, texts, tuples, lists -/
def rPlus (K : PySem.W.Frag) : R2 := fun x y H Q => (rI0 (fun i j => .int (i + j)) x y H Q ∨ rAddS x y H Q) ∨ (rCatA K x y H Q ∨ rCat x y H Q)
theorem op_plus {X : Cx} : OpR X (binaryOp .Add) (rPlus X.K) := (op_add.or op_add_str).or (op_catA.or op_cat)
theorem rs_plusI : RvS K (rPlus K) (.int i) (.int j) (.int (i + j)) := fun H x y Q rx ry k => .inl (.inl (rs_I0 (K := K) (g := fun i j => i + j) H x y Q rx ry k))
theorem rs_plusS {x y : Str} (h : x.length + y.length ≤ 100000) : RvS K (rPlus K) (.str x) (.str y) (.str (x ++ y)) := fun H v w Q rx ry k => by
  cases rx; cases ry
  exact .inl (.inr ⟨x, y, rfl, rfl, sz_of h, k _ fun _ => .str _⟩)
theorem rd_plusT (h : as.length + bs.length ≤ 100000) : RvD K (rPlus K) (.tup as) (.tup bs) (.tup (as ++ bs)) := fun G H x y Q e rx ry k => by
  cases rx with
  | tup h1 a1 =>
    cases ry with
    | tup h2 a2 =>
      rename_i p xs q ys
      refine .inr (.inl ⟨p, q, xs, ys, rfl, rfl, ex_t e h1, ex_t e h2, ?_, ?_, ?_, ?_⟩)
      · rw [a1.length, a2.length]; exact sz_of h
      · intro z
        subst z
        cases a1
        exact k _ G H (Go.refl e) (.tup h2 a2)
      · intro _ z
        subst z
        cases a2
        exact k _ G H (Go.refl e) (by rw [List.append_nil]; exact .tup h1 a1)
      · intro _ _ r hr
        have n := Go.new (o := .tup (xs ++ ys)) e hr
        exact k _ _ _ n (.tup (.inl (.inl upd_same)) ((a1.append a2).mono n.gg))
theorem RvS.toD {r : R2} (h : RvS K r a b d) : RvD K r a b d := fun G H x y Q e rx ry k => h H x y Q (rx.mono e) (ry.mono e) fun v rv => k v G H (Go.refl e) (rv G)
/-! ### indexing -/
theorem atI_rp {H : Hp} {vs : List V} (r : RpA K H vs as) (h : atI as i = some d) : ∃ v, atI vs i = some v ∧ Rp K H v d := by
  unfold atI at h ⊢
  rw [r.length]
  cases q : ixN as.length i with
  | none => rw [q] at h; cases h
  | some j =>
    rw [q] at h
    obtain ⟨v, h1, h2⟩ := r.get (i := j) (d := d) h
    exact ⟨v, h1, h2⟩
theorem rd_ixT (h : atI as i = some d) : RvD K (rIx K) (.tup as) (.int i) d := fun G H x y Q e rx ry k => by
  cases ry
  cases rx with
  | tup h1 a1 =>
    obtain ⟨v, q1, q2⟩ := atI_rp a1 h
    exact .inr (.inl ⟨_, _, i, v, rfl, rfl, ex_t e h1, q1, k v G H (Go.refl e) q2⟩)
theorem rd_ixL (h : atI as i = some d) : RvD K (rIx K) (.lst as) (.int i) d := fun G H x y Q e rx ry k => by
  cases ry
  cases rx with
  | lst h1 a1 =>
    obtain ⟨v, q1, q2⟩ := atI_rp a1 h
    exact .inl ⟨_, _, i, v, rfl, rfl, ex_l e h1, q1, k v G H (Go.refl e) q2⟩
theorem rs_ixS {z : Str} {c : Nat} (hz : z.length ≤ 100000) (h : atI z.cps.toList i = some c) : RvS K (rIx K) (.str z) (.int i) (.str ⟨#[c]⟩) := fun H x y Q rx ry k => by
  cases rx; cases ry
  exact .inr (.inr ⟨z, i, c, rfl, rfl, sz_of hz, h, k _ fun _ => .str _⟩)
theorem atI_of {α : Type} {xs : List α} {x : α} (h0 : 0 ≤ i) (h : xs[i.toNat]? = some x) : atI xs i = some x := by
  have hl := (List.getElem?_eq_some_iff.mp h).1
  unfold atI ixN
  rw [if_pos h0, if_pos (by omega)]
  exact h
theorem atI_neg1 {α : Type} {xs : List α} {x : α} (h : xs.getLast? = some x) : atI xs (-1) = some x := by
  have hl : xs ≠ [] := fun z => by rw [z] at h; cases h
  have h0 : 0 < xs.length := List.length_pos_iff.mpr hl
  unfold atI ixN
  rw [if_neg (by decide), if_pos (by omega)]
  show xs[((-1 : Int) + (xs.length : Int)).toNat]? = some x
  rw [show ((-1 : Int) + (xs.length : Int)).toNat = xs.length - 1 by omega, ← List.getLast?_eq_getElem?]
  exact h
variable {ρ : Rho} {n : Nat} {tb : TE}
/-- an item of an own list -/
theorem ev_ixO (hb : EvD K tb ρ (.int i)) (ho : ρ[n]? = some (some (.own as))) (h : atI as i = some d) : EvD K (tOp (rIx K) (tVar n) tb) ρ d := fun G0 H0 G H σ Q s k => by
  obtain ⟨l, vs, h1, h2, h3, h4, h5⟩ := s.own n as ho
  refine ⟨.ref l, h1, ?_⟩
  refine hb G0 H0 G H σ _ s fun y G1 H1 g1 r1 => ?_
  cases r1
  obtain ⟨v, q1, q2⟩ := atI_rp (h5.mono g1.gg) h
  exact .inl ⟨l, vs, i, v, rfl, rfl, .inl (.inl (g1.hh _ _ h4)), q1, k v G1 H1 g1 q2⟩
/-! ### built-ins -/
theorem rs_int1 : RcS K (fun xs H Q => (∃ i, xs = [.int i] ∧ Q (.int i) H) ∨ ∃ k, xs = [.bl k] ∧ Q (.int (if k then 1 else 0)) H) [.int i] (.int i) := fun H vs Q r k => by
  cases r with
  | cons r1 r2 =>
    cases r1; cases r2
    exact .inl ⟨i, rfl, k _ fun _ => .int _⟩
theorem rs_intB {p : Bool} : RcS K (fun xs H Q => (∃ i, xs = [.int i] ∧ Q (.int i) H) ∨ ∃ k, xs = [.bl k] ∧ Q (.int (if k then 1 else 0)) H) [.bl p] (.int (if p then 1 else 0)) := fun H vs Q r k => by
  cases r with
  | cons r1 r2 =>
    cases r1; cases r2
    exact .inr ⟨p, rfl, k _ fun _ => .int _⟩
def rLen (K : PySem.W.Frag) : List V → Hp → VK → Prop := fun xs H Q => ∃ x n, xs = [x] ∧ LenV K x H n ∧ Q (.int n) H
theorem call_lenA {X : Cx} : CallR X (.builtin "len") (rLen X.K) := call_len
theorem rs_lenL : RcS K (rLen K) [.lst as] (.int as.length) := fun H vs Q r k => by
  cases r with
  | cons r1 r2 =>
    cases r2
    cases r1 with
    | lst h a =>
      exact ⟨_, _, rfl, .inl ⟨_, h, rfl⟩, k _ fun _ => by rw [a.length]; exact .int _⟩
theorem rs_lenT : RcS K (rLen K) [.tup as] (.int as.length) := fun H vs Q r k => by
  cases r with
  | cons r1 r2 =>
    cases r2
    cases r1 with
    | tup h a =>
      exact ⟨_, _, rfl, .inr ⟨_, h, rfl⟩, k _ fun _ => by rw [a.length]; exact .int _⟩
theorem rs_lenS {z : Str} (hz : z.length ≤ 100000) : RcS K (rLen K) [.str z] (.int z.length) := fun H vs Q r k => by
  cases r with
  | cons r1 r2 =>
    cases r1; cases r2
    exact ⟨_, _, rfl, ⟨sz_of hz, rfl⟩, k _ fun _ => .int _⟩
theorem rs_sum {ns : List Int} : RcS K (rSum K) [.lst (ns.map .int)] (.int ns.sum) := fun H vs Q r k => by
  cases r with
  | cons r1 r2 =>
    cases r2
    cases r1 with
    | lst h a =>
      rw [a.ints_inv] at h
      exact ⟨_, ns, rfl, h, k _ fun _ => .int _⟩
def rMax2 : List V → Hp → VK → Prop := fun xs H Q => ∃ i j, xs = [.int i, .int j] ∧ Q (.int (if j > i then j else i)) H
theorem rs_max2 : RcS K rMax2 [.int i, .int j] (.int (max i j)) := fun H vs Q r k => by
  cases r with
  | cons r1 r2 =>
    cases r1
    cases r2 with
    | cons r3 r4 =>
      cases r3; cases r4
      refine ⟨i, j, rfl, ?_⟩
      have e : (if j > i then j else i) = max i j := by
        split <;> omega
      rw [e]
      exact k _ fun _ => .int _
def rTupOf (K : PySem.W.Frag) : List V → Hp → VK → Prop := fun xs H Q => ∃ p ys, xs = [.ref p] ∧ ((SqL K H p ys ∧ ∀ l, H l = none → Q (.ref l) (upd H l (.tup ys))) ∨ (SqT K H p ys ∧ Q (.ref p) H))
theorem rd_tupL : RcD K (rTupOf K) [.lst as] (.tup as) := fun G H vs Q e r k => by
  cases r with
  | cons r1 r2 =>
    cases r2
    cases r1 with
    | lst h a =>
      rename_i q ys
      refine ⟨_, _, rfl, .inl ⟨ex_l e h, fun l hl => ?_⟩⟩
      have n := Go.new (o := .tup ys) e hl
      exact k _ _ _ n (.tup (.inl (.inl upd_same)) (a.mono n.gg))
theorem rd_tupT : RcD K (rTupOf K) [.tup as] (.tup as) := fun G H vs Q e r k => by
  cases r with
  | cons r1 r2 =>
    cases r2
    cases r1 with
    | tup h a => exact ⟨_, _, rfl, .inr ⟨ex_t e h, k _ G H (Go.refl e) (.tup h a)⟩⟩
/-- tuple(xs), xs our own -/
theorem ev_tupO (ho : ρ[n]? = some (some (.own as))) : EvD K (tCB (rTupOf K) (tCons (tVar n) tNil)) ρ (.tup as) := fun G0 H0 G H σ Q s k => by
  obtain ⟨l, vs, h1, h2, h3, h4, h5⟩ := s.own n as ho
  refine ⟨.ref l, h1, l, vs, rfl, .inl ⟨.inl (.inl h4), fun p hp => ?_⟩⟩
  have g := Go.new (o := .tup vs) s.gh hp
  exact k _ _ _ g (.tup (.inl (.inl upd_same)) (h5.mono g.gg))
def rLstOf (K : PySem.W.Frag) : List V → Hp → VK → Prop := fun xs H Q => ∃ p ys, xs = [.ref p] ∧ (SqL K H p ys ∨ SqT K H p ys) ∧ ∀ l, H l = none → Q (.ref l) (upd H l (.lst ys))
theorem rn_lstL : RcN K (rLstOf K) [.lst as] as := fun G H vs Q e r k => by
  cases r with
  | cons r1 r2 =>
    cases r2
    cases r1 with
    | lst h a => exact ⟨_, _, rfl, .inl (ex_l e h), fun l hl => k l _ G H (Go.refl e) hl a⟩
theorem rn_lstT : RcN K (rLstOf K) [.tup as] as := fun G H vs Q e r k => by
  cases r with
  | cons r1 r2 =>
    cases r2
    cases r1 with
    | tup h a => exact ⟨_, _, rfl, .inr (ex_t e h), fun l hl => k l _ G H (Go.refl e) hl a⟩
theorem en_lstO (ho : ρ[n]? = some (some (.own as))) : EvN K (tCB (rLstOf K) (tCons (tVar n) tNil)) ρ as := fun G0 H0 G H σ Q s k => by
  obtain ⟨l, vs, h1, h2, h3, h4, h5⟩ := s.own n as ho
  exact ⟨.ref l, h1, l, vs, rfl, .inl (.inl (.inl h4)), fun p hp => k p vs G H (Go.refl s.gh) hp h5⟩
/-! ### isinstance -/
/-- what is known of a datum's class -/
inductive Ty (K : PySem.W.Frag) : D → Value → Prop
  | non : Ty K .non (.type "NoneType")
  | bl (x : Bool) : Ty K (.bl x) (.type "bool")
  | int (i : Int) : Ty K (.int i) (.type "int")
  | str (x : Str) : Ty K (.str x) (.type "str")
  | tup (ds : List D) : Ty K (.tup ds) (.type "tuple")
  | lst (ds : List D) : Ty K (.lst ds) (.type "list")
  | ins {C : Addr} {fs : List (Str × D)} (cl : Cls K C) (ha : PySem.W.findIn K (.ref C) "__class__" = some (some (.builtin "object.__class__")))
      (hn : PySem.W.specialIn K (.builtin "object.__class__") "__get__" = some (some (.builtin "getset_descriptor.__get__"))) (htk : PySem.W.takesIn K (.builtin "object.__class__") = some true)
      (hm : PySem.W.mroIn K C (.type "object") = some true) : Ty K (.ins C fs) (.ref C)
theorem Ty.of {t : Value} (h : Ty K d t) {H : Hp} {v : V} (r : Rp K H v d) : TyX K H v t := by
  cases h with
  | non => cases r; exact .base .non
  | bl x => cases r; exact .base (.bl x)
  | int x => cases r; exact .base (.int x)
  | str x => cases r; exact .base (.str x)
  | tup ds =>
    cases r with
    | tup h a =>
      rcases h with (h | ⟨o, h⟩) | ⟨o, its, n, h, hc, _⟩
      · exact .base (.tup h)
      · exact .fTuple h
      · exact .kTuple h hc
  | lst ds =>
    cases r with
    | lst h a =>
      rcases h with (h | ⟨o, h⟩) | ⟨o, its, n, h, hc, _⟩
      · exact .base (.lst h)
      · exact .base (.frz h)
      · exact .kList h hc
  | ins cl ha hn htk hm =>
    cases r with
    | ins h a => exact .base (.ins h cl ha hn htk hm)
theorem rs_isi {t u : Value} {c : V} {p : Bool} (h : Ty K d t) (hc : ClsV c u) (hk : PySem.W.kitOne K t u = some p) : RcS K (rIsi K) [d, .cls c] (.bl p) := fun H vs Q r k => by
  cases r with
  | cons r1 r2 =>
    cases r2 with
    | cons r3 r4 =>
      cases r3; cases r4
      exact ⟨_, _, t, u, p, rfl, hc, h.of r1, hk, k _ fun _ => .bl _⟩
end
/-! ### defs -/
/-- a def as a function of data: n arguments -/
def spD (K : PySem.W.Frag) (n : Nat) (R : List D → D → Prop) : Sp := fun vs H Q _ => ∃ (G : Hp) (ds : List D) (d : D), vs.length = n ∧ Ex G H ∧ RpA K G vs ds ∧ R ds d ∧ ∀ v G' H', Go G H G' H' → Rp K G' v d → Q v H'
section
variable {K : PySem.W.Frag} {ρ : Rho} {ta : TA} {ds : List D} {d : D} {n : Nat} {R : List D → D → Prop}
theorem ev_call {E : XK} (h : EvS K ta ρ ds) (hn : ds.length = n) (hr : R ds d) : EvD K (tCall (spD K n R) [] E ta) ρ d := fun G0 H0 G H σ Q s k =>
  h G0 H0 G H σ _ s fun vs G1 H1 g1 r1 => ⟨G1, ds, d, by rw [List.append_nil, r1.length]; exact hn, g1.gh, by rw [List.append_nil]; exact r1, hr, fun v G' H' g r => k v G' H' (g1.trans g) r⟩
/-- own lists lent, a scalar handed back -/
def D.flat : D → Bool
  | .non | .bl _ | .int _ | .str _ | .cls _ => true
  | _ => false
theorem Rp.flat {G G' : Hp} {v : V} (h : Rp K G v d) (f : d.flat = true) : Rp K G' v d := by
  cases h with
  | non => exact .non
  | bl b => exact .bl b
  | int i => exact .int i
  | str x => exact .str x
  | cls v => exact .cls v
  | tup _ _ => cases f
  | lst _ _ => cases f
  | ins _ _ => cases f
theorem ev_callR {E : XK} (h : EvSR K ta ρ ds) (hn : ds.length = n) (hr : R ds d) (f : d.flat = true) : EvD K (tCall (spD K n R) [] E ta) ρ d := fun G0 H0 G H σ Q s k =>
  h G0 H0 G H σ _ s fun vs G1 H1 g1 r1 => ⟨H1, ds, d, by rw [List.append_nil, r1.length]; exact hn, Ex.refl H1, by rw [List.append_nil]; exact r1, hr, fun v G' H' g r =>
    k v G1 H' (g1.trans ⟨Ex.refl G1, g1.gh.trans g.hh, g.hh, fun _ _ q => q⟩) (r.flat f)⟩
def rho0 (N : List Str) (ds : List D) : Rho := ds.map (fun d => some (.dat d)) ++ List.replicate (N.length - ds.length) none
theorem sl_start {G H : Hp} {N : List Str} {vs : List V} (e : Ex G H) (r : RpA K G vs ds) : Sl K G H G H (L2.start N vs) (rho0 N ds) := by
  refine ⟨Go.refl e, ?_, fun i d h => ?_, fun i es h => ?_, fun i j es fs l _ h => ?_⟩
  · unfold L2.start rho0
    rw [List.length_append, List.length_append, List.length_map, List.length_map, List.length_replicate, List.length_replicate, r.length]
  · unfold rho0 at h
    unfold L2.start
    by_cases hi : i < ds.length
    · rw [List.getElem?_append_left (by rw [List.length_map]; exact hi), List.getElem?_map] at h
      cases q : ds[i]? with
      | none => rw [q] at h; cases h
      | some d' =>
        rw [q] at h
        cases h
        obtain ⟨v, h1, h2⟩ := r.get q
        refine ⟨v, ?_, h2⟩
        rw [List.getElem?_append_left (by rw [List.length_map, r.length]; exact hi), List.getElem?_map, h1]
        rfl
    · rw [List.getElem?_append_right (by rw [List.length_map]; omega)] at h
      have := List.mem_of_getElem? h
      cases (List.mem_replicate.mp this).2
  · unfold rho0 at h
    have := List.mem_of_getElem? h
    rcases List.mem_append.mp this with z | z
    · obtain ⟨d, _, q⟩ := List.mem_map.mp z
      cases q
      intro m
      cases m
    · cases (List.mem_replicate.mp z).2
  · unfold rho0 at h
    have := List.mem_of_getElem? h
    rcases List.mem_append.mp this with z | z
    · obtain ⟨d, _, q⟩ := List.mem_map.mp z
      cases q
      intro m
      cases m
    · cases (List.mem_replicate.mp z).2
/-- how a body's end is the def's -/
inductive Ends1 (K : PySem.W.Frag) (t : TS) (ρ : Rho) : D → Prop
  | rt {d : D} : StD K t ρ (.rt d) → Ends1 K t ρ d
  | nx {ρ' : Rho} : StD K t ρ (.nx ρ') → Ends1 K t ρ .non
theorem fn_D {P : Program} {w : World} {mg : Str → Option Value} {base : Heap} {x qual : Str} {st : Stmt} {f : Addr} {fd : FuncData} {N ps : List Str} {k : Nat} (F : Fun K x qual st f fd) (S : FnScope N ps (defScope st)) (hn : ps.length = n)
    (hbody : ∀ (cdv : Value) (A : Around) (outer : List Env) (s : Shared) (H : Hp) (E : XK), Room k (A.deeper (envOfC qual (defScope st) s.heap.objs.size f cdv)) →
      ∃ t, PSs (cxOf CX0 P w K mg base N qual (defScope st) f cdv A outer s H E).nox (defBody st) t ∧ ∀ ds d, R ds d → Ends1 K t (rho0 N ds) d) : FnOk P w K mg base CX0 (k + 1) f fd ps (spD K n R) := by
  refine F.ok S (fun vs H Q E h => ?_) (fun cdv A outer s H vs Q E hr h => ?_)
  · obtain ⟨_, _, _, h, _⟩ := h
    rw [h, hn]
  · obtain ⟨t, h1, h2⟩ := hbody cdv A outer s H E hr
    obtain ⟨G, ds, d, hl, e, r, hR, q⟩ := h
    refine ⟨t, h1, ?_⟩
    have s0 := sl_start (N := N) e r
    cases h2 ds d hR with
    | rt h => exact h G H G H _ _ s0 fun v G' H' g r => q v G' H' g r
    | nx h => exact h G H G H _ _ s0 fun G' H' σ' _ s' => q .non G' H' s'.go .non
end
end Ax

namespace Ax
open PySem PySem.Spec PyProof.Rows L2 Evl

/-! ### own classes -/
def putD (f : Str) (v : D) : List (Str × D) → List (Str × D)
  | [] => [(f, v)]
  | (g, u) :: r => if g = f then (g, v) :: r else (g, u) :: putD f v r
section
variable {K : PySem.W.Frag} {G0 H0 G H : Hp} {ρ : Rho} {ta tb te : TE} {t : TA} {C : Addr} {fs : List (Str × D)} {f m : Str} {d : D} {ds : List D} {n : Nat} {x : Addr}
theorem RpF.put {v : V} (r : Rp K H v d) : ∀ {gs : List (Str × V)} {fs : List (Str × D)}, RpF K H gs fs → RpF K H (putF f v gs) (putD f d fs)
  | _, _, .nil => .cons r .nil
  | _, _, .cons (f := g) (v := u) (vs := us) (d := e) (ds := es) q t => by
    show RpF K H (if g = f then (g, v) :: us else (g, u) :: putF f v us) (if g = f then (g, d) :: es else (g, e) :: putD f d es)
    by_cases h : g = f
    · rw [if_pos h, if_pos h]; exact .cons r t
    · rw [if_neg h, if_neg h]; exact .cons q (RpF.put r t)
theorem RpF.length : ∀ {gs : List (Str × V)} {fs : List (Str × D)}, RpF K H gs fs → gs.length = fs.length
  | _, _, .nil => rfl
  | _, _, .cons _ t => by rw [List.length_cons, List.length_cons, RpF.length t]
theorem RpF.look0 : ∀ {gs : List (Str × V)} {fs : List (Str × D)}, RpF K H gs fs → fs.lookup m = none → gs.lookup m = none
  | _, _, .nil, _ => rfl
  | _, _, .cons (f := g) (v := u) (vs := us) (d := e) (ds := es) q t, h => by
    rw [List.lookup_cons] at h ⊢
    cases z : m == g with
    | true => rw [z] at h; cases h
    | false => rw [z] at h; exact RpF.look0 t h
theorem ev_fld (ha : EvD K ta ρ (.ins C fs)) (cl : Cls K C) (na : NoAttr K C f) (hl : fs.lookup f = some d) : EvD K (tFld K ta f) ρ d := fun G0 H0 G H σ Q s k =>
  ha G0 H0 G H σ _ s fun v G1 H1 g1 r1 => by
    cases r1 with
    | ins h a =>
      obtain ⟨u, h1, h2⟩ := a.look hl
      exact ⟨_, C, _, _, u, rfl, g1.gh _ _ h, cl, na, h1, k u G1 H1 g1 h2⟩
theorem ev_fldM (ho : ρ[n]? = some (some (.obj x C fs))) (cl : Cls K C) (na : NoAttr K C f) (hl : fs.lookup f = some d) : EvD K (tFld K (tVar n) f) ρ d := fun G0 H0 G H σ Q s k => by
  obtain ⟨l, h1, h2, h3, _, dx, gs, h4, h5⟩ := s.mine n _ ho rfl
  obtain ⟨u, q1, q2⟩ := h5.look hl
  exact ⟨.ref l, h1, l, C, dx, gs, u, rfl, h4, cl, na, q1, k u G H (Go.refl s.gh) q2⟩
theorem sd_fld (h : EvD K te ρ d) (ho : ρ[n]? = some (some (.obj x C fs))) (cl : Cls K C) (na : NoAttr K C f) (hz : fs.length < 1000) : StD K (sFld K (tVar n) te f) ρ (.nx (ρ.set n (some (.obj x C (putD f d fs))))) := fun G0 H0 G H σ W s k => by
  refine h G0 H0 G H σ _ s fun v G1 H1 g1 r1 => ?_
  obtain ⟨l, h1, h2, h3, lx, dx, gs, h4, h5⟩ := (s.step g1).mine n _ ho rfl
  refine ⟨.ref l, h1, l, C, dx, gs, rfl, h4, cl, na, by rw [h5.length]; exact hz, ?_⟩
  exact k G1 _ σ g1.gg ((s.step g1).mutM ho rfl h1 ⟨lx, dx, _, upd_same, h5.put r1⟩)
def delx (H : Hp) (x : Addr) : Hp := fun a => if a = x then none else H a
theorem delx_same {x : Addr} : delx H x x = none := by unfold delx; rw [if_pos rfl]
theorem delx_ne {x a : Addr} (h : a ≠ x) : delx H x a = H a := by unfold delx; rw [if_neg h]
/-- the promise of an __init__: it makes these attributes -/
def spI (K : PySem.W.Frag) (C : Addr) (n : Nat) (R : List D → List (Str × D) → Prop) : Sp := fun vs H Q _ => ∃ (x dx : Addr) (us : List V) (G : Hp) (ds : List D) (fs : List (Str × D)), vs = .ref x :: us ∧ us.length = n ∧ H x = some (.ins C dx []) ∧ G x = none ∧ Ex G H ∧ RpA K G us ds ∧ R ds fs ∧
  ∀ G' H' dy gs, Go G (delx H x) G' H' → G' x = none → H' x = some (.ins C dy gs) → RpF K G' gs fs → Q .non H'
theorem ev_new {E : XK} {R : List D → List (Str × D) → Prop} (h : EvS K t ρ ds) (hn : ds.length = n) (hr : R ds fs) : EvD K (tMake C (spI K C n R) [] E t) ρ (.ins C fs) := fun G0 H0 G H σ Q s k =>
  h G0 H0 G H σ _ s fun vs G1 H1 g1 r1 => by
    intro x dx hx hdx ne
    have gx : G1 x = none := fresh_back g1.gh hx
    have hx2 : (upd H1 dx (.own x)) x = none := by rw [upd_ne (Ne.symm ne)]; exact hx
    have e2 : Ex H1 (upd (upd H1 dx (.own x)) x (.ins C dx [])) := (Ex.new hdx).trans (Ex.new hx2)
    refine ⟨x, dx, vs ++ [], G1, ds, fs, rfl, by rw [List.append_nil, r1.length]; exact hn, upd_same, gx, g1.gh.trans e2, by rw [List.append_nil]; exact r1, hr, fun G' H' dy gs g z1 z2 z3 => ?_⟩
    have keep : ∀ a o, H1 a = some o → H' a = some o := fun a o e => g.hh a o (by
      rw [delx_ne (ne_of_none e hx)]
      exact e2 a o e)
    have n : Ex G' (upd G' x (.ins C dy gs)) := Ex.new z1
    refine ⟨rfl, k (.ref x) (upd G' x (.ins C dy gs)) H' (g1.trans ⟨g.gg.trans n, fun a o e => ?_, keep, fun a ha hg => ?_⟩) (.ins upd_same (z3.mono n))⟩
    · by_cases ax : a = x
      · subst ax; rw [upd_same] at e; rw [← e]; exact z2
      · rw [upd_ne ax] at e; exact g.gh a o e
    · have ax : a ≠ x := fun z => ha (by rw [z]; exact hx)
      rw [upd_ne ax]
      refine g.fr a ?_ hg
      rw [delx_ne ax]
      cases q : H1 a with
      | none => exact absurd q ha
      | some o => rw [e2 a o q]; exact fun z => nomatch z
/-- self.m(..) of a thing that stands still -/
theorem ev_meth {E : XK} {R : List D → D → Prop} (ha : EvD K ta ρ (.ins C fs)) (hl : fs.lookup m = none) (h : EvS K t ρ ds) (hn : ds.length + 1 = n) (hr : R (.ins C fs :: ds) d) : EvD K (tMeth C m (spD K n R) [] E ta t) ρ d := fun G0 H0 G H σ Q s k =>
  ha G0 H0 G H σ _ s fun v G1 H1 g1 r1 => by
    have r1' := r1
    cases r1 with
    | ins q a =>
      refine ⟨_, _, _, rfl, g1.gh _ _ q, a.look0 hl, ?_⟩
      refine h G0 H0 G1 H1 σ _ (s.step g1) fun vs G2 H2 g2 r2 => ?_
      refine ⟨G2, _, d, ?_, g2.gh, .cons (r1'.mono g2.gg) (by rw [List.append_nil]; exact r2), hr, fun w G' H' g r => k w G' H' ((g1.trans g2).trans g) r⟩
      rw [List.append_nil, List.length_cons, r2.length]
      exact hn
theorem ev_prop {E : XK} {R : List D → D → Prop} (ha : EvD K ta ρ (.ins C fs)) (hr : R [.ins C fs] d) : EvD K (tProp C (spD K 1 R) [] E ta) ρ d := fun G0 H0 G H σ Q s k =>
  ha G0 H0 G H σ _ s fun v G1 H1 g1 r1 => by
    have r1' := r1
    cases r1 with
    | ins q a => exact ⟨_, _, _, rfl, g1.gh _ _ q, G1, _, d, rfl, g1.gh, .cons r1' .nil, hr, fun w G' H' g r => k w G' H' (g1.trans g) r⟩
def rhoI (N : List Str) (x C : Addr) (ds : List D) : Rho := some (.obj x C []) :: (ds.map (fun d => some (.dat d)) ++ List.replicate (N.length - (ds.length + 1)) none)
theorem sl_startI {N : List Str} {vs : List V} {x dx : Addr} (e : Ex G H) (hx : H x = some (.ins C dx [])) (gx : G x = none) (r : RpA K G vs ds) : Sl K G (delx H x) G H (L2.start N (.ref x :: vs)) (rhoI N x C ds) := by
  have key : ∀ (i : Nat) (y : S), (rhoI N x C ds)[i]? = some (some y) → (i = 0 ∧ y = .obj x C []) ∨ ∃ (j : Nat) (d : D), i = j + 1 ∧ ds[j]? = some d ∧ y = .dat d := fun i y h => by
    cases i with
    | zero => cases h; exact .inl ⟨rfl, rfl⟩
    | succ j =>
      have h' : (ds.map (fun d => some (S.dat d)) ++ List.replicate (N.length - (ds.length + 1)) none)[j]? = some (some y) := h
      by_cases hj : j < ds.length
      · rw [List.getElem?_append_left (by rw [List.length_map]; exact hj), List.getElem?_map] at h'
        cases q : ds[j]? with
        | none => rw [q] at h'; cases h'
        | some d' =>
          rw [q] at h'
          cases h'
          exact .inr ⟨j, d', rfl, q, rfl⟩
      · rw [List.getElem?_append_right (by rw [List.length_map]; omega)] at h'
        have := List.mem_of_getElem? h'
        cases (List.mem_replicate.mp this).2
  have ne : ∀ a o, G a = some o → a ≠ x := fun a o q z => by rw [z, gx] at q; cases q
  refine ⟨⟨Ex.refl G, e, fun a o q => ?_, fun a _ q => q⟩, ?_, fun i d h => ?_, fun i y h m => ?_, fun i j y z l hij p1 m1 p2 m2 => ?_⟩
  · by_cases ax : a = x
    · subst ax; rw [delx_same] at q; cases q
    · rw [delx_ne ax] at q; exact q
  · unfold rhoI L2.start
    rw [List.length_append, List.length_map, List.length_cons, List.length_cons, List.length_append, List.length_map, List.length_replicate, List.length_replicate, r.length]
    omega
  · rcases key i _ h with ⟨_, z⟩ | ⟨j, d', rfl, q, z⟩
    · cases z
    · cases z
      obtain ⟨v, h1, h2⟩ := r.get q
      refine ⟨v, ?_, h2⟩
      have hj := (List.getElem?_eq_some_iff.mp h1).1
      unfold L2.start
      rw [List.getElem?_append_left (by rw [List.length_map, List.length_cons]; omega), List.getElem?_map, List.getElem?_cons_succ, h1]
      rfl
  · rcases key i _ h with ⟨rfl, rfl⟩ | ⟨j, d', rfl, q, rfl⟩
    · exact ⟨x, rfl, delx_same, gx, rfl, dx, [], hx, .nil⟩
    · cases m
  · rcases key i _ p1 with ⟨rfl, rfl⟩ | ⟨_, _, rfl, _, rfl⟩
    · rcases key j _ p2 with ⟨rfl, rfl⟩ | ⟨_, _, rfl, _, rfl⟩
      · exact absurd rfl hij
      · cases m2
    · cases m1
/-- the promise of an __init__ out of its body -/
theorem fn_I {R : List D → List (Str × D) → Prop} {P : Program} {w : World} {mg : Str → Option Value} {base : Heap} {nm qual : Str} {st : Stmt} {f : Addr} {fd : FuncData} {N ps : List Str} {k : Nat} (F : Fun K nm qual st f fd) (Sc : FnScope N ps (defScope st)) (hn : ps.length = n + 1)
    (hbody : ∀ (cdv : Value) (A : Around) (outer : List Env) (s : Shared) (H : Hp) (E : XK), Room k (A.deeper (envOfC qual (defScope st) s.heap.objs.size f cdv)) →
      ∃ t, PSs (cxOf CX0 P w K mg base N qual (defScope st) f cdv A outer s H E).nox (defBody st) t ∧ ∀ x ds fs, R ds fs → ∃ ρ', StD K t (rhoI N x C ds) (.nx ρ') ∧ ρ'[0]? = some (some (.obj x C fs))) : FnOk P w K mg base CX0 (k + 1) f fd ps (spI K C n R) := by
  refine F.ok Sc (fun vs H Q E h => ?_) (fun cdv A outer s H vs Q E hr h => ?_)
  · obtain ⟨x, dx, us, _, _, _, h, hu, _⟩ := h
    rw [h, List.length_cons, hu, hn]
  · obtain ⟨t, h1, h2⟩ := hbody cdv A outer s H E hr
    obtain ⟨x, dx, us, G, ds, fs, rfl, hl, hx, gx, e, r, hR, q⟩ := h
    refine ⟨t, h1, ?_⟩
    have s0 := sl_startI (N := N) e hx gx r
    obtain ⟨ρ', h3, h4⟩ := h2 x ds fs hR
    refine h3 G (delx H x) G H _ _ s0 fun G' H' σ' eG s' => ?_
    obtain ⟨l, g1, g2, g3, el, dy, gs, g4, g5⟩ := s'.mine 0 _ h4 rfl
    subst el
    exact q G' H' dy gs s'.go g3 g4 g5
end
/-! ### operators of own classes -/
def rOwnIn (C : Addr) (sp : Sp) (E : XK) : R2 := fun x y H Q => ∃ a dx gs, y = .ref a ∧ H a = some (.ins C dx gs) ∧ sp [.ref a, x] H (fun v H' => ∃ b, v = .bl b ∧ Q (.bl b) H') E
def rOwnCmp (C : Addr) (sp : Sp) (E : XK) : R2 := fun x y H Q => ∃ a b dx gs dy hs, x = .ref a ∧ y = .ref b ∧ H a = some (.ins C dx gs) ∧ H b = some (.ins C dy hs) ∧ sp [.ref a, .ref b] H (fun v H' => ∃ p, v = .bl p ∧ Q (.bl p) H') E
section
variable {X : Cx} {CX : CXT} {k : Nat} {C f : Addr} {fd : FuncData} {ps : List Str} {sp : Sp} {E : XK}
theorem op_inOwn (F : FnOk X.prog X.w X.K X.mg X.base CX k f fd ps sp) (hr : Room k X.A) (hs : PySem.W.findIn X.K (.ref C) "__contains__" = some (some (.ref f))) (hf : PySem.W.isFn X.K (.ref f) = true) (hb : Binds X.K fd ps []) (hx : Passes CX X E) :
    OpR X (compareOp .In) (rOwnIn C sp E) := by
  intro pins s σ H x y v u Q I rx ry h
  obtain ⟨a, dx, gs, rfl, ha, hsp⟩ := h
  cases ry
  obtain ⟨mA, J, _⟩ := ins_get I.hok ha
  obtain ⟨od, J, _⟩ := J.look
  obtain ⟨m, hF⟩ := I.fr
  refine PySem.W.in_K hF I.ok.mod.kin J hs hf ?_
  have hl := F.len _ _ _ _ hsp
  have r2 : Vals [V.ref a, x] [Value.ref a, v] := .cons rfl (.cons rx .nil)
  refine wpAny_call (codeAny_mono (F.run X.A X.stack s H ⟨[.ref a, v], []⟩ [.ref a, v] [.ref a, x] _ E hr I.env0 (by
    have := hb s [.ref a, v] I.kIn (by simpa using hl)
    simpa using this) r2 hsp) fun r s' hq => ?_)
  cases r with
  | error e => exact hx pins σ H s e s' I hq
  | ok fl =>
    cases fl with
    | ret w =>
      obtain ⟨z, H', I', rz, p, ez, q⟩ := I.after hq
      subst ez
      cases rz
      exact wpAny_truthy_bool ⟨.bl p, H', I', rfl, q⟩
    | next => exact False.elim hq
    | brk => exact False.elim hq
    | cont => exact False.elim hq
theorem rc_cmpOwn {op : CmpOp} (F : FnOk X.prog X.w X.K X.mg X.base CX k f fd ps sp) (hr : Room k X.A) (hs : PySem.W.findIn X.K (.ref C) (cmpInfo op).2.1 = some (some (.ref f))) (hf : PySem.W.isFn X.K (.ref f) = true) (hb : Binds X.K fd ps []) (hx : Passes CX X E) :
    OpR X (fun a b => richCompare op a b) (rOwnCmp C sp E) := by
  intro pins s σ H x y v u Q I rx ry h
  obtain ⟨a, b, dx, gs, dy, hs', rfl, rfl, ha, hb', hsp⟩ := h
  cases rx
  cases ry
  obtain ⟨mA, J, _⟩ := ins_get I.hok ha
  obtain ⟨mB, J', _⟩ := ins_get I.hok hb'
  obtain ⟨od, J, _⟩ := J.look
  obtain ⟨od', J', _⟩ := J'.look
  obtain ⟨m, hF⟩ := I.fr
  refine PySem.W.cmp_K (op := op) (tb := .ref C) hr.units0 hF I.ok.mod.kin J J'.type (by simp [PySem.W.notFirst]) hs hf ?_
  have hl := F.len _ _ _ _ hsp
  have r2 : Vals [V.ref a, V.ref b] [Value.ref a, Value.ref b] := .cons rfl (.cons rfl .nil)
  refine wpAny_call (codeAny_mono (F.run X.A X.stack s H ⟨[.ref a, .ref b], []⟩ [.ref a, .ref b] [.ref a, .ref b] _ E hr I.env0 (by
    have := hb s [.ref a, .ref b] I.kIn (by simpa using hl)
    simpa using this) r2 hsp) fun r s' hq => ?_)
  cases r with
  | error e => exact hx pins σ H s e s' I hq
  | ok fl =>
    cases fl with
    | ret w =>
      obtain ⟨z, H', I', rz, p, ez, q⟩ := I.after hq
      subst ez
      cases rz
      exact ⟨.bl p, H', I', rfl, q⟩
    | next => exact False.elim hq
    | brk => exact False.elim hq
    | cont => exact False.elim hq
theorem op_leOwn (F : FnOk X.prog X.w X.K X.mg X.base CX k f fd ps sp) (hr : Room k X.A) (hs : PySem.W.findIn X.K (.ref C) "__le__" = some (some (.ref f))) (hf : PySem.W.isFn X.K (.ref f) = true) (hb : Binds X.K fd ps []) (hx : Passes CX X E) : OpR X (compareOp .LtE) (rOwnCmp C sp E) := rc_cmpOwn (op := .LtE) F hr hs hf hb hx
theorem op_ltOwn (F : FnOk X.prog X.w X.K X.mg X.base CX k f fd ps sp) (hr : Room k X.A) (hs : PySem.W.findIn X.K (.ref C) "__lt__" = some (some (.ref f))) (hf : PySem.W.isFn X.K (.ref f) = true) (hb : Binds X.K fd ps []) (hx : Passes CX X E) : OpR X (compareOp .Lt) (rOwnCmp C sp E) := rc_cmpOwn (op := .Lt) F hr hs hf hb hx
theorem op_geOwn (F : FnOk X.prog X.w X.K X.mg X.base CX k f fd ps sp) (hr : Room k X.A) (hs : PySem.W.findIn X.K (.ref C) "__ge__" = some (some (.ref f))) (hf : PySem.W.isFn X.K (.ref f) = true) (hb : Binds X.K fd ps []) (hx : Passes CX X E) : OpR X (compareOp .GtE) (rOwnCmp C sp E) := rc_cmpOwn (op := .GtE) F hr hs hf hb hx
theorem op_gtOwn (F : FnOk X.prog X.w X.K X.mg X.base CX k f fd ps sp) (hr : Room k X.A) (hs : PySem.W.findIn X.K (.ref C) "__gt__" = some (some (.ref f))) (hf : PySem.W.isFn X.K (.ref f) = true) (hb : Binds X.K fd ps []) (hx : Passes CX X E) : OpR X (compareOp .Gt) (rOwnCmp C sp E) := rc_cmpOwn (op := .Gt) F hr hs hf hb hx
theorem op_eqOwn (F : FnOk X.prog X.w X.K X.mg X.base CX k f fd ps sp) (hr : Room k X.A) (hs : PySem.W.findIn X.K (.ref C) "__eq__" = some (some (.ref f))) (hf : PySem.W.isFn X.K (.ref f) = true) (hb : Binds X.K fd ps []) (hx : Passes CX X E) : OpR X (compareOp .Eq) (rOwnCmp C sp E) := rc_cmpOwn (op := .Eq) F hr hs hf hb hx
end
section
variable {K : PySem.W.Frag} {C : Addr} {E : XK} {R : List D → D → Prop} {fs gs : List (Str × D)} {d : D} {p : Bool}
theorem rd_inOwn (hr : R [.ins C fs, d] (.bl p)) : RvD K (rOwnIn C (spD K 2 R) E) d (.ins C fs) (.bl p) := fun G H x y Q e rx ry k => by
  have ry' := ry
  cases ry with
  | ins h a => exact ⟨_, _, _, rfl, e _ _ h, G, _, _, rfl, e, .cons ry' (.cons rx .nil), hr, fun v G' H' g r => by cases r; exact ⟨p, rfl, k _ G' H' g (.bl p)⟩⟩
theorem rd_cmpOwn (hr : R [.ins C fs, .ins C gs] (.bl p)) : RvD K (rOwnCmp C (spD K 2 R) E) (.ins C fs) (.ins C gs) (.bl p) := fun G H x y Q e rx ry k => by
  have ry' := ry
  have rx' := rx
  cases rx with
  | ins h a =>
    cases ry with
    | ins h2 a2 => exact ⟨_, _, _, _, _, _, rfl, rfl, e _ _ h, e _ _ h2, G, _, _, rfl, e, .cons rx' (.cons ry' .nil), hr, fun v G' H' g r => by cases r; exact ⟨p, rfl, k _ G' H' g (.bl p)⟩⟩
end
end Ax

namespace Ax
open PySem PySem.Spec PyProof.Rows L2 Evl

/-! ### defs of the top by name -/
structure Has (K : PySem.W.Frag) (mg : Str → Option Value) (x : Str) (st : Stmt) (ps : List Str) : Prop where
  ex : ∃ (f : Addr) (fd : FuncData), Fun K x x st f fd ∧ mg x = some (.ref f) ∧ Binds K fd ps [] ∧ ∀ (s : Shared) (us : List Value), us.length = ps.length → BindsTo s fd ⟨us, []⟩ (ps.zip us)
structure Cal (P : Program) (w : World) (K : PySem.W.Frag) (mg : Str → Option Value) (base : Heap) (x : Str) (k : Nat) (ps : List Str) (sp : Sp) : Prop where
  ex : ∃ (f : Addr) (fd : FuncData), FnOk P w K mg base CX0 k f fd ps sp ∧ mg x = some (.ref f) ∧ PySem.W.keepIn K (.ref f) = true ∧ Binds K fd ps []
section
variable {P : Program} {w : World} {K : PySem.W.Frag} {mg : Str → Option Value} {base : Heap} {x : Str} {k n : Nat} {ps N : List Str} {sp : Sp} {st : Stmt} {R : List D → D → Prop}
theorem Has.cal (h : Has K mg x st ps) (S : FnScope N ps (defScope st)) (hn : ps.length = n)
    (hbody : ∀ (f : Addr) (cdv : Value) (A : Around) (outer : List Env) (s : Shared) (H : Hp) (E : XK), Room k (A.deeper (envOfC x (defScope st) s.heap.objs.size f cdv)) →
      ∃ t, PSs (cxOf CX0 P w K mg base N x (defScope st) f cdv A outer s H E).nox (defBody st) t ∧ ∀ ds d, R ds d → Ends1 K t (rho0 N ds) d) : Cal P w K mg base x (k + 1) ps (spD K n R) := by
  obtain ⟨f, fd, F, m, b, _⟩ := h.ex
  exact ⟨f, fd, fn_D F S hn fun cdv A outer s H E hr => hbody f cdv A outer s H E hr, m, F.kp, b⟩
/-- a def of a class -/
structure HasM (K : PySem.W.Frag) (C : Addr) (x q : Str) (st : Stmt) (ps : List Str) (f : Addr) : Prop where
  ex : ∃ (fd : FuncData), Fun K x q st f fd ∧ Binds K fd ps []
  at_ : PySem.W.findIn K (.ref C) x = some (some (.ref f))
  fn : PySem.W.isFn K (.ref f) = true
structure CalM (P : Program) (w : World) (K : PySem.W.Frag) (mg : Str → Option Value) (base : Heap) (C : Addr) (x : Str) (k : Nat) (ps : List Str) (sp : Sp) : Prop where
  ex : ∃ (f : Addr) (fd : FuncData), FnOk P w K mg base CX0 k f fd ps sp ∧ PySem.W.findIn K (.ref C) x = some (some (.ref f)) ∧ PySem.W.isFn K (.ref f) = true ∧ PySem.W.keepIn K (.ref f) = true ∧ Binds K fd ps [] ∧ PySem.W.fnIn K f = true
theorem fn_in {q : Str} {f : Addr} {fd : FuncData} (F : Fun K x q st f fd) : PySem.W.fnIn K f = true := by
  obtain ⟨oc, od, kV, doc, pm, an, cdv, ct, osl, _, lk, _⟩ := F.ex
  unfold PySem.W.fnIn
  rw [lk]
theorem HasM.cal {C f : Addr} {q : Str} (h : HasM K C x q st ps f) (S : FnScope N ps (defScope st)) (hn : ps.length = n)
    (hbody : ∀ (cdv : Value) (A : Around) (outer : List Env) (s : Shared) (H : Hp) (E : XK), Room k (A.deeper (envOfC q (defScope st) s.heap.objs.size f cdv)) →
      ∃ t, PSs (cxOf CX0 P w K mg base N q (defScope st) f cdv A outer s H E).nox (defBody st) t ∧ ∀ ds d, R ds d → Ends1 K t (rho0 N ds) d) : CalM P w K mg base C x (k + 1) ps (spD K n R) := by
  obtain ⟨fd, F, b⟩ := h.ex
  exact ⟨f, fd, fn_D F S hn hbody, h.at_, h.fn, F.kp, b, fn_in F⟩
theorem HasM.calI {C f : Addr} {q : Str} {RI : List D → List (Str × D) → Prop} (h : HasM K C x q st ps f) (S : FnScope N ps (defScope st)) (hn : ps.length = n + 1)
    (hbody : ∀ (cdv : Value) (A : Around) (outer : List Env) (s : Shared) (H : Hp) (E : XK), Room k (A.deeper (envOfC q (defScope st) s.heap.objs.size f cdv)) →
      ∃ t, PSs (cxOf CX0 P w K mg base N q (defScope st) f cdv A outer s H E).nox (defBody st) t ∧ ∀ x ds fs, RI ds fs → ∃ ρ', StD K t (rhoI N x C ds) (.nx ρ') ∧ ρ'[0]? = some (some (.obj x C fs))) : CalM P w K mg base C x (k + 1) ps (spI K C n RI) := by
  obtain ⟨fd, F, b⟩ := h.ex
  exact ⟨f, fd, fn_I F S hn hbody, h.at_, h.fn, F.kp, b, fn_in F⟩
end
section
variable {X : Cx} {x : Str} {k : Nat} {ps : List Str} {sp : Sp} {e : Expr} {es : List Expr} {t : TA} {p pos : Pos} {C : Addr}
theorem pe_cal (c : Cal X.prog X.w X.K X.mg X.base x k ps sp) (hr : Room k X.A) (ha : PA X (e :: es) t) (hg : Gl X x := by rfl) (hdb : (x == ("__debug__" : Str)) = false := by decide) (he : starEach (e :: es) X.env = (false, eval e X.env) :: starEach es X.env := by rfl) (hpl : (backTo pos (starEach es X.env)).any (·.1) = false := by rfl) :
    PE X (.Call (.Name x p) (e :: es) [] pos) (tCall sp [] E0 t) := by
  obtain ⟨f, fd, F, m, kp, b⟩ := c.ex
  exact pe_call F hr hg m kp b .nil pass0 ha hdb he hpl
theorem pe_cal0 (c : Cal X.prog X.w X.K X.mg X.base x k ps sp) (hr : Room k X.A) (hg : Gl X x := by rfl) (hdb : (x == ("__debug__" : Str)) = false := by decide) : PE X (.Call (.Name x p) [] [] pos) (tCall sp [] E0 tNil) := by
  obtain ⟨f, fd, F, m, kp, b⟩ := c.ex
  exact pe_call0 F hr hg m kp b .nil pass0 hdb
/-- a class of the top -/
structure CCls (K : PySem.W.Frag) (mg : Str → Option Value) (x : Str) (C : Addr) : Prop where
  mgC : mg x = some (.ref C)
  cl : Cls K C
  makes : PySem.W.makesIn K C = true
  kp : PySem.W.keepIn K (.ref C) = true
theorem pe_new (M : CCls X.K X.mg x C) (c : CalM X.prog X.w X.K X.mg X.base C "__init__" k ps sp) (hr : Room (k + 1) X.A) (ha : PA X (e :: es) t) (hg : Gl X x := by rfl) (hdb : (x == ("__debug__" : Str)) = false := by decide) (he : starEach (e :: es) X.env = (false, eval e X.env) :: starEach es X.env := by rfl) (hpl : (backTo pos (starEach es X.env)).any (·.1) = false := by rfl) :
    PE X (.Call (.Name x p) (e :: es) [] pos) (tMake C sp [] E0 t) := by
  obtain ⟨f, fd, F, m, fn, kp, b, _⟩ := c.ex
  exact pe_make ⟨M.makes, m, fn, M.kp⟩ F hr hg M.mgC b .nil pass0 ha hdb he hpl
theorem op_inC (c : CalM X.prog X.w X.K X.mg X.base C "__contains__" k ps sp) (hr : Room k X.A) : OpR X (compareOp .In) (rOwnIn C sp E0) := by
  obtain ⟨f, fd, F, m, fn, kp, b, _⟩ := c.ex
  exact op_inOwn F hr m fn b pass0
theorem op_leC (c : CalM X.prog X.w X.K X.mg X.base C "__le__" k ps sp) (hr : Room k X.A) : OpR X (compareOp .LtE) (rOwnCmp C sp E0) := by
  obtain ⟨f, fd, F, m, fn, kp, b, _⟩ := c.ex
  exact op_leOwn F hr m fn b pass0
theorem op_ltC (c : CalM X.prog X.w X.K X.mg X.base C "__lt__" k ps sp) (hr : Room k X.A) : OpR X (compareOp .Lt) (rOwnCmp C sp E0) := by
  obtain ⟨f, fd, F, m, fn, kp, b, _⟩ := c.ex
  exact op_ltOwn F hr m fn b pass0
theorem op_geC (c : CalM X.prog X.w X.K X.mg X.base C "__ge__" k ps sp) (hr : Room k X.A) : OpR X (compareOp .GtE) (rOwnCmp C sp E0) := by
  obtain ⟨f, fd, F, m, fn, kp, b, _⟩ := c.ex
  exact op_geOwn F hr m fn b pass0
theorem op_gtC (c : CalM X.prog X.w X.K X.mg X.base C "__gt__" k ps sp) (hr : Room k X.A) : OpR X (compareOp .Gt) (rOwnCmp C sp E0) := by
  obtain ⟨f, fd, F, m, fn, kp, b, _⟩ := c.ex
  exact op_gtOwn F hr m fn b pass0
theorem op_eqC (c : CalM X.prog X.w X.K X.mg X.base C "__eq__" k ps sp) (hr : Room k X.A) : OpR X (compareOp .Eq) (rOwnCmp C sp E0) := by
  obtain ⟨f, fd, F, m, fn, kp, b, _⟩ := c.ex
  exact op_eqOwn F hr m fn b pass0
end
/-! ### the numbers that a law draws -/
def numT (ns : List Int) (k c : Int) : Int :=
  ((c * 48271 + k * 69621 + ns.sum * 40692 + 12345) % 2147483647 * ((c * 48271 + k * 69621 + ns.sum * 40692 + 12345) % 2147483647) + 7919 * k * ((c * 48271 + k * 69621 + ns.sum * 40692 + 12345) % 2147483647) + 1) % 2147483629 / 3
def num (ns : List Int) (k : Int) : Int :=
  if k < ns.length then (if 10 ^ 18 ≤ ns.getD k.toNat 0 then ns.getD k.toNat 0 - 10 ^ 18 else numT ns k (ns.getD k.toNat 0)) else numT ns k 0
theorem numT_nn (ns : List Int) (k c : Int) : 0 ≤ numT ns k c := Int.ediv_nonneg (Int.emod_nonneg _ (by decide)) (by decide)
theorem num_nn (ns : List Int) (k : Int) : 0 ≤ num ns k := by
  unfold num
  split
  · split
    · rename_i h
      omega
    · exact numT_nn _ _ _
  · exact numT_nn _ _ _
abbrev scr (ns : List Int) : D := .lst (ns.map .int)
def RNum (ds : List D) (d : D) : Prop := ∃ (ns : List Int) (k : Int), ds = [scr ns, .int k] ∧ 0 ≤ k ∧ d = .int (num ns k)
end Ax

namespace Ax
open PySem PySem.Spec PyProof.Rows L2 Evl

/-! ### fewer slots known -/
inductive LeR : Rho → Rho → Prop
  | nil : LeR [] []
  | c1 {x : Option S} {a b : Rho} : LeR a b → LeR (x :: a) (x :: b)
  | c0 {x : Option S} {a b : Rho} : LeR a b → LeR (none :: a) (x :: b)
theorem LeR.len : ∀ {a b : Rho}, LeR a b → a.length = b.length
  | _, _, .nil => rfl
  | _, _, .c1 h => by rw [List.length_cons, List.length_cons, h.len]
  | _, _, .c0 h => by rw [List.length_cons, List.length_cons, h.len]
theorem LeR.get : ∀ {a b : Rho}, LeR a b → ∀ (i : Nat) (x : S), a[i]? = some (some x) → b[i]? = some (some x)
  | _, _, .nil, _, _, h => h
  | _, _, .c1 h, 0, x, e => e
  | _, _, .c1 h, i + 1, x, e => h.get i x e
  | _, _, .c0 h, 0, x, e => by cases e
  | _, _, .c0 h, i + 1, x, e => h.get i x e
theorem LeR.refl : ∀ a : Rho, LeR a a
  | [] => .nil
  | x :: a => .c1 (LeR.refl a)
section
variable {K : PySem.W.Frag} {ρ ρ' ρ'' : Rho} {ta tb tc te : TE} {a b d : D} {ds es : List D} {t u : TS} {o : Out} {c : TT} {p : Bool} {i j : Nat} {m n : Int}
theorem sd_wk (h : StD K t ρ (.nx ρ')) (l : LeR ρ'' ρ') : StD K t ρ (.nx ρ'') := sd_weak h l.len l.get
theorem sd_pre (l : LeR ρ' ρ) (h : StD K t ρ' o) : StD K t ρ o := fun G0 H0 G H σ W s k => h G0 H0 G H σ W (s.weak l.len l.get) k
theorem sd_ifI (h : EvB K c ρ p) (h1 : EvD K te ρ (.int m)) (h0 : ρ[i]? = some (some (.dat (.int n)))) : StD K (tIfS c (tAsg te (gName i)) tNext) ρ (.nx (ρ.set i (some (.dat (.int (if p = true then m else n)))))) := by
  cases p with
  | true => exact sd_T h (sd_asg h1)
  | false =>
    have e : ρ.set i (some (.dat (.int n))) = ρ := by
      apply List.ext_getElem?
      intro k
      by_cases hk : i = k
      · subst hk
        rw [List.getElem?_set_self (List.getElem?_eq_some_iff.mp h0).1, h0]
      · rw [List.getElem?_set_ne hk]
    have := sd_F (K := K) (ρ := ρ) (c := c) (t := tAsg te (gName i)) (u := tNext) h sd_next
    rw [← e] at this
    show StD K _ ρ (.nx (ρ.set i (some (.dat (.int n)))))
    rw [e] at this ⊢
    exact this
/-- .. any datum -/
theorem sd_ifD (h : EvB K c ρ p) (h1 : EvD K te ρ a) (h0 : ρ[i]? = some (some (.dat b))) : StD K (tIfS c (tAsg te (gName i)) tNext) ρ (.nx (ρ.set i (some (.dat (if p = true then a else b))))) := by
  cases p with
  | true => exact sd_T h (sd_asg h1)
  | false =>
    have e : ρ.set i (some (.dat b)) = ρ := by
      apply List.ext_getElem?
      intro k
      by_cases hk : i = k
      · subst hk
        rw [List.getElem?_set_self (List.getElem?_eq_some_iff.mp h0).1, h0]
      · rw [List.getElem?_set_ne hk]
    show StD K _ ρ (.nx (ρ.set i (some (.dat b))))
    rw [e]
    exact sd_F h sd_next
/-- a test that is not met -/
theorem sd_skip (h : EvB K c ρ p) (e : p = false) : StD K (tIfS c t tNext) ρ (.nx ρ) := sd_ifn h e sd_next
/-- loops that leave the slots as they stand -/
theorem sd_forLc (he : EvD K te ρ (.lst ds)) (hs : ∀ (n : Nat) (d : D), ds[n]? = some d → Turn K t (ρ.set j (some (.dat d))) ρ) : StD K (tFor (iList K te) (gName j) t) ρ (.nx ρ) := sd_forL he (fun _ => ρ) rfl fun n d _ h => hs n d h
theorem sd_forTc (he : EvD K te ρ (.tup ds)) (hs : ∀ (n : Nat) (d : D), ds[n]? = some d → Turn K t (ρ.set j (some (.dat d))) ρ) : StD K (tFor (iTup K te) (gName j) t) ρ (.nx ρ) := sd_forT he (fun _ => ρ) rfl fun n d _ h => hs n d h
theorem sd_forRc {ta : TA} {n : Int} (he : EvS K ta ρ [.int n]) (hn : n ≤ 1000000) (h62 : -1000000 ≤ n) (hs : ∀ k : Nat, k < n.toNat → Turn K t (ρ.set j (some (.dat (.int (k : Int))))) ρ) : StD K (tFor (iRng1 ta) (gName j) t) ρ (.nx ρ) := sd_forR he hn h62 (fun _ => ρ) rfl fun k h => hs k h
theorem turn_nx (h : StD K t ρ (.nx ρ')) (l : LeR ρ'' ρ') : Turn K t ρ ρ'' := .inl (sd_wk h l)
theorem ev_eqE (ha : EvR K ta ρ a) (hb : EvR K tb ρ b) (oa : a.ok) (ob : b.ok) : EvD K (tOp (rEqD K) ta tb) ρ (.bl (eqD a b)) := ev_opS ha hb (rs_eq oa ob)
theorem ev_neE (ha : EvR K ta ρ a) (hb : EvR K tb ρ b) (oa : a.ok) (ob : b.ok) : EvD K (tOp (rNeD K) ta tb) ρ (.bl (!eqD a b)) := ev_opS ha hb (rs_ne oa ob)
theorem ev_neg {i : Int} (ha : EvD K ta ρ (.int i)) : EvD K (tUn (rU fun i => .int (-i)) ta) ρ (.int (-i)) := fun G0 H0 G H σ Q s k => ha G0 H0 G H σ _ s fun v G1 H1 g1 r1 => by
  cases r1
  exact ⟨i, rfl, k _ G1 H1 g1 (.int _)⟩
theorem ev_chainI {x y z : Int} {f g : Int → Int → Bool} (ha : EvD K ta ρ (.int x)) (hb : EvD K tb ρ (.int y)) (hc : EvD K tc ρ (.int z)) : EvD K (tChain (rI0 fun i j => .bl (f i j)) (rI0 fun i j => .bl (g i j)) ta tb tc) ρ (.bl (f x y && g y z)) :=
  ev_chain ha hb (rs_I0b (g := f)) (fun _ => hc) fun _ => rs_I0b (g := g)
end
theorem RNum.mk {ns : List Int} {k : Int} (h : 0 ≤ k) : RNum [scr ns, .int k] (.int (num ns k)) := ⟨ns, k, rfl, h, rfl⟩
/-! ### attributes -/
theorem look_hd {α : Type} {f : Str} {d : α} {r : List (Str × α)} : List.lookup f ((f, d) :: r) = some d := by
  rw [List.lookup_cons, beq_self_eq_true]
theorem look_tl {α : Type} {f g : Str} {d : α} {r : List (Str × α)} (h : ¬ f = g) : List.lookup f ((g, d) :: r) = List.lookup f r := by
  rw [List.lookup_cons, beq_eq_false_iff_ne.mpr h]
theorem put_nil {f : Str} {d : D} : putD f d [] = [(f, d)] := rfl
theorem put_tl {f g : Str} {d e : D} {r : List (Str × D)} (h : ¬ g = f) : putD f d ((g, e) :: r) = (g, e) :: putD f d r := by
  show (if g = f then _ else _) = _
  rw [if_neg h]
/-! ### isinstance of written types -/
section
variable {K : PySem.W.Frag}
theorem isi_int_int {i : Int} : RcS K (rIsi K) [.int i, .cls (.ty "int")] (.bl true) := rs_isi (.int i) (.ty _) (kit_ty (by decide +kernel))
theorem isi_int_bool {i : Int} : RcS K (rIsi K) [.int i, .cls (.ty "bool")] (.bl false) := rs_isi (.int i) (.ty _) (kit_ty (by decide +kernel))
theorem isi_bl_bool {i : Bool} : RcS K (rIsi K) [.bl i, .cls (.ty "bool")] (.bl true) := rs_isi (.bl i) (.ty _) (kit_ty (by decide +kernel))
theorem isi_bl_int {i : Bool} : RcS K (rIsi K) [.bl i, .cls (.ty "int")] (.bl true) := rs_isi (.bl i) (.ty _) (kit_ty (by decide +kernel))
theorem isi_tup_tup {ds : List D} : RcS K (rIsi K) [.tup ds, .cls (.ty "tuple")] (.bl true) := rs_isi (.tup ds) (.ty _) (kit_ty (by decide +kernel))
theorem isi_lst_tup {ds : List D} : RcS K (rIsi K) [.lst ds, .cls (.ty "tuple")] (.bl false) := rs_isi (.lst ds) (.ty _) (kit_ty (by decide +kernel))
end
/-! ### the law at last -/
def RLaw (ds : List D) (d : D) : Prop := ∃ ns : List Int, ds = [scr ns] ∧ ns.length ≤ 63 ∧ d = .bl true
theorem law_sp {K : PySem.W.Frag} {H : Hp} {a : Addr} {ns : List Int} (hl : ns.length ≤ 63) (hS : SqL K H a (ns.map V.int)) : spD K 1 RLaw [.ref a] H (fun v _ => v = .bl true) fun _ _ _ => False :=
  ⟨H, [scr ns], .bl true, rfl, Ex.refl H, .cons (.lst hS RpA.ints) .nil, ⟨ns, rfl, hl, rfl⟩, fun v G' H' _ r => by cases r; rfl⟩
/-! ### from the heap behind the top -/
section
variable {K : PySem.W.Frag} {h : Heap} {mg : Str → Option Value} {x m : Str} {st : Stmt} {ps : List Str} {f C : Addr} {oc : Value} {od an : Option Addr} {osl : Array (Option Value)} {kV doc pm cdv ct : Value}
theorem has_mk (x : Str) (st : Stmt) (ps : List Str) (X : K.In h) (G : h.Ns mainGlobals mg)
    (hb : ∀ (kV doc pm : Value) (an : Option Addr) (cdv ct : Value) (us : List Value), us.length = ps.length → bindArgs (PySem.W.fnOf x x (defArgs st) (defBody st) (defScope st) .none kV doc pm an cdv ct) ⟨us, []⟩ = pure (ps.zip us))
    (a : PySem.W.nsIn K mainGlobals x = some (some (.ref f))) (l : K.lookup f = some ⟨oc, od, .func (PySem.W.fnOf x x (defArgs st) (defBody st) (defScope st) .none kV doc pm an cdv ct), osl⟩)
    (c : PySem.W.codeIn K cdv x = true) (k : PySem.W.keepIn K (.ref f) = true) : Has K mg x st ps := by
  have F := fun_mk (st := st) l c k
  exact ⟨f, _, F, PySem.W.mg_of X G a, F.binds hb, fun s us hl => .of_eq (hb kV doc pm an cdv ct us hl)⟩
theorem hasM_mk (m q : Str) (st : Stmt) (ps : List Str)
    (hb : ∀ (kV doc pm : Value) (an : Option Addr) (cdv ct : Value) (us : List Value), us.length = ps.length → bindArgs (PySem.W.fnOf m q (defArgs st) (defBody st) (defScope st) .none kV doc pm an cdv ct) ⟨us, []⟩ = pure (ps.zip us))
    (a : PySem.W.findIn K (.ref C) m = some (some (.ref f))) (i : PySem.W.isFn K (.ref f) = true) (l : K.lookup f = some ⟨oc, od, .func (PySem.W.fnOf m q (defArgs st) (defBody st) (defScope st) .none kV doc pm an cdv ct), osl⟩)
    (c : PySem.W.codeIn K cdv q = true) (k : PySem.W.keepIn K (.ref f) = true) : ∃ f, HasM K C m q st ps f := by
  have F := fun_mk (st := st) l c k
  exact ⟨f, ⟨_, F, F.binds hb⟩, a, i⟩
theorem ccls_mk (x : Str) (X : K.In h) (G : h.Ns mainGlobals mg) (a : PySem.W.nsIn K mainGlobals x = some (some (.ref C)))
    (pg : PySem.W.plainGet K C Str.empty = true) (hd : PySem.W.hasDictIn K C = true) (po : PySem.W.plainOver K C = true) (sa : PySem.W.findIn K (.ref C) "__setattr__" = some (some (.builtin "object.__setattr__"))) (mk : PySem.W.makesIn K C = true) (kc : PySem.W.keepIn K (.ref C) = true) : CCls K mg x C :=
  ⟨PySem.W.mg_of X G a, ⟨pg, hd, po, sa⟩, mk, kc⟩
theorem na_mk {f : Str} (h : PySem.W.findIn K (.ref C) f = some none) : NoAttr K C f := h
/-- the law's own end -/
theorem Has.fin {P : Program} {w : World} {N : List Str} {k : Nat} {fa : Addr} (H0 : Has K mg "law" st ["_law_script"]) (hm : mg "law" = some (.ref fa)) (S : FnScope N ["_law_script"] (defScope st))
    (hbody : ∀ base : Heap, K.In base → base.Ns mainGlobals mg → ∀ (f : Addr) (cdv : Value) (A : Around) (outer : List Env) (s : Shared) (H : Hp) (E : XK), Room k (A.deeper (envOfC "law" (defScope st) s.heap.objs.size f cdv)) →
      ∃ t, PSs (cxOf CX0 P w K mg base N "law" (defScope st) f cdv A outer s H E).nox (defBody st) t ∧ ∀ ds d, RLaw ds d → Ends1 K t (rho0 N ds) d) :
    ∃ fd : FuncData, (∀ (s : Shared) (u : Value), BindsTo s fd ⟨[u], []⟩ [("_law_script", u)]) ∧ ∀ base : Heap, K.In base → base.Ns mainGlobals mg → FnOk P w K mg base CX0 (k + 1) fa fd ["_law_script"] (spD K 1 RLaw) := by
  obtain ⟨f, fd, F, m, b, bt⟩ := H0.ex
  rw [hm] at m
  cases m
  exact ⟨fd, fun s u => bt s [u] rfl, fun base h1 h2 => fn_D F S rfl fun cdv A outer s H E hr => hbody base h1 h2 fa cdv A outer s H E hr⟩
theorem walk_law {l : PySem.W.OpenLaw} {q : Program} {loose : List Str} {XP : (Str → Option Value) → Heap → Prop} {YP : World → Heap → Prop} {d : DefRec} {K : Params → PySem.W.Frag} {k : Nat} (hk : Room k callerA) (hn : l.most = some 63) (hdf : d.params.defaults = [])
    (hY : ∀ (w : World) (h : Heap), YP w h → (K w.params).In h)
    (F : ∀ (w : World) (mg : Str → Option Value) (fa : Addr) (h : Heap), (K w.params).In h → h.Ns mainGlobals mg → mg d.name = some (.ref fa) →
      ∃ fd : FuncData, (∀ (s : Shared) (u : Value), BindsTo s fd ⟨[u], []⟩ [("_law_script", u)]) ∧ ∀ base : Heap, (K w.params).In base → base.Ns mainGlobals mg → FnOk l.prog w (K w.params) mg base CX0 k fa fd ["_law_script"] (spD (K w.params) 1 RLaw)) :
    PySem.W.WalkO q loose XP YP l.row.toRowW d [] (fun f vs => PySem.call f vs) :=
  L2.walk_of (n := 63) (k := k) (x := "_law_script") (CX := fun _ => CX0) (sp := fun w => spD (K w.params) 1 RLaw) hn (by decide) hdf hk hY F (fun _ _ a ns hl _ hS => law_sp hl hS) fun _ _ _ _ _ z => z
end
end Ax
namespace Ax
open PySem PySem.Spec PyProof.Rows L2 Evl
section
variable {K : PySem.W.Frag} {ρ ρ' : Rho} {t u : TS} {o : Out} {c : TT} {p : Bool}
/-- behind a statement some slots of a kind -/
theorem sd_seqE {ι : Type} (P : ι → Prop) (f : ι → Rho) (h : ∃ i, P i ∧ StD K t ρ (.nx (f i))) (k : ∀ i, P i → StD K u (f i) o) : StD K (tSeq t u) ρ o := by
  obtain ⟨i, h1, h2⟩ := h
  exact sd_seq h2 (k i h1)
theorem sd_ifE {ι : Type} (P : ι → Prop) (f : ι → Rho) (h : EvB K c ρ p) (h1 : p = true → ∃ i, P i ∧ StD K t ρ (.nx (f i))) (h2 : p = false → ∃ i, P i ∧ StD K u ρ (.nx (f i))) : ∃ i, P i ∧ StD K (tIfS c t u) ρ (.nx (f i)) := by
  cases p with
  | true =>
    obtain ⟨i, a, b⟩ := h1 rfl
    exact ⟨i, a, sd_T h b⟩
  | false =>
    obtain ⟨i, a, b⟩ := h2 rfl
    exact ⟨i, a, sd_F h b⟩
end
end Ax
namespace Ax
open PySem PySem.Spec PyProof.Rows L2 Evl
theorem cls_mk {K : PySem.W.Frag} {C : Addr} (pg : PySem.W.plainGet K C Str.empty = true) (hd : PySem.W.hasDictIn K C = true) (po : PySem.W.plainOver K C = true) (sa : PySem.W.findIn K (.ref C) "__setattr__" = some (some (.builtin "object.__setattr__"))) : Cls K C := ⟨pg, hd, po, sa⟩
theorem ty_ins {K : PySem.W.Frag} {C : Addr} (cl : Cls K C) (ha : PySem.W.findIn K (.ref C) "__class__" = some (some (.builtin "object.__class__")))
      (hn : PySem.W.specialIn K (.builtin "object.__class__") "__get__" = some (some (.builtin "getset_descriptor.__get__"))) (htk : PySem.W.takesIn K (.builtin "object.__class__") = some true)
      (hm : PySem.W.mroIn K C (.type "object") = some true) : ∀ fs : List (Str × D), Ty K (.ins C fs) (.ref C) := fun _ => .ins cl ha hn htk hm
end Ax
namespace Ax
open PySem PySem.Spec PyProof.Rows L2 Evl
/-- a def that hands back something of a kind -/
def spE (K : PySem.W.Frag) (n : Nat) (A : List D → Prop) (R : List D → D → Prop) : Sp := fun vs H Q _ => ∃ (G : Hp) (ds : List D), vs.length = n ∧ Ex G H ∧ RpA K G vs ds ∧ A ds ∧ ∀ d v G' H', R ds d → Go G H G' H' → Rp K G' v d → Q v H'
section
variable {P : Program} {w : World} {K : PySem.W.Frag} {mg : Str → Option Value} {base : Heap} {x qual : Str} {k n : Nat} {ps N : List Str} {st : Stmt} {A A_ : List D → Prop} {R : List D → D → Prop} {ρ : Rho} {ds : List D}
theorem fn_E {f : Addr} {fd : FuncData} (F : Fun K x qual st f fd) (S : FnScope N ps (defScope st)) (hn : ps.length = n)
    (hbody : ∀ (cdv : Value) (A : Around) (outer : List Env) (s : Shared) (H : Hp) (E : XK), Room k (A.deeper (envOfC qual (defScope st) s.heap.objs.size f cdv)) →
      ∃ t, PSs (cxOf CX0 P w K mg base N qual (defScope st) f cdv A outer s H E).nox (defBody st) t ∧ ∀ ds, A_ ds → ∃ d, R ds d ∧ Ends1 K t (rho0 N ds) d) : FnOk P w K mg base CX0 (k + 1) f fd ps (spE K n A_ R) := by
  refine F.ok S (fun vs H Q E h => ?_) (fun cdv A outer s H vs Q E hr h => ?_)
  · obtain ⟨_, _, h, _⟩ := h
    rw [h, hn]
  · obtain ⟨t, h1, h2⟩ := hbody cdv A outer s H E hr
    obtain ⟨G, ds, hl, e, r, hA, q⟩ := h
    refine ⟨t, h1, ?_⟩
    have s0 := sl_start (N := N) e r
    obtain ⟨d, hd, h⟩ := h2 ds hA
    cases h with
    | rt h => exact h G H G H _ _ s0 fun v G' H' g r => q d v G' H' hd g r
    | nx h => exact h G H G H _ _ s0 fun G' H' σ' _ s' => q .non .non G' H' hd s'.go .non
theorem Has.calE (h : Has K mg x st ps) (S : FnScope N ps (defScope st)) (hn : ps.length = n)
    (hbody : ∀ (f : Addr) (cdv : Value) (A : Around) (outer : List Env) (s : Shared) (H : Hp) (E : XK), Room k (A.deeper (envOfC x (defScope st) s.heap.objs.size f cdv)) →
      ∃ t, PSs (cxOf CX0 P w K mg base N x (defScope st) f cdv A outer s H E).nox (defBody st) t ∧ ∀ ds, A_ ds → ∃ d, R ds d ∧ Ends1 K t (rho0 N ds) d) : Cal P w K mg base x (k + 1) ps (spE K n A_ R) := by
  obtain ⟨f, fd, F, m, b, _⟩ := h.ex
  exact ⟨f, fd, fn_E F S hn fun cdv A outer s H E hr => hbody f cdv A outer s H E hr, m, F.kp, b⟩
theorem sd_asgE {E : XK} {ta : TA} {u : TS} {o : Out} {i : Nat} (h : EvS K ta ρ ds) (hn : ds.length = n) (ha : A ds) (k : ∀ d, R ds d → StD K u (ρ.set i (some (.dat d))) o) : StD K (tSeq (tAsg (tCall (spE K n A R) [] E ta) (gName i)) u) ρ o := fun G0 H0 G H σ W s q =>
  h G0 H0 G H σ _ s fun vs G1 H1 g1 r1 => ⟨G1, ds, by rw [List.append_nil, r1.length]; exact hn, g1.gh, by rw [List.append_nil]; exact r1, ha, fun d v G' H' hd g r =>
    k d hd G0 H0 G' H' _ W ((s.step (g1.trans g)).set r) (q.mono (g1.trans g).gg)⟩
end
end Ax
namespace Ax
open PySem PySem.Spec PyProof.Rows L2 Evl
/-- a body that hands back something of R -/
def StX (K : PySem.W.Frag) (t : TS) (ρ : Rho) (R : D → Prop) : Prop := ∃ d, R d ∧ StD K t ρ (.rt d)
section
variable {K : PySem.W.Frag} {ρ ρ' : Rho} {t u : TS} {R : D → Prop} {te : TE} {d : D}
theorem stx_seq (h : StD K t ρ (.nx ρ')) (k : StX K u ρ' R) : StX K (tSeq t u) ρ R := let ⟨d, a, b⟩ := k; ⟨d, a, sd_seq h b⟩
theorem stx_seqR (h : StX K t ρ R) : StX K (tSeq t u) ρ R := let ⟨d, a, b⟩ := h; ⟨d, a, sd_seqR b⟩
theorem stx_seqE {ι : Type} (P : ι → Prop) (f : ι → Rho) (h : ∃ i, P i ∧ StD K t ρ (.nx (f i))) (k : ∀ i, P i → StX K u (f i) R) : StX K (tSeq t u) ρ R := by
  obtain ⟨i, h1, h2⟩ := h
  exact stx_seq h2 (k i h1)
theorem stx_ret (h : EvD K te ρ d) (r : R d) : StX K (tRet te) ρ R := ⟨d, r, sd_ret h⟩
theorem StX.ends {ρ : Rho} (h : StX K t ρ R) : ∃ d, R d ∧ Ends1 K t ρ d := let ⟨d, a, b⟩ := h; ⟨d, a, .rt b⟩
end
end Ax
namespace Ax
open PySem PySem.Spec PyProof.Rows L2 Evl
theorem exI {K : PySem.W.Frag} {ι : Type} {f : ι → Rho} {ρ : Rho} {t : TS} {i : ι} (h : StD K t ρ (.nx (f i))) : ∃ i, True ∧ StD K t ρ (.nx (f i)) := ⟨i, trivial, h⟩
end Ax
namespace Ax
open PySem PySem.Spec PyProof.Rows L2 Evl
theorem kit_self {K : PySem.W.Frag} {C : Addr} : PySem.W.kitOne K (.ref C) (.ref C) = some true := by
  unfold PySem.W.kitOne
  rw [if_pos (beq_self_eq_true _)]
end Ax
namespace Ax
open PySem PySem.Spec PyProof.Rows L2 Evl
theorem exI2 {K : PySem.W.Frag} {α β : Type} {f : α × β → Rho} {ρ : Rho} {t : TS} {a : α} {b : β} (h : StD K t ρ (.nx (f (a, b)))) : ∃ i, True ∧ StD K t ρ (.nx (f i)) := ⟨(a, b), trivial, h⟩
end Ax
namespace Ax
open PySem PySem.Spec PyProof.Rows L2 Evl
section
variable {X : Cx} {x m : Str} {k : Nat} {ps : List Str} {sp : Sp} {e o : Expr} {es : List Expr} {t : TA} {ta : TE} {p pos apos : Pos} {C : Addr}
theorem pe_methC {pl : Sem Bool} (he : PE X o ta) (M : CCls X.K X.mg x C) (c : CalM X.prog X.w X.K X.mg X.base C m k ps sp) (hr : Room k X.A) (ha : PA X (e :: es) t)
    (hst : starEach (e :: es) X.env = (false, eval e X.env) :: starEach es X.env := by rfl) (hpl : (backTo pos (starEach es X.env)).any (·.1) = false := by rfl)
    (ht : eval (.Call (.Attribute o m apos) (e :: es) [] pos) X.env = (do
      let ov ← eval o X.env
      standAt apos.atName
      let (f, first) ← holding [ov] (getMethod ov m pl)
      callWith pos f first (backTo pos (starEach (e :: es) X.env)) (backToKw pos (keywordEach [] X.env))) := by rfl) :
    PE X (.Call (.Attribute o m apos) (e :: es) [] pos) (tMeth C m sp [] E0 ta t) := by
  obtain ⟨f, fd, F, m, fn, kp, b, _⟩ := c.ex
  exact pe_meth he M.cl ⟨m, fn, kp⟩ F hr b .nil pass0 ha hst hpl ht
theorem pe_methC0 {pl : Sem Bool} (he : PE X o ta) (M : CCls X.K X.mg x C) (c : CalM X.prog X.w X.K X.mg X.base C m k ps sp) (hr : Room k X.A)
    (ht : eval (.Call (.Attribute o m apos) [] [] pos) X.env = (do
      let ov ← eval o X.env
      standAt apos.atName
      let (f, first) ← holding [ov] (getMethod ov m pl)
      callWith pos f first (backTo pos (starEach [] X.env)) (backToKw pos (keywordEach [] X.env))) := by rfl) :
    PE X (.Call (.Attribute o m apos) [] [] pos) (tMeth C m sp [] E0 ta tNil) := by
  obtain ⟨f, fd, F, m, fn, kp, b, _⟩ := c.ex
  exact pe_meth0 he M.cl ⟨m, fn, kp⟩ F hr b .nil pass0 ht
end
end Ax

namespace Ax
open PySem PySem.Spec PyProof.Rows L2 Evl
/-! ### slices -/
def cutD (ds : List D) (lo hi : Option Int) : List D := (ds.drop (HT.sIx ds.length 0 lo)).take (HT.sIx ds.length ds.length hi - HT.sIx ds.length 0 lo)
def rSlX (K : PySem.W.Frag) : V → Option Int → Option Int → Hp → VK → Prop := fun x lo hi H Q => rSlL K x lo hi H Q ∨ (rSlA K x lo hi H Q ∨ rSlS x lo hi H Q)
theorem sl_any {X : Cx} : SlR X (rSlX X.K) := sl_list.or (sl_tupA.or sl_str)
section
variable {K : PySem.W.Frag} {ρ : Rho} {te tf : TE} {tl th : TO} {ds es : List D} {lo hi : Option Int} {d : D} {ta : TA} {C : Addr} {fs : List (Str × D)} {n : Nat}
theorem cut_rp {H : Hp} {vs : List V} (r : RpA K H vs ds) : RpA K H (cutV vs lo hi) (cutD ds lo hi) := by
  unfold cutV cutD
  rw [r.length]
  exact (r.drop _).take _
theorem eo_no : EvO K tNoPart ρ none := fun G0 H0 G H σ Q s k => k G H (Go.refl s.gh)
theorem eo_so {i : Int} (h : EvD K te ρ (.int i)) : EvO K (tPart te) ρ (some i) := fun G0 H0 G H σ Q s k => h G0 H0 G H σ _ s fun v G1 H1 g1 r1 => by
  cases r1
  exact ⟨i, rfl, k G1 H1 g1⟩
theorem ev_slT (h : EvD K te ρ (.tup ds)) (h1 : EvO K tl ρ lo) (h2 : EvO K th ρ hi) : EvD K (tSl (rSlX K) te tl th) ρ (.tup (cutD ds lo hi)) := fun G0 H0 G H σ Q s k =>
  h G0 H0 G H σ _ s fun v G1 H1 g1 r1 => h1 G0 H0 G1 H1 σ _ (s.step g1) fun G2 H2 g2 => h2 G0 H0 G2 H2 σ _ (s.step (g1.trans g2)) fun G3 H3 g3 => by
    have r3 := r1.mono (g2.gg.trans g3.gg)
    have g := (g1.trans g2).trans g3
    cases r3 with
    | tup hs a =>
      rename_i p xs
      refine .inr (.inl ⟨p, xs, rfl, ex_t g3.gh hs, fun z => ?_, fun _ q hq => ?_⟩)
      · refine k _ G3 H3 g (.tup hs ?_)
        have e : cutV xs lo hi = xs := by
          unfold cutV
          rw [z.1, z.2, List.drop_zero, Nat.sub_zero, List.take_length]
        have := cut_rp (lo := lo) (hi := hi) a
        rw [e] at this
        exact this
      · have w := Go.new (o := .tup (cutV xs lo hi)) g3.gh hq
        exact k _ _ _ (g.trans w) (.tup (.inl (.inl upd_same)) ((cut_rp a).mono w.gg))
theorem en_slL (h : EvD K te ρ (.lst ds)) (h1 : EvO K tl ρ lo) (h2 : EvO K th ρ hi) : EvN K (tSl (rSlX K) te tl th) ρ (cutD ds lo hi) := fun G0 H0 G H σ Q s k =>
  h G0 H0 G H σ _ s fun v G1 H1 g1 r1 => h1 G0 H0 G1 H1 σ _ (s.step g1) fun G2 H2 g2 => h2 G0 H0 G2 H2 σ _ (s.step (g1.trans g2)) fun G3 H3 g3 => by
    have r3 := r1.mono (g2.gg.trans g3.gg)
    cases r3 with
    | lst hs a => exact .inl ⟨_, _, rfl, ex_l g3.gh hs, fun q hq => k q _ G3 H3 ((g1.trans g2).trans g3) hq (cut_rp a)⟩
theorem ev_slS {z : Str} (h : EvD K te ρ (.str z)) (h1 : EvO K tl ρ lo) (h2 : EvO K th ρ hi) (hz : z.length ≤ 100000) : EvD K (tSl (rSlX K) te tl th) ρ (.str (cutS z lo hi)) := fun G0 H0 G H σ Q s k =>
  h G0 H0 G H σ _ s fun v G1 H1 g1 r1 => h1 G0 H0 G1 H1 σ _ (s.step g1) fun G2 H2 g2 => h2 G0 H0 G2 H2 σ _ (s.step (g1.trans g2)) fun G3 H3 g3 => by
    cases r1
    exact .inr (.inr ⟨z, rfl, sz_of hz, k _ G3 H3 ((g1.trans g2).trans g3) (.str _)⟩)
/-! ### an instance is called -/
/-- which promise the __call__ of a class has -/
def tCallI (S : Addr → Sp → Prop) (tf : TE) (t : TA) : TE := fun σ H Q => tf σ H fun y H1 => ∃ a C sp, y = V.ref a ∧ S C sp ∧ t σ H1 fun vs H2 => (∃ dx gs, H2 a = some (.ins C dx gs)) ∧ sp (V.ref a :: vs) H2 Q E0
theorem ev_callI {S : Addr → Sp → Prop} {R : List D → D → Prop} (hf : EvD K tf ρ (.ins C fs)) (h : EvS K ta ρ ds) (hS : S C (spD K n R)) (hn : ds.length + 1 = n) (hr : R (.ins C fs :: ds) d) : EvD K (tCallI S tf ta) ρ d := fun G0 H0 G H σ Q s k =>
  hf G0 H0 G H σ _ s fun v G1 H1 g1 r1 => by
    have r1' := r1
    cases r1 with
    | ins q a =>
      refine ⟨_, C, _, rfl, hS, ?_⟩
      refine h G0 H0 G1 H1 σ _ (s.step g1) fun vs G2 H2 g2 r2 => ⟨⟨_, _, (g2.gg.trans g2.gh) _ _ q⟩, ?_⟩
      refine ⟨G2, _, d, ?_, g2.gh, .cons (r1'.mono g2.gg) r2, hr, fun w G' H' g r => k w G' H' ((g1.trans g2).trans g) r⟩
      rw [List.length_cons, r2.length]
      exact hn
/-- a new instance of a class without an __init__ -/
def tMk0 (C : Addr) : TE := fun σ H Q => ∀ x dx, H x = none → H dx = none → dx ≠ x → Q (.ref x) (upd (upd H dx (.own x)) x (.ins C dx []))
theorem ev_mk0 : EvD K (tMk0 C) ρ (.ins C []) := fun G0 H0 G H σ Q s k => by
  intro x dx hx hdx ne
  have w := Go.own (o := .own x) s.gh hdx
  have hx2 : (upd H dx (.own x)) x = none := by rw [upd_ne (Ne.symm ne)]; exact hx
  have w2 := Go.new (o := .ins C dx []) w.gh hx2
  exact k _ _ _ (w.trans w2) (.ins upd_same .nil)
/-- .. with defaults -/
theorem ev_newD {E : XK} {dvs : List V} {des : List D} {R : List D → List (Str × D) → Prop} (hd : ∀ G, RpA K G dvs des) (hn : des.length = n) (hr : R des fs) : EvD K (tMake C (spI K C n R) dvs E tNil) ρ (.ins C fs) := fun G0 H0 G H σ Q s k => by
  have key := ev_new (K := K) (ρ := ρ) (C := C) (fs := fs) (n := n) (E := E) (R := R) (t := fun _ H Q => Q dvs H) (ds := des) (fun G0 H0 G H σ Q s k => k dvs G H (Go.refl s.gh) (hd G)) hn hr
  have := key G0 H0 G H σ Q s k
  intro x dx h1 h2 h3
  have z := this x dx h1 h2 h3
  rw [List.append_nil] at z
  exact z
end
section
variable {X : Cx} {x : Str} {k : Nat} {ps : List Str} {sp : Sp} {e fe : Expr} {es : List Expr} {t : TA} {tf : TE} {p pos : Pos} {C : Addr}
theorem pe_callI {S : Addr → Sp → Prop} (hf : PE X fe tf) (c : ∀ C sp, S C sp → ∃ ps, CalM X.prog X.w X.K X.mg X.base C "__call__" k ps sp) (hr : Room k X.A) (ha : PA X (e :: es) t)
    (ht : eval (.Call fe (e :: es) [] pos) X.env = (do callWith pos (← eval fe X.env) [] (backTo pos (starEach (e :: es) X.env)) (backToKw pos (keywordEach [] X.env))) := by rfl)
    (he : starEach (e :: es) X.env = (false, eval e X.env) :: starEach es X.env := by rfl) (hpl : (backTo pos (starEach es X.env)).any (·.1) = false := by rfl) : PE X (.Call fe (e :: es) [] pos) (tCallI S tf t) := by
  refine ⟨fun pins s σ H Q I h => ?_⟩
  refine Call_ (thn (hf.run pins s σ H _ I h) fun u s1 ⟨y, H1, I1, ry, a, C, sp, ey, hS, q⟩ => ?_) ht
  subst ey
  obtain rfl : u = Value.ref a := ry
  obtain ⟨ps, cm⟩ := c C sp hS
  obtain ⟨f, fd, F, m, fn, kp, b, fi⟩ := cm.ex
  refine _root_.StX.callO_with (thn (ha.run pos pins s1 σ H1 _ I1 q) fun us s2 ⟨vs, H2, I2, r, ⟨dx, gs, hi⟩, q2⟩ => ?_) he hpl
  obtain ⟨mA, O, _⟩ := ins_get I2.hok hi
  obtain ⟨od, J, _⟩ := O.look
  refine ⟨⟨C, _, _, J, rfl⟩, ?_⟩
  have hl := F.len _ _ _ _ q2
  have r2 : Vals (V.ref a :: vs) (Value.ref a :: us) := .cons rfl r
  refine wpAny_call (PySem.W.kco_code I2.kIn J rfl m fn fi (codeAny_mono (F.run X.A X.stack s2 H2 ⟨.ref a :: us, []⟩ (.ref a :: us) (.ref a :: vs) Q E0 hr I2.env0 (by
    have := b s2 (.ref a :: us) I2.kIn (by rw [List.append_nil, ← r2.length]; exact hl)
    simpa using this) r2 q2) fun r s' hq => ?_))
  cases r with
  | error e => exact hq.elim
  | ok fl =>
    cases fl with
    | ret w => exact I2.after hq
    | next => exact False.elim hq
    | brk => exact False.elim hq
    | cont => exact False.elim hq
theorem pe_mk0 (M : CCls X.K X.mg x C) (hi : PySem.W.findIn X.K (.ref C) "__init__" = some (some (.builtin "object.__init__"))) (hg : Gl X x := by rfl) (hdb : (x == ("__debug__" : Str)) = false := by decide) : PE X (.Call (.Name x p) [] [] pos) (tMk0 C) := by
  refine ⟨fun pins s σ H Q I h => ?_⟩
  refine wpAny_Call_Name_kw (ld_glob I hg M.mgC ?_ hdb)
  refine PySem.W.callWith_K0 I.kIn M.kp (wpAny_call (make_map0 I.kIn M.makes hi (fun self => PySem.W.Looks.of_pure (PySem.W.oi_bind self)) ?_))
  have hq := h (s.heap.objs.size + 1) s.heap.objs.size (I.hok.fresh (Nat.le_succ _)) (I.hok.fresh (Nat.le_refl _)) (Nat.ne_of_lt (Nat.lt_succ_self _))
  have I2 := Inv.made (C := C) I
  have Y := PySem.W.makes_of (M := model X.prog X.w) I.kIn M.makes
  have e2 : ((s.heap.push PySem.W.emptyDict).push (PySem.W.instObj C s.heap.objs.size)).get? (s.heap.objs.size + 1) = some (PySem.W.instObj C s.heap.objs.size) := by
    have := Heap.get?_push_size (s.heap.push PySem.W.emptyDict) (o := PySem.W.instObj C s.heap.objs.size) rfl
    rwa [Heap.size_push] at this
  have t1 : PySem.W.Looks (model X.prog X.w) ((s.heap.push PySem.W.emptyDict).push (PySem.W.instObj C s.heap.objs.size)) (typeOf (.ref (s.heap.objs.size + 1))) (.ref C) := (PySem.W.Looks.ld e2).andThen .now
  have t2 : PySem.W.Looks (model X.prog X.w) ((s.heap.push PySem.W.emptyDict).push (PySem.W.instObj C s.heap.objs.size)) (isInstance (.ref (s.heap.objs.size + 1)) (.type "object")) true := t1.andThen (Y.top.keeps fun b o e => Heap.get?_push_of_some _ (Heap.get?_push_of_some _ e))
  refine codeAny_call_builtin PySem.W.oi_plain PySem.W.entry_oi (@PySem.W.check_slot (model X.prog X.w) _ _ _ "object.__init__" "object" "__init__" (.ref (s.heap.objs.size + 1)) [] [] _ PySem.W.oi_kind PySem.W.oi_split t2 (PySem.W.oi_args (.ref (s.heap.objs.size + 1))) ?_)
  rw [PySem.W.oi_run]
  exact wpAny_pure ⟨rfl, ⟨V.ref (s.heap.objs.size + 1), _, I2, rfl, hq⟩⟩
/-- C() where the __init__'s parameters all have defaults -/
structure DflM (K : PySem.W.Frag) (C : Addr) (ps : List Str) (dvs : List V) : Prop where
  ex : ∃ (f : Addr) (fd : FuncData) (ds : List Value), PySem.W.findIn K (.ref C) "__init__" = some (some (.ref f)) ∧ Vals dvs ds ∧ Binds K fd ps ds
structure CalMD (P : Program) (w : World) (K : PySem.W.Frag) (mg : Str → Option Value) (base : Heap) (C : Addr) (x : Str) (k : Nat) (ps : List Str) (sp : Sp) (dvs : List V) : Prop where
  ex : ∃ (f : Addr) (fd : FuncData) (ds : List Value), FnOk P w K mg base CX0 k f fd ps sp ∧ PySem.W.findIn K (.ref C) x = some (some (.ref f)) ∧ PySem.W.isFn K (.ref f) = true ∧ PySem.W.keepIn K (.ref f) = true ∧ Vals dvs ds ∧ Binds K fd ps ds
theorem pe_newD0 {dvs : List V} (M : CCls X.K X.mg x C) (c : CalMD X.prog X.w X.K X.mg X.base C "__init__" k ps sp dvs) (hr : Room (k + 1) X.A) (hg : Gl X x := by rfl) (hdb : (x == ("__debug__" : Str)) = false := by decide) :
    PE X (.Call (.Name x p) [] [] pos) (tMake C sp dvs E0 tNil) := by
  obtain ⟨f, fd, ds, F, m, fn, kp, hv, b⟩ := c.ex
  exact pe_make0 ⟨M.makes, m, fn, M.kp⟩ F hr hg M.mgC b hv pass0 hdb
end
/-! ### an __init__ with one default -/
structure HasMD (K : PySem.W.Frag) (C : Addr) (x q : Str) (st : Stmt) (ps : List Str) (dvs : List V) (f : Addr) : Prop where
  ex : ∃ (fd : FuncData), FunD K x q (defArgs st) (defBody st) (defScope st) dvs [] f fd ∧ Binds K fd ps [] ∧ ∃ ds, Vals dvs ds ∧ Binds K fd ps ds
  at_ : PySem.W.findIn K (.ref C) x = some (some (.ref f))
  fn : PySem.W.isFn K (.ref f) = true
section
variable {P : Program} {w : World} {K : PySem.W.Frag} {mg : Str → Option Value} {base : Heap} {x q : Str} {k n : Nat} {ps N : List Str} {st : Stmt} {C f : Addr} {dvs : List V} {RI : List D → List (Str × D) → Prop} {h : Heap}
theorem fnd_in {fd : FuncData} {params : Arguments} {body : List Stmt} {scope : Scope} {kws : List (Str × V)} (F : FunD K x q params body scope dvs kws f fd) : PySem.W.fnIn K f = true := by
  obtain ⟨oc, od, dV, kV, doc, pm, an, cdv, ct, osl, _, lk, _⟩ := F.ex
  unfold PySem.W.fnIn
  rw [lk]
theorem fn_ID {fd : FuncData} (F : FunD K x q (defArgs st) (defBody st) (defScope st) dvs [] f fd) (Sc : FnScope N ps (defScope st)) (hn : ps.length = n + 1)
    (hbody : ∀ (cdv : Value) (A : Around) (outer : List Env) (s : Shared) (H : Hp) (E : XK), Room k (A.deeper (envOfC q (defScope st) s.heap.objs.size f cdv)) →
      ∃ t, PSs (cxOf CX0 P w K mg base N q (defScope st) f cdv A outer s H E).nox (defBody st) t ∧ ∀ x ds fs, RI ds fs → ∃ ρ', StD K t (rhoI N x C ds) (.nx ρ') ∧ ρ'[0]? = some (some (.obj x C fs))) : FnOk P w K mg base CX0 (k + 1) f fd ps (spI K C n RI) := by
  refine F.ok Sc (fun vs H Q E h => ?_) (fun cdv A outer s H vs Q E hr h => ?_)
  · obtain ⟨x, dx, us, _, _, _, h, hu, _⟩ := h
    rw [h, List.length_cons, hu, hn]
  · obtain ⟨t, h1, h2⟩ := hbody cdv A outer s H E hr
    obtain ⟨x, dx, us, G, ds, fs, rfl, hl, hx, gx, e, r, hR, q⟩ := h
    refine ⟨t, h1.nox, ?_⟩
    have s0 := sl_startI (N := N) e hx gx r
    obtain ⟨ρ', h3, h4⟩ := h2 x ds fs hR
    refine h3 G (delx H x) G H _ _ s0 fun G' H' σ' eG s' => ?_
    obtain ⟨l, g1, g2, g3, el, dy, gs, g4, g5⟩ := s'.mine 0 _ h4 rfl
    subst el
    exact q G' H' dy gs s'.go g3 g4 g5
theorem HasMD.calI (h : HasMD K C x q st ps dvs f) (Sc : FnScope N ps (defScope st)) (hn : ps.length = n + 1)
    (hbody : ∀ (cdv : Value) (A : Around) (outer : List Env) (s : Shared) (H : Hp) (E : XK), Room k (A.deeper (envOfC q (defScope st) s.heap.objs.size f cdv)) →
      ∃ t, PSs (cxOf CX0 P w K mg base N q (defScope st) f cdv A outer s H E).nox (defBody st) t ∧ ∀ x ds fs, RI ds fs → ∃ ρ', StD K t (rhoI N x C ds) (.nx ρ') ∧ ρ'[0]? = some (some (.obj x C fs))) :
    CalM P w K mg base C x (k + 1) ps (spI K C n RI) ∧ CalMD P w K mg base C x (k + 1) ps (spI K C n RI) dvs := by
  obtain ⟨fd, F, b, ds, hv, b2⟩ := h.ex
  have ok := fn_ID F Sc hn hbody
  exact ⟨⟨f, fd, ok, h.at_, h.fn, F.kp, b, fnd_in F⟩, ⟨f, fd, ds, ok, h.at_, h.fn, F.kp, hv, b2⟩⟩
/-- an __init__(self, a = d) out of the heap -/
theorem hasMD_mk (m q : Str) (st : Stmt) (p1 p2 : Str) (dv : V) {T : Addr} {o : Obj} {its : List Value} {nn : Nat} {oc : Value} {od an : Option Addr} {osl : Array (Option Value)} {kV doc pm cdv ct : Value}
    (hb : ∀ (T : Addr) (kV doc pm : Value) (an : Option Addr) (cdv ct : Value) (us its : List Value), us.length = 2 → its.length = 1 →
      ∃ k, bindArgs (PySem.W.fnOf m q (defArgs st) (defBody st) (defScope st) (.ref T) kV doc pm an cdv ct) ⟨us, []⟩ = seqItems? (.ref T) >>= k ∧ k (some its.toArray) = pure ([p1, p2].zip (us ++ its.drop 1)))
    (hb0 : ∀ (T : Addr) (kV doc pm : Value) (an : Option Addr) (cdv ct : Value) (us its : List Value), us.length = 1 → its.length = 1 →
      ∃ k, bindArgs (PySem.W.fnOf m q (defArgs st) (defBody st) (defScope st) (.ref T) kV doc pm an cdv ct) ⟨us, []⟩ = seqItems? (.ref T) >>= k ∧ k (some its.toArray) = pure ([p1, p2].zip (us ++ its.drop 0)))
    (a : PySem.W.findIn K (.ref C) m = some (some (.ref f))) (i : PySem.W.isFn K (.ref f) = true) (l : K.lookup f = some ⟨oc, od, .func (PySem.W.fnOf m q (defArgs st) (defBody st) (defScope st) (.ref T) kV doc pm an cdv ct), osl⟩)
    (lt : K.lookup T = some o) (ot : o.data = .seq its.toArray nn) (hv : Vals [dv] its)
    (c : PySem.W.codeIn K cdv q = true) (k : PySem.W.keepIn K (.ref f) = true) : ∃ f, HasMD K C m q st [p1, p2] [dv] f := by
  have F : FunD K m q (defArgs st) (defBody st) (defScope st) [dv] [] f (PySem.W.fnOf m q (defArgs st) (defBody st) (defScope st) (.ref T) kV doc pm an cdv ct) :=
    ⟨⟨oc, od, .ref T, kV, doc, pm, an, cdv, ct, osl, rfl, l, c, .inr ⟨by simp, T, o, its, nn, rfl, lt, ot, hv⟩, .inl rfl⟩, k⟩
  obtain ⟨ds, h1, h2⟩ := F.binds1 (ps := [p1, p2]) 2 1 (by simp) rfl hb
  obtain ⟨es, h3, h4⟩ := F.binds1 (ps := [p1, p2]) 1 0 (by simp) rfl hb0
  cases h1
  exact ⟨f, ⟨_, F, h2, es, h3, h4⟩, a, i⟩
end
end Ax
namespace Ax
open PySem PySem.Spec PyProof.Rows L2 Evl
theorem cut_from {ds : List D} (j : Nat) : cutD ds (some (j : Int)) none = ds.drop j := by
  unfold cutD
  rw [HT.sIx_nat, HT.sIx_none]
  by_cases h : j ≤ ds.length
  · rw [Nat.min_eq_left h, List.take_of_length_le (by rw [List.length_drop]; omega)]
  · rw [Nat.min_eq_right (by omega), Nat.sub_self, List.take_zero, List.drop_of_length_le (by omega)]
theorem ok_tup {ds : List D} (h : ∀ d ∈ ds, D.sh d = true ∧ D.dep d ≤ 50) : D.ok (.tup ds) :=
  ⟨shs_all ds fun d hd => (h d hd).1, by
    have := deps_all (n := 50) ds fun d hd => (h d hd).2
    show D.deps ds + 1 ≤ 60
    omega⟩
theorem ok_lst {ds : List D} (h : ∀ d ∈ ds, D.sh d = true ∧ D.dep d ≤ 50) : D.ok (.lst ds) :=
  ⟨shs_all ds fun d hd => (h d hd).1, by
    have := deps_all (n := 50) ds fun d hd => (h d hd).2
    show D.deps ds + 1 ≤ 60
    omega⟩
end Ax

namespace Ax
open PySem PySem.Spec PyProof.Rows L2 Evl
local macro_rules | `(tactic| walk_at "side") => `(tactic| first | assumption | exact Nat.le_of_ble_eq_true rfl | omega | (unfold CMul; omega) | (unfold CDiv; omega) | (unfold CPow; decide) | decide)
local macro_rules | `(tactic| walk_at "ok") => `(tactic| first | exact ok_int _ | exact ok_bl _ | exact ok_non | assumption | (apply ok_str; first | assumption | decide +kernel))
local macro_rules | `(tactic| walk_at "rd") => `(tactic| first
  | exact RvS.toD rs_plusI
  | exact RvS.toD (rs_I0b (g := fun i j => decide (i < j)))
  | exact RvS.toD (rs_I0b (g := fun i j => decide (i ≤ j)))
  | exact RvS.toD (rs_I0b (g := fun i j => decide (j < i)))
  | exact RvS.toD (rs_I0b (g := fun i j => decide (j ≤ i)))
  | exact RvS.toD (rs_I0 (g := fun i j => i - j))
  | (refine RvS.toD (rs_I (g := fun i j => i * j) ?_); walk_at "side")
  | (refine RvS.toD (rs_I (g := fun i j => i % j) ?_); walk_at "side")
  | (refine RvS.toD (rs_I (g := fun i j => i / j) ?_); walk_at "side")
  | (refine RvS.toD (rs_I (g := fun i j => i ^ j.toNat) ?_); walk_at "side")
  | (refine RvS.toD (rs_plusS ?_); walk_at "side")
  | (apply rd_plusT; walk_at "side"))
local macro_rules | `(tactic| walk_at "spec") => `(tactic| (apply RNum.mk; walk_at "side"))
local macro_rules | `(tactic| walk_at "cb") => `(tactic| first | exact rs_int1 | exact rs_intB | exact rs_lenL | exact rs_lenT | (apply rs_lenS; walk_at "side") | exact rs_sum | exact rs_max2 | exact isi_int_int | exact isi_int_bool | exact isi_bl_bool | exact isi_bl_int | exact isi_tup_tup | exact isi_lst_tup)
local macro_rules | `(tactic| walk_at "es") => `(tactic| first | exact es_nil | (apply es_cons; (walk_at "ev"); (walk_at "es")))
local macro_rules | `(tactic| walk_at "er") => `(tactic| first | exact er_nil | (apply er_cons; (walk_at "rr"); (walk_at "er")))
local macro_rules | `(tactic| walk_at "rr") => `(tactic| first | exact ev_vo rfl | (apply EvD.rd; walk_at "ev"))
local macro_rules | `(tactic| walk_at "ev") => `(tactic| first
  | exact ev_v rfl
  | exact ev_ci | exact ev_cs | exact ev_cb | exact ev_cn
  | (apply ev_eqE; (walk_at "rr"); (walk_at "rr"); (walk_at "ok"); (walk_at "ok"))
  | (apply ev_neE; (walk_at "rr"); (walk_at "rr"); (walk_at "ok"); (walk_at "ok"))
  | (apply ev_op; (walk_at "ev"); (walk_at "ev"); (walk_at "rd"))
  | (apply ev_cbS; (walk_at "er"); (walk_at "cb"))
  | (apply ev_call; (walk_at "es"); exact rfl; (walk_at "spec"))
  | (apply ev_callR; (walk_at "er"); exact rfl; (walk_at "spec"); exact rfl)
  | (apply ev_neg; (walk_at "ev"))
  | (apply ev_tup; (walk_at "es"); (walk_at "side"))
  | (apply ev_andV; (walk_at "ev"); (intro _; walk_at "ev"))
  | (apply ev_orV; (walk_at "ev"); (intro _; walk_at "ev"))
  | (apply ev_notV; (walk_at "ev"))
  | (apply EvN.dt; (walk_at "en"))
  | (apply ev_chainI; (walk_at "ev"); (walk_at "ev"); (walk_at "ev"))
  | (apply ev_cbD; (walk_at "es"); first | exact rd_tupL | exact rd_tupT)
  | exact ev_tupO rfl
  | exact ev_cc)
local macro_rules | `(tactic| walk_at "eb") => `(tactic| first
  | (apply eb_and; (walk_at "eb"); (intro _; walk_at "eb"))
  | (apply eb_or; (walk_at "eb"); (intro _; walk_at "eb"))
  | (apply eb_not; (walk_at "eb"))
  | (apply eb_test; (walk_at "ev"))
  | (apply eb_B; (walk_at "ev")))
local macro_rules | `(tactic| walk_at "asg") => `(tactic| (apply sd_seq; apply sd_asg; (walk_at "ev"); dsimp only [List.set]))
local macro_rules | `(tactic| walk_at "en") => `(tactic| first
  | (apply en_lst; (walk_at "es"); (walk_at "side"))
  | exact en_lstO rfl
  | (apply en_cb; (walk_at "es"); first | exact rn_lstL | exact rn_lstT))
local macro_rules | `(tactic| walk_at "asgN") => `(tactic| (apply sd_seq; apply sd_asgN; (walk_at "en"); dsimp only [List.set]))
local macro_rules | `(tactic| walk_at "le") => `(tactic| first | exact LeR.nil | (apply LeR.c1; walk_at "le") | (apply LeR.c0; walk_at "le"))
local macro_rules | `(tactic| walk_at "look") => `(tactic| first | exact look_hd | (rw [look_tl (by decide +kernel)]; walk_at "look"))
local macro_rules | `(tactic| walk_at "xasg") => `(tactic| (apply stx_seq; apply sd_asg; (walk_at "ev"); dsimp only [List.set]))


local macro_rules | `(tactic| walk_at "ev") => `(tactic| (apply ev_fld; (walk_at "ev"); assumption; assumption; walk_at "look"))
local macro_rules | `(tactic| walk_at "rd") => `(tactic| first | (apply rd_ixL; exact rfl) | (apply rd_ixT; exact rfl))
local macro_rules | `(tactic| walk_at "spec") => `(tactic| first | (apply RNum.mk; walk_at "side") | exact ⟨_, rfl, rfl⟩)

def top (i : Nat) : Stmt := PySem.Challenge.pw_armedexits_k04_rules_keep.main.body.getD i (.Pass ⟨0, 0, 0, 0⟩)
structure Txt (mg : Str → Option Value) : Prop where
  n_len : mg "len" = none
  n_int : mg "int" = none
  n_sum : mg "sum" = none
  n_isinstance : mg "isinstance" = none
  n_bool : mg "bool" = none
  n_range : mg "range" = none
  n_max : mg "max" = none
  n_tuple : mg "tuple" = none

def wayD (n : Int) : D := .tup [.int (n % 8), .int (1 + n / 8 % 4)]
def RWay (ds : List D) (d : D) : Prop := ∃ n : Int, ds = [.int n] ∧ d = wayD n
def heldD (ns : List Int) (s : Int) (n : Nat) : List D := (List.range n).map fun k => wayD (num ns (s + (k : Nat)))
theorem heldD_len (ns : List Int) (s : Int) (n : Nat) : (heldD ns s n).length = n := by unfold heldD; rw [List.length_map, List.length_range]
theorem heldD_succ (ns : List Int) (s : Int) (n : Nat) : heldD ns s (n + 1) = heldD ns s n ++ [wayD (num ns (s + (n : Nat)))] := by
  unfold heldD
  rw [List.range_succ, List.map_append]; rfl
def RHeld (ds : List D) (d : D) : Prop := ∃ (ns : List Int) (s c : Int), ds = [scr ns, .int s, .int c] ∧ 0 ≤ s ∧ 0 ≤ c ∧ c ≤ 1000 ∧ d = .tup (heldD ns s c.toNat)
/-- a way that can be compared -/
def okW (d : D) : Prop := D.sh d = true ∧ D.dep d ≤ 50
theorem okW_way (n : Int) : okW (wayD n) := ⟨rfl, by show 1 ≤ 50; decide⟩
theorem okW_held {ns : List Int} {s : Int} {n : Nat} : ∀ d ∈ heldD ns s n, okW d := fun d h => by
  obtain ⟨k, _, rfl⟩ := List.mem_map.mp h
  exact okW_way _
def storedF (k : Int) (h : List D) (w : D) : List D := h.drop (h.length - k.toNat) ++ [w]
theorem okW_stored {k : Int} {h : List D} {w : D} (a : ∀ d ∈ h, okW d) (b : okW w) : ∀ d ∈ storedF k h w, okW d := fun d hd => by
  rcases List.mem_append.mp hd with z | z
  · exact a d (List.mem_of_mem_drop z)
  · rw [List.mem_singleton.mp z]; exact b
def RStored (ds : List D) (d : D) : Prop := ∃ (k : Int) (h : List D) (w : D), ds = [.int k, .tup h, w] ∧ 0 ≤ k ∧ h.length ≤ 1000 ∧ d = .tup (storedF k h w)
abbrev benF (k : Int) : List (Str × D) := [("depth", .int k)]
def RBen (C : Addr) (ds : List D) (d : D) : Prop := ∃ (k : Int) (h : List D) (w : D), ds = [.ins C (benF k), .tup h, w] ∧ 0 ≤ k ∧ h.length ≤ 1000 ∧ d = .tup (storedF k h w)
def RLost (C : Addr) (ds : List D) (d : D) : Prop := ∃ (h : List D) (w : D), ds = [.ins C [], .tup h, w] ∧ d = .tup [w]
def RBenI (ds : List D) (fs : List (Str × D)) : Prop := ∃ k : Int, ds = [.int k] ∧ fs = benF k
def RIsInt (ds : List D) (d : D) : Prop := ∃ a : Int, ds = [.int a] ∧ d = .bl true
def wayD2 : True := trivial
theorem max_nat (a b : Int) (n : Nat) (h : a = n) (hb : 0 ≤ b) : max 0 (a - b) = ((n - b.toNat : Nat) : Int) := by omega

def SR (L B : Addr) (K : PySem.W.Frag) (C : Addr) (sp : Sp) : Prop := (C = L ∧ sp = spD K 3 (RLost L)) ∨ (C = B ∧ sp = spD K 3 (RBen B))
def RCalled (L B : Addr) (ds : List D) (d : D) : Prop := ∃ (k : Int) (h : List D) (w : D), (ds = [.ins L [], .int 0, .tup h, w] ∨ (ds = [.ins B (benF k), .int k, .tup h, w] ∧ 0 ≤ k)) ∧ h.length ≤ 1000 ∧ (∀ d ∈ h, okW d) ∧ okW w ∧ d = .bl true

section
variable {P : Program} {w : World} {K : PySem.W.Frag} {mg : Str → Option Value} {base : Heap}
variable {C_Lost : Addr} {C_Beneath : Addr}
abbrev s_law_number : Stmt := top 4
theorem sc_law_number : FnScope ["_law_script", "_law_k", "_law_cell", "_law_mixed"] ["_law_script", "_law_k"] (defScope s_law_number) := ⟨rfl, rfl, rfl, by decide +kernel, rfl, by decide +kernel, by decide +kernel⟩
theorem cal_law_number (T : Txt mg) (h : Has K mg "_law_number" s_law_number ["_law_script", "_law_k"]) : Cal P w K mg base "_law_number" 1 ["_law_script", "_law_k"] (spD K 2 RNum) := by
  refine h.cal sc_law_number rfl fun f cdv A outer s H E hr => ?_
  have nd := sc_law_number.nd
  have hu := hr.units
  refine ⟨_, (pss_cons (ps_set (i := 2) nd rfl (Or.inl rfl) pe_int)
      (pss_cons (ps_if (pt_cmpR op_lt (pv 1) (pe_callB call_lenA (by rfl) T.n_len (by decide +kernel) (pa_cons (pv 0) pa_nil)) (nomark _)) (pss_cons (ps_set (i := 2) nd rfl (Or.inl rfl) (pe_ix ix_seq (pv 0) (pv 1) (fun _ _ => rfl)))
      (pss_one (ps_if (pt_cmpR op_ge (pv 2) (pe_op op_pow pe_int pe_int) (nomark _)) (pss_one (ps_ret (pe_op op_sub (pv 2) (pe_op op_pow pe_int pe_int)))) pss_nil))) pss_nil)
      (pss_cons (ps_set (i := 3) nd rfl (Or.inl rfl) (pe_op op_mod (pe_callTy call_int1 (by rfl) T.n_int (by decide +kernel) (pa_cons (pe_op op_plus (pe_op op_plus (pe_op op_plus (pe_op op_mul (pv 2) pe_int) (pe_op op_mul (pv 1) pe_int)) (pe_op op_mul (pe_callB (cr_sum rfl) (by rfl) T.n_sum (by decide +kernel) (pa_cons (pv 0) pa_nil)) pe_int)) pe_int) pa_nil)) pe_int))
      (pss_one (ps_ret (pe_op op_fdiv (pe_op op_mod (pe_callTy call_int1 (by rfl) T.n_int (by decide +kernel) (pa_cons (pe_op op_plus (pe_op op_plus (pe_op op_mul (pv 3) (pv 3)) (pe_op op_mul (pe_op op_mul pe_int (pv 1)) (pv 3))) pe_int) pa_nil)) pe_int) pe_int)))))), ?_⟩
  try dsimp only [Cx.nox, Cx.wish, cxOf]
  rintro ds d ⟨ns, k, rfl, hk, rfl⟩
  refine .rt ?_
  show StD K _ [some (.dat (scr ns)), some (.dat (.int k)), none, none] _
  walk_at "asg"
  by_cases h1 : k < ns.length
  · have e1 : atI (ns.map D.int) k = some (.int (ns.getD k.toNat 0)) := atI_of hk (by
      rw [List.getElem?_map, List.getD_eq_getElem?_getD, List.getElem?_eq_getElem (show k.toNat < ns.length by omega)]
      rfl)
    by_cases h2 : 10 ^ 18 ≤ ns.getD k.toNat 0
    · apply sd_seqR; apply sd_ifp; walk_at "eb"
      · rw [List.length_map]; exact decide_eq_true h1
      apply sd_seq; apply sd_asg; exact ev_op (ev_v rfl) (ev_v rfl) (rd_ixL e1); dsimp only [List.set]
      apply sd_ifp; walk_at "eb"
      · exact decide_eq_true h2
      apply sd_retI; walk_at "ev"
      rw [num, if_pos h1, if_pos h2]
      rfl
    · apply sd_seq; apply sd_ifp; walk_at "eb"
      · rw [List.length_map]; exact decide_eq_true h1
      · apply sd_seq; apply sd_asg; exact ev_op (ev_v rfl) (ev_v rfl) (rd_ixL e1); dsimp only [List.set]
        apply sd_ifn; walk_at "eb"
        · exact decide_eq_false h2
        exact sd_next
      rw [num, if_pos h1, if_neg h2]
      generalize ns.getD k.toNat 0 = c
      walk_at "asg"
      unfold numT
      have h3 : (0 : Int) ≤ (c * 48271 + k * 69621 + ns.sum * 40692 + 12345) % 2147483647 := Int.emod_nonneg _ (by decide)
      have h4 : (c * 48271 + k * 69621 + ns.sum * 40692 + 12345) % 2147483647 < 2147483647 := Int.emod_lt_of_pos _ (by decide)
      generalize (c * 48271 + k * 69621 + ns.sum * 40692 + 12345) % 2147483647 = m at h3 h4 ⊢
      apply sd_ret; walk_at "ev"
  · apply sd_seq; apply sd_ifn; walk_at "eb"
    · rw [List.length_map]; exact decide_eq_false h1
    · exact sd_next
    rw [num, if_neg h1]
    walk_at "asg"
    unfold numT
    have h3 : (0 : Int) ≤ (0 * 48271 + k * 69621 + ns.sum * 40692 + 12345) % 2147483647 := Int.emod_nonneg _ (by decide)
    have h4 : (0 * 48271 + k * 69621 + ns.sum * 40692 + 12345) % 2147483647 < 2147483647 := Int.emod_lt_of_pos _ (by decide)
    generalize (0 * 48271 + k * 69621 + ns.sum * 40692 + 12345) % 2147483647 = m at h3 h4 ⊢
    apply sd_ret; walk_at "ev"
abbrev s_law_is_int : Stmt := top 5
theorem sc_law_is_int : FnScope ["_law_x"] ["_law_x"] (defScope s_law_is_int) := ⟨rfl, rfl, rfl, by decide +kernel, rfl, by decide +kernel, by decide +kernel⟩
theorem cal_law_is_int (T : Txt mg) (h : Has K mg "_law_is_int" s_law_is_int ["_law_x"]) : Cal P w K mg base "_law_is_int" 1 ["_law_x"] (spD K 1 RIsInt) := by
  refine h.cal sc_law_is_int rfl fun f cdv A outer s H E hr => ?_
  have nd := sc_law_is_int.nd
  have hu := hr.units
  refine ⟨_, (pss_one (ps_ret (pe_and (pe_callB call_isi (by rfl) T.n_isinstance (by decide +kernel) (pa_cons (pv 0) (pa_cons (pe_bltn (v := .ty "int") (by rfl) T.n_int (by decide +kernel) rfl) pa_nil))) (pe_one (pe_not (pe_callB call_isi (by rfl) T.n_isinstance (by decide +kernel) (pa_cons (pv 0) (pa_cons (pe_bltn (v := .ty "bool") (by rfl) T.n_bool (by decide +kernel) rfl) pa_nil)))))))), ?_⟩
  try dsimp only [Cx.nox, Cx.wish, cxOf]
  rintro ds d ⟨a, rfl, rfl⟩
  refine .rt ?_
  show StD K _ [some (.dat (.int a))] _
  apply sd_retI; walk_at "ev"
  rfl
abbrev s_law_way : Stmt := top 6
theorem sc_law_way : FnScope ["_law_n"] ["_law_n"] (defScope s_law_way) := ⟨rfl, rfl, rfl, by decide +kernel, rfl, by decide +kernel, by decide +kernel⟩
theorem cal_law_way (T : Txt mg) (h : Has K mg "_law_way" s_law_way ["_law_n"]) : Cal P w K mg base "_law_way" 1 ["_law_n"] (spD K 1 RWay) := by
  refine h.cal sc_law_way rfl fun f cdv A outer s H E hr => ?_
  have nd := sc_law_way.nd
  have hu := hr.units
  refine ⟨_, (pss_one (ps_ret (pe_tup (pa_cons (pe_op op_mod (pe_callTy call_int1 (by rfl) T.n_int (by decide +kernel) (pa_cons (pv 0) pa_nil)) pe_int) (pa_cons (pe_op op_plus pe_int (pe_op op_mod (pe_op op_fdiv (pe_callTy call_int1 (by rfl) T.n_int (by decide +kernel) (pa_cons (pv 0) pa_nil)) pe_int) pe_int)) pa_nil))))), ?_⟩
  try dsimp only [Cx.nox, Cx.wish, cxOf]
  rintro ds d ⟨n, rfl, rfl⟩
  refine .rt ?_
  show StD K _ [some (.dat (.int n))] _
  apply sd_ret; walk_at "ev"
abbrev s_law_held : Stmt := top 7
theorem sc_law_held : FnScope ["_law_script", "_law_start", "_law_count", "_law_held_here", "_law_k"] ["_law_script", "_law_start", "_law_count"] (defScope s_law_held) := ⟨rfl, rfl, rfl, by decide +kernel, rfl, by decide +kernel, by decide +kernel⟩
theorem cal_law_held (T : Txt mg) (c__law_number : Cal P w K mg base "_law_number" 1 ["_law_script", "_law_k"] (spD K 2 RNum)) (c__law_way : Cal P w K mg base "_law_way" 1 ["_law_n"] (spD K 1 RWay)) (h : Has K mg "_law_held" s_law_held ["_law_script", "_law_start", "_law_count"]) : Cal P w K mg base "_law_held" 2 ["_law_script", "_law_start", "_law_count"] (spD K 3 RHeld) := by
  refine h.cal sc_law_held rfl fun f cdv A outer s H E hr => ?_
  have nd := sc_law_held.nd
  have hu := hr.units
  refine ⟨_, (pss_cons (ps_set (i := 3) nd rfl (Or.inl rfl) (pe_tup pa_nil))
      (pss_cons (ps_for PassesOwn.never rfl (pi_range1 (by rfl) T.n_range (pa_cons (pv 2) pa_nil)) (pg_name (i := 4) nd rfl (Or.inl rfl)) (pss_one (ps_set (i := 3) nd rfl (Or.inl rfl) (pe_op op_plus (pv 3) (pe_tup (pa_cons (pe_cal c__law_way (hr.mono (by decide)) (pa_cons (pe_cal c__law_number (hr.mono (by decide)) (pa_cons (pv 0) (pa_cons (pe_op op_plus (pv 1) (pv 4)) pa_nil))) pa_nil)) pa_nil))))))
      (pss_one (ps_ret (pv 3))))), ?_⟩
  try dsimp only [Cx.nox, Cx.wish, cxOf]
  rintro ds d ⟨ns, s0, c, rfl, hs, hc, hc2, rfl⟩
  refine .rt ?_
  show StD K _ [some (.dat (scr ns)), some (.dat (.int s0)), some (.dat (.int c)), none, none] _
  walk_at "asg"
  apply sd_seq
  · refine sd_forR (es_cons (ev_v rfl) es_nil) (by omega) (by omega) (fun i => [some (.dat (scr ns)), some (.dat (.int s0)), some (.dat (.int c)), some (.dat (.tup (heldD ns s0 i))), none]) rfl fun i hi => ?_
    dsimp only [List.set]
    apply turn_nx
    · have hl : (heldD ns s0 i).length + [wayD (num ns (s0 + (i : Nat)))].length ≤ 100000 := by
        rw [heldD_len]; show i + 1 ≤ 100000; omega
      apply sd_asg
      refine ev_op (ev_v rfl) (ev_tup (es_cons (ev_call (es_cons (ev_call (es_cons (ev_v rfl) (es_cons (ev_op (ev_v rfl) (ev_v rfl) (RvS.toD rs_plusI)) es_nil)) rfl (RNum.mk (by omega))) es_nil) rfl ⟨_, rfl, rfl⟩) es_nil) (Nat.le_of_ble_eq_true rfl)) (rd_plusT hl)
    · dsimp only [List.set]
      rw [heldD_succ]
      walk_at "le"
  apply sd_ret; exact ev_v rfl
abbrev s_law_stored : Stmt := top 8
theorem sc_law_stored : FnScope ["_law_depth", "_law_held_here", "_law_way_here"] ["_law_depth", "_law_held_here", "_law_way_here"] (defScope s_law_stored) := ⟨rfl, rfl, rfl, by decide +kernel, rfl, by decide +kernel, by decide +kernel⟩
theorem cal_law_stored (T : Txt mg) (h : Has K mg "_law_stored" s_law_stored ["_law_depth", "_law_held_here", "_law_way_here"]) : Cal P w K mg base "_law_stored" 1 ["_law_depth", "_law_held_here", "_law_way_here"] (spD K 3 RStored) := by
  refine h.cal sc_law_stored rfl fun f cdv A outer s H E hr => ?_
  have nd := sc_law_stored.nd
  have hu := hr.units
  refine ⟨_, (pss_cons (ps_if (PW.pt (pw_and (pt_cmpR op_lt (pv 0) pe_int (nomark _)) (pw_and1 (pt_cmpR op_gt (pe_callB call_lenA (by rfl) T.n_len (by decide +kernel) (pa_cons (pv 1) pa_nil)) pe_int (nomark _))))) (pss_one (ps_ret pe_non)) pss_nil)
      (pss_one (ps_ret (pe_op op_plus (pe_slice sl_any (pv 1) (po_some (pe_callB (call_max2 rfl) (by rfl) T.n_max (by decide +kernel) (pa_cons pe_int (pa_cons (pe_op op_sub (pe_callB call_lenA (by rfl) T.n_len (by decide +kernel) (pa_cons (pv 1) pa_nil)) (pv 0)) pa_nil)))) po_none) (pe_tup (pa_cons (pv 2) pa_nil)))))), ?_⟩
  try dsimp only [Cx.nox, Cx.wish, cxOf]
  rintro ds d ⟨k, h, w, rfl, hk, hl, rfl⟩
  refine .rt ?_
  show StD K _ [some (.dat (.int k)), some (.dat (.tup h)), some (.dat w)] _
  apply sd_seq
  · apply sd_skip; walk_at "eb"
    rw [decide_eq_false (by omega)]; rfl
  apply sd_retI
  · apply ev_op
    · apply ev_slT; exact ev_v rfl
      · apply eo_so; apply ev_cbS; walk_at "er"; exact rs_max2
      · exact eo_no
    · exact ev_tup (es_cons (ev_v rfl) es_nil) (Nat.le_of_ble_eq_true rfl)
    · apply rd_plusT
      rw [max_nat _ k h.length rfl hk, cut_from]
      show (h.drop _).length + 1 ≤ 100000
      rw [List.length_drop]; omega
  rw [max_nat _ k h.length rfl hk, cut_from]; rfl
abbrev s_Beneath_init : Stmt := inClass (top 2) 0
theorem sc_Beneath_init : FnScope ["self", "depth"] ["self", "depth"] (defScope s_Beneath_init) := ⟨rfl, rfl, rfl, by decide +kernel, rfl, by decide +kernel, by decide +kernel⟩
theorem cal_Beneath_init (T : Txt mg) (M_Beneath : CCls K mg "Beneath" C_Beneath) (na_depth : NoAttr K C_Beneath "depth") {f : Addr} (h : HasMD K C_Beneath "__init__" "Beneath.__init__" s_Beneath_init ["self", "depth"] [.int 1] f) : CalM P w K mg base C_Beneath "__init__" 1 ["self", "depth"] (spI K C_Beneath 1 RBenI) ∧ CalMD P w K mg base C_Beneath "__init__" 1 ["self", "depth"] (spI K C_Beneath 1 RBenI) [.int 1] := by
  refine h.calI sc_Beneath_init rfl fun cdv A outer s H E hr => ?_
  have nd := sc_Beneath_init.nd
  have hu := hr.units
  refine ⟨_, (pss_one (ps_fld (pv 0) (pv 1) rfl)), ?_⟩
  try dsimp only [Cx.nox, Cx.wish, cxOf]
  rintro x ds fs ⟨k, rfl, rfl⟩
  refine ⟨[some (.obj x C_Beneath (benF k)), some (.dat (.int k))], ?_, rfl⟩
  show StD K _ [some (.obj x C_Beneath []), some (.dat (.int k))] _
  have := sd_fld (K := K) (ρ := [some (.obj x C_Beneath []), some (.dat (.int k))]) (n := 0) (te := tVar 1) (d := .int k) (ev_v rfl) rfl M_Beneath.cl na_depth (by decide)
  exact this
abbrev s_Beneath_call : Stmt := inClass (top 2) 1
theorem sc_Beneath_call : FnScope ["self", "held", "way", "start"] ["self", "held", "way"] (defScope s_Beneath_call) := ⟨rfl, rfl, rfl, by decide +kernel, rfl, by decide +kernel, by decide +kernel⟩
theorem cal_Beneath_call (T : Txt mg) (M_Beneath : CCls K mg "Beneath" C_Beneath) (na_depth : NoAttr K C_Beneath "depth") {f : Addr} (h : HasM K C_Beneath "__call__" "Beneath.__call__" s_Beneath_call ["self", "held", "way"] f) : CalM P w K mg base C_Beneath "__call__" 1 ["self", "held", "way"] (spD K 3 (RBen C_Beneath)) := by
  refine h.cal sc_Beneath_call rfl fun cdv A outer s H E hr => ?_
  have nd := sc_Beneath_call.nd
  have hu := hr.units
  refine ⟨_, (pss_cons (ps_set (i := 3) nd rfl (Or.inl rfl) (pe_callB (call_max2 rfl) (by rfl) T.n_max (by decide +kernel) (pa_cons pe_int (pa_cons (pe_op op_sub (pe_callB call_lenA (by rfl) T.n_len (by decide +kernel) (pa_cons (pv 1) pa_nil)) (pe_fld (pv 0) rfl)) pa_nil))))
      (pss_one (ps_ret (pe_op op_plus (pe_slice sl_any (pv 1) (po_some (pv 3)) po_none) (pe_tup (pa_cons (pv 2) pa_nil)))))), ?_⟩
  try dsimp only [Cx.nox, Cx.wish, cxOf]
  rintro ds d ⟨k, h, w, rfl, hk, hl, rfl⟩
  refine .rt ?_
  show StD K _ [some (.dat (.ins C_Beneath (benF k))), some (.dat (.tup h)), some (.dat w), none] _
  apply sd_seq; apply sd_asg
  · apply ev_cbS
    · apply er_cons; exact ev_ci.rd
      apply er_cons; apply EvD.rd
      exact ev_op (ev_cbS (er_cons (ev_v rfl).rd er_nil) rs_lenT) (ev_fld (ev_v rfl) M_Beneath.cl na_depth look_hd) (RvS.toD (rs_I0 (g := fun i j => i - j)))
      exact er_nil
    exact rs_max2
  dsimp only [List.set]
  rw [max_nat _ k h.length rfl hk]
  apply sd_retI
  · refine ev_op (ev_slT (ev_v rfl) (eo_so (ev_v rfl)) eo_no) (ev_tup (es_cons (ev_v rfl) es_nil) (Nat.le_of_ble_eq_true rfl)) (rd_plusT ?_)
    rw [cut_from]
    show (h.drop _).length + 1 ≤ 100000
    rw [List.length_drop]; omega
  rw [cut_from]; rfl
abbrev s_Lost_call : Stmt := inClass (top 1) 0
theorem sc_Lost_call : FnScope ["self", "held", "way"] ["self", "held", "way"] (defScope s_Lost_call) := ⟨rfl, rfl, rfl, by decide +kernel, rfl, by decide +kernel, by decide +kernel⟩
theorem cal_Lost_call (T : Txt mg) (M_Lost : CCls K mg "Lost" C_Lost) {f : Addr} (h : HasM K C_Lost "__call__" "Lost.__call__" s_Lost_call ["self", "held", "way"] f) : CalM P w K mg base C_Lost "__call__" 1 ["self", "held", "way"] (spD K 3 (RLost C_Lost)) := by
  refine h.cal sc_Lost_call rfl fun cdv A outer s H E hr => ?_
  have nd := sc_Lost_call.nd
  have hu := hr.units
  refine ⟨_, (pss_one (ps_ret (pe_tup (pa_cons (pv 2) pa_nil)))), ?_⟩
  try dsimp only [Cx.nox, Cx.wish, cxOf]
  rintro ds d ⟨h, w, rfl, rfl⟩
  refine .rt ?_
  show StD K _ [some (.dat (.ins C_Lost [])), some (.dat (.tup h)), some (.dat w)] _
  apply sd_ret; exact ev_tup (es_cons (ev_v rfl) es_nil) (Nat.le_of_ble_eq_true rfl)
abbrev s_law_called : Stmt := top 9
theorem sc_law_called : FnScope ["_law_rule", "_law_depth", "_law_held_here", "_law_way_here", "_law_got"] ["_law_rule", "_law_depth", "_law_held_here", "_law_way_here"] (defScope s_law_called) := ⟨rfl, rfl, rfl, by decide +kernel, rfl, by decide +kernel, by decide +kernel⟩
theorem cal_law_called (T : Txt mg) (c__law_stored : Cal P w K mg base "_law_stored" 1 ["_law_depth", "_law_held_here", "_law_way_here"] (spD K 3 RStored)) (c_Lost_call : CalM P w K mg base C_Lost "__call__" 1 ["self", "held", "way"] (spD K 3 (RLost C_Lost))) (c_Beneath_call : CalM P w K mg base C_Beneath "__call__" 1 ["self", "held", "way"] (spD K 3 (RBen C_Beneath))) (h : Has K mg "_law_called" s_law_called ["_law_rule", "_law_depth", "_law_held_here", "_law_way_here"]) : Cal P w K mg base "_law_called" 2 ["_law_rule", "_law_depth", "_law_held_here", "_law_way_here"] (spD K 4 (RCalled C_Lost C_Beneath)) := by
  refine h.cal sc_law_called rfl fun f cdv A outer s H E hr => ?_
  have nd := sc_law_called.nd
  have hu := hr.units
  have cs : ∀ (C : Addr) (sp : Sp), SR C_Lost C_Beneath K C sp → ∃ ps, CalM P w K mg base C "__call__" 1 ps sp := by
    rintro C sp (⟨rfl, rfl⟩ | ⟨rfl, rfl⟩)
    · exact ⟨_, c_Lost_call⟩
    · exact ⟨_, c_Beneath_call⟩
  refine ⟨_, (pss_cons (ps_set (i := 4) nd rfl (Or.inl rfl) (pe_callI (S := SR C_Lost C_Beneath K) (pv 0) cs (hr.mono (by decide)) (pa_cons (pv 2) (pa_cons (pv 3) pa_nil))))
      (pss_one (ps_ret (pe_and (pe_callB call_isi (by rfl) T.n_isinstance (by decide +kernel) (pa_cons (pv 4) (pa_cons (pe_bltn (v := .ty "tuple") (by rfl) T.n_tuple (by decide +kernel) rfl) pa_nil))) (pe_one (pe_cmpR (op_eqD hu) (pv 4) (pe_cal c__law_stored (hr.mono (by decide)) (pa_cons (pv 1) (pa_cons (pv 2) (pa_cons (pv 3) pa_nil)))) (nomark _))))))), ?_⟩
  try dsimp only [Cx.nox, Cx.wish, cxOf]
  rintro ds d ⟨k, h, w, hds, hl, hh, hw, rfl⟩
  refine .rt ?_
  rcases hds with rfl | ⟨rfl, hk⟩
  · show StD K _ [some (.dat (.ins C_Lost [])), some (.dat (.int 0)), some (.dat (.tup h)), some (.dat w), none] _
    apply sd_seq; apply sd_asg
    · exact ev_callI (ev_v rfl) (es_cons (ev_v rfl) (es_cons (ev_v rfl) es_nil)) (.inl ⟨rfl, rfl⟩) rfl ⟨h, w, rfl, rfl⟩
    dsimp only [List.set]
    apply sd_retI; apply ev_andV; walk_at "ev"
    · intro _
      refine ev_eqE (ev_v rfl).rd (ev_call (es_cons (ev_v rfl) (es_cons (ev_v rfl) (es_cons (ev_v rfl) es_nil))) rfl ⟨0, h, w, rfl, by decide, hl, rfl⟩).rd ?_ ?_
      · exact ok_tup fun d hd => by rw [List.mem_singleton.mp hd]; exact hw
      · exact ok_tup (okW_stored hh hw)
    have e : storedF 0 h w = [w] := by
      unfold storedF
      rw [show h.length - (0 : Int).toNat = h.length by omega, List.drop_length]; rfl
    rw [e, eqD_self (d := .tup [w]) (shs_all _ fun d hd => by rw [List.mem_singleton.mp hd]; exact hw.1)]; rfl
  · show StD K _ [some (.dat (.ins C_Beneath (benF k))), some (.dat (.int k)), some (.dat (.tup h)), some (.dat w), none] _
    apply sd_seq; apply sd_asg
    · exact ev_callI (ev_v rfl) (es_cons (ev_v rfl) (es_cons (ev_v rfl) es_nil)) (.inr ⟨rfl, rfl⟩) rfl ⟨k, h, w, rfl, hk, hl, rfl⟩
    dsimp only [List.set]
    apply sd_retI; apply ev_andV; walk_at "ev"
    · intro _
      refine ev_eqE (ev_v rfl).rd (ev_call (es_cons (ev_v rfl) (es_cons (ev_v rfl) (es_cons (ev_v rfl) es_nil))) rfl ⟨k, h, w, rfl, hk, hl, rfl⟩).rd ?_ ?_
      · exact ok_tup (okW_stored hh hw)
      · exact ok_tup (okW_stored hh hw)
    rw [eqD_self (d := .tup (storedF k h w)) (shs_all _ fun d hd => (okW_stored hh hw d hd).1)]; rfl
abbrev s_law : Stmt := top 10
theorem sc_law : FnScope ["_law_script", "_law_held_here", "_law_way_here", "_law_depth", "_law_rule", "_law_plain", "_law_lost"] ["_law_script"] (defScope s_law) := ⟨rfl, rfl, rfl, by decide +kernel, rfl, by decide +kernel, by decide +kernel⟩
theorem body_law (T : Txt mg) (M_Lost : CCls K mg "Lost" C_Lost) (M_Beneath : CCls K mg "Beneath" C_Beneath) (na_depth : NoAttr K C_Beneath "depth") (ini_lost : PySem.W.findIn K (.ref C_Lost) "__init__" = some (some (.builtin "object.__init__"))) (c__law_number : Cal P w K mg base "_law_number" 1 ["_law_script", "_law_k"] (spD K 2 RNum)) (c__law_is_int : Cal P w K mg base "_law_is_int" 1 ["_law_x"] (spD K 1 RIsInt)) (c__law_way : Cal P w K mg base "_law_way" 1 ["_law_n"] (spD K 1 RWay)) (c__law_held : Cal P w K mg base "_law_held" 2 ["_law_script", "_law_start", "_law_count"] (spD K 3 RHeld)) (c__law_called : Cal P w K mg base "_law_called" 2 ["_law_rule", "_law_depth", "_law_held_here", "_law_way_here"] (spD K 4 (RCalled C_Lost C_Beneath))) (c_Beneath_init : CalM P w K mg base C_Beneath "__init__" 1 ["self", "depth"] (spI K C_Beneath 1 RBenI)) (c_Beneath_initD : CalMD P w K mg base C_Beneath "__init__" 1 ["self", "depth"] (spI K C_Beneath 1 RBenI) [.int 1]) (f : Addr) (cdv : Value) (A : Around) (outer : List Env) (s : Shared) (H : Hp) (E : XK) (hr : Room 3 (A.deeper (envOfC "law" (defScope s_law) s.heap.objs.size f cdv))) :
    ∃ t, PSs (cxOf CX0 P w K mg base ["_law_script", "_law_held_here", "_law_way_here", "_law_depth", "_law_rule", "_law_plain", "_law_lost"] "law" (defScope s_law) f cdv A outer s H E).nox (defBody s_law) t ∧ ∀ ds d, RLaw ds d → Ends1 K t (rho0 ["_law_script", "_law_held_here", "_law_way_here", "_law_depth", "_law_rule", "_law_plain", "_law_lost"] ds) d := by
  have nd := sc_law.nd
  have hu := hr.units
  refine ⟨_, (pss_cons (ps_set (i := 1) nd rfl (Or.inl rfl) (pe_cal c__law_held (hr.mono (by decide)) (pa_cons (pv 0) (pa_cons pe_int (pa_cons (pe_op op_mod (pe_callTy call_int1 (by rfl) T.n_int (by decide +kernel) (pa_cons (pe_cal c__law_number (hr.mono (by decide)) (pa_cons (pv 0) (pa_cons pe_int pa_nil))) pa_nil)) pe_int) pa_nil)))))
      (pss_cons (ps_set (i := 2) nd rfl (Or.inl rfl) (pe_cal c__law_way (hr.mono (by decide)) (pa_cons (pe_cal c__law_number (hr.mono (by decide)) (pa_cons (pv 0) (pa_cons pe_int pa_nil))) pa_nil)))
      (pss_cons (ps_if (PW.pt (pw_and (pt_cmpR op_gt (pe_callB call_lenA (by rfl) T.n_len (by decide +kernel) (pa_cons (pv 1) pa_nil)) pe_int (nomark _)) (pw_and1 (pt_cmpR (op_eqD hu) (pe_op op_mod (pe_callTy call_int1 (by rfl) T.n_int (by decide +kernel) (pa_cons (pe_cal c__law_number (hr.mono (by decide)) (pa_cons (pv 0) (pa_cons pe_int pa_nil))) pa_nil)) pe_int) pe_int (nomark _))))) (pss_one (ps_set (i := 2) nd rfl (Or.inl rfl) (pe_ix ix_seq (pv 1) (pe_op op_mod (pe_callTy call_int1 (by rfl) T.n_int (by decide +kernel) (pa_cons (pe_cal c__law_number (hr.mono (by decide)) (pa_cons (pv 0) (pa_cons pe_int pa_nil))) pa_nil)) (pe_callB call_lenA (by rfl) T.n_len (by decide +kernel) (pa_cons (pv 1) pa_nil))) (fun _ _ => rfl)))) pss_nil)
      (pss_cons (ps_for PassesOwn.never rfl (pi_tup (pe_tup (pa_cons pe_int (pa_cons pe_int (pa_cons pe_int pa_nil))))) (pg_name (i := 3) nd rfl (Or.inl rfl)) (pss_cons (ps_set (i := 4) nd rfl (Or.inl rfl) (pe_new M_Beneath c_Beneath_init (hr.mono (by decide)) (pa_cons (pv 3) pa_nil)))
      (pss_cons (ps_if (PW.pt (pw_or (pt_not (pt_val (pe_cal c__law_is_int (hr.mono (by decide)) (pa_cons (pe_fld (pv 4) rfl) pa_nil)))) (pw_or1 (pt_cmpR (op_neD hu) (pe_fld (pv 4) rfl) (pv 3) (nomark _))))) (pss_one (ps_ret pe_bl)) pss_nil)
      (pss_cons (ps_if (PW.pt (pw_or (pt_not (pt_val (pe_cal c__law_called (hr.mono (by decide)) (pa_cons (pv 4) (pa_cons (pv 3) (pa_cons (pv 1) (pa_cons (pv 2) pa_nil))))))) (pw_or1 (pt_not (pt_val (pe_cal c__law_called (hr.mono (by decide)) (pa_cons (pv 4) (pa_cons (pv 3) (pa_cons (pe_tup pa_nil) (pa_cons (pv 2) pa_nil)))))))))) (pss_one (ps_ret pe_bl)) pss_nil)
      (pss_one (ps_if (PW.pt (pw_or (pt_not (pt_val (pe_cal c__law_called (hr.mono (by decide)) (pa_cons (pv 4) (pa_cons (pv 3) (pa_cons (pe_slice sl_any (pv 1) (po_some pe_int) po_none) (pa_cons (pv 2) pa_nil))))))) (pw_or1 (pt_not (pt_val (pe_cal c__law_called (hr.mono (by decide)) (pa_cons (pv 4) (pa_cons (pv 3) (pa_cons (pv 1) (pa_cons (pv 2) pa_nil)))))))))) (pss_one (ps_ret pe_bl)) pss_nil))))))
      (pss_cons (ps_set (i := 5) nd rfl (Or.inl rfl) (pe_newD0 M_Beneath c_Beneath_initD (hr.mono (by decide))))
      (pss_cons (ps_if (PW.pt (pw_or (pt_not (pt_val (pe_cal c__law_is_int (hr.mono (by decide)) (pa_cons (pe_fld (pv 5) rfl) pa_nil)))) (pw_or1 (pt_cmpR (op_neD hu) (pe_fld (pv 5) rfl) pe_int (nomark _))))) (pss_one (ps_ret pe_bl)) pss_nil)
      (pss_cons (ps_if (PW.pt (pw_or (pt_not (pt_val (pe_cal c__law_called (hr.mono (by decide)) (pa_cons (pv 5) (pa_cons pe_int (pa_cons (pv 1) (pa_cons (pv 2) pa_nil))))))) (pw_or1 (pt_not (pt_val (pe_cal c__law_called (hr.mono (by decide)) (pa_cons (pv 5) (pa_cons pe_int (pa_cons (pe_tup pa_nil) (pa_cons (pv 2) pa_nil)))))))))) (pss_one (ps_ret pe_bl)) pss_nil)
      (pss_cons (ps_set (i := 6) nd rfl (Or.inl rfl) (pe_mk0 M_Lost ini_lost))
      (pss_one (ps_ret (pe_and (pe_cal c__law_called (hr.mono (by decide)) (pa_cons (pv 6) (pa_cons pe_int (pa_cons (pv 1) (pa_cons (pv 2) pa_nil))))) (pe_and (pe_cal c__law_called (hr.mono (by decide)) (pa_cons (pv 6) (pa_cons pe_int (pa_cons (pe_tup pa_nil) (pa_cons (pv 2) pa_nil))))) (pe_one (pe_cal c__law_called (hr.mono (by decide)) (pa_cons (pv 6) (pa_cons pe_int (pa_cons (pv 1) (pa_cons (pv 2) pa_nil)))))))))))))))))), ?_⟩
  try dsimp only [Cx.nox, Cx.wish, cxOf]
  rintro ds d ⟨ns, rfl, hl, rfl⟩
  refine .rt ?_
  have cl := M_Beneath.cl
  show StD K _ [some (.dat (scr ns)), none, none, none, none, none, none] _
  have c1 : 0 ≤ num ns 0 % 8 := Int.emod_nonneg _ (by decide)
  have c2 : num ns 0 % 8 < 8 := Int.emod_lt_of_pos _ (by decide)
  apply sd_seq; apply sd_asg
  · refine ev_call (es_cons (ev_v rfl) (es_cons ev_ci (es_cons ?_ es_nil))) rfl ⟨ns, 2, num ns 0 % 8, rfl, by decide, c1, by omega, rfl⟩
    walk_at "ev"
  dsimp only [List.set]
  have h1 : ∀ d ∈ heldD ns 2 (num ns 0 % 8).toNat, okW d := okW_held
  have h2 : (heldD ns 2 (num ns 0 % 8).toNat).length ≤ 1000 := by rw [heldD_len]; omega
  generalize heldD ns 2 (num ns 0 % 8).toNat = h at h1 h2 ⊢
  walk_at "asg"
  have hw0 := okW_way (num ns 1)
  generalize wayD (num ns 1) = w0 at hw0 ⊢
  apply sd_seqE (fun w => okW w) (fun w => [some (.dat (scr ns)), some (.dat (.tup h)), some (.dat w), none, none, none, none])
  · apply sd_ifE; walk_at "eb"
    · intro hc
      have hpos : 0 < (h.length : Int) := by
        have := (Bool.and_eq_true_iff.mp hc).1
        exact of_decide_eq_true this
      have e1 := Int.emod_nonneg (num ns 11) (show (h.length : Int) ≠ 0 by omega)
      have e2 := Int.emod_lt_of_pos (num ns 11) hpos
      have hlt : (num ns 11 % (h.length : Int)).toNat < h.length := by omega
      refine ⟨h[(num ns 11 % (h.length : Int)).toNat], h1 _ (List.getElem_mem hlt), ?_⟩
      apply sd_asg
      refine ev_op (ev_v rfl) (ev_op (ev_cbS (er_cons (EvD.rd ?_) er_nil) rs_int1) (ev_cbS (er_cons (ev_v rfl).rd er_nil) rs_lenT) (RvS.toD (rs_I (g := fun i j => i % j) hpos))) (rd_ixT (atI_of e1 (List.getElem?_eq_getElem hlt)))
      walk_at "ev"
    · intro _; exact ⟨w0, hw0, sd_next⟩
  clear hw0 w0
  intro w hw
  apply sd_seq
  · apply sd_forTc; walk_at "ev"
    intro n d hd
    obtain ⟨k, rfl, hk⟩ : ∃ k : Int, d = .int k ∧ 0 ≤ k := by
      have := List.mem_of_getElem? hd
      simp only [List.mem_cons, List.not_mem_nil, or_false] at this
      rcases this with h | h | h <;> exact ⟨_, h, by decide⟩
    dsimp only [List.set]
    apply turn_nx
    · apply sd_seq; apply sd_asg; apply ev_new; walk_at "es"; exact rfl; exact ⟨k, rfl, rfl⟩; dsimp only [List.set]
      apply sd_seq
      · apply sd_skip; walk_at "eb"
        rw [eqD_int]; simp
      apply sd_seq
      · apply sd_skip
        · apply eb_or
          · apply eb_not; apply eb_B; exact ev_call (es_cons (ev_v rfl) (es_cons (ev_v rfl) (es_cons (ev_v rfl) (es_cons (ev_v rfl) es_nil)))) rfl ⟨k, h, w, .inr ⟨rfl, hk⟩, h2, h1, hw, rfl⟩
          · intro _; apply eb_not; apply eb_B; exact ev_call (es_cons (ev_v rfl) (es_cons (ev_v rfl) (es_cons (ev_tup es_nil (Nat.le_of_ble_eq_true rfl)) (es_cons (ev_v rfl) es_nil)))) rfl ⟨k, [], w, .inr ⟨rfl, hk⟩, by decide, (fun _ z => nomatch z), hw, rfl⟩
        · rfl
      · apply sd_skip
        · apply eb_or
          · apply eb_not; apply eb_B
            exact ev_call (es_cons (ev_v rfl) (es_cons (ev_v rfl) (es_cons (ev_slT (ev_v rfl) (eo_so ev_ci) eo_no) (es_cons (ev_v rfl) es_nil)))) rfl ⟨k, h.drop 1, w, .inr ⟨by rw [show (1 : Int) = ((1 : Nat) : Int) from rfl, cut_from], hk⟩, by rw [List.length_drop]; omega, (fun d z => h1 d (List.mem_of_mem_drop z)), hw, rfl⟩
          · intro _; apply eb_not; apply eb_B; exact ev_call (es_cons (ev_v rfl) (es_cons (ev_v rfl) (es_cons (ev_v rfl) (es_cons (ev_v rfl) es_nil)))) rfl ⟨k, h, w, .inr ⟨rfl, hk⟩, h2, h1, hw, rfl⟩
        · rfl
    · walk_at "le"
  apply sd_seq; apply sd_asg; exact ev_newD (fun G => .cons (.int 1) .nil) rfl ⟨1, rfl, rfl⟩; dsimp only [List.set]
  apply sd_seq
  · apply sd_skip; walk_at "eb"
    rw [eqD_int]; simp
  apply sd_seq
  · apply sd_skip
    · apply eb_or
      · apply eb_not; apply eb_B; exact ev_call (es_cons (ev_v rfl) (es_cons ev_ci (es_cons (ev_v rfl) (es_cons (ev_v rfl) es_nil)))) rfl ⟨1, h, w, .inr ⟨rfl, by decide⟩, h2, h1, hw, rfl⟩
      · intro _; apply eb_not; apply eb_B; exact ev_call (es_cons (ev_v rfl) (es_cons ev_ci (es_cons (ev_tup es_nil (Nat.le_of_ble_eq_true rfl)) (es_cons (ev_v rfl) es_nil)))) rfl ⟨1, [], w, .inr ⟨rfl, by decide⟩, by decide, (fun _ z => nomatch z), hw, rfl⟩
    · rfl
  apply sd_seq; apply sd_asg; exact ev_mk0; dsimp only [List.set]
  have q1 : ∀ (h : List D) (ρ : Rho) (t3 : TE), h.length ≤ 1000 → (∀ d ∈ h, okW d) → ρ[0 + 6]? = some (some (.dat (.ins C_Lost []))) → ρ[2]? = some (some (.dat w)) → EvD K t3 ρ (.tup h) →
      EvD K (tCall (spD K 4 (RCalled C_Lost C_Beneath)) [] E0 (tCons (tVar 6) (tCons (tC (.int 0)) (tCons t3 (tCons (tVar 2) tNil))))) ρ (.bl true) := fun h ρ t3 a b c e f =>
    ev_call (es_cons (ev_v c) (es_cons ev_ci (es_cons f (es_cons (ev_v e) es_nil)))) rfl ⟨0, h, w, .inl rfl, a, b, hw, rfl⟩
  apply sd_retI
  · apply ev_andV; exact q1 h _ _ h2 h1 rfl rfl (ev_v rfl)
    intro _; apply ev_andV; exact q1 [] _ _ (by decide) (fun _ z => nomatch z) rfl rfl (ev_tup es_nil (Nat.le_of_ble_eq_true rfl))
    intro _; exact q1 h _ _ h2 h1 rfl rfl (ev_v rfl)
  rfl
theorem fin_law (T : Txt mg) (M_Lost : CCls K mg "Lost" C_Lost) (M_Beneath : CCls K mg "Beneath" C_Beneath) (na_depth : NoAttr K C_Beneath "depth") (ini_lost : PySem.W.findIn K (.ref C_Lost) "__init__" = some (some (.builtin "object.__init__"))) (h_law_number : Has K mg "_law_number" s_law_number ["_law_script", "_law_k"]) (h_law_is_int : Has K mg "_law_is_int" s_law_is_int ["_law_x"]) (h_law_way : Has K mg "_law_way" s_law_way ["_law_n"]) (h_law_held : Has K mg "_law_held" s_law_held ["_law_script", "_law_start", "_law_count"]) (h_law_stored : Has K mg "_law_stored" s_law_stored ["_law_depth", "_law_held_here", "_law_way_here"]) (h_Beneath_init : ∃ f, HasMD K C_Beneath "__init__" "Beneath.__init__" s_Beneath_init ["self", "depth"] [.int 1] f) (h_Beneath_call : ∃ f, HasM K C_Beneath "__call__" "Beneath.__call__" s_Beneath_call ["self", "held", "way"] f) (h_Lost_call : ∃ f, HasM K C_Lost "__call__" "Lost.__call__" s_Lost_call ["self", "held", "way"] f) (h_law_called : Has K mg "_law_called" s_law_called ["_law_rule", "_law_depth", "_law_held_here", "_law_way_here"]) (h_law : Has K mg "law" s_law ["_law_script"]) {fa : Addr} (hm : mg "law" = some (.ref fa)) :
    ∃ fd : FuncData, (∀ (s : Shared) (u : Value), BindsTo s fd ⟨[u], []⟩ [("_law_script", u)]) ∧ ∀ base : Heap, K.In base → base.Ns mainGlobals mg → FnOk P w K mg base CX0 4 fa fd ["_law_script"] (spD K 1 RLaw) := by
  refine h_law.fin hm sc_law fun base _ _ f cdv A outer s H E hr => ?_
  have c__law_number := cal_law_number (P := P) (w := w) (base := base) T h_law_number
  have c__law_is_int := cal_law_is_int (P := P) (w := w) (base := base) T h_law_is_int
  have c__law_way := cal_law_way (P := P) (w := w) (base := base) T h_law_way
  have c__law_held := cal_law_held (P := P) (w := w) (base := base) T c__law_number c__law_way h_law_held
  have c__law_stored := cal_law_stored (P := P) (w := w) (base := base) T h_law_stored
  obtain ⟨f_Beneath_init, h_Beneath_init⟩ := h_Beneath_init
  obtain ⟨c_Beneath_init, c_Beneath_initD⟩ := cal_Beneath_init (P := P) (w := w) (mg := mg) (base := base) T M_Beneath na_depth h_Beneath_init
  obtain ⟨f_Beneath_call, h_Beneath_call⟩ := h_Beneath_call
  have c_Beneath_call := cal_Beneath_call (P := P) (w := w) (mg := mg) (base := base) T M_Beneath na_depth h_Beneath_call
  obtain ⟨f_Lost_call, h_Lost_call⟩ := h_Lost_call
  have c_Lost_call := cal_Lost_call (P := P) (w := w) (mg := mg) (base := base) T M_Lost h_Lost_call
  have c__law_called := cal_law_called (P := P) (w := w) (base := base) T c__law_stored c_Lost_call c_Beneath_call h_law_called
  exact body_law (base := base) T M_Lost M_Beneath na_depth ini_lost c__law_number c__law_is_int c__law_way c__law_held c__law_called c_Beneath_init c_Beneath_initD f cdv A outer s H E hr
end
end Ax
open PySem PySem.W PyProof.Rows
set_option maxHeartbeats 0
theorem PySem.Challenge.cw_armedexits_k04_rules_keep_holds : PySem.Challenge.rw_armedexits_k04_rules_keep.Holds := by
  w_on; o_law; k_head; (case hw => w_witness2)
  k_fill
  refine Ax.walk_law (l := PySem.Challenge.rw_armedexits_k04_rules_keep) (k := 4) ⟨rfl, by decide, by decide⟩ rfl rfl (fun w h Y => PySem.W.kIn_of Y) ?F
  case F =>
    intro w mg fa h KX G hmg
    refine' Ax.fin_law (P := _) (w := w) ⟨PySem.W.mg_none_of KX G ?b_len, PySem.W.mg_none_of KX G ?b_int, PySem.W.mg_none_of KX G ?b_sum, PySem.W.mg_none_of KX G ?b_isinstance, PySem.W.mg_none_of KX G ?b_bool, PySem.W.mg_none_of KX G ?b_range, PySem.W.mg_none_of KX G ?b_max, PySem.W.mg_none_of KX G ?b_tuple⟩ (Ax.ccls_mk "Lost" KX G ?ca_Lost ?cb_Lost ?cc_Lost ?cd_Lost ?ce_Lost ?cf_Lost ?cg_Lost) (Ax.ccls_mk "Beneath" KX G ?ca_Beneath ?cb_Beneath ?cc_Beneath ?cd_Beneath ?ce_Beneath ?cf_Beneath ?cg_Beneath) (Ax.na_mk ?na_depth) ?ini_lost
      (Ax.has_mk "_law_number" Ax.s_law_number ["_law_script", "_law_k"] KX G (fun _ _ _ _ _ _ us hl => match us, hl with | [_, _], _ => rfl) ?a_law_number ?l_law_number ?c_law_number ?k_law_number)
      (Ax.has_mk "_law_is_int" Ax.s_law_is_int ["_law_x"] KX G (fun _ _ _ _ _ _ us hl => match us, hl with | [_], _ => rfl) ?a_law_is_int ?l_law_is_int ?c_law_is_int ?k_law_is_int)
      (Ax.has_mk "_law_way" Ax.s_law_way ["_law_n"] KX G (fun _ _ _ _ _ _ us hl => match us, hl with | [_], _ => rfl) ?a_law_way ?l_law_way ?c_law_way ?k_law_way)
      (Ax.has_mk "_law_held" Ax.s_law_held ["_law_script", "_law_start", "_law_count"] KX G (fun _ _ _ _ _ _ us hl => match us, hl with | [_, _, _], _ => rfl) ?a_law_held ?l_law_held ?c_law_held ?k_law_held)
      (Ax.has_mk "_law_stored" Ax.s_law_stored ["_law_depth", "_law_held_here", "_law_way_here"] KX G (fun _ _ _ _ _ _ us hl => match us, hl with | [_, _, _], _ => rfl) ?a_law_stored ?l_law_stored ?c_law_stored ?k_law_stored)
      (Ax.hasMD_mk "__init__" "Beneath.__init__" Ax.s_Beneath_init "self" "depth" (.int 1) (fun _ _ _ _ _ _ _ us its hl hi => match us, its, hl, hi with | [_, _], [_], _, _ => ⟨_, rfl, rfl⟩) (fun _ _ _ _ _ _ _ us its hl hi => match us, its, hl, hi with | [_], [_], _, _ => ⟨_, rfl, rfl⟩) ?a_Beneath_init ?i_Beneath_init ?l_Beneath_init ?lt_Beneath_init ?ot_Beneath_init ?hv_Beneath_init ?c_Beneath_init ?k_Beneath_init)
      (Ax.hasM_mk "__call__" "Beneath.__call__" Ax.s_Beneath_call ["self", "held", "way"] (fun _ _ _ _ _ _ us hl => match us, hl with | [_, _, _], _ => rfl) ?a_Beneath_call ?i_Beneath_call ?l_Beneath_call ?c_Beneath_call ?k_Beneath_call)
      (Ax.hasM_mk "__call__" "Lost.__call__" Ax.s_Lost_call ["self", "held", "way"] (fun _ _ _ _ _ _ us hl => match us, hl with | [_, _, _], _ => rfl) ?a_Lost_call ?i_Lost_call ?l_Lost_call ?c_Lost_call ?k_Lost_call)
      (Ax.has_mk "_law_called" Ax.s_law_called ["_law_rule", "_law_depth", "_law_held_here", "_law_way_here"] KX G (fun _ _ _ _ _ _ us hl => match us, hl with | [_, _, _, _], _ => rfl) ?a_law_called ?l_law_called ?c_law_called ?k_law_called)
      (Ax.has_mk "law" Ax.s_law ["_law_script"] KX G (fun _ _ _ _ _ _ us hl => match us, hl with | [_], _ => rfl) ?a_law ?l_law ?c_law ?k_law) hmg
    (case b_len => k_is)
    (case b_int => k_is)
    (case b_sum => k_is)
    (case b_isinstance => k_is)
    (case b_bool => k_is)
    (case b_range => k_is)
    (case b_max => k_is)
    (case b_tuple => k_is)
    (case ca_Lost => k_is)
    (case cb_Lost => k_is)
    (case cc_Lost => k_is)
    (case cd_Lost => k_is)
    (case ce_Lost => k_is)
    (case cf_Lost => k_is)
    (case cg_Lost => k_is)
    (case ca_Beneath => k_is)
    (case cb_Beneath => k_is)
    (case cc_Beneath => k_is)
    (case cd_Beneath => k_is)
    (case ce_Beneath => k_is)
    (case cf_Beneath => k_is)
    (case cg_Beneath => k_is)
    (case na_depth => k_is)
    (case ini_lost => k_is)
    (case a_law_number => k_is)
    (case l_law_number => k_is)
    (case c_law_number => k_is)
    (case k_law_number => k_is)
    (case a_law_is_int => k_is)
    (case l_law_is_int => k_is)
    (case c_law_is_int => k_is)
    (case k_law_is_int => k_is)
    (case a_law_way => k_is)
    (case l_law_way => k_is)
    (case c_law_way => k_is)
    (case k_law_way => k_is)
    (case a_law_held => k_is)
    (case l_law_held => k_is)
    (case c_law_held => k_is)
    (case k_law_held => k_is)
    (case a_law_stored => k_is)
    (case l_law_stored => k_is)
    (case c_law_stored => k_is)
    (case k_law_stored => k_is)
    (case a_Beneath_init => k_is)
    (case i_Beneath_init => k_is)
    (case l_Beneath_init => k_is)
    (case lt_Beneath_init => k_is)
    (case ot_Beneath_init => rfl)
    (case hv_Beneath_init => exact .cons ⟨_, rfl⟩ .nil)
    (case c_Beneath_init => k_is)
    (case k_Beneath_init => k_is)
    (case a_Beneath_call => k_is)
    (case i_Beneath_call => k_is)
    (case l_Beneath_call => k_is)
    (case c_Beneath_call => k_is)
    (case k_Beneath_call => k_is)
    (case a_Lost_call => k_is)
    (case i_Lost_call => k_is)
    (case l_Lost_call => k_is)
    (case c_Lost_call => k_is)
    (case k_Lost_call => k_is)
    (case a_law_called => k_is)
    (case l_law_called => k_is)
    (case c_law_called => k_is)
    (case k_law_called => k_is)
    (case a_law => k_is)
    (case l_law => k_is)
    (case c_law => k_is)
    (case k_law => k_is)
