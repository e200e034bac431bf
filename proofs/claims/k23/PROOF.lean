import PyProof.Rows.All
import Wide.All
import OpenK.AllK
import Wide.FinOn
import HandS.ForMost
import HandS.Evl
import HandS.IsInst
import HandS.Gcd
import HandS.Wide
import HandS.WideBits
import HandS.Conv
import HandS.RaiseMore
import HandS.Deep
import HandS.Style
import PySem.Challenge.RW_loopworth_k23_whole_worths_of_pairs
set_option Elab.async false
set_option linter.all false
set_option maxRecDepth 100000
set_option maxHeartbeats 4000000
/-! Data that a value stands for, worlds that grow, and what an expression comes to, told over data alone. -/
namespace Kt
open PySem L2 PyProof.Rows
open Evl (Ex)

def kD : Key → PyData
  | .inl i => .int i
  | .inr s => .str s
mutual
/-- the value v stands for the data d in F -/
def Dr (K : PySem.W.Frag) (F : Hp) : PyData → V → Prop
  | .none, v => v = .non
  | .bool b, v => v = .bl b
  | .int i, v => v = .int i
  | .str x, v => v = .str x
  | .list ds, v => ∃ a xs, v = .ref a ∧ F a = some (.lst xs) ∧ DrA K F ds xs
  | .tuple ds, v => ∃ a xs, v = .ref a ∧ SqT K F a xs ∧ DrA K F ds xs
  | .dict kvs, v => ∃ a ks, v = .ref a ∧ F a = some (.dK ks) ∧ DrK K F kvs ks
def DrA (K : PySem.W.Frag) (F : Hp) : List PyData → List V → Prop
  | [], vs => vs = []
  | d :: ds, vs => ∃ v r, vs = v :: r ∧ Dr K F d v ∧ DrA K F ds r
def DrK (K : PySem.W.Frag) (F : Hp) : List (PyData × PyData) → List (Key × V) → Prop
  | [], ks => ks = []
  | (k, d) :: r, ks => ∃ k' v r', ks = (k', v) :: r' ∧ k = kD k' ∧ Dr K F d v ∧ DrK K F r r'
end
section
variable {K : PySem.W.Frag} {F F' H H' : Hp}
mutual
theorem Dr.mono (e : Ex F F') : ∀ (d : PyData) {v : V}, Dr K F d v → Dr K F' d v
  | .none, _, h => h
  | .bool _, _, h => h
  | .int _, _, h => h
  | .str _, _, h => h
  | .list ds, _, ⟨a, xs, h1, h2, h3⟩ => ⟨a, xs, h1, e _ _ h2, DrA.mono e ds h3⟩
  | .tuple ds, _, ⟨a, xs, h1, h2, h3⟩ => ⟨a, xs, h1, Evl.ex_t e h2, DrA.mono e ds h3⟩
  | .dict kvs, _, ⟨a, ks, h1, h2, h3⟩ => ⟨a, ks, h1, e _ _ h2, DrK.mono e kvs h3⟩
theorem DrA.mono (e : Ex F F') : ∀ (ds : List PyData) {vs : List V}, DrA K F ds vs → DrA K F' ds vs
  | [], _, h => h
  | d :: ds, _, ⟨v, r, h1, h2, h3⟩ => ⟨v, r, h1, Dr.mono e d h2, DrA.mono e ds h3⟩
theorem DrK.mono (e : Ex F F') : ∀ (ds : List (PyData × PyData)) {ks : List (Key × V)}, DrK K F ds ks → DrK K F' ds ks
  | [], _, h => h
  | (k, d) :: r, _, ⟨k', v, r', h1, h2, h3, h4⟩ => ⟨k', v, r', h1, h2, Dr.mono e d h3, DrK.mono e r h4⟩
end
theorem DrA.length : ∀ {ds : List PyData} {vs : List V}, DrA K F ds vs → vs.length = ds.length
  | [], _, h => by rw [show _ = [] from h]; rfl
  | d :: ds, _, ⟨v, r, h1, _, h3⟩ => by rw [h1, List.length_cons, List.length_cons, DrA.length h3]
theorem DrA.append : ∀ {ds es : List PyData} {vs us : List V}, DrA K F ds vs → DrA K F es us → DrA K F (ds ++ es) (vs ++ us)
  | [], _, _, _, h, k => by rw [show _ = [] from h]; exact k
  | d :: ds, _, _, _, ⟨v, r, h1, h2, h3⟩, k => by rw [h1]; exact ⟨v, r ++ _, rfl, h2, DrA.append h3 k⟩
theorem DrA.get : ∀ {ds : List PyData} {vs : List V} {i : Nat} {d : PyData}, DrA K F ds vs → ds[i]? = some d → ∃ v, vs[i]? = some v ∧ Dr K F d v
  | [], _, _, _, _, k => by simp at k
  | d :: ds, _, 0, e, ⟨v, r, h1, h2, _⟩, k => by rw [h1]; cases k; exact ⟨v, rfl, h2⟩
  | d :: ds, _, i + 1, e, ⟨v, r, h1, _, h3⟩, k => by rw [h1]; exact DrA.get (i := i) h3 (by simpa using k)
theorem DrA.take : ∀ {ds : List PyData} {vs : List V} (n : Nat), DrA K F ds vs → DrA K F (ds.take n) (vs.take n)
  | [], _, n, h => by rw [show _ = [] from h]; simp [DrA]
  | d :: ds, _, 0, _ => by simp [DrA]
  | d :: ds, _, n + 1, ⟨v, r, h1, h2, h3⟩ => by rw [h1]; exact ⟨v, r.take n, rfl, h2, DrA.take n h3⟩
theorem DrA.drop : ∀ {ds : List PyData} {vs : List V} (n : Nat), DrA K F ds vs → DrA K F (ds.drop n) (vs.drop n)
  | [], _, n, h => by rw [show _ = [] from h]; simp [DrA]
  | d :: ds, _, 0, h => h
  | d :: ds, _, n + 1, ⟨v, r, h1, h2, h3⟩ => by rw [h1]; exact DrA.drop n h3
theorem DrA.reverse : ∀ {ds : List PyData} {vs : List V}, DrA K F ds vs → DrA K F ds.reverse vs.reverse
  | [], _, h => by rw [show _ = [] from h]; simp [DrA]
  | d :: ds, _, ⟨v, r, h1, h2, h3⟩ => by
    rw [h1, List.reverse_cons, List.reverse_cons]
    exact DrA.append (DrA.reverse h3) ⟨v, [], rfl, h2, rfl⟩
theorem DrA.set : ∀ {ds : List PyData} {vs : List V} {d : PyData} {v : V} (i : Nat), Dr K F d v → DrA K F ds vs → DrA K F (ds.set i d) (vs.set i v)
  | [], _, _, _, _, _, h => by rw [show _ = [] from h]; simp [DrA]
  | d :: ds, _, _, _, 0, k, ⟨v, r, h1, h2, h3⟩ => by rw [h1]; exact ⟨_, r, rfl, k, h3⟩
  | d :: ds, _, _, _, n + 1, k, ⟨v, r, h1, h2, h3⟩ => by rw [h1]; exact ⟨v, _, rfl, h2, DrA.set n k h3⟩
theorem DrA.nil : DrA K F [] [] := rfl
theorem DrA.cons {d : PyData} {v : V} {ds : List PyData} {vs : List V} (h : Dr K F d v) (k : DrA K F ds vs) : DrA K F (d :: ds) (v :: vs) := ⟨v, vs, rfl, h, k⟩
theorem DrA.ints (ns : List Int) : DrA K F (ns.map PyData.int) (ns.map V.int) := by
  induction ns with
  | nil => rfl
  | cons n r ih => exact ⟨_, _, rfl, rfl, ih⟩
end

/-! ### reading -/
section
variable {X : Cx} {pins : List (Addr × Obj)} {σ : L2.St} {F H : Hp} {s : Shared}
theorem keyIs_reads {h : Heap} {k : Key} {v : Value} (e : keyIs k v = true) : Reads h v (kD k) [] := by
  rcases keyIs_shape e with ⟨i, t, rfl, rfl⟩ | ⟨x, t, rfl, rfl⟩
  · exact Reads.int i t
  · exact Reads.str x t
mutual
theorem Dr.reads (I : Inv X pins σ H s) (e : Ex F H) : ∀ (d : PyData) (v : V) (u : Value), Dr X.K F d v → RelV v u → ∃ as, Reads s.heap u d as
  | .none, _, _, h, r => by
    cases (show _ = V.non from h); cases r; exact ⟨_, Reads.none⟩
  | .bool b, _, _, h, r => by
    cases (show _ = V.bl b from h); cases r; exact ⟨_, Reads.bool b⟩
  | .int i, _, _, h, r => by
    cases (show _ = V.int i from h); obtain ⟨t, rfl⟩ := r; exact ⟨_, Reads.int i t⟩
  | .str x, _, _, h, r => by
    cases (show _ = V.str x from h); obtain ⟨t, rfl⟩ := r; exact ⟨_, Reads.str x t⟩
  | .list ds, _, _, ⟨a, xs, h1, hs, ha⟩, r => by
    subst h1
    cases r
    obtain ⟨its, rv, ⟨o, n, ho, hc, _, hd⟩, _⟩ := I.list (SqL.of (e _ _ hs))
    obtain ⟨as, hr⟩ := Dr.readsAll I e ds _ its ha rv
    exact ⟨_, Reads.list ho hc hd hr⟩
  | .tuple ds, _, _, ⟨a, xs, h1, hs, ha⟩, r => by
    subst h1
    cases r
    obtain ⟨its, rv, ⟨o, ho, hc, n, hd⟩, _⟩ := I.tuple (Evl.ex_t e hs)
    obtain ⟨as, hr⟩ := Dr.readsAll I e ds _ its ha rv
    exact ⟨_, Reads.tuple ho hc hd hr⟩
  | .dict kvs, _, _, ⟨a, ks, h1, hk, ha⟩, r => by
    subst h1
    cases r
    obtain ⟨_, _, vs, rv, o, es, ep, ho, hx, hd, _, hp, _⟩ := (show ObjOk X.prog X.w H s.heap a (.dK ks) from I.hok a _ (e _ _ hk))
    obtain ⟨as, bs, q1, q2⟩ := Dr.readsKv I e kvs ks vs es.toList ha rv hp
    exact ⟨_, Reads.dict ho hx.1 hd q1 q2⟩
theorem Dr.readsAll (I : Inv X pins σ H s) (e : Ex F H) : ∀ (ds : List PyData) (vs : List V) (us : List Value), DrA X.K F ds vs → Vals vs us → ∃ as, ReadsAll s.heap us ds as
  | [], _, _, h, r => by
    cases (show _ = [] from h); cases r; exact ⟨_, ReadsAll.nil⟩
  | d :: ds, _, _, ⟨v, t, h1, h2, h3⟩, r => by
    subst h1
    cases r with
    | cons r1 r2 =>
      obtain ⟨as, q1⟩ := Dr.reads I e d _ _ h2 r1
      obtain ⟨bs, q2⟩ := Dr.readsAll I e ds _ _ h3 r2
      exact ⟨_, ReadsAll.cons q1 q2⟩
theorem Dr.readsKv (I : Inv X pins σ H s) (e : Ex F H) : ∀ (kvs : List (PyData × PyData)) (ks : List (Key × V)) (vs : List (Key × Value)) (es : List DictEntry), DrK X.K F kvs ks → KV ks vs → Pairs (mixKind X.prog X.w) es vs →
    ∃ as bs, ReadsAll s.heap (es.map (·.key)) (kvs.map (·.1)) as ∧ ReadsAll s.heap (es.map (·.val)) (kvs.map (·.2)) bs
  | [], _, _, _, h, r, p => by
    cases (show _ = [] from h)
    cases r
    cases p
    exact ⟨_, _, ReadsAll.nil, ReadsAll.nil⟩
  | (k, d) :: kvs, _, _, _, ⟨k', v, r', h1, h2, h3, h4⟩, r, p => by
    subst h1
    subst h2
    cases r with
    | cons r1 r2 =>
      cases p with
      | cons p1 p2 p3 =>
        obtain ⟨e1, e2⟩ := r1
        obtain ⟨as, bs, q1, q2⟩ := Dr.readsKv I e kvs _ _ _ h4 r2 p3
        rw [← e1] at p1
        have g : Reads s.heap _ (kD k') [] := keyIs_reads p1
        rw [← p2] at e2
        obtain ⟨cs, q3⟩ := Dr.reads I e d _ _ h3 e2
        exact ⟨_, _, ReadsAll.cons g q1, ReadsAll.cons q3 q2⟩
end
end
end Kt

namespace Kt
open PySem L2 PyProof.Rows
open Evl (Ex)

/-! ### the law's source of draws: a dict at s, its list of cells at c -/
def srcK (c : Addr) (l m t : Int) : List (Key × V) := [(Sum.inr "cells", .ref c), (Sum.inr "left", .int l), (Sum.inr "mixed", .int m), (Sum.inr "turn", .int t)]
abbrev SR := Option (Addr × Addr)
def inS : SR → Addr → Prop
  | none, _ => False
  | some (s, c), a => a = s ∨ a = c
def SrcAt (s c : Addr) (H : Hp) : Prop := s ≠ c ∧ ∃ (l m t : Int) (ns : List Int), H s = some (.dK (srcK c l m t)) ∧ H c = some (.lst (ns.map V.int)) ∧ 0 ≤ l ∧ (∀ n ∈ ns, 0 ≤ n) ∧ 0 ≤ m ∧ m < 2147483629 ∧ 0 ≤ t
def SrcOk : SR → Hp → Prop
  | none, _ => True
  | some (s, c), H => SrcAt s c H

/-- from (F, H) to (F', H'): what F knows stays; all of H but the source stays; F' knows of H's things what F does -/
structure Nw (S : SR) (F H F' H' : Hp) : Prop where
  ff : Ex F F'
  fh : Ex F' H'
  hh : ∀ a o, ¬ inS S a → H a = some o → H' a = some o
  old : ∀ a o, H a = some o → F' a = F a
  src : SrcOk S H'
  sf : ∀ a, inS S a → F' a = none
structure Wk (S : SR) (F H : Hp) : Prop where
  fh : Ex F H
  src : SrcOk S H
  sf : ∀ a, inS S a → F a = none
section
variable {S : SR} {F H F1 H1 F2 H2 F' H' : Hp}
theorem Wk.nw (w : Wk S F H) : Nw S F H F H := ⟨Ex.refl F, w.fh, fun _ _ _ h => h, fun _ _ _ => rfl, w.src, w.sf⟩
theorem Nw.wk (n : Nw S F H F' H') : Wk S F' H' := ⟨n.fh, n.src, n.sf⟩
theorem srcOk_some {a : Addr} (h : SrcOk S H) (i : inS S a) : ∃ o, H a = some o := by
  cases S with
  | none => exact i.elim
  | some p =>
    obtain ⟨s, c⟩ := p
    obtain ⟨_, l, m, t, ns, h1, h2, _⟩ := h
    rcases i with rfl | rfl
    · exact ⟨_, h1⟩
    · exact ⟨_, h2⟩
theorem Nw.trans (a : Nw S F H F1 H1) (b : Nw S F1 H1 F2 H2) : Nw S F H F2 H2 := ⟨a.ff.trans b.ff, b.fh, fun x o n h => b.hh x o n (a.hh x o n h), fun x o h => by
  by_cases i : inS S x
  · obtain ⟨o', h'⟩ := srcOk_some a.src i
    rw [b.old x o' h', a.old x o h]
  · rw [b.old x o (a.hh x o i h), a.old x o h], b.src, b.sf⟩
theorem SrcOk.ex (h : SrcOk S H) (e : ∀ a o, inS S a → H a = some o → H' a = some o) : SrcOk S H' := by
  cases S with
  | none => exact trivial
  | some p =>
    obtain ⟨s, c⟩ := p
    obtain ⟨n, l, m, t, ns, h1, h2, r⟩ := h
    exact ⟨n, l, m, t, ns, e _ _ (Or.inl rfl) h1, e _ _ (Or.inr rfl) h2, r⟩
/-- a new thing at p, known -/
theorem Wk.new (w : Wk S F H) {p : Addr} {o : HO} (h : H p = none) : Nw S F H (upd F p o) (upd H p o) := by
  have nf : F p = none := Evl.fresh_back w.fh h
  have np : ¬ inS S p := fun i => by
    obtain ⟨o', h'⟩ := srcOk_some w.src i
    rw [h] at h'; cases h'
  refine ⟨Ex.new nf, fun a u e => ?_, fun a u _ e => ?_, fun a u e => ?_, w.src.ex fun a u _ e => ?_, fun a i => ?_⟩
  · by_cases ha : a = p
    · subst ha; rw [upd_same] at e ⊢; exact e
    · rw [upd_ne ha] at e ⊢; exact w.fh a u e
  · rw [upd_ne (ne_of_none e h)]; exact e
  · rw [upd_ne (ne_of_none e h)]
  · rw [upd_ne (ne_of_none e h)]; exact e
  · rw [upd_ne (fun z : a = p => np (by rw [← z]; exact i))]; exact w.sf a i
/-- a new thing at p, not yet known (it will change) -/
theorem Wk.newO (w : Wk S F H) {p : Addr} {o : HO} (h : H p = none) : Nw S F H F (upd H p o) := by
  have np : ¬ inS S p := fun i => by
    obtain ⟨o', h'⟩ := srcOk_some w.src i
    rw [h] at h'; cases h'
  refine ⟨Ex.refl F, fun a u e => ?_, fun a u _ e => ?_, fun a u e => rfl, w.src.ex fun a u _ e => ?_, w.sf⟩
  · rw [upd_ne (ne_of_none (w.fh _ _ e) h)]; exact w.fh a u e
  · rw [upd_ne (ne_of_none e h)]; exact e
  · rw [upd_ne (ne_of_none e h)]; exact e
theorem upd_upd2 {p : Addr} {o o' : HO} : upd (upd H p o) p o' = upd H p o' := L2.upd_upd
end

/-! ### slots -/
inductive Sl where
  | no
  | dat (d : PyData)
  | own (ds : List PyData)
  | src
  | cel
structure Gh where
  S : SR
  F0 : Hp
  H0 : Hp
def SlOk (K : PySem.W.Frag) (G : Gh) (F H : Hp) : Sl → Option (Option V) → Prop
  | .no, _ => True
  | .dat d, o => ∃ v, o = some (some v) ∧ Dr K F d v
  | .own ds, o => ∃ a xs, o = some (some (.ref a)) ∧ G.H0 a = none ∧ F a = none ∧ H a = some (.lst xs) ∧ DrA K F ds xs
  | .src, o => ∃ s c, G.S = some (s, c) ∧ o = some (some (.ref s))
  | .cel, o => ∃ s c, G.S = some (s, c) ∧ o = some (some (.ref c))
def isOwn : Option Sl → Prop
  | some (.own _) => True
  | _ => False
structure ES (K : PySem.W.Frag) (G : Gh) (σ : L2.St) (F H : Hp) (ρ : List Sl) : Prop where
  nw : Nw G.S G.F0 G.H0 F H
  s0 : SrcOk G.S G.H0
  len : σ.length = ρ.length
  sl : ∀ (i : Nat) (s : Sl), ρ[i]? = some s → SlOk K G F H s σ[i]?
  ap : ∀ (i j : Nat), i ≠ j → isOwn ρ[i]? → isOwn ρ[j]? → σ[i]? ≠ σ[j]?
section
variable {K : PySem.W.Frag} {G : Gh} {σ : L2.St} {F H F' H' : Hp} {ρ : List Sl}
theorem ES.wk (e : ES K G σ F H ρ) : Wk G.S F H := e.nw.wk
theorem notS {a : Addr} (s0 : SrcOk G.S G.H0) (h : G.H0 a = none) : ¬ inS G.S a := fun i => by
  obtain ⟨o, e⟩ := srcOk_some s0 i
  rw [h] at e; cases e
theorem ES.mono (e : ES K G σ F H ρ) (n : Nw G.S F H F' H') : ES K G σ F' H' ρ := by
  refine ⟨e.nw.trans n, e.s0, e.len, fun i s hs => ?_, e.ap⟩
  have q := e.sl i s hs
  cases s with
  | no => exact trivial
  | dat d => obtain ⟨v, h1, h2⟩ := q; exact ⟨v, h1, Dr.mono n.ff d h2⟩
  | own ds =>
    obtain ⟨a, xs, h1, h2, h3, h4, h5⟩ := q
    exact ⟨a, xs, h1, h2, (n.old a _ h4).trans h3, n.hh a _ (notS e.s0 h2) h4, DrA.mono n.ff ds h5⟩
  | src => exact q
  | cel => exact q
theorem ES.dat {i : Nat} {d : PyData} (e : ES K G σ F H ρ) (h : ρ[i]? = some (.dat d)) : ∃ v, σ[i]? = some (some v) ∧ Dr K F d v := e.sl i _ h
/-- a slot that holds known data -/
theorem ES.set {i : Nat} {d : PyData} {v : V} (e : ES K G σ F H ρ) (h : Dr K F d v) : ES K G (σ.set i (some v)) F H (ρ.set i (.dat d)) := by
  refine ⟨e.nw, e.s0, by rw [List.length_set, List.length_set]; exact e.len, fun j s hs => ?_, fun j k hjk hj hk => ?_⟩
  · by_cases hij : i = j
    · subst hij
      by_cases hl : i < ρ.length
      · rw [List.getElem?_set_self hl] at hs; cases hs
        exact ⟨v, List.getElem?_set_self (by rw [e.len]; exact hl), h⟩
      · rw [List.getElem?_eq_none (by rw [List.length_set]; omega)] at hs; cases hs
    · rw [List.getElem?_set_ne hij] at hs ⊢; exact e.sl j s hs
  · have f : ∀ (m : Nat), isOwn (ρ.set i (.dat d))[m]? → i ≠ m ∧ isOwn ρ[m]? := fun m hm => by
      by_cases him : i = m
      · subst him
        by_cases hl : i < ρ.length
        · rw [List.getElem?_set_self hl] at hm; exact hm.elim
        · rw [List.getElem?_eq_none (by rw [List.length_set]; omega)] at hm; exact hm.elim
      · rw [List.getElem?_set_ne him] at hm; exact ⟨him, hm⟩
    obtain ⟨a1, a2⟩ := f j hj
    obtain ⟨b1, b2⟩ := f k hk
    rw [List.getElem?_set_ne a1, List.getElem?_set_ne b1]
    exact e.ap j k hjk a2 b2
theorem ES.forget {i : Nat} {o : Option V} (e : ES K G σ F H ρ) : ES K G (σ.set i o) F H (ρ.set i .no) := by
  refine ⟨e.nw, e.s0, by rw [List.length_set, List.length_set]; exact e.len, fun j s hs => ?_, fun j k hjk hj hk => ?_⟩
  · by_cases hij : i = j
    · subst hij
      by_cases hl : i < ρ.length
      · rw [List.getElem?_set_self hl] at hs; cases hs
        exact trivial
      · rw [List.getElem?_eq_none (by rw [List.length_set]; omega)] at hs; cases hs
    · rw [List.getElem?_set_ne hij] at hs ⊢; exact e.sl j s hs
  · have f : ∀ (m : Nat), isOwn (ρ.set i .no)[m]? → i ≠ m ∧ isOwn ρ[m]? := fun m hm => by
      by_cases him : i = m
      · subst him
        by_cases hl : i < ρ.length
        · rw [List.getElem?_set_self hl] at hm; exact hm.elim
        · rw [List.getElem?_eq_none (by rw [List.length_set]; omega)] at hm; exact hm.elim
      · rw [List.getElem?_set_ne him] at hm; exact ⟨him, hm⟩
    obtain ⟨a1, a2⟩ := f j hj
    obtain ⟨b1, b2⟩ := f k hk
    rw [List.getElem?_set_ne a1, List.getElem?_set_ne b1]
    exact e.ap j k hjk a2 b2
/-- a slot that holds a new list of its own -/
theorem ES.setOwn {i : Nat} {ds : List PyData} {xs : List V} {a : Addr} (e : ES K G σ F H ρ) (hn : H a = none) (h : DrA K F ds xs) : ES K G (σ.set i (some (.ref a))) F (upd H a (.lst xs)) (ρ.set i (.own ds)) := by
  have n := e.wk.newO (o := .lst xs) hn
  have e' := e.mono n
  have fa : F a = none := Evl.fresh_back e.wk.fh hn
  have h0 : G.H0 a = none := by
    cases q : G.H0 a with
    | none => rfl
    | some o =>
      by_cases i : inS G.S a
      · obtain ⟨o', q'⟩ := srcOk_some e.nw.src i
        rw [hn] at q'; cases q'
      · rw [e.nw.hh a o i q] at hn; cases hn
  have apart : ∀ (m : Nat), isOwn ρ[m]? → σ[m]? ≠ some (some (V.ref a)) := fun m hm q => by
    cases hr : ρ[m]? with
    | none => rw [hr] at hm; exact hm
    | some s =>
      cases s with
      | own ds' =>
        obtain ⟨a', xs', h1, _, _, h4, _⟩ := e.sl m _ hr
        rw [q] at h1; cases h1
        rw [hn] at h4; cases h4
      | no => rw [hr] at hm; exact hm
      | dat d => rw [hr] at hm; exact hm
      | src => rw [hr] at hm; exact hm
      | cel => rw [hr] at hm; exact hm
  refine ⟨e'.nw, e.s0, by rw [List.length_set, List.length_set]; exact e.len, fun j s hs => ?_, fun j k hjk hj hk => ?_⟩
  · by_cases hij : i = j
    · subst hij
      by_cases hl : i < ρ.length
      · rw [List.getElem?_set_self hl] at hs; cases hs
        exact ⟨a, xs, List.getElem?_set_self (by rw [e.len]; exact hl), h0, fa, upd_same, h⟩
      · rw [List.getElem?_eq_none (by rw [List.length_set]; omega)] at hs; cases hs
    · rw [List.getElem?_set_ne hij] at hs ⊢; exact e'.sl j s hs
  · by_cases hij : i = j
    · subst hij
      have hik : i ≠ k := hjk
      rw [List.getElem?_set_ne hik]
      rw [List.getElem?_set_ne hik] at hk
      intro q
      by_cases hl : i < σ.length
      · rw [List.getElem?_set_self hl] at q
        exact apart k hk q.symm
      · rw [List.getElem?_eq_none (by rw [List.length_set, ← e.len]; omega)] at hj
        exact hj
    · rw [List.getElem?_set_ne hij]
      rw [List.getElem?_set_ne hij] at hj
      by_cases hik : i = k
      · subst hik
        intro q
        by_cases hl : i < σ.length
        · rw [List.getElem?_set_self hl] at q
          exact apart j hj q
        · rw [List.getElem?_eq_none (by rw [List.length_set, ← e.len]; omega)] at hk
          exact hk
      · rw [List.getElem?_set_ne hik]
        rw [List.getElem?_set_ne hik] at hk
        exact e.ap j k hjk hj hk
/-- an own list changes -/
theorem ES.mut {i : Nat} {ds es : List PyData} (e : ES K G σ F H ρ) (hi : ρ[i]? = some (.own ds)) {a : Addr} {ys : List V} (ha : σ[i]? = some (some (.ref a))) (h : DrA K F es ys) : ES K G σ F (upd H a (.lst ys)) (ρ.set i (.own es)) := by
  obtain ⟨a', xs, h1, h2, h3, h4, h5⟩ := e.sl i _ hi
  rw [ha] at h1; cases h1
  have ns := notS e.s0 h2
  refine ⟨⟨e.nw.ff, fun b o q => ?_, fun b o n q => ?_, e.nw.old, e.nw.src.ex fun b o n q => ?_, e.nw.sf⟩, e.s0, by rw [List.length_set]; exact e.len, fun j s hs => ?_, fun j k hjk hj hk => ?_⟩
  · rw [upd_ne (ne_of_none q h3)]; exact e.nw.fh b o q
  · rw [upd_ne (ne_of_none q h2)]; exact e.nw.hh b o n q
  · rw [upd_ne (fun z : b = a => ns (by rw [← z]; exact n))]; exact q
  · by_cases hij : i = j
    · subst hij
      by_cases hl : i < ρ.length
      · rw [List.getElem?_set_self hl] at hs; cases hs
        exact ⟨a, ys, ha, h2, h3, upd_same, h⟩
      · rw [List.getElem?_eq_none (by rw [List.length_set]; omega)] at hs; cases hs
    · rw [List.getElem?_set_ne hij] at hs
      have q := e.sl j s hs
      cases s with
      | no => exact trivial
      | dat d => exact q
      | own ds' =>
        obtain ⟨b, zs, g1, g2, g3, g4, g5⟩ := q
        have nb : b ≠ a := fun z => by
          have w := e.ap i j hij (by rw [hi]; exact trivial) (by rw [hs]; exact trivial)
          rw [ha, g1, z] at w
          exact w rfl
        exact ⟨b, zs, g1, g2, g3, by rw [upd_ne nb]; exact g4, g5⟩
      | src => exact q
      | cel => exact q
  · have f : ∀ (m : Nat), isOwn (ρ.set i (.own es))[m]? → isOwn ρ[m]? := fun m hm => by
      by_cases him : i = m
      · subst him; rw [hi]; exact trivial
      · rw [List.getElem?_set_ne him] at hm; exact hm
    exact e.ap j k hjk (f j hj) (f k hk)
/-- an own list is from now on known data -/
theorem ES.freeze {i : Nat} {ds : List PyData} (e : ES K G σ F H ρ) (hi : ρ[i]? = some (.own ds)) : ∃ F' v, σ[i]? = some (some v) ∧ Nw G.S G.F0 G.H0 F' H ∧ Ex F F' ∧ Dr K F' (.list ds) v ∧ ES K G σ F' H (ρ.set i (.dat (.list ds))) := by
  obtain ⟨a, xs, h1, h2, h3, h4, h5⟩ := e.sl i _ hi
  have ns := notS e.s0 h2
  have x1 : Ex F (upd F a (.lst xs)) := Ex.new h3
  have n1 : Nw G.S G.F0 G.H0 (upd F a (.lst xs)) H := ⟨e.nw.ff.trans x1, fun b o q => by
    by_cases hb : b = a
    · subst hb; rw [upd_same] at q; cases q; exact h4
    · rw [upd_ne hb] at q; exact e.nw.fh b o q, e.nw.hh, fun b o q => by rw [upd_ne (ne_of_none q h2)]; exact e.nw.old b o q, e.nw.src, fun b i => by rw [upd_ne (fun z : b = a => ns (by rw [← z]; exact i))]; exact e.nw.sf b i⟩
  have dr : Dr K (upd F a (.lst xs)) (.list ds) (.ref a) := ⟨a, xs, rfl, upd_same, DrA.mono x1 ds h5⟩
  refine ⟨upd F a (.lst xs), .ref a, h1, n1, x1, dr, ⟨n1, e.s0, by rw [List.length_set]; exact e.len, fun j s hs => ?_, fun j k hjk hj hk => ?_⟩⟩
  · by_cases hij : i = j
    · subst hij
      by_cases hl : i < ρ.length
      · rw [List.getElem?_set_self hl] at hs; cases hs
        exact ⟨.ref a, h1, dr⟩
      · rw [List.getElem?_eq_none (by rw [List.length_set]; omega)] at hs; cases hs
    · rw [List.getElem?_set_ne hij] at hs
      have q := e.sl j s hs
      cases s with
      | no => exact trivial
      | dat d => obtain ⟨v, g1, g2⟩ := q; exact ⟨v, g1, Dr.mono x1 d g2⟩
      | own ds' =>
        obtain ⟨b, zs, g1, g2, g3, g4, g5⟩ := q
        have nb : b ≠ a := fun z => by
          have w := e.ap i j hij (by rw [hi]; exact trivial) (by rw [hs]; exact trivial)
          rw [h1, g1, z] at w
          exact w rfl
        exact ⟨b, zs, g1, g2, by rw [upd_ne nb]; exact g3, g4, DrA.mono x1 ds' g5⟩
      | src => exact q
      | cel => exact q
  · have f : ∀ (m : Nat), isOwn (ρ.set i (.dat (.list ds)))[m]? → isOwn ρ[m]? := fun m hm => by
      by_cases him : i = m
      · subst him; rw [hi]; exact trivial
      · rw [List.getElem?_set_ne him] at hm; exact hm
    exact e.ap j k hjk (f j hj) (f k hk)
/-- slots may be forgotten -/
def Le : Sl → Sl → Prop := fun a b => a = .no ∨ a = b
theorem ES.weak {ρ' : List Sl} (e : ES K G σ F H ρ) (hl : ρ'.length = ρ.length) (h : ∀ (i : Nat) s, ρ'[i]? = some s → s = .no ∨ ρ[i]? = some s) : ES K G σ F H ρ' := by
  refine ⟨e.nw, e.s0, e.len.trans hl.symm, fun j s hs => ?_, fun j k hjk hj hk => ?_⟩
  · rcases h j s hs with rfl | q
    · exact trivial
    · exact e.sl j s q
  · have f : ∀ (m : Nat), isOwn ρ'[m]? → isOwn ρ[m]? := fun m hm => by
      cases q : ρ'[m]? with
      | none => rw [q] at hm; exact hm.elim
      | some s =>
        rcases h m s q with rfl | q'
        · rw [q] at hm; exact hm.elim
        · rw [q', ← q]; exact hm
    exact e.ap j k hjk (f j hj) (f k hk)
end
end Kt

/-! A def's promise where no text of a container is being made around it (guards: none). -/
namespace Kt
open PySem L2 PyProof.Rows PySem.Spec
open Evl (Ex)
structure FnG (P : Program) (w : World) (K : PySem.W.Frag) (mg : Str → Option Value) (base : Heap)
    (k : Nat) (f : Addr) (fd : FuncData) (ps : List Str) (sp : Sp) : Prop where
  len : ∀ vs H Q E, sp vs H Q E → vs.length = ps.length
  go : ∀ (A : Around) (ol : List Env) (s : Shared) (H : Hp) (ar : Args) (us : List Value) (vs : List V) (Q : VK) (E : XK),
    A.guards = some [] → Room k A → Env0 P w K mg base A ol s H → BindsTo s fd ar (ps.zip us) → Vals vs us →
    sp vs H Q E → codeAny (model P w) A (.call (.ref f) ar) (CR CX0 ol P w H s Q E) s
section
variable {P : Program} {w : World} {K : PySem.W.Frag} {mg : Str → Option Value} {base : Heap}
theorem FnG.mono {j k : Nat} {f : Addr} {fd : FuncData} {ps : List Str} {sp : Sp}
    (F : FnG P w K mg base j f fd ps sp) (h : j ≤ k) : FnG P w K mg base k f fd ps sp :=
  ⟨F.len, fun A ol s H ar us vs Q E g hr => F.go A ol s H ar us vs Q E g (hr.mono h)⟩
/-- a def of the text keeps its promise if its body does -/
theorem Fun.okG {x qual : Str} {st : Stmt} {f : Addr} {fd : FuncData} {N ps : List Str} {k : Nat} {sp : Sp}
    (F : Fun K x qual st f fd) (S : FnScope N ps (defScope st)) (len : ∀ vs H Q E, sp vs H Q E → vs.length = ps.length)
    (body : ∀ (cdv : Value) (A : Around) (ol : List Env) (s : Shared) (H : Hp) (vs : List V) (Q : VK) (E : XK),
      A.guards = some [] → Room k (A.deeper (envOfC qual (defScope st) s.heap.objs.size f cdv)) → sp vs H Q E →
      ∃ t, PSs (cxOf CX0 P w K mg base N qual (defScope st) f cdv A ol s H E).nox (defBody st) t ∧
        t { nx := fun _ H' => Q .non H', rt := Q } (start N vs) H) : FnG P w K mg base (k + 1) f fd ps sp := by
  obtain ⟨oc, od, kV, doc, pm, an, cdv, ct, osl, rfl, lk, hcd⟩ := F.ex
  refine ⟨len, ?_⟩
  intro A ol s H ar us vs Q E hgd hr e0 hbind rv hsp
  have hlen := len vs H Q E hsp
  have keep : ∀ b o, base.get? b = some o → s.heap.get? b = some o := fun b o q => (e0.bs b o q).1
  have kin : K.In s.heap := e0.mod.kin.keeps keep
  have nolim : s.heap.NoLimit := e0.mod.nolimit.keeps keep
  have kinds : ∀ y ∈ ps.zip us, (defScope st).names.lookup y.1 = some .local ∨
      ((defScope st).names.lookup y.1 = some .cell ∧
        ((cellsFrom (s.heap.objs.size + 1) (defScope st).names []).lookup y.1).isSome = true) := by
    rintro ⟨n, v⟩ hy
    have hm := S.par n (List.of_mem_zip hy).1
    rcases hm with q | q
    · exact Or.inl q
    · exact Or.inr ⟨q, PySem.W.cellsFrom_some _ _ _ (Or.inl q)⟩
  refine codeAny_call_function hr.depth (kin _ _ lk) rfl S.co S.gen rfl
    (PySem.W.codeRec_of kin hcd) (hbind _ _ _ _ ?_)
  refine wpAny_newFunctionEnv_cells S.kind kinds ?_
  intro env ee s1 ic
  subst ee
  refine ⟨nolim.keeps ic.toInCall.keep, codeAny_func ?_⟩
  obtain ⟨t, ht, hq⟩ := body cdv A ol s H vs Q E hgd (hr.deeper _) hsp
  have I0 := inv_start (CX := CX0) (P := P) (E := E) S hr.hd e0 hlen rv ic
  have done : ∀ {σ' : L2.St} {H' : Hp} {v : V} {u : Value} {s' : Shared},
      Inv (cxOf CX0 P w K mg base N qual (defScope st) f cdv A ol s H E) [] σ' H' s' →
      RelV v u → Q v H' → CE ol P w H s Q u s' := by
    intro σ' H' v u s' J ru q
    exact ⟨v, H', J.os, J.bare, J.base, J.hok, ru, q⟩
  refine wpAny_mono (ht.nox.run [] s1 (start N vs) H _ I0 hq) ?_ (fun _ _ z => z)
  intro fl s' h
  cases fl with
  | brk => obtain ⟨_, _, _, z⟩ := h; exact z.elim
  | cont => obtain ⟨_, _, _, z⟩ := h; exact z.elim
  | next => obtain ⟨_, _, J, q⟩ := h; exact done (v := .non) J rfl q
  | ret u => obtain ⟨_, _, _, J, ru, q⟩ := h; exact done J ru q
end
section
variable {X : Cx} {k : Nat} {f : Addr} {fd : FuncData} {ps : List Str} {sp : Sp} {x : Str} {p pos : Pos} {e : Expr} {es : List Expr} {t : TA}
theorem runG {pins : List (Addr × Obj)} {σ : L2.St} {H : Hp} {s : Shared} {Q : VK} {us : List Value} {vs : List V}
    (F : FnG X.prog X.w X.K X.mg X.base k f fd ps sp) (hgd : X.A.guards = some []) (hr : Room k X.A)
    (hb : Binds X.K fd ps []) (I : Inv X pins σ H s) (r : Vals vs us) (h : sp vs H Q E0) :
    wpAny (model X.prog X.w) X.A (call (.ref f) us) (EP X pins σ Q) X.xe s := by
  have hl : us.length = ps.length := r.length.symm.trans (F.len vs H Q E0 h)
  have hb' := hb s us I.kIn (by rw [List.append_nil]; exact hl)
  rw [List.append_nil] at hb'
  have main := F.go X.A X.stack s H ⟨us, []⟩ us vs Q E0 hgd hr I.env0 hb' r h
  refine wpAny_call (codeAny_mono main ?_)
  intro res s' hq
  match res, hq with
  | .ok (.ret u), hq => exact I.after hq
  | .ok .next, hq => exact (show False from hq).elim
  | .ok .brk, hq => exact (show False from hq).elim
  | .ok .cont, hq => exact (show False from hq).elim
  | .error e, hq => exact (show False from hq).elim
def tCallG (sp : Sp) (t : TA) : TE := fun σ H Q => t σ H fun vs H1 => sp vs H1 Q E0
theorem pe_callG (F : FnG X.prog X.w X.K X.mg X.base k f fd ps sp) (hgd : X.A.guards = some []) (hr : Room k X.A)
    (hg : Gl X x) (hm : X.mg x = some (.ref f)) (hk : PySem.W.keepIn X.K (.ref f) = true) (hb : Binds X.K fd ps [])
    (ha : PA X (e :: es) t) (hdb : (x == ("__debug__" : Str)) = false := by decide)
    (he : starEach (e :: es) X.env = (false, eval e X.env) :: starEach es X.env := by rfl)
    (hpl : (backTo pos (starEach es X.env)).any (·.1) = false := by rfl) :
    PE X (.Call (.Name x p) (e :: es) [] pos) (tCallG sp t) := by
  refine ⟨?_⟩
  intro pins s σ H Q I h
  refine wpAny_Call_Name_kw (ld_glob I hg hm ?_ hdb)
  refine PySem.W.callWith_K (h₀ := X.base) I.ok.mod.kin hk (thn (ha.run pos pins s σ H _ I h) ?_) he hpl
  rintro us s1 ⟨vs, H1, I1, r, q⟩
  exact ⟨I1.kIn, runG F hgd hr hb I1 r q⟩
/-- a call without arguments -/
theorem pe_callG0 (F : FnG X.prog X.w X.K X.mg X.base k f fd ps sp) (hgd : X.A.guards = some []) (hr : Room k X.A)
    (hg : Gl X x) (hm : X.mg x = some (.ref f)) (hk : PySem.W.keepIn X.K (.ref f) = true) (hb : Binds X.K fd ps [])
    (hdb : (x == ("__debug__" : Str)) = false := by decide) :
    PE X (.Call (.Name x p) [] [] pos) (fun _ H Q => sp [] H Q E0) := by
  refine ⟨?_⟩
  intro pins s σ H Q I h
  exact wpAny_Call_Name_kw (ld_glob I hg hm (PySem.W.callWith_K0 I.kIn hk (runG (us := []) F hgd hr hb I .nil h)) hdb)
end
/-- the law's call at the heap behind the top -/
theorem lawG {P : Program} {w : World} {K : PySem.W.Frag} {mg mb : Str → Option Value} {k : Nat} {fa a : Addr} {fd : FuncData}
    {x : Str} {sp : Sp} {s1 : Shared} {vs : List Value} {ns : List Int}
    (kin : K.In s1.heap) (hns : s1.heap.Ns mainGlobals mg) (hb : s1.heap.Ns builtinsNs mb)
    (hbb : ∀ x : Str, x ≠ "__name__" → mb x = bootBuiltins x) (hlim : s1.heap.NoLimit) (hg : s1.gens = #[])
    (ha : s1.heap.get? a = some { cls := .type "list", data := .seq vs.toArray }) (hi : IntsAre vs ns)
    (hl : ns.length ≤ sizeLine) (hr : Room k callerA)
    (F : ∀ base : Heap, K.In base → base.Ns mainGlobals mg → FnG P w K mg base k fa fd [x] sp)
    (hbind : ∀ (s : Shared) (u : Value), BindsTo s fd ⟨[u], []⟩ [(x, u)])
    (hsp : ∀ H : Hp, SqL K H a (ns.map V.int) → sp [.ref a] H (fun v _ => v = .bl true) fun _ _ _ => False) :
    codeAny (model P w) callerA (.call (.ref fa) ⟨[.ref a], []⟩)
      (fun r s' => r = .ok (.ret (.bool true)) ∧ OldK s1.heap s'.heap ∧ s'.os = s1.os ∧ AllBare s'.gens) s1 := by
  have rv := vals_ints hi
  let ob : Obj := { cls := .type "list", data := .seq vs.toArray }
  -- the script is tracked as a thing that stands, unless it is one of the top's own
  have go : ∀ H : Hp, SqL K H a (ns.map V.int) → (∀ b u, H b = some u → b = a ∧ u = .frz ob (.lst (ns.map V.int)) ∧ K.lookup a = none) →
      codeAny (model P w) callerA (.call (.ref fa) ⟨[.ref a], []⟩)
        (fun r s' => r = .ok (.ret (.bool true)) ∧ OldK s1.heap s'.heap ∧ s'.os = s1.os ∧ AllBare s'.gens) s1 := by
    intro H hS hH
    have ok : HOk P w H s1.heap := by
      intro b u z
      obtain ⟨rfl, rfl, _⟩ := hH b u z
      exact ⟨ha, by rw [List.length_map]; exact hl, vs, _, rv, ha⟩
    have free : ∀ {b : Addr} {o : Obj}, s1.heap.get? b = some o → (∀ es ep, o.data ≠ .dict es ep → True) → (∃ es ep, o.data = .dict es ep) → H b = none := by
      intro b o q _ ⟨es, ep, d⟩
      cases z : H b with
      | none => rfl
      | some u =>
        obtain ⟨rfl, _⟩ := hH b u z
        rw [ha] at q
        cases q
        cases (show Data.seq vs.toArray _ = Data.dict es ep from d)
    have nsH : ∀ {b : Addr} {m : Str → Option Value}, s1.heap.Ns b m → (hidT s1.heap H).Ns b m := by
      rintro b m ⟨o, es, ep, q, d, r⟩
      exact ⟨o, es, ep, hidT_get q (free q (fun _ _ _ => trivial) ⟨es, ep, d⟩), d, r⟩
    have kinH : K.In (hidT s1.heap H) := by
      intro b o q
      refine hidT_get (kin b o q) ?_
      cases z : H b with
      | none => rfl
      | some u =>
        obtain ⟨rfl, _, n⟩ := hH b u z
        rw [n] at q; cases q
    obtain ⟨mc, l1, l2⟩ := hlim
    have e0 : Env0 P w K mg (hidT s1.heap H) callerA [] s1 H := by
      refine ⟨rfl, ⟨kinH, nsH hns, ⟨mb, nsH hb, hbb⟩, ⟨mc, nsH l1, l2⟩⟩, fun b o q => of_hidT q, Nat.le_of_eq (hidT_size _ _), trivial, ?_, ok, .of_eq hg⟩
      intro b hb
      cases hb
    have main := (F _ kinH (nsH hns)).go callerA [] s1 H ⟨[.ref a], []⟩ [.ref a] [.ref a] _ _ rfl hr e0 (hbind s1 (.ref a)) (.cons rfl .nil) (hsp H hS)
    refine codeAny_mono main ?_
    intro r s' h
    match r, h with
    | .error _, h => exact (show False from h).elim
    | .ok .next, h => exact (show False from h).elim
    | .ok .brk, h => exact (show False from h).elim
    | .ok .cont, h => exact (show False from h).elim
    | .ok (.ret u), h =>
      obtain ⟨v, H', os, bare, un, ok', ru, q⟩ := h
      obtain rfl : v = .bl true := q
      obtain rfl : u = Value.bool true := ru
      refine ⟨rfl, OldK.of_keep ?_, os, bare⟩
      intro b o q
      cases z : H b with
      | none => exact un.keep b o q z (fun z => by cases z) (fun z => by cases z)
      | some u =>
        obtain ⟨rfl, rfl, _⟩ := hH b u z
        obtain ⟨e1, _⟩ := ok b _ z
        obtain ⟨e2, _⟩ := ok' b _ (un.frzs b ob _ z)
        rw [q] at e1
        cases e1
        exact e2
  cases hk : K.lookup a with
  | some o =>
    have q := kin a o hk
    rw [ha] at q
    cases q
    refine go (fun _ => none) (Or.inr ⟨_, vs.toArray, _, hk, rfl, rfl, rfl, ?_, by simpa using rv⟩) (fun b u z => by cases (show (none : Option HO) = some u from z))
    rw [List.size_toArray, hi.length]
    exact hl
  | none =>
    refine go (upd (fun _ => none) a (.frz ob (.lst (ns.map V.int)))) (Or.inl (Or.inr ⟨ob, upd_same⟩)) ?_
    intro b u z
    by_cases hb : b = a
    · subst hb
      rw [upd_same] at z
      exact ⟨rfl, (Option.some.inj z).symm, hk⟩
    · rw [upd_ne hb] at z
      cases z
theorem walkG {l : PySem.W.OpenLaw} {n k : Nat} {q : Program} {loose : List Str} {XP : (Str → Option Value) → Heap → Prop}
    {YP : World → Heap → Prop} {d : DefRec} {K : Params → PySem.W.Frag} {sp : World → Sp} {x : Str}
    (hn : l.most = some n) (hn2 : n ≤ sizeLine) (hdf : d.params.defaults = []) (hr : Room k callerA)
    (hY : ∀ (w : World) (h : Heap), YP w h → (K w.params).In h)
    (F : ∀ (w : World) (mg : Str → Option Value) (fa : Addr) (h : Heap), (K w.params).In h → h.Ns mainGlobals mg → mg d.name = some (.ref fa) →
      ∃ fd : FuncData, (∀ (s : Shared) (u : Value), BindsTo s fd ⟨[u], []⟩ [(x, u)]) ∧
        ∀ base : Heap, (K w.params).In base → base.Ns mainGlobals mg → FnG l.prog w (K w.params) mg base k fa fd [x] (sp w))
    (hsp : ∀ (w : World) (H : Hp) (a : Addr) (ns : List Int), ns.length ≤ n → SqL (K w.params) H a (ns.map V.int) →
      sp w [.ref a] H (fun v _ => v = .bl true) fun _ _ _ => False) :
    PySem.W.WalkO q loose XP YP l.row.toRowW d [] (fun f vs => PySem.call f vs) := by
  refine Att.attach_call hn hdf ?_
  intro w s0 s1 mg mb fa o pm cd doc a vs ns G Y ho hd hcd hmg hobj hints hlen hgens
  have kin := hY w _ Y
  obtain ⟨fd, hb, hF⟩ := F w mg fa _ kin G.T.g hmg
  exact lawG kin G.T.g G.T.b G.T.builtins G.T.nolimit hgens hobj hints (Nat.le_trans hlen hn2) hr hF hb (fun H hS => hsp w H a ns hlen hS)
end Kt

namespace Kt
open PySem L2 PyProof.Rows
open Evl (Ex)

/-! ### what is asked of an expression, by whatever rule -/
def wE (X : Cx) (e : Expr) : TE := fun σ H Q => ∃ t, PE X e t ∧ t σ H Q
def wT (X : Cx) (e : Expr) : TT := fun σ H Q => ∃ t, PT X e t ∧ t σ H Q
def wW (X : Cx) (e : Expr) : TT := fun σ H Q => ∃ t, PW X e t ∧ t σ H Q
def wA (X : Cx) (es : List Expr) : TA := fun σ H Q => ∃ t, PA X es t ∧ t σ H Q
def wS (X : Cx) (st : Stmt) : TS := fun D σ H => ∃ t, PS X st t ∧ t D σ H
def wSs (X : Cx) (sts : List Stmt) : TS := fun D σ H => ∃ t, PSs X sts t ∧ t D σ H
section
variable {X : Cx}
theorem pe_w {e : Expr} : PE X e (wE X e) := ⟨fun pins s σ H Q I h => by obtain ⟨t, p, q⟩ := h; exact p.run pins s σ H Q I q⟩
theorem pt_w {e : Expr} : PT X e (wT X e) := ⟨fun pins s σ H Q I h => by obtain ⟨t, p, q⟩ := h; exact p.run pins s σ H Q I q⟩
theorem pw_w {e : Expr} : PW X e (wW X e) := ⟨fun w pins s σ H Q I h => by obtain ⟨t, p, q⟩ := h; exact p.run w pins s σ H Q I q⟩
theorem pa_w {es : List Expr} : PA X es (wA X es) := ⟨fun pos pins s σ H Q I h => by obtain ⟨t, p, q⟩ := h; exact p.run pos pins s σ H Q I q⟩
theorem ps_w {st : Stmt} : PS X st (wS X st) := ⟨fun pins s σ H D I h => by obtain ⟨t, p, q⟩ := h; exact p.run pins s σ H D I q⟩
theorem pss_w {sts : List Stmt} : PSs X sts (wSs X sts) := ⟨fun pins s σ H D I h => by obtain ⟨t, p, q⟩ := h; exact p.run pins s σ H D I q⟩
end

/-- what is known of a def's context -/
structure Ctx (P : Program) (w : World) (K : PySem.W.Frag) (mg : Str → Option Value) (base : Heap) (N : List Str) (sc : Scope) (k : Nat) (X : Cx) : Prop where
  prog : X.prog = P
  wd : X.w = w
  kk : X.K = K
  mg : X.mg = mg
  base : X.base = base
  nn : X.N = N
  scope : X.env.scope = sc
  room : Room k X.A
  calm : X.calm = true
  xe : X.xe = fun _ _ => False
  nd : N.Nodup
  gd : X.A.guards = some []

/-- an expression comes to some data of which P holds -/
def EN (X : Cx) (e : Expr) (ρ : List Sl) (P : PyData → Prop) : Prop := ∀ (G : Gh) σ F H, ES X.K G σ F H ρ → ∀ Q : VK, (∀ d v F' H', P d → Nw G.S F H F' H' → Dr X.K F' d v → Q v H') → wE X e σ H Q
def TN (X : Cx) (e : Expr) (ρ : List Sl) (P : Bool → Prop) : Prop := ∀ (G : Gh) σ F H, ES X.K G σ F H ρ → ∀ Q : Bool → Hp → Prop, (∀ b F' H', P b → Nw G.S F H F' H' → Q b H') → wT X e σ H Q
def WN (X : Cx) (e : Expr) (ρ : List Sl) (P : Bool → Prop) : Prop := ∀ (G : Gh) σ F H, ES X.K G σ F H ρ → ∀ Q : Bool → Hp → Prop, (∀ b F' H', P b → Nw G.S F H F' H' → Q b H') → wW X e σ H Q
/-- arguments: data, or the source -/
def ArgR (K : PySem.W.Frag) (S : SR) (F : Hp) : Sl → V → Prop
  | .dat d, v => Dr K F d v
  | .src, v => ∃ s c, S = some (s, c) ∧ v = .ref s
  | _, _ => False
def ArgsR (K : PySem.W.Frag) (S : SR) (F : Hp) : List Sl → List V → Prop
  | [], vs => vs = []
  | a :: as, vs => ∃ v r, vs = v :: r ∧ ArgR K S F a v ∧ ArgsR K S F as r
def AN (X : Cx) (es : List Expr) (ρ : List Sl) (P : List Sl → Prop) : Prop := ∀ (G : Gh) σ F H, ES X.K G σ F H ρ → ∀ Q : List V → Hp → Prop, (∀ as vs F' H', P as → Nw G.S F H F' H' → ArgsR X.K G.S F' as vs → Q vs H') → wA X es σ H Q
/-- a list of expressions, data alone -/
def LN (X : Cx) (es : List Expr) (ρ : List Sl) (P : List PyData → Prop) : Prop := ∀ (G : Gh) σ F H, ES X.K G σ F H ρ → ∀ Q : List V → Hp → Prop, (∀ ds vs F' H', P ds → Nw G.S F H F' H' → DrA X.K F' ds vs → Q vs H') → wA X es σ H Q
/-- an operation on two things, on one, a call, by data -/
def D2 (K : PySem.W.Frag) (r : R2) (x y : PyData) (P : PyData → Prop) : Prop := ∀ (S : SR) F H, Wk S F H → ∀ v u, Dr K F x v → Dr K F y u → ∀ Q : VK, (∀ d v' F' H', P d → Nw S F H F' H' → Dr K F' d v' → Q v' H') → r v u H Q
def D1 (K : PySem.W.Frag) (r : V → Hp → VK → Prop) (x : PyData) (P : PyData → Prop) : Prop := ∀ (S : SR) F H, Wk S F H → ∀ v, Dr K F x v → ∀ Q : VK, (∀ d v' F' H', P d → Nw S F H F' H' → Dr K F' d v' → Q v' H') → r v H Q
def DC (K : PySem.W.Frag) (r : List V → Hp → VK → Prop) (xs : List PyData) (P : PyData → Prop) : Prop := ∀ (S : SR) F H, Wk S F H → ∀ vs, DrA K F xs vs → ∀ Q : VK, (∀ d v' F' H', P d → Nw S F H F' H' → Dr K F' d v' → Q v' H') → r vs H Q
section
variable {Pg : Program} {w : World} {K : PySem.W.Frag} {mg : Str → Option Value} {base : Heap} {N : List Str} {sc : Scope} {k : Nat} {X : Cx} {ρ : List Sl} {P : PyData → Prop} {a b c e : Expr} {pos : Pos}
theorem ArgsR.mono {S : SR} {F F' : Hp} (x : Ex F F') : ∀ {as : List Sl} {vs : List V}, ArgsR K S F as vs → ArgsR K S F' as vs
  | [], _, h => h
  | s :: as, _, ⟨v, r, h1, h2, h3⟩ => ⟨v, r, h1, by
    cases s with
    | dat d => exact Dr.mono x d h2
    | src => exact h2
    | no => exact h2
    | cel => exact h2
    | own _ => exact h2, ArgsR.mono x h3⟩
theorem ArgsR.length {S : SR} {F : Hp} : ∀ {as : List Sl} {vs : List V}, ArgsR K S F as vs → vs.length = as.length
  | [], _, h => by rw [show _ = [] from h]; rfl
  | _ :: _, _, ⟨v, r, h1, _, h3⟩ => by rw [h1, List.length_cons, List.length_cons, ArgsR.length h3]
theorem EN.mono {P' : PyData → Prop} (h : EN X e ρ P) (k : ∀ d, P d → P' d) : EN X e ρ P' := fun G σ F H E Q q => h _ σ F H E Q fun d v F' H' p n r => q d v F' H' (k d p) n r
theorem TN.mono {P P' : Bool → Prop} (h : TN X e ρ P) (k : ∀ d, P d → P' d) : TN X e ρ P' := fun G σ F H E Q q => h _ σ F H E Q fun d F' H' p n => q d F' H' (k d p) n
/-- by a rule whose reading gives a value -/
theorem EN.by {t : TE} (p : PE X e t) (h : ∀ (G : Gh) σ F H, ES X.K G σ F H ρ → ∀ Q : VK, (∀ d v F' H', P d → Nw G.S F H F' H' → Dr X.K F' d v → Q v H') → t σ H Q) : EN X e ρ P := fun G σ F H E Q q => ⟨t, p, h _ σ F H E Q q⟩
theorem TN.by {t : TT} {P : Bool → Prop} (p : PT X e t) (h : ∀ (G : Gh) σ F H, ES X.K G σ F H ρ → ∀ Q : Bool → Hp → Prop, (∀ b F' H', P b → Nw G.S F H F' H' → Q b H') → t σ H Q) : TN X e ρ P := fun G σ F H E Q q => ⟨t, p, h _ σ F H E Q q⟩
theorem EN.var {i : Nat} {x : Str} {d : PyData} (C : Ctx Pg w K mg base N sc k X) (hN : N[i]? = some x) (hv : Vis sc x) (h : ρ[i]? = some (.dat d)) (p : P d) (hd : (x == ("__debug__" : Str)) = false := by decide) (hcd : (x == ("__classdict__" : Str)) = false := by decide) : EN X (.Name x pos) ρ P :=
  EN.by (pe_var (i := i) (by rw [C.nn]; exact hN) (by rw [C.scope]; exact hv) hd hcd) fun G σ F H E Q q => by
    obtain ⟨v, h1, h2⟩ := E.dat h
    exact ⟨v, h1, q d v F H p E.wk.nw h2⟩
theorem EN.con {v : V} {d : PyData} (p : PE X e (tC v)) (h : ∀ F, Dr X.K F d v) (q : P d) : EN X e ρ P := EN.by p fun G σ F H E Q k => k d v F H q E.wk.nw (h F)
theorem EN.int {i : Int} {j} (q : P (.int i)) : EN X (.Constant (.int i) j pos) ρ P := EN.con (d := .int i) pe_int (fun _ => rfl) q
theorem EN.bl {i : Bool} {j} (q : P (.bool i)) : EN X (.Constant (.bool i) j pos) ρ P := EN.con (d := .bool i) pe_bl (fun _ => rfl) q
theorem EN.non {j} (q : P .none) : EN X (.Constant .none j pos) ρ P := EN.con (d := .none) pe_non (fun _ => rfl) q
theorem EN.str {x : Str} {j} (q : P (.str x)) : EN X (.Constant (.str x) j pos) ρ P := EN.con (d := .str x) pe_str (fun _ => rfl) q
/-- two parts, one after another -/
theorem two {G : Gh} {Pb : PyData → PyData → Prop} (h : EN X a ρ fun x => EN X b ρ fun y => Pb x y) {σ F H} (E : ES X.K G σ F H ρ) {R : V → V → Hp → Prop} (q : ∀ x y v u F' H', Pb x y → Nw G.S F H F' H' → Dr X.K F' x v → Dr X.K F' y u → R v u H') : wE X a σ H fun v H1 => wE X b σ H1 fun u H2 => R v u H2 :=
  h _ σ F H E _ fun x v F1 H1 p n r => p _ σ F1 H1 (E.mono n) _ fun y u F2 H2 p2 n2 r2 => q x y v u F2 H2 p2 (n.trans n2) (Dr.mono n2.ff x r) r2
theorem EN.op2 {op : Operator} {r : R2} (ho : OpR X (binaryOp op) r) (h : EN X a ρ fun x => EN X b ρ fun y => D2 X.K r x y P) : EN X (.BinOp a op b pos) ρ P :=
  EN.by (pe_op ho pe_w pe_w) fun G σ F H E Q q => two h E fun x y v u F' H' p n rx ry => p _ F' H' n.wk v u rx ry Q fun d v' F2 H2 pd n2 rd => q d v' F2 H2 pd (n.trans n2) rd
theorem EN.un1 {op : UnaryOp} {r : V → Hp → VK → Prop} (ho : UnR X (unaryOp op) r) (h : EN X a ρ fun x => D1 X.K r x P) : EN X (.UnaryOp op a pos) ρ P :=
  EN.by (pe_un ho pe_w) fun G σ F H E Q q => h _ σ F H E _ fun x v F' H' p n rx => p _ F' H' n.wk v rx Q fun d v' F2 H2 pd n2 rd => q d v' F2 H2 pd (n.trans n2) rd
theorem EN.cmp {op : CmpOp} {r : R2} (ho : OpR X (compareOp op) r) (hm : behindInMarks op b = false) (h : EN X a ρ fun x => EN X b ρ fun y => D2 X.K r x y P) : EN X (.Compare a [op] [b] pos) ρ P :=
  EN.by (pe_cmpR ho pe_w pe_w hm) fun G σ F H E Q q => two h E fun x y v u F' H' p n rx ry => p _ F' H' n.wk v u rx ry Q fun d v' F2 H2 pd n2 rd => q d v' F2 H2 pd (n.trans n2) rd
theorem TN.cmp {op : CmpOp} {r : R2} {P : Bool → Prop} (ho : OpR X (compareOp op) r) (hm : behindInMarks op b = false) (h : EN X a ρ fun x => EN X b ρ fun y => D2 X.K r x y fun d => ∃ k, d = .bool k ∧ P k) : TN X (.Compare a [op] [b] pos) ρ P :=
  TN.by (pt_cmpR ho pe_w pe_w hm) fun G σ F H E Q q => two h E fun x y v u F' H' p n rx ry => p _ F' H' n.wk v u rx ry _ fun d v' F2 H2 ⟨k, e, pd⟩ n2 rd => by
    subst e
    exact ⟨k, rd, q k F2 H2 pd (n.trans n2)⟩
/-- a test that is an expression which comes to a bool -/
def Tb (P : Bool → Prop) (k : Bool) : Prop := P k
theorem TN.val {P : Bool → Prop} (he : ∀ whole, isTrue e X.env whole = (do let v ← whole; standAt e.pos; holding [v] (truthy v))) (h : EN X e ρ fun d => ∃ k, d = .bool k ∧ Tb P k) : TN X e ρ P :=
  TN.by (pt_val pe_w he) fun G σ F H E Q q => h _ σ F H E _ fun d v F' H' ⟨k, e, pd⟩ n rd => by
    subst e
    exact ⟨k, rd, q k F' H' pd n⟩
theorem WN.tn {P : Bool → Prop} (h : WN X e ρ P) : TN X e ρ P := fun G σ F H E Q q => by
  obtain ⟨t, p, z⟩ := h _ σ F H E Q q
  exact ⟨t, p.pt, z⟩
theorem WN.and1 {P : Bool → Prop} (h : TN X a ρ P) : WN X (.BoolOp .And [a] pos) ρ P := fun G σ F H E Q q => ⟨_, pw_and1 pt_w, h _ σ F H E Q q⟩
theorem WN.or1 {P : Bool → Prop} (h : TN X a ρ P) : WN X (.BoolOp .Or [a] pos) ρ P := fun G σ F H E Q q => ⟨_, pw_or1 pt_w, h _ σ F H E Q q⟩
theorem WN.and {P : Bool → Prop} {rest : List Expr} (h : TN X a ρ fun k => (k = true → WN X (.BoolOp .And (b :: rest) pos) ρ P) ∧ (k = false → P false)) : WN X (.BoolOp .And (a :: b :: rest) pos) ρ P := fun G σ F H E Q q =>
  ⟨_, pw_and pt_w pw_w, h _ σ F H E _ fun k F' H' p n => by
    cases k with
    | true => exact iteT (p.1 rfl _ σ F' H' (E.mono n) Q fun k2 F2 H2 p2 n2 => q k2 F2 H2 p2 (n.trans n2))
    | false => exact iteF (q false F' H' (p.2 rfl) n)⟩
theorem WN.or {P : Bool → Prop} {rest : List Expr} (h : TN X a ρ fun k => (k = true → P true) ∧ (k = false → WN X (.BoolOp .Or (b :: rest) pos) ρ P)) : WN X (.BoolOp .Or (a :: b :: rest) pos) ρ P := fun G σ F H E Q q =>
  ⟨_, pw_or pt_w pw_w, h _ σ F H E _ fun k F' H' p n => by
    cases k with
    | true => exact iteT (q true F' H' (p.1 rfl) n)
    | false => exact iteF (p.2 rfl _ σ F' H' (E.mono n) Q fun k2 F2 H2 p2 n2 => q k2 F2 H2 p2 (n.trans n2))⟩
theorem TN.not {P : Bool → Prop} (h : TN X a ρ fun k => P (!k)) : TN X (.UnaryOp .Not a pos) ρ P := TN.by (pt_not pt_w) fun G σ F H E Q q => h _ σ F H E _ fun k F' H' p n => q (!k) F' H' p n
theorem EN.not (h : EN X a ρ fun d => ∃ k, d = .bool k ∧ P (.bool (!k))) : EN X (.UnaryOp .Not a pos) ρ P :=
  EN.by (pe_not pe_w) fun G σ F H E Q q => h _ σ F H E _ fun d v F' H' ⟨k, e, p⟩ n rd => by
    subst e
    exact ⟨k, rd, q _ _ F' H' p n rfl⟩
theorem EN.one {op} (h : EN X a ρ P) : EN X (.BoolOp op [a] pos) ρ P := EN.by (pe_one pe_w) h
theorem EN.and {rest : List Expr} (h : EN X a ρ fun d => ∃ k, d = .bool k ∧ (k = true → EN X (.BoolOp .And (b :: rest) pos) ρ P) ∧ (k = false → P (.bool false))) : EN X (.BoolOp .And (a :: b :: rest) pos) ρ P :=
  EN.by (pe_and pe_w pe_w) fun G σ F H E Q q => h _ σ F H E _ fun d v F' H' ⟨k, e, p1, p2⟩ n rd => by
    subst e
    refine ⟨k, rd, ?_⟩
    cases k with
    | true => exact iteT (p1 rfl _ σ F' H' (E.mono n) Q fun d2 v2 F2 H2 p n2 r2 => q d2 v2 F2 H2 p (n.trans n2) r2)
    | false => exact iteF (q _ _ F' H' (p2 rfl) n rfl)
theorem EN.or {rest : List Expr} (h : EN X a ρ fun d => ∃ k, d = .bool k ∧ (k = true → P (.bool true)) ∧ (k = false → EN X (.BoolOp .Or (b :: rest) pos) ρ P)) : EN X (.BoolOp .Or (a :: b :: rest) pos) ρ P :=
  EN.by (pe_or pe_w pe_w) fun G σ F H E Q q => h _ σ F H E _ fun d v F' H' ⟨k, e, p1, p2⟩ n rd => by
    subst e
    refine ⟨k, rd, ?_⟩
    cases k with
    | true => exact iteT (q _ _ F' H' (p1 rfl) n rfl)
    | false => exact iteF (p2 rfl _ σ F' H' (E.mono n) Q fun d2 v2 F2 H2 p n2 r2 => q d2 v2 F2 H2 p (n.trans n2) r2)
theorem EN.ife (h : TN X c ρ fun k => (k = true → EN X a ρ P) ∧ (k = false → EN X b ρ P)) : EN X (.IfExp c a b pos) ρ P :=
  EN.by (pe_ifExp pt_w pe_w pe_w) fun G σ F H E Q q => h _ σ F H E _ fun k F' H' p n => by
    cases k with
    | true => exact iteT (p.1 rfl _ σ F' H' (E.mono n) Q fun d2 v2 F2 H2 p n2 r2 => q d2 v2 F2 H2 p (n.trans n2) r2)
    | false => exact iteF (p.2 rfl _ σ F' H' (E.mono n) Q fun d2 v2 F2 H2 p n2 r2 => q d2 v2 F2 H2 p (n.trans n2) r2)
/-! lists of expressions -/
theorem LN.nil {P : List PyData → Prop} (h : P []) : LN X [] ρ P := fun G σ F H E Q q => ⟨_, pa_nil, q [] [] F H h E.wk.nw rfl⟩
theorem LN.cons {es : List Expr} {P : List PyData → Prop} (hs : starEach (e :: es) X.env = (false, eval e X.env) :: starEach es X.env) (h : EN X e ρ fun x => LN X es ρ fun xs => P (x :: xs)) : LN X (e :: es) ρ P := fun G σ F H E Q q =>
  ⟨_, pa_cons pe_w pa_w hs, h _ σ F H E _ fun x v F1 H1 p n r => p _ σ F1 H1 (E.mono n) _ fun ds vs F2 H2 p2 n2 r2 => q (x :: ds) (v :: vs) F2 H2 p2 (n.trans n2) ⟨v, vs, rfl, Dr.mono n2.ff x r, r2⟩⟩
theorem AN.nil {P : List Sl → Prop} (h : P []) : AN X [] ρ P := fun G σ F H E Q q => ⟨_, pa_nil, q [] [] F H h E.wk.nw rfl⟩
theorem AN.cons {es : List Expr} {P : List Sl → Prop} (hs : starEach (e :: es) X.env = (false, eval e X.env) :: starEach es X.env) (h : EN X e ρ fun x => AN X es ρ fun xs => P (.dat x :: xs)) : AN X (e :: es) ρ P := fun G σ F H E Q q =>
  ⟨_, pa_cons pe_w pa_w hs, h _ σ F H E _ fun x v F1 H1 p n r => p _ σ F1 H1 (E.mono n) _ fun ds vs F2 H2 p2 n2 r2 => q (.dat x :: ds) (v :: vs) F2 H2 p2 (n.trans n2) ⟨v, vs, rfl, Dr.mono n2.ff x r, r2⟩⟩
theorem AN.src {es : List Expr} {i : Nat} {x : Str} {P : List Sl → Prop} (C : Ctx Pg w K mg base N sc k X) (hN : N[i]? = some x) (hv : Vis sc x) (hi : ρ[i]? = some .src) (hs : starEach (.Name x pos :: es) X.env = (false, eval (.Name x pos) X.env) :: starEach es X.env)
    (h : AN X es ρ fun xs => P (.src :: xs)) (hd : (x == ("__debug__" : Str)) = false := by decide) (hcd : (x == ("__classdict__" : Str)) = false := by decide) : AN X (.Name x pos :: es) ρ P := fun G σ F H E Q q =>
  ⟨_, pa_cons (pe_var (i := i) (by rw [C.nn]; exact hN) (by rw [C.scope]; exact hv) hd hcd) pa_w hs, by
    obtain ⟨s, c, h1, h2⟩ := E.sl i _ hi
    exact ⟨_, h2, h _ σ F H E _ fun ds vs F2 H2 p2 n2 r2 => q (.src :: ds) (.ref s :: vs) F2 H2 p2 n2 ⟨_, vs, rfl, ⟨s, c, h1, rfl⟩, r2⟩⟩⟩
/-! displays -/
theorem EN.tup {es : List Expr} {x1} (h : LN X es ρ fun ds => ds.length ≤ sizeLine ∧ P (.tuple ds)) : EN X (.Tuple es x1 pos) ρ P :=
  EN.by (pe_tup pa_w) fun G σ F H E Q q => h _ σ F H E _ fun ds vs F1 H1 ⟨hl, p⟩ n r => ⟨by rw [r.length]; exact hl, fun a ha => q _ _ _ _ p (n.trans (n.wk.new ha)) ⟨a, vs, rfl, SqT.of upd_same, DrA.mono (n.wk.new (o := .tup vs) ha).ff ds r⟩⟩
theorem EN.lst {es : List Expr} (h : LN X es ρ fun ds => ds.length ≤ sizeLine ∧ P (.list ds)) : EN X (.List es pos) ρ P :=
  EN.by (pe_lst pa_w) fun G σ F H E Q q => h _ σ F H E _ fun ds vs F1 H1 ⟨hl, p⟩ n r => ⟨by rw [r.length]; exact hl, fun a ha => q _ _ _ _ p (n.trans (n.wk.new ha)) ⟨a, vs, rfl, upd_same, DrA.mono (n.wk.new (o := .lst vs) ha).ff ds r⟩⟩
/-! calls of built-ins -/
theorem EN.callB {id : String} {r : List V → Hp → VK → Prop} {x : Str} {es : List Expr} {npos : Pos} (C : Ctx Pg w K mg base N sc k X) (hc : CallR X (.builtin id) r) (hg : sc.names.lookup x = some .globalImplicit) (hm : mg x = none) (hv : bootBuiltins x = some (.builtin id))
    (h : LN X (e :: es) ρ fun xs => DC X.K r xs P) (he : starEach (e :: es) X.env = (false, eval e X.env) :: starEach es X.env) (hpl : (backTo pos (starEach es X.env)).any (·.1) = false) (hn : x ≠ "__name__" := by decide) (hdb : (x == ("__debug__" : Str)) = false := by decide) :
    EN X (.Call (.Name x npos) (e :: es) [] pos) ρ P :=
  EN.by (pe_callB hc (by unfold Gl Env.kindOf; rw [C.scope]; exact hg) (by rw [C.mg]; exact hm) hv pa_w hn hdb he hpl) fun G σ F H E Q q => h _ σ F H E _ fun ds vs F1 H1 p n r => p _ F1 H1 n.wk vs r Q fun d v' F2 H2 pd n2 rd => q d v' F2 H2 pd (n.trans n2) rd
theorem EN.callT {T : String} {r : List V → Hp → VK → Prop} {x : Str} {es : List Expr} {npos : Pos} (C : Ctx Pg w K mg base N sc k X) (hc : CallR X (.type T) r) (hg : sc.names.lookup x = some .globalImplicit) (hm : mg x = none) (hv : bootBuiltins x = some (.type T))
    (h : LN X (e :: es) ρ fun xs => DC X.K r xs P) (he : starEach (e :: es) X.env = (false, eval e X.env) :: starEach es X.env) (hpl : (backTo pos (starEach es X.env)).any (·.1) = false) (hn : x ≠ "__name__" := by decide) (hdb : (x == ("__debug__" : Str)) = false := by decide) :
    EN X (.Call (.Name x npos) (e :: es) [] pos) ρ P :=
  EN.by (pe_callTy hc (by unfold Gl Env.kindOf; rw [C.scope]; exact hg) (by rw [C.mg]; exact hm) hv pa_w hn hdb he hpl) fun G σ F H E Q q => h _ σ F H E _ fun ds vs F1 H1 p n r => p _ F1 H1 n.wk vs r Q fun d v' F2 H2 pd n2 rd => q d v' F2 H2 pd (n.trans n2) rd
end
/-! ### calls of the text's own defs -/
abbrev Wp := List Sl → (PyData → Prop) → Prop
def spOf (K : PySem.W.Frag) (W : Wp) : Sp := fun vs H Q _ => ∃ (S : SR) (F : Hp) (as : List Sl) (P : PyData → Prop), Wk S F H ∧ ArgsR K S F as vs ∧ W as P ∧ ∀ d v F' H', P d → Nw S F H F' H' → Dr K F' d v → Q v H'
/-- the def called x keeps the promise W, within k levels -/
structure Fd (Pg : Program) (w : World) (K : PySem.W.Frag) (mg : Str → Option Value) (base : Heap) (k : Nat) (x : Str) (W : Wp) : Prop where
  ex : ∃ (f : Addr) (fd : FuncData) (ps : List Str), FnG Pg w K mg base k f fd ps (spOf K W) ∧ mg x = some (.ref f) ∧ PySem.W.keepIn K (.ref f) = true ∧ Binds K fd ps []
section
variable {Pg : Program} {w : World} {K : PySem.W.Frag} {mg : Str → Option Value} {base : Heap} {N : List Str} {sc : Scope} {k j : Nat} {X : Cx} {ρ : List Sl} {P : PyData → Prop} {a b c e : Expr} {pos : Pos}
theorem EN.call {x : Str} {es : List Expr} {npos : Pos} {W : Wp} (C : Ctx Pg w K mg base N sc k X) (FO : Fd Pg w K mg base j x W) (hj : j ≤ k) (hg : sc.names.lookup x = some .globalImplicit)
    (h : AN X (e :: es) ρ fun as => W as P) (he : starEach (e :: es) X.env = (false, eval e X.env) :: starEach es X.env) (hpl : (backTo pos (starEach es X.env)).any (·.1) = false) (hdb : (x == ("__debug__" : Str)) = false := by decide) :
    EN X (.Call (.Name x npos) (e :: es) [] pos) ρ P := by
  obtain ⟨f, fd, ps, F, hm, hk, hb⟩ := FO.ex
  have c1 := C.prog; have c2 := C.wd; have c3 := C.kk; have c4 := C.mg; have c5 := C.base
  subst c1 c2 c3 c4 c5
  refine EN.by (pe_callG F C.gd (C.room.mono hj) (by unfold Gl Env.kindOf; rw [C.scope]; exact hg) hm hk hb pa_w hdb he hpl) ?_
  intro G σ F H E Q q
  exact h _ σ F H E _ fun as vs F1 H1 p n r => ⟨G.S, F1, as, P, n.wk, r, p, fun d v F2 H2 pd n2 rd => q d v F2 H2 pd (n.trans n2) rd⟩
theorem EN.call0 {x : Str} {npos : Pos} {W : Wp} (C : Ctx Pg w K mg base N sc k X) (FO : Fd Pg w K mg base j x W) (hj : j ≤ k) (hg : sc.names.lookup x = some .globalImplicit)
    (h : W [] P) (hdb : (x == ("__debug__" : Str)) = false := by decide) :
    EN X (.Call (.Name x npos) [] [] pos) ρ P := by
  obtain ⟨f, fd, ps, F, hm, hk, hb⟩ := FO.ex
  have c1 := C.prog; have c2 := C.wd; have c3 := C.kk; have c4 := C.mg; have c5 := C.base
  subst c1 c2 c3 c4 c5
  refine EN.by (pe_callG0 F C.gd (C.room.mono hj) (by unfold Gl Env.kindOf; rw [C.scope]; exact hg) hm hk hb hdb) ?_
  intro G σ F H E Q q
  exact ⟨G.S, F, [], P, E.wk, rfl, h, q⟩
/-! ### operators by data -/
section
variable {x y : PyData} {r r' : R2}
theorem D2.or1 (h : D2 K r x y P) : D2 K (fun x y H Q => r x y H Q ∨ r' x y H Q) x y P := fun S F H w v u a b Q q => Or.inl (h _ F H w v u a b Q q)
theorem D2.or2 (h : D2 K r' x y P) : D2 K (fun x y H Q => r x y H Q ∨ r' x y H Q) x y P := fun S F H w v u a b Q q => Or.inr (h _ F H w v u a b Q q)
theorem D2.i0 {g : Int → Int → V} {gd : Int → Int → PyData} {i j : Int} (hg : ∀ F, Dr K F (gd i j) (g i j)) (p : P (gd i j)) : D2 K (rI0 g) (.int i) (.int j) P := fun S F H w v u a b Q q => ⟨i, j, a, b, q _ _ F H p w.nw (hg F)⟩
theorem D2.ic {g : Int → Int → V} {Cc : Int → Int → Prop} {gd : Int → Int → PyData} {i j : Int} (hc : Cc i j) (hg : ∀ F, Dr K F (gd i j) (g i j)) (p : P (gd i j)) : D2 K (rI Cc g) (.int i) (.int j) P := fun S F H w v u a b Q q => ⟨i, j, a, b, hc, q _ _ F H p w.nw (hg F)⟩
end
def AddD (x y : PyData) (P : PyData → Prop) : Prop := match x, y with
  | .int i, .int j => P (.int (i + j))
  | .list a, .list b => a.length + b.length ≤ sizeLine ∧ P (.list (a ++ b))
  | .str a, .str b => a.length + b.length ≤ sizeLine ∧ P (.str (a ++ b))
  | _, _ => False
theorem EN.add (h : EN X a ρ fun x => EN X b ρ fun y => AddD x y P) : EN X (.BinOp a .Add b pos) ρ P := by
  refine EN.op2 (op_add.or (op_cat.or op_add_str)) (h.mono fun x h => h.mono fun y h => ?_)
  unfold AddD at h
  split at h
  · exact D2.or1 (D2.i0 (gd := fun i j => .int (i + j)) (fun _ => rfl) h)
  · refine D2.or2 (D2.or1 ?_)
    rintro S F H w v u ⟨p, xs, rfl, h1, h2⟩ ⟨q, ys, rfl, g1, g2⟩ Q k
    refine ⟨p, q, xs, ys, rfl, rfl, w.fh _ _ h1, w.fh _ _ g1, by rw [h2.length, g2.length]; exact h.1, fun z hz => ?_⟩
    exact k _ _ _ _ h.2 (w.new hz) ⟨z, _, rfl, upd_same, DrA.mono (w.new (o := .lst (xs ++ ys)) hz).ff _ (h2.append g2)⟩
  · refine D2.or2 (D2.or2 ?_)
    intro S F H w v u h1 h2 Q k
    exact ⟨_, _, h1, h2, h.1, k _ _ _ _ h.2 w.nw rfl⟩
  · exact h.elim
def Int2 (C : Int → Int → Prop) (g : Int → Int → PyData) (x y : PyData) (P : PyData → Prop) : Prop := match x, y with
  | .int i, .int j => C i j ∧ P (g i j)
  | _, _ => False
theorem Int2.d2 {Cc : Int → Int → Prop} {g : Int → Int → V} {gd : Int → Int → PyData} {x y : PyData} (hg : ∀ i j F, Dr K F (gd i j) (g i j)) (h : Int2 Cc gd x y P) : D2 K (rI Cc g) x y P := by
  unfold Int2 at h
  split at h
  · exact D2.ic (gd := gd) h.1 (hg _ _) h.2
  · exact h.elim
theorem Int2.d20 {g : Int → Int → V} {gd : Int → Int → PyData} {x y : PyData} (hg : ∀ i j F, Dr K F (gd i j) (g i j)) (h : Int2 (fun _ _ => True) gd x y P) : D2 K (rI0 g) x y P := by
  unfold Int2 at h
  split at h
  · exact D2.i0 (gd := gd) (hg _ _) h.2
  · exact h.elim
theorem EN.sub (h : EN X a ρ fun x => EN X b ρ fun y => Int2 (fun _ _ => True) (fun i j => .int (i - j)) x y P) : EN X (.BinOp a .Sub b pos) ρ P :=
  EN.op2 op_sub (h.mono fun x h => h.mono fun y h => Int2.d20 (gd := fun i j => .int (i - j)) (fun _ _ _ => rfl) h)
/-- products: one factor small, or both together below a million bits; a list so many times -/
def MulOk (i j : Int) : Prop := CMul i j ∨ CMulW i j
def MulD (x y : PyData) (P : PyData → Prop) : Prop := match x, y with
  | .int i, .int j => MulOk i j ∧ P (.int (i * j))
  | .list a, .int j => (-(2 ^ 63) ≤ j ∧ j < 2 ^ 63 ∧ a.length * j.toNat ≤ sizeLine) ∧ P (.list (List.replicate j.toNat a).flatten)
  | _, _ => False
theorem DrA.rep {F : Hp} {ds : List PyData} {vs : List V} (h : DrA K F ds vs) : ∀ n : Nat, DrA K F (List.replicate n ds).flatten (List.replicate n vs).flatten
  | 0 => by simp [DrA]
  | n + 1 => by rw [List.replicate_succ, List.replicate_succ, List.flatten_cons, List.flatten_cons]; exact h.append (DrA.rep h n)
theorem EN.mul (h : EN X a ρ fun x => EN X b ρ fun y => MulD x y P) : EN X (.BinOp a .Mult b pos) ρ P := by
  refine EN.op2 (op_mul.or (op_mulW.or op_rep)) (h.mono fun x h => h.mono fun y h => ?_)
  unfold MulD at h
  split at h
  · obtain ⟨h1 | h1, h2⟩ := h
    · exact D2.or1 (D2.ic (gd := fun i j => .int (i * j)) h1 (fun _ => rfl) h2)
    · exact D2.or2 (D2.or1 (D2.ic (gd := fun i j => .int (i * j)) h1 (fun _ => rfl) h2))
  · refine D2.or2 (D2.or2 ?_)
    rintro S F H w v u ⟨p, xs, rfl, h1, h2⟩ g Q k
    obtain ⟨⟨a1, a2, a3⟩, a4⟩ := h
    refine ⟨p, _, xs, rfl, g, w.fh _ _ h1, a1, a2, by rw [h2.length]; exact a3, fun z hz => ?_⟩
    exact k _ _ _ _ a4 (w.new hz) ⟨z, _, rfl, upd_same, DrA.mono (w.new (o := .lst _) hz).ff _ (h2.rep _)⟩
  · exact h.elim
def CDivX (_ j : Int) : Prop := j ≠ 0 ∧ j.natAbs.log2 < 9000
theorem op_fdivX : OpR X (binaryOp .FloorDiv) (rI CDivX fun i j => .int (i.fdiv j)) := opI fun i j _ _ _ _ _ hc q => floordiv_int hc.1 q (.inl (PyProof.noPylong_of_log2 hc.2))
theorem EN.div (h : EN X a ρ fun x => EN X b ρ fun y => Int2 CDivX (fun i j => .int (i.fdiv j)) x y P) : EN X (.BinOp a .FloorDiv b pos) ρ P :=
  EN.op2 op_fdivX (h.mono fun x h => h.mono fun y h => Int2.d2 (gd := fun i j => .int (i.fdiv j)) (fun _ _ _ => rfl) h)
theorem EN.mod (h : EN X a ρ fun x => EN X b ρ fun y => Int2 (fun _ j => j ≠ 0) (fun i j => .int (i.fmod j)) x y P) : EN X (.BinOp a .Mod b pos) ρ P :=
  EN.op2 op_modN (h.mono fun x h => h.mono fun y h => Int2.d2 (gd := fun i j => .int (i.fmod j)) (fun _ _ _ => rfl) h)
theorem EN.pow (h : EN X a ρ fun x => EN X b ρ fun y => Int2 CPow (fun i j => .int (i ^ j.toNat)) x y P) : EN X (.BinOp a .Pow b pos) ρ P :=
  EN.op2 op_pow (h.mono fun x h => h.mono fun y h => Int2.d2 (gd := fun i j => .int (i ^ j.toNat)) (fun _ _ _ => rfl) h)
theorem EN.neg (h : EN X a ρ fun x => ∃ i, x = .int i ∧ P (.int (-i))) : EN X (.UnaryOp .USub a pos) ρ P :=
  EN.un1 un_neg (h.mono fun x ⟨i, e, p⟩ => by
    subst e
    intro S F H w v g Q k
    exact ⟨i, g, k _ _ F H p w.nw rfl⟩)
/-! comparisons -/
theorem Dr.dp {F H : Hp} (e : Ex F H) : ∀ (d : PyData) {v : V}, d.canLay0 = true → Dr K F d v → Dp K H v d := by
  intro d
  exact PyData.rec (motive_1 := fun d => ∀ {v : V}, d.canLay0 = true → Dr K F d v → Dp K H v d)
    (motive_2 := fun ds => ∀ {vs : List V}, PyData.canLayAll0 ds = true → DrA K F ds vs → DpAll K H vs ds) (motive_3 := fun _ => True) (motive_4 := fun _ => True)
    (fun _ h => by cases (show _ = V.non from h); exact .non) (fun b v _ h => by cases (show _ = V.bl b from h); exact .bl b) (fun i v _ h => by cases (show _ = V.int i from h); exact .int i) (fun x v _ h => by cases (show _ = V.str x from h); exact .str x)
    (fun ds ih v hl ⟨a, xs, h1, h2, h3⟩ => by subst h1; exact .lst (SqL.of (e _ _ h2)) (ih hl h3))
    (fun ds ih v hl ⟨a, xs, h1, h2, h3⟩ => by subst h1; exact .tup (Evl.ex_t e h2) (ih hl h3))
    (fun kvs _ v hl _ => by cases (show false = true from hl))
    (fun {vs} _ h => by cases (show _ = ([] : List V) from h); exact .nil)
    (fun d ds ih1 ih2 vs hl ⟨v, r, h1, h2, h3⟩ => by
      subst h1
      have hl' : (d.canLay0 && PyData.canLayAll0 ds) = true := hl
      rw [Bool.and_eq_true] at hl'
      exact .cons (ih1 hl'.1 h2) (ih2 hl'.2 h3))
    trivial (fun _ _ _ _ => trivial) (fun _ _ _ _ => trivial) d
def EqD (x y : PyData) (P : PyData → Prop) : Prop := SeqAt.shaped x = true ∧ SeqAt.shaped y = true ∧ P (.bool (PyData.eqv x y))
def NeD (x y : PyData) (P : PyData → Prop) : Prop := SeqAt.shaped x = true ∧ SeqAt.shaped y = true ∧ P (.bool (!PyData.eqv x y))
theorem EqD.d2 {x y : PyData} (h : EqD x y P) : D2 K (rEqD K) x y P := fun S F H w v u a b Q k => ⟨x, y, Dr.dp w.fh x (SeqAt.canLay_of_shaped h.1) a, Dr.dp w.fh y (SeqAt.canLay_of_shaped h.2.1) b, h.1, h.2.1, k _ _ F H h.2.2 w.nw rfl⟩
theorem NeD.d2 {x y : PyData} (h : NeD x y P) : D2 K (rNeD K) x y P := fun S F H w v u a b Q k => ⟨x, y, Dr.dp w.fh x (SeqAt.canLay_of_shaped h.1) a, Dr.dp w.fh y (SeqAt.canLay_of_shaped h.2.1) b, h.1, h.2.1, k _ _ F H h.2.2 w.nw rfl⟩
theorem EN.eq (C : Ctx Pg w K mg base N sc k X) (h : EN X a ρ fun x => EN X b ρ fun y => EqD x y P) : EN X (.Compare a [.Eq] [b] pos) ρ P :=
  EN.cmp (op_eqD C.room.units) (nomark _) (h.mono fun _ h => h.mono fun _ h => h.d2)
theorem EN.ne (C : Ctx Pg w K mg base N sc k X) (h : EN X a ρ fun x => EN X b ρ fun y => NeD x y P) : EN X (.Compare a [.NotEq] [b] pos) ρ P :=
  EN.cmp (op_neD C.room.units) (nomark _) (h.mono fun _ h => h.mono fun _ h => h.d2)
def Bp (P : Bool → Prop) (d : PyData) : Prop := ∃ k, d = .bool k ∧ P k
def EqT (x y : PyData) (P : Bool → Prop) : Prop := SeqAt.shaped x = true ∧ SeqAt.shaped y = true ∧ P (PyData.eqv x y)
def NeT (x y : PyData) (P : Bool → Prop) : Prop := SeqAt.shaped x = true ∧ SeqAt.shaped y = true ∧ P (!PyData.eqv x y)
theorem TN.eq {P : Bool → Prop} (C : Ctx Pg w K mg base N sc k X) (h : EN X a ρ fun x => EN X b ρ fun y => EqT x y P) : TN X (.Compare a [.Eq] [b] pos) ρ P :=
  TN.cmp (op_eqD C.room.units) (nomark _) (h.mono fun _ h => h.mono fun _ h => EqD.d2 ⟨h.1, h.2.1, _, rfl, h.2.2⟩)
theorem TN.ne {P : Bool → Prop} (C : Ctx Pg w K mg base N sc k X) (h : EN X a ρ fun x => EN X b ρ fun y => NeT x y P) : TN X (.Compare a [.NotEq] [b] pos) ρ P :=
  TN.cmp (op_neD C.room.units) (nomark _) (h.mono fun _ h => h.mono fun _ h => NeD.d2 ⟨h.1, h.2.1, _, rfl, h.2.2⟩)
def Ib (g : Int → Int → Bool) (x y : PyData) (P : Bool → Prop) : Prop := match x, y with
  | .int i, .int j => P (g i j)
  | _, _ => False
theorem Ib.d2 {g : Int → Int → Bool} {x y : PyData} {P : Bool → Prop} (h : Ib g x y P) : D2 K (rI0 fun i j => .bl (g i j)) x y fun d => ∃ k, d = .bool k ∧ P k := by
  unfold Ib at h
  split at h
  · exact D2.i0 (gd := fun i j => .bool (g i j)) (fun _ => rfl) ⟨_, rfl, h⟩
  · exact h.elim
theorem TN.lt {P : Bool → Prop} (h : EN X a ρ fun x => EN X b ρ fun y => Ib (fun i j => decide (i < j)) x y P) : TN X (.Compare a [.Lt] [b] pos) ρ P := TN.cmp op_lt (nomark _) (h.mono fun _ h => h.mono fun _ h => h.d2)
theorem TN.le {P : Bool → Prop} (h : EN X a ρ fun x => EN X b ρ fun y => Ib (fun i j => decide (i ≤ j)) x y P) : TN X (.Compare a [.LtE] [b] pos) ρ P := TN.cmp op_le (nomark _) (h.mono fun _ h => h.mono fun _ h => h.d2)
theorem TN.gt {P : Bool → Prop} (h : EN X a ρ fun x => EN X b ρ fun y => Ib (fun i j => decide (j < i)) x y P) : TN X (.Compare a [.Gt] [b] pos) ρ P := TN.cmp op_gt (nomark _) (h.mono fun _ h => h.mono fun _ h => h.d2)
theorem TN.ge {P : Bool → Prop} (h : EN X a ρ fun x => EN X b ρ fun y => Ib (fun i j => decide (j ≤ i)) x y P) : TN X (.Compare a [.GtE] [b] pos) ρ P := TN.cmp op_ge (nomark _) (h.mono fun _ h => h.mono fun _ h => h.d2)
theorem EN.lt (h : EN X a ρ fun x => EN X b ρ fun y => Ib (fun i j => decide (i < j)) x y fun k => P (.bool k)) : EN X (.Compare a [.Lt] [b] pos) ρ P := EN.cmp op_lt (nomark _) (h.mono fun _ h => h.mono fun _ h => fun S F H w v u x y Q q => h.d2 _ F H w v u x y Q fun d v' F' H' ⟨k, e, p⟩ => q d v' F' H' (e ▸ p))
theorem EN.le (h : EN X a ρ fun x => EN X b ρ fun y => Ib (fun i j => decide (i ≤ j)) x y fun k => P (.bool k)) : EN X (.Compare a [.LtE] [b] pos) ρ P := EN.cmp op_le (nomark _) (h.mono fun _ h => h.mono fun _ h => fun S F H w v u x y Q q => h.d2 _ F H w v u x y Q fun d v' F' H' ⟨k, e, p⟩ => q d v' F' H' (e ▸ p))
theorem EN.gt (h : EN X a ρ fun x => EN X b ρ fun y => Ib (fun i j => decide (j < i)) x y fun k => P (.bool k)) : EN X (.Compare a [.Gt] [b] pos) ρ P := EN.cmp op_gt (nomark _) (h.mono fun _ h => h.mono fun _ h => fun S F H w v u x y Q q => h.d2 _ F H w v u x y Q fun d v' F' H' ⟨k, e, p⟩ => q d v' F' H' (e ▸ p))
theorem EN.ge (h : EN X a ρ fun x => EN X b ρ fun y => Ib (fun i j => decide (j ≤ i)) x y fun k => P (.bool k)) : EN X (.Compare a [.GtE] [b] pos) ρ P := EN.cmp op_ge (nomark _) (h.mono fun _ h => h.mono fun _ h => fun S F H w v u x y Q q => h.d2 _ F H w v u x y Q fun d v' F' H' ⟨k, e, p⟩ => q d v' F' H' (e ▸ p))
def isNon : PyData → Bool
  | .none => true
  | _ => false
theorem isNon_v {F : Hp} {d : PyData} {v : V} (h : Dr K F d v) : decide (v = .non) = isNon d := by
  cases d with
  | none => rw [show v = .non from h]; rfl
  | bool b => rw [show v = .bl b from h]; rfl
  | int i => rw [show v = .int i from h]; rfl
  | str x => rw [show v = .str x from h]; rfl
  | list ds => obtain ⟨_, _, e, _⟩ := h; rw [e]; rfl
  | tuple ds => obtain ⟨_, _, e, _⟩ := h; rw [e]; rfl
  | dict ds => obtain ⟨_, _, e, _⟩ := h; rw [e]; rfl
theorem TN.isN {j p2} {P : Bool → Prop} (h : EN X a ρ fun x => Tb P (isNon x)) : TN X (.Compare a [.Is] [.Constant .none j p2] pos) ρ P :=
  TN.cmp op_isN (nomark _) (h.mono fun x h => EN.non (fun S F H w v u g1 g2 Q q => ⟨g2, q (.bool (isNon x)) _ F H ⟨_, rfl, h⟩ w.nw (by rw [isNon_v g1]; rfl)⟩))
theorem TN.notN {j p2} {P : Bool → Prop} (h : EN X a ρ fun x => Tb P (!isNon x)) : TN X (.Compare a [.IsNot] [.Constant .none j p2] pos) ρ P :=
  TN.cmp op_notN (nomark _) (h.mono fun x h => EN.non (fun S F H w v u g1 g2 Q q => ⟨g2, q (.bool (!isNon x)) _ F H ⟨_, rfl, h⟩ w.nw (by rw [isNon_v g1]; rfl)⟩))
theorem EN.notN {j p2} (h : EN X a ρ fun x => P (.bool (!isNon x))) : EN X (.Compare a [.IsNot] [.Constant .none j p2] pos) ρ P :=
  EN.cmp op_notN (nomark _) (h.mono fun x h => EN.non (fun S F H w v u g1 g2 Q q => ⟨g2, q (.bool (!isNon x)) _ F H h w.nw (by rw [isNon_v g1]; rfl)⟩))
theorem EN.isN {j p2} (h : EN X a ρ fun x => P (.bool (isNon x))) : EN X (.Compare a [.Is] [.Constant .none j p2] pos) ρ P :=
  EN.cmp op_isN (nomark _) (h.mono fun x h => EN.non (fun S F H w v u g1 g2 Q q => ⟨g2, q (.bool (isNon x)) _ F H h w.nw (by rw [isNon_v g1]; rfl)⟩))
/-! items, parts -/
theorem atI_dr {F : Hp} {ds : List PyData} {vs : List V} {i : Int} {d : PyData} (h : DrA K F ds vs) (e : atI ds i = some d) : ∃ v, atI vs i = some v ∧ Dr K F d v := by
  unfold atI at e ⊢
  rw [h.length]
  cases q : ixN ds.length i with
  | none => rw [q] at e; cases e
  | some j => rw [q] at e; exact h.get e
def IxD (x y : PyData) (P : PyData → Prop) : Prop := match x, y with
  | .list ds, .int i => ∃ d, atI ds i = some d ∧ P d
  | .tuple ds, .int i => ∃ d, atI ds i = some d ∧ P d
  | .str z, .int i => z.length ≤ sizeLine ∧ ∃ c, atI z.cps.toList i = some c ∧ P (.str ⟨#[c]⟩)
  | _, _ => False
theorem EN.ix (hs : PlainIx b) (h : EN X a ρ fun x => EN X b ρ fun y => IxD x y P) : EN X (.Subscript a b pos) ρ P :=
  EN.by (pe_ix ix_seq pe_w pe_w hs) fun G σ F H E Q q => two h E fun x y v u F' H' p n rx ry => by
    unfold IxD at p
    split at p
    · obtain ⟨d, e, pd⟩ := p
      obtain ⟨z, xs, rfl, h1, h2⟩ := rx
      obtain ⟨v', e', r'⟩ := atI_dr h2 e
      exact Or.inl ⟨z, xs, _, v', rfl, ry, SqL.of (n.fh _ _ h1), e', q _ _ F' H' pd n r'⟩
    · obtain ⟨d, e, pd⟩ := p
      obtain ⟨z, xs, rfl, h1, h2⟩ := rx
      obtain ⟨v', e', r'⟩ := atI_dr h2 e
      exact Or.inr (Or.inl ⟨z, xs, _, v', rfl, ry, Evl.ex_t n.fh h1, e', q _ _ F' H' pd n r'⟩)
    · obtain ⟨h1, c, e, pd⟩ := p
      exact Or.inr (Or.inr ⟨_, _, c, rx, ry, h1, e, q _ _ F' H' pd n rfl⟩)
    · exact p.elim
def ON (X : Cx) (o : Option Expr) (ρ : List Sl) (P : Option Int → Prop) : Prop := match o with
  | none => P none
  | some e => EN X e ρ fun d => ∃ i, d = .int i ∧ P (some i)
def cutD (ds : List PyData) (lo hi : Option Int) : List PyData := (ds.drop (HT.sIx ds.length 0 lo)).take (HT.sIx ds.length ds.length hi - HT.sIx ds.length 0 lo)
def CutD (x : PyData) (lo hi : Option Int) (P : PyData → Prop) : Prop := match x with
  | .list ds => P (.list (cutD ds lo hi))
  | _ => False
theorem cut_dr {F : Hp} {ds : List PyData} {vs : List V} (h : DrA K F ds vs) (lo hi : Option Int) : DrA K F (cutD ds lo hi) (cutV vs lo hi) := by
  unfold cutD cutV
  rw [h.length]
  exact (h.drop _).take _
def wO (X : Cx) (o : Option Expr) : TO := fun σ H Q => ∃ t, PO X o t ∧ t σ H Q
theorem po_w {o : Option Expr} : PO X o (wO X o) := ⟨fun pins s σ H Q I h => by obtain ⟨t, p, q⟩ := h; exact p.run pins s σ H Q I q⟩
theorem ON.go {G : Gh} {o : Option Expr} {P : Option Int → Prop} (h : ON X o ρ P) {σ F H} (E : ES X.K G σ F H ρ) {Q : Option Int → Hp → Prop} (q : ∀ i F' H', P i → Nw G.S F H F' H' → Q i H') : wO X o σ H Q := by
  cases o with
  | none => exact ⟨_, po_none, q none F H h E.wk.nw⟩
  | some e => exact ⟨_, po_some pe_w, h _ σ F H E _ fun d v F' H' ⟨i, e, p⟩ n r => by subst e; exact ⟨i, r, q _ F' H' p n⟩⟩
theorem EN.sl {lo hi : Option Expr} {p2 : Pos} (h : EN X a ρ fun x => ON X lo ρ fun l => ON X hi ρ fun u => CutD x l u P) : EN X (.Subscript a (.Slice lo hi none p2) pos) ρ P :=
  EN.by (pe_slice sl_list pe_w po_w po_w) fun G σ F H E Q q => h _ σ F H E _ fun x v F1 H1 p1 n1 r1 => p1.go (E.mono n1) fun l F2 H2 p2 n2 => p2.go ((E.mono n1).mono n2) fun u F3 H3 p3 n3 => by
    unfold CutD at p3
    split at p3
    · obtain ⟨z, xs, rfl, h1, h2⟩ := r1
      have f2 := n2.trans n3
      exact ⟨z, xs, rfl, SqL.of (f2.fh _ _ (f2.ff _ _ h1)), fun w hw => q _ _ _ _ p3 (n1.trans (f2.trans (n3.wk.new hw))) ⟨w, _, rfl, upd_same, DrA.mono (n3.wk.new (o := .lst _) hw).ff _ (cut_dr (DrA.mono f2.ff _ h2) l u)⟩⟩
    · exact p3.elim
end
end Kt

namespace Kt
open PySem L2 PyProof.Rows
open Evl (Ex)
section
variable {Pg : Program} {w : World} {K : PySem.W.Frag} {mg : Str → Option Value} {base : Heap} {N : List Str} {sc : Scope} {k j : Nat} {X : Cx} {ρ : List Sl} {P : PyData → Prop} {a b c e : Expr} {pos : Pos}
def Gi (sc : Scope) (x : Str) : Prop := sc.names.lookup x = some .globalImplicit
/-! ### texts of data -/
theorem call_reprD (C : Ctx Pg w K mg base N sc k X) : CallR X (.builtin "repr") (fun xs H Q => ∃ v d F, xs = [v] ∧ Ex F H ∧ Dr X.K F d v ∧ d.showable = true ∧ d.hasDict = false ∧ d.depth ≤ 40 ∧ d.shown.length ≤ sizeLine ∧ Q (.str d.shown) H) := by
  intro pins s σ H xs us Q I r h
  obtain ⟨v, d, F, rfl, ef, dr, h1, h2, h3, h4, q⟩ := h
  obtain ⟨u, rfl, ru⟩ := vals1 r
  have hun := C.room.units
  cases d with
  | none =>
    obtain rfl : v = .non := dr
    obtain rfl : u = Value.none := ru
    exact PySem.P.repr_of_none ⟨.str _, H, I.tok _, ⟨_, rfl⟩, q⟩
  | bool b =>
    obtain rfl : v = .bl b := dr
    obtain rfl : u = Value.bool b := ru
    exact PySem.P.repr_of_bool ⟨.str _, H, I.tok _, ⟨_, rfl⟩, q⟩
  | int i =>
    obtain rfl : v = .int i := dr
    obtain ⟨t, rfl⟩ := ru
    exact PySem.P.repr_of_int (of_decide_eq_true h1) ⟨.str _, H, I.tok _, ⟨_, rfl⟩, q⟩
  | str x =>
    obtain rfl : v = .str x := dr
    obtain ⟨t, rfl⟩ := ru
    exact PySem.P.repr_of_str ⟨.str _, H, I.tok _, ⟨_, rfl⟩, q⟩ h4
  | dict kvs => cases (show true = false from h2)
  | list ds =>
    obtain ⟨as, rd⟩ := Dr.reads I ef _ _ _ dr ru
    obtain ⟨p, xs, rfl, _⟩ := dr
    obtain rfl : u = Value.ref p := ru
    exact repr_of_reads' rd h1 (fun z => by rw [h2] at z; cases z) C.gd (by omega) (fun _ _ z => z) (fun h' u tk hk => ⟨.str _, H, I.kept hk, ⟨_, rfl⟩, q⟩) h4
  | tuple ds =>
    obtain ⟨as, rd⟩ := Dr.reads I ef _ _ _ dr ru
    obtain ⟨p, xs, rfl, _⟩ := dr
    obtain rfl : u = Value.ref p := ru
    exact repr_of_reads' rd h1 (fun z => by rw [h2] at z; cases z) C.gd (by omega) (fun _ _ z => z) (fun h' u tk hk => ⟨.str _, H, I.kept hk, ⟨_, rfl⟩, q⟩) h4
/-- a text of it can be made -/
def Rp (d : PyData) : Prop := d.showable = true ∧ d.hasDict = false ∧ d.depth ≤ 40 ∧ d.shown.length ≤ sizeLine
theorem EN.repr {npos : Pos} (C : Ctx Pg w K mg base N sc k X) (hg : Gi sc "repr") (hm : mg "repr" = none)
    (h : EN X e ρ fun d => Rp d ∧ P (.str d.shown)) (he : starEach [e] X.env = (false, eval e X.env) :: starEach [] X.env) (hpl : (backTo pos (starEach [] X.env)).any (·.1) = false) : EN X (.Call (.Name "repr" npos) [e] [] pos) ρ P :=
  EN.callB C (call_reprD C) hg hm (by decide +kernel) (LN.cons he (h.mono fun d hd => LN.nil (by
    rintro S F H w vs ⟨v, r, rfl, h1, h2⟩ Q q
    obtain rfl : r = [] := h2
    obtain ⟨⟨a1, a2, a3, a4⟩, a5⟩ := hd
    exact ⟨v, d, F, rfl, w.fh, h1, a1, a2, a3, a4, q _ _ F H a5 w.nw rfl⟩))) he hpl
/-! ### len, abs, int, gcd, list, tuple -/
def LenD (x : PyData) (P : PyData → Prop) : Prop := match x with
  | .list ds => P (.int ds.length)
  | .tuple ds => P (.int ds.length)
  | .str z => z.length ≤ sizeLine ∧ P (.int z.length)
  | _ => False
theorem EN.len {npos : Pos} (C : Ctx Pg w K mg base N sc k X) (hg : Gi sc "len") (hm : mg "len" = none)
    (h : EN X e ρ fun d => LenD d P) (he : starEach [e] X.env = (false, eval e X.env) :: starEach [] X.env) (hpl : (backTo pos (starEach [] X.env)).any (·.1) = false) : EN X (.Call (.Name "len" npos) [e] [] pos) ρ P :=
  EN.callB C call_len hg hm (by decide +kernel) (LN.cons he (h.mono fun d hd => LN.nil (by
    rintro S F H w vs ⟨v, r, rfl, h1, h2⟩ Q q
    obtain rfl : r = [] := h2
    unfold LenD at hd
    split at hd
    · obtain ⟨z, xs, rfl, g1, g2⟩ := h1
      exact ⟨_, xs.length, rfl, Or.inl ⟨xs, SqL.of (w.fh _ _ g1), rfl⟩, by rw [g2.length]; exact q _ _ F H hd w.nw rfl⟩
    · obtain ⟨z, xs, rfl, g1, g2⟩ := h1
      exact ⟨_, xs.length, rfl, Or.inr ⟨xs, Evl.ex_t w.fh g1, rfl⟩, by rw [g2.length]; exact q _ _ F H hd w.nw rfl⟩
    · obtain rfl := (show v = V.str _ from h1)
      exact ⟨_, _, rfl, ⟨hd.1, rfl⟩, q _ _ F H hd.2 w.nw rfl⟩
    · exact hd.elim))) he hpl
theorem EN.abs {npos : Pos} (C : Ctx Pg w K mg base N sc k X) (hg : Gi sc "abs") (hm : mg "abs" = none)
    (h : EN X e ρ fun d => ∃ i, d = .int i ∧ P (.int (if i < 0 then -i else i))) (he : starEach [e] X.env = (false, eval e X.env) :: starEach [] X.env) (hpl : (backTo pos (starEach [] X.env)).any (·.1) = false) : EN X (.Call (.Name "abs" npos) [e] [] pos) ρ P :=
  EN.callB C call_abs hg hm (by decide +kernel) (LN.cons he (h.mono fun d hd => LN.nil (by
    rintro S F H w vs ⟨v, r, rfl, h1, h2⟩ Q q
    obtain rfl : r = [] := h2
    obtain ⟨i, rfl, p⟩ := hd
    exact ⟨i, by rw [show v = V.int i from h1], q _ _ F H p w.nw rfl⟩))) he hpl
def IntD (x : PyData) (P : PyData → Prop) : Prop := match x with
  | .int i => P (.int i)
  | .bool b => P (.int (if b then 1 else 0))
  | _ => False
theorem EN.intc {npos : Pos} (C : Ctx Pg w K mg base N sc k X) (hg : Gi sc "int") (hm : mg "int" = none)
    (h : EN X e ρ fun d => IntD d P) (he : starEach [e] X.env = (false, eval e X.env) :: starEach [] X.env) (hpl : (backTo pos (starEach [] X.env)).any (·.1) = false) : EN X (.Call (.Name "int" npos) [e] [] pos) ρ P :=
  EN.callT C call_int1 hg hm (by decide +kernel) (LN.cons he (h.mono fun d hd => LN.nil (by
    rintro S F H w vs ⟨v, r, rfl, h1, h2⟩ Q q
    obtain rfl : r = [] := h2
    unfold IntD at hd
    split at hd
    · exact Or.inl ⟨_, by rw [show v = V.int _ from h1], q _ _ F H hd w.nw rfl⟩
    · exact Or.inr ⟨_, by rw [show v = V.bl _ from h1], q _ _ F H hd w.nw rfl⟩
    · exact hd.elim))) he hpl
def SeqD (x : PyData) (P : List PyData → Prop) : Prop := match x with
  | .list ds => P ds
  | .tuple ds => P ds
  | _ => False
theorem EN.listc {npos : Pos} (C : Ctx Pg w K mg base N sc k X) (hg : Gi sc "list") (hm : mg "list" = none)
    (h : EN X e ρ fun d => SeqD d fun ds => P (.list ds)) (he : starEach [e] X.env = (false, eval e X.env) :: starEach [] X.env) (hpl : (backTo pos (starEach [] X.env)).any (·.1) = false) : EN X (.Call (.Name "list" npos) [e] [] pos) ρ P :=
  EN.callT C call_list_of hg hm (by decide +kernel) (LN.cons he (h.mono fun d hd => LN.nil (by
    rintro S F H w vs ⟨v, r, rfl, h1, h2⟩ Q q
    obtain rfl : r = [] := h2
    unfold SeqD at hd
    split at hd
    · obtain ⟨z, xs, rfl, g1, g2⟩ := h1
      exact ⟨z, xs, rfl, Or.inl (SqL.of (w.fh _ _ g1)), fun l hl => q _ _ _ _ hd (w.new hl) ⟨l, xs, rfl, upd_same, DrA.mono (w.new (o := .lst xs) hl).ff _ g2⟩⟩
    · obtain ⟨z, xs, rfl, g1, g2⟩ := h1
      exact ⟨z, xs, rfl, Or.inr (Evl.ex_t w.fh g1), fun l hl => q _ _ _ _ hd (w.new hl) ⟨l, xs, rfl, upd_same, DrA.mono (w.new (o := .lst xs) hl).ff _ g2⟩⟩
    · exact hd.elim))) he hpl
theorem EN.tuplec {npos : Pos} (C : Ctx Pg w K mg base N sc k X) (hg : Gi sc "tuple") (hm : mg "tuple" = none)
    (h : EN X e ρ fun d => SeqD d fun ds => P (.tuple ds)) (he : starEach [e] X.env = (false, eval e X.env) :: starEach [] X.env) (hpl : (backTo pos (starEach [] X.env)).any (·.1) = false) : EN X (.Call (.Name "tuple" npos) [e] [] pos) ρ P :=
  EN.callT C call_tuple_of hg hm (by decide +kernel) (LN.cons he (h.mono fun d hd => LN.nil (by
    rintro S F H w vs ⟨v, r, rfl, h1, h2⟩ Q q
    obtain rfl : r = [] := h2
    unfold SeqD at hd
    split at hd
    · obtain ⟨z, xs, rfl, g1, g2⟩ := h1
      exact ⟨z, xs, rfl, Or.inl ⟨SqL.of (w.fh _ _ g1), fun l hl => q _ _ _ _ hd (w.new hl) ⟨l, xs, rfl, SqT.of upd_same, DrA.mono (w.new (o := .tup xs) hl).ff _ g2⟩⟩⟩
    · obtain ⟨z, xs, rfl, g1, g2⟩ := h1
      exact ⟨z, xs, rfl, Or.inr ⟨Evl.ex_t w.fh g1, q _ _ F H hd w.nw ⟨z, xs, rfl, g1, g2⟩⟩⟩
    · exact hd.elim))) he hpl
/-! ### isinstance -/
def tyD : PyData → String
  | .none => "NoneType"
  | .bool _ => "bool"
  | .int _ => "int"
  | .str _ => "str"
  | .list _ => "list"
  | .tuple _ => "tuple"
  | .dict _ => "dict"
theorem tyx_of {F H : Hp} (x : Ex F H) {d : PyData} {v : V} (h : Dr K F d v) : TyX K H v (.type (tyD d)) := by
  cases d with
  | none => rw [show v = .non from h]; exact .base .non
  | bool b => rw [show v = .bl b from h]; exact .base (.bl b)
  | int i => rw [show v = .int i from h]; exact .base (.int i)
  | str z => rw [show v = .str z from h]; exact .base (.str z)
  | list ds => obtain ⟨p, xs, e, h1, _⟩ := h; rw [e]; exact .base (.lst (x _ _ h1))
  | tuple ds =>
    obtain ⟨p, xs, e, h1, _⟩ := h
    rw [e]
    rcases Evl.ex_t x h1 with (q | ⟨o, q⟩) | ⟨o, its, n, q1, q2, _⟩
    · exact .base (.tup q)
    · exact .fTuple q
    · exact .kTuple q1 q2
  | dict ds => obtain ⟨p, xs, e, h1, _⟩ := h; rw [e]; exact .base (.dK (x _ _ h1))
theorem EN.isi {T : Str} {t : String} {npos tp : Pos} (C : Ctx Pg w K mg base N sc k X) (hg : Gi sc "isinstance") (hm : mg "isinstance" = none)
    (hg2 : Gi sc T) (hm2 : mg T = none) (hv : bootBuiltins T = some (.type t)) (hn : T ≠ "__name__") (hdb : (T == ("__debug__" : Str)) = false)
    (h : EN X e ρ fun d => ∃ r, kitB (tyD d) t = some r ∧ P (.bool r)) (he : starEach [e, .Name T tp] X.env = (false, eval e X.env) :: starEach [.Name T tp] X.env) (he2 : starEach [.Name T tp] X.env = (false, eval (.Name T tp) X.env) :: starEach [] X.env)
    (hpl : (backTo pos (starEach [.Name T tp] X.env)).any (·.1) = false) : EN X (.Call (.Name "isinstance" npos) [e, .Name T tp] [] pos) ρ P :=
  EN.by (pe_callB call_isi (by unfold Gl Env.kindOf; rw [C.scope]; exact hg) (by rw [C.mg]; exact hm) (by decide +kernel) (pa_cons pe_w (pa_cons (pe_bltn (v := .ty t) (by unfold Gl Env.kindOf; rw [C.scope]; exact hg2) (by rw [C.mg]; exact hm2) hv rfl hn hdb) pa_nil he2) he) (by decide) (by decide) he hpl)
    fun G σ F H E Q q => h _ σ F H E _ fun d v F1 H1 ⟨r, e1, p⟩ n rd => ⟨v, .ty t, _, _, r, rfl, .ty t, tyx_of n.fh rd, kit_ty e1, q _ _ F1 H1 p n rfl⟩
end
end Kt

namespace Kt
open PySem L2 PyProof.Rows
open Evl (Ex)
/-! ### statements, told over data -/
structure Kn where
  nx : List Sl → Prop
  rt : PyData → Prop
  bk : List Sl → Prop := fun _ => False
  ct : List Sl → Prop := fun _ => False
  rn : List PyData → Prop := fun _ => False
/-- v is a list of ds that was not there in H0, and that nobody knows -/
def NewL (K : PySem.W.Frag) (H0 F H : Hp) (ds : List PyData) (v : V) : Prop := ∃ a xs, v = .ref a ∧ H0 a = none ∧ F a = none ∧ H a = some (.lst xs) ∧ DrA K F ds xs
structure Adm (K : PySem.W.Frag) (G : Gh) (κ : Kn) (D : Ends) : Prop where
  nx : ∀ ρ σ F H, κ.nx ρ → ES K G σ F H ρ → D.nx σ H
  rt : ∀ d v F H, κ.rt d → Nw G.S G.F0 G.H0 F H → Dr K F d v → D.rt v H
  bk : ∀ ρ σ F H, κ.bk ρ → ES K G σ F H ρ → D.bk σ H
  ct : ∀ ρ σ F H, κ.ct ρ → ES K G σ F H ρ → D.ct σ H
  rn : ∀ ds v F H, κ.rn ds → Nw G.S G.F0 G.H0 F H → NewL K G.H0 F H ds v → D.rt v H
def SN (X : Cx) (st : Stmt) (ρ : List Sl) (κ : Kn) : Prop := ∀ (G : Gh) σ F H, ES X.K G σ F H ρ → ∀ D, Adm X.K G κ D → wS X st D σ H
def BN (X : Cx) (sts : List Stmt) (ρ : List Sl) (κ : Kn) : Prop := ∀ (G : Gh) σ F H, ES X.K G σ F H ρ → ∀ D, Adm X.K G κ D → wSs X sts D σ H
def wG (X : Cx) (tg : Expr) : TG := fun v σ H Q => ∃ g, PG X tg g ∧ g v σ H Q
def wGs (X : Cx) (ts : List Expr) : TGs := fun vs σ H Q => ∃ g, PGs X ts g ∧ g vs σ H Q
def wI (X : Cx) (tg iter : Expr) : TI := fun σ H R => ∃ t, PI X tg iter t ∧ t σ H R
section
variable {X : Cx}
theorem pg_w {tg : Expr} : PG X tg (wG X tg) := by
  refine ⟨?_⟩
  intros
  rename_i h
  obtain ⟨t, p, q⟩ := h
  exact p.run _ _ _ _ _ _ _ (by assumption) (by assumption) q
theorem pi_w {tg iter : Expr} : PI X tg iter (wI X tg iter) := ⟨fun pins s σ H R I h => by obtain ⟨t, p, q⟩ := h; exact p.run pins s σ H R I q⟩
end
/-- storing the data d in a target -/
def GN (X : Cx) (tg : Expr) (d : PyData) (ρ : List Sl) (P : List Sl → Prop) : Prop := ∀ (G : Gh) σ F H, ES X.K G σ F H ρ → ∀ v, Dr X.K F d v → ∀ Q : L2.St → Hp → Prop, (∀ ρ' σ' F' H', P ρ' → ES X.K G σ' F' H' ρ' → Ex F F' → Q σ' H') → wG X tg v σ H Q
def GNs (X : Cx) (ts : List Expr) (ds : List PyData) (ρ : List Sl) (P : List Sl → Prop) : Prop := ∀ (G : Gh) σ F H, ES X.K G σ F H ρ → ∀ vs, DrA X.K F ds vs → ∀ Q : L2.St → Hp → Prop, (∀ ρ' σ' F' H', P ρ' → ES X.K G σ' F' H' ρ' → Ex F F' → Q σ' H') → wGs X ts vs σ H Q
section
variable {Pg : Program} {w : World} {K : PySem.W.Frag} {mg : Str → Option Value} {base : Heap} {N : List Str} {sc : Scope} {k j : Nat} {X : Cx} {ρ : List Sl} {P : PyData → Prop} {a b c e : Expr} {pos : Pos} {κ : Kn} {st : Stmt} {rest : List Stmt}
theorem BN.nil (h : κ.nx ρ) : BN X [] ρ κ := fun G σ F H E D A => ⟨_, pss_nil, A.nx ρ σ F H h E⟩
theorem BN.cons (h : SN X st ρ { κ with nx := fun ρ' => BN X rest ρ' κ }) : BN X (st :: rest) ρ κ := fun G σ F H E D A =>
  ⟨_, pss_cons ps_w pss_w, h G σ F H E _ ⟨fun ρ' σ' F' H' p E' => p G σ' F' H' E' D A, A.rt, A.bk, A.ct, A.rn⟩⟩
theorem SN.by {t : TS} (p : PS X st t) (h : ∀ (G : Gh) σ F H, ES X.K G σ F H ρ → ∀ D, Adm X.K G κ D → t D σ H) : SN X st ρ κ := fun G σ F H E D A => ⟨t, p, h G σ F H E D A⟩
theorem SN.pass (h : κ.nx ρ) : SN X (.Pass pos) ρ κ := SN.by ps_pass fun G σ F H E D A => A.nx _ _ _ _ h E
theorem SN.brk (h : κ.bk ρ) : SN X (.Break pos) ρ κ := SN.by ps_break fun G σ F H E D A => A.bk _ _ _ _ h E
theorem SN.cont (h : κ.ct ρ) : SN X (.Continue pos) ρ κ := SN.by ps_continue fun G σ F H E D A => A.ct _ _ _ _ h E
theorem SN.ret (h : EN X e ρ κ.rt) : SN X (.Return (some e) pos) ρ κ := SN.by (ps_ret pe_w) fun G σ F H E D A => h G σ F H E _ fun d v F' H' p n r => A.rt d v F' H' p (E.nw.trans n) r
theorem SN.retN (h : κ.rt .none) : SN X (.Return none pos) ρ κ := SN.by ps_retN fun G σ F H E D A => A.rt .none .non F H h E.nw rfl
theorem SN.drop (hs : swapsWith e none pos.line X.env = pure false) (h : EN X e ρ fun _ => κ.nx ρ) : SN X (.Expr e pos) ρ κ := SN.by (ps_expr pe_w hs) fun G σ F H E D A => h G σ F H E _ fun d v F' H' p n r => A.nx ρ σ F' H' p (E.mono n)
theorem SN.ife {A B : List Stmt} (h : TN X c ρ fun k => (k = true → BN X A ρ κ) ∧ (k = false → BN X B ρ κ)) : SN X (.If c A B pos) ρ κ := SN.by (ps_if pt_w pss_w pss_w) fun G σ F H E D M => h G σ F H E _ fun k F' H' p n => by
  cases k with
  | true => exact iteT (p.1 rfl G σ F' H' (E.mono n) D M)
  | false => exact iteF (p.2 rfl G σ F' H' (E.mono n) D M)
/-- name = e -/
theorem SN.asg {i : Nat} {x : Str} {p2 : Pos} (C : Ctx Pg w K mg base N sc k X) (Fx : ∀ x, X.fn x = true) (hN : N[i]? = some x) (hx : L2.Loc sc x) (hs : swapsWith e (some (.Name x p2)) pos.line X.env = pure false)
    (h : EN X e ρ fun d => κ.nx (ρ.set i (.dat d))) : SN X (.Assign [.Name x p2] e pos) ρ κ :=
  SN.by (ps_set (i := i) (by rw [C.nn]; exact C.nd) (by rw [C.nn]; exact hN) (by unfold L2.Loc; rw [C.scope]; exact hx) pe_w hs (.inl (Fx x))) fun G σ F H E D A => h G σ F H E _ fun d v F' H' p n r => A.nx _ _ _ _ p ((E.mono n).set r)
/-- name = [..], a list that will change -/
theorem SN.own {i : Nat} {x : Str} {p2 p3 : Pos} {es : List Expr} (C : Ctx Pg w K mg base N sc k X) (Fx : ∀ x, X.fn x = true) (hN : N[i]? = some x) (hx : L2.Loc sc x) (hs : swapsWith (.List es p3) (some (.Name x p2)) pos.line X.env = pure false)
    (h : LN X es ρ fun ds => ds.length ≤ sizeLine ∧ κ.nx (ρ.set i (.own ds))) : SN X (.Assign [.Name x p2] (.List es p3) pos) ρ κ :=
  SN.by (ps_set (i := i) (by rw [C.nn]; exact C.nd) (by rw [C.nn]; exact hN) (by unfold L2.Loc; rw [C.scope]; exact hx) (pe_lst pa_w) hs (.inl (Fx x))) fun G σ F H E D A =>
    h G σ F H E _ fun ds vs F' H' ⟨hl, p⟩ n r => ⟨by rw [r.length]; exact hl, fun z hz => A.nx _ _ _ _ p ((E.mono n).setOwn hz r)⟩
/-- an own list is frozen -/
theorem BN.freeze {i : Nat} {ds : List PyData} (hi : ρ[i]? = some (.own ds)) (h : BN X rest (ρ.set i (.dat (.list ds))) κ) : BN X rest ρ κ := fun G σ F H E D A => by
  obtain ⟨F', v, _, _, _, _, E'⟩ := E.freeze hi
  exact h G σ F' H E' D A
theorem SN.freeze {i : Nat} {ds : List PyData} (hi : ρ[i]? = some (.own ds)) (h : SN X st (ρ.set i (.dat (.list ds))) κ) : SN X st ρ κ := fun G σ F H E D A => by
  obtain ⟨F', v, _, _, _, _, E'⟩ := E.freeze hi
  exact h G σ F' H E' D A
theorem BN.weak {ρ' : List Sl} (hl : ρ'.length = ρ.length) (hw : ∀ (i : Nat) s, ρ'[i]? = some s → s = .no ∨ ρ[i]? = some s) (h : BN X rest ρ' κ) : BN X rest ρ κ := fun G σ F H E D A => h G σ F H (E.weak hl hw) D A
/-- r.append(e), r a name -/
theorem SN.app {i : Nat} {x : Str} {p1 p2 p3 : Pos} {ds : List PyData} (C : Ctx Pg w K mg base N sc k X) (hN : N[i]? = some x) (hv : Vis sc x) (hi : ρ[i]? = some (.own ds))
    (h : EN X e ρ fun d => ds.length < sizeLine ∧ κ.nx (ρ.set i (.own (ds ++ [d]))))
    (hs : swapsWith (.Call (.Attribute (.Name x p1) "append" p2) [e] [] p3) none pos.line X.env = pure false)
    (hbase : attributeBase (.Name x p1) "append" X.env (eval (.Name x p1) X.env) = eval (.Name x p1) X.env)
    (hfew : ((backTo p3 (starEach [e] X.env)).all (fun x => !x.1) && (backToKw p3 (keywordEach [] X.env)).all (fun x => x.1.isSome) && decide ([e].length + ([] : List Keyword).length + (if ([] : List Keyword).isEmpty then 0 else 1) < 30)) = true)
    (hline : (p2.endLine == p3.line) = true) (he : starEach [e] X.env = (false, eval e X.env) :: starEach [] X.env) (hplain : (backTo p3 (starEach [] X.env)).any (·.1) = false)
    (hd : (x == ("__debug__" : Str)) = false := by decide) (hcd : (x == ("__classdict__" : Str)) = false := by decide) : SN X (.Expr (.Call (.Attribute (.Name x p1) "append" p2) [e] [] p3) pos) ρ κ :=
  SN.by (ps_expr (pe_bm PySem.F.plainAttrs_list PySem.F.slot_list_append PySem.F.type_list_append mt_append (pe_var (i := i) (by rw [C.nn]; exact hN) (by rw [C.scope]; exact hv) hd hcd) (pa_cons pe_w pa_nil he) hbase hfew hline he hplain) hs)
    fun G σ F H E D A => by
      obtain ⟨z, xs, h1, h2, h3, h4, h5⟩ := E.sl i _ hi
      refine ⟨_, h1, Or.inl ⟨rfl, xs, SqL.of h4⟩, h G σ F H E _ ?_⟩
      intro d v F' H' ⟨hl, p⟩ n r
      have E' := E.mono n
      obtain ⟨z', xs', g1, g2, g3, g4, g5⟩ := E'.sl i _ hi
      rw [h1] at g1
      cases g1
      exact ⟨z, xs', v, rfl, rfl, g4, by rw [g5.length]; exact hl, A.nx _ _ _ _ p (E'.mut hi h1 (g5.append ⟨v, [], rfl, r, rfl⟩))⟩
/-! reading an own list -/
theorem EN.lenO {i : Nat} {x : Str} {ds : List PyData} {npos p1 : Pos} (C : Ctx Pg w K mg base N sc k X) (hg : Gi sc "len") (hm : mg "len" = none) (hN : N[i]? = some x) (hv : Vis sc x) (hi : ρ[i]? = some (.own ds)) (p : P (.int ds.length))
    (he : starEach [.Name x p1] X.env = (false, eval (.Name x p1) X.env) :: starEach [] X.env) (hpl : (backTo pos (starEach [] X.env)).any (·.1) = false) (hd : (x == ("__debug__" : Str)) = false := by decide) (hcd : (x == ("__classdict__" : Str)) = false := by decide) : EN X (.Call (.Name "len" npos) [.Name x p1] [] pos) ρ P :=
  EN.by (pe_callB call_len (by unfold Gl Env.kindOf; rw [C.scope]; exact hg) (by rw [C.mg]; exact hm) (by decide +kernel) (pa_cons (pe_var (i := i) (by rw [C.nn]; exact hN) (by rw [C.scope]; exact hv) hd hcd) pa_nil he) (by decide) (by decide) he hpl) fun G σ F H E Q q => by
    obtain ⟨z, xs, h1, h2, h3, h4, h5⟩ := E.sl i _ hi
    exact ⟨_, h1, _, xs.length, rfl, Or.inl ⟨xs, SqL.of h4, rfl⟩, q (.int xs.length) _ F H (by rw [h5.length]; exact p) E.wk.nw rfl⟩
theorem EN.ixO {i : Nat} {x : Str} {ds : List PyData} {p1 : Pos} (C : Ctx Pg w K mg base N sc k X) (hN : N[i]? = some x) (hv : Vis sc x) (hi : ρ[i]? = some (.own ds)) (hs : PlainIx b)
    (h : EN X b ρ fun y => ∃ n d, y = .int n ∧ atI ds n = some d ∧ P d) (hd : (x == ("__debug__" : Str)) = false := by decide) (hcd : (x == ("__classdict__" : Str)) = false := by decide) : EN X (.Subscript (.Name x p1) b pos) ρ P :=
  EN.by (pe_ix ix_list (pe_var (i := i) (by rw [C.nn]; exact hN) (by rw [C.scope]; exact hv) hd hcd) pe_w hs) fun G σ F H E Q q => by
    obtain ⟨z, xs, h1, h2, h3, h4, h5⟩ := E.sl i _ hi
    refine ⟨_, h1, h G σ F H E _ ?_⟩
    rintro y v F' H' ⟨n, d, rfl, e1, p⟩ nw r
    obtain ⟨z', xs', g1, g2, g3, g4, g5⟩ := (E.mono nw).sl i _ hi
    rw [h1] at g1
    cases g1
    obtain ⟨v', e2, r2⟩ := atI_dr g5 e1
    exact ⟨z, xs', n, v', rfl, r, SqL.of g4, e2, q d v' F' H' p nw r2⟩
/-! targets -/
theorem GN.name {i : Nat} {x : Str} {d : PyData} {P : List Sl → Prop} (C : Ctx Pg w K mg base N sc k X) (hN : N[i]? = some x) (hx : L2.Loc sc x) (hf : X.fn x = true ∨ sc.names.lookup x = some .local) (p : P (ρ.set i (.dat d))) : GN X (.Name x pos) d ρ P := fun G σ F H E v r Q q =>
  ⟨_, pg_name (i := i) (by rw [C.nn]; exact C.nd) (by rw [C.nn]; exact hN) (by unfold L2.Loc; rw [C.scope]; exact hx) (by rw [C.scope]; exact hf), q _ _ _ _ p (E.set r) (Ex.refl F)⟩
theorem GNs.nil {P : List Sl → Prop} (p : P ρ) : GNs X [] [] ρ P := fun G σ F H E vs r Q q => ⟨_, pgs_nil, r, q _ _ _ _ p E (Ex.refl F)⟩
theorem GNs.cons {d : PyData} {ds : List PyData} {es : List Expr} {P : List Sl → Prop} (hs : (assignEach (e :: es) X.env).map (·.2) = assign e X.env :: (assignEach es X.env).map (·.2)) (h : GN X e d ρ fun ρ' => GNs X es ds ρ' P) : GNs X (e :: es) (d :: ds) ρ P := fun G σ F H E vs ⟨v, r, h1, h2, h3⟩ Q q =>
  ⟨_, pgs_cons pg_w (⟨fun pins s σ H vs us Q I r h => by obtain ⟨t, p, q⟩ := h; exact p.run pins s σ H vs us Q I r q⟩ : PGs X es (wGs X es)) hs, ⟨v, r, h1, h G σ F H E v h2 _ fun ρ' σ' F' H' p E' x => p G σ' F' H' E' r (DrA.mono x _ h3) Q fun ρ2 σ2 F2 H2 p2 E2 x2 => q ρ2 σ2 F2 H2 p2 E2 (x.trans x2)⟩⟩
theorem GN.tup {ds : List PyData} {es : List Expr} {kk : Nat} {n : Nat} {P : List Sl → Prop} (C : Ctx Pg w K mg base N sc k X) (hn : (assignEach es X.env).length = n) (hst : (assignEach es X.env).findIdx? (·.1) = none) (hl : ds.length = n) (h : GNs X es ds ρ P) : GN X (.Tuple es kk pos) (.tuple ds) ρ P := fun G σ F H E v ⟨z, xs, h1, h2, h3⟩ Q q =>
  ⟨_, pg_tup C.calm (⟨fun pins s σ H vs us Q I r h => by obtain ⟨t, p, q⟩ := h; exact p.run pins s σ H vs us Q I r q⟩ : PGs X es (wGs X es)) hn hst, ⟨z, xs, h1, Evl.ex_t E.nw.fh h2, by rw [h3.length]; exact hl, h G σ F H E xs h3 Q q⟩⟩
/-- target = e -/
theorem SN.asgT {tg : Expr} (C : Ctx Pg w K mg base N sc k X) (hs : swapsWithSole [tg] e pos.line X.env = pure false) (hw : ∀ en : Env, en.scope = sc → swappedStores [tg] e en = pure none) (h1 : (assignEach [tg] X.env).map (·.2) = [assign tg X.env]) (h : EN X e ρ fun d => GN X tg d ρ κ.nx) : SN X (.Assign [tg] e pos) ρ κ :=
  SN.by (ps_asg pe_w pg_w hs (hw _ C.scope) h1) fun G σ F H E D A => h G σ F H E _ fun d v F' H' p n r => p G σ F' H' (E.mono n) v r _ fun ρ2 σ2 F2 H2 p2 E2 _ => A.nx ρ2 σ2 F2 H2 p2 E2
/-! ### what is walked -/
structure IterOk (K : PySem.W.Frag) (F0 : Hp) (J : It) (ds : List PyData) : Prop where
  go : ∀ S F H, Ex F0 F → Wk S F H → ∀ i d, ds[i]? = some d → J.go i H ∧ ∀ x H', J.yld i H x H' → ∃ F', Nw S F H F' H' ∧ Dr K F' d x
  stop : ∀ F H, Ex F0 F → Ex F H → J.stop ds.length H
def IN (X : Cx) (tg iter : Expr) (ρ : List Sl) (P : List PyData → Prop) : Prop := ∀ (G : Gh) σ F H, ES X.K G σ F H ρ → ∀ R : It → Hp → Prop, (∀ ds J F' H', P ds → Nw G.S F H F' H' → IterOk X.K F' J ds → R J H') → wI X tg iter σ H R
theorem IterOk.range (lo : Int) (n : Nat) (F : Hp) : IterOk K F (Itr lo n) ((List.range n).map fun i => PyData.int (lo + (i : Nat))) := by
  refine ⟨fun S F1 H _ W i d e => ?_, fun F1 H _ _ => ?_⟩
  · rw [List.getElem?_map] at e
    by_cases hi : i < n
    · rw [List.getElem?_range hi] at e
      cases e
      refine ⟨hi, fun x H' y => ?_⟩
      obtain ⟨e1, e2⟩ := y
      subst e1 e2
      exact ⟨F1, W.nw, rfl⟩
    · rw [List.getElem?_eq_none (by rw [List.length_range]; omega)] at e
      cases e
  · rw [List.length_map, List.length_range]
    exact Nat.le_refl _
theorem IterOk.list {a : Addr} {xs : List V} {ds : List PyData} {F : Hp} (h : F a = some (.lst xs)) (r : DrA K F ds xs) : IterOk K F (Itl K a) ds := by
  refine ⟨fun S F1 H x W i d e => ?_, fun F1 H x y => ?_⟩
  · have hs : SqL K H a xs := SqL.of (W.fh _ _ (x _ _ h))
    obtain ⟨v, e1, r1⟩ := r.get e
    refine ⟨⟨xs, v, hs, e1⟩, fun z H' y => ?_⟩
    obtain ⟨e2, y⟩ := y
    subst e2
    have := y xs hs
    rw [e1] at this
    cases this
    exact ⟨F1, W.nw, Dr.mono x d r1⟩
  · exact ⟨xs, SqL.of (y _ _ (x _ _ h)), by rw [r.length]; exact Nat.le_refl _⟩
theorem IterOk.tup {a : Addr} {xs : List V} {ds : List PyData} {F : Hp} (h : SqT K F a xs) (r : DrA K F ds xs) : IterOk K F (Itt K a) ds := by
  refine ⟨fun S F1 H x W i d e => ?_, fun F1 H x y => ?_⟩
  · have hs : SqT K H a xs := Evl.ex_t (x.trans W.fh) h
    obtain ⟨v, e1, r1⟩ := r.get e
    refine ⟨⟨xs, v, hs, e1⟩, fun z H' y => ?_⟩
    obtain ⟨e2, y⟩ := y
    subst e2
    have := y xs hs
    rw [e1] at this
    cases this
    exact ⟨F1, W.nw, Dr.mono x d r1⟩
  · exact ⟨xs, Evl.ex_t (x.trans y) h, by rw [r.length]; exact Nat.le_refl _⟩
section
variable {pins : List (Addr × Obj)} {σ : L2.St} {H : Hp} {s1 : Shared} {tg : Expr} {R : It → Hp → Prop} {a : Addr} {xs : List V}
/-- an iterator just made -/
theorem newIt (I : Inv X pins σ H s1) {J : It} {T : Nat → Heap → Prop} (o : Obj) (hT : Turn X.prog X.w X.K tg J [s1.heap.objs.size] s1.heap.objs.size T)
    (h0 : T 0 (s1.heap.push o)) (q : R J H) : PIE X pins σ tg R (.ref s1.heap.objs.size) { s1 with heap := s1.heap.push o } := by
  refine ⟨s1.heap.objs.size, [s1.heap.objs.size], T, J, H, rfl, ?_, hT, h0, ?_, q⟩
  · exact I.kept (t' := s1.toks) (fun b u e => Heap.get?_push_of_some _ e)
  · intro b hb
    obtain rfl : b = s1.heap.objs.size := List.mem_singleton.mp hb
    exact I.fpOk (Nat.le_refl _) (I.hok.fresh (Nat.le_refl _))
theorem iter_L (I : Inv X pins σ H s1) (hq : SqL X.K H a xs) (q : R (Itl X.K a) H) : wpAny (model X.prog X.w) X.A (pyIter (.ref a)) (PIE X pins σ tg R) X.xe s1 := by
  obtain ⟨its, rv, pl, _⟩ := I.list hq
  exact wpAny_pyIter_list pl.isList (newIt I _ (turn_list a _) ⟨_, Heap.get?_push_size _ rfl, rfl, rfl⟩ q)
theorem iter_T (I : Inv X pins σ H s1) (hq : SqT X.K H a xs) (q : R (Itt X.K a) H) : wpAny (model X.prog X.w) X.A (pyIter (.ref a)) (PIE X pins σ tg R) X.xe s1 := by
  obtain ⟨its, rv, pt, _⟩ := I.tuple hq
  exact wpAny_pyIter_tuple (show s1.heap.IsTuple a its.toArray from pt) (newIt I _ (turn_tuple a _) ⟨_, Heap.get?_push_size _ rfl, rfl, rfl⟩ q)
end
theorem IN.seq {tg : Expr} {P : List PyData → Prop} (h : EN X e ρ fun d => SeqD d P) : IN X tg e ρ P := fun G σ F H E R q => by
  refine ⟨fun σ H R => wE X e σ H fun x H1 => (∃ a, x = .ref a ∧ (∃ xs, SqL X.K H1 a xs) ∧ R (Itl X.K a) H1) ∨ (∃ a, x = .ref a ∧ (∃ xs, SqT X.K H1 a xs) ∧ R (Itt X.K a) H1), ⟨fun pins s σ H R I hw => ?_⟩, ?_⟩
  · refine thn (pe_w.run pins s σ H _ I hw) ?_
    rintro v s1 ⟨x, H1, I1, rx, ⟨a, rfl, ⟨xs, hx⟩, hr⟩ | ⟨a, rfl, ⟨xs, hx⟩, hr⟩⟩
    · obtain rfl : v = Value.ref a := rx
      exact iter_L I1 hx hr
    · obtain rfl : v = Value.ref a := rx
      exact iter_T I1 hx hr
  · refine h G σ F H E _ fun d v F' H' p n r => ?_
    have p' : SeqD d P := p
    unfold SeqD at p'
    split at p'
    · obtain ⟨z, xs, rfl, g1, g2⟩ := r
      exact Or.inl ⟨z, rfl, ⟨xs, SqL.of (n.fh _ _ g1)⟩, q _ _ F' H' p' n (IterOk.list g1 g2)⟩
    · obtain ⟨z, xs, rfl, g1, g2⟩ := r
      exact Or.inr ⟨z, rfl, ⟨xs, Evl.ex_t n.fh g1⟩, q _ _ F' H' p' n (IterOk.tup g1 g2)⟩
    · exact p'.elim
def rngD (lo hi : Int) : List PyData := (List.range (hi - lo).toNat).map fun i => PyData.int (lo + (i : Nat))
theorem IN.r1 {tg : Expr} {p1 : Pos} {P : List PyData → Prop} (C : Ctx Pg w K mg base N sc k X) (hg : Gi sc "range") (hm : mg "range" = none) (hs : starEach [e] X.env = [(false, eval e X.env)]) (he : starEach [e] X.env = (false, eval e X.env) :: starEach [] X.env)
    (h : EN X e ρ fun d => ∃ n, d = .int n ∧ -(2 ^ 62) ≤ n ∧ n < 2 ^ 62 ∧ P (rngD 0 n)) : IN X tg (.Call (.Name "range" p1) [e] [] pos) ρ P := fun G σ F H E R q =>
  ⟨_, pi_range1 (by unfold Gl Env.kindOf; rw [C.scope]; exact hg) (by rw [C.mg]; exact hm) (pa_cons pe_w pa_nil he) hs, h G σ F H E _ fun d v F' H' ⟨n, e1, h1, h2, p⟩ nw r => by
    subst e1
    obtain rfl : v = .int n := r
    refine ⟨n, rfl, h1, h2, q _ _ F' H' p nw ?_⟩
    have := IterOk.range (K := X.K) 0 n.toNat F'
    unfold rngD
    rw [Int.sub_zero]
    exact this⟩
theorem IN.r2 {tg : Expr} {p1 : Pos} {P : List PyData → Prop} (C : Ctx Pg w K mg base N sc k X) (hg : Gi sc "range") (hm : mg "range" = none) (hs : starEach [a, b] X.env = [(false, eval a X.env), (false, eval b X.env)]) (hs2 : starEach [b] X.env = [(false, eval b X.env)])
    (he : starEach [a, b] X.env = (false, eval a X.env) :: starEach [b] X.env) (he2 : starEach [b] X.env = (false, eval b X.env) :: starEach [] X.env)
    (h : EN X a ρ fun x => EN X b ρ fun y => ∃ lo hi, x = .int lo ∧ y = .int hi ∧ (-(2 ^ 62) ≤ lo ∧ lo < 2 ^ 62 ∧ -(2 ^ 62) ≤ hi ∧ hi < 2 ^ 62) ∧ P (rngD lo hi)) : IN X tg (.Call (.Name "range" p1) [a, b] [] pos) ρ P := fun G σ F H E R q =>
  ⟨_, pi_range2 (by unfold Gl Env.kindOf; rw [C.scope]; exact hg) (by rw [C.mg]; exact hm) (pa_cons pe_w (pa_cons pe_w pa_nil he2) he) hs hs2, two (R := fun x y H2 => ∃ i j : Int, [x, y] = [V.int i, V.int j] ∧ (-(2 ^ 62) ≤ i ∧ i < 2 ^ 62 ∧ -(2 ^ 62) ≤ j ∧ j < 2 ^ 62) ∧ R (Itr i (j - i).toNat) H2) h E fun x y v u F' H' ⟨lo, hi, e1, e2, hb, p⟩ nw rx ry => by
    subst e1 e2
    obtain rfl : v = .int lo := rx
    obtain rfl : u = .int hi := ry
    exact ⟨lo, hi, rfl, hb, q _ _ F' H' p nw (IterOk.range (K := X.K) lo (hi - lo).toNat F')⟩⟩
/-! ### loops -/
theorem ES.rebase {G : Gh} {σ : L2.St} {F H F1 : Hp} (E : ES K G σ F H ρ) (x : Ex F1 F) (h : ∀ a o, G.H0 a = some o → F a = F1 a) : ES K { G with F0 := F1 } σ F H ρ :=
  ⟨⟨x, E.nw.fh, E.nw.hh, h, E.nw.src, E.nw.sf⟩, E.s0, E.len, fun i s hs => E.sl i s hs, E.ap⟩
theorem ES.unbase {G : Gh} {σ : L2.St} {F H F1 : Hp} (E : ES K { G with F0 := F1 } σ F H ρ) (x : Ex G.F0 F1) (h : ∀ a o, G.H0 a = some o → F1 a = G.F0 a) : ES K G σ F H ρ :=
  ⟨⟨x.trans E.nw.ff, E.nw.fh, E.nw.hh, fun a o q => (E.nw.old a o q).trans (h a o q), E.nw.src, E.nw.sf⟩, E.s0, E.len, fun i s hs => E.sl i s hs, E.ap⟩
theorem SN.for {tg iter : Expr} {body : List Stmt} (C : Ctx Pg w K mg base N sc k X)
    (hf : ∀ x, foldedSetIterable iter X.env x = pure x)
    (h : IN X tg iter ρ fun ds => ∃ I : Nat → List Sl → Prop, I 0 ρ ∧ (∀ m d ρ', ds[m]? = some d → I m ρ' → GN X tg d ρ' fun ρ2 => BN X body ρ2 { κ with nx := I (m + 1), ct := I (m + 1), bk := κ.nx }) ∧ ∀ ρ', I ds.length ρ' → κ.nx ρ') : SN X (.For tg iter body [] pos) ρ κ :=
  SN.by (ps_for (by rw [C.xe]; exact PassesOwn.never) C.calm pi_w pg_w pss_w hf) fun G σ F H E D A => by
    refine h G σ F H E _ ?_
    rintro ds J F1 H1 ⟨I, i0, turn, done⟩ n1 J1
    have E1 := E.mono n1
    have b1 : Ex G.F0 F1 := E1.nw.ff
    have b2 : ∀ a o, G.H0 a = some o → F1 a = G.F0 a := E1.nw.old
    refine ⟨fun i m σ' H' => m = ds.length - i ∧ i ≤ ds.length ∧ ∃ F' ρ', I i ρ' ∧ ES X.K { G with F0 := F1 } σ' F' H' ρ', ⟨_, rfl, Nat.zero_le _, F1, ρ, i0, E1.rebase (Ex.refl F1) (fun _ _ _ => rfl)⟩, ?_⟩
    rintro i m σ' H' ⟨rfl, hi, F', ρ', hI, E'⟩
    have x1 : Ex F1 F' := E'.nw.ff
    by_cases hlt : i < ds.length
    · have hd : ds[i]? = some ds[i] := List.getElem?_eq_getElem hlt
      have jg := (J1.go G.S F' H' x1 E'.wk i _ hd)
      refine Or.inr ⟨jg.1, fun σ2 H2 => ∃ F2 ρ2, I (i + 1) ρ2 ∧ ES X.K { G with F0 := F1 } σ2 F2 H2 ρ2, ?_, ?_⟩
      · rintro σ2 H2 ⟨F2, ρ2, p2, E2⟩
        exact ⟨ds.length - (i + 1), by omega, rfl, hlt, F2, ρ2, p2, E2⟩
      · intro x H2 hy
        obtain ⟨F2, n2, r2⟩ := jg.2 x H2 hy
        refine turn i _ ρ' hd hI { G with F0 := F1 } σ' F2 H2 (E'.mono n2) x r2 _ ?_
        intro ρ3 σ3 F3 H3 p3 E3 x3
        refine p3 { G with F0 := F1 } σ3 F3 H3 E3 _ ⟨?_, ?_, ?_, ?_, fun ds v F4 H4 p4 n4 r4 => A.rn ds v F4 H4 p4 ⟨b1.trans n4.ff, n4.fh, n4.hh, fun a o q => (n4.old a o q).trans (b2 a o q), n4.src, n4.sf⟩ r4⟩
        · intro ρ4 σ4 F4 H4 p4 E4
          exact ⟨F4, ρ4, p4, E4⟩
        · intro d v F4 H4 p4 n4 r4
          exact A.rt d v F4 H4 p4 ⟨b1.trans n4.ff, n4.fh, n4.hh, fun a o q => (n4.old a o q).trans (b2 a o q), n4.src, n4.sf⟩ r4
        · intro ρ4 σ4 F4 H4 p4 E4
          exact A.nx ρ4 σ4 F4 H4 p4 (E4.unbase b1 b2)
        · intro ρ4 σ4 F4 H4 p4 E4
          exact ⟨F4, ρ4, p4, E4⟩
    · obtain rfl : i = ds.length := by omega
      exact Or.inl ⟨J1.stop F' H' x1 E'.nw.fh, A.nx ρ' σ' F' H' (done ρ' hI) (E'.unbase b1 b2)⟩
theorem SN.while {body : List Stmt} (C : Ctx Pg w K mg base N sc k X) (I : Nat → List Sl → Prop) (m0 : Nat) (i0 : I m0 ρ)
    (h : ∀ m ρ', I m ρ' → TN X c ρ' fun b => (b = true → BN X body ρ' { κ with nx := fun ρ2 => ∃ m', m' < m ∧ I m' ρ2, ct := fun ρ2 => ∃ m', m' < m ∧ I m' ρ2, bk := κ.nx }) ∧ (b = false → κ.nx ρ')) : SN X (.While c body [] pos) ρ κ :=
  SN.by (ps_while (by rw [C.xe]; exact PassesOwn.never) pt_w pss_w) fun G σ F H E D A => by
    refine ⟨fun m σ' H' => ∃ F' ρ', I m ρ' ∧ ES X.K G σ' F' H' ρ', ⟨m0, F, ρ, i0, E⟩, ?_⟩
    rintro m σ' H' ⟨F', ρ', hI, E'⟩
    refine h m ρ' hI G σ' F' H' E' _ fun b F2 H2 p n2 => ?_
    cases b with
    | false => exact iteF (A.nx ρ' σ' F2 H2 (p.2 rfl) (E'.mono n2))
    | true =>
      refine iteT ⟨fun σ3 H3 => ∃ m', m' < m ∧ ∃ F3 ρ3, I m' ρ3 ∧ ES X.K G σ3 F3 H3 ρ3, ?_, ?_⟩
      · rintro σ3 H3 ⟨m', hm, F3, ρ3, q3, E3⟩
        exact ⟨m', hm, F3, ρ3, q3, E3⟩
      · refine p.1 rfl G σ' F2 H2 (E'.mono n2) _ ⟨?_, A.rt, A.nx, ?_, A.rn⟩
        · rintro ρ3 σ3 F3 H3 ⟨m', hm, q3⟩ E3
          exact ⟨m', hm, F3, ρ3, q3, E3⟩
        · rintro ρ3 σ3 F3 H3 ⟨m', hm, q3⟩ E3
          exact ⟨m', hm, F3, ρ3, q3, E3⟩
end
end Kt

namespace Kt
open PySem L2 PyProof.Rows
open Evl (Ex)
section
variable {Pg : Program} {w : World} {K : PySem.W.Frag} {mg : Str → Option Value} {base : Heap} {N : List Str} {sc : Scope} {k j : Nat} {X : Cx} {ρ : List Sl} {P : PyData → Prop} {a b c e : Expr} {pos : Pos} {κ : Kn} {st : Stmt} {rest : List Stmt}
/-! ### list comprehensions -/
/-- a comprehension's tests -/
def wTs (X : Cx) (ifs : List Expr) : TT := fun σ H Q => ∃ t, PTs X ifs t ∧ t σ H Q
def CN (X : Cx) (ifs : List Expr) (ρ : List Sl) (P : Bool → Prop) : Prop := match ifs with
  | [] => P true
  | [c] => TN X c ρ P
  | _ => False
theorem pts_w {ifs : List Expr} : PTs X ifs (wTs X ifs) := ⟨fun pins s σ H Q I h => by obtain ⟨t, p, q⟩ := h; exact p.run pins s σ H Q I q⟩
theorem CN.go {ifs : List Expr} {P : Bool → Prop} (h : CN X ifs ρ P) {G : Gh} {σ F H} (E : ES X.K G σ F H ρ) {Q : Bool → Hp → Prop} (q : ∀ b F' H', P b → Nw G.S F H F' H' → Q b H') : wTs X ifs σ H Q := by
  unfold CN at h
  split at h
  · exact ⟨_, pts_nil, q true F H h E.wk.nw⟩
  · exact ⟨_, pts_one pt_w, h _ σ F H E Q q⟩
  · exact h.elim
def isBlk (X : Cx) (scope : Scope) (Y : Cx) : Prop := ∃ (s : Shared) (H : Hp) (Cl : Addr) (cl : List (Str × Addr)) (fp : List Addr), Y = X.blk s H scope (compEnvC scope cl Cl X.env) fp
def bT (X : Cx) (scope : Scope) (ifs : List Expr) : TT := fun σ H Q => ∀ Y, isBlk X scope Y → wTs Y ifs σ H Q
def bE (X : Cx) (scope : Scope) (e : Expr) : TE := fun σ H Q => ∀ Y, isBlk X scope Y → wE Y e σ H Q
theorem isBlk.ctx {scope : Scope} {Y : Cx} (C : Ctx Pg w K mg base N sc k X) (h : isBlk X scope Y) : Ctx Pg w K mg base N (relS scope sc) k Y := by
  obtain ⟨s, H, Cl, cl, fp, rfl⟩ := h
  refine ⟨C.prog, C.wd, C.kk, C.mg, C.base, C.nn, ?_, C.room, C.calm, rfl, C.nd, C.gd⟩
  rw [← C.scope]
  rfl
theorem bT_ok {scope : Scope} {ifs : List Expr} {Y : Cx} (h : isBlk X scope Y) : PTs Y ifs (bT X scope ifs) := ⟨fun pins s σ H Q I q => pts_w.run pins s σ H Q I (q Y h)⟩
theorem bE_ok {scope : Scope} {Y : Cx} (h : isBlk X scope Y) : PE Y e (bE X scope e) := ⟨fun pins s σ H Q I q => pe_w.run pins s σ H Q I (q Y h)⟩
theorem bG_ok {scope : Scope} {Y : Cx} {x : Str} {tp : Pos} {i : Nat} (C : Ctx Pg w K mg base N sc k X) (hN : N[i]? = some x) (hx : (relS scope sc).names.lookup x = some .local) (h : isBlk X scope Y) : PG Y (.Name x tp) (gName i) := by
  have C' := h.ctx C
  exact pg_name (i := i) (by rw [C'.nn]; exact C.nd) (by rw [C'.nn]; exact hN) (by rw [C'.scope]; exact Or.inl hx) (by rw [C'.scope]; exact Or.inr hx)
/-- what is asked of a comprehension: I holds of what is made so far -/
def LcI (Pg : Program) (w : World) (K : PySem.W.Frag) (mg : Str → Option Value) (base : Heap) (N : List Str) (sc : Scope) (k : Nat) (ρ : List Sl) (i : Nat) (scope : Scope) (ifs : List Expr) (elt : Expr) (ds : List PyData) (P : PyData → Prop) : Prop :=
  ds.length ≤ 100000 ∧ ∃ I : Nat → List PyData → Prop, I 0 [] ∧ (∀ m d acc, ds[m]? = some d → I m acc → ∀ Y : Cx, Ctx Pg w K mg base N (relS scope sc) k Y →
        CN Y ifs (ρ.set i (.dat d)) fun b => (b = true → ∀ Y : Cx, Ctx Pg w K mg base N (relS scope sc) k Y → EN Y elt (ρ.set i (.dat d)) fun y => I (m + 1) (acc ++ [y])) ∧ (b = false → I (m + 1) acc)) ∧ ∀ acc, I ds.length acc → P (.list acc)
theorem lc_readN {elt tg iter : Expr} {ifs : List Expr} {scope : Scope} {i : Nat} (C : Ctx Pg w K mg base N sc k X)
    (h : IN X tg iter ρ fun ds => LcI Pg w K mg base N sc k ρ i scope ifs elt ds P) (G : Gh) (σ : L2.St) (F H : Hp) (E : ES X.K G σ F H ρ) (Q : VK) (q : ∀ ds v F' H', P (.list ds) → Nw G.S F H F' H' → NewL X.K H F' H' ds v → Q v H') :
    tLc (wI X tg iter) (gName i) (bT X scope ifs) (bE X scope elt) [i] σ H Q := by
  have c1 := C.prog; have c2 := C.wd; have c3 := C.kk; have c4 := C.mg; have c5 := C.base; have c6 := C.nn; have c7 := C.scope
  subst c1 c2 c3 c4 c5 c6 c7
  refine h G σ F H E _ ?_
  rintro ds J F1 H1 ⟨hl, I, i0, turn, done⟩ n1 J1 D hD
  have E1 := E.mono n1
  have nD : ¬ inS G.S D := fun z => by
    obtain ⟨o, e⟩ := srcOk_some E1.nw.src z
    rw [hD] at e; cases e
  have nO := E1.wk.newO (o := .lst []) hD
  refine ⟨fun m r H' => r = ds.length - m ∧ m ≤ ds.length ∧ ∃ F' acc xs, Nw G.S F1 H1 F' H' ∧ F' D = none ∧ H' D = some (.lst xs) ∧ DrA X.K F' acc xs ∧ I m acc ∧ acc.length ≤ m, ⟨_, rfl, Nat.zero_le _, F1, [], [], nO, Evl.fresh_back E1.wk.fh hD, upd_same, rfl, i0, Nat.le_refl _⟩, ?_⟩
  rintro m r H' ⟨rfl, hm, F', acc, xs, n2, hF, hH, ra, hI, hal⟩
  by_cases hlt : m < ds.length
  · have hd : ds[m]? = some ds[m] := List.getElem?_eq_getElem hlt
    have jg := J1.go G.S F' H' n2.ff n2.wk m _ hd
    refine Or.inr ⟨jg.1, fun H' => ∃ F' acc xs, Nw G.S F1 H1 F' H' ∧ F' D = none ∧ H' D = some (.lst xs) ∧ DrA X.K F' acc xs ∧ I (m + 1) acc ∧ acc.length ≤ m + 1, ?_, ?_⟩
    · rintro H3 ⟨F3, acc3, xs3, z⟩
      exact ⟨ds.length - (m + 1), by omega, rfl, hlt, F3, acc3, xs3, z⟩
    · intro v H2 hy
      obtain ⟨F2, n3, r3⟩ := jg.2 v H2 hy
      have n4 := n2.trans n3
      have E4 := (E1.mono n4).set (i := i) r3
      have hσ : (wipe σ [i]).set i (some v) = σ.set i (some v) := by
        show (σ.set i none).set i (some v) = _
        rw [List.set_set]
      show wipe ((wipe σ [i]).set i (some v)) [i] = wipe σ [i] ∧ _
      refine ⟨?_, ?_⟩
      · rw [hσ]
        show (σ.set i (some v)).set i none = σ.set i none
        rw [List.set_set]
      · show bT X scope ifs ((wipe σ [i]).set i (some v)) H2 _
        rw [hσ]
        rintro Y hY
        have hK : Y.K = X.K := (hY.ctx C).kk
        have t1 := turn m _ acc hd hI Y (hY.ctx C)
        refine t1.go (G := G) (F := F2) (by rw [hK]; exact E4) ?_
        intro b F5 H5 p5 n5
        cases b with
        | false =>
          refine iteF ⟨F5, acc, xs, n4.trans n5, ?_, ?_, DrA.mono (n3.ff.trans n5.ff) _ ra, p5.2 rfl, by omega⟩
          · rw [n5.old D _ (n3.hh D _ nD hH), n3.old D _ hH]; exact hF
          · exact n5.hh D _ nD (n3.hh D _ nD hH)
        | true =>
          refine iteT ?_
          rintro Z hZ
          have hK2 : Z.K = X.K := (hZ.ctx C).kk
          refine p5.1 rfl Z (hZ.ctx C) G _ F5 H5 (by rw [hK2]; exact E4.mono n5) _ ?_
          intro y u F6 H6 p6 n6 r6
          have n56 := n5.trans n6
          have h6 : H6 D = some (.lst xs) := n56.hh D _ nD (n3.hh D _ nD hH)
          have f6 : F6 D = none := by rw [n56.old D _ (n3.hh D _ nD hH), n3.old D _ hH]; exact hF
          have n7 := n4.trans n56
          refine ⟨xs, h6, by rw [ra.length]; exact Nat.lt_of_lt_of_le (show acc.length < 16777216 by omega) (by decide), F6, acc ++ [y], xs ++ [u], ⟨n7.ff, fun b o z => ?_, fun b o nb z => ?_, n7.old, n7.src.ex fun b o ib z => ?_, n7.sf⟩, f6, upd_same, (DrA.mono (n3.ff.trans n56.ff) _ ra).append ⟨u, [], rfl, by rw [← hK2]; exact r6, rfl⟩, p6, by rw [List.length_append, List.length_singleton]; omega⟩
          · rw [upd_ne (ne_of_none z f6)]; exact n7.fh b o z
          · rw [upd_ne (ne_of_none z hD)]; exact n7.hh b o nb z
          · rw [upd_ne (fun z' : b = D => nD (by rw [← z']; exact ib))]; exact z
  · obtain rfl : m = ds.length := by omega
    refine Or.inl ⟨J1.stop F' H' n2.ff n2.fh, ?_⟩
    have hD0 : H D = none := by
      cases z : H D with
      | none => rfl
      | some o => rw [n1.hh D o nD z] at hD; cases hD
    exact q acc (.ref D) F' H' (done acc hI) (n1.trans n2) ⟨D, xs, rfl, hD0, hF, hH, ra⟩
/-- a new list becomes known -/
theorem NewL.freeze {S : SR} {F H F' H' : Hp} {ds : List PyData} {v : V} (w0 : Wk S F H) (n : Nw S F H F' H') (r : NewL K H F' H' ds v) : ∃ F2, Nw S F H F2 H' ∧ Dr K F2 (.list ds) v := by
  obtain ⟨D, xs, rfl, hD, hF, hH, ra⟩ := r
  have nD : ¬ inS S D := fun z => by
    obtain ⟨o, e⟩ := srcOk_some w0.src z
    rw [hD] at e; cases e
  have xD : Ex F' (upd F' D (.lst xs)) := Ex.new hF
  refine ⟨upd F' D (.lst xs), ⟨n.ff.trans xD, fun b o z => ?_, n.hh, fun b o z => ?_, n.src, fun b ib => ?_⟩, ⟨D, xs, rfl, upd_same, DrA.mono xD _ ra⟩⟩
  · by_cases hb : b = D
    · subst hb; rw [upd_same] at z; cases z; exact hH
    · rw [upd_ne hb] at z; exact n.fh b o z
  · rw [upd_ne (ne_of_none z hD)]; exact n.old b o z
  · rw [upd_ne (fun z' : b = D => nD (by rw [← z']; exact ib))]; exact n.sf b ib
theorem lc_read {elt tg iter : Expr} {ifs : List Expr} {scope : Scope} {i : Nat} (C : Ctx Pg w K mg base N sc k X)
    (h : IN X tg iter ρ fun ds => LcI Pg w K mg base N sc k ρ i scope ifs elt ds P) (G : Gh) (σ : L2.St) (F H : Hp) (E : ES X.K G σ F H ρ) (Q : VK) (q : ∀ d v F' H', P d → Nw G.S F H F' H' → Dr X.K F' d v → Q v H') :
    tLc (wI X tg iter) (gName i) (bT X scope ifs) (bE X scope elt) [i] σ H Q :=
  lc_readN C h G σ F H E Q fun ds v F' H' p n r => by
    obtain ⟨F2, n2, r2⟩ := NewL.freeze E.wk n r
    exact q _ v F2 H' p n2 r2
theorem EN.lc {elt iter : Expr} {ifs : List Expr} {scope : Scope} {x : Str} {tp : Pos} {i : Nat} (C : Ctx Pg w K mg base N sc k X) (ok : blkC N sc scope [(x, i)] = true) (hN : N[i]? = some x) (hx : (relS scope sc).names.lookup x = some .local)
    (hs : ∀ x, foldedSetIterable iter X.env x = pure x) (h : IN X (.Name x tp) iter ρ fun ds => LcI Pg w K mg base N sc k ρ i scope ifs elt ds P) : EN X (.ListComp elt [⟨.Name x tp, iter, ifs, 0⟩] scope pos) ρ P :=
  EN.by (pe_lc (own := [(x, i)]) C.calm (by rw [C.nn]; exact C.nd) pi_w (blkOk_by (by rw [C.nn, C.scope]; exact ok)) (fun s H Cl cl fp => bG_ok C hN hx ⟨s, H, Cl, cl, fp, rfl⟩) (fun s H Cl cl fp => bT_ok ⟨s, H, Cl, cl, fp, rfl⟩) (fun s H Cl cl fp => bE_ok ⟨s, H, Cl, cl, fp, rfl⟩) hs)
    fun G σ F H E Q q => lc_read C h G σ F H E Q q
/-- name = [..] -/
theorem SN.asgLc {elt iter : Expr} {ifs : List Expr} {scope : Scope} {x y : Str} {tp yp spos : Pos} {i j : Nat} (C : Ctx Pg w K mg base N sc k X) (ok : blkC N sc scope [(x, i)] = true) (hN : N[i]? = some x) (hx : (relS scope sc).names.lookup x = some .local)
    (hy : N[j]? = some y) (hyl : sc.names.lookup y = some .local) (hsw : ∀ en : Env, en.scope = sc → swapsWith (.ListComp elt [⟨.Name x tp, iter, ifs, 0⟩] scope pos) (some (.Name y yp)) spos.line en = pure true)
    (hs : ∀ x, foldedSetIterable iter X.env x = pure x) (h : IN X (.Name x tp) iter ρ fun ds => LcI Pg w K mg base N sc k ρ i scope ifs elt ds fun d => κ.nx (ρ.set j (.dat d))) : SN X (.Assign [.Name y yp] (.ListComp elt [⟨.Name x tp, iter, ifs, 0⟩] scope pos) spos) ρ κ :=
  SN.by (ps_setLc (i := j) (own := [(x, i)]) C.calm (by rw [C.nn]; exact C.nd) (by rw [C.nn]; exact hy) (by rw [C.scope]; exact hyl) (hsw _ C.scope) pi_w (blkOk_by (by rw [C.nn, C.scope]; exact ok)) (fun s H Cl cl fp => bG_ok C hN hx ⟨s, H, Cl, cl, fp, rfl⟩) (fun s H Cl cl fp => bT_ok ⟨s, H, Cl, cl, fp, rfl⟩) (fun s H Cl cl fp => bE_ok ⟨s, H, Cl, cl, fp, rfl⟩) hs)
    fun G σ F H E D A => lc_read C h G σ F H E _ fun d v F' H' p n r => A.nx _ _ _ _ p ((E.mono n).set r)

/-! ### a def of the text -/
def startS (N : List Str) (as : List Sl) : List Sl := as ++ List.replicate (N.length - as.length) .no
theorem ArgsR.get {S : SR} {F : Hp} : ∀ {as : List Sl} {vs : List V} {i : Nat} {s : Sl}, ArgsR K S F as vs → as[i]? = some s → ∃ v, vs[i]? = some v ∧ ArgR K S F s v
  | [], _, _, _, _, h => by simp at h
  | a :: as, _, 0, s, ⟨v, r, h1, h2, _⟩, h => by rw [h1]; cases h; exact ⟨v, rfl, h2⟩
  | a :: as, _, i + 1, s, ⟨v, r, h1, _, h3⟩, h => by rw [h1]; exact ArgsR.get (i := i) h3 (by simpa using h)
theorem ES.start {S : SR} {F H : Hp} {as : List Sl} {vs : List V} (W : Wk S F H) (r : ArgsR K S F as vs) (hl : vs.length ≤ N.length) : ES K ⟨S, F, H⟩ (L2.start N vs) F H (startS N as) := by
  have hr := r.length
  have at1 : ∀ (i : Nat) s, (startS N as)[i]? = some s → s = .no ∨ ∃ v, (L2.start N vs)[i]? = some (some v) ∧ ArgR K S F s v := by
    intro i s h
    unfold startS at h
    by_cases hi : i < as.length
    · rw [List.getElem?_append_left hi] at h
      obtain ⟨v, e, q⟩ := r.get h
      refine Or.inr ⟨v, ?_, q⟩
      unfold L2.start
      rw [List.getElem?_append_left (by rw [List.length_map]; omega), List.getElem?_map, e]
      rfl
    · rw [List.getElem?_append_right (by omega)] at h
      have := List.mem_of_getElem? h
      exact Or.inl (List.eq_of_mem_replicate this)
  refine ⟨W.nw, W.src, ?_, fun i s h => ?_, fun i j _ hi _ => ?_⟩
  · unfold L2.start startS
    rw [List.length_append, List.length_map, List.length_replicate, List.length_append, List.length_replicate, hr]
  · rcases at1 i s h with rfl | ⟨v, e, q⟩
    · exact trivial
    · cases s with
      | no => exact trivial
      | dat d => exact ⟨v, e, q⟩
      | own ds => exact q.elim
      | src => obtain ⟨a, c, h1, rfl⟩ := q; exact ⟨a, c, h1, e⟩
      | cel => exact q.elim
  · exfalso
    cases h : (startS N as)[i]? with
    | none => rw [h] at hi; exact hi
    | some s =>
      rw [h] at hi
      rcases at1 i s h with rfl | ⟨v, e, q⟩
      · exact hi
      · cases s with
        | own ds => exact q
        | no => exact hi
        | dat d => exact hi
        | src => exact hi
        | cel => exact hi
theorem okFn {x qual : Str} {f : Addr} {fd : FuncData} {ps : List Str} {W : Wp} (F : Fun K x qual st f fd) (S : FnScope N ps (defScope st)) (hl : ∀ as Q, W as Q → as.length = ps.length)
    (hb : ∀ X : Cx, Ctx Pg w K mg base N (defScope st) k X → (∀ x, X.fn x = true) → ∀ as Q, W as Q → BN X (defBody st) (startS N as) { nx := fun _ => Q .none, rt := Q }) : FnG Pg w K mg base (k + 1) f fd ps (spOf K W) := by
  have hps : ps.length ≤ N.length := by
    have := congrArg List.length S.pre
    rw [List.length_take] at this
    omega
  refine Fun.okG F S ?_ ?_
  · rintro vs H Q E ⟨S', F', as, P', W', r, hw, _⟩
    rw [r.length]
    exact hl as P' hw
  · rintro cdv A ol s H vs Q E hgd hr ⟨S', F', as, P', W', r, hw, q⟩
    have C : Ctx Pg w K mg base N (defScope st) k (cxOf CX0 Pg w K mg base N qual (defScope st) f cdv A ol s H E).nox := ⟨rfl, rfl, rfl, rfl, rfl, rfl, rfl, hr, rfl, rfl, S.nd, hgd⟩
    have E0 : ES K ⟨S', F', H⟩ (L2.start N vs) F' H (startS N as) := ES.start W' r (by rw [r.length, hl as P' hw]; exact hps)
    refine hb _ C (fun _ => rfl) as P' hw _ _ _ _ E0 _ ⟨?_, ?_, ?_, ?_, fun _ _ _ _ z => z.elim⟩
    · intro ρ σ F2 H2 p E2
      exact q _ .non F2 H2 p E2.nw rfl
    · intro d v F2 H2 p n2 r2
      exact q d v F2 H2 p n2 r2
    · exact fun _ _ _ _ z => z.elim
    · exact fun _ _ _ _ z => z.elim
theorem Fd.mk' {x : Str} {f : Addr} {fd : FuncData} {ps : List Str} {W : Wp} (F : FnG Pg w K mg base k f fd ps (spOf K W)) (hm : mg x = some (.ref f)) (hk : PySem.W.keepIn K (.ref f) = true) (hb : Binds K fd ps []) : Fd Pg w K mg base k x W := ⟨⟨f, fd, ps, F, hm, hk, hb⟩⟩
end
end Kt

namespace Kt
open PySem L2 PyProof.Rows
open Evl (Ex)
section
variable {Pg : Program} {w : World} {K : PySem.W.Frag} {mg : Str → Option Value} {base : Heap} {N : List Str} {sc : Scope} {k j : Nat} {X : Cx} {ρ : List Sl} {P : PyData → Prop} {a b c e : Expr} {pos : Pos} {κ : Kn} {st : Stmt} {rest : List Stmt}
/-! ### small steps by shape -/
theorem AddD.i {i j : Int} (h : P (.int (i + j))) : AddD (.int i) (.int j) P := h
theorem AddD.l {x y : List PyData} (hl : x.length + y.length ≤ sizeLine) (h : P (.list (x ++ y))) : AddD (.list x) (.list y) P := ⟨hl, h⟩
theorem SubI.i {i j : Int} (h : P (.int (i - j))) : Int2 (fun _ _ => True) (fun i j => .int (i - j)) (.int i) (.int j) P := ⟨trivial, h⟩
theorem MulD.i {i j : Int} (hm : MulOk i j) (h : P (.int (i * j))) : MulD (.int i) (.int j) P := ⟨hm, h⟩
theorem mul_l {i j : Int} (h1 : -(2 ^ 64) < i) (h2 : i < 2 ^ 64) : MulOk i j := Or.inl (Or.inl ⟨h1, h2⟩)
theorem mul_r {i j : Int} (h1 : -(2 ^ 64) < j) (h2 : j < 2 ^ 64) : MulOk i j := Or.inl (Or.inr ⟨h1, h2⟩)
theorem ModI.i {i j : Int} (h0 : 0 < j) (h : P (.int (i % j))) : Int2 (fun _ j => j ≠ 0) (fun i j => .int (i.fmod j)) (.int i) (.int j) P := ⟨by omega, by show P (.int (i.fmod j)); rw [Int.fmod_eq_emod_of_nonneg i (by omega)]; exact h⟩
theorem DivI.i {i j : Int} (h0 : 0 < j) (hb : j < 2 ^ 200) (h : P (.int (i / j))) : Int2 CDivX (fun i j => .int (i.fdiv j)) (.int i) (.int j) P := ⟨⟨by omega, by
  have : j.natAbs < 2 ^ 200 := by omega
  have h1 := Nat.log2_lt (n := j.natAbs) (k := 200) (by omega)
  have h2 := h1.mpr this
  omega⟩, by show P (.int (i.fdiv j)); rw [Int.fdiv_eq_ediv_of_nonneg i (by omega)]; exact h⟩
theorem PowI.i {i j : Int} (hc : CPow i j) (h : P (.int (i ^ j.toNat))) : Int2 CPow (fun i j => .int (i ^ j.toNat)) (.int i) (.int j) P := ⟨hc, h⟩
theorem Ib.i {g : Int → Int → Bool} {i j : Int} {P : Bool → Prop} (h : P (g i j)) : Ib g (.int i) (.int j) P := h
theorem IxD.l {ds : List PyData} {i : Int} {d : PyData} (e : atI ds i = some d) (h : P d) : IxD (.list ds) (.int i) P := ⟨d, e, h⟩
theorem IxD.t {ds : List PyData} {i : Int} {d : PyData} (e : atI ds i = some d) (h : P d) : IxD (.tuple ds) (.int i) P := ⟨d, e, h⟩
theorem CutD.l {ds : List PyData} {lo hi : Option Int} (h : P (.list (cutD ds lo hi))) : CutD (.list ds) lo hi P := h
theorem shi (i : Int) : SeqAt.shaped (.int i) = true := rfl
theorem shn : SeqAt.shaped .none = true := rfl
/-- a test comes to a bool -/
theorem byB {P : Bool → Prop} (k : Bool) (h1 : k = true → P true) (h2 : k = false → P false) : Tb P k := by cases k <;> first | exact h1 rfl | exact h2 rfl
theorem yes {A B : Prop} (h : A) : (true = true → A) ∧ (true = false → B) := ⟨fun _ => h, fun z => Bool.noConfusion z⟩
theorem noo {A B : Prop} (h : B) : (false = true → A) ∧ (false = false → B) := ⟨fun z => Bool.noConfusion z, fun _ => h⟩
theorem Eqi {i j : Int} {P : Bool → Prop} (h1 : i = j → P true) (h2 : i ≠ j → P false) : EqT (.int i) (.int j) P := ⟨rfl, rfl, by
  show P (i == j)
  by_cases h : i = j
  · rw [beq_iff_eq.mpr h]; exact h1 h
  · rw [beq_eq_false_iff_ne.mpr h]; exact h2 h⟩
theorem Nei {i j : Int} {P : Bool → Prop} (h1 : i ≠ j → P true) (h2 : i = j → P false) : NeT (.int i) (.int j) P := ⟨rfl, rfl, by
  show P (!(i == j))
  by_cases h : i = j
  · rw [beq_iff_eq.mpr h]; exact h2 h
  · rw [beq_eq_false_iff_ne.mpr h]; exact h1 h⟩
/-- the same told by data: two of the same are equal -/
theorem shaped_same {x y : PyData} {P : Bool → Prop} (hx : SeqAt.shaped x = true) (hy : SeqAt.shaped y = true) (h : ∀ r, PyData.eqv x y = r → P r) : EqT x y P := ⟨hx, hy, h _ rfl⟩
theorem Ibd {c : Int → Int → Prop} [∀ i j, Decidable (c i j)] {i j : Int} {P : Bool → Prop} (h1 : c i j → P true) (h2 : ¬ c i j → P false) : Ib (fun i j => decide (c i j)) (.int i) (.int j) P := by
  show P (decide (c i j))
  by_cases h : c i j
  · rw [decide_eq_true h]; exact h1 h
  · rw [decide_eq_false h]; exact h2 h
/-- an int as a test -/
theorem TN.trI {P : Bool → Prop} (he : ∀ whole, isTrue e X.env whole = (do let v ← whole; standAt e.pos; holding [v] (truthy v))) (h : EN X e ρ fun d => ∃ i : Int, d = .int i ∧ Tb P (i != 0)) : TN X e ρ P :=
  TN.by (pt_truth pe_w he) fun G σ F H E Q q => h _ σ F H E _ fun d v F' H' ⟨i, e1, p⟩ n r => by
    subst e1
    obtain rfl : v = .int i := r
    exact ⟨_, rfl, q _ F' H' p n⟩
/-- a = e1, b = e2 on one line -/
theorem SN.par {i j : Nat} {x y : Str} {px py pt pt2 : Pos} {kt k2} (C : Ctx Pg w K mg base N sc k X) (hi : N[i]? = some x) (hj : N[j]? = some y) (hij : i ≠ j) (hx : sc.names.lookup x = some .local) (hy : sc.names.lookup y = some .local)
    (hw : ∀ en : Env, en.scope = sc → swappedStores [.Tuple [.Name x px, .Name y py] kt pt] (.Tuple [a, b] k2 pt2) en = pure (some [x, y])) (hs : swapsWithSole [.Tuple [.Name x px, .Name y py] kt pt] (.Tuple [a, b] k2 pt2) pos.line X.env = pure false)
    (he : starEach [a, b] X.env = (false, eval a X.env) :: starEach [b] X.env) (he2 : starEach [b] X.env = (false, eval b X.env) :: starEach [] X.env)
    (h : EN X a ρ fun d => EN X b ρ fun d2 => κ.nx ((ρ.set i (.dat d)).set j (.dat d2))) : SN X (.Assign [.Tuple [.Name x px, .Name y py] kt pt] (.Tuple [a, b] k2 pt2) pos) ρ κ :=
  SN.by (ps_par (i := i) (j := j) C.calm (by rw [C.nn]; exact C.nd) (by rw [C.nn]; exact hi) (by rw [C.nn]; exact hj) hij (by rw [C.scope]; exact hx) (by rw [C.scope]; exact hy) (pa_cons pe_w (pa_cons pe_w pa_nil he2) he) (hw _ C.scope) hs)
    fun G σ F H E D A => two (R := fun v u H2 => ∃ v' w', [v, u] = [v', w'] ∧ D.nx ((σ.set i (some v')).set j (some w')) H2) h E fun d d2 v u F' H' p n r1 r2 => ⟨v, u, rfl, A.nx _ _ _ _ p (((E.mono n).set r1).set r2)⟩
/-- x = x op e, by the same slot -/
theorem SN.augAdd {i : Nat} {x : Str} {p2 : Pos} {m : Int} (C : Ctx Pg w K mg base N sc k X) (Fx : ∀ x, X.fn x = true) (hN : N[i]? = some x) (hx : L2.Loc sc x) (hi : ρ[i]? = some (.dat (.int m))) (h : EN X e ρ fun d => ∃ n, d = .int n ∧ κ.nx (ρ.set i (.dat (.int (m + n))))) : SN X (.AugAssign (.Name x p2) .Add e pos) ρ κ :=
  SN.by (ps_aug (i := i) (by rw [C.nn]; exact C.nd) (by rw [C.nn]; exact hN) (by unfold L2.Loc; rw [C.scope]; exact hx) pe_w ip_add (.inl (Fx x))) fun G σ F H E D A => by
    obtain ⟨v, h1, h2⟩ := E.dat hi
    obtain rfl : v = .int m := h2
    refine ⟨_, h1, h G σ F H E _ ?_⟩
    rintro d v F' H' ⟨n, rfl, p⟩ nw r
    obtain rfl : v = .int n := r
    exact ⟨m, n, rfl, rfl, A.nx _ _ _ _ p ((E.mono nw).set rfl)⟩
end
/-- the built-ins by their names, none of them bound by the text -/
structure Blt (mg : Str → Option Value) : Prop where
  len : mg "len" = none
  repr : mg "repr" = none
  int : mg "int" = none
  abs : mg "abs" = none
  range : mg "range" = none
  list : mg "list" = none
  tuple : mg "tuple" = none
  isi : mg "isinstance" = none
  bool : mg "bool" = none
  max : mg "max" = none
  min : mg "min" = none
  all : mg "all" = none
  str : mg "str" = none
  sorted : mg "sorted" = none
  enumerate : mg "enumerate" = none
  dict : mg "dict" = none
  sum : mg "sum" = none
  zip : mg "zip" = none
  any : mg "any" = none
  set : mg "set" = none
  reversed : mg "reversed" = none
end Kt

namespace Kt
open PySem L2 PyProof.Rows
open Evl (Ex)
section
variable {Pg : Program} {w : World} {K : PySem.W.Frag} {mg : Str → Option Value} {base : Heap} {N : List Str} {sc : Scope} {k j : Nat} {X : Cx} {ρ : List Sl} {P : PyData → Prop} {a b c e : Expr} {pos : Pos} {κ : Kn} {st : Stmt} {rest : List Stmt}
theorem Ctx.u65 (C : Ctx Pg w K mg base N sc k X) : X.A.units + 65 < cLine := by have := C.room.un; omega
/-- x in a list of data -/
def InD (x y : PyData) (P : Bool → Prop) : Prop := match y with
  | .list ds => SeqAt.shaped x = true ∧ SeqAt.shaped (.list ds) = true ∧ P (ds.any fun z => PyData.eqv z x)
  | _ => False
theorem TN.inL {P : Bool → Prop} (C : Ctx Pg w K mg base N sc k X) (hm : behindInMarks .In b = false) (h : EN X a ρ fun x => EN X b ρ fun y => InD x y P) : TN X (.Compare a [.In] [b] pos) ρ P :=
  TN.cmp (op_inD C.u65) hm (h.mono fun x h => h.mono fun y h => fun S F H W v u r1 r2 Q q => by
    unfold InD at h
    split at h
    · exact ⟨x, _, Dr.dp W.fh x (SeqAt.canLay_of_shaped h.1) r1, Dr.dp W.fh _ (SeqAt.canLay_of_shaped h.2.1) r2, h.1, h.2.1, q (.bool _) _ F H ⟨_, rfl, h.2.2⟩ W.nw rfl⟩
    · exact h.elim)
theorem TN.ninL {P : Bool → Prop} (C : Ctx Pg w K mg base N sc k X) (hm : behindInMarks .NotIn b = false) (h : EN X a ρ fun x => EN X b ρ fun y => InD x y fun k => P (!k)) : TN X (.Compare a [.NotIn] [b] pos) ρ P :=
  TN.cmp (op_notInD C.u65) hm (h.mono fun x h => h.mono fun y h => fun S F H W v u r1 r2 Q q => by
    unfold InD at h
    split at h
    · exact ⟨x, _, Dr.dp W.fh x (SeqAt.canLay_of_shaped h.1) r1, Dr.dp W.fh _ (SeqAt.canLay_of_shaped h.2.1) r2, h.1, h.2.1, q (.bool _) _ F H ⟨_, rfl, h.2.2⟩ W.nw rfl⟩
    · exact h.elim)
/-- x in a tuple of flat things (ints here) -/
def InT (x y : PyData) (P : Bool → Prop) : Prop := ∃ (i : Int) (ns : List Int), x = .int i ∧ y = .tuple (ns.map PyData.int) ∧ P (decide (i ∈ ns))
theorem dr_ints {F : Hp} : ∀ {ns : List Int} {vs : List V}, DrA K F (ns.map PyData.int) vs → vs = ns.map V.int
  | [], _, h => h
  | n :: ns, _, ⟨v, r, h1, h2, h3⟩ => by rw [h1, dr_ints h3, show v = V.int n from h2]; rfl
theorem inV_ints (i : Int) (ns : List Int) : inV (.int i) (ns.map V.int) = decide (i ∈ ns) := by
  induction ns with
  | nil => rfl
  | cons n r ih =>
    show (eqV (.int n) (.int i) || inV (.int i) (r.map V.int)) = decide (i ∈ n :: r)
    rw [ih]
    show ((n == i) || decide (i ∈ r)) = decide (i ∈ n :: r)
    by_cases h : n = i
    · subst h; simp
    · have : i ≠ n := fun z => h z.symm
      simp [h, this]
theorem flat_ints (ns : List Int) : (ns.map V.int).all flatV = true := by
  induction ns with
  | nil => rfl
  | cons n r ih => exact ih
theorem TN.inT {P : Bool → Prop} (hm : behindInMarks .In b = false) (h : EN X a ρ fun x => EN X b ρ fun y => InT x y P) : TN X (.Compare a [.In] [b] pos) ρ P :=
  TN.cmp op_in_seq hm (h.mono fun x h => h.mono fun y ⟨i, ns, e1, e2, p⟩ => fun S F H W v u r1 r2 Q q => by
    subst e1 e2
    obtain ⟨z, xs, rfl, g1, g2⟩ := r2
    obtain rfl := dr_ints g2
    obtain rfl : v = V.int i := r1
    refine ⟨z, _, rfl, Or.inr (Evl.ex_t W.fh g1), rfl, flat_ints ns, ?_⟩
    refine q (.bool (decide (i ∈ ns))) _ F H ⟨_, rfl, p⟩ W.nw ?_
    rw [if_neg Bool.false_ne_true, inV_ints]
    rfl)
theorem TN.ninT {P : Bool → Prop} (hm : behindInMarks .NotIn b = false) (h : EN X a ρ fun x => EN X b ρ fun y => InT x y fun k => P (!k)) : TN X (.Compare a [.NotIn] [b] pos) ρ P :=
  TN.cmp op_notIn_seq hm (h.mono fun x h => h.mono fun y ⟨i, ns, e1, e2, p⟩ => fun S F H W v u r1 r2 Q q => by
    subst e1 e2
    obtain ⟨z, xs, rfl, g1, g2⟩ := r2
    obtain rfl := dr_ints g2
    obtain rfl : v = V.int i := r1
    refine ⟨z, _, rfl, Or.inr (Evl.ex_t W.fh g1), rfl, flat_ints ns, ?_⟩
    refine q (.bool (!decide (i ∈ ns))) _ F H ⟨_, rfl, p⟩ W.nw ?_
    rw [if_pos rfl, inV_ints]
    rfl)
/-- xs.index(e), there -/
theorem EN.index {p2 p3 : Pos} (C : Ctx Pg w K mg base N sc k X)
    (h : EN X a ρ fun x => ∃ ds : List PyData, x = .list ds ∧ EN X b ρ fun y => ∃ (j : Nat) (z : PyData), SeqAt.shaped (.list ds) = true ∧ SeqAt.shaped y = true ∧ ds[j]? = some z ∧ PyData.eqv z y = true ∧ (∀ (m : Nat) (z' : PyData), m < j → ds[m]? = some z' → PyData.eqv z' y = false) ∧ P (.int (j : Nat)))
    (hbase : attributeBase a "index" X.env (eval a X.env) = eval a X.env)
    (hfew : ((backTo p3 (starEach [b] X.env)).all (fun x => !x.1) && (backToKw p3 (keywordEach [] X.env)).all (fun x => x.1.isSome) && decide ([b].length + ([] : List Keyword).length + (if ([] : List Keyword).isEmpty then 0 else 1) < 30)) = true)
    (hline : (p2.endLine == p3.line) = true) (he : starEach [b] X.env = (false, eval b X.env) :: starEach [] X.env) (hplain : (backTo p3 (starEach [] X.env)).any (·.1) = false) : EN X (.Call (.Attribute a "index" p2) [b] [] p3) ρ P :=
  EN.by (pe_bm PySem.F.plainAttrs_list PySem.F.slot_list_index PySem.F.type_list_index (mt_indexD C.u65) pe_w (pa_cons pe_w pa_nil he) hbase hfew hline he hplain) fun G σ F H E Q q =>
    h G σ F H E _ fun x v F1 H1 ⟨ds, e0, p1⟩ n1 r1 => by
      subst e0
      obtain ⟨l, xs, rfl, g1, g2⟩ := r1
      refine ⟨Or.inl ⟨rfl, xs, SqL.of (n1.fh _ _ g1)⟩, p1 G σ F1 H1 (E.mono n1) _ ?_⟩
      rintro y u F2 H2 ⟨j, z, s1, s2, e1, e2, e3, p⟩ n2 r2
      exact ⟨l, u, y, ds, j, z, rfl, rfl, Dr.dp n2.fh _ (SeqAt.canLay_of_shaped s1) ⟨l, xs, rfl, n2.ff _ _ g1, DrA.mono n2.ff _ g2⟩, Dr.dp n2.fh _ (SeqAt.canLay_of_shaped s2) r2, s1, s2, e1, e2, e3, q _ _ F2 H2 p (n1.trans n2) rfl⟩
theorem EN.listRg1 {npos p1 p2 : Pos} (C : Ctx Pg w K mg base N sc k X) (hg : Gi sc "list") (hm : mg "list" = none) (hg2 : Gi sc "range") (hm2 : mg "range" = none)
    (na : starEach [a] X.env = (false, eval a X.env) :: starEach [] X.env) (nb : starEach [.Call (.Name "range" p1) [a] [] p2] X.env = (false, eval (.Call (.Name "range" p1) [a] [] p2) X.env) :: starEach [] X.env)
    (h : EN X a ρ fun x => ∃ n, x = .int n ∧ 0 ≤ n ∧ n ≤ 16777216 ∧ P (.list (rngD 0 n))) : EN X (.Call (.Name "list" npos) [.Call (.Name "range" p1) [a] [] p2] [] pos) ρ P :=
  EN.by (pe_listRg C.calm (by unfold Gl Env.kindOf; rw [C.scope]; exact hg) (by rw [C.mg]; exact hm) (prg_1 (by unfold Gl Env.kindOf; rw [C.scope]; exact hg2) (by rw [C.mg]; exact hm2) pe_w na) nb) fun G σ F H E Q q =>
    h G σ F H E _ fun x v F1 H1 ⟨n, e1, h1, h2, p⟩ n1 r1 => by
      subst e1
      obtain rfl : v = V.int n := r1
      refine ⟨n, rfl, RgOk.of_le (by decide) h2 (by decide) h1, fun z hz => ?_⟩
      refine q _ _ _ _ p (n1.trans (n1.wk.new hz)) ⟨z, rgV 0 n, rfl, upd_same, ?_⟩
      unfold rngD rgV
      have := DrA.ints (K := X.K) (F := upd F1 z (.lst (rgV 0 n))) ((List.range (n - 0).toNat).map fun i => (0 : Int) + (i : Nat))
      rw [List.map_map, List.map_map] at this
      exact this
theorem EN.maxL {npos : Pos} (C : Ctx Pg w K mg base N sc k X) (hg : Gi sc "max") (hm : mg "max" = none)
    (h : EN X e ρ fun d => ∃ ns : List Int, d = .list (ns.map PyData.int) ∧ 0 < ns.length ∧ ∀ m, m ∈ ns → (∀ y, y ∈ ns → y ≤ m) → P (.int m)) (he : starEach [e] X.env = (false, eval e X.env) :: starEach [] X.env) (hpl : (backTo pos (starEach [] X.env)).any (·.1) = false) : EN X (.Call (.Name "max" npos) [e] [] pos) ρ P :=
  EN.callB C (cr_max C.calm) hg hm (by decide +kernel) (LN.cons he (h.mono fun d hd => LN.nil (by
    rintro S F H w vs ⟨v, r, rfl, h1, h2⟩ Q q
    obtain rfl : r = [] := h2
    obtain ⟨ns, rfl, hl, p⟩ := hd
    obtain ⟨z, xs, rfl, g1, g2⟩ := h1
    obtain rfl := dr_ints g2
    exact ⟨z, ns, rfl, SqL.of (w.fh _ _ g1), hl, fun m h1 h2 => q _ _ F H (p m h1 h2) w.nw rfl⟩))) he hpl
theorem EN.minL {npos : Pos} (C : Ctx Pg w K mg base N sc k X) (hg : Gi sc "min") (hm : mg "min" = none)
    (h : EN X e ρ fun d => ∃ ns : List Int, d = .list (ns.map PyData.int) ∧ 0 < ns.length ∧ ∀ m, m ∈ ns → (∀ y, y ∈ ns → m ≤ y) → P (.int m)) (he : starEach [e] X.env = (false, eval e X.env) :: starEach [] X.env) (hpl : (backTo pos (starEach [] X.env)).any (·.1) = false) : EN X (.Call (.Name "min" npos) [e] [] pos) ρ P :=
  EN.callB C (cr_min C.calm) hg hm (by decide +kernel) (LN.cons he (h.mono fun d hd => LN.nil (by
    rintro S F H w vs ⟨v, r, rfl, h1, h2⟩ Q q
    obtain rfl : r = [] := h2
    obtain ⟨ns, rfl, hl, p⟩ := hd
    obtain ⟨z, xs, rfl, g1, g2⟩ := h1
    obtain rfl := dr_ints g2
    exact ⟨z, ns, rfl, SqL.of (w.fh _ _ g1), hl, fun m h1 h2 => q _ _ F H (p m h1 h2) w.nw rfl⟩))) he hpl
theorem EN.gcd {x : Str} {npos : Pos} (C : Ctx Pg w K mg base N sc k X) (hg : Gi sc x) (hm : mg x = some (.builtin "math.gcd")) (hdb : (x == ("__debug__" : Str)) = false)
    (h : EN X a ρ fun d => EN X b ρ fun d2 => ∃ i j : Int, d = .int i ∧ d2 = .int j ∧ P (.int ((Nat.gcd i.natAbs j.natAbs : Nat) : Int))) (he : starEach [a, b] X.env = (false, eval a X.env) :: starEach [b] X.env) (he2 : starEach [b] X.env = (false, eval b X.env) :: starEach [] X.env) (hpl : (backTo pos (starEach [b] X.env)).any (·.1) = false) : EN X (.Call (.Name x npos) [a, b] [] pos) ρ P :=
  EN.by (pe_callBfun cr_gcd (by unfold Gl Env.kindOf; rw [C.scope]; exact hg) (by rw [C.mg]; exact hm) (pa_cons pe_w (pa_cons pe_w pa_nil he2) he) hdb he hpl) fun G σ F H E Q q =>
    two (R := fun v u H2 => ∃ a b : Int, [v, u] = [.int a, .int b] ∧ Q (.int ((Nat.gcd a.natAbs b.natAbs : Nat) : Int)) H2) h E fun x y v u F' H' ⟨i, j, e1, e2, p⟩ n r1 r2 => by
      subst e1 e2
      obtain rfl : v = V.int i := r1
      obtain rfl : u = V.int j := r2
      exact ⟨i, j, rfl, q _ _ F' H' p n rfl⟩
/-- a constant of the text: a plain int -/
theorem EN.globI {x : Str} {i : Int} {t : Tok} (C : Ctx Pg w K mg base N sc k X) (hg : Gi sc x) (hm : mg x = some (.int i t)) (p : P (.int i)) (hd : (x == ("__debug__" : Str)) = false := by decide) : EN X (.Name x pos) ρ P :=
  EN.con (d := .int i) (pe_glob (v := .int i) (by unfold Gl Env.kindOf; rw [C.scope]; exact hg) (by rw [C.mg]; exact hm) ⟨t, rfl⟩ hd) (fun _ => rfl) p
end
end Kt

set_option autoImplicit false
namespace Kt
open PySem L2 PyProof.Rows
/-! ### texts of data are short -/
mutual
def wt : PyData → Nat
  | .none => 4
  | .bool _ => 5
  | .int _ => 1922
  | .str x => (reprText x).length
  | .list xs => wtA xs + 2
  | .tuple xs => wtA xs + 3
  | .dict _ => 100000000
def wtA : List PyData → Nat
  | [] => 0
  | x :: xs => wt x + 2 + wtA xs
end
theorem textFrom_le : ∀ (ts : List Str) (k : Nat) (acc : Str), (textFrom k acc ts).length ≤ acc.length + (ts.map fun t => t.length + 2).sum
  | [], _, acc => by simp [textFrom]
  | t :: r, k, acc => by
    unfold textFrom
    refine Nat.le_trans (textFrom_le r _ _) ?_
    rw [List.map_cons, List.sum_cons]
    have e0 : (Str.ofString ", ").length = 2 := by decide +kernel
    have e1 : (Str.ofString "").length = 0 := by decide +kernel
    split
    · rw [strLen_append, strLen_append, e0]; omega
    · rw [strLen_append, strLen_append, e1]; omega
theorem join_le : ∀ (ts : List Str), (Str.join ", " ts).length ≤ (ts.map fun t => t.length + 2).sum
  | [] => by simp [Str.join]; decide
  | [t] => by simp [Str.join]
  | t :: u :: r => by
    show (t ++ ", " ++ Str.join ", " (u :: r)).length ≤ _
    rw [strLen_append, strLen_append, List.map_cons, List.sum_cons]
    have := join_le (u :: r)
    have : ((", " : Str)).length = 2 := by decide +kernel
    omega
mutual
theorem shown_le : ∀ d : PyData, d.showable = true → d.hasDict = false → d.shown.length ≤ wt d
  | .none, _, _ => by show ("None" : Str).length ≤ 4; decide +kernel
  | .bool b, _, _ => by cases b <;> decide +kernel
  | .int i, h, _ => by
    have h1 : i.natAbs.log2 < 1920 := of_decide_eq_true h
    have h2 := int_text_length_le (a := i) (k := 1920) (by omega) h1
    show (Str.ofString (toString i)).length ≤ 1922
    rw [PySem.ofString_length]
    omega
  | .str x, _, _ => Nat.le_refl _
  | .list xs, h, g => by
    have := shownA_le xs h g
    show (textFrom 0 "[" (PyData.shownAll xs) ++ "]").length ≤ wtA xs + 2
    rw [strLen_append]
    have h2 := textFrom_le (PyData.shownAll xs) 0 "["
    have e1 : ("[" : Str).length = 1 := by decide +kernel
    have e2 : ("]" : Str).length = 1 := by decide +kernel
    omega
  | .tuple xs, h, g => by
    have := shownA_le xs h g
    have h2 := join_le (PyData.shownAll xs)
    show (("(" : Str) ++ Str.join ", " (PyData.shownAll xs) ++ (if (PyData.shownAll xs).length == 1 then ",)" else ")" : String)).length ≤ wtA xs + 3
    rw [strLen_append, strLen_append]
    have e1 : ("(" : Str).length = 1 := by decide +kernel
    have e2 : (Str.ofString (if (PyData.shownAll xs).length == 1 then ",)" else ")" : String)).length ≤ 2 := by split <;> decide +kernel
    omega
  | .dict _, _, g => by cases (show true = false from g)
theorem shownA_le : ∀ ds : List PyData, PyData.showableAll ds = true → PyData.hasDictAll ds = false → ((PyData.shownAll ds).map fun t => t.length + 2).sum ≤ wtA ds
  | [], _, _ => Nat.le_refl _
  | d :: ds, h, g => by
    have h' : (d.showable && PyData.showableAll ds) = true := h
    have g' : (d.hasDict || PyData.hasDictAll ds) = false := g
    rw [Bool.and_eq_true] at h'
    rw [Bool.or_eq_false_iff] at g'
    have a := shown_le d h'.1 g'.1
    have b := shownA_le ds h'.2 g'.2
    show ((d.shown :: PyData.shownAll ds).map fun t => t.length + 2).sum ≤ wt d + 2 + wtA ds
    rw [List.map_cons, List.sum_cons]
    omega
end
theorem Rp.of {d : PyData} (h1 : d.showable = true) (h2 : d.hasDict = false) (h3 : d.depth ≤ 40) (h4 : wt d ≤ 16777216) : Rp d := ⟨h1, h2, h3, Nat.le_trans (shown_le d h1 h2) h4⟩
/-! ### lists of ints -/
def il (ns : List Int) : List PyData := ns.map PyData.int
theorem il_len (ns : List Int) : (il ns).length = ns.length := List.length_map ..
theorem il_lay : ∀ ns : List Int, PyData.canLayAll0 (il ns) = true
  | [] => rfl
  | _ :: r => il_lay r
theorem il_depth : ∀ ns : List Int, PyData.depthAll (il ns) = 0
  | [] => rfl
  | _ :: r => by show max 0 (PyData.depthAll (il r)) = 0; rw [il_depth r]; rfl
theorem il_shaped (ns : List Int) : SeqAt.shaped (.list (il ns)) = true := by
  show (PyData.canLayAll0 (il ns) && decide (PyData.depthAll (il ns) + 1 ≤ 64)) = true
  rw [il_lay, il_depth]; rfl
theorem il_shapedT (ns : List Int) : SeqAt.shaped (.tuple (il ns)) = true := il_shaped ns
theorem il_showable : ∀ ns : List Int, (∀ n ∈ ns, n.natAbs < 2 ^ 1900) → PyData.showableAll (il ns) = true
  | [], _ => rfl
  | n :: r, h => by
    show (decide (n.natAbs.log2 < 1920) && PyData.showableAll (il r)) = true
    have h1 := h n List.mem_cons_self
    have h2 : n.natAbs.log2 < 1920 := by
      by_cases h0 : n.natAbs = 0
      · rw [h0]; decide
      · have := (Nat.log2_lt h0 (k := 1900)).mpr h1
        omega
    rw [decide_eq_true h2, il_showable r fun m hm => h m (List.mem_cons_of_mem _ hm)]
    rfl
theorem il_noDict : ∀ ns : List Int, PyData.hasDictAll (il ns) = false
  | [] => rfl
  | _ :: r => il_noDict r
theorem il_wt : ∀ ns : List Int, wtA (il ns) = 1924 * ns.length
  | [] => rfl
  | n :: r => by
    show 1922 + 2 + wtA (il r) = _
    rw [il_wt r, List.length_cons]; omega
theorem il_rp {ns : List Int} (h : ∀ n ∈ ns, n.natAbs < 2 ^ 1900) (hl : ns.length ≤ 5000) : Rp (.list (il ns)) :=
  Rp.of (il_showable ns h) (il_noDict ns) (by show PyData.depthAll (il ns) + 1 ≤ 40; rw [il_depth]; decide) (by show wtA (il ns) + 2 ≤ _; rw [il_wt]; omega)
theorem il_rpT {ns : List Int} (h : ∀ n ∈ ns, n.natAbs < 2 ^ 1900) (hl : ns.length ≤ 5000) : Rp (.tuple (il ns)) :=
  Rp.of (il_showable ns h) (il_noDict ns) (by show PyData.depthAll (il ns) + 1 ≤ 40; rw [il_depth]; decide) (by show wtA (il ns) + 3 ≤ _; rw [il_wt]; omega)
theorem il_any (i : Int) : ∀ ns : List Int, ((il ns).any fun z => PyData.eqv z (.int i)) = decide (i ∈ ns)
  | [] => rfl
  | n :: r => by
    show ((n == i) || (il r).any fun z => PyData.eqv z (.int i)) = _
    rw [il_any i r]
    by_cases h : n = i
    · subst h; simp
    · have : i ≠ n := fun z => h z.symm
      simp [h, this]
theorem il_at {ns : List Int} {i : Int} {n : Int} (h : atI ns i = some n) : atI (il ns) i = some (.int n) := by
  unfold atI at h ⊢
  rw [il_len]
  cases e : ixN ns.length i with
  | none => rw [e] at h; cases h
  | some j =>
    rw [e] at h
    show (il ns)[j]? = _
    have h' : ns[j]? = some n := h
    unfold il
    rw [List.getElem?_map, h']
    rfl
theorem il_get {ns : List Int} {j : Nat} {n : Int} (h : ns[j]? = some n) : (il ns)[j]? = some (.int n) := by unfold il; rw [List.getElem?_map, h]; rfl
theorem il_append (a b : List Int) : il (a ++ b) = il a ++ il b := List.map_append ..
theorem il_eqv : ∀ (a b : List Int), PyData.eqvAll (il a) (il b) = decide (a = b)
  | [], [] => rfl
  | [], _ :: _ => rfl
  | _ :: _, [] => rfl
  | x :: a, y :: b => by
    show ((x == y) && PyData.eqvAll (il a) (il b)) = _
    rw [il_eqv a b]
    by_cases h : x = y
    · subst h; simp
    · simp [h]
theorem rngD_il (lo hi : Int) : rngD lo hi = il ((List.range (hi - lo).toNat).map fun i => lo + (i : Nat)) := by
  unfold rngD il
  rw [List.map_map]
  rfl
theorem atI_neg {α : Type} {xs : List α} {k : Nat} {v : α} (h1 : 1 ≤ k) (h2 : k ≤ xs.length) (h : xs[xs.length - k]? = some v) : atI xs (-(k : Int)) = some v := by
  unfold atI ixN
  rw [if_neg (by omega), if_pos (by omega)]
  show xs[(-(k : Int) + xs.length).toNat]? = some v
  rw [show (-(k : Int) + (xs.length : Int)).toNat = xs.length - k by omega]
  exact h
theorem rpI {i : Int} (h : i.natAbs < 2 ^ 1900) : Rp (.int i) := by
  have := il_showable [i] (by intro n hn; rw [List.mem_singleton.mp hn]; exact h)
  have h1 : (PyData.int i).showable = true := by
    have h2 : ((PyData.int i).showable && PyData.showableAll []) = true := this
    rw [Bool.and_eq_true] at h2
    exact h2.1
  exact Rp.of h1 rfl (by show 0 ≤ 40; decide) (by show 1922 ≤ 16777216; decide)
theorem rpN : Rp .none := Rp.of rfl rfl (by decide) (by decide)
theorem InI {i : Int} {ns : List Int} {P : Bool → Prop} (h1 : i ∈ ns → P true) (h2 : i ∉ ns → P false) : InD (.int i) (.list (il ns)) P := ⟨rfl, il_shaped ns, by
  rw [il_any]
  by_cases h : i ∈ ns
  · rw [decide_eq_true h]; exact h1 h
  · rw [decide_eq_false h]; exact h2 h⟩
theorem InTI {i : Int} {ns : List Int} {P : Bool → Prop} (h1 : i ∈ ns → P true) (h2 : i ∉ ns → P false) : InT (.int i) (.tuple (il ns)) P := ⟨i, ns, rfl, rfl, by
  by_cases h : i ∈ ns
  · rw [decide_eq_true h]; exact h1 h
  · rw [decide_eq_false h]; exact h2 h⟩
theorem SeqD.l {ds : List PyData} {P : List PyData → Prop} (h : P ds) : SeqD (.list ds) P := h
theorem SeqD.t {ds : List PyData} {P : List PyData → Prop} (h : P ds) : SeqD (.tuple ds) P := h
def rg (n : Int) : List Int := (List.range n.toNat).map fun (i : Nat) => (i : Int)
theorem rng0 (n : Int) : rngD 0 n = il (rg n) := by
  rw [rngD_il, Int.sub_zero]
  unfold rg
  congr 1
  funext
  simp
theorem rg_len (n : Int) : (rg n).length = n.toNat := by unfold rg; rw [List.length_map, List.length_range]
theorem rng_get {lo hi : Int} {m : Nat} {d : PyData} (h : (rngD lo hi)[m]? = some d) : d = .int (lo + m) ∧ lo + (m : Int) < hi := by
  unfold rngD at h
  rw [List.getElem?_map] at h
  by_cases hm : m < (hi - lo).toNat
  · rw [List.getElem?_range hm] at h
    cases h
    exact ⟨rfl, by omega⟩
  · rw [List.getElem?_eq_none (by rw [List.length_range]; omega)] at h
    cases h
theorem rng0_get {n : Int} {m : Nat} {d : PyData} (h : (rngD 0 n)[m]? = some d) : d = .int m ∧ (m : Int) < n := by
  obtain ⟨h1, h2⟩ := rng_get h
  rw [Int.zero_add] at h1 h2
  exact ⟨h1, h2⟩
theorem rng_len (lo hi : Int) : (rngD lo hi).length = (hi - lo).toNat := by unfold rngD; rw [List.length_map, List.length_range]
theorem rg_get {n : Int} {m : Nat} {d : PyData} (h : (il (rg n))[m]? = some d) : d = .int m ∧ (m : Int) < n := by
  rw [← rng0] at h
  exact rng0_get h
theorem rg_take (n : Int) (m : Nat) (h : (m : Int) < n) : (rg n).take (m + 1) = (rg n).take m ++ [(m : Int)] := by
  rw [List.take_add_one]
  unfold rg
  rw [List.getElem?_map, List.getElem?_range (by omega)]
  rfl
theorem rg_take_all (n : Int) : (rg n).take n.toNat = rg n := List.take_of_length_le (by rw [rg_len]; exact Nat.le_refl _)
end Kt

set_option autoImplicit false
namespace Kt
open PySem L2 PyProof.Rows
open Evl (Ex)
/-! ### the source of draws -/
theorem srcK_get (c : Addr) (l m t : Int) : valV (srcK c l m t) (Sum.inr "cells") = some (.ref c) ∧ valV (srcK c l m t) (Sum.inr "left") = some (.int l) ∧ valV (srcK c l m t) (Sum.inr "mixed") = some (.int m) ∧ valV (srcK c l m t) (Sum.inr "turn") = some (.int t) := ⟨rfl, rfl, rfl, rfl⟩
theorem srcK_left (c : Addr) (l m t v : Int) : putK (srcK c l m t) (Sum.inr "left") (.int v) = srcK c v m t := rfl
theorem srcK_turn (c : Addr) (l m t v : Int) : putK (srcK c l m t) (Sum.inr "turn") (.int v) = srcK c l m v := rfl
section
variable {Pg : Program} {w : World} {K : PySem.W.Frag} {mg : Str → Option Value} {base : Heap} {N : List Str} {sc : Scope} {k j : Nat} {X : Cx} {ρ : List Sl} {P : PyData → Prop} {a b e : Expr} {pos : Pos} {κ : Kn} {st : Stmt} {rest : List Stmt}
theorem Nw.atS {s c : Addr} {F H : Hp} {o : HO} {p : Addr} (W : Wk (some (s, c)) F H) (hp : p = s ∨ p = c) (h : SrcAt s c (upd H p o)) : Nw (some (s, c)) F H F (upd H p o) := by
  refine ⟨Ex.refl F, fun a u z => ?_, fun a u n z => ?_, fun _ _ _ => rfl, h, W.sf⟩
  · have : a ≠ p := fun q => by
      have := W.sf a (by rw [q]; exact hp)
      rw [this] at z; cases z
    rw [upd_ne this]; exact W.fh a u z
  · rw [upd_ne (fun q => n (by rw [q]; exact hp))]; exact z
theorem EN.srcI {i : Nat} {x : Str} {key : Str} {p1 p2 : Pos} {j2} (C : Ctx Pg w K mg base N sc k X) (hN : N[i]? = some x) (hv : Vis sc x) (hi : ρ[i]? = some .src) (hs : NoSl (.Constant (.str key) j2 p2))
    (h : ∀ s c H, SrcAt s c H → ∃ (l m t : Int) (ns : List Int) (v : Int), H s = some (.dK (srcK c l m t)) ∧ valV (srcK c l m t) (Sum.inr key) = some (.int v) ∧ P (.int v))
    (hd : (x == ("__debug__" : Str)) = false := by decide) (hcd : (x == ("__classdict__" : Str)) = false := by decide) : EN X (.Subscript (.Name x p1) (.Constant (.str key) j2 p2) pos) ρ P :=
  EN.by (pe_dget (hu_of C.room) (pe_var (i := i) (by rw [C.nn]; exact hN) (by rw [C.scope]; exact hv) hd hcd) pe_str hs) fun G σ F H E Q q => by
    obtain ⟨s, c, h1, h2⟩ := E.sl i _ hi
    have hsrc : SrcAt s c H := by have := E.nw.src; rw [h1] at this; exact this
    obtain ⟨l, m, t, ns, v, g1, g2, p⟩ := h s c H hsrc
    refine ⟨_, h2, s, .int v, rfl, ?_, q (.int v) _ F H p E.wk.nw rfl⟩
    have := DGet.k (k := (Sum.inr key : Key)) g1
    rw [g2] at this
    exact this
theorem EN.srcLeft {i : Nat} {x : Str} {p1 p2 : Pos} {j2} (C : Ctx Pg w K mg base N sc k X) (hN : N[i]? = some x) (hv : Vis sc x) (hi : ρ[i]? = some .src) (h : ∀ v : Int, 0 ≤ v → P (.int v))
    (hd : (x == ("__debug__" : Str)) = false := by decide) (hcd : (x == ("__classdict__" : Str)) = false := by decide) : EN X (.Subscript (.Name x p1) (.Constant (.str "left") j2 p2) pos) ρ P :=
  EN.srcI C hN hv hi (fun _ _ => rfl) (fun s c H ⟨_, l, m, t, ns, h1, h2, h3, h4, h5, h6, h7⟩ => ⟨l, m, t, ns, l, h1, rfl, h l h3⟩) hd hcd
theorem EN.srcMixed {i : Nat} {x : Str} {p1 p2 : Pos} {j2} (C : Ctx Pg w K mg base N sc k X) (hN : N[i]? = some x) (hv : Vis sc x) (hi : ρ[i]? = some .src) (h : ∀ v : Int, 0 ≤ v → v < 2147483629 → P (.int v))
    (hd : (x == ("__debug__" : Str)) = false := by decide) (hcd : (x == ("__classdict__" : Str)) = false := by decide) : EN X (.Subscript (.Name x p1) (.Constant (.str "mixed") j2 p2) pos) ρ P :=
  EN.srcI C hN hv hi (fun _ _ => rfl) (fun s c H ⟨_, l, m, t, ns, h1, h2, h3, h4, h5, h6, h7⟩ => ⟨l, m, t, ns, m, h1, rfl, h m h5 h6⟩) hd hcd
theorem EN.srcTurn {i : Nat} {x : Str} {p1 p2 : Pos} {j2} (C : Ctx Pg w K mg base N sc k X) (hN : N[i]? = some x) (hv : Vis sc x) (hi : ρ[i]? = some .src) (h : ∀ v : Int, 0 ≤ v → P (.int v))
    (hd : (x == ("__debug__" : Str)) = false := by decide) (hcd : (x == ("__classdict__" : Str)) = false := by decide) : EN X (.Subscript (.Name x p1) (.Constant (.str "turn") j2 p2) pos) ρ P :=
  EN.srcI C hN hv hi (fun _ _ => rfl) (fun s c H ⟨_, l, m, t, ns, h1, h2, h3, h4, h5, h6, h7⟩ => ⟨l, m, t, ns, t, h1, rfl, h t h7⟩) hd hcd
theorem SN.srcPut {i : Nat} {x : Str} {key : Str} {p1 p2 p3 : Pos} {j2} (C : Ctx Pg w K mg base N sc k X) (hN : N[i]? = some x) (hv : Vis sc x) (hi : ρ[i]? = some .src) (hkey : key = "left" ∨ key = "turn")
    (hs : swapsWith e (some (.Subscript (.Name x p1) (.Constant (.str key) j2 p2) p3)) pos.line X.env = pure false)
    (h : EN X e ρ fun d => ∃ v : Int, d = .int v ∧ 0 ≤ v ∧ κ.nx ρ)
    (hd : (x == ("__debug__" : Str)) = false := by decide) (hcd : (x == ("__classdict__" : Str)) = false := by decide) : SN X (.Assign [.Subscript (.Name x p1) (.Constant (.str key) j2 p2) p3] e pos) ρ κ :=
  SN.by (ps_dput (hu_of C.room) (pe_var (i := i) (by rw [C.nn]; exact hN) (by rw [C.scope]; exact hv) hd hcd) pe_str pe_w hs) fun G σ F H E D A => by
    refine h G σ F H E _ ?_
    rintro d v' F' H' ⟨v, rfl, h0, p⟩ n r
    obtain rfl : v' = .int v := r
    have E' := E.mono n
    obtain ⟨s, c, h1, h2⟩ := E'.sl i _ hi
    have hsrc : SrcAt s c H' := by have := E'.nw.src; rw [h1] at this; exact this
    obtain ⟨sc', l, m, t, ns, g1, g2, g3, g4, g5, g6, g7⟩ := hsrc
    have W : Wk (some (s, c)) F' H' := by have := E'.wk; rw [h1] at this; exact this
    refine ⟨_, h2, s, upd H' s (.dK (putK (srcK c l m t) (Sum.inr key) (.int v))), rfl, DPut.k (k := (Sum.inr key : Key)) g1 (by show 4 < sizeLine; decide), ?_⟩
    refine A.nx ρ σ F' _ p (E'.mono ?_)
    rw [h1]
    refine Nw.atS W (Or.inl rfl) ?_
    have g2' : ∀ o, (upd H' s o) c = some (.lst (ns.map V.int)) := fun o => by rw [upd_ne (fun z => sc' z.symm)]; exact g2
    rcases hkey with rfl | rfl
    · exact ⟨sc', v, m, t, ns, by rw [upd_same, srcK_left], g2' _, h0, g4, g5, g6, g7⟩
    · exact ⟨sc', l, m, v, ns, by rw [upd_same, srcK_turn], g2' _, g3, g4, g5, g6, h0⟩
/-- cells = source["cells"] -/
theorem SN.celGet {i i2 : Nat} {x y : Str} {p1 p2 p3 py : Pos} {j2} (C : Ctx Pg w K mg base N sc k X) (Fx : ∀ x, X.fn x = true) (hN : N[i]? = some x) (hv : Vis sc x) (hi : ρ[i]? = some .src) (hN2 : N[i2]? = some y) (hy : L2.Loc sc y)
    (hs : swapsWith (.Subscript (.Name x p1) (.Constant (.str "cells") j2 p2) p3) (some (.Name y py)) pos.line X.env = pure false) (h : κ.nx (ρ.set i2 .cel))
    (hd : (x == ("__debug__" : Str)) = false := by decide) (hcd : (x == ("__classdict__" : Str)) = false := by decide) : SN X (.Assign [.Name y py] (.Subscript (.Name x p1) (.Constant (.str "cells") j2 p2) p3) pos) ρ κ :=
  SN.by (ps_set (i := i2) (by rw [C.nn]; exact C.nd) (by rw [C.nn]; exact hN2) (by unfold L2.Loc; rw [C.scope]; exact hy) (pe_dget (hu_of C.room) (pe_var (i := i) (by rw [C.nn]; exact hN) (by rw [C.scope]; exact hv) hd hcd) pe_str (fun _ _ => rfl)) hs (.inl (Fx y))) fun G σ F H E D A => by
    obtain ⟨s, c, h1, h2⟩ := E.sl i _ hi
    have hsrc : SrcAt s c H := by have := E.nw.src; rw [h1] at this; exact this
    obtain ⟨sc', l, m, t, ns, g1, g2, _⟩ := hsrc
    refine ⟨_, h2, s, .ref c, rfl, DGet.k (k := (Sum.inr "cells" : Key)) g1, A.nx _ _ F H h ?_⟩
    have E2 := E.forget (i := i2) (o := some (V.ref c))
    refine ⟨E2.nw, E2.s0, by rw [List.length_set, List.length_set]; exact E.len, fun m z hz => ?_, fun m n hmn hm hn => ?_⟩
    · by_cases hm : i2 = m
      · subst hm
        by_cases hl : i2 < ρ.length
        · rw [List.getElem?_set_self hl] at hz; cases hz
          exact ⟨s, c, h1, List.getElem?_set_self (by rw [E.len]; exact hl)⟩
        · rw [List.getElem?_eq_none (by rw [List.length_set]; omega)] at hz; cases hz
      · have := E2.sl m z (by rw [List.getElem?_set_ne hm]; rw [List.getElem?_set_ne hm] at hz; exact hz)
        exact this
    · have f : ∀ q : Nat, isOwn (ρ.set i2 .cel)[q]? → isOwn (ρ.set i2 .no)[q]? := fun q hq => by
        by_cases hq2 : i2 = q
        · subst hq2
          by_cases hl : i2 < ρ.length
          · rw [List.getElem?_set_self hl] at hq; exact hq.elim
          · rw [List.getElem?_eq_none (by rw [List.length_set]; omega)] at hq; exact hq.elim
        · rw [List.getElem?_set_ne hq2] at hq ⊢; exact hq
      exact E2.ap m n hmn (f m hm) (f n hn)
/-- while source["left"] < 2 and len(cells) > 0: source["left"] = cells.pop() -/
theorem SN.srcWhile {i i2 : Nat} {x y : Str} {t p1 p2 p3 p4 p5 p6 p7 p8 p9 q1 q2 q3 q4 q5 q6 q7 q8 : Pos} {j1 j2 j3 j4} (C : Ctx Pg w K mg base N sc k X) (hN : N[i]? = some x) (hv : Vis sc x) (hi : ρ[i]? = some .src) (hN2 : N[i2]? = some y) (hv2 : Vis sc y) (hi2 : ρ[i2]? = some .cel)
    (hg : Gi sc "len") (hm : mg "len" = none) (h : κ.nx ρ)
    (hs : swapsWith (.Call (.Attribute (.Name y q1) "pop" q2) [] [] q3) (some (.Subscript (.Name x q4) (.Constant (.str "left") j4 q5) q6)) q7.line X.env = pure false)
    (hline : (q2.endLine == q3.line) = true)
    (hd : (x == ("__debug__" : Str)) = false := by decide) (hcd : (x == ("__classdict__" : Str)) = false := by decide) (hd2 : (y == ("__debug__" : Str)) = false := by decide) (hcd2 : (y == ("__classdict__" : Str)) = false := by decide) :
    SN X (.While (.BoolOp .And [.Compare (.Subscript (.Name x p1) (.Constant (.str "left") j1 p2) p3) [.Lt] [.Constant (.int 2) j2 p4] p5, .Compare (.Call (.Name "len" p6) [.Name y p7] [] p8) [.Gt] [.Constant (.int 0) j3 p9] q8] t)
      [.Assign [.Subscript (.Name x q4) (.Constant (.str "left") j4 q5) q6] (.Call (.Attribute (.Name y q1) "pop" q2) [] [] q3) q7] [] pos) ρ κ := by
  have pvx : ∀ {p : Pos}, PE X (.Name x p) (tVar i) := fun {p} => pe_var (i := i) (by rw [C.nn]; exact hN) (by rw [C.scope]; exact hv) hd hcd
  have pvy : ∀ {p : Pos}, PE X (.Name y p) (tVar i2) := fun {p} => pe_var (i := i2) (by rw [C.nn]; exact hN2) (by rw [C.scope]; exact hv2) hd2 hcd2
  have hu := hu_of C.room
  refine SN.by (ps_while (by rw [C.xe]; exact PassesOwn.never)
    (PW.pt (pw_and (pt_cmpR op_lt (pe_dget hu pvx pe_str (fun _ _ => rfl)) pe_int (nomark _)) (pw_and1 (pt_cmpR op_gt (pe_callB call_len (by unfold Gl Env.kindOf; rw [C.scope]; exact hg) (by rw [C.mg]; exact hm) (by decide +kernel) (pa_cons pvy pa_nil)) pe_int (nomark _)))))
    (pss_one (ps_dput hu pvx pe_str (pe_bm0 PySem.F.plainAttrs_list PySem.F.slot_list_pop PySem.F.type_list_pop mt_pop pvy rfl hline) hs))) ?_
  intro G σ F H E D A
  obtain ⟨s, c, h1, h2⟩ := E.sl i _ hi
  obtain ⟨s', c', h1', h2'⟩ := E.sl i2 _ hi2
  rw [h1] at h1'
  cases h1'
  have srcOf : ∀ {F H}, ES X.K G σ F H ρ → SrcAt s c H := fun {F H} E => by have := E.nw.src; rw [h1] at this; exact this
  obtain ⟨nsc, l0, mx0, tn0, ns0, a1, a2, a3, a4, a5, a6, a7⟩ := srcOf E
  refine ⟨fun m σ' H' => σ' = σ ∧ ∃ (F' : Hp) (ns : List Int), ES X.K G σ F' H' ρ ∧ H' c = some (.lst (ns.map V.int)) ∧ ns.length = m, ⟨ns0.length, rfl, F, ns0, E, a2, rfl⟩, ?_⟩
  rintro m σ' H' ⟨rfl, F', ns', E', hns, rfl⟩
  obtain ⟨_, l, mx, tn, ns, g1, g2, g3, g4, g5, g6, g7⟩ := srcOf E'
  have ens : ns = ns' := by
    rw [hns] at g2
    have e1 : ns'.map V.int = ns.map V.int := by injection (Option.some.inj g2)
    have inj : ∀ {a b : List Int}, a.map V.int = b.map V.int → a = b := by
      intro a
      induction a with
      | nil => intro b e; cases b with
        | nil => rfl
        | cons _ _ => cases e
      | cons x a ih => intro b e; cases b with
        | nil => cases e
        | cons y b =>
          injection e with e1 e2
          injection e1 with e1
          rw [e1, ih e2]
    exact (inj e1).symm
  subst ens
  -- the test
  refine ⟨_, h2, s, .int l, rfl, DGet.k (k := (Sum.inr "left" : Key)) g1, l, 2, rfl, rfl, decide (l < 2), rfl, ?_⟩
  refine ite2 (fun hb => ?_) (fun hb => ?_)
  · refine ⟨_, h2', _, ns.length, rfl, Or.inl ⟨_, SqL.of g2, (List.length_map ..).symm⟩, (ns.length : Int), 0, rfl, rfl, decide ((0 : Int) < ns.length), rfl, ?_⟩
    refine ite2 (fun hc => ?_) (fun hc => ?_)
    · have hpos : (0 : Int) < ns.length := of_decide_eq_true hc
      have hne : ns.length - 1 < ns.length := by omega
      refine ⟨fun σ2 H2 => σ2 = σ' ∧ ∃ (F2 : Hp) (ns2 : List Int), ES X.K G σ' F2 H2 ρ ∧ H2 c = some (.lst (ns2.map V.int)) ∧ ns2.length < ns.length, ?_, ?_⟩
      · rintro σ2 H2 ⟨rfl, F2, ns2, E2, q2, q3⟩
        exact ⟨ns2.length, q3, rfl, F2, ns2, E2, q2, rfl⟩
      · -- the popped cell
        have hv := List.getElem?_eq_getElem hne
        have hy : (ns.map V.int)[(ns.map V.int).length - 1]? = some (.int ns[ns.length - 1]) := by
          rw [List.length_map, List.getElem?_map, hv]; rfl
        refine ⟨_, h2', Or.inl ⟨rfl, _, SqL.of g2⟩, c, ns.map V.int, _, rfl, rfl, g2, hy, ?_⟩
        have csn : c ≠ s := fun z => nsc z.symm
        have g1' : (upd H' c (.lst (ns.map V.int).dropLast)) s = some (.dK (srcK c l mx tn)) := by rw [upd_ne nsc]; exact g1
        refine ⟨_, h2, s, _, rfl, DPut.k (k := (Sum.inr "left" : Key)) g1' (by show 4 < sizeLine; decide), rfl, F', ns.dropLast, ?_, ?_, ?_⟩
        · have W : Wk (some (s, c)) F' H' := by have := E'.wk; rw [h1] at this; exact this
          have hcell : 0 ≤ ns[ns.length - 1] := g4 _ (List.getElem_mem hne)
          have hdrop : (ns.map V.int).dropLast = ns.dropLast.map V.int := by rw [List.map_dropLast]
          have s1 : SrcAt s c (upd H' c (.lst (ns.map V.int).dropLast)) := ⟨nsc, l, mx, tn, ns.dropLast, g1', by rw [upd_same, hdrop], g3, fun n hn => g4 n (List.dropLast_subset ns hn), g5, g6, g7⟩
          have n1 := Nw.atS W (Or.inr rfl) s1
          have s2 : SrcAt s c (upd (upd H' c (.lst (ns.map V.int).dropLast)) s (.dK (putK (srcK c l mx tn) (Sum.inr "left") (.int ns[ns.length - 1])))) :=
            ⟨nsc, ns[ns.length - 1], mx, tn, ns.dropLast, by rw [upd_same, srcK_left], by rw [upd_ne csn, upd_same, hdrop], hcell, fun n hn => g4 n (List.dropLast_subset ns hn), g5, g6, g7⟩
          have n2 := Nw.atS n1.wk (Or.inl rfl) s2
          refine E'.mono ?_
          rw [h1]
          exact n1.trans n2
        · rw [upd_ne csn, upd_same, List.map_dropLast]
        · rw [List.length_dropLast]; omega
    · exact A.nx ρ σ' F' H' h E'
  · refine iteF ?_
    exact A.nx ρ σ' F' H' h E'
end
end Kt

namespace Kt
open PySem L2 PyProof.Rows
open Evl (Ex)
section
variable {Pg : Program} {w : World} {K : PySem.W.Frag} {mg : Str → Option Value} {base : Heap} {N : List Str} {sc : Scope} {k j : Nat} {X : Cx} {ρ : List Sl} {P : PyData → Prop} {a b c e : Expr} {pos : Pos} {κ : Kn} {st : Stmt} {rest : List Stmt}
theorem EN.cut {v : PyData} (h : EN X e ρ fun d => d = v) (p : P v) : EN X e ρ P := h.mono fun _ e => e ▸ p
theorem PowI.v {i j n : Int} (hc : CPow i j) (e : i ^ j.toNat = n) (h : P (.int n)) : Int2 CPow (fun i j => .int (i ^ j.toNat)) (.int i) (.int j) P := ⟨hc, by show P (.int (i ^ j.toNat)); rw [e]; exact h⟩
/-- two texts -/
def NeT2 (x y : PyData) (P : Bool → Prop) : Prop := ∃ s t : Str, x = .str s ∧ y = .str t ∧ P (!decide (s = t))
theorem TN.neS {P : Bool → Prop} (h : EN X a ρ fun x => EN X b ρ fun y => NeT2 x y P) : TN X (.Compare a [.NotEq] [b] pos) ρ P :=
  TN.cmp op_ne (nomark _) (h.mono fun _ h => h.mono fun _ ⟨s, t, e1, e2, p⟩ => by
    subst e1 e2
    intro S F H w v u x y Q q
    obtain rfl : v = .str s := x
    obtain rfl : u = .str t := y
    exact ⟨rfl, q (.bool (!decide (s = t))) _ F H ⟨_, rfl, p⟩ w.nw (by
      show V.bl (!decide (V.str s = V.str t)) = V.bl (!decide (s = t))
      rw [show decide (V.str s = V.str t) = decide (s = t) by rw [Bool.eq_iff_iff]; simp])⟩)
theorem NeS {s t : Str} {P : Bool → Prop} (h1 : s ≠ t → P true) (h2 : s = t → P false) : NeT2 (.str s) (.str t) P := ⟨s, t, rfl, rfl, by
  by_cases h : s = t
  · rw [decide_eq_true h]; exact h2 h
  · rw [decide_eq_false h]; exact h1 h⟩
theorem shSI {s : Str} (hs : PyData.canLay0 (.str s) = true) (i : Int) : SeqAt.shaped (.tuple [.str s, .int i]) = true := by
  have hd : PyData.depth (.tuple [.str s, .int i]) = 1 := rfl
  show ((PyData.canLay0 (.str s) && (true && true)) && decide (PyData.depth (.tuple [.str s, .int i]) ≤ 64)) = true
  rw [hs, hd]; rfl
theorem NeTI {s : Str} {i j : Int} {P : Bool → Prop} (hs : PyData.canLay0 (.str s) = true) (e : i = j) (h : P false) : NeT (.tuple [.str s, .int i]) (.tuple [.str s, .int j]) P := ⟨shSI hs _, shSI hs _, by
  subst e
  show P (!((s == s) && ((i == i) && true)))
  rw [beq_self_eq_true, beq_self_eq_true]; exact h⟩
theorem NeL {a b : List Int} {P : Bool → Prop} (h1 : a ≠ b → P true) (h2 : a = b → P false) : NeT (.list (il a)) (.list (il b)) P := ⟨il_shaped a, il_shaped b, by
  show P (!PyData.eqvAll (il a) (il b))
  rw [il_eqv]
  by_cases h : a = b
  · rw [decide_eq_true h]; exact h2 h
  · rw [decide_eq_false h]; exact h1 h⟩
/-- name = e, where the store may depend on what sort of name it is -/
theorem SN.asgW {i : Nat} {x : Str} {p2 : Pos} (C : Ctx Pg w K mg base N sc k X) (Fx : ∀ x, X.fn x = true) (hN : N[i]? = some x) (hx : L2.Loc sc x) (hs : ∀ en : Env, en.scope = sc → swapsWith e (some (.Name x p2)) pos.line en = pure false)
    (h : EN X e ρ fun d => κ.nx (ρ.set i (.dat d))) : SN X (.Assign [.Name x p2] e pos) ρ κ := SN.asg C Fx hN hx (hs _ C.scope) h
theorem two_get {x y : PyData} {m : Nat} {d : PyData} (h : [x, y][m]? = some d) : d = x ∨ d = y := by
  rcases List.mem_cons.mp (List.mem_of_getElem? h) with e | h2
  · exact Or.inl e
  · exact Or.inr (List.mem_singleton.mp h2)
end
end Kt

namespace Kt
open PySem L2 PyProof.Rows
open Evl (Ex)
/-! ### the law's own start, and what the top has written -/
def sp_open (K : PySem.W.Frag) : Sp := fun vs H Q _ => ∃ (a : Addr) (ns : List Int), vs = [.ref a] ∧ SqL K H a (ns.map V.int) ∧ ns.length ≤ 100 ∧
  ∀ (s c : Addr) (H' : Hp), (∀ b o, H b = some o → H' b = some o) → H s = none → H c = none → SrcAt s c H' → Q (.ref s) H'
def sp_law (K : PySem.W.Frag) : Sp := fun vs H Q _ => ∃ (a : Addr) (ns : List Int), vs = [.ref a] ∧ SqL K H a (ns.map V.int) ∧ ns.length ≤ 100 ∧ ∀ v H', v = .bl true → Q v H'
structure Fo (Pg : Program) (w : World) (K : PySem.W.Frag) (mg : Str → Option Value) (base : Heap) (k : Nat) : Prop where
  ex : ∃ (f : Addr) (fd : FuncData), FnG Pg w K mg base k f fd ["script"] (sp_open K) ∧ mg "_law_open_cells" = some (.ref f) ∧ PySem.W.keepIn K (.ref f) = true ∧ Binds K fd ["script"] []
def hid (s c : Addr) (H : Hp) : Hp := fun b => if b = s ∨ b = c then none else H b
theorem hid_no {s c b : Addr} {H : Hp} (h : b = s ∨ b = c) : hid s c H b = none := if_pos h
theorem hid_of {s c b : Addr} {H : Hp} {o : HO} (h : hid s c H b = some o) : H b = some o := by
  by_cases e : b = s ∨ b = c
  · rw [hid_no e] at h; cases h
  · rw [← h]; exact (if_neg e).symm
section
variable {Pg : Program} {w : World} {K : PySem.W.Frag} {mg : Str → Option Value} {base : Heap} {N : List Str} {sc : Scope} {k j : Nat} {X : Cx} {rest : List Stmt}
theorem es_open {s c : Addr} {H : Hp} {σ : L2.St} {n : Nat} (h : SrcAt s c H) (hl : σ.length = n + 2) (h1 : σ[1]? = some (some (.ref s))) : ES K ⟨some (s, c), hid s c H, H⟩ σ (hid s c H) H (.no :: .src :: List.replicate n .no) := by
  have w0 : Wk (some (s, c)) (hid s c H) H := ⟨fun b o e => hid_of e, h, fun b i => hid_no i⟩
  refine ⟨w0.nw, h, by rw [hl]; simp, fun i sl e => ?_, fun i l _ hi _ => ?_⟩
  · match i, e with
    | 0, e => cases e; exact trivial
    | 1, e => cases e; exact ⟨s, c, rfl, h1⟩
    | i + 2, e =>
      have e2 : (List.replicate n Sl.no)[i]? = some sl := e
      rw [List.getElem?_replicate] at e2
      by_cases hn : i < n
      · rw [if_pos hn] at e2; cases e2; exact trivial
      · rw [if_neg hn] at e2; cases e2
  · match i, hi with
    | 0, hi => exact hi.elim
    | 1, hi => exact hi.elim
    | i + 2, hi =>
      have e2 : (Sl.no :: Sl.src :: List.replicate n Sl.no)[i + 2]? = (List.replicate n Sl.no)[i]? := rfl
      rw [e2, List.getElem?_replicate] at hi
      by_cases hn : i < n
      · rw [if_pos hn] at hi; exact hi.elim
      · rw [if_neg hn] at hi; exact hi.elim
theorem lawStart {p1 p2 p3 p4 p5 : Pos} {n : Nat} (C : Ctx Pg w K mg base N sc k X) (Fx : ∀ x, X.fn x = true) (FO : Fo Pg w K mg base k) (h0 : N[0]? = some (Str.ofString "script")) (h1 : N[1]? = some (Str.ofString "source")) (hN : N.length = n + 2)
    (hx : L2.Loc sc "source") (hv : Vis sc "script") (hg : sc.names.lookup (Str.ofString "_law_open_cells") = some .globalImplicit) {a : Addr} {ns : List Int} {H : Hp} {Q : VK} (hS : SqL K H a (ns.map V.int)) (hlen : ns.length ≤ 100) (q : ∀ v H', v = .bl true → Q v H')
    (hb : BN X rest (.no :: .src :: List.replicate n .no) { nx := fun _ => False, rt := fun d => d = .bool true }) 
    (hs : swapsWith (.Call (.Name "_law_open_cells" p2) [.Name "script" p3] [] p4) (some (.Name "source" p1)) p5.line X.env = pure false) (he : starEach [.Name "script" p3] X.env = (false, eval (.Name "script" p3) X.env) :: starEach [] X.env) (hpl : (backTo p4 (starEach [] X.env)).any (·.1) = false) :
    ∃ t, PSs X (.Assign [.Name "source" p1] (.Call (.Name "_law_open_cells" p2) [.Name "script" p3] [] p4) p5 :: rest) t ∧ t { nx := fun _ H' => Q .non H', rt := Q } (L2.start N [.ref a]) H := by
  obtain ⟨f, fd, F, hm, hk, hbd⟩ := FO.ex
  have c1 := C.prog; have c2 := C.wd; have c3 := C.kk; have c4 := C.mg; have c5 := C.base
  subst c1 c2 c3 c4 c5
  refine ⟨_, pss_cons (ps_set (i := 1) (by rw [C.nn]; exact C.nd) (by rw [C.nn]; exact h1) (by unfold L2.Loc; rw [C.scope]; exact hx)
    (pe_callG F C.gd C.room (by unfold Gl Env.kindOf; rw [C.scope]; exact hg) hm hk hbd (pa_cons (pe_var (i := 0) (by rw [C.nn]; exact h0) (by rw [C.scope]; exact hv)) pa_nil he) (by decide) he hpl) hs (.inl (Fx _))) pss_w, ?_⟩
  have e0 : (L2.start N [.ref a])[0]? = some (some (.ref a)) := rfl
  refine ⟨_, e0, a, ns, rfl, hS, hlen, fun s c H' _ _ _ hsrc => ?_⟩
  have hl : (L2.start N [.ref a]).length = n + 2 := by
    unfold L2.start
    simp only [List.length_append, List.length_map, List.length_replicate, List.length_cons, List.length_nil]
    omega
  refine hb ⟨some (s, c), hid s c H', H'⟩ _ _ _ (es_open hsrc (by rw [List.length_set]; exact hl) (List.getElem?_set_self (by omega))) _ ⟨?_, ?_, ?_, ?_, fun _ _ _ _ z => z.elim⟩
  · exact fun _ _ _ _ z => z.elim
  · intro d v F2 H2 e _ r
    subst e
    exact q v H2 r
  · exact fun _ _ _ _ z => z.elim
  · exact fun _ _ _ _ z => z.elim
theorem Fd.mono {x : Str} {W : Wp} (h : Fd Pg w K mg base j x W) (hj : j ≤ k) : Fd Pg w K mg base k x W := by
  obtain ⟨f, fd, ps, F, r⟩ := h.ex
  exact ⟨⟨f, fd, ps, F.mono hj, r⟩⟩
theorem Fo.mono (h : Fo Pg w K mg base j) (hj : j ≤ k) : Fo Pg w K mg base k := by
  obtain ⟨f, fd, F, r⟩ := h.ex
  exact ⟨⟨f, fd, F.mono hj, r⟩⟩
end
/-- a def that the top has written -/
structure Df (K : PySem.W.Frag) (x : Str) (st : Stmt) : Prop where
  ex : ∃ (f : Addr) (fd : FuncData), PySem.W.nsIn K mainGlobals x = some (some (.ref f)) ∧ Fun K x x st f fd ∧ PySem.W.keepIn K (.ref f) = true
theorem Df.of {K : PySem.W.Frag} {x : Str} {st : Stmt} {f : Addr} {od an : Option Addr} {sl : Array (Option Value)} {oc kV dc pm cd ct : Value} (a : PySem.W.nsIn K mainGlobals x = some (some (.ref f)))
    (l : K.lookup f = some ⟨oc, od, .func (PySem.W.fnOf x x (defArgs st) (defBody st) (defScope st) .none kV dc pm an cd ct), sl⟩) (c : PySem.W.codeIn K cd x = true) (k : PySem.W.keepIn K (.ref f) = true) : Df K x st := ⟨⟨f, _, a, fun_mk l c k, k⟩⟩
section
variable {Pg : Program} {w : World} {K : PySem.W.Frag} {mg : Str → Option Value} {base : Heap} {k : Nat} {h : Heap} {x : Str} {st : Stmt} {ps : List Str}
theorem Df.fd {W : Wp} (D : Df K x st) (X : K.In h) (G : h.Ns mainGlobals mg) (ok : ∀ (f : Addr) (fd : FuncData), Fun K x x st f fd → FnG Pg w K mg base k f fd ps (spOf K W))
    (hb : ∀ (kV doc pm : Value) (an : Option Addr) (cdv ct : Value) (us : List Value), us.length = ps.length → bindArgs (PySem.W.fnOf x x (defArgs st) (defBody st) (defScope st) .none kV doc pm an cdv ct) ⟨us, []⟩ = pure (ps.zip us)) : Fd Pg w K mg base k x W := by
  obtain ⟨f, fd, a, F, kp⟩ := D.ex
  exact ⟨⟨f, fd, ps, ok f fd F, PySem.W.mg_of X G a, kp, F.binds hb⟩⟩
theorem Df.fo {st : Stmt} (D : Df K "_law_open_cells" st) (X : K.In h) (G : h.Ns mainGlobals mg) (ok : ∀ (f : Addr) (fd : FuncData), Fun K "_law_open_cells" "_law_open_cells" st f fd → FnG Pg w K mg base k f fd ["script"] (sp_open K))
    (hb : ∀ (kV doc pm : Value) (an : Option Addr) (cdv ct : Value) (us : List Value), us.length = 1 → bindArgs (PySem.W.fnOf "_law_open_cells" "_law_open_cells" (defArgs st) (defBody st) (defScope st) .none kV doc pm an cdv ct) ⟨us, []⟩ = pure ([Str.ofString "script"].zip us)) : Fo Pg w K mg base k := by
  obtain ⟨f, fd, a, F, kp⟩ := D.ex
  exact ⟨⟨f, fd, ok f fd F, PySem.W.mg_of X G a, kp, F.binds hb⟩⟩
end
end Kt

local macro_rules | `(tactic| walk_at "vis") => `(tactic| first | exact Or.inl rfl | exact Or.inr rfl | exact Or.inr (Or.inl rfl) | exact Or.inr (Or.inr rfl))
local macro_rules | `(tactic| walk_at "go") => `(tactic| first | refine Kt.yes ?_ | refine Kt.noo ?_)
local macro_rules | `(tactic| walk_at "mulok") => `(tactic| first | exact Kt.mul_l (by omega) (by omega) | exact Kt.mul_r (by omega) (by omega))
local macro_rules | `(tactic| walk_at "nn") => `(tactic| first | omega | exact Int.ediv_nonneg (by omega) (by omega))
namespace Kt
open PySem L2 PyProof.Rows
def topS (i : Nat) : Stmt := PySem.Challenge.pw_loopworth_k23_whole_worths_of_pairs.main.body.getD i (.Pass ⟨0, 0, 0, 0⟩)
abbrev dI (i : Int) : Sl := .dat (.int i)
set_option autoImplicit false
/-- y times y times .. modulo p -/
def pm (p y : Int) : Nat → Int
  | 0 => 1
  | n + 1 => pm p y n * y % p
theorem pm_lt (p y : Int) (hp : 0 < p) (hp2 : p < 100000) (n : Nat) : 0 ≤ pm p y n ∧ pm p y n < 100000 := by
  cases n with
  | zero =>
    show (0 : Int) ≤ 1 ∧ (1 : Int) < 100000
    decide
  | succ n =>
    have h1 := Int.emod_nonneg (pm p y n * y) (show p ≠ 0 by omega)
    have h2 := Int.emod_lt_of_pos (pm p y n * y) hp
    show 0 ≤ pm p y n * y % p ∧ pm p y n * y % p < 100000
    omega
/-- the terms of a worth modulo p -/
def tt (p d : Int) : Nat → Int × Int
  | 0 => (1 % p, d)
  | n + 1 => ((tt p d n).2, (d * (tt p d n).2 % p - (tt p d n).1) % p)
def Tm (p d : Int) (n : Nat) : Int := (tt p d n).1
theorem Tm_zero (p d : Int) : Tm p d 0 = 1 % p := rfl
theorem Tm_one (p d : Int) : Tm p d 1 = d := rfl
theorem Tm_two (p d : Int) (n : Nat) : Tm p d (n + 2) = (d * Tm p d (n + 1) % p - Tm p d n) % p := rfl
theorem Tm_lt {p d : Int} (hp : 0 < p) (h0 : 0 ≤ d) (h1 : d < p) (n : Nat) : 0 ≤ Tm p d n ∧ Tm p d n < p := by
  match n with
  | 0 => exact ⟨Int.emod_nonneg _ (by omega), Int.emod_lt_of_pos _ hp⟩
  | 1 => exact ⟨h0, h1⟩
  | n + 2 =>
    rw [Tm_two]
    exact ⟨Int.emod_nonneg _ (by omega), Int.emod_lt_of_pos _ hp⟩
def tr (p d : Int) (n : Nat) : List Int := (List.range n).map (Tm p d)
theorem tr_len (p d : Int) (n : Nat) : (tr p d n).length = n := by unfold tr; rw [List.length_map, List.length_range]
theorem tr_succ (p d : Int) (n : Nat) : tr p d (n + 1) = tr p d n ++ [Tm p d n] := by unfold tr; rw [List.range_succ, List.map_append]; rfl
theorem tr_get {p d : Int} {n i : Nat} (h : i < n) : (tr p d n)[i]? = some (Tm p d i) := by unfold tr; rw [List.getElem?_map, List.getElem?_range h]; rfl
theorem tr_at {p d : Int} {n : Nat} {i : Int} (h0 : 0 ≤ i) (h : i < n) : atI (il (tr p d n)) i = some (.int (Tm p d i.toNat)) := by
  obtain ⟨j, rfl⟩ : ∃ j : Nat, i = (j : Int) := ⟨i.toNat, by omega⟩
  refine il_at (atI_nat ?_)
  rw [show ((j : Int)).toNat = j from rfl]
  exact tr_get (by omega)
theorem tr_neg {p d : Int} {n k : Nat} (h1 : 1 ≤ k) (h2 : k ≤ n) : atI (il (tr p d n)) (-(k : Int)) = some (.int (Tm p d (n - k))) := by
  refine il_at (atI_neg h1 (by rw [tr_len]; exact h2) ?_)
  rw [tr_len]
  exact tr_get (by omega)
theorem il_tr_succ (p d : Int) (n : Nat) : il (tr p d (n + 1)) = il (tr p d n) ++ [.int (Tm p d n)] := by rw [tr_succ, il_append]; rfl
theorem tr_cut {p d : Int} {n m : Nat} (h : m ≤ n) : cutD (il (tr p d n)) none (some (m : Int)) = il (tr p d m) := by
  unfold cutD
  rw [il_len, tr_len, HT.sIx_nat, HT.sIx_none, Nat.min_eq_left h, Nat.sub_zero, List.drop_zero]
  unfold il tr
  rw [← List.map_take, ← List.map_take, List.take_range, Nat.min_eq_left h]
theorem tr_mem {p d : Int} {n : Nat} {x : Int} (h : x ∈ tr p d n) : ∃ i, i < n ∧ x = Tm p d i := by
  unfold tr at h
  obtain ⟨i, hi, e⟩ := List.mem_map.mp h
  exact ⟨i, List.mem_range.mp hi, e.symm⟩
/-! the six primes -/
def ps : List Nat := [2, 3, 5, 7, 11, 13]
def Pr (p : Int) : Prop := ∃ q ∈ ps, p = (q : Int)
theorem Pr.lt {p : Int} (h : Pr p) : 2 ≤ p ∧ p ≤ 13 := by
  obtain ⟨q, hq, rfl⟩ := h
  simp only [ps, List.mem_cons, List.not_mem_nil, or_false] at hq
  omega
/-- what holds of each prime and each of its numbers, looked through -/
theorem each {M : Nat → Nat → Prop} (h : ∀ q ∈ ps, ∀ e, e < q → M q e) {p d : Int} (hp : Pr p) (h0 : 0 ≤ d) (h1 : d < p) : M p.toNat d.toNat := by
  obtain ⟨q, hq, rfl⟩ := hp
  have : d.toNat < q := by omega
  have := h q hq d.toNat this
  rw [show ((q : Int)).toNat = q from rfl]
  exact this
/-- the length of a worth -/
def ln (p d : Int) : Nat := (((List.range 13).find? fun i => Tm p d (i + 1) == 0).getD 0) + 2
theorem ln_all : ∀ q ∈ ps, ∀ e, e < q → (2 ≤ ln q e ∧ ln q e ≤ q + 1 ∧ Tm q e (ln q e - 1) = 0 ∧ (∀ i, i < ln q e - 1 → Tm q e i ≠ 0)) ∧ (Tm q e (ln q e) * Tm q e (ln q e) % (q : Int) = 1) := by decide +kernel
theorem ln_ok {p d : Int} (hp : Pr p) (h0 : 0 ≤ d) (h1 : d < p) : 2 ≤ ln p d ∧ (ln p d : Int) ≤ p + 1 ∧ Tm p d (ln p d - 1) = 0 ∧ (∀ i, i < ln p d - 1 → Tm p d i ≠ 0) ∧ Tm p d (ln p d) * Tm p d (ln p d) % p = 1 := by
  have h := each ln_all hp h0 h1
  have e1 : ((p.toNat : Nat) : Int) = p := Int.toNat_of_nonneg (by have := hp.lt; omega)
  have e2 : ((d.toNat : Nat) : Int) = d := Int.toNat_of_nonneg h0
  rw [e1, e2] at h
  obtain ⟨⟨a, b, c, e⟩, f⟩ := h
  exact ⟨a, by omega, c, e, f⟩
theorem Tm_step {p d : Int} {n : Nat} (h : 2 ≤ n) : Tm p d n = (d * Tm p d (n - 1) % p - Tm p d (n - 2)) % p := by
  obtain ⟨m, rfl⟩ : ∃ m, n = m + 2 := ⟨n - 2, by omega⟩
  exact Tm_two p d m
theorem tr_zero {p d : Int} {n j : Nat} (hn : j < n) (h0 : Tm p d j = 0) (h1 : ∀ i, i < j → Tm p d i ≠ 0) :
    ∃ z, (il (tr p d n))[j]? = some z ∧ PyData.eqv z (.int (0 % p)) = true ∧ ∀ (m : Nat) (z' : PyData), m < j → (il (tr p d n))[m]? = some z' → PyData.eqv z' (.int (0 % p)) = false := by
  refine ⟨_, il_get (tr_get hn), ?_, fun m z' hm e => ?_⟩
  · show (Tm p d j == 0 % p) = true
    rw [h0, Int.zero_emod]; rfl
  · rw [il_get (tr_get (by omega))] at e
    cases e
    show (Tm p d m == 0 % p) = false
    rw [Int.zero_emod]
    exact beq_eq_false_iff_ne.mpr (h1 m hm)
theorem tr_has {p d : Int} {n j : Nat} (hn : j < n) (h0 : Tm p d j = 0) : 0 % p ∈ tr p d n := by
  rw [Int.zero_emod, ← h0]
  exact List.mem_map.mpr ⟨j, List.mem_range.mpr hn, rfl⟩
/-- what a judge of lengths tells of an int from 2 on -/
def jl (p d v : Int) : PyData := if v = ln p d then .none else if (ln p d : Int) < v then .tuple [.str "early", .int (ln p d)] else .tuple [.str "term", .int (Tm p d (v - 1).toNat)]
def lnI (p d : Int) : Int := (ln p d : Int)
def lns (p : Int) : List Int := (rg p).map (lnI p)
def wo (p l : Int) : List Int := (rg p).filter fun d => decide (lnI p d = l)
def isWh : PyData → Bool
  | .int _ => true
  | _ => false
def isIB : PyData → Bool
  | .int _ => true
  | .bool _ => true
  | _ => false
def isB : PyData → Bool
  | .bool _ => true
  | _ => false
theorem kit_int (d : PyData) : kitB (tyD d) "int" = some (isIB d) := by cases d <;> first | exact (by decide +kernel : kitB "int" "int" = some true) | exact (by decide +kernel : kitB "bool" "int" = some true) | exact (by decide +kernel : kitB "str" "int" = some false) | exact (by decide +kernel : kitB "NoneType" "int" = some false) | exact (by decide +kernel : kitB "list" "int" = some false) | exact (by decide +kernel : kitB "tuple" "int" = some false) | exact (by decide +kernel : kitB "dict" "int" = some false)
theorem kit_bool (d : PyData) : kitB (tyD d) "bool" = some (isB d) := by cases d <;> first | exact (by decide +kernel : kitB "int" "bool" = some false) | exact (by decide +kernel : kitB "bool" "bool" = some true) | exact (by decide +kernel : kitB "str" "bool" = some false) | exact (by decide +kernel : kitB "NoneType" "bool" = some false) | exact (by decide +kernel : kitB "list" "bool" = some false) | exact (by decide +kernel : kitB "tuple" "bool" = some false) | exact (by decide +kernel : kitB "dict" "bool" = some false)
/-! arithmetic modulo p -/
theorem eq_of_dvd {p a b : Int} (ha : 0 ≤ a) (ha2 : a < p) (hb : 0 ≤ b) (hb2 : b < p) (h : p ∣ a - b) : a = b := by
  have h1 : a % p = b % p := Int.emod_eq_emod_iff_emod_sub_eq_zero.mpr (Int.emod_eq_zero_of_dvd h)
  rw [Int.emod_eq_of_lt ha ha2, Int.emod_eq_of_lt hb hb2] at h1
  exact h1
theorem dvd_emod (p a : Int) : p ∣ a % p - a := by
  have h := Int.emod_add_mul_ediv a p
  exact ⟨-(a / p), by rw [Int.mul_neg]; omega⟩
theorem emod_of_dvd {p a b : Int} (h : p ∣ a - b) : a % p = b % p := Int.emod_eq_emod_iff_emod_sub_eq_zero.mpr (Int.emod_eq_zero_of_dvd h)
theorem Tm_dvd (p d : Int) (n : Nat) : p ∣ Tm p d (n + 2) - (d * Tm p d (n + 1) - Tm p d n) := by
  rw [Tm_two]
  obtain ⟨k1, h1⟩ := dvd_emod p (d * Tm p d (n + 1) % p - Tm p d n)
  obtain ⟨k2, h2⟩ := dvd_emod p (d * Tm p d (n + 1))
  refine ⟨k1 + k2, ?_⟩
  rw [Int.mul_add, ← h1, ← h2]
  omega
theorem ring1 {p d x y X Y t0 t1 t2 a b c k1 k2 : Int} (ha : (x - y) * t0 - (X - Y) = p * a) (hb : (x - y) * t1 - (x * X - y * Y) = p * b) (hc : t2 - (d * t1 - t0) = p * c) (h1 : d - (x + y) = p * k1) (h2 : x * y - 1 = p * k2) :
    p ∣ (x - y) * t2 - (x * (x * X) - y * (y * Y)) := by
  refine ⟨(x - y) * c + d * b + k1 * (x * X - y * Y) - a + k2 * (X - Y), ?_⟩
  have e : p * ((x - y) * c + d * b + k1 * (x * X - y * Y) - a + k2 * (X - Y)) = (x - y) * (p * c) + d * (p * b) + (p * k1) * (x * X - y * Y) - p * a + (p * k2) * (X - Y) := by clear ha hb hc h1 h2; grind
  rw [e, ← ha, ← hb, ← hc, ← h1, ← h2]
  clear e ha hb hc h1 h2
  grind
/-- the same where x is 1 over x -/
theorem ring2 {p d x X t0 t1 t2 a b c k1 k2 N : Int} (ha : t0 - (N + 1) * X = p * a) (hb : t1 - (N + 2) * (x * X) = p * b) (hc : t2 - (d * t1 - t0) = p * c) (h1 : d - (x + x) = p * k1) (h2 : x * x - 1 = p * k2) :
    p ∣ t2 - (N + 3) * (x * (x * X)) := by
  refine ⟨c + d * b - a + k1 * ((N + 2) * (x * X)) + k2 * ((N + 1) * X), ?_⟩
  have e : p * (c + d * b - a + k1 * ((N + 2) * (x * X)) + k2 * ((N + 1) * X)) = p * c + d * (p * b) - p * a + (p * k1) * ((N + 2) * (x * X)) + (p * k2) * ((N + 1) * X) := by clear ha hb hc h1 h2; grind
  rw [e, ← ha, ← hb, ← hc, ← h1, ← h2]
  clear e ha hb hc h1 h2
  grind
theorem Tm_sq {p d x : Int} (hd : p ∣ d - (x + x)) (hxy : p ∣ x * x - 1) (n : Nat) : p ∣ Tm p d n - ((n : Int) + 1) * x ^ n := by
  suffices h : p ∣ Tm p d n - ((n : Int) + 1) * x ^ n ∧ p ∣ Tm p d (n + 1) - ((n : Int) + 2) * x ^ (n + 1) from h.1
  induction n with
  | zero =>
    obtain ⟨k, hk⟩ := dvd_emod p 1
    obtain ⟨k2, hk2⟩ := hd
    constructor
    · refine ⟨k, ?_⟩
      rw [Tm_zero]
      grind
    · refine ⟨k2, ?_⟩
      rw [Tm_one]
      grind
  | succ n ih =>
    obtain ⟨⟨a, ha⟩, ⟨b, hb⟩⟩ := ih
    have c1 : (((n + 1 : Nat) : Int)) = (n : Int) + 1 := by omega
    have e1 : x ^ (n + 1) = x * x ^ n := by rw [Int.pow_succ]; exact Int.mul_comm _ _
    have e2 : x ^ (n + 1 + 1) = x * (x * x ^ n) := by rw [Int.pow_succ, e1]; exact Int.mul_comm _ _
    obtain ⟨c, hc⟩ := Tm_dvd p d n
    obtain ⟨k1, hk1⟩ := hd
    obtain ⟨k2, hk2⟩ := hxy
    rw [c1]
    refine ⟨⟨b, by rw [← hb]; grind⟩, ?_⟩
    rw [e1] at hb
    rw [e2]
    have := ring2 ha hb hc hk1 hk2
    rw [show (n : Int) + 1 + 2 = (n : Int) + 3 by omega]
    exact this
/-- differences of powers -/
theorem Tm_pow {p d x y : Int} (hd : p ∣ d - (x + y)) (hxy : p ∣ x * y - 1) (n : Nat) : p ∣ (x - y) * Tm p d n - (x ^ (n + 1) - y ^ (n + 1)) := by
  suffices h : p ∣ (x - y) * Tm p d n - (x ^ (n + 1) - y ^ (n + 1)) ∧ p ∣ (x - y) * Tm p d (n + 1) - (x ^ (n + 2) - y ^ (n + 2)) from h.1
  induction n with
  | zero =>
    obtain ⟨k, hk⟩ := dvd_emod p 1
    obtain ⟨k2, hk2⟩ := hd
    constructor
    · refine ⟨(x - y) * k, ?_⟩
      rw [Tm_zero]
      grind
    · refine ⟨(x - y) * k2, ?_⟩
      rw [Tm_one]
      grind
  | succ n ih =>
    obtain ⟨⟨a, ha⟩, ⟨b, hb⟩⟩ := ih
    refine ⟨⟨b, hb⟩, ?_⟩
    obtain ⟨c, hc⟩ := Tm_dvd p d n
    obtain ⟨k1, hk1⟩ := hd
    obtain ⟨k2, hk2⟩ := hxy
    have e1 : x ^ (n + 2) = x * x ^ (n + 1) := by rw [Int.pow_succ (n := n + 1)]; exact Int.mul_comm _ _
    have e2 : y ^ (n + 2) = y * y ^ (n + 1) := by rw [Int.pow_succ (n := n + 1)]; exact Int.mul_comm _ _
    have e3 : x ^ (n + 1 + 2) = x * (x * x ^ (n + 1)) := by rw [← e1]; rw [Int.pow_succ (n := n + 2)]; exact Int.mul_comm _ _
    have e4 : y ^ (n + 1 + 2) = y * (y * y ^ (n + 1)) := by rw [← e2]; rw [Int.pow_succ (n := n + 2)]; exact Int.mul_comm _ _
    rw [e1, e2] at hb
    rw [e3, e4]
    exact ring1 ha hb hc hk1 hk2
/-! the row comes again -/
theorem tt_shift {p d : Int} {a b : Nat} (h : tt p d a = tt p d b) : ∀ n, tt p d (n + a) = tt p d (n + b)
  | 0 => by rw [Nat.zero_add, Nat.zero_add]; exact h
  | n + 1 => by
    have ih := tt_shift h n
    rw [Nat.add_right_comm n 1 a, Nat.add_right_comm n 1 b]
    show ((tt p d (n + a)).2, (d * (tt p d (n + a)).2 % p - (tt p d (n + a)).1) % p) = ((tt p d (n + b)).2, (d * (tt p d (n + b)).2 % p - (tt p d (n + b)).1) % p)
    rw [ih]
theorem tt_period {p d : Int} {L : Nat} (h : tt p d L = tt p d 0) : ∀ q n, tt p d (n + L * q) = tt p d n
  | 0, n => by rw [Nat.mul_zero, Nat.add_zero]
  | q + 1, n => by
    rw [Nat.mul_succ, ← Nat.add_assoc, Nat.add_comm _ L, Nat.add_comm L _]
    have h2 := tt_shift h (n + L * q)
    rw [Nat.add_zero] at h2
    rw [h2, tt_period h q n]
theorem Tm_mod {p d : Int} {L : Nat} (h : tt p d L = tt p d 0) (n : Nat) : Tm p d (n % L) = Tm p d n := by
  have h2 := tt_period h (n / L) (n % L)
  rw [Nat.mod_add_div] at h2
  show (tt p d (n % L)).1 = (tt p d n).1
  rw [h2]
theorem tt_all : ∀ q ∈ ps, ∀ e, e < q → tt q e (2 * ln q e) = tt q e 0 := by decide +kernel
theorem to_nat2 {p d : Int} (hp : Pr p) (h0 : 0 ≤ d) : ((p.toNat : Nat) : Int) = p ∧ ((d.toNat : Nat) : Int) = d := ⟨Int.toNat_of_nonneg (by have := hp.lt; omega), Int.toNat_of_nonneg h0⟩
/-- the far term is the term -/
theorem Tm_far {p d m : Int} (hp : Pr p) (h0 : 0 ≤ d) (h1 : d < p) (hm : 0 ≤ m) : Tm p d (m % (2 * (ln p d : Int))).toNat = Tm p d m.toNat := by
  have h := each tt_all hp h0 h1
  obtain ⟨e1, e2⟩ := to_nat2 hp h0
  rw [e1, e2] at h
  have e : (m % (2 * (ln p d : Int))).toNat = m.toNat % (2 * ln p d) := by
    have e3 : (((m.toNat % (2 * ln p d) : Nat)) : Int) = m % (2 * (ln p d : Int)) := by
      rw [Int.natCast_emod, Int.toNat_of_nonneg hm]
      rfl
    omega
  rw [e]
  exact Tm_mod h _
/-- inverses -/
def iv (p y : Int) : Int := pm p y (p - 2).toNat
theorem iv_all : ∀ q ∈ ps, ∀ e, e < q → e ≠ 0 → ((e : Int) * iv q e % (q : Int) = 1 ∧ 1 ≤ iv q e ∧ iv q e < (q : Int)) := by decide +kernel
theorem iv_ok {p y : Int} (hp : Pr p) (h0 : 1 ≤ y) (h1 : y < p) : y * iv p y % p = 1 ∧ 1 ≤ iv p y ∧ iv p y < p := by
  obtain ⟨e1, e2⟩ := to_nat2 hp (d := y) (by omega)
  have h := each iv_all hp (by omega) h1 (by omega)
  rw [e1, e2] at h
  exact h
/-- the order of a number -/
def od (p x : Int) : Nat := (((List.range 13).find? fun i => pm p x (i + 1) == 1).getD 0) + 1
theorem od_all : ∀ q ∈ ps, ∀ e, e < q → e ≠ 0 → (pm q e (od q e) = 1 ∧ od q e < q ∧ ∀ i, i < od q e → i ≠ 0 → pm q e i ≠ 1) := by decide +kernel
theorem od_ok {p x : Int} (hp : Pr p) (h0 : 1 ≤ x) (h1 : x < p) : pm p x (od p x) = 1 ∧ (od p x : Int) < p ∧ (∀ i, i < od p x → i ≠ 0 → pm p x i ≠ 1) ∧ 1 ≤ od p x := by
  obtain ⟨e1, e2⟩ := to_nat2 hp (d := x) (by omega)
  have h := each od_all hp (by omega) h1 (by omega)
  rw [e1, e2] at h
  exact ⟨h.1, by have := h.2.1; omega, h.2.2, Nat.succ_le_succ (Nat.zero_le _)⟩
/-- the one number that times y is x, sought -/
theorem ov_all : ∀ q ∈ ps, ∀ x, x < q → ∀ y, y < q → y ≠ 0 → (rg q).filter (fun z => decide (z * (y : Int) % (q : Int) = (x : Int))) = [(x : Int) * iv q y % (q : Int)] := by decide +kernel
theorem ov_ok {p x y : Int} (hp : Pr p) (hx0 : 0 ≤ x) (hx : x < p) (h0 : 1 ≤ y) (h1 : y < p) : (rg p).filter (fun z => decide (z * y % p = x)) = [x * iv p y % p] := by
  obtain ⟨q, hq, rfl⟩ := hp
  have h := ov_all q hq x.toNat (by omega) y.toNat (by omega) (by omega)
  rw [Int.toNat_of_nonneg hx0, Int.toNat_of_nonneg (by omega : 0 ≤ y)] at h
  exact h
/-- the worth of x and 1 over x -/
def wx (p x : Int) : Int := (x + iv p x) % p
def sqx (p x : Int) : Int := x * x % p
def spx (p x : Int) : Int := if sqx p x = 1 then p else od p (sqx p x)
theorem wx_all : ∀ q ∈ ps, ∀ e, e < q → e ≠ 0 → ((ln q (wx q e) : Int) = spx q e ∧ 1 ≤ sqx q e ∧ (sqx q e = 1 → (iv q e : Int) = e) ∧ (sqx q e ≠ 1 → (iv q e : Int) ≠ e)) := by decide +kernel
theorem wx_ok {p x : Int} (hp : Pr p) (h0 : 1 ≤ x) (h1 : x < p) : (ln p (wx p x) : Int) = spx p x ∧ 1 ≤ sqx p x ∧ (sqx p x = 1 → iv p x = x) ∧ (sqx p x ≠ 1 → iv p x ≠ x) := by
  obtain ⟨e1, e2⟩ := to_nat2 hp (d := x) (by omega)
  have h := each wx_all hp (by omega) h1 (by omega)
  rw [e1, e2] at h
  exact h
/-! what the law reckons -/
theorem minus_eq (p x y : Int) : (x + (0 - 1) % p * y % p) % p = (x - y) % p := by
  obtain ⟨k, hk⟩ := dvd_emod p (0 - 1)
  obtain ⟨k2, hk2⟩ := dvd_emod p ((0 - 1) % p * y)
  refine emod_of_dvd ⟨k2 + k * y, ?_⟩
  rw [Int.mul_add, ← hk2, ← Int.mul_assoc, ← hk]
  generalize (0 - 1) % p = B
  generalize B * y % p = A
  clear hk hk2
  grind
theorem pow_dvd (p a : Int) : ∀ n : Nat, p ∣ (a % p) ^ n - a ^ n
  | 0 => ⟨0, by rw [Int.pow_zero, Int.pow_zero]; omega⟩
  | n + 1 => by
    obtain ⟨k, hk⟩ := pow_dvd p a n
    obtain ⟨l, hl⟩ := dvd_emod p a
    refine ⟨k * (a % p) + a ^ n * l, ?_⟩
    rw [Int.pow_succ, Int.pow_succ, Int.mul_add, ← Int.mul_assoc, ← hk]
    rw [show p * (a ^ n * l) = a ^ n * (p * l) by grind, ← hl]
    clear hk hl
    generalize (a % p) ^ n = U
    generalize a ^ n = V
    generalize a % p = b
    grind
theorem two_pow (s : Int) (k : Nat) : s ^ (2 * k) = (s * s) ^ k := by
  rw [Int.pow_mul, Int.pow_succ, Int.pow_succ, Int.pow_zero, Int.one_mul]
theorem fp_even {p f s : Int} {k : Nat} : p ∣ f * (s * s % p) ^ k - f * s ^ (2 * k) := by
  rw [two_pow, ← Int.mul_sub]
  obtain ⟨l, hl⟩ := pow_dvd p (s * s) k
  exact ⟨f * l, by rw [hl]; grind⟩
theorem fp_odd {p f s : Int} {k : Nat} : p ∣ f * s % p * (s * s % p) ^ k - f * s ^ (2 * k + 1) := by
  rw [Int.pow_succ, two_pow]
  obtain ⟨l, hl⟩ := pow_dvd p (s * s) k
  obtain ⟨j, hj⟩ := dvd_emod p (f * s)
  refine ⟨j * (s * s % p) ^ k + f * s * l, ?_⟩
  rw [Int.mul_add, ← Int.mul_assoc p j, ← hj, show p * (f * s * l) = f * s * (p * l) by grind, ← hl]
  clear hl hj
  generalize (s * s) ^ k = U
  generalize (s * s % p) ^ k = V
  generalize f * s % p = W
  grind
theorem fp_next {p f s t : Int} {m : Int} (hm : 0 < m) (h : p ∣ f * s ^ m.toNat - t) : p ∣ (if m % 2 = 1 then f * s % p else f) * (s * s % p) ^ (m / 2).toNat - t := by
  obtain ⟨a, ha⟩ := h
  by_cases h2 : m % 2 = 1
  · rw [if_pos h2]
    have e : m.toNat = 2 * (m / 2).toNat + 1 := by omega
    obtain ⟨b, hb⟩ := fp_odd (p := p) (f := f) (s := s) (k := (m / 2).toNat)
    rw [e] at ha
    exact ⟨a + b, by rw [Int.mul_add, ← ha, ← hb]; omega⟩
  · rw [if_neg h2]
    have e : m.toNat = 2 * (m / 2).toNat := by omega
    obtain ⟨b, hb⟩ := fp_even (p := p) (f := f) (s := s) (k := (m / 2).toNat)
    rw [e] at ha
    exact ⟨a + b, by rw [Int.mul_add, ← ha, ← hb]; omega⟩
theorem fp_in {p f s : Int} {m : Int} (h0 : 0 ≤ f ∧ f < p) : 0 ≤ (if m % 2 = 1 then f * s % p else f) ∧ (if m % 2 = 1 then f * s % p else f) < p := by
  by_cases h2 : m % 2 = 1
  · rw [if_pos h2]; exact ⟨Int.emod_nonneg _ (by omega), Int.emod_lt_of_pos _ (by omega)⟩
  · rw [if_neg h2]; exact h0
theorem fp_end {p f s t : Int} {m : Int} (hm : ¬ 0 < m) (h0 : 0 ≤ f ∧ f < p) (h : p ∣ f * s ^ m.toNat - t) : f = t % p := by
  have e : m.toNat = 0 := by omega
  rw [e, Int.pow_zero, Int.mul_one] at h
  have := emod_of_dvd h
  rw [Int.emod_eq_of_lt h0.1 h0.2] at this
  exact this
theorem pr_two {p : Int} (hp : Pr p) : 2 ≤ p ∧ p < 100000 := by have := hp.lt; omega
theorem in_p {p : Int} (hp : Pr p) (a : Int) : 0 ≤ a % p ∧ a % p < p := ⟨Int.emod_nonneg _ (by have := hp.lt; omega), Int.emod_lt_of_pos _ (by have := hp.lt; omega)⟩
/-- the due term where x times x is 1 -/
theorem due_sq {p x m : Int} (hp : Pr p) (h0 : 1 ≤ x) (h1 : x < p) (hs : x * x % p = 1) (hm : 0 ≤ m) :
    Tm p ((x + iv p x) % p) (m % (2 * (ln p ((x + iv p x) % p) : Int))).toNat = (m + 1) * (x ^ m.toNat % p) % p := by
  have hpl := pr_two hp
  have hd := in_p hp (x + iv p x)
  rw [Tm_far hp hd.1 hd.2 hm]
  have hi : iv p x = x := (wx_ok hp h0 h1).2.2.1 hs
  rw [hi] at hd ⊢
  have h2 : p ∣ x * x - 1 := by
    obtain ⟨k, hk⟩ := dvd_emod p (x * x)
    rw [hs] at hk
    exact ⟨-k, by rw [Int.mul_neg, ← hk]; omega⟩
  obtain ⟨a, ha⟩ := Tm_sq (dvd_emod p (x + x)) h2 m.toNat
  obtain ⟨b, hb⟩ := dvd_emod p (x ^ m.toNat)
  obtain ⟨c, hc⟩ := dvd_emod p ((m + 1) * (x ^ m.toNat % p))
  have ht := Tm_lt (by omega : 0 < p) hd.1 hd.2 m.toNat
  have hu := in_p hp ((m + 1) * (x ^ m.toNat % p))
  refine eq_of_dvd ht.1 ht.2 hu.1 hu.2 ⟨a - (m + 1) * b - c, ?_⟩
  have e : p * (a - (m + 1) * b - c) = p * a - (m + 1) * (p * b) - p * c := by grind
  rw [e, ← ha, ← hb, ← hc, Int.toNat_of_nonneg hm]
  clear e ha hb hc
  generalize Tm p ((x + x) % p) m.toNat = T
  generalize (m + 1) * (x ^ m.toNat % p) % p = U
  generalize x ^ m.toNat % p = V
  generalize x ^ m.toNat = W
  grind
theorem ne_mod {p x y : Int} (h : x ≠ y) (hx : 0 ≤ x ∧ x < p) (hy : 0 ≤ y ∧ y < p) : (x - y) % p ≠ 0 := fun e => h (eq_of_dvd hx.1 hx.2 hy.1 hy.2 (Int.dvd_of_emod_eq_zero e))
/-- the due term else -/
theorem due_ne {p x m : Int} (hp : Pr p) (h0 : 1 ≤ x) (h1 : x < p) (hs : x * x % p ≠ 1) (hm : 0 ≤ m) :
    Tm p ((x + iv p x) % p) (m % (2 * (ln p ((x + iv p x) % p) : Int))).toNat = ((x ^ (m + 1).toNat % p - iv p x ^ (m + 1).toNat % p) % p) * iv p ((x - iv p x) % p) % p := by
  have hpl := pr_two hp
  have hd := in_p hp (x + iv p x)
  rw [Tm_far hp hd.1 hd.2 hm]
  have hi := iv_ok hp h0 h1
  have hne : iv p x ≠ x := (wx_ok hp h0 h1).2.2.2 hs
  have hz0 := ne_mod (fun e => hne e.symm : x ≠ iv p x) ⟨by omega, h1⟩ ⟨by omega, hi.2.2⟩
  have hz := in_p hp (x - iv p x)
  have hz1 := iv_ok hp (y := (x - iv p x) % p) (by omega) hz.2
  have h2 : p ∣ x * iv p x - 1 := by
    obtain ⟨k, hk⟩ := dvd_emod p (x * iv p x)
    rw [hi.1] at hk
    exact ⟨-k, by rw [Int.mul_neg, ← hk]; omega⟩
  obtain ⟨a, ha⟩ := Tm_pow (dvd_emod p (x + iv p x)) h2 m.toNat
  have e1 : m.toNat + 1 = (m + 1).toNat := by omega
  rw [e1] at ha
  have ht := Tm_lt (by omega : 0 < p) hd.1 hd.2 m.toNat
  have hu := in_p hp (((x ^ (m + 1).toNat % p - iv p x ^ (m + 1).toNat % p) % p) * iv p ((x - iv p x) % p))
  obtain ⟨b, hb⟩ := dvd_emod p (x ^ (m + 1).toNat)
  obtain ⟨c, hc⟩ := dvd_emod p (iv p x ^ (m + 1).toNat)
  obtain ⟨g, hg⟩ := dvd_emod p (x ^ (m + 1).toNat % p - iv p x ^ (m + 1).toNat % p)
  obtain ⟨f, hf⟩ := dvd_emod p (((x ^ (m + 1).toNat % p - iv p x ^ (m + 1).toNat % p) % p) * iv p ((x - iv p x) % p))
  obtain ⟨n, hn⟩ := dvd_emod p (x - iv p x)
  obtain ⟨q, hq⟩ := dvd_emod p ((x - iv p x) % p * iv p ((x - iv p x) % p))
  rw [hz1.1] at hq
  refine eq_of_dvd ht.1 ht.2 hu.1 hu.2 ?_
  clear hz0 hz hz1 hne hi hd hpl h2 e1 ht hu
  generalize Tm p ((x + iv p x) % p) m.toNat = T at *
  generalize iv p ((x - iv p x) % p) = I at *
  generalize ((x ^ (m + 1).toNat % p - iv p x ^ (m + 1).toNat % p) % p) * I % p = R at *
  generalize (x ^ (m + 1).toNat % p - iv p x ^ (m + 1).toNat % p) % p = L at *
  generalize x ^ (m + 1).toNat % p = Xm at *
  generalize iv p x ^ (m + 1).toNat % p = Ym at *
  generalize x ^ (m + 1).toNat = X at *
  generalize iv p x ^ (m + 1).toNat = Y at *
  generalize (x - iv p x) % p = Z at *
  generalize iv p x = y at *
  -- T - R, R = L I, L = X - Y = (x - y) T = Z T, Z I = 1
  refine ⟨a * I - f - g * I - b * I + c * I + n * T * I + q * T, ?_⟩
  have e : p * (a * I - f - g * I - b * I + c * I + n * T * I + q * T) = (p * a) * I - p * f - (p * g) * I - (p * b) * I + (p * c) * I + (p * n) * (T * I) + (p * q) * T := by clear ha hb hc hg hf hn hq; grind
  rw [e, ← ha, ← hb, ← hc, ← hg, ← hf, ← hn, ← hq]
  clear e ha hb hc hg hf hn hq
  grind
/-! rows and lengths, looked through -/
theorem zeros_all : ∀ q ∈ ps, ∀ e, e < q → (rg 41).filter (fun m => decide (Tm q e m.toNat = 0)) = (rg 41).filter (fun m => decide ((m + 1) % (ln q e : Int) = 0)) := by decide +kernel
theorem add_all : ∀ q ∈ ps, ∀ e, e < q → ∀ i, i < 20 → ∀ j, j < 20 → (Tm q e i * Tm q e (j + 1) - (if 0 < i then Tm q e (i - 1) else 0) * Tm q e j) % (q : Int) = Tm q e (i + (j + 1)) := by decide +kernel
theorem far_all : ∀ q ∈ ps, ∀ e, e < q → ∀ r, r < 2 * ln q e → Tm q e ((r + ln q e) % (2 * ln q e)) = Tm q e (ln q e) * Tm q e r % (q : Int) := by decide +kernel
theorem tr_atk {p d : Int} {n k : Nat} (h1 : 1 ≤ k) (h2 : k ≤ n) : atI (il (tr p d n)) (((il (tr p d n)).length : Int) - (k : Int)) = some (.int (Tm p d (n - k))) := by
  have e : (((il (tr p d n)).length : Int) - (k : Int)).toNat = n - k := by rw [il_len, tr_len]; omega
  rw [← e]
  exact tr_at (by rw [il_len, tr_len]; omega) (by rw [il_len, tr_len]; omega)
/-! the length, sought -/
def LI (l : Int) (m : Nat) (S : List Int) : Prop := ((m : Int) ≤ l - 2 → S = []) ∧ (l - 2 < (m : Int) → ∃ r, S = l :: r)
theorem LI.yes {l : Int} {m : Nat} {S : List Int} (h : LI l m S) (hl : l ≤ m + 2) : LI l (m + 1) (S ++ [2 + (m : Int)]) := by
  refine ⟨fun z => by omega, fun _ => ?_⟩
  by_cases e : l = m + 2
  · rw [h.1 (by omega), e]
    exact ⟨[], by rw [Int.add_comm]; rfl⟩
  · obtain ⟨r, e2⟩ := h.2 (by omega)
    rw [e2]
    exact ⟨r ++ [2 + (m : Int)], rfl⟩
theorem LI.no {l : Int} {m : Nat} {S : List Int} (h : LI l m S) (hl : l ≠ m + 2) : LI l (m + 1) S := ⟨fun z => h.1 (by omega), fun z => h.2 (by omega)⟩
theorem spx_one {p x : Int} (h : x * x % p = 1) : spx p x = p := by unfold spx sqx; rw [if_pos h]
theorem spx_od {p x : Int} (h : x * x % p ≠ 1) : spx p x = (od p (x * x % p) : Int) := by unfold spx sqx; rw [if_neg h]
theorem one_iv {p x : Int} (hp : Pr p) (h0 : 1 ≤ x) (h1 : x < p) : 1 * iv p x % p = iv p x := by
  have h := iv_ok hp h0 h1
  rw [Int.one_mul, Int.emod_eq_of_lt (by omega) h.2.2]
theorem rg_mem {p d : Int} (h0 : 0 ≤ d) (h1 : d < p) : d ∈ rg p := List.mem_map.mpr ⟨d.toNat, List.mem_range.mpr (by omega), Int.toNat_of_nonneg h0⟩
theorem mem_rg {p d : Int} (h : d ∈ rg p) : 0 ≤ d ∧ d < p := by
  obtain ⟨i, hi, e⟩ := List.mem_map.mp h
  have := List.mem_range.mp hi
  omega
theorem wo_mem {p d l : Int} (h0 : 0 ≤ d) (h1 : d < p) (h : (ln p d : Int) = l) : d ∈ wo p l := List.mem_filter.mpr ⟨rg_mem h0 h1, decide_eq_true h⟩
theorem jl_a {p d v : Int} (h : v = (ln p d : Int)) : jl p d v = .none := by unfold jl; rw [if_pos h]
theorem jl_b {p d v : Int} (h : v ≠ (ln p d : Int)) (h2 : (ln p d : Int) < v) : jl p d v = .tuple [.str "early", .int (ln p d)] := by unfold jl; rw [if_neg h, if_pos h2]
theorem jl_c {p d v : Int} (h : v ≠ (ln p d : Int)) (h2 : ¬ (ln p d : Int) < v) : jl p d v = .tuple [.str "term", .int (Tm p d (v - 1).toNat)] := by unfold jl; rw [if_neg h, if_neg h2]
theorem Pr.small {p a : Int} (hp : Pr p) (h0 : 0 ≤ a) (h1 : a ≤ p + 1) : a.natAbs < 2 ^ 1900 := by
  have := hp.lt
  exact Nat.lt_of_lt_of_le (show a.natAbs < 2 ^ 10 by omega) (Nat.pow_le_pow_right (by decide) (by decide))
theorem tr_rp {p d : Int} {n : Nat} (hp : Pr p) (h0 : 0 ≤ d) (h1 : d < p) (hn : n ≤ 5000) : Rp (.list (il (tr p d n))) := by
  refine il_rp (fun x hx => ?_) (by rw [tr_len]; exact hn)
  obtain ⟨i, hi, rfl⟩ := tr_mem hx
  have := Tm_lt (show 0 < p by have := hp.lt; omega) h0 h1 i
  exact hp.small this.1 (by omega)
theorem rpSI {s : Str} {i : Int} (h1 : PyData.showable (.str s) = true) (h2 : wt (.str s) ≤ 100) (h : i.natAbs < 2 ^ 1900) : Rp (.tuple [.str s, .int i]) := by
  have h3 : PyData.showableAll (il [i]) = true := il_showable [i] (fun n hn => by rw [List.mem_singleton.mp hn]; exact h)
  refine Rp.of ?_ rfl (show (1 : Nat) ≤ 40 by decide) ?_
  · show (PyData.showable (.str s) && PyData.showableAll (il [i])) = true
    rw [h1, h3]; rfl
  · have h4 : wtA (il [i]) = 1924 * 1 := il_wt [i]
    show wt (.tuple [.str s, .int i]) ≤ 16777216
    have h5 : wt (.tuple [.str s, .int i]) = wt (.tuple (.str s :: il [i])) := rfl
    rw [h5]
    simp only [wt, wtA] at *
    omega
theorem jl_rp {p d v : Int} (hp : Pr p) (h0 : 0 ≤ d) (h1 : d < p) : Rp (jl p d v) := by
  have hl := ln_ok hp h0 h1
  have ht := Tm_lt (show 0 < p by have := hp.lt; omega) h0 h1 (v - 1).toNat
  unfold jl
  split
  · exact rpN
  · split
    · exact rpSI (by decide +kernel) (by decide +kernel) (hp.small (by omega) hl.2.1)
    · exact rpSI (by decide +kernel) (by decide +kernel) (hp.small ht.1 (by omega))
theorem due_add {p d r s : Int} (hp : Pr p) (h0 : 0 ≤ d) (h1 : d < p) (hr : 0 ≤ r) (hr2 : r < 20 ∨ r = 0) (hs : 0 ≤ s) (hs2 : s < 20 ∨ s = 0) :
    (Tm p d r.toNat * Tm p d (1 + s).toNat - (if 0 < r then Tm p d (r - 1).toNat else 0) * Tm p d (1 + s - 1).toNat) % p = Tm p d (r + (1 + s)).toNat := by
  have h := each add_all hp h0 h1
  obtain ⟨e1, e2⟩ := to_nat2 hp h0
  rw [e1, e2] at h
  have h2 := h r.toNat (by omega) s.toNat (by omega)
  rw [show (1 + s).toNat = s.toNat + 1 by omega, show (1 + s - 1).toNat = s.toNat by omega, show (r + (1 + s)).toNat = r.toNat + (s.toNat + 1) by omega, ← h2]
  by_cases e : 0 < r
  · rw [if_pos e, if_pos (by omega), show (r - 1).toNat = r.toNat - 1 by omega]
  · rw [if_neg e, if_neg (by omega)]
theorem far_shift {p d m : Int} (hp : Pr p) (h0 : 0 ≤ d) (h1 : d < p) (hm : 0 ≤ m) :
    Tm p d ((m + (ln p d : Int)) % (2 * (ln p d : Int))).toNat = Tm p d ((ln p d : Int)).toNat * Tm p d (m % (2 * (ln p d : Int))).toNat % p := by
  have h := each far_all hp h0 h1
  obtain ⟨e1, e2⟩ := to_nat2 hp h0
  rw [e1, e2] at h
  have hl := ln_ok hp h0 h1
  have a0 := Int.emod_nonneg m (show 2 * (ln p d : Int) ≠ 0 by omega)
  have a1 := Int.emod_lt_of_pos m (show 0 < 2 * (ln p d : Int) by omega)
  have h2 := h (m % (2 * (ln p d : Int))).toNat (by omega)
  rw [show ((ln p d : Int)).toNat = ln p d from rfl, ← h2]
  have e3 : ((((m % (2 * (ln p d : Int))).toNat + ln p d) % (2 * ln p d) : Nat) : Int) = (m + (ln p d : Int)) % (2 * (ln p d : Int)) := by
    rw [Int.natCast_emod, Int.natCast_add, Int.toNat_of_nonneg a0]
    show (m % (2 * (ln p d : Int)) + (ln p d : Int)) % (2 * (ln p d : Int)) = _
    rw [Int.emod_add_emod]
  have e4 : ((m + (ln p d : Int)) % (2 * (ln p d : Int))).toNat = ((m % (2 * (ln p d : Int))).toNat + ln p d) % (2 * ln p d) := by omega
  rw [e4]
/-! the whole law -/
theorem pick_pr {r : Int} (h0 : 0 ≤ r) (h1 : r < 6 ∨ r = 0) : ∃ p : Int, Pr p ∧ atI [.int 2, .int 3, .int 5, .int 7, .int 11, .int 13] r = some (PyData.int p) := by
  obtain ⟨j, rfl⟩ : ∃ j : Nat, r = (j : Int) := ⟨r.toNat, by omega⟩
  have hj : j < 6 := by omega
  have : j = 0 ∨ j = 1 ∨ j = 2 ∨ j = 3 ∨ j = 4 ∨ j = 5 := by omega
  rcases this with rfl | rfl | rfl | rfl | rfl | rfl
  · exact ⟨2, ⟨2, by decide, rfl⟩, atI_nat (j := 0) rfl⟩
  · exact ⟨3, ⟨3, by decide, rfl⟩, atI_nat (j := 1) rfl⟩
  · exact ⟨5, ⟨5, by decide, rfl⟩, atI_nat (j := 2) rfl⟩
  · exact ⟨7, ⟨7, by decide, rfl⟩, atI_nat (j := 3) rfl⟩
  · exact ⟨11, ⟨11, by decide, rfl⟩, atI_nat (j := 4) rfl⟩
  · exact ⟨13, ⟨13, by decide, rfl⟩, atI_nat (j := 5) rfl⟩
theorem lns_len (p : Int) : (lns p).length = p.toNat := by unfold lns; rw [List.length_map, rg_len]
theorem lns_mem {p x : Int} (hp : Pr p) (h : x ∈ lns p) : 2 ≤ x ∧ x ≤ p + 1 := by
  obtain ⟨d, hd, rfl⟩ := List.mem_map.mp h
  have h2 := mem_rg hd
  have h3 := ln_ok hp h2.1 h2.2
  show 2 ≤ (ln p d : Int) ∧ (ln p d : Int) ≤ p + 1
  omega
theorem two_all : ∀ q ∈ ps, ∀ e, e < q → ln q 0 = 2 := by decide +kernel
theorem lns_two {p : Int} (hp : Pr p) : 2 ∈ lns p := by
  have hpl := hp.lt
  have h := each two_all hp (d := 0) (by omega) (by omega)
  rw [(to_nat2 hp (d := 0) (by omega)).1] at h
  refine List.mem_map.mpr ⟨0, rg_mem (by omega) (by omega), ?_⟩
  show ((ln p 0 : Nat) : Int) = 2
  rw [h]; rfl
theorem lns_at {p : Int} {m : Nat} (h : (m : Int) < p) : atI (il (lns p)) (m : Int) = some (.int (ln p m)) := by
  refine il_at (atI_nat ?_)
  unfold lns rg
  rw [List.getElem?_map, List.getElem?_map, List.getElem?_range (by omega)]
  rfl
theorem lns_rp {p : Int} (hp : Pr p) : Rp (.list (il (lns p))) := il_rp (fun x hx => by have := lns_mem hp hx; exact hp.small (by omega) this.2) (by rw [lns_len]; have := hp.lt; omega)
theorem wo_rp {p l : Int} (hp : Pr p) : Rp (.tuple (il (wo p l))) := by
  refine il_rpT (fun x hx => ?_) ?_
  · have := mem_rg (List.mem_filter.mp hx).1
    exact hp.small this.1 (by omega)
  · have h1 : (wo p l).length ≤ (rg p).length := List.length_filter_le ..
    rw [rg_len] at h1
    have := hp.lt
    omega
def prf (p x : Int) : Int := (x + iv p x) % p
def prs (p : Int) : List Int := (List.range (p - 1).toNat).map fun (i : Nat) => prf p (1 + (i : Int))
theorem wide_all : ∀ q ∈ ps, ∀ e, e < q → ((ln q e : Int) = (q : Int) ∨ (if (e : Int) ∈ prs q then (q : Int) - 1 else (q : Int) + 1) % (ln q e : Int) = 0) := by decide +kernel
theorem wide_ok {p : Int} {m : Nat} (hp : Pr p) (h1 : (m : Int) < p) : (ln p m : Int) = p ∨ (if (m : Int) ∈ prs p then p - 1 else p + 1) % (ln p m : Int) = 0 := by
  have h := each wide_all hp (d := (m : Int)) (by omega) h1
  rw [(to_nat2 hp (d := 0) (by omega)).1] at h
  exact h
section
variable {Pg : Program} {w : World} {K : PySem.W.Frag} {mg : Str → Option Value} {base : Heap} {k : Nat}
abbrev W_is_whole : Wp := fun as Q => ∃ d, as = [.dat d] ∧ Q (.bool (isWh d))
abbrev W_number : Wp := fun as Q => ∃ p n : Int, as = [dI p, dI n] ∧ 0 < p ∧ Q (.int (n % p))
abbrev W_plus : Wp := fun as Q => ∃ p x y : Int, as = [dI p, dI x, dI y] ∧ 0 < p ∧ Q (.int ((x + y) % p))
abbrev W_minus : Wp := fun as Q => ∃ p x y : Int, as = [dI p, dI x, dI y] ∧ 0 < p ∧ Q (.int ((x - y) % p))
abbrev W_times : Wp := fun as Q => ∃ p x y : Int, as = [dI p, dI x, dI y] ∧ 0 < p ∧ (0 ≤ x ∧ x < 100000) ∧ Q (.int (x * y % p))
abbrev W_over : Wp := fun as Q => ∃ p x y : Int, as = [dI p, dI x, dI y] ∧ 2 ≤ p ∧ p < 100000 ∧ (0 ≤ x ∧ x < 100000) ∧ 0 ≤ y ∧ y < 100000 ∧ Q (.int (x * pm p y (p - 2).toNat % p))
abbrev W_power : Wp := fun as Q => ∃ p y m : Int, as = [dI p, dI y, dI m] ∧ 2 ≤ p ∧ p < 100000 ∧ 0 ≤ y ∧ y < 100000 ∧ -10 ≤ m ∧ m < 100000 ∧ Q (.int (pm p y m.toNat))
abbrev W_worth_row : Wp := fun as Q => ∃ p d m : Int, as = [dI p, dI d, dI m] ∧ 0 < p ∧ p < 100000 ∧ (0 ≤ d ∧ d < p) ∧ (0 ≤ m ∧ m ≤ 5000) ∧ Q (.list (il (tr p d (m + 1).toNat)))
abbrev W_term : Wp := fun as Q => ∃ p d m : Int, as = [dI p, dI d, dI m] ∧ Pr p ∧ (0 ≤ d ∧ d < p) ∧ 0 ≤ m ∧ Q (.int (Tm p d (m % (2 * (ln p d : Int))).toNat))
abbrev W_length : Wp := fun as Q => ∃ p d : Int, as = [dI p, dI d] ∧ Pr p ∧ (0 ≤ d ∧ d < p) ∧ Q (.int (ln p d))
abbrev W_judge_length : Wp := fun as Q => ∃ p d v : Int, as = [dI p, dI d, dI v] ∧ Pr p ∧ (0 ≤ d ∧ d < p) ∧ (2 ≤ v ∧ v ≤ 4000) ∧ Q (jl p d v)
abbrev W_lengths_of : Wp := fun as Q => ∃ p : Int, as = [dI p] ∧ Pr p ∧ Q (.list (il (lns p)))
abbrev W_worths_of : Wp := fun as Q => ∃ p l : Int, as = [dI p, dI l] ∧ Pr p ∧ Q (.tuple (il (wo p l)))
abbrev W_worths_with_length : Wp := fun as Q => ∃ p : Int, as = [dI p] ∧ Pr p ∧ Q (.list (il (rg p)))
abbrev W_law_pick : Wp := fun as Q => ∃ m : Int, as = [.src, dI m] ∧ m < 2 ^ 200 ∧ ∀ r : Int, 0 ≤ r → (r < m ∨ r = 0) → Q (.int r)
/-! is_whole -/
abbrev s_is_whole : Stmt := topS 2
theorem sc_is_whole : FnScope ["value"] ["value"] (defScope s_is_whole) := ⟨rfl, rfl, rfl, by decide +kernel, rfl, by decide +kernel, by decide +kernel⟩
theorem ok_is_whole {f : Addr} {fd : FuncData} (F : Fun K "is_whole" "is_whole" s_is_whole f fd) (B : Blt mg)   : FnG Pg w K mg base (k + 1) f fd ["value"] (spOf K W_is_whole) := by
  refine okFn F sc_is_whole (by rintro as Q ⟨d, rfl, hQ⟩; rfl) ?_
  rintro X C Fx as Q ⟨d, rfl, hQ⟩
  refine BN.cons ?_
  refine SN.ret ?_
  refine EN.and ?_
  refine EN.isi (t := "int") C rfl B.isi rfl B.int (by decide +kernel) (by decide) (by decide) ?_ rfl rfl rfl
  refine EN.var (i := 0) C rfl (by walk_at "vis") rfl ?_
  refine ⟨_, kit_int _, ?_⟩
  refine ⟨_, rfl, fun hb => ?_, fun hb => ?_⟩
  · refine EN.one ?_
    refine EN.not ?_
    refine EN.isi (t := "bool") C rfl B.isi rfl B.bool (by decide +kernel) (by decide) (by decide) ?_ rfl rfl rfl
    refine EN.var (i := 0) C rfl (by walk_at "vis") rfl ?_
    refine ⟨_, kit_bool _, ?_⟩
    refine ⟨_, rfl, ?_⟩
    first
      | (have e : isWh d = !isB d := by cases d <;> first | rfl | exact Bool.noConfusion hb
         rw [e] at hQ
         exact hQ)
      | (have e : isWh d = false := by cases d <;> first | rfl | exact Bool.noConfusion hb
         rw [e] at hQ
         exact hQ)
  · first
      | (have e : isWh d = !isB d := by cases d <;> first | rfl | exact Bool.noConfusion hb
         rw [e] at hQ
         exact hQ)
      | (have e : isWh d = false := by cases d <;> first | rfl | exact Bool.noConfusion hb
         rw [e] at hQ
         exact hQ)
/-! number -/
abbrev s_number : Stmt := topS 3
theorem sc_number : FnScope ["p", "n"] ["p", "n"] (defScope s_number) := ⟨rfl, rfl, rfl, by decide +kernel, rfl, by decide +kernel, by decide +kernel⟩
theorem ok_number {f : Addr} {fd : FuncData} (F : Fun K "number" "number" s_number f fd) (B : Blt mg)   : FnG Pg w K mg base (k + 1) f fd ["p", "n"] (spOf K W_number) := by
  refine okFn F sc_number (by rintro as Q ⟨p, n, rfl, hp, hQ⟩; rfl) ?_
  rintro X C Fx as Q ⟨p, n, rfl, hp, hQ⟩
  refine BN.cons ?_
  refine SN.ife ?_
  refine TN.eq C ?_
  refine EN.var (i := 0) C rfl (by walk_at "vis") rfl ?_
  refine EN.int ?_
  refine Eqi (fun hb => ?_) (fun hb => ?_)
  · exfalso
    omega
  · walk_at "go"
    refine BN.nil ?_
    refine BN.cons ?_
    refine SN.ret ?_
    refine EN.mod ?_
    refine EN.var (i := 1) C rfl (by walk_at "vis") rfl ?_
    refine EN.var (i := 0) C rfl (by walk_at "vis") rfl ?_
    refine ModI.i (by omega) ?_
    first | assumption | rfl
/-! plus -/
abbrev s_plus : Stmt := topS 4
theorem sc_plus : FnScope ["p", "x", "y", "u", "e", "v", "f"] ["p", "x", "y"] (defScope s_plus) := ⟨rfl, rfl, rfl, by decide +kernel, rfl, by decide +kernel, by decide +kernel⟩
theorem ok_plus {f : Addr} {fd : FuncData} (F : Fun K "plus" "plus" s_plus f fd) (B : Blt mg)   : FnG Pg w K mg base (k + 1) f fd ["p", "x", "y"] (spOf K W_plus) := by
  refine okFn F sc_plus (by rintro as Q ⟨p, x, y, rfl, hp, hQ⟩; rfl) ?_
  rintro X C Fx as Q ⟨p, x, y, rfl, hp, hQ⟩
  refine BN.cons ?_
  refine SN.ife ?_
  refine TN.eq C ?_
  refine EN.var (i := 0) C rfl (by walk_at "vis") rfl ?_
  refine EN.int ?_
  refine Eqi (fun hb => ?_) (fun hb => ?_)
  · exfalso
    omega
  · walk_at "go"
    refine BN.nil ?_
    refine BN.cons ?_
    refine SN.ret ?_
    refine EN.mod ?_
    refine EN.add ?_
    refine EN.var (i := 1) C rfl (by walk_at "vis") rfl ?_
    refine EN.var (i := 2) C rfl (by walk_at "vis") rfl ?_
    refine AddD.i ?_
    refine EN.var (i := 0) C rfl (by walk_at "vis") rfl ?_
    refine ModI.i (by omega) ?_
    first | assumption | rfl
/-! minus -/
abbrev s_minus : Stmt := topS 5
theorem sc_minus : FnScope ["p", "x", "y", "u", "e", "v", "f"] ["p", "x", "y"] (defScope s_minus) := ⟨rfl, rfl, rfl, by decide +kernel, rfl, by decide +kernel, by decide +kernel⟩
theorem ok_minus {f : Addr} {fd : FuncData} (F : Fun K "minus" "minus" s_minus f fd) (B : Blt mg)   : FnG Pg w K mg base (k + 1) f fd ["p", "x", "y"] (spOf K W_minus) := by
  refine okFn F sc_minus (by rintro as Q ⟨p, x, y, rfl, hp, hQ⟩; rfl) ?_
  rintro X C Fx as Q ⟨p, x, y, rfl, hp, hQ⟩
  refine BN.cons ?_
  refine SN.ife ?_
  refine TN.eq C ?_
  refine EN.var (i := 0) C rfl (by walk_at "vis") rfl ?_
  refine EN.int ?_
  refine Eqi (fun hb => ?_) (fun hb => ?_)
  · exfalso
    omega
  · walk_at "go"
    refine BN.nil ?_
    refine BN.cons ?_
    refine SN.ret ?_
    refine EN.mod ?_
    refine EN.sub ?_
    refine EN.var (i := 1) C rfl (by walk_at "vis") rfl ?_
    refine EN.var (i := 2) C rfl (by walk_at "vis") rfl ?_
    refine SubI.i ?_
    refine EN.var (i := 0) C rfl (by walk_at "vis") rfl ?_
    refine ModI.i (by omega) ?_
    first | assumption | rfl
/-! times -/
abbrev s_times : Stmt := topS 6
theorem sc_times : FnScope ["p", "x", "y", "u", "e", "v", "f"] ["p", "x", "y"] (defScope s_times) := ⟨rfl, rfl, rfl, by decide +kernel, rfl, by decide +kernel, by decide +kernel⟩
theorem ok_times {f : Addr} {fd : FuncData} (F : Fun K "times" "times" s_times f fd) (B : Blt mg)   : FnG Pg w K mg base (k + 1) f fd ["p", "x", "y"] (spOf K W_times) := by
  refine okFn F sc_times (by rintro as Q ⟨p, x, y, rfl, hp, hx, hQ⟩; rfl) ?_
  rintro X C Fx as Q ⟨p, x, y, rfl, hp, hx, hQ⟩
  refine BN.cons ?_
  refine SN.ife ?_
  refine TN.eq C ?_
  refine EN.var (i := 0) C rfl (by walk_at "vis") rfl ?_
  refine EN.int ?_
  refine Eqi (fun hb => ?_) (fun hb => ?_)
  · exfalso
    omega
  · walk_at "go"
    refine BN.nil ?_
    refine BN.cons ?_
    refine SN.ret ?_
    refine EN.mod ?_
    refine EN.mul ?_
    refine EN.var (i := 1) C rfl (by walk_at "vis") rfl ?_
    refine EN.var (i := 2) C rfl (by walk_at "vis") rfl ?_
    refine MulD.i (by walk_at "mulok") ?_
    refine EN.var (i := 0) C rfl (by walk_at "vis") rfl ?_
    refine ModI.i (by omega) ?_
    first | assumption | rfl
/-! over -/
abbrev s_over : Stmt := topS 7
theorem sc_over : FnScope ["p", "x", "y", "u", "e", "v", "f"] ["p", "x", "y"] (defScope s_over) := ⟨rfl, rfl, rfl, by decide +kernel, rfl, by decide +kernel, by decide +kernel⟩
theorem ok_over {f : Addr} {fd : FuncData} (F : Fun K "over" "over" s_over f fd) (B : Blt mg) (T_power : Fd Pg w K mg base k "power" W_power)  : FnG Pg w K mg base (k + 1) f fd ["p", "x", "y"] (spOf K W_over) := by
  refine okFn F sc_over (by rintro as Q ⟨p, x, y, rfl, hp, hp2, hx, hy0, hy, hQ⟩; rfl) ?_
  rintro X C Fx as Q ⟨p, x, y, rfl, hp, hp2, hx, hy0, hy, hQ⟩
  refine BN.cons ?_
  refine SN.ife ?_
  refine TN.eq C ?_
  refine EN.var (i := 0) C rfl (by walk_at "vis") rfl ?_
  refine EN.int ?_
  refine Eqi (fun hb => ?_) (fun hb => ?_)
  · exfalso
    omega
  · walk_at "go"
    refine BN.nil ?_
    refine BN.cons ?_
    refine SN.ret ?_
    refine EN.mod ?_
    refine EN.mul ?_
    refine EN.var (i := 1) C rfl (by walk_at "vis") rfl ?_
    refine EN.call C T_power (by omega) rfl ?_ rfl rfl
    refine AN.cons rfl ?_
    refine EN.var (i := 0) C rfl (by walk_at "vis") rfl ?_
    refine AN.cons rfl ?_
    refine EN.var (i := 2) C rfl (by walk_at "vis") rfl ?_
    refine AN.cons rfl ?_
    refine EN.sub ?_
    refine EN.var (i := 0) C rfl (by walk_at "vis") rfl ?_
    refine EN.int ?_
    refine SubI.i ?_
    refine AN.nil ?_
    refine ⟨_, _, _, rfl, by omega, by omega, by omega, by omega, by omega, by omega, ?_⟩
    refine MulD.i (by walk_at "mulok") ?_
    refine EN.var (i := 0) C rfl (by walk_at "vis") rfl ?_
    refine ModI.i (by omega) ?_
    first | assumption | rfl
/-! power -/
abbrev s_power : Stmt := topS 8
theorem sc_power : FnScope ["p", "x", "m", "answer", "_"] ["p", "x", "m"] (defScope s_power) := ⟨rfl, rfl, rfl, by decide +kernel, rfl, by decide +kernel, by decide +kernel⟩
theorem ok_power {f : Addr} {fd : FuncData} (F : Fun K "power" "power" s_power f fd) (B : Blt mg) (T_number : Fd Pg w K mg base k "number" W_number) (T_times : Fd Pg w K mg base k "times" W_times)  : FnG Pg w K mg base (k + 1) f fd ["p", "x", "m"] (spOf K W_power) := by
  refine okFn F sc_power (by rintro as Q ⟨p, y, m, rfl, hp, hp2, hy0, hy, hm0, hm, hQ⟩; rfl) ?_
  rintro X C Fx as Q ⟨p, y, m, rfl, hp, hp2, hy0, hy, hm0, hm, hQ⟩
  have h1p : (1 : Int) % p = 1 := Int.emod_eq_of_lt (by decide) (by omega)
  refine BN.cons ?_
  refine SN.asg (i := 3) C Fx rfl (by walk_at "vis") rfl ?_
  refine EN.call C T_number (by omega) rfl ?_ rfl rfl
  refine AN.cons rfl ?_
  refine EN.var (i := 0) C rfl (by walk_at "vis") rfl ?_
  refine AN.cons rfl ?_
  refine EN.int ?_
  refine AN.nil ?_
  refine ⟨_, _, rfl, by omega, ?_⟩
  refine BN.cons ?_
  refine SN.for C (fun _ => rfl) ?_
  refine IN.r1 C rfl B.range rfl rfl ?_
  refine EN.var (i := 2) C rfl (by walk_at "vis") rfl ?_
  refine ⟨_, rfl, by omega, by omega, ?_⟩
  rw [rngD]
  refine ⟨fun i ρ => ∃ s, ρ = [dI p, dI y, dI m, dI (pm p y i), s], ?i1, ?turn1, ?done1⟩
  case i1 => exact ⟨_, by rw [h1p]; rfl⟩
  case turn1 =>
    rintro i d ρ' hd ⟨s, rfl⟩
    have hb := pm_lt p y (by omega) hp2 i
    refine GN.name (i := 4) C rfl (by walk_at "vis") (Or.inl (Fx _)) ?_
    refine BN.cons ?_
    refine SN.asg (i := 3) C Fx rfl (by walk_at "vis") rfl ?_
    refine EN.call C T_times (by omega) rfl ?_ rfl rfl
    refine AN.cons rfl ?_
    refine EN.var (i := 0) C rfl (by walk_at "vis") rfl ?_
    refine AN.cons rfl ?_
    refine EN.var (i := 3) C rfl (by walk_at "vis") rfl ?_
    refine AN.cons rfl ?_
    refine EN.var (i := 1) C rfl (by walk_at "vis") rfl ?_
    refine AN.nil ?_
    refine ⟨_, _, _, rfl, by omega, by omega, ?_⟩
    refine BN.nil ?_
    exact ⟨_, rfl⟩
  case done1 =>
    rintro ρ' ⟨s, rfl⟩
    rw [List.length_map, List.length_range, Int.sub_zero] at *
    refine BN.cons ?_
    refine SN.ret ?_
    refine EN.var (i := 3) C rfl (by walk_at "vis") rfl ?_
    first | assumption | rfl
/-! worth_row -/
abbrev s_worth_row : Stmt := topS 11
theorem sc_worth_row : FnScope ["p", "d", "m", "row"] ["p", "d", "m"] (defScope s_worth_row) := ⟨rfl, rfl, rfl, by decide +kernel, rfl, by decide +kernel, by decide +kernel⟩
theorem ok_worth_row {f : Addr} {fd : FuncData} (F : Fun K "worth_row" "worth_row" s_worth_row f fd) (B : Blt mg) (T_number : Fd Pg w K mg base k "number" W_number) (T_minus : Fd Pg w K mg base k "minus" W_minus) (T_times : Fd Pg w K mg base k "times" W_times)  : FnG Pg w K mg base (k + 1) f fd ["p", "d", "m"] (spOf K W_worth_row) := by
  refine okFn F sc_worth_row (by rintro as Q ⟨p, d, m, rfl, hp, hp2, ⟨hd0, hd⟩, ⟨hm0, hm⟩, hQ⟩; rfl) ?_
  rintro X C Fx as Q ⟨p, d, m, rfl, hp, hp2, ⟨hd0, hd⟩, ⟨hm0, hm⟩, hQ⟩
  refine BN.cons ?_
  refine SN.own (i := 3) C Fx rfl (by walk_at "vis") rfl ?_
  refine LN.cons rfl ?_
  refine EN.call C T_number (by omega) rfl ?_ rfl rfl
  refine AN.cons rfl ?_
  refine EN.var (i := 0) C rfl (by walk_at "vis") rfl ?_
  refine AN.cons rfl ?_
  refine EN.int ?_
  refine AN.nil ?_
  refine ⟨_, _, rfl, by omega, ?_⟩
  refine LN.cons rfl ?_
  refine EN.var (i := 1) C rfl (by walk_at "vis") rfl ?_
  refine LN.nil ?_
  refine ⟨Nat.le_of_ble_eq_true rfl, ?_⟩
  refine BN.cons ?_
  refine SN.while C (fun r ρ => ∃ n : Nat, 2 ≤ n ∧ r = (m + 1).toNat - n ∧ n ≤ 5001 ∧ (n = 2 ∨ (n : Int) ≤ m + 1) ∧ ρ = [dI p, dI d, dI m, .own (il (tr p d n))]) ((m + 1).toNat - 2) ?i1 ?turn1
  case i1 => exact ⟨2, by omega, rfl, by omega, Or.inl rfl, rfl⟩
  case turn1 =>
    rintro r ρ' ⟨n, hn, rfl, hn2, hn3, rfl⟩
    refine TN.le ?_
    refine EN.lenO (i := 3) C rfl B.len rfl (by walk_at "vis") rfl ?_ rfl rfl
    refine EN.var (i := 2) C rfl (by walk_at "vis") rfl ?_
    refine Ibd (fun hb => ?_) (fun hb => ?_)
    · walk_at "go"
      rw [il_len, tr_len] at hb
      refine BN.cons ?_
      refine SN.app (i := 3) C rfl (by walk_at "vis") rfl ?_ rfl rfl rfl rfl rfl rfl
      refine EN.call C T_minus (by omega) rfl ?_ rfl rfl
      refine AN.cons rfl ?_
      refine EN.var (i := 0) C rfl (by walk_at "vis") rfl ?_
      refine AN.cons rfl ?_
      refine EN.call C T_times (by omega) rfl ?_ rfl rfl
      refine AN.cons rfl ?_
      refine EN.var (i := 0) C rfl (by walk_at "vis") rfl ?_
      refine AN.cons rfl ?_
      refine EN.var (i := 1) C rfl (by walk_at "vis") rfl ?_
      refine AN.cons rfl ?_
      refine EN.ixO (i := 3) C rfl (by walk_at "vis") rfl (fun _ _ => rfl) ?_
      refine EN.neg ?_
      refine EN.int ?_
      refine ⟨_, rfl, ?_⟩
      refine ⟨_, _, rfl, tr_neg (k := 1) (by omega) (by omega), ?_⟩
      refine AN.nil ?_
      refine ⟨_, _, _, rfl, by omega, by omega, ?_⟩
      refine AN.cons rfl ?_
      refine EN.ixO (i := 3) C rfl (by walk_at "vis") rfl (fun _ _ => rfl) ?_
      refine EN.neg ?_
      refine EN.int ?_
      refine ⟨_, rfl, ?_⟩
      refine ⟨_, _, rfl, tr_neg (k := 2) (by omega) (by omega), ?_⟩
      refine AN.nil ?_
      refine ⟨_, _, _, rfl, by omega, ?_⟩
      refine ⟨by rw [il_len, tr_len]; exact Nat.lt_of_le_of_lt hn2 (by decide), ?_⟩
      refine BN.nil ?_
      refine ⟨(m + 1).toNat - (n + 1), by omega, n + 1, by omega, rfl, by omega, Or.inr (by omega), ?_⟩
      rw [il_tr_succ, Tm_step hn]
      rfl
    · walk_at "go"
      rw [il_len, tr_len] at hb
      refine BN.freeze (i := 3) rfl ?_
      refine BN.cons ?_
      refine SN.ret ?_
      refine EN.sl ?_
      refine EN.var (i := 3) C rfl (by walk_at "vis") rfl ?_
      -- part
      refine (show EN _ _ _ _ from ?_)
      refine EN.add ?_
      refine EN.var (i := 2) C rfl (by walk_at "vis") rfl ?_
      refine EN.int ?_
      refine AddD.i ?_
      refine ⟨_, rfl, ?_⟩
      refine CutD.l ?_
      have hc := tr_cut (p := p) (d := d) (n := n) (m := (m + 1).toNat) (by omega)
      rw [Int.toNat_of_nonneg (by omega)] at hc
      rw [hc]
      exact hQ
/-! term -/
abbrev s_term : Stmt := topS 12
theorem sc_term : FnScope ["p", "d", "m"] ["p", "d", "m"] (defScope s_term) := ⟨rfl, rfl, rfl, by decide +kernel, rfl, by decide +kernel, by decide +kernel⟩
theorem ok_term {f : Addr} {fd : FuncData} (F : Fun K "term" "term" s_term f fd) (B : Blt mg) (T_worth_row : Fd Pg w K mg base k "worth_row" W_worth_row) (T_length : Fd Pg w K mg base k "length" W_length)  : FnG Pg w K mg base (k + 1) f fd ["p", "d", "m"] (spOf K W_term) := by
  refine okFn F sc_term (by rintro as Q ⟨p, d, m, rfl, hp, ⟨hd0, hd⟩, hm0, hQ⟩; rfl) ?_
  rintro X C Fx as Q ⟨p, d, m, rfl, hp, ⟨hd0, hd⟩, hm0, hQ⟩
  have hpl := hp.lt
  obtain ⟨hl1, hl2, hl3, hl4, _⟩ := ln_ok hp hd0 hd
  have h1 := Int.emod_nonneg m (show (2 * (ln p d : Int)) ≠ 0 by omega)
  have h2 := Int.emod_lt_of_pos m (show (0 : Int) < 2 * (ln p d : Int) by omega)
  refine BN.cons ?_
  refine SN.ret ?_
  refine EN.ix (fun _ _ => rfl) ?_
  refine EN.call C T_worth_row (by omega) rfl ?_ rfl rfl
  refine AN.cons rfl ?_
  refine EN.var (i := 0) C rfl (by walk_at "vis") rfl ?_
  refine AN.cons rfl ?_
  refine EN.var (i := 1) C rfl (by walk_at "vis") rfl ?_
  refine AN.cons rfl ?_
  refine EN.mod ?_
  refine EN.var (i := 2) C rfl (by walk_at "vis") rfl ?_
  refine EN.mul ?_
  refine EN.int ?_
  refine EN.call C T_length (by omega) rfl ?_ rfl rfl
  refine AN.cons rfl ?_
  refine EN.var (i := 0) C rfl (by walk_at "vis") rfl ?_
  refine AN.cons rfl ?_
  refine EN.var (i := 1) C rfl (by walk_at "vis") rfl ?_
  refine AN.nil ?_
  refine ⟨_, _, rfl, by assumption, by omega, ?_⟩
  refine MulD.i (by walk_at "mulok") ?_
  refine ModI.i (by omega) ?_
  refine AN.nil ?_
  refine ⟨_, _, _, rfl, by omega, by omega, by omega, by omega, ?_⟩
  refine EN.neg ?_
  refine EN.int ?_
  refine ⟨_, rfl, ?_⟩
  refine IxD.l (tr_neg (k := 1) (by omega) (by omega)) ?_
  have e : (m % (2 * (ln p d : Int)) + 1).toNat - 1 = (m % (2 * (ln p d : Int))).toNat := by omega
  rw [e]
  exact hQ
/-! length -/
abbrev s_length : Stmt := topS 13
theorem sc_length : FnScope ["p", "d", "longest", "row", "nought"] ["p", "d"] (defScope s_length) := ⟨rfl, rfl, rfl, by decide +kernel, rfl, by decide +kernel, by decide +kernel⟩
theorem ok_length {f : Addr} {fd : FuncData} (F : Fun K "length" "length" s_length f fd) (B : Blt mg) (T_number : Fd Pg w K mg base k "number" W_number) (T_worth_row : Fd Pg w K mg base k "worth_row" W_worth_row)  : FnG Pg w K mg base (k + 1) f fd ["p", "d"] (spOf K W_length) := by
  refine okFn F sc_length (by rintro as Q ⟨p, d, rfl, hp, ⟨hd0, hd⟩, hQ⟩; rfl) ?_
  rintro X C Fx as Q ⟨p, d, rfl, hp, ⟨hd0, hd⟩, hQ⟩
  have hpl := hp.lt
  obtain ⟨hl1, hl2, hl3, hl4, _⟩ := ln_ok hp hd0 hd
  refine BN.cons ?_
  refine SN.asg (i := 2) C Fx rfl (by walk_at "vis") rfl ?_
  refine EN.ife ?_
  refine TN.trI (fun _ => rfl) ?_
  refine EN.var (i := 0) C rfl (by walk_at "vis") rfl ?_
  refine ⟨_, rfl, ?_⟩
  refine byB _ (fun hb => ?_) (fun hb => ?_)
  · walk_at "go"
    refine EN.add ?_
    refine EN.var (i := 0) C rfl (by walk_at "vis") rfl ?_
    refine EN.int ?_
    refine AddD.i ?_
    refine BN.cons ?_
    refine SN.asg (i := 3) C Fx rfl (by walk_at "vis") rfl ?_
    refine EN.call C T_worth_row (by omega) rfl ?_ rfl rfl
    refine AN.cons rfl ?_
    refine EN.var (i := 0) C rfl (by walk_at "vis") rfl ?_
    refine AN.cons rfl ?_
    refine EN.var (i := 1) C rfl (by walk_at "vis") rfl ?_
    refine AN.cons rfl ?_
    refine EN.sub ?_
    refine EN.var (i := 2) C rfl (by walk_at "vis") rfl ?_
    refine EN.int ?_
    refine SubI.i ?_
    refine AN.nil ?_
    refine ⟨_, _, _, rfl, by omega, by omega, by omega, by omega, ?_⟩
    refine BN.cons ?_
    refine SN.asg (i := 4) C Fx rfl (by walk_at "vis") rfl ?_
    refine EN.call C T_number (by omega) rfl ?_ rfl rfl
    refine AN.cons rfl ?_
    refine EN.var (i := 0) C rfl (by walk_at "vis") rfl ?_
    refine AN.cons rfl ?_
    refine EN.int ?_
    refine AN.nil ?_
    refine ⟨_, _, rfl, by omega, ?_⟩
    refine BN.cons ?_
    refine SN.ret ?_
    refine EN.ife ?_
    refine TN.inL C rfl ?_
    refine EN.var (i := 4) C rfl (by walk_at "vis") rfl ?_
    refine EN.var (i := 3) C rfl (by walk_at "vis") rfl ?_
    refine InI (fun hb => ?_) (fun hb => ?_)
    · walk_at "go"
      refine EN.add ?_
      refine EN.index C ?_ rfl rfl rfl rfl rfl
      refine EN.var (i := 3) C rfl (by walk_at "vis") rfl ?_
      refine ⟨_, rfl, ?_⟩
      refine EN.var (i := 4) C rfl (by walk_at "vis") rfl ?_
      obtain ⟨z, z1, z2, z3⟩ := tr_zero (p := p) (d := d) (n := (p + 1 - 1 + 1).toNat) (j := ln p d - 1) (by omega) hl3 hl4
      refine ⟨ln p d - 1, z, il_shaped _, rfl, z1, z2, z3, ?_⟩
      refine EN.int ?_
      refine AddD.i ?_
      have e : (((ln p d - 1 : Nat) : Int) + 1) = (ln p d : Int) := by omega
      rw [e]
      exact hQ
    · exact absurd (tr_has (j := ln p d - 1) (by omega) hl3) hb
  · exfalso
    have hb' : p = 0 := by simpa using hb
    omega
/-! judge_length -/
abbrev s_judge_length : Stmt := topS 14
theorem sc_judge_length : FnScope ["p", "d", "value", "right"] ["p", "d", "value"] (defScope s_judge_length) := ⟨rfl, rfl, rfl, by decide +kernel, rfl, by decide +kernel, by decide +kernel⟩
theorem ok_judge_length {f : Addr} {fd : FuncData} (F : Fun K "judge_length" "judge_length" s_judge_length f fd) (B : Blt mg) (T_is_whole : Fd Pg w K mg base k "is_whole" W_is_whole) (T_length : Fd Pg w K mg base k "length" W_length) (T_worth_row : Fd Pg w K mg base k "worth_row" W_worth_row)  : FnG Pg w K mg base (k + 1) f fd ["p", "d", "value"] (spOf K W_judge_length) := by
  refine okFn F sc_judge_length (by rintro as Q ⟨p, d, v, rfl, hp, ⟨hd0, hd⟩, ⟨hv, hv2⟩, hQ⟩; rfl) ?_
  rintro X C Fx as Q ⟨p, d, v, rfl, hp, ⟨hd0, hd⟩, ⟨hv, hv2⟩, hQ⟩
  have hpl := hp.lt
  obtain ⟨hl1, hl2, hl3, hl4, _⟩ := ln_ok hp hd0 hd
  refine BN.cons ?_
  refine SN.ife ?_
  refine WN.tn ?_
  refine WN.and ?_
  refine TN.notN ?_
  refine EN.var (i := 2) C rfl (by walk_at "vis") rfl ?_
  refine byB _ (fun hb => ?_) (fun hb => ?_)
  · walk_at "go"
    refine WN.and1 ?_
    refine TN.not ?_
    refine WN.tn ?_
    refine WN.and ?_
    refine TN.val (fun _ => rfl) ?_
    refine EN.call C T_is_whole (by omega) rfl ?_ rfl rfl
    refine AN.cons rfl ?_
    refine EN.var (i := 2) C rfl (by walk_at "vis") rfl ?_
    refine AN.nil ?_
    refine ⟨_, rfl, ?_⟩
    refine ⟨_, rfl, ?_⟩
    refine byB _ (fun hb => ?_) (fun hb => ?_)
    · walk_at "go"
      refine WN.and1 ?_
      refine TN.ge ?_
      refine EN.var (i := 2) C rfl (by walk_at "vis") rfl ?_
      refine EN.int ?_
      refine Ibd (fun hb => ?_) (fun hb => ?_)
      · walk_at "go"
        refine BN.nil ?_
        refine BN.cons ?_
        refine SN.asg (i := 3) C Fx rfl (by walk_at "vis") rfl ?_
        refine EN.call C T_length (by omega) rfl ?_ rfl rfl
        refine AN.cons rfl ?_
        refine EN.var (i := 0) C rfl (by walk_at "vis") rfl ?_
        refine AN.cons rfl ?_
        refine EN.var (i := 1) C rfl (by walk_at "vis") rfl ?_
        refine AN.nil ?_
        refine ⟨_, _, rfl, by assumption, by omega, ?_⟩
        refine BN.cons ?_
        refine SN.ife ?_
        refine TN.eq C ?_
        refine EN.var (i := 2) C rfl (by walk_at "vis") rfl ?_
        refine EN.var (i := 3) C rfl (by walk_at "vis") rfl ?_
        refine Eqi (fun hb => ?_) (fun hb => ?_)
        · walk_at "go"
          refine BN.cons ?_
          refine SN.ret ?_
          refine EN.non ?_
          have e : jl p d v = .none := by unfold jl; rw [if_pos (by omega)]
          rw [e] at hQ
          exact hQ
        · walk_at "go"
          refine BN.nil ?_
          refine BN.cons ?_
          refine SN.ife ?_
          refine TN.isN ?_
          refine EN.var (i := 3) C rfl (by walk_at "vis") rfl ?_
          refine byB _ (fun hb => ?_) (fun hb => ?_)
          · exact Bool.noConfusion hb
          · walk_at "go"
            refine BN.nil ?_
            refine BN.cons ?_
            refine SN.ife ?_
            refine WN.tn ?_
            refine WN.or ?_
            refine TN.isN ?_
            refine EN.var (i := 2) C rfl (by walk_at "vis") rfl ?_
            refine byB _ (fun hb => ?_) (fun hb => ?_)
            · exact Bool.noConfusion hb
            · walk_at "go"
              refine WN.or1 ?_
              refine TN.gt ?_
              refine EN.var (i := 2) C rfl (by walk_at "vis") rfl ?_
              refine EN.var (i := 3) C rfl (by walk_at "vis") rfl ?_
              refine Ibd (fun hb => ?_) (fun hb => ?_)
              · walk_at "go"
                refine BN.cons ?_
                refine SN.ret ?_
                refine EN.tup ?_
                refine LN.cons rfl ?_
                refine EN.str ?_
                refine LN.cons rfl ?_
                refine EN.var (i := 3) C rfl (by walk_at "vis") rfl ?_
                refine LN.nil ?_
                refine ⟨Nat.le_of_ble_eq_true rfl, ?_⟩
                have e : jl p d v = .tuple [.str "early", .int (ln p d)] := by unfold jl; rw [if_neg (by omega), if_pos (by omega)]
                rw [e] at hQ
                exact hQ
              · walk_at "go"
                refine BN.nil ?_
                refine BN.cons ?_
                refine SN.ret ?_
                refine EN.tup ?_
                refine LN.cons rfl ?_
                refine EN.str ?_
                refine LN.cons rfl ?_
                refine EN.ix (fun _ _ => rfl) ?_
                refine EN.call C T_worth_row (by omega) rfl ?_ rfl rfl
                refine AN.cons rfl ?_
                refine EN.var (i := 0) C rfl (by walk_at "vis") rfl ?_
                refine AN.cons rfl ?_
                refine EN.var (i := 1) C rfl (by walk_at "vis") rfl ?_
                refine AN.cons rfl ?_
                refine EN.sub ?_
                refine EN.var (i := 2) C rfl (by walk_at "vis") rfl ?_
                refine EN.int ?_
                refine SubI.i ?_
                refine AN.nil ?_
                refine ⟨_, _, _, rfl, by omega, by omega, by omega, by omega, ?_⟩
                refine EN.neg ?_
                refine EN.int ?_
                refine ⟨_, rfl, ?_⟩
                refine IxD.l (tr_neg (k := 1) (by omega) (by omega)) ?_
                refine LN.nil ?_
                refine ⟨Nat.le_of_ble_eq_true rfl, ?_⟩
                have e : jl p d v = .tuple [.str "term", .int (Tm p d (v - 1).toNat)] := by unfold jl; rw [if_neg (by omega), if_neg (by omega)]
                rw [e] at hQ
                have e2 : (v - 1 + 1).toNat - 1 = (v - 1).toNat := by omega
                rw [e2]
                exact hQ
      · exfalso
        omega
    · exact Bool.noConfusion hb
  · exact Bool.noConfusion hb
/-! lengths_of -/
abbrev s_lengths_of : Stmt := topS 15
theorem sc_lengths_of : FnScope ["p", "d"] ["p"] (defScope s_lengths_of) := ⟨rfl, rfl, rfl, by decide +kernel, rfl, by decide +kernel, by decide +kernel⟩
theorem ok_lengths_of {f : Addr} {fd : FuncData} (F : Fun K "lengths_of" "lengths_of" s_lengths_of f fd) (B : Blt mg) (T_length : Fd Pg w K mg base k "length" W_length)  : FnG Pg w K mg base (k + 1) f fd ["p"] (spOf K W_lengths_of) := by
  refine okFn F sc_lengths_of (by rintro as Q ⟨p, rfl, hp, hQ⟩; rfl) ?_
  rintro X C Fx as Q ⟨p, rfl, hp, hQ⟩
  have hpl := hp.lt
  refine BN.cons ?_
  refine SN.ret ?_
  refine EN.lc (i := 1) C rfl rfl rfl (fun _ => rfl) ?_
  refine IN.r1 C rfl B.range rfl rfl ?_
  refine EN.var (i := 0) C rfl (by walk_at "vis") rfl ?_
  refine ⟨_, rfl, by omega, by omega, ?_⟩
  refine ⟨by rw [rng_len]; omega, ?_⟩
  refine ⟨fun m acc => acc = il (((rg p).take m).map (lnI p)), ?i1, ?turn1, ?done1⟩
  case i1 => rfl
  case turn1 =>
    rintro m d acc hd rfl
    obtain ⟨rfl, hm⟩ := rng0_get hd
    intro Y1 CY1
    refine yes ?_
    intro Y1 CY1
    refine EN.call CY1 T_length (by omega) rfl ?_ rfl rfl
    refine AN.cons rfl ?_
    refine EN.var (i := 0) CY1 rfl (by walk_at "vis") rfl ?_
    refine AN.cons rfl ?_
    refine EN.var (i := 1) CY1 rfl (by walk_at "vis") rfl ?_
    refine AN.nil ?_
    refine ⟨_, _, rfl, by assumption, by omega, ?_⟩
    dsimp only
    rw [rg_take p m hm, List.map_append, il_append]
    rfl
  rintro acc rfl
  rw [rng_len, Int.sub_zero, rg_take_all]
  exact hQ
/-! worths_of -/
abbrev s_worths_of : Stmt := topS 16
theorem sc_worths_of : FnScope ["p", "l", "d"] ["p", "l"] (defScope s_worths_of) := ⟨rfl, rfl, rfl, by decide +kernel, rfl, by decide +kernel, by decide +kernel⟩
theorem ok_worths_of {f : Addr} {fd : FuncData} (F : Fun K "worths_of" "worths_of" s_worths_of f fd) (B : Blt mg) (T_length : Fd Pg w K mg base k "length" W_length) (T_worths_with_length : Fd Pg w K mg base k "_worths_with_length" W_worths_with_length)  : FnG Pg w K mg base (k + 1) f fd ["p", "l"] (spOf K W_worths_of) := by
  refine okFn F sc_worths_of (by rintro as Q ⟨p, l, rfl, hp, hQ⟩; rfl) ?_
  rintro X C Fx as Q ⟨p, l, rfl, hp, hQ⟩
  have hpl := hp.lt
  refine BN.cons ?_
  refine SN.ret ?_
  refine EN.tuplec C rfl B.tuple ?_ rfl rfl
  refine EN.lc (i := 2) C rfl rfl rfl (fun _ => rfl) ?_
  refine IN.seq ?_
  refine EN.call C T_worths_with_length (by omega) rfl ?_ rfl rfl
  refine AN.cons rfl ?_
  refine EN.var (i := 0) C rfl (by walk_at "vis") rfl ?_
  refine AN.nil ?_
  refine ⟨_, rfl, by assumption, ?_⟩
  refine SeqD.l ?_
  refine ⟨by rw [il_len, rg_len]; omega, ?_⟩
  refine ⟨fun m acc => acc = il (((rg p).take m).filter fun d => decide (lnI p d = l)), ?i1, ?turn1, ?done1⟩
  case i1 => rfl
  case turn1 =>
    rintro m d acc hd rfl
    obtain ⟨rfl, hm⟩ := rg_get hd
    intro Y1 CY1
    refine TN.eq CY1 ?_
    refine EN.call CY1 T_length (by omega) rfl ?_ rfl rfl
    refine AN.cons rfl ?_
    refine EN.var (i := 0) CY1 rfl (by walk_at "vis") rfl ?_
    refine AN.cons rfl ?_
    refine EN.var (i := 2) CY1 rfl (by walk_at "vis") rfl ?_
    refine AN.nil ?_
    refine ⟨_, _, rfl, by assumption, by omega, ?_⟩
    refine EN.var (i := 1) CY1 rfl (by walk_at "vis") rfl ?_
    refine Eqi (fun hb => ?_) (fun hb => ?_)
    · walk_at "go"
      intro Y1 CY1
      refine EN.var (i := 2) CY1 rfl (by walk_at "vis") rfl ?_
      dsimp only
      rw [rg_take p m hm, List.filter_append, il_append]
      have e : ([(m : Int)].filter fun d => decide (lnI p d = l)) = [(m : Int)] := by rw [List.filter_cons, if_pos (decide_eq_true (show lnI p m = l from hb))]; rfl
      rw [e]
      rfl
    · walk_at "go"
      dsimp only
      rw [rg_take p m hm, List.filter_append, il_append]
      have e : ([(m : Int)].filter fun d => decide (lnI p d = l)) = [] := by rw [List.filter_cons, if_neg (by rw [decide_eq_false (show ¬ lnI p m = l from hb)]; exact Bool.false_ne_true)]; rfl
      rw [e]
      exact (List.append_nil _).symm
  rintro acc rfl
  refine SeqD.l ?_
  rw [il_len, rg_len, rg_take_all]
  exact hQ
/-! _worths_with_length -/
abbrev s_worths_with_length : Stmt := topS 17
theorem sc_worths_with_length : FnScope ["p", "n"] ["p"] (defScope s_worths_with_length) := ⟨rfl, rfl, rfl, by decide +kernel, rfl, by decide +kernel, by decide +kernel⟩
theorem ok_worths_with_length {f : Addr} {fd : FuncData} (F : Fun K "_worths_with_length" "_worths_with_length" s_worths_with_length f fd) (B : Blt mg)   : FnG Pg w K mg base (k + 1) f fd ["p"] (spOf K W_worths_with_length) := by
  refine okFn F sc_worths_with_length (by rintro as Q ⟨p, rfl, hp, hQ⟩; rfl) ?_
  rintro X C Fx as Q ⟨p, rfl, hp, hQ⟩
  have hpl := hp.lt
  refine BN.cons ?_
  refine SN.ife ?_
  refine TN.eq C ?_
  refine EN.var (i := 0) C rfl (by walk_at "vis") rfl ?_
  refine EN.int ?_
  refine Eqi (fun hb => ?_) (fun hb => ?_)
  · exfalso
    omega
  · walk_at "go"
    refine BN.nil ?_
    refine BN.cons ?_
    refine SN.ret ?_
    refine EN.listRg1 C rfl B.list rfl B.range rfl rfl ?_
    refine EN.var (i := 0) C rfl (by walk_at "vis") rfl ?_
    refine ⟨_, rfl, by omega, by omega, ?_⟩
    rw [rng0]
    exact hQ
/-! _law_pick -/
abbrev s_law_pick : Stmt := topS 20
theorem sc_law_pick : FnScope ["source", "most", "cells", "others", "lap", "stirred"] ["source", "most"] (defScope s_law_pick) := ⟨rfl, rfl, rfl, by decide +kernel, rfl, by decide +kernel, by decide +kernel⟩
theorem ok_law_pick {f : Addr} {fd : FuncData} (F : Fun K "_law_pick" "_law_pick" s_law_pick f fd) (B : Blt mg)   : FnG Pg w K mg base (k + 1) f fd ["source", "most"] (spOf K W_law_pick) := by
  refine okFn F sc_law_pick (by rintro as Q ⟨m, rfl, hm, hQ⟩; rfl) ?_
  rintro X C Fx as Q ⟨m, rfl, hm, hQ⟩
  refine BN.cons ?_
  refine SN.ife ?_
  refine TN.lt ?_
  refine EN.var (i := 1) C rfl (by walk_at "vis") rfl ?_
  refine EN.int ?_
  refine Ibd (fun hb => ?_) (fun hb => ?_)
  · walk_at "go"
    refine BN.cons ?_
    refine SN.ret ?_
    refine EN.int ?_
    exact hQ 0 (by decide) (Or.inr rfl)
  · walk_at "go"
    refine BN.nil ?_
    refine BN.cons ?_
    refine SN.celGet (i := 0) (i2 := 2) C Fx rfl (by walk_at "vis") rfl rfl (by walk_at "vis") rfl ?_
    refine BN.cons ?_
    refine SN.srcWhile (i := 0) (i2 := 2) C rfl (by walk_at "vis") rfl rfl (by walk_at "vis") rfl rfl B.len ?_ rfl rfl
    refine BN.cons ?_
    refine SN.asg (i := 3) C Fx rfl (by walk_at "vis") rfl ?_
    refine EN.srcLeft (i := 0) C rfl (by walk_at "vis") rfl (fun v1 hv1 => ?_)
    refine BN.cons ?_
    refine SN.ife ?_
    refine TN.gt ?_
    refine EN.var (i := 3) C rfl (by walk_at "vis") rfl ?_
    refine EN.int ?_
    refine Ibd (fun hb => ?_) (fun hb => ?_)
    · walk_at "go"
      refine BN.cons ?_
      refine SN.srcPut (i := 0) C rfl (by walk_at "vis") rfl (Or.inl rfl) rfl ?_
      refine EN.div ?_
      refine EN.var (i := 3) C rfl (by walk_at "vis") rfl ?_
      refine EN.var (i := 1) C rfl (by walk_at "vis") rfl ?_
      refine DivI.i (by omega) (by omega) ?_
      refine ⟨_, rfl, (by walk_at "nn"), ?_⟩
      refine BN.cons ?_
      refine SN.ret ?_
      refine EN.mod ?_
      refine EN.intc C rfl B.int ?_ rfl rfl
      refine EN.var (i := 3) C rfl (by walk_at "vis") rfl ?_
      refine EN.var (i := 1) C rfl (by walk_at "vis") rfl ?_
      refine ModI.i (by omega) ?_
      exact hQ _ (Int.emod_nonneg _ (by omega)) (Or.inl (Int.emod_lt_of_pos _ (by omega)))
    · walk_at "go"
      refine BN.nil ?_
      refine BN.cons ?_
      refine SN.srcPut (i := 0) C rfl (by walk_at "vis") rfl (Or.inr rfl) rfl ?_
      refine EN.add ?_
      refine EN.srcTurn (i := 0) C rfl (by walk_at "vis") rfl (fun v2 hv2 => ?_)
      refine EN.int ?_
      refine AddD.i ?_
      refine ⟨_, rfl, (by walk_at "nn"), ?_⟩
      refine BN.cons ?_
      refine SN.asg (i := 4) C Fx rfl (by walk_at "vis") rfl ?_
      refine EN.srcTurn (i := 0) C rfl (by walk_at "vis") rfl (fun v3 hv3 => ?_)
      refine BN.cons ?_
      refine SN.asg (i := 5) C Fx rfl (by walk_at "vis") rfl ?_
      refine EN.mod ?_
      refine EN.intc C rfl B.int ?_ rfl rfl
      refine EN.add ?_
      refine EN.srcMixed (i := 0) C rfl (by walk_at "vis") rfl (fun v4 hv4 hw4 => ?_)
      refine EN.mul ?_
      refine EN.var (i := 4) C rfl (by walk_at "vis") rfl ?_
      refine EN.int ?_
      refine MulD.i (by walk_at "mulok") ?_
      refine AddD.i ?_
      refine EN.int ?_
      refine ModI.i (by omega) ?_
      refine BN.cons ?_
      refine SN.asg (i := 5) C Fx rfl (by walk_at "vis") rfl ?_
      refine EN.mod ?_
      refine EN.intc C rfl B.int ?_ rfl rfl
      refine EN.add ?_
      refine EN.mul ?_
      refine EN.var (i := 5) C rfl (by walk_at "vis") rfl ?_
      refine EN.var (i := 5) C rfl (by walk_at "vis") rfl ?_
      refine MulD.i (by walk_at "mulok") ?_
      refine EN.mul ?_
      refine EN.var (i := 4) C rfl (by walk_at "vis") rfl ?_
      refine EN.int ?_
      refine MulD.i (by walk_at "mulok") ?_
      refine AddD.i ?_
      refine EN.int ?_
      refine ModI.i (by omega) ?_
      refine BN.cons ?_
      refine SN.ret ?_
      refine EN.mod ?_
      refine EN.intc C rfl B.int ?_ rfl rfl
      refine EN.div ?_
      refine EN.var (i := 5) C rfl (by walk_at "vis") rfl ?_
      refine EN.int ?_
      refine DivI.i (by omega) (by omega) ?_
      refine EN.var (i := 1) C rfl (by walk_at "vis") rfl ?_
      refine ModI.i (by omega) ?_
      exact hQ _ (Int.emod_nonneg _ (by omega)) (Or.inl (Int.emod_lt_of_pos _ (by omega)))
/-! _law_open_cells, by hand: the script may be a thing of the top -/
abbrev s_law_open_cells : Stmt := topS 19
theorem sc_law_open_cells : FnScope ["script", "stirred", "cell", "cells"] ["script"] (defScope s_law_open_cells) := ⟨rfl, rfl, rfl, by decide +kernel, rfl, by decide +kernel, by decide +kernel⟩
theorem ok_law_open_cells {f : Addr} {fd : FuncData} (F : Fun K "_law_open_cells" "_law_open_cells" s_law_open_cells f fd) (B : Blt mg) : FnG Pg w K mg base (k + 1) f fd ["script"] (sp_open K) := by
  refine Fun.okG F sc_law_open_cells ?_ ?_
  · rintro vs H Q E ⟨a, ns, rfl, _⟩
    rfl
  · rintro cdv A ol s H vs Q E hgd hr ⟨a, ns, rfl, hS, hlen, q⟩
    have nd := sc_law_open_cells.nd
    refine ⟨_, pss_cons (ps_set (i := 1) nd rfl (.inl rfl) pe_int)
      (pss_cons (ps_for PassesOwn.never rfl (pi_list (pv 0)) (pg_name (i := 2) nd rfl (.inl rfl))
        (pss_one (ps_set (i := 1) nd rfl (.inl rfl) (pe_op op_mod (pe_callTy call_int1 (by rfl) B.int (by decide +kernel)
          (pa_cons (pe_op op_add (pe_op op_add (pe_op op_mul (pv 1) pe_int) (pe_op op_mul (pv 2) pe_int)) pe_int) pa_nil)) pe_int))))
      (pss_cons (ps_setLc (i := 3) (own := [("cell", 2)]) rfl nd rfl rfl rfl (pi_list (pv 0)) (blkOk_by (show blkC ["script", "stirred", "cell", "cells"] (defScope s_law_open_cells) _ [("cell", 2)] = true by decide +kernel))
          (fun _ _ _ _ _ => pg_name (i := 2) nd rfl (.inl rfl) (.inr rfl)) (fun _ _ _ _ _ => pts_nil)
          (fun _ _ _ _ _ => pe_callB call_abs (by rfl) B.abs (by decide +kernel) (pa_cons (pv 2) pa_nil)))
      (pss_one (ps_ret (pe_disp (pps_cons pe_str (pe_revL (pv 3)) (pps_cons pe_str pe_int (pps_cons pe_str (pv 1) (pps_cons pe_str pe_int pps_nil)))) (by rfl) rfl (by simp) (by decide)))))), ?_⟩
    -- the mixed number
    refine ⟨_, rfl, a, rfl, ⟨_, hS⟩, ?_⟩
    refine for_list (K := K) (a := a) (xs := ns.map V.int) (fun i σ H' => H' = H ∧ ∃ (z : Int) (v : Option V), σ = [some (.ref a), some (.int z), v, none] ∧ 0 ≤ z ∧ z < 2147483629) ⟨rfl, 11, none, rfl, by decide, by decide⟩ ?_ ?_ ?_
    · rintro i σ H' _ ⟨rfl, _⟩
      exact hS
    · rintro i x σ H' hx ⟨rfl, z, v, rfl, h0, h1⟩
      obtain ⟨n, rfl⟩ : ∃ n, x = V.int n := by
        rw [List.getElem?_map] at hx
        cases e : ns[i]? with
        | none => rw [e] at hx; cases hx
        | some n => rw [e] at hx; exact ⟨n, (Option.some.inj hx).symm⟩
      refine ⟨_, rfl, _, _, rfl, rfl, .inr (by decide), _, rfl, _, _, rfl, rfl, .inr (by decide), _, _, rfl, rfl, _, _, rfl, rfl, .inl ⟨_, rfl, ?_⟩⟩
      refine ⟨_, _, rfl, rfl, (show (0 : Int) < 2147483629 by decide), rfl, _, _, rfl, ?_, ?_⟩
      · exact Int.emod_nonneg _ (by decide)
      · exact Int.emod_lt_of_pos _ (by decide)
    · rintro σ H' ⟨rfl, z, v, rfl, h0, h1⟩
      -- the cells
      let ab : Int → Int := fun n => if n < 0 then -n else n
      have hab : ∀ n ∈ ns.map ab, 0 ≤ n := by
        intro n hn
        obtain ⟨m, _, rfl⟩ := List.mem_map.mp hn
        show 0 ≤ if m < 0 then -m else m
        split <;> omega
      refine ⟨_, rfl, a, rfl, ⟨_, hS⟩, fun D hD => ?_⟩
      have eD : ∀ b o, H' b = some o → b ≠ D := fun b o e => ne_of_none e hD
      have hS1 : ∀ o, SqL K (upd H' D o) a (ns.map V.int) := fun o => Evl.ex_l (Evl.Ex.new hD) hS
      refine lc_list (K := K) (a := a) (xs := ns.map V.int) (fun i H2 => H2 = upd H' D (.lst (((ns.take i).map ab).map V.int))) rfl ?_ ?_ ?_
      · rintro i H2 _ rfl
        exact hS1 _
      · rintro i x H2 hx rfl
        obtain ⟨n, hn, rfl⟩ : ∃ n, ns[i]? = some n ∧ x = V.int n := by
          rw [List.getElem?_map] at hx
          cases e : ns[i]? with
          | none => rw [e] at hx; cases hx
          | some n => rw [e] at hx; exact ⟨n, rfl, (Option.some.inj hx).symm⟩
        have hi : i < ns.length := (List.getElem?_eq_some_iff.mp hn).1
        refine ⟨rfl, ?_⟩
        show (if true = true then _ else upd H' D (.lst (((ns.take i).map ab).map V.int)) = upd H' D (.lst (((ns.take (i + 1)).map ab).map V.int)))
        rw [if_pos rfl]
        refine ⟨_, rfl, n, rfl, _, upd_same, ?_, ?_⟩
        · rw [List.length_map, List.length_map, List.length_take]
          exact Nat.lt_of_le_of_lt (Nat.min_le_left _ _) (small1000 (by omega))
        · rw [upd_upd, List.take_add_one, hn, List.map_append, List.map_append]
          rfl
      · rintro H2 rfl
        rw [List.length_map, List.take_length]
        -- the dict
        intro p hp
        have hDp : D ≠ p := fun z => by rw [← z, upd_same] at hp; cases hp
        have hcD : (upd (upd H' D (.lst ((ns.map ab).map V.int))) p (.dK [])) D = some (.lst ((ns.map ab).map V.int)) := by rw [upd_ne hDp, upd_same]
        refine ⟨_, rfl, D, _, rfl, SqL.of hcD, fun c hc => ?_⟩
        have hpc : p ≠ c := fun z => by rw [← z, upd_same] at hc; cases hc
        refine ⟨_, rfl, ?_⟩
        refine ⟨by rw [upd_ne hpc, upd_same], [(Sum.inr "cells", .ref c), (Sum.inr "left", .int 1), (Sum.inr "mixed", .int z), (Sum.inr "turn", .int 0)], rfl, (show 4 ≤ 15 by decide), ?_⟩
        have hp0 : H' p = none := by
          rw [upd_ne (fun z => hDp z.symm)] at hp
          exact hp
        have hc0 : H' c = none := by
          rw [upd_ne (fun z => hpc z.symm)] at hc
          by_cases hcD2 : c = D
          · rw [hcD2]; exact hD
          · rw [upd_ne hcD2] at hc; exact hc
        refine q p c _ ?_ hp0 hc0 ⟨hpc, 1, z, 0, (ns.map ab).reverse, ?_, ?_, by decide, ?_, h0, h1, by decide⟩
        · intro b o e
          rw [upd_ne (ne_of_none e hp0), upd_ne (ne_of_none e hc0), upd_ne (ne_of_none e hp0), upd_ne (eD b o e)]
          exact e
        · rw [upd_same]; rfl
        · rw [upd_ne (fun z => hpc z.symm), upd_same, List.map_reverse]
        · intro n hn
          exact hab n (List.mem_reverse.mp hn)

abbrev W_law_number : Wp := fun as Q => ∃ p n : Int, as = [dI p, dI n] ∧ 0 < p ∧ Q (.int (n % p))
abbrev W_law_plus : Wp := fun as Q => ∃ p x y : Int, as = [dI p, dI x, dI y] ∧ 0 < p ∧ Q (.int ((x + y) % p))
abbrev W_law_times : Wp := fun as Q => ∃ p x y : Int, as = [dI p, dI x, dI y] ∧ 0 < p ∧ (0 ≤ x ∧ x < 100000) ∧ Q (.int (x * y % p))
abbrev W_law_over : Wp := fun as Q => ∃ p x y : Int, as = [dI p, dI x, dI y] ∧ Pr p ∧ (0 ≤ x ∧ x < p) ∧ (1 ≤ y ∧ y < p) ∧ Q (.int (x * iv p y % p))
abbrev W_law_minus : Wp := fun as Q => ∃ p x y : Int, as = [dI p, dI x, dI y] ∧ 0 < p ∧ p < 100000 ∧ Q (.int ((x - y) % p))
abbrev W_law_worth_row : Wp := fun as Q => ∃ p d m : Int, as = [dI p, dI d, dI m] ∧ 0 < p ∧ p < 100000 ∧ (0 ≤ d ∧ d < p) ∧ (0 ≤ m ∧ m ≤ 5000) ∧ Q (.list (il (tr p d (m + 1).toNat)))
abbrev W_law_length : Wp := fun as Q => ∃ p d : Int, as = [dI p, dI d] ∧ Pr p ∧ (0 ≤ d ∧ d < p) ∧ Q (.int (ln p d))
abbrev W_law_far_power : Wp := fun as Q => ∃ p x m : Int, as = [dI p, dI x, dI m] ∧ Pr p ∧ (0 ≤ x ∧ x < p) ∧ 0 ≤ m ∧ Q (.int (x ^ m.toNat % p))
abbrev W_law_order : Wp := fun as Q => ∃ p x : Int, as = [dI p, dI x] ∧ Pr p ∧ 1 ≤ x ∧ x < p ∧ Q (.int (od p x))
abbrev W_law_pair_right : Wp := fun as Q => ∃ p x : Int, as = [.src, dI p, dI x] ∧ Pr p ∧ 1 ≤ x ∧ x < p ∧ Q (.bool true)
abbrev W_law_terms_right : Wp := fun as Q => ∃ p d : Int, as = [.src, dI p, dI d] ∧ Pr p ∧ (0 ≤ d ∧ d < p) ∧ Q (.bool true)
/-! _law_number -/
abbrev s_law_number : Stmt := topS 23
theorem sc_law_number : FnScope ["p", "n"] ["p", "n"] (defScope s_law_number) := ⟨rfl, rfl, rfl, by decide +kernel, rfl, by decide +kernel, by decide +kernel⟩
theorem ok_law_number {f : Addr} {fd : FuncData} (F : Fun K "_law_number" "_law_number" s_law_number f fd) (B : Blt mg)   : FnG Pg w K mg base (k + 1) f fd ["p", "n"] (spOf K W_law_number) := by
  refine okFn F sc_law_number (by rintro as Q ⟨p, n, rfl, hp, hQ⟩; rfl) ?_
  rintro X C Fx as Q ⟨p, n, rfl, hp, hQ⟩
  refine BN.cons ?_
  refine SN.ret ?_
  refine EN.ife ?_
  refine TN.gt ?_
  refine EN.var (i := 0) C rfl (by walk_at "vis") rfl ?_
  refine EN.int ?_
  refine Ibd (fun hb => ?_) (fun hb => ?_)
  · walk_at "go"
    refine EN.mod ?_
    refine EN.var (i := 1) C rfl (by walk_at "vis") rfl ?_
    refine EN.var (i := 0) C rfl (by walk_at "vis") rfl ?_
    refine ModI.i (by omega) ?_
    first | assumption | rfl
  · exfalso
    omega
/-! _law_plus -/
abbrev s_law_plus : Stmt := topS 24
theorem sc_law_plus : FnScope ["p", "x", "y"] ["p", "x", "y"] (defScope s_law_plus) := ⟨rfl, rfl, rfl, by decide +kernel, rfl, by decide +kernel, by decide +kernel⟩
theorem ok_law_plus {f : Addr} {fd : FuncData} (F : Fun K "_law_plus" "_law_plus" s_law_plus f fd) (B : Blt mg)   : FnG Pg w K mg base (k + 1) f fd ["p", "x", "y"] (spOf K W_law_plus) := by
  refine okFn F sc_law_plus (by rintro as Q ⟨p, x, y, rfl, hp, hQ⟩; rfl) ?_
  rintro X C Fx as Q ⟨p, x, y, rfl, hp, hQ⟩
  refine BN.cons ?_
  refine SN.ret ?_
  refine EN.ife ?_
  refine TN.gt ?_
  refine EN.var (i := 0) C rfl (by walk_at "vis") rfl ?_
  refine EN.int ?_
  refine Ibd (fun hb => ?_) (fun hb => ?_)
  · walk_at "go"
    refine EN.mod ?_
    refine EN.add ?_
    refine EN.var (i := 1) C rfl (by walk_at "vis") rfl ?_
    refine EN.var (i := 2) C rfl (by walk_at "vis") rfl ?_
    refine AddD.i ?_
    refine EN.var (i := 0) C rfl (by walk_at "vis") rfl ?_
    refine ModI.i (by omega) ?_
    first | assumption | rfl
  · exfalso
    omega
/-! _law_times -/
abbrev s_law_times : Stmt := topS 25
theorem sc_law_times : FnScope ["p", "x", "y"] ["p", "x", "y"] (defScope s_law_times) := ⟨rfl, rfl, rfl, by decide +kernel, rfl, by decide +kernel, by decide +kernel⟩
theorem ok_law_times {f : Addr} {fd : FuncData} (F : Fun K "_law_times" "_law_times" s_law_times f fd) (B : Blt mg)   : FnG Pg w K mg base (k + 1) f fd ["p", "x", "y"] (spOf K W_law_times) := by
  refine okFn F sc_law_times (by rintro as Q ⟨p, x, y, rfl, hp, hx, hQ⟩; rfl) ?_
  rintro X C Fx as Q ⟨p, x, y, rfl, hp, hx, hQ⟩
  refine BN.cons ?_
  refine SN.ret ?_
  refine EN.ife ?_
  refine TN.gt ?_
  refine EN.var (i := 0) C rfl (by walk_at "vis") rfl ?_
  refine EN.int ?_
  refine Ibd (fun hb => ?_) (fun hb => ?_)
  · walk_at "go"
    refine EN.mod ?_
    refine EN.mul ?_
    refine EN.var (i := 1) C rfl (by walk_at "vis") rfl ?_
    refine EN.var (i := 2) C rfl (by walk_at "vis") rfl ?_
    refine MulD.i (by walk_at "mulok") ?_
    refine EN.var (i := 0) C rfl (by walk_at "vis") rfl ?_
    refine ModI.i (by omega) ?_
    first | assumption | rfl
  · exfalso
    omega
/-! _law_over -/
abbrev s_law_over : Stmt := topS 26
theorem sc_law_over : FnScope ["p", "x", "y", "z"] ["p", "x", "y"] (defScope s_law_over) := ⟨rfl, rfl, rfl, by decide +kernel, rfl, by decide +kernel, by decide +kernel⟩
theorem ok_law_over {f : Addr} {fd : FuncData} (F : Fun K "_law_over" "_law_over" s_law_over f fd) (B : Blt mg)   : FnG Pg w K mg base (k + 1) f fd ["p", "x", "y"] (spOf K W_law_over) := by
  refine okFn F sc_law_over (by rintro as Q ⟨p, x, y, rfl, hp, ⟨hx0, hx⟩, ⟨hy0, hy⟩, hQ⟩; rfl) ?_
  rintro X C Fx as Q ⟨p, x, y, rfl, hp, ⟨hx0, hx⟩, ⟨hy0, hy⟩, hQ⟩
  have hpl := hp.lt
  refine BN.cons ?_
  refine SN.ife ?_
  refine TN.eq C ?_
  refine EN.var (i := 0) C rfl (by walk_at "vis") rfl ?_
  refine EN.int ?_
  refine Eqi (fun hb => ?_) (fun hb => ?_)
  · exfalso
    omega
  · walk_at "go"
    refine BN.nil ?_
    refine BN.cons ?_
    refine SN.ret ?_
    refine EN.ix (fun _ _ => rfl) ?_
    refine EN.lc (i := 3) C rfl rfl rfl (fun _ => rfl) ?_
    refine IN.r1 C rfl B.range rfl rfl ?_
    refine EN.var (i := 0) C rfl (by walk_at "vis") rfl ?_
    refine ⟨_, rfl, by omega, by omega, ?_⟩
    refine ⟨by rw [rng_len]; omega, ?_⟩
    refine ⟨fun m acc => acc = il (((rg p).take m).filter fun z => decide (z * y % p = x)), ?i1, ?turn1, ?done1⟩
    case i1 => rfl
    case turn1 =>
      rintro m d acc hd rfl
      obtain ⟨rfl, hm⟩ := rng0_get hd
      intro Y1 CY1
      refine TN.eq CY1 ?_
      refine EN.mod ?_
      refine EN.mul ?_
      refine EN.var (i := 3) CY1 rfl (by walk_at "vis") rfl ?_
      refine EN.var (i := 2) CY1 rfl (by walk_at "vis") rfl ?_
      refine MulD.i (by walk_at "mulok") ?_
      refine EN.var (i := 0) CY1 rfl (by walk_at "vis") rfl ?_
      refine ModI.i (by omega) ?_
      refine EN.var (i := 1) CY1 rfl (by walk_at "vis") rfl ?_
      refine Eqi (fun hb => ?_) (fun hb => ?_)
      · walk_at "go"
        intro Y1 CY1
        refine EN.var (i := 3) CY1 rfl (by walk_at "vis") rfl ?_
        dsimp only
        rw [rg_take p m hm, List.filter_append, il_append]
        have e : ([(m : Int)].filter fun z => decide (z * y % p = x)) = [(m : Int)] := by rw [List.filter_cons, if_pos (decide_eq_true hb)]; rfl
        rw [e]
        rfl
      · walk_at "go"
        dsimp only
        rw [rg_take p m hm, List.filter_append, il_append]
        have e : ([(m : Int)].filter fun z => decide (z * y % p = x)) = [] := by rw [List.filter_cons, if_neg (by rw [decide_eq_false hb]; exact Bool.false_ne_true)]; rfl
        rw [e]
        exact (List.append_nil _).symm
    rintro acc rfl
    rw [rng_len, Int.sub_zero, rg_take_all, ov_ok hp hx0 hx hy0 hy]
    refine EN.int ?_
    refine IxD.l (d := .int (x * iv p y % p)) (atI_nat (j := 0) rfl) ?_
    exact hQ
/-! _law_minus -/
abbrev s_law_minus : Stmt := topS 27
theorem sc_law_minus : FnScope ["p", "x", "y"] ["p", "x", "y"] (defScope s_law_minus) := ⟨rfl, rfl, rfl, by decide +kernel, rfl, by decide +kernel, by decide +kernel⟩
theorem ok_law_minus {f : Addr} {fd : FuncData} (F : Fun K "_law_minus" "_law_minus" s_law_minus f fd) (B : Blt mg) (T_law_plus : Fd Pg w K mg base k "_law_plus" W_law_plus) (T_law_times : Fd Pg w K mg base k "_law_times" W_law_times) (T_law_number : Fd Pg w K mg base k "_law_number" W_law_number)  : FnG Pg w K mg base (k + 1) f fd ["p", "x", "y"] (spOf K W_law_minus) := by
  refine okFn F sc_law_minus (by rintro as Q ⟨p, x, y, rfl, hp, hp2, hQ⟩; rfl) ?_
  rintro X C Fx as Q ⟨p, x, y, rfl, hp, hp2, hQ⟩
  have h1 := Int.emod_nonneg (0 - 1) (show p ≠ 0 by omega)
  have h2 := Int.emod_lt_of_pos (0 - 1) hp
  refine BN.cons ?_
  refine SN.ret ?_
  refine EN.call C T_law_plus (by omega) rfl ?_ rfl rfl
  refine AN.cons rfl ?_
  refine EN.var (i := 0) C rfl (by walk_at "vis") rfl ?_
  refine AN.cons rfl ?_
  refine EN.var (i := 1) C rfl (by walk_at "vis") rfl ?_
  refine AN.cons rfl ?_
  refine EN.call C T_law_times (by omega) rfl ?_ rfl rfl
  refine AN.cons rfl ?_
  refine EN.var (i := 0) C rfl (by walk_at "vis") rfl ?_
  refine AN.cons rfl ?_
  refine EN.call C T_law_number (by omega) rfl ?_ rfl rfl
  refine AN.cons rfl ?_
  refine EN.var (i := 0) C rfl (by walk_at "vis") rfl ?_
  refine AN.cons rfl ?_
  refine EN.sub ?_
  refine EN.int ?_
  refine EN.int ?_
  refine SubI.i ?_
  refine AN.nil ?_
  refine ⟨_, _, rfl, by omega, ?_⟩
  refine AN.cons rfl ?_
  refine EN.var (i := 2) C rfl (by walk_at "vis") rfl ?_
  refine AN.nil ?_
  refine ⟨_, _, _, rfl, by omega, by omega, ?_⟩
  refine AN.nil ?_
  refine ⟨_, _, _, rfl, by omega, ?_⟩
  rw [minus_eq]
  exact hQ
/-! _law_worth_row -/
abbrev s_law_worth_row : Stmt := topS 28
theorem sc_law_worth_row : FnScope ["p", "d", "m", "row"] ["p", "d", "m"] (defScope s_law_worth_row) := ⟨rfl, rfl, rfl, by decide +kernel, rfl, by decide +kernel, by decide +kernel⟩
theorem ok_law_worth_row {f : Addr} {fd : FuncData} (F : Fun K "_law_worth_row" "_law_worth_row" s_law_worth_row f fd) (B : Blt mg) (T_law_number : Fd Pg w K mg base k "_law_number" W_law_number) (T_law_minus : Fd Pg w K mg base k "_law_minus" W_law_minus) (T_law_times : Fd Pg w K mg base k "_law_times" W_law_times)  : FnG Pg w K mg base (k + 1) f fd ["p", "d", "m"] (spOf K W_law_worth_row) := by
  refine okFn F sc_law_worth_row (by rintro as Q ⟨p, d, m, rfl, hp, hp2, ⟨hd0, hd⟩, ⟨hm0, hm⟩, hQ⟩; rfl) ?_
  rintro X C Fx as Q ⟨p, d, m, rfl, hp, hp2, ⟨hd0, hd⟩, ⟨hm0, hm⟩, hQ⟩
  refine BN.cons ?_
  refine SN.own (i := 3) C Fx rfl (by walk_at "vis") rfl ?_
  refine LN.cons rfl ?_
  refine EN.call C T_law_number (by omega) rfl ?_ rfl rfl
  refine AN.cons rfl ?_
  refine EN.var (i := 0) C rfl (by walk_at "vis") rfl ?_
  refine AN.cons rfl ?_
  refine EN.int ?_
  refine AN.nil ?_
  refine ⟨_, _, rfl, by omega, ?_⟩
  refine LN.cons rfl ?_
  refine EN.var (i := 1) C rfl (by walk_at "vis") rfl ?_
  refine LN.nil ?_
  refine ⟨Nat.le_of_ble_eq_true rfl, ?_⟩
  refine BN.cons ?_
  refine SN.while C (fun r ρ => ∃ n : Nat, 2 ≤ n ∧ r = (m + 1).toNat - n ∧ n ≤ 5001 ∧ (n = 2 ∨ (n : Int) ≤ m + 1) ∧ ρ = [dI p, dI d, dI m, .own (il (tr p d n))]) ((m + 1).toNat - 2) ?i1 ?turn1
  case i1 => exact ⟨2, by omega, rfl, by omega, Or.inl rfl, rfl⟩
  case turn1 =>
    rintro r ρ' ⟨n, hn, rfl, hn2, hn3, rfl⟩
    refine TN.lt ?_
    refine EN.lenO (i := 3) C rfl B.len rfl (by walk_at "vis") rfl ?_ rfl rfl
    refine EN.add ?_
    refine EN.var (i := 2) C rfl (by walk_at "vis") rfl ?_
    refine EN.int ?_
    refine AddD.i ?_
    refine Ibd (fun hb => ?_) (fun hb => ?_)
    · walk_at "go"
      rw [il_len, tr_len] at hb
      refine BN.cons ?_
      refine SN.app (i := 3) C rfl (by walk_at "vis") rfl ?_ rfl rfl rfl rfl rfl rfl
      refine EN.call C T_law_minus (by omega) rfl ?_ rfl rfl
      refine AN.cons rfl ?_
      refine EN.var (i := 0) C rfl (by walk_at "vis") rfl ?_
      refine AN.cons rfl ?_
      refine EN.call C T_law_times (by omega) rfl ?_ rfl rfl
      refine AN.cons rfl ?_
      refine EN.var (i := 0) C rfl (by walk_at "vis") rfl ?_
      refine AN.cons rfl ?_
      refine EN.var (i := 1) C rfl (by walk_at "vis") rfl ?_
      refine AN.cons rfl ?_
      refine EN.ixO (i := 3) C rfl (by walk_at "vis") rfl (fun _ _ => rfl) ?_
      refine EN.sub ?_
      refine EN.lenO (i := 3) C rfl B.len rfl (by walk_at "vis") rfl ?_ rfl rfl
      refine EN.int ?_
      refine SubI.i ?_
      refine ⟨_, _, rfl, tr_atk (k := 1) (by omega) (by omega), ?_⟩
      refine AN.nil ?_
      refine ⟨_, _, _, rfl, by omega, by omega, ?_⟩
      refine AN.cons rfl ?_
      refine EN.ixO (i := 3) C rfl (by walk_at "vis") rfl (fun _ _ => rfl) ?_
      refine EN.sub ?_
      refine EN.lenO (i := 3) C rfl B.len rfl (by walk_at "vis") rfl ?_ rfl rfl
      refine EN.int ?_
      refine SubI.i ?_
      refine ⟨_, _, rfl, tr_atk (k := 2) (by omega) (by omega), ?_⟩
      refine AN.nil ?_
      refine ⟨_, _, _, rfl, by omega, by omega, ?_⟩
      refine ⟨by rw [il_len, tr_len]; exact Nat.lt_of_le_of_lt hn2 (by decide), ?_⟩
      refine BN.nil ?_
      refine ⟨(m + 1).toNat - (n + 1), by omega, n + 1, by omega, rfl, by omega, Or.inr (by omega), ?_⟩
      rw [il_tr_succ, Tm_step hn]
      rfl
    · walk_at "go"
      rw [il_len, tr_len] at hb
      refine BN.freeze (i := 3) rfl ?_
      refine BN.cons ?_
      refine SN.ret ?_
      refine EN.sl ?_
      refine EN.var (i := 3) C rfl (by walk_at "vis") rfl ?_
      -- part
      refine (show EN _ _ _ _ from ?_)
      refine EN.add ?_
      refine EN.var (i := 2) C rfl (by walk_at "vis") rfl ?_
      refine EN.int ?_
      refine AddD.i ?_
      refine ⟨_, rfl, ?_⟩
      refine CutD.l ?_
      have hc := tr_cut (p := p) (d := d) (n := n) (m := (m + 1).toNat) (by omega)
      rw [Int.toNat_of_nonneg (by omega)] at hc
      rw [hc]
      exact hQ
/-! _law_length -/
abbrev s_law_length : Stmt := topS 29
theorem sc_law_length : FnScope ["p", "d", "row", "spots", "l"] ["p", "d"] (defScope s_law_length) := ⟨rfl, rfl, rfl, by decide +kernel, rfl, by decide +kernel, by decide +kernel⟩
theorem ok_law_length {f : Addr} {fd : FuncData} (F : Fun K "_law_length" "_law_length" s_law_length f fd) (B : Blt mg) (T_law_number : Fd Pg w K mg base k "_law_number" W_law_number) (T_law_worth_row : Fd Pg w K mg base k "_law_worth_row" W_law_worth_row)  : FnG Pg w K mg base (k + 1) f fd ["p", "d"] (spOf K W_law_length) := by
  refine okFn F sc_law_length (by rintro as Q ⟨p, d, rfl, hp, ⟨hd0, hd⟩, hQ⟩; rfl) ?_
  rintro X C Fx as Q ⟨p, d, rfl, hp, ⟨hd0, hd⟩, hQ⟩
  have hpl := hp.lt
  obtain ⟨hl1, hl2, hl3, hl4, _⟩ := ln_ok hp hd0 hd
  refine BN.cons ?_
  refine SN.asg (i := 2) C Fx rfl (by walk_at "vis") rfl ?_
  refine EN.call C T_law_worth_row (by omega) rfl ?_ rfl rfl
  refine AN.cons rfl ?_
  refine EN.var (i := 0) C rfl (by walk_at "vis") rfl ?_
  refine AN.cons rfl ?_
  refine EN.var (i := 1) C rfl (by walk_at "vis") rfl ?_
  refine AN.cons rfl ?_
  refine EN.ife ?_
  refine TN.gt ?_
  refine EN.var (i := 0) C rfl (by walk_at "vis") rfl ?_
  refine EN.int ?_
  refine Ibd (fun hb => ?_) (fun hb => ?_)
  · walk_at "go"
    refine EN.add ?_
    refine EN.var (i := 0) C rfl (by walk_at "vis") rfl ?_
    refine EN.int ?_
    refine AddD.i ?_
    refine AN.nil ?_
    refine ⟨_, _, _, rfl, by omega, by omega, by omega, by omega, ?_⟩
    refine BN.cons ?_
    refine SN.asgLc (i := 4) (j := 3) C rfl rfl rfl rfl rfl (by rintro ⟨⟩ ⟨⟩; rfl) (fun _ => rfl) ?_
    refine IN.r2 C rfl B.range rfl rfl rfl rfl ?_
    refine EN.int ?_
    refine EN.add ?_
    refine EN.len C rfl B.len ?_ rfl rfl
    refine EN.var (i := 2) C rfl (by walk_at "vis") rfl ?_
    refine EN.int ?_
    refine AddD.i ?_
    refine ⟨_, _, rfl, rfl, (by first | omega | (simp only [il_len, tr_len]; omega) | (simp only [fl_len, tq_len]; omega)), ?_⟩
    refine ⟨by rw [rng_len, il_len, tr_len]; omega, ?_⟩
    refine ⟨fun m acc => ∃ S : List Int, acc = il S ∧ LI (ln p d : Int) m S, ?i1, ?turn1, ?done1⟩
    case i1 => exact ⟨[], rfl, fun _ => rfl, fun z => absurd z (by omega)⟩
    case turn1 =>
      rintro m d9 acc hd9 ⟨S, rfl, hI⟩
      obtain ⟨rfl, hm⟩ := rng_get hd9
      rw [il_len, tr_len] at hm
      intro Y1 CY1
      refine TN.eq CY1 ?_
      refine EN.ix (fun _ _ => rfl) ?_
      refine EN.var (i := 2) CY1 rfl (by walk_at "vis") rfl ?_
      refine EN.sub ?_
      refine EN.var (i := 4) CY1 rfl (by walk_at "vis") rfl ?_
      refine EN.int ?_
      refine SubI.i ?_
      refine IxD.l (tr_at (by omega) (by omega)) ?_
      refine EN.call CY1 T_law_number (by omega) rfl ?_ rfl rfl
      refine AN.cons rfl ?_
      refine EN.var (i := 0) CY1 rfl (by walk_at "vis") rfl ?_
      refine AN.cons rfl ?_
      refine EN.int ?_
      refine AN.nil ?_
      refine ⟨_, _, rfl, by omega, ?_⟩
      refine Eqi (fun hb => ?_) (fun hb => ?_)
      · walk_at "go"
        intro Y1 CY1
        refine EN.var (i := 4) CY1 rfl (by walk_at "vis") rfl ?_
        refine ⟨S ++ [2 + (m : Int)], by rw [il_append]; rfl, hI.yes ?_⟩
        refine Int.not_lt.mp fun z => ?_
        exact hl4 (2 + (m : Int) - 1).toNat (by omega) (hb.trans (Int.zero_emod p))
      · walk_at "go"
        refine ⟨S, rfl, hI.no fun e => hb ?_⟩
        rw [Int.zero_emod, show (2 + (m : Int) - 1).toNat = ln p d - 1 by omega]
        exact hl3
    rintro acc ⟨S, rfl, hI⟩
    obtain ⟨r, rfl⟩ := hI.2 (by rw [rng_len, il_len, tr_len]; omega)
    refine BN.cons ?_
    refine SN.ret ?_
    refine EN.ife ?_
    refine TN.ne C ?_
    refine EN.var (i := 3) C rfl (by walk_at "vis") rfl ?_
    refine EN.lst ?_
    refine LN.nil ?_
    refine ⟨Nat.le_of_ble_eq_true rfl, ?_⟩
    refine NeL (b := []) (fun hb => ?_) (fun hb => ?_)
    · walk_at "go"
      refine EN.ix (fun _ _ => rfl) ?_
      refine EN.var (i := 3) C rfl (by walk_at "vis") rfl ?_
      refine EN.int ?_
      refine IxD.l (d := .int (ln p d)) (atI_nat (j := 0) rfl) ?_
      exact hQ
    · exact absurd hb (List.cons_ne_nil _ _)
  · exfalso
    omega
/-! _law_far_power -/
abbrev s_law_far_power : Stmt := topS 30
theorem sc_law_far_power : FnScope ["p", "x", "m", "found", "step"] ["p", "x", "m"] (defScope s_law_far_power) := ⟨rfl, rfl, rfl, by decide +kernel, rfl, by decide +kernel, by decide +kernel⟩
theorem ok_law_far_power {f : Addr} {fd : FuncData} (F : Fun K "_law_far_power" "_law_far_power" s_law_far_power f fd) (B : Blt mg)   : FnG Pg w K mg base (k + 1) f fd ["p", "x", "m"] (spOf K W_law_far_power) := by
  refine okFn F sc_law_far_power (by rintro as Q ⟨p, x, m, rfl, hp, ⟨hx0, hx⟩, hm0, hQ⟩; rfl) ?_
  rintro X C Fx as Q ⟨p, x, m, rfl, hp, ⟨hx0, hx⟩, hm0, hQ⟩
  have hpl := hp.lt
  refine BN.cons ?_
  refine SN.par (i := 3) (j := 4) C rfl rfl (by decide) rfl rfl (by rintro ⟨⟩ ⟨⟩; rfl) rfl rfl rfl ?_
  refine EN.int ?_
  refine EN.var (i := 1) C rfl (by walk_at "vis") rfl ?_
  refine BN.cons ?_
  refine SN.while C (fun r ρ => ∃ n f s : Int, 0 ≤ n ∧ r = n.toNat ∧ (0 ≤ f ∧ f < p) ∧ (0 ≤ s ∧ s < p) ∧ p ∣ f * s ^ n.toNat - x ^ m.toNat ∧ ρ = [dI p, dI x, dI n, dI f, dI s]) (m.toNat) ?i1 ?turn1
  case i1 => exact ⟨m, 1, x, hm0, rfl, by omega, by omega, ⟨0, by omega⟩, rfl⟩
  case turn1 =>
    rintro r ρ' ⟨n, f, s, hn, rfl, hf, hs, hdv, rfl⟩
    refine TN.gt ?_
    refine EN.var (i := 2) C rfl (by walk_at "vis") rfl ?_
    refine EN.int ?_
    refine Ibd (fun hb => ?_) (fun hb => ?_)
    · walk_at "go"
      refine BN.cons ?_
      refine SN.asg (i := 3) C Fx rfl (by walk_at "vis") rfl ?_
      refine EN.cut (v := .int (if n % 2 = 1 then f * s % p else f)) ?_ ?_
      · refine EN.ife ?_
        refine TN.eq C ?_
        refine EN.mod ?_
        refine EN.var (i := 2) C rfl (by walk_at "vis") rfl ?_
        refine EN.int ?_
        refine ModI.i (by omega) ?_
        refine EN.int ?_
        refine Eqi (fun hb => ?_) (fun hb => ?_)
        · walk_at "go"
          refine EN.mod ?_
          refine EN.intc C rfl B.int ?_ rfl rfl
          refine EN.mul ?_
          refine EN.var (i := 3) C rfl (by walk_at "vis") rfl ?_
          refine EN.var (i := 4) C rfl (by walk_at "vis") rfl ?_
          refine MulD.i (by walk_at "mulok") ?_
          refine EN.var (i := 0) C rfl (by walk_at "vis") rfl ?_
          refine ModI.i (by omega) ?_
          rw [if_pos hb]
        · walk_at "go"
          refine EN.var (i := 3) C rfl (by walk_at "vis") rfl ?_
          rw [if_neg hb]
      refine BN.cons ?_
      refine SN.par (i := 4) (j := 2) C rfl rfl (by decide) rfl rfl (by rintro ⟨⟩ ⟨⟩; rfl) rfl rfl rfl ?_
      refine EN.mod ?_
      refine EN.intc C rfl B.int ?_ rfl rfl
      refine EN.mul ?_
      refine EN.var (i := 4) C rfl (by walk_at "vis") rfl ?_
      refine EN.var (i := 4) C rfl (by walk_at "vis") rfl ?_
      refine MulD.i (by walk_at "mulok") ?_
      refine EN.var (i := 0) C rfl (by walk_at "vis") rfl ?_
      refine ModI.i (by omega) ?_
      refine EN.div ?_
      refine EN.var (i := 2) C rfl (by walk_at "vis") rfl ?_
      refine EN.int ?_
      refine DivI.i (by omega) (by omega) ?_
      refine BN.nil ?_
      refine ⟨(n / 2).toNat, by omega, n / 2, _, _, by omega, rfl, fp_in hf, in_p hp _, fp_next hb hdv, rfl⟩
    · walk_at "go"
      refine BN.cons ?_
      refine SN.ret ?_
      refine EN.var (i := 3) C rfl (by walk_at "vis") rfl ?_
      rw [← fp_end hb hf hdv] at hQ
      exact hQ
/-! _law_order -/
abbrev s_law_order : Stmt := topS 31
theorem sc_law_order : FnScope ["p", "x", "found", "here"] ["p", "x"] (defScope s_law_order) := ⟨rfl, rfl, rfl, by decide +kernel, rfl, by decide +kernel, by decide +kernel⟩
theorem ok_law_order {f : Addr} {fd : FuncData} (F : Fun K "_law_order" "_law_order" s_law_order f fd) (B : Blt mg)   : FnG Pg w K mg base (k + 1) f fd ["p", "x"] (spOf K W_law_order) := by
  refine okFn F sc_law_order (by rintro as Q ⟨p, x, rfl, hp, hx0, hx, hQ⟩; rfl) ?_
  rintro X C Fx as Q ⟨p, x, rfl, hp, hx0, hx, hQ⟩
  have hpl := hp.lt
  obtain ⟨ho1, ho2, ho3, ho4⟩ := od_ok hp hx0 hx
  refine BN.cons ?_
  refine SN.par (i := 2) (j := 3) C rfl rfl (by decide) rfl rfl (by rintro ⟨⟩ ⟨⟩; rfl) rfl rfl rfl ?_
  refine EN.int ?_
  refine EN.var (i := 1) C rfl (by walk_at "vis") rfl ?_
  refine BN.cons ?_
  refine SN.while C (fun r ρ => ∃ n : Nat, 1 ≤ n ∧ n ≤ od p x ∧ r = od p x - n ∧ ρ = [dI p, dI x, dI n, dI (pm p x n)]) (od p x - 1) ?i1 ?turn1
  case i1 => exact ⟨1, Nat.le_refl _, ho4, rfl, by rw [show pm p x 1 = x from by show 1 * x % p = x; rw [Int.one_mul, Int.emod_eq_of_lt (by omega) hx]]; rfl⟩
  case turn1 =>
    rintro r ρ' ⟨n, hn, hn2, rfl, rfl⟩
    have hb9 := pm_lt p x (by omega) (by omega) n
    refine TN.ne C ?_
    refine EN.var (i := 3) C rfl (by walk_at "vis") rfl ?_
    refine EN.int ?_
    refine Nei (fun hb => ?_) (fun hb => ?_)
    · walk_at "go"
      refine BN.cons ?_
      refine SN.par (i := 2) (j := 3) C rfl rfl (by decide) rfl rfl (by rintro ⟨⟩ ⟨⟩; rfl) rfl rfl rfl ?_
      refine EN.add ?_
      refine EN.var (i := 2) C rfl (by walk_at "vis") rfl ?_
      refine EN.int ?_
      refine AddD.i ?_
      refine EN.mod ?_
      refine EN.intc C rfl B.int ?_ rfl rfl
      refine EN.mul ?_
      refine EN.var (i := 3) C rfl (by walk_at "vis") rfl ?_
      refine EN.var (i := 1) C rfl (by walk_at "vis") rfl ?_
      refine MulD.i (by walk_at "mulok") ?_
      refine EN.var (i := 0) C rfl (by walk_at "vis") rfl ?_
      refine ModI.i (by omega) ?_
      refine BN.nil ?_
      have hne : n ≠ od p x := fun e => hb (by rw [e]; exact ho1)
      refine ⟨od p x - (n + 1), by omega, n + 1, by omega, by omega, rfl, rfl⟩
    · walk_at "go"
      refine BN.cons ?_
      refine SN.ret ?_
      refine EN.var (i := 2) C rfl (by walk_at "vis") rfl ?_
      have e : n = od p x := by
        by_cases h : n < od p x
        · exact absurd hb (ho3 n h (by omega))
        · omega
      rw [e]
      exact hQ
/-! _law_pair_right -/
abbrev s_law_pair_right : Stmt := topS 32
theorem sc_law_pair_right : FnScope ["source", "p", "x", "other", "d", "square", "span", "m", "due", "lead"] ["source", "p", "x"] (defScope s_law_pair_right) := ⟨rfl, rfl, rfl, by decide +kernel, rfl, by decide +kernel, by decide +kernel⟩
theorem ok_law_pair_right {f : Addr} {fd : FuncData} (F : Fun K "_law_pair_right" "_law_pair_right" s_law_pair_right f fd) (B : Blt mg) (T_law_over : Fd Pg w K mg base k "_law_over" W_law_over) (T_law_order : Fd Pg w K mg base k "_law_order" W_law_order) (T_plus : Fd Pg w K mg base k "plus" W_plus) (T_over : Fd Pg w K mg base k "over" W_over) (T_length : Fd Pg w K mg base k "length" W_length) (T_judge_length : Fd Pg w K mg base k "judge_length" W_judge_length) (T_worths_of : Fd Pg w K mg base k "worths_of" W_worths_of) (T_law_pick : Fd Pg w K mg base k "_law_pick" W_law_pick) (T_law_far_power : Fd Pg w K mg base k "_law_far_power" W_law_far_power) (T_term : Fd Pg w K mg base k "term" W_term) (T_times : Fd Pg w K mg base k "times" W_times) (T_minus : Fd Pg w K mg base k "minus" W_minus)  : FnG Pg w K mg base (k + 1) f fd ["source", "p", "x"] (spOf K W_law_pair_right) := by
  refine okFn F sc_law_pair_right (by rintro as Q ⟨p, x, rfl, hp, hx0, hx, hQ⟩; rfl) ?_
  rintro X C Fx as Q ⟨p, x, rfl, hp, hx0, hx, hQ⟩
  have hpl := hp.lt
  obtain ⟨hi1, hi2, hi3⟩ := iv_ok hp hx0 hx
  obtain ⟨hw1, hw2, hw3, hw4⟩ := wx_ok hp hx0 hx
  have hd9 := in_p hp (x + iv p x)
  have hs9 := in_p hp (x * x)
  have hz9 := in_p hp (x - iv p x)
  have e1 := one_iv hp hx0 hx
  have hw1 : (ln p ((x + iv p x) % p) : Int) = spx p x := hw1
  have hw2 : 1 ≤ x * x % p := hw2
  obtain ⟨hl1, hl2, hl3, hl4, hl5⟩ := ln_ok hp hd9.1 hd9.2
  have hj1 : jl p ((x + iv p x) % p) (spx p x) = .none := jl_a hw1.symm
  have hj2 : jl p ((x + iv p x) % p) (spx p x + 1) = .tuple [.str "early", .int (ln p ((x + iv p x) % p))] := jl_b (by omega) (by omega)
  refine BN.cons ?_
  refine SN.asg (i := 3) C Fx rfl (by walk_at "vis") rfl ?_
  refine EN.call C T_law_over (by omega) rfl ?_ rfl rfl
  refine AN.cons rfl ?_
  refine EN.var (i := 1) C rfl (by walk_at "vis") rfl ?_
  refine AN.cons rfl ?_
  refine EN.int ?_
  refine AN.cons rfl ?_
  refine EN.var (i := 2) C rfl (by walk_at "vis") rfl ?_
  refine AN.nil ?_
  refine ⟨_, _, _, rfl, by assumption, by omega, by omega, ?_⟩
  rw [e1]
  refine BN.cons ?_
  refine SN.par (i := 4) (j := 5) C rfl rfl (by decide) rfl rfl (by rintro ⟨⟩ ⟨⟩; rfl) rfl rfl rfl ?_
  refine EN.mod ?_
  refine EN.intc C rfl B.int ?_ rfl rfl
  refine EN.add ?_
  refine EN.var (i := 2) C rfl (by walk_at "vis") rfl ?_
  refine EN.var (i := 3) C rfl (by walk_at "vis") rfl ?_
  refine AddD.i ?_
  refine EN.var (i := 1) C rfl (by walk_at "vis") rfl ?_
  refine ModI.i (by omega) ?_
  refine EN.mod ?_
  refine EN.intc C rfl B.int ?_ rfl rfl
  refine EN.mul ?_
  refine EN.var (i := 2) C rfl (by walk_at "vis") rfl ?_
  refine EN.var (i := 2) C rfl (by walk_at "vis") rfl ?_
  refine MulD.i (by walk_at "mulok") ?_
  refine EN.var (i := 1) C rfl (by walk_at "vis") rfl ?_
  refine ModI.i (by omega) ?_
  refine BN.cons ?_
  refine SN.asg (i := 6) C Fx rfl (by walk_at "vis") rfl ?_
  refine EN.cut (v := .int (spx p x)) ?_ ?_
  · refine EN.ife ?_
    refine TN.eq C ?_
    refine EN.var (i := 5) C rfl (by walk_at "vis") rfl ?_
    refine EN.int ?_
    refine Eqi (fun hb => ?_) (fun hb => ?_)
    · walk_at "go"
      refine EN.var (i := 1) C rfl (by walk_at "vis") rfl ?_
      rw [spx_one hb]
    · walk_at "go"
      refine EN.call C T_law_order (by omega) rfl ?_ rfl rfl
      refine AN.cons rfl ?_
      refine EN.var (i := 1) C rfl (by walk_at "vis") rfl ?_
      refine AN.cons rfl ?_
      refine EN.var (i := 5) C rfl (by walk_at "vis") rfl ?_
      refine AN.nil ?_
      refine ⟨_, _, rfl, by assumption, by omega, by omega, ?_⟩
      rw [spx_od hb]
  refine BN.cons ?_
  refine SN.ife ?_
  refine WN.tn ?_
  refine WN.or ?_
  refine TN.ne C ?_
  refine EN.call C T_plus (by omega) rfl ?_ rfl rfl
  refine AN.cons rfl ?_
  refine EN.var (i := 1) C rfl (by walk_at "vis") rfl ?_
  refine AN.cons rfl ?_
  refine EN.var (i := 2) C rfl (by walk_at "vis") rfl ?_
  refine AN.cons rfl ?_
  refine EN.call C T_over (by omega) rfl ?_ rfl rfl
  refine AN.cons rfl ?_
  refine EN.var (i := 1) C rfl (by walk_at "vis") rfl ?_
  refine AN.cons rfl ?_
  refine EN.int ?_
  refine AN.cons rfl ?_
  refine EN.var (i := 2) C rfl (by walk_at "vis") rfl ?_
  refine AN.nil ?_
  refine ⟨_, _, _, rfl, by omega, by omega, by omega, by omega, by omega, ?_⟩
  rw [show 1 * pm p x (p - 2).toNat % p = iv p x from e1]
  refine AN.nil ?_
  refine ⟨_, _, _, rfl, by omega, ?_⟩
  refine EN.var (i := 4) C rfl (by walk_at "vis") rfl ?_
  refine Nei (fun hb => ?_) (fun hb => ?_)
  · exact absurd rfl hb
  · walk_at "go"
    refine WN.or ?_
    refine TN.ne C ?_
    refine EN.call C T_length (by omega) rfl ?_ rfl rfl
    refine AN.cons rfl ?_
    refine EN.var (i := 1) C rfl (by walk_at "vis") rfl ?_
    refine AN.cons rfl ?_
    refine EN.var (i := 4) C rfl (by walk_at "vis") rfl ?_
    refine AN.nil ?_
    refine ⟨_, _, rfl, by assumption, by omega, ?_⟩
    refine EN.var (i := 6) C rfl (by walk_at "vis") rfl ?_
    refine Nei (fun hb => ?_) (fun hb => ?_)
    · exact absurd hw1 hb
    · walk_at "go"
      refine WN.or1 ?_
      refine TN.notN ?_
      refine EN.call C T_judge_length (by omega) rfl ?_ rfl rfl
      refine AN.cons rfl ?_
      refine EN.var (i := 1) C rfl (by walk_at "vis") rfl ?_
      refine AN.cons rfl ?_
      refine EN.var (i := 4) C rfl (by walk_at "vis") rfl ?_
      refine AN.cons rfl ?_
      refine EN.var (i := 6) C rfl (by walk_at "vis") rfl ?_
      refine AN.nil ?_
      refine ⟨_, _, _, rfl, by assumption, by omega, by omega, ?_⟩
      rw [hj1]
      refine byB _ (fun hb => ?_) (fun hb => ?_)
      · exact Bool.noConfusion hb
      · walk_at "go"
        refine BN.nil ?_
        refine BN.cons ?_
        refine SN.ife ?_
        refine WN.tn ?_
        refine WN.or ?_
        refine TN.ninT rfl ?_
        refine EN.var (i := 4) C rfl (by walk_at "vis") rfl ?_
        refine EN.call C T_worths_of (by omega) rfl ?_ rfl rfl
        refine AN.cons rfl ?_
        refine EN.var (i := 1) C rfl (by walk_at "vis") rfl ?_
        refine AN.cons rfl ?_
        refine EN.var (i := 6) C rfl (by walk_at "vis") rfl ?_
        refine AN.nil ?_
        refine ⟨_, _, rfl, by assumption, ?_⟩
        refine InTI (fun hb => ?_) (fun hb => ?_)
        · walk_at "go"
          refine WN.or1 ?_
          refine TN.ne C ?_
          refine EN.call C T_judge_length (by omega) rfl ?_ rfl rfl
          refine AN.cons rfl ?_
          refine EN.var (i := 1) C rfl (by walk_at "vis") rfl ?_
          refine AN.cons rfl ?_
          refine EN.var (i := 4) C rfl (by walk_at "vis") rfl ?_
          refine AN.cons rfl ?_
          refine EN.add ?_
          refine EN.var (i := 6) C rfl (by walk_at "vis") rfl ?_
          refine EN.int ?_
          refine AddD.i ?_
          refine AN.nil ?_
          refine ⟨_, _, _, rfl, by assumption, by omega, by omega, ?_⟩
          rw [hj2]
          refine EN.tup ?_
          refine LN.cons rfl ?_
          refine EN.str ?_
          refine LN.cons rfl ?_
          refine EN.var (i := 6) C rfl (by walk_at "vis") rfl ?_
          refine LN.nil ?_
          refine ⟨Nat.le_of_ble_eq_true rfl, ?_⟩
          refine NeTI (by decide +kernel) hw1 ?_
          walk_at "go"
          refine BN.nil ?_
          refine BN.cons ?_
          refine SN.for C (fun _ => rfl) ?_
          refine IN.seq ?_
          refine EN.tup ?_
          refine LN.cons rfl ?_
          refine EN.call C T_law_pick (by omega) rfl ?_ rfl rfl
          refine AN.src (i := 0) C rfl (by walk_at "vis") rfl rfl ?_
          refine AN.cons rfl ?_
          refine EN.int ?_
          refine AN.nil ?_
          refine ⟨_, rfl, by omega, fun r3 hr3 hs3 => ?_⟩
          refine LN.cons rfl ?_
          refine EN.add ?_
          refine EN.mul ?_
          refine EN.call C T_law_pick (by omega) rfl ?_ rfl rfl
          refine AN.src (i := 0) C rfl (by walk_at "vis") rfl rfl ?_
          refine AN.cons rfl ?_
          refine EN.pow ?_
          refine EN.int ?_
          refine EN.int ?_
          refine PowI.v (n := 1000000000) ⟨by decide, by decide, by decide⟩ (by decide +kernel) ?_
          refine AN.nil ?_
          refine ⟨_, rfl, by omega, fun r4 hr4 hs4 => ?_⟩
          refine EN.pow ?_
          refine EN.int ?_
          refine EN.int ?_
          refine PowI.v (n := 100000000000000000000) ⟨by decide, by decide, by decide⟩ (by decide +kernel) ?_
          refine MulD.i (by walk_at "mulok") ?_
          refine EN.call C T_law_pick (by omega) rfl ?_ rfl rfl
          refine AN.src (i := 0) C rfl (by walk_at "vis") rfl rfl ?_
          refine AN.cons rfl ?_
          refine EN.pow ?_
          refine EN.int ?_
          refine EN.int ?_
          refine PowI.v (n := 1000000) ⟨by decide, by decide, by decide⟩ (by decide +kernel) ?_
          refine AN.nil ?_
          refine ⟨_, rfl, by omega, fun r5 hr5 hs5 => ?_⟩
          refine AddD.i ?_
          refine LN.nil ?_
          refine ⟨Nat.le_of_ble_eq_true rfl, ?_⟩
          refine SeqD.t ?_
          refine ⟨fun n ρ => ∃ s1 s2 s3, ρ = [.src, dI p, dI x, dI (iv p x), dI ((x + iv p x) % p), dI (x * x % p), dI (spx p x), s1, s2, s3], ?i1, ?turn1, ?done1⟩
          case i1 => exact ⟨_, _, _, rfl⟩
          case turn1 =>
            rintro n d9 ρ' hd9' ⟨s1, s2, s3, rfl⟩
            obtain ⟨m, rfl, hm⟩ : ∃ m : Int, d9 = .int m ∧ 0 ≤ m := by
              rcases two_get hd9' with rfl | rfl
              · exact ⟨_, rfl, by omega⟩
              · exact ⟨_, rfl, by omega⟩
            refine GN.name (i := 7) C rfl (by walk_at "vis") (Or.inl (Fx _)) ?_
            refine BN.cons ?_
            refine SN.ife ?_
            refine TN.eq C ?_
            refine EN.var (i := 5) C rfl (by walk_at "vis") rfl ?_
            refine EN.int ?_
            refine Eqi (fun hb => ?_) (fun hb => ?_)
            · walk_at "go"
              refine BN.cons ?_
              refine SN.asg (i := 8) C Fx rfl (by walk_at "vis") rfl ?_
              refine EN.mod ?_
              refine EN.intc C rfl B.int ?_ rfl rfl
              refine EN.mul ?_
              refine EN.add ?_
              refine EN.var (i := 7) C rfl (by walk_at "vis") rfl ?_
              refine EN.int ?_
              refine AddD.i ?_
              refine EN.call C T_law_far_power (by omega) rfl ?_ rfl rfl
              refine AN.cons rfl ?_
              refine EN.var (i := 1) C rfl (by walk_at "vis") rfl ?_
              refine AN.cons rfl ?_
              refine EN.var (i := 2) C rfl (by walk_at "vis") rfl ?_
              refine AN.cons rfl ?_
              refine EN.var (i := 7) C rfl (by walk_at "vis") rfl ?_
              refine AN.nil ?_
              refine ⟨_, _, _, rfl, by assumption, by omega, by omega, ?_⟩
              have hq1 := in_p hp (x ^ m.toNat)
              refine MulD.i (by walk_at "mulok") ?_
              refine EN.var (i := 1) C rfl (by walk_at "vis") rfl ?_
              refine ModI.i (by omega) ?_
              refine BN.nil ?_
              refine BN.cons ?_
              refine SN.ife ?_
              refine WN.tn ?_
              refine WN.or ?_
              refine TN.ne C ?_
              refine EN.call C T_term (by omega) rfl ?_ rfl rfl
              refine AN.cons rfl ?_
              refine EN.var (i := 1) C rfl (by walk_at "vis") rfl ?_
              refine AN.cons rfl ?_
              refine EN.var (i := 4) C rfl (by walk_at "vis") rfl ?_
              refine AN.cons rfl ?_
              refine EN.var (i := 7) C rfl (by walk_at "vis") rfl ?_
              refine AN.nil ?_
              refine ⟨_, _, _, rfl, by assumption, by omega, by omega, ?_⟩
              refine EN.var (i := 8) C rfl (by walk_at "vis") rfl ?_
              refine Nei (fun hb => ?_) (fun hb => ?_)
              · first
                  | exact absurd (due_sq hp hx0 hx (by assumption) hm) hb
                  | exact absurd (due_ne hp hx0 hx (by assumption) hm) hb
              · walk_at "go"
                refine WN.or1 ?_
                refine TN.ne C ?_
                refine EN.call C T_times (by omega) rfl ?_ rfl rfl
                refine AN.cons rfl ?_
                refine EN.var (i := 1) C rfl (by walk_at "vis") rfl ?_
                refine AN.cons rfl ?_
                refine EN.call C T_minus (by omega) rfl ?_ rfl rfl
                refine AN.cons rfl ?_
                refine EN.var (i := 1) C rfl (by walk_at "vis") rfl ?_
                refine AN.cons rfl ?_
                refine EN.var (i := 2) C rfl (by walk_at "vis") rfl ?_
                refine AN.cons rfl ?_
                refine EN.var (i := 3) C rfl (by walk_at "vis") rfl ?_
                refine AN.nil ?_
                refine ⟨_, _, _, rfl, by omega, ?_⟩
                refine AN.cons rfl ?_
                refine EN.call C T_term (by omega) rfl ?_ rfl rfl
                refine AN.cons rfl ?_
                refine EN.var (i := 1) C rfl (by walk_at "vis") rfl ?_
                refine AN.cons rfl ?_
                refine EN.var (i := 4) C rfl (by walk_at "vis") rfl ?_
                refine AN.cons rfl ?_
                refine EN.var (i := 7) C rfl (by walk_at "vis") rfl ?_
                refine AN.nil ?_
                refine ⟨_, _, _, rfl, by assumption, by omega, by omega, ?_⟩
                refine AN.nil ?_
                refine ⟨_, _, _, rfl, by omega, by omega, ?_⟩
                refine EN.call C T_times (by omega) rfl ?_ rfl rfl
                refine AN.cons rfl ?_
                refine EN.var (i := 1) C rfl (by walk_at "vis") rfl ?_
                refine AN.cons rfl ?_
                refine EN.call C T_minus (by omega) rfl ?_ rfl rfl
                refine AN.cons rfl ?_
                refine EN.var (i := 1) C rfl (by walk_at "vis") rfl ?_
                refine AN.cons rfl ?_
                refine EN.var (i := 2) C rfl (by walk_at "vis") rfl ?_
                refine AN.cons rfl ?_
                refine EN.var (i := 3) C rfl (by walk_at "vis") rfl ?_
                refine AN.nil ?_
                refine ⟨_, _, _, rfl, by omega, ?_⟩
                refine AN.cons rfl ?_
                refine EN.var (i := 8) C rfl (by walk_at "vis") rfl ?_
                refine AN.nil ?_
                refine ⟨_, _, _, rfl, by omega, by omega, ?_⟩
                refine Nei (fun hb => ?_) (fun hb => ?_)
                · first
                    | (rw [due_sq hp hx0 hx (by assumption) hm] at hb; exact absurd rfl hb)
                    | (rw [due_ne hp hx0 hx (by assumption) hm] at hb; exact absurd rfl hb)
                · walk_at "go"
                  refine BN.nil ?_
                  refine BN.nil ?_
                  exact ⟨_, _, _, rfl⟩
            · walk_at "go"
              refine BN.cons ?_
              refine SN.asg (i := 9) C Fx rfl (by walk_at "vis") rfl ?_
              refine EN.mod ?_
              refine EN.intc C rfl B.int ?_ rfl rfl
              refine EN.sub ?_
              refine EN.call C T_law_far_power (by omega) rfl ?_ rfl rfl
              refine AN.cons rfl ?_
              refine EN.var (i := 1) C rfl (by walk_at "vis") rfl ?_
              refine AN.cons rfl ?_
              refine EN.var (i := 2) C rfl (by walk_at "vis") rfl ?_
              refine AN.cons rfl ?_
              refine EN.add ?_
              refine EN.var (i := 7) C rfl (by walk_at "vis") rfl ?_
              refine EN.int ?_
              refine AddD.i ?_
              refine AN.nil ?_
              refine ⟨_, _, _, rfl, by assumption, by omega, by omega, ?_⟩
              refine EN.call C T_law_far_power (by omega) rfl ?_ rfl rfl
              refine AN.cons rfl ?_
              refine EN.var (i := 1) C rfl (by walk_at "vis") rfl ?_
              refine AN.cons rfl ?_
              refine EN.var (i := 3) C rfl (by walk_at "vis") rfl ?_
              refine AN.cons rfl ?_
              refine EN.add ?_
              refine EN.var (i := 7) C rfl (by walk_at "vis") rfl ?_
              refine EN.int ?_
              refine AddD.i ?_
              refine AN.nil ?_
              refine ⟨_, _, _, rfl, by assumption, by omega, by omega, ?_⟩
              refine SubI.i ?_
              refine EN.var (i := 1) C rfl (by walk_at "vis") rfl ?_
              refine ModI.i (by omega) ?_
              refine BN.cons ?_
              refine SN.asg (i := 8) C Fx rfl (by walk_at "vis") rfl ?_
              refine EN.call C T_law_over (by omega) rfl ?_ rfl rfl
              refine AN.cons rfl ?_
              refine EN.var (i := 1) C rfl (by walk_at "vis") rfl ?_
              refine AN.cons rfl ?_
              refine EN.var (i := 9) C rfl (by walk_at "vis") rfl ?_
              refine AN.cons rfl ?_
              refine EN.mod ?_
              refine EN.intc C rfl B.int ?_ rfl rfl
              refine EN.sub ?_
              refine EN.var (i := 2) C rfl (by walk_at "vis") rfl ?_
              refine EN.var (i := 3) C rfl (by walk_at "vis") rfl ?_
              refine SubI.i ?_
              refine EN.var (i := 1) C rfl (by walk_at "vis") rfl ?_
              refine ModI.i (by omega) ?_
              refine AN.nil ?_
              have hnz := ne_mod (fun e => hw4 (by assumption) e.symm : x ≠ iv p x) ⟨by omega, hx⟩ ⟨by omega, hi3⟩
              have hle := in_p hp (x ^ (m + 1).toNat % p - iv p x ^ (m + 1).toNat % p)
              refine ⟨_, _, _, rfl, by assumption, by omega, by omega, ?_⟩
              refine BN.nil ?_
              refine BN.cons ?_
              refine SN.ife ?_
              refine WN.tn ?_
              refine WN.or ?_
              refine TN.ne C ?_
              refine EN.call C T_term (by omega) rfl ?_ rfl rfl
              refine AN.cons rfl ?_
              refine EN.var (i := 1) C rfl (by walk_at "vis") rfl ?_
              refine AN.cons rfl ?_
              refine EN.var (i := 4) C rfl (by walk_at "vis") rfl ?_
              refine AN.cons rfl ?_
              refine EN.var (i := 7) C rfl (by walk_at "vis") rfl ?_
              refine AN.nil ?_
              refine ⟨_, _, _, rfl, by assumption, by omega, by omega, ?_⟩
              refine EN.var (i := 8) C rfl (by walk_at "vis") rfl ?_
              refine Nei (fun hb => ?_) (fun hb => ?_)
              · first
                  | exact absurd (due_sq hp hx0 hx (by assumption) hm) hb
                  | exact absurd (due_ne hp hx0 hx (by assumption) hm) hb
              · walk_at "go"
                refine WN.or1 ?_
                refine TN.ne C ?_
                refine EN.call C T_times (by omega) rfl ?_ rfl rfl
                refine AN.cons rfl ?_
                refine EN.var (i := 1) C rfl (by walk_at "vis") rfl ?_
                refine AN.cons rfl ?_
                refine EN.call C T_minus (by omega) rfl ?_ rfl rfl
                refine AN.cons rfl ?_
                refine EN.var (i := 1) C rfl (by walk_at "vis") rfl ?_
                refine AN.cons rfl ?_
                refine EN.var (i := 2) C rfl (by walk_at "vis") rfl ?_
                refine AN.cons rfl ?_
                refine EN.var (i := 3) C rfl (by walk_at "vis") rfl ?_
                refine AN.nil ?_
                refine ⟨_, _, _, rfl, by omega, ?_⟩
                refine AN.cons rfl ?_
                refine EN.call C T_term (by omega) rfl ?_ rfl rfl
                refine AN.cons rfl ?_
                refine EN.var (i := 1) C rfl (by walk_at "vis") rfl ?_
                refine AN.cons rfl ?_
                refine EN.var (i := 4) C rfl (by walk_at "vis") rfl ?_
                refine AN.cons rfl ?_
                refine EN.var (i := 7) C rfl (by walk_at "vis") rfl ?_
                refine AN.nil ?_
                refine ⟨_, _, _, rfl, by assumption, by omega, by omega, ?_⟩
                refine AN.nil ?_
                refine ⟨_, _, _, rfl, by omega, by omega, ?_⟩
                refine EN.call C T_times (by omega) rfl ?_ rfl rfl
                refine AN.cons rfl ?_
                refine EN.var (i := 1) C rfl (by walk_at "vis") rfl ?_
                refine AN.cons rfl ?_
                refine EN.call C T_minus (by omega) rfl ?_ rfl rfl
                refine AN.cons rfl ?_
                refine EN.var (i := 1) C rfl (by walk_at "vis") rfl ?_
                refine AN.cons rfl ?_
                refine EN.var (i := 2) C rfl (by walk_at "vis") rfl ?_
                refine AN.cons rfl ?_
                refine EN.var (i := 3) C rfl (by walk_at "vis") rfl ?_
                refine AN.nil ?_
                refine ⟨_, _, _, rfl, by omega, ?_⟩
                refine AN.cons rfl ?_
                refine EN.var (i := 8) C rfl (by walk_at "vis") rfl ?_
                refine AN.nil ?_
                refine ⟨_, _, _, rfl, by omega, by omega, ?_⟩
                refine Nei (fun hb => ?_) (fun hb => ?_)
                · first
                    | (rw [due_sq hp hx0 hx (by assumption) hm] at hb; exact absurd rfl hb)
                    | (rw [due_ne hp hx0 hx (by assumption) hm] at hb; exact absurd rfl hb)
                · walk_at "go"
                  refine BN.nil ?_
                  refine BN.nil ?_
                  exact ⟨_, _, _, rfl⟩
          case done1 =>
            rintro ρ' ⟨s1, s2, s3, rfl⟩
            refine BN.cons ?_
            refine SN.ret ?_
            refine EN.bl ?_
            first | assumption | rfl
        · exact absurd (wo_mem hd9.1 hd9.2 hw1) hb
/-! _law_terms_right -/
abbrev s_law_terms_right : Stmt := topS 33
theorem sc_law_terms_right : FnScope ["source", "p", "d", "span", "row", "i", "j", "due", "far", "turn", "value", "m"] ["source", "p", "d"] (defScope s_law_terms_right) := ⟨rfl, rfl, rfl, by decide +kernel, rfl, by decide +kernel, by decide +kernel⟩
theorem ok_law_terms_right {f : Addr} {fd : FuncData} (F : Fun K "_law_terms_right" "_law_terms_right" s_law_terms_right f fd) (B : Blt mg) (T_law_length : Fd Pg w K mg base k "_law_length" W_law_length) (T_law_worth_row : Fd Pg w K mg base k "_law_worth_row" W_law_worth_row) (T_worth_row : Fd Pg w K mg base k "worth_row" W_worth_row) (T_length : Fd Pg w K mg base k "length" W_length) (T_law_pick : Fd Pg w K mg base k "_law_pick" W_law_pick) (T_term : Fd Pg w K mg base k "term" W_term) (T_judge_length : Fd Pg w K mg base k "judge_length" W_judge_length)  : FnG Pg w K mg base (k + 1) f fd ["source", "p", "d"] (spOf K W_law_terms_right) := by
  refine okFn F sc_law_terms_right (by rintro as Q ⟨p, d, rfl, hp, ⟨hd0, hd⟩, hQ⟩; rfl) ?_
  rintro X C Fx as Q ⟨p, d, rfl, hp, ⟨hd0, hd⟩, hQ⟩
  have hpl := hp.lt
  obtain ⟨hl1, hl2, hl3, hl4, hl5⟩ := ln_ok hp hd0 hd
  have htl := fun n => Tm_lt (show 0 < p by omega) hd0 hd n
  obtain ⟨ep, ed⟩ := to_nat2 hp hd0
  have hzs := each zeros_all hp hd0 hd
  rw [ep, ed] at hzs
  refine BN.cons ?_
  refine SN.asgT C rfl (by rintro ⟨⟩ ⟨⟩; rfl) rfl ?_
  refine EN.tup ?_
  refine LN.cons rfl ?_
  refine EN.call C T_law_length (by omega) rfl ?_ rfl rfl
  refine AN.cons rfl ?_
  refine EN.var (i := 1) C rfl (by walk_at "vis") rfl ?_
  refine AN.cons rfl ?_
  refine EN.var (i := 2) C rfl (by walk_at "vis") rfl ?_
  refine AN.nil ?_
  refine ⟨_, _, rfl, by assumption, by omega, ?_⟩
  refine LN.cons rfl ?_
  refine EN.call C T_law_worth_row (by omega) rfl ?_ rfl rfl
  refine AN.cons rfl ?_
  refine EN.var (i := 1) C rfl (by walk_at "vis") rfl ?_
  refine AN.cons rfl ?_
  refine EN.var (i := 2) C rfl (by walk_at "vis") rfl ?_
  refine AN.cons rfl ?_
  refine EN.int ?_
  refine AN.nil ?_
  refine ⟨_, _, _, rfl, by omega, by omega, by omega, by omega, ?_⟩
  refine LN.nil ?_
  refine ⟨Nat.le_of_ble_eq_true rfl, ?_⟩
  refine GN.tup C rfl rfl rfl ?_
  refine GNs.cons rfl ?_
  refine GN.name (i := 3) C rfl (by walk_at "vis") (Or.inl (Fx _)) ?_
  refine GNs.cons rfl ?_
  refine GN.name (i := 4) C rfl (by walk_at "vis") (Or.inl (Fx _)) ?_
  refine GNs.nil ?_
  refine BN.cons ?_
  refine SN.ife ?_
  refine WN.tn ?_
  refine WN.or ?_
  refine TN.neS ?_
  refine EN.repr C rfl B.repr ?_ rfl rfl
  refine EN.call C T_worth_row (by omega) rfl ?_ rfl rfl
  refine AN.cons rfl ?_
  refine EN.var (i := 1) C rfl (by walk_at "vis") rfl ?_
  refine AN.cons rfl ?_
  refine EN.var (i := 2) C rfl (by walk_at "vis") rfl ?_
  refine AN.cons rfl ?_
  refine EN.int ?_
  refine AN.nil ?_
  refine ⟨_, _, _, rfl, by omega, by omega, by omega, by omega, ?_⟩
  refine ⟨tr_rp hp hd0 hd (by decide), ?_⟩
  refine EN.repr C rfl B.repr ?_ rfl rfl
  refine EN.var (i := 4) C rfl (by walk_at "vis") rfl ?_
  refine ⟨tr_rp hp hd0 hd (by decide), ?_⟩
  refine NeS (fun hb => absurd rfl hb) (fun _ => ?_)
  walk_at "go"
  refine WN.or1 ?_
  refine TN.ne C ?_
  refine EN.call C T_length (by omega) rfl ?_ rfl rfl
  refine AN.cons rfl ?_
  refine EN.var (i := 1) C rfl (by walk_at "vis") rfl ?_
  refine AN.cons rfl ?_
  refine EN.var (i := 2) C rfl (by walk_at "vis") rfl ?_
  refine AN.nil ?_
  refine ⟨_, _, rfl, by assumption, by omega, ?_⟩
  refine EN.var (i := 3) C rfl (by walk_at "vis") rfl ?_
  refine Nei (fun hb => ?_) (fun hb => ?_)
  · exact absurd rfl hb
  · walk_at "go"
    refine BN.nil ?_
    refine BN.cons ?_
    refine SN.ife ?_
    refine TN.ne C ?_
    refine EN.lc (i := 11) C rfl rfl rfl (fun _ => rfl) ?_
    refine IN.r1 C rfl B.range rfl rfl ?_
    refine EN.int ?_
    refine ⟨_, rfl, by omega, by omega, ?_⟩
    refine ⟨by rw [rng_len]; omega, ?_⟩
    refine ⟨fun m acc => acc = il (((rg 41).take m).filter fun z => decide (Tm p d z.toNat = 0)), ?i2, ?turn2, ?done2⟩
    case i2 => rfl
    case turn2 =>
      rintro m d9 acc hd9 rfl
      obtain ⟨rfl, hm⟩ := rng0_get hd9
      intro Y1 CY1
      refine TN.eq CY1 ?_
      refine EN.ix (fun _ _ => rfl) ?_
      refine EN.var (i := 4) CY1 rfl (by walk_at "vis") rfl ?_
      refine EN.var (i := 11) CY1 rfl (by walk_at "vis") rfl ?_
      refine IxD.l (tr_at (by omega) (by omega)) ?_
      refine EN.int ?_
      refine Eqi (fun hb => ?_) (fun hb => ?_)
      · walk_at "go"
        intro Y1 CY1
        refine EN.var (i := 11) CY1 rfl (by walk_at "vis") rfl ?_
        dsimp only
        rw [rg_take _ m hm, List.filter_append, il_append]
        have e : ([(m : Int)].filter fun z => decide (Tm p d z.toNat = 0)) = [(m : Int)] := by rw [List.filter_cons, if_pos (decide_eq_true (show Tm p d (m : Int).toNat = 0 from hb))]; rfl
        rw [e]
        rfl
      · walk_at "go"
        dsimp only
        rw [rg_take _ m hm, List.filter_append, il_append]
        have e : ([(m : Int)].filter fun z => decide (Tm p d z.toNat = 0)) = [] := by rw [List.filter_cons, if_neg (by rw [decide_eq_false (show ¬ (Tm p d (m : Int).toNat = 0) from hb)]; exact Bool.false_ne_true)]; rfl
        rw [e]
        exact (List.append_nil _).symm
    rintro acc rfl
    rw [rng_len, Int.sub_zero, rg_take_all]
    refine EN.lc (i := 11) C rfl rfl rfl (fun _ => rfl) ?_
    refine IN.r1 C rfl B.range rfl rfl ?_
    refine EN.int ?_
    refine ⟨_, rfl, by omega, by omega, ?_⟩
    refine ⟨by rw [rng_len]; omega, ?_⟩
    refine ⟨fun m acc => acc = il (((rg 41).take m).filter fun z => decide ((z + 1) % (ln p d : Int) = 0)), ?i3, ?turn3, ?done3⟩
    case i3 => rfl
    case turn3 =>
      rintro m d9 acc hd9 rfl
      obtain ⟨rfl, hm⟩ := rng0_get hd9
      intro Y2 CY2
      refine TN.eq CY2 ?_
      refine EN.mod ?_
      refine EN.intc CY2 rfl B.int ?_ rfl rfl
      refine EN.add ?_
      refine EN.var (i := 11) CY2 rfl (by walk_at "vis") rfl ?_
      refine EN.int ?_
      refine AddD.i ?_
      refine EN.var (i := 3) CY2 rfl (by walk_at "vis") rfl ?_
      refine ModI.i (by omega) ?_
      refine EN.int ?_
      refine Eqi (fun hb => ?_) (fun hb => ?_)
      · walk_at "go"
        intro Y2 CY2
        refine EN.var (i := 11) CY2 rfl (by walk_at "vis") rfl ?_
        dsimp only
        rw [rg_take _ m hm, List.filter_append, il_append]
        have e : ([(m : Int)].filter fun z => decide ((z + 1) % (ln p d : Int) = 0)) = [(m : Int)] := by rw [List.filter_cons, if_pos (decide_eq_true (show ((m : Int) + 1) % (ln p d : Int) = 0 from hb))]; rfl
        rw [e]
        rfl
      · walk_at "go"
        dsimp only
        rw [rg_take _ m hm, List.filter_append, il_append]
        have e : ([(m : Int)].filter fun z => decide ((z + 1) % (ln p d : Int) = 0)) = [] := by rw [List.filter_cons, if_neg (by rw [decide_eq_false (show ¬ (((m : Int) + 1) % (ln p d : Int) = 0) from hb)]; exact Bool.false_ne_true)]; rfl
        rw [e]
        exact (List.append_nil _).symm
    rintro acc rfl
    rw [rng_len, Int.sub_zero, rg_take_all]
    refine NeL (fun hb => absurd hzs hb) (fun _ => ?_)
    walk_at "go"
    refine BN.nil ?_
    refine BN.cons ?_
    refine SN.par (i := 5) (j := 6) C rfl rfl (by decide) rfl rfl (by rintro ⟨⟩ ⟨⟩; rfl) rfl rfl rfl ?_
    refine EN.call C T_law_pick (by omega) rfl ?_ rfl rfl
    refine AN.src (i := 0) C rfl (by walk_at "vis") rfl rfl ?_
    refine AN.cons rfl ?_
    refine EN.int ?_
    refine AN.nil ?_
    refine ⟨_, rfl, by omega, fun r3 hr3 hs3 => ?_⟩
    refine EN.add ?_
    refine EN.int ?_
    refine EN.call C T_law_pick (by omega) rfl ?_ rfl rfl
    refine AN.src (i := 0) C rfl (by walk_at "vis") rfl rfl ?_
    refine AN.cons rfl ?_
    refine EN.int ?_
    refine AN.nil ?_
    refine ⟨_, rfl, by omega, fun r4 hr4 hs4 => ?_⟩
    refine AddD.i ?_
    refine BN.cons ?_
    refine SN.asg (i := 7) C Fx rfl (by walk_at "vis") rfl ?_
    refine EN.mod ?_
    refine EN.intc C rfl B.int ?_ rfl rfl
    refine EN.sub ?_
    refine EN.mul ?_
    refine EN.ix (fun _ _ => rfl) ?_
    refine EN.var (i := 4) C rfl (by walk_at "vis") rfl ?_
    refine EN.var (i := 5) C rfl (by walk_at "vis") rfl ?_
    refine IxD.l (tr_at (by omega) (by omega)) ?_
    have ht1 := htl r3.toNat
    refine EN.ix (fun _ _ => rfl) ?_
    refine EN.var (i := 4) C rfl (by walk_at "vis") rfl ?_
    refine EN.var (i := 6) C rfl (by walk_at "vis") rfl ?_
    refine IxD.l (tr_at (by omega) (by omega)) ?_
    have ht2 := htl (1 + r4).toNat
    refine MulD.i (by walk_at "mulok") ?_
    refine EN.mul ?_
    refine EN.cut (v := .int (if 0 < r3 then Tm p d (r3 - 1).toNat else 0)) ?_ ?_
    · refine EN.ife ?_
      refine TN.gt ?_
      refine EN.var (i := 5) C rfl (by walk_at "vis") rfl ?_
      refine EN.int ?_
      refine Ibd (fun hb => ?_) (fun hb => ?_)
      · walk_at "go"
        refine EN.ix (fun _ _ => rfl) ?_
        refine EN.var (i := 4) C rfl (by walk_at "vis") rfl ?_
        refine EN.sub ?_
        refine EN.var (i := 5) C rfl (by walk_at "vis") rfl ?_
        refine EN.int ?_
        refine SubI.i ?_
        refine IxD.l (tr_at (by omega) (by omega)) ?_
        have ht3 := htl (r3 - 1).toNat
        rw [if_pos hb]
      · walk_at "go"
        refine EN.int ?_
        rw [if_neg hb]
    refine EN.ix (fun _ _ => rfl) ?_
    refine EN.var (i := 4) C rfl (by walk_at "vis") rfl ?_
    refine EN.sub ?_
    refine EN.var (i := 6) C rfl (by walk_at "vis") rfl ?_
    refine EN.int ?_
    refine SubI.i ?_
    refine IxD.l (tr_at (by omega) (by omega)) ?_
    have ht4 := htl (1 + r4 - 1).toNat
    refine MulD.i (by walk_at "mulok") ?_
    refine SubI.i ?_
    refine EN.var (i := 1) C rfl (by walk_at "vis") rfl ?_
    refine ModI.i (by omega) ?_
    refine BN.cons ?_
    refine SN.ife ?_
    refine WN.tn ?_
    refine WN.or ?_
    refine TN.ne C ?_
    refine EN.call C T_term (by omega) rfl ?_ rfl rfl
    refine AN.cons rfl ?_
    refine EN.var (i := 1) C rfl (by walk_at "vis") rfl ?_
    refine AN.cons rfl ?_
    refine EN.var (i := 2) C rfl (by walk_at "vis") rfl ?_
    refine AN.cons rfl ?_
    refine EN.add ?_
    refine EN.var (i := 5) C rfl (by walk_at "vis") rfl ?_
    refine EN.var (i := 6) C rfl (by walk_at "vis") rfl ?_
    refine AddD.i ?_
    refine AN.nil ?_
    refine ⟨_, _, _, rfl, by assumption, by omega, by omega, ?_⟩
    refine EN.var (i := 7) C rfl (by walk_at "vis") rfl ?_
    refine Nei (fun hb => ?_) (fun hb => ?_)
    · exact absurd ((Tm_far hp hd0 hd (by omega)).trans (due_add hp hd0 hd hr3 hs3 hr4 hs4).symm) hb
    · walk_at "go"
      refine WN.or1 ?_
      refine TN.ne C ?_
      refine EN.ix (fun _ _ => rfl) ?_
      refine EN.var (i := 4) C rfl (by walk_at "vis") rfl ?_
      refine EN.add ?_
      refine EN.var (i := 5) C rfl (by walk_at "vis") rfl ?_
      refine EN.var (i := 6) C rfl (by walk_at "vis") rfl ?_
      refine AddD.i ?_
      refine IxD.l (tr_at (by omega) (by omega)) ?_
      refine EN.var (i := 7) C rfl (by walk_at "vis") rfl ?_
      refine Nei (fun hb => ?_) (fun hb => ?_)
      · exact absurd (due_add hp hd0 hd hr3 hs3 hr4 hs4).symm hb
      · walk_at "go"
        refine BN.nil ?_
        refine BN.cons ?_
        refine SN.asg (i := 8) C Fx rfl (by walk_at "vis") rfl ?_
        refine EN.add ?_
        refine EN.mul ?_
        refine EN.call C T_law_pick (by omega) rfl ?_ rfl rfl
        refine AN.src (i := 0) C rfl (by walk_at "vis") rfl rfl ?_
        refine AN.cons rfl ?_
        refine EN.pow ?_
        refine EN.int ?_
        refine EN.int ?_
        refine PowI.v (n := 100000000) ⟨by decide, by decide, by decide⟩ (by decide +kernel) ?_
        refine AN.nil ?_
        refine ⟨_, rfl, by omega, fun r8 hr8 hs8 => ?_⟩
        refine EN.pow ?_
        refine EN.int ?_
        refine EN.int ?_
        refine PowI.v (n := 100000000000000000000) ⟨by decide, by decide, by decide⟩ (by decide +kernel) ?_
        refine MulD.i (by walk_at "mulok") ?_
        refine EN.call C T_law_pick (by omega) rfl ?_ rfl rfl
        refine AN.src (i := 0) C rfl (by walk_at "vis") rfl rfl ?_
        refine AN.cons rfl ?_
        refine EN.int ?_
        refine AN.nil ?_
        refine ⟨_, rfl, by omega, fun r9 hr9 hs9 => ?_⟩
        refine AddD.i ?_
        refine BN.cons ?_
        refine SN.asg (i := 9) C Fx rfl (by walk_at "vis") rfl ?_
        refine EN.mod ?_
        refine EN.intc C rfl B.int ?_ rfl rfl
        refine EN.mul ?_
        refine EN.ix (fun _ _ => rfl) ?_
        refine EN.var (i := 4) C rfl (by walk_at "vis") rfl ?_
        refine EN.var (i := 3) C rfl (by walk_at "vis") rfl ?_
        refine IxD.l (tr_at (by omega) (by omega)) ?_
        have ht5 := htl ((ln p d : Int)).toNat
        refine EN.call C T_term (by omega) rfl ?_ rfl rfl
        refine AN.cons rfl ?_
        refine EN.var (i := 1) C rfl (by walk_at "vis") rfl ?_
        refine AN.cons rfl ?_
        refine EN.var (i := 2) C rfl (by walk_at "vis") rfl ?_
        refine AN.cons rfl ?_
        refine EN.var (i := 8) C rfl (by walk_at "vis") rfl ?_
        refine AN.nil ?_
        refine ⟨_, _, _, rfl, by assumption, by omega, by omega, ?_⟩
        refine MulD.i (by walk_at "mulok") ?_
        refine EN.var (i := 1) C rfl (by walk_at "vis") rfl ?_
        refine ModI.i (by omega) ?_
        refine BN.cons ?_
        refine SN.ife ?_
        refine WN.tn ?_
        refine WN.or ?_
        refine TN.ne C ?_
        refine EN.call C T_term (by omega) rfl ?_ rfl rfl
        refine AN.cons rfl ?_
        refine EN.var (i := 1) C rfl (by walk_at "vis") rfl ?_
        refine AN.cons rfl ?_
        refine EN.var (i := 2) C rfl (by walk_at "vis") rfl ?_
        refine AN.cons rfl ?_
        refine EN.add ?_
        refine EN.var (i := 8) C rfl (by walk_at "vis") rfl ?_
        refine EN.var (i := 3) C rfl (by walk_at "vis") rfl ?_
        refine AddD.i ?_
        refine AN.nil ?_
        refine ⟨_, _, _, rfl, by assumption, by omega, by omega, ?_⟩
        refine EN.var (i := 9) C rfl (by walk_at "vis") rfl ?_
        refine Nei (fun hb => ?_) (fun hb => ?_)
        · exact absurd (far_shift hp hd0 hd (by omega)) hb
        · walk_at "go"
          refine WN.or1 ?_
          refine TN.ne C ?_
          refine EN.mod ?_
          refine EN.intc C rfl B.int ?_ rfl rfl
          refine EN.mul ?_
          refine EN.ix (fun _ _ => rfl) ?_
          refine EN.var (i := 4) C rfl (by walk_at "vis") rfl ?_
          refine EN.var (i := 3) C rfl (by walk_at "vis") rfl ?_
          refine IxD.l (tr_at (by omega) (by omega)) ?_
          have ht5 := htl ((ln p d : Int)).toNat
          refine EN.ix (fun _ _ => rfl) ?_
          refine EN.var (i := 4) C rfl (by walk_at "vis") rfl ?_
          refine EN.var (i := 3) C rfl (by walk_at "vis") rfl ?_
          refine IxD.l (tr_at (by omega) (by omega)) ?_
          have ht5 := htl ((ln p d : Int)).toNat
          refine MulD.i (by walk_at "mulok") ?_
          refine EN.var (i := 1) C rfl (by walk_at "vis") rfl ?_
          refine ModI.i (by omega) ?_
          refine EN.int ?_
          refine Nei (fun hb => ?_) (fun hb => ?_)
          · exact absurd hl5 hb
          · walk_at "go"
            refine BN.nil ?_
            refine BN.cons ?_
            refine SN.for C (fun _ => rfl) ?_
            refine IN.r2 C rfl B.range rfl rfl rfl rfl ?_
            refine EN.int ?_
            refine EN.add ?_
            refine EN.var (i := 3) C rfl (by walk_at "vis") rfl ?_
            refine EN.int ?_
            refine AddD.i ?_
            refine ⟨_, _, rfl, rfl, (by first | omega | (simp only [il_len, tr_len]; omega) | (simp only [fl_len, tq_len]; omega)), ?_⟩
            refine ⟨fun m ρ => ∃ s1 s2 s3 s4 s5 s6 s7, ρ = [.src, dI p, dI d, dI (ln p d), .dat (.list (il (tr p d (40 + 1 : Int).toNat))), s1, s2, s3, s4, s5, s6, s7], ?i1, ?turn1, ?done1⟩
            case i1 => exact ⟨_, _, _, _, _, _, _, rfl⟩
            case turn1 =>
              rintro m d9 ρ' hd9 ⟨s1, s2, s3, s4, s5, s6, s7, rfl⟩
              obtain ⟨rfl, hm⟩ := rng_get hd9
              refine GN.name (i := 10) C rfl (by walk_at "vis") (Or.inl (Fx _)) ?_
              refine BN.cons ?_
              refine SN.asg (i := 7) C Fx rfl (by walk_at "vis") rfl ?_
              refine EN.cut (v := jl p d (2 + (m : Int))) ?_ ?_
              · refine EN.ife ?_
                refine TN.eq C ?_
                refine EN.var (i := 10) C rfl (by walk_at "vis") rfl ?_
                refine EN.var (i := 3) C rfl (by walk_at "vis") rfl ?_
                refine Eqi (fun hb => ?_) (fun hb => ?_)
                · walk_at "go"
                  refine EN.non ?_
                  rw [jl_a hb]
                · walk_at "go"
                  refine EN.ife ?_
                  refine TN.gt ?_
                  refine EN.var (i := 10) C rfl (by walk_at "vis") rfl ?_
                  refine EN.var (i := 3) C rfl (by walk_at "vis") rfl ?_
                  refine Ibd (fun hb => ?_) (fun hb => ?_)
                  · walk_at "go"
                    refine EN.tup ?_
                    refine LN.cons rfl ?_
                    refine EN.str ?_
                    refine LN.cons rfl ?_
                    refine EN.var (i := 3) C rfl (by walk_at "vis") rfl ?_
                    refine LN.nil ?_
                    refine ⟨Nat.le_of_ble_eq_true rfl, ?_⟩
                    rw [jl_b (p := p) (d := d) (v := 2 + (m : Int)) (by omega) (by omega)]
                  · walk_at "go"
                    refine EN.tup ?_
                    refine LN.cons rfl ?_
                    refine EN.str ?_
                    refine LN.cons rfl ?_
                    refine EN.ix (fun _ _ => rfl) ?_
                    refine EN.var (i := 4) C rfl (by walk_at "vis") rfl ?_
                    refine EN.sub ?_
                    refine EN.var (i := 10) C rfl (by walk_at "vis") rfl ?_
                    refine EN.int ?_
                    refine SubI.i ?_
                    refine IxD.l (tr_at (by omega) (by omega)) ?_
                    refine LN.nil ?_
                    refine ⟨Nat.le_of_ble_eq_true rfl, ?_⟩
                    rw [jl_c (p := p) (d := d) (v := 2 + (m : Int)) (by omega) (by omega)]
              refine BN.cons ?_
              refine SN.ife ?_
              refine TN.neS ?_
              refine EN.repr C rfl B.repr ?_ rfl rfl
              refine EN.call C T_judge_length (by omega) rfl ?_ rfl rfl
              refine AN.cons rfl ?_
              refine EN.var (i := 1) C rfl (by walk_at "vis") rfl ?_
              refine AN.cons rfl ?_
              refine EN.var (i := 2) C rfl (by walk_at "vis") rfl ?_
              refine AN.cons rfl ?_
              refine EN.var (i := 10) C rfl (by walk_at "vis") rfl ?_
              refine AN.nil ?_
              refine ⟨_, _, _, rfl, by assumption, by omega, by omega, ?_⟩
              refine ⟨jl_rp hp hd0 hd, ?_⟩
              refine EN.repr C rfl B.repr ?_ rfl rfl
              refine EN.var (i := 7) C rfl (by walk_at "vis") rfl ?_
              refine ⟨jl_rp hp hd0 hd, ?_⟩
              refine NeS (fun hb => absurd rfl hb) (fun _ => ?_)
              walk_at "go"
              refine BN.nil ?_
              refine BN.nil ?_
              exact ⟨_, _, _, _, _, _, _, rfl⟩
            case done1 =>
              rintro ρ' ⟨s1, s2, s3, s4, s5, s6, s7, rfl⟩
              refine BN.cons ?_
              refine SN.ret ?_
              refine EN.bl ?_
              first | assumption | rfl
/-! law -/
abbrev s_law : Stmt := topS 34
theorem sc_law : FnScope ["script", "source", "lap", "p", "x", "due", "pairs", "d", "wide", "l"] ["script"] (defScope s_law) := ⟨rfl, rfl, rfl, by decide +kernel, rfl, by decide +kernel, by decide +kernel⟩
theorem law_rest {X : Cx} (C : Ctx Pg w K mg base ["script", "source", "lap", "p", "x", "due", "pairs", "d", "wide", "l"] (defScope s_law) k X) (Fx : ∀ x, X.fn x = true) (B : Blt mg) (T_law_pick : Fd Pg w K mg base k "_law_pick" W_law_pick) (T_law_pair_right : Fd Pg w K mg base k "_law_pair_right" W_law_pair_right) (T_law_length : Fd Pg w K mg base k "_law_length" W_law_length) (T_lengths_of : Fd Pg w K mg base k "lengths_of" W_lengths_of) (T_law_over : Fd Pg w K mg base k "_law_over" W_law_over) (T_law_terms_right : Fd Pg w K mg base k "_law_terms_right" W_law_terms_right) (T_worths_of : Fd Pg w K mg base k "worths_of" W_worths_of) : BN X (defBody s_law).tail (.no :: .src :: List.replicate 8 .no) { nx := fun _ => False, rt := fun d => d = .bool true } := by
  show BN X _ [.no, .src, .no, .no, .no, .no, .no, .no, .no, .no] _
  refine BN.cons ?_
  refine SN.for C (fun _ => rfl) ?_
  refine IN.r1 C rfl B.range rfl rfl ?_
  refine EN.int ?_
  refine ⟨_, rfl, by omega, by omega, ?_⟩
  refine ⟨fun m ρ => ∃ s1 s2 s3 s4 s5 s6 s7 s8, ρ = [.no, .src, s1, s2, s3, s4, s5, s6, s7, s8], ?i1, ?turn1, ?done1⟩
  case i1 => exact ⟨_, _, _, _, _, _, _, _, rfl⟩
  case turn1 =>
    rintro m9 d9 ρ' hd9 ⟨s1, s2, s3, s4, s5, s6, s7, s8, rfl⟩
    refine GN.name (i := 2) C rfl (by walk_at "vis") (Or.inl (Fx _)) ?_
    refine BN.cons ?_
    refine SN.asg (i := 3) C Fx rfl (by walk_at "vis") rfl ?_
    refine EN.ix (fun _ _ => rfl) ?_
    refine EN.lst ?_
    refine LN.cons rfl ?_
    refine EN.int ?_
    refine LN.cons rfl ?_
    refine EN.int ?_
    refine LN.cons rfl ?_
    refine EN.int ?_
    refine LN.cons rfl ?_
    refine EN.int ?_
    refine LN.cons rfl ?_
    refine EN.int ?_
    refine LN.cons rfl ?_
    refine EN.int ?_
    refine LN.nil ?_
    refine ⟨Nat.le_of_ble_eq_true rfl, ?_⟩
    refine EN.call C T_law_pick (by omega) rfl ?_ rfl rfl
    refine AN.src (i := 1) C rfl (by walk_at "vis") rfl rfl ?_
    refine AN.cons rfl ?_
    refine EN.int ?_
    refine AN.nil ?_
    refine ⟨_, rfl, by omega, fun r0 hr0 hs0 => ?_⟩
    obtain ⟨p, hp, hat⟩ := pick_pr hr0 hs0
    refine IxD.l hat ?_
    have hpl := hp.lt
    refine BN.cons ?_
    refine SN.for C (fun _ => rfl) ?_
    refine IN.r2 C rfl B.range rfl rfl rfl rfl ?_
    refine EN.int ?_
    refine EN.var (i := 3) C rfl (by walk_at "vis") rfl ?_
    refine ⟨_, _, rfl, rfl, (by first | omega | (simp only [il_len, tr_len]; omega) | (simp only [fl_len, tq_len]; omega)), ?_⟩
    refine ⟨fun m ρ => ∃ s3, ρ = [.no, .src, .dat d9, dI p, s3, s4, s5, s6, s7, s8], ?i2, ?turn2, ?done2⟩
    case i2 => exact ⟨_, rfl⟩
    case turn2 =>
      rintro m d8 ρ' hd8 ⟨s3, rfl⟩
      obtain ⟨rfl, hm⟩ := rng_get hd8
      refine GN.name (i := 4) C rfl (by walk_at "vis") (Or.inl (Fx _)) ?_
      refine BN.cons ?_
      refine SN.ife ?_
      refine TN.not ?_
      refine TN.val (fun _ => rfl) ?_
      refine EN.call C T_law_pair_right (by omega) rfl ?_ rfl rfl
      refine AN.src (i := 1) C rfl (by walk_at "vis") rfl rfl ?_
      refine AN.cons rfl ?_
      refine EN.var (i := 3) C rfl (by walk_at "vis") rfl ?_
      refine AN.cons rfl ?_
      refine EN.var (i := 4) C rfl (by walk_at "vis") rfl ?_
      refine AN.nil ?_
      refine ⟨_, _, rfl, by assumption, by omega, by omega, ?_⟩
      refine ⟨_, rfl, ?_⟩
      refine byB _ (fun hb => ?_) (fun hb => ?_)
      · walk_at "go"
        refine BN.nil ?_
        refine BN.nil ?_
        exact ⟨_, rfl⟩
      · exact Bool.noConfusion hb
    case done2 =>
      rintro ρ' ⟨s3, rfl⟩
      refine BN.cons ?_
      refine SN.asgW (i := 5) C Fx rfl (by walk_at "vis") (by rintro ⟨⟩ ⟨⟩; rfl) ?_
      refine EN.lc (i := 7) C rfl rfl rfl (fun _ => rfl) ?_
      refine IN.r1 C rfl B.range rfl rfl ?_
      refine EN.var (i := 3) C rfl (by walk_at "vis") rfl ?_
      refine ⟨_, rfl, by omega, by omega, ?_⟩
      refine ⟨by rw [rng_len]; omega, ?_⟩
      refine ⟨fun m acc => acc = il (((rg p).take m).map (lnI p)), ?i3, ?turn3, ?done3⟩
      case i3 => rfl
      case turn3 =>
        rintro m d8 acc hd8 rfl
        obtain ⟨rfl, hm⟩ := rng0_get hd8
        intro Y1 CY1
        refine yes ?_
        intro Y1 CY1
        refine EN.call CY1 T_law_length (by omega) rfl ?_ rfl rfl
        refine AN.cons rfl ?_
        refine EN.var (i := 3) CY1 rfl (by walk_at "vis") rfl ?_
        refine AN.cons rfl ?_
        refine EN.var (i := 7) CY1 rfl (by walk_at "vis") rfl ?_
        refine AN.nil ?_
        refine ⟨_, _, rfl, by assumption, by omega, ?_⟩
        dsimp only
        rw [rg_take p m hm, List.map_append, il_append]
        rfl
      rintro acc rfl
      rw [rng_len, Int.sub_zero, rg_take_all]
      refine BN.cons ?_
      refine SN.ife ?_
      refine WN.tn ?_
      refine WN.or ?_
      refine TN.neS ?_
      refine EN.repr C rfl B.repr ?_ rfl rfl
      refine EN.call C T_lengths_of (by omega) rfl ?_ rfl rfl
      refine AN.cons rfl ?_
      refine EN.var (i := 3) C rfl (by walk_at "vis") rfl ?_
      refine AN.nil ?_
      refine ⟨_, rfl, by assumption, ?_⟩
      refine ⟨lns_rp hp, ?_⟩
      refine EN.repr C rfl B.repr ?_ rfl rfl
      refine EN.var (i := 5) C rfl (by walk_at "vis") rfl ?_
      refine ⟨lns_rp hp, ?_⟩
      refine NeS (fun hb => absurd rfl hb) (fun _ => ?_)
      walk_at "go"
      refine WN.or ?_
      refine TN.gt ?_
      refine EN.maxL C rfl B.max ?_ rfl rfl
      refine EN.var (i := 5) C rfl (by walk_at "vis") rfl ?_
      refine ⟨lns p, rfl, by rw [lns_len]; omega, fun mx hmx _ => ?_⟩
      refine EN.add ?_
      refine EN.var (i := 3) C rfl (by walk_at "vis") rfl ?_
      refine EN.int ?_
      refine AddD.i ?_
      refine Ibd (fun hb => ?_) (fun hb => ?_)
      · exfalso
        have := lns_mem hp hmx
        omega
      · walk_at "go"
        refine WN.or1 ?_
        refine TN.ne C ?_
        refine EN.minL C rfl B.min ?_ rfl rfl
        refine EN.var (i := 5) C rfl (by walk_at "vis") rfl ?_
        refine ⟨lns p, rfl, by rw [lns_len]; omega, fun mn hmn hmn2 => ?_⟩
        refine EN.int ?_
        refine Nei (fun hb => ?_) (fun hb => ?_)
        · exfalso
          have h1 := lns_mem hp hmn
          have h2 := hmn2 2 (lns_two hp)
          omega
        · walk_at "go"
          refine BN.nil ?_
          refine BN.cons ?_
          refine SN.asgLc (i := 4) (j := 6) C rfl rfl rfl rfl rfl (by rintro ⟨⟩ ⟨⟩; rfl) (fun _ => rfl) ?_
          refine IN.r2 C rfl B.range rfl rfl rfl rfl ?_
          refine EN.int ?_
          refine EN.var (i := 3) C rfl (by walk_at "vis") rfl ?_
          refine ⟨_, _, rfl, rfl, (by first | omega | (simp only [il_len, tr_len]; omega) | (simp only [fl_len, tq_len]; omega)), ?_⟩
          refine ⟨by rw [rng_len]; omega, ?_⟩
          refine ⟨fun m acc => acc = il ((List.range m).map fun (i : Nat) => prf p (1 + (i : Int))), ?i4, ?turn4, ?done4⟩
          case i4 => rfl
          case turn4 =>
            rintro m d8 acc hd8 rfl
            obtain ⟨rfl, hm⟩ := rng_get hd8
            intro Y2 CY2
            refine yes ?_
            intro Y2 CY2
            refine EN.mod ?_
            refine EN.intc CY2 rfl B.int ?_ rfl rfl
            refine EN.add ?_
            refine EN.var (i := 4) CY2 rfl (by walk_at "vis") rfl ?_
            refine EN.call CY2 T_law_over (by omega) rfl ?_ rfl rfl
            refine AN.cons rfl ?_
            refine EN.var (i := 3) CY2 rfl (by walk_at "vis") rfl ?_
            refine AN.cons rfl ?_
            refine EN.int ?_
            refine AN.cons rfl ?_
            refine EN.var (i := 4) CY2 rfl (by walk_at "vis") rfl ?_
            refine AN.nil ?_
            refine ⟨_, _, _, rfl, by assumption, by omega, by omega, ?_⟩
            rw [one_iv hp (by omega) (by omega)]
            refine AddD.i ?_
            refine EN.var (i := 3) CY2 rfl (by walk_at "vis") rfl ?_
            refine ModI.i (by omega) ?_
            dsimp only
            rw [List.range_succ, List.map_append, il_append]
            rfl
          rintro acc rfl
          rw [rng_len]
          refine BN.cons ?_
          refine SN.for C (fun _ => rfl) ?_
          refine IN.r1 C rfl B.range rfl rfl ?_
          refine EN.var (i := 3) C rfl (by walk_at "vis") rfl ?_
          refine ⟨_, rfl, by omega, by omega, ?_⟩
          refine ⟨fun m ρ => ∃ s6 s7, ρ = [.no, .src, .dat d9, dI p, s3, .dat (.list (il (lns p))), .dat (.list (il (prs p))), s6, s7, s8], ?i5, ?turn5, ?done5⟩
          case i5 => exact ⟨_, _, rfl⟩
          case turn5 =>
            rintro m d8 ρ' hd8 ⟨s6, s7, rfl⟩
            obtain ⟨rfl, hm⟩ := rng0_get hd8
            have hln9 := (ln_ok hp (show 0 ≤ (m : Int) by omega) hm).1
            have hln8 : 0 < lnI p m := by show 0 < (ln p m : Int); omega
            refine GN.name (i := 7) C rfl (by walk_at "vis") (Or.inl (Fx _)) ?_
            refine BN.cons ?_
            refine SN.ife ?_
            refine TN.not ?_
            refine TN.val (fun _ => rfl) ?_
            refine EN.call C T_law_terms_right (by omega) rfl ?_ rfl rfl
            refine AN.src (i := 1) C rfl (by walk_at "vis") rfl rfl ?_
            refine AN.cons rfl ?_
            refine EN.var (i := 3) C rfl (by walk_at "vis") rfl ?_
            refine AN.cons rfl ?_
            refine EN.var (i := 7) C rfl (by walk_at "vis") rfl ?_
            refine AN.nil ?_
            refine ⟨_, _, rfl, by assumption, by omega, ?_⟩
            refine ⟨_, rfl, ?_⟩
            refine byB _ (fun hb => ?_) (fun hb => ?_)
            · walk_at "go"
              refine BN.nil ?_
              refine BN.cons ?_
              refine SN.asg (i := 8) C Fx rfl (by walk_at "vis") rfl ?_
              refine EN.cut (v := .int (if (m : Int) ∈ prs p then p - 1 else p + 1)) ?_ ?_
              · refine EN.ife ?_
                refine TN.inL C rfl ?_
                refine EN.var (i := 7) C rfl (by walk_at "vis") rfl ?_
                refine EN.var (i := 6) C rfl (by walk_at "vis") rfl ?_
                refine InI (fun hb => ?_) (fun hb => ?_)
                · walk_at "go"
                  refine EN.sub ?_
                  refine EN.var (i := 3) C rfl (by walk_at "vis") rfl ?_
                  refine EN.int ?_
                  refine SubI.i ?_
                  rw [if_pos hb]
                · walk_at "go"
                  refine EN.add ?_
                  refine EN.var (i := 3) C rfl (by walk_at "vis") rfl ?_
                  refine EN.int ?_
                  refine AddD.i ?_
                  rw [if_neg hb]
              refine BN.cons ?_
              refine SN.ife ?_
              refine WN.tn ?_
              refine WN.and ?_
              refine TN.ne C ?_
              refine EN.ix (fun _ _ => rfl) ?_
              refine EN.var (i := 5) C rfl (by walk_at "vis") rfl ?_
              refine EN.var (i := 7) C rfl (by walk_at "vis") rfl ?_
              refine IxD.l (lns_at hm) ?_
              refine EN.var (i := 3) C rfl (by walk_at "vis") rfl ?_
              refine Nei (fun hb => ?_) (fun hb => ?_)
              · walk_at "go"
                refine WN.and1 ?_
                refine TN.ne C ?_
                refine EN.mod ?_
                refine EN.intc C rfl B.int ?_ rfl rfl
                refine EN.var (i := 8) C rfl (by walk_at "vis") rfl ?_
                refine EN.ix (fun _ _ => rfl) ?_
                refine EN.var (i := 5) C rfl (by walk_at "vis") rfl ?_
                refine EN.var (i := 7) C rfl (by walk_at "vis") rfl ?_
                refine IxD.l (lns_at hm) ?_
                refine ModI.i (by omega) ?_
                refine EN.int ?_
                refine Nei (fun hb => ?_) (fun hb => ?_)
                · rcases wide_ok hp hm with h | h
                  · exact absurd h (by assumption)
                  · exact absurd h hb
                · walk_at "go"
                  refine BN.nil ?_
                  refine BN.nil ?_
                  exact ⟨_, _, rfl⟩
              · walk_at "go"
                walk_at "go"
                refine BN.nil ?_
                refine BN.nil ?_
                exact ⟨_, _, rfl⟩
            · exact Bool.noConfusion hb
          case done5 =>
            rintro ρ' ⟨s6, s7, rfl⟩
            refine BN.cons ?_
            refine SN.for C (fun _ => rfl) ?_
            refine IN.r2 C rfl B.range rfl rfl rfl rfl ?_
            refine EN.int ?_
            refine EN.add ?_
            refine EN.var (i := 3) C rfl (by walk_at "vis") rfl ?_
            refine EN.int ?_
            refine AddD.i ?_
            refine ⟨_, _, rfl, rfl, (by first | omega | (simp only [il_len, tr_len]; omega) | (simp only [fl_len, tq_len]; omega)), ?_⟩
            refine ⟨fun m ρ => ∃ s6 s8, ρ = [.no, .src, .dat d9, dI p, s3, .dat (.list (il (lns p))), .dat (.list (il (prs p))), s6, s7, s8], ?i6, ?turn6, ?done6⟩
            case i6 => exact ⟨_, _, rfl⟩
            case turn6 =>
              rintro m2 d8 ρ' hd8 ⟨s6, s8, rfl⟩
              obtain ⟨rfl, hm2⟩ := rng_get hd8
              refine GN.name (i := 9) C rfl (by walk_at "vis") (Or.inl (Fx _)) ?_
              refine BN.cons ?_
              refine SN.ife ?_
              refine TN.neS ?_
              refine EN.repr C rfl B.repr ?_ rfl rfl
              refine EN.call C T_worths_of (by omega) rfl ?_ rfl rfl
              refine AN.cons rfl ?_
              refine EN.var (i := 3) C rfl (by walk_at "vis") rfl ?_
              refine AN.cons rfl ?_
              refine EN.var (i := 9) C rfl (by walk_at "vis") rfl ?_
              refine AN.nil ?_
              refine ⟨_, _, rfl, by assumption, ?_⟩
              refine ⟨wo_rp hp, ?_⟩
              refine EN.repr C rfl B.repr ?_ rfl rfl
              refine EN.tuplec C rfl B.tuple ?_ rfl rfl
              refine EN.lc (i := 7) C rfl rfl rfl (fun _ => rfl) ?_
              refine IN.r1 C rfl B.range rfl rfl ?_
              refine EN.var (i := 3) C rfl (by walk_at "vis") rfl ?_
              refine ⟨_, rfl, by omega, by omega, ?_⟩
              refine ⟨by rw [rng_len]; omega, ?_⟩
              refine ⟨fun m acc => acc = il (((rg p).take m).filter fun z => decide (lnI p z = 2 + (m2 : Int))), ?i7, ?turn7, ?done7⟩
              case i7 => rfl
              case turn7 =>
                rintro m d9 acc hd9 rfl
                obtain ⟨rfl, hm⟩ := rng0_get hd9
                intro Y3 CY3
                refine TN.eq CY3 ?_
                refine EN.ix (fun _ _ => rfl) ?_
                refine EN.var (i := 5) CY3 rfl (by walk_at "vis") rfl ?_
                refine EN.var (i := 7) CY3 rfl (by walk_at "vis") rfl ?_
                refine IxD.l (lns_at hm) ?_
                refine EN.var (i := 9) CY3 rfl (by walk_at "vis") rfl ?_
                refine Eqi (fun hb => ?_) (fun hb => ?_)
                · walk_at "go"
                  intro Y3 CY3
                  refine EN.var (i := 7) CY3 rfl (by walk_at "vis") rfl ?_
                  dsimp only
                  rw [rg_take _ m hm, List.filter_append, il_append]
                  have e : ([(m : Int)].filter fun z => decide (lnI p z = 2 + (m2 : Int))) = [(m : Int)] := by rw [List.filter_cons, if_pos (decide_eq_true (show lnI p (m : Int) = 2 + (m2 : Int) from hb))]; rfl
                  rw [e]
                  rfl
                · walk_at "go"
                  dsimp only
                  rw [rg_take _ m hm, List.filter_append, il_append]
                  have e : ([(m : Int)].filter fun z => decide (lnI p z = 2 + (m2 : Int))) = [] := by rw [List.filter_cons, if_neg (by rw [decide_eq_false (show ¬ (lnI p (m : Int) = 2 + (m2 : Int)) from hb)]; exact Bool.false_ne_true)]; rfl
                  rw [e]
                  exact (List.append_nil _).symm
              rintro acc rfl
              rw [rng_len, Int.sub_zero, rg_take_all]
              refine ⟨wo_rp hp, ?_⟩
              refine NeS (fun hb => absurd rfl hb) (fun _ => ?_)
              walk_at "go"
              refine BN.nil ?_
              refine BN.nil ?_
              exact ⟨_, _, rfl⟩
            case done6 =>
              rintro ρ' ⟨s6, s8, rfl⟩
              refine BN.nil ?_
              exact ⟨_, _, _, _, _, _, _, _, rfl⟩
  case done1 =>
    rintro ρ' ⟨s1, s2, s3, s4, s5, s6, s7, s8, rfl⟩
    refine BN.cons ?_
    refine SN.ret ?_
    refine EN.bl ?_
    first | assumption | rfl
theorem ok_law {f : Addr} {fd : FuncData} (F : Fun K "law" "law" s_law f fd) (B : Blt mg) (FO : Fo Pg w K mg base k) (T_law_pick : Fd Pg w K mg base k "_law_pick" W_law_pick) (T_law_pair_right : Fd Pg w K mg base k "_law_pair_right" W_law_pair_right) (T_law_length : Fd Pg w K mg base k "_law_length" W_law_length) (T_lengths_of : Fd Pg w K mg base k "lengths_of" W_lengths_of) (T_law_over : Fd Pg w K mg base k "_law_over" W_law_over) (T_law_terms_right : Fd Pg w K mg base k "_law_terms_right" W_law_terms_right) (T_worths_of : Fd Pg w K mg base k "worths_of" W_worths_of) : FnG Pg w K mg base (k + 1) f fd ["script"] (sp_law K) := by
  refine Fun.okG F sc_law ?_ ?_
  · rintro vs H Q E ⟨a, ns, rfl, _⟩
    rfl
  · rintro cdv A ol s H vs Q E hgd hr ⟨a, ns, rfl, hS, hlen, q⟩
    have C : Ctx Pg w K mg base ["script", "source", "lap", "p", "x", "due", "pairs", "d", "wide", "l"] (defScope s_law) k (cxOf CX0 Pg w K mg base ["script", "source", "lap", "p", "x", "due", "pairs", "d", "wide", "l"] "law" (defScope s_law) f cdv A ol s H E).nox := ⟨rfl, rfl, rfl, rfl, rfl, rfl, rfl, hr, rfl, rfl, sc_law.nd, hgd⟩
    exact lawStart C (fun _ => rfl) FO rfl rfl rfl (by first | exact Or.inl rfl | exact Or.inr rfl) (by first | exact Or.inl rfl | exact Or.inr (Or.inl rfl) | exact Or.inr (Or.inr rfl)) rfl hS hlen q (law_rest C (fun _ => rfl) B T_law_pick T_law_pair_right T_law_length T_lengths_of T_law_over T_law_terms_right T_worths_of) rfl rfl rfl
end
theorem all_mk {P : Program} {w : World} {K : PySem.W.Frag} {h : Heap} {mg : Str → Option Value} {fa : Addr} (X : K.In h) (G : h.Ns mainGlobals mg) (hfa : mg "law" = some (.ref fa))
    (D_law_pick : Df K "_law_pick" s_law_pick) (D_law_over : Df K "_law_over" s_law_over) (D_law_order : Df K "_law_order" s_law_order) (D_plus : Df K "plus" s_plus) (D_number : Df K "number" s_number) (D_times : Df K "times" s_times) (D_power : Df K "power" s_power) (D_over : Df K "over" s_over) (D_minus : Df K "minus" s_minus) (D_worth_row : Df K "worth_row" s_worth_row) (D_length : Df K "length" s_length) (D_is_whole : Df K "is_whole" s_is_whole) (D_judge_length : Df K "judge_length" s_judge_length) (D_worths_with_length : Df K "_worths_with_length" s_worths_with_length) (D_worths_of : Df K "worths_of" s_worths_of) (D_law_far_power : Df K "_law_far_power" s_law_far_power) (D_term : Df K "term" s_term) (D_law_pair_right : Df K "_law_pair_right" s_law_pair_right) (D_law_number : Df K "_law_number" s_law_number) (D_law_plus : Df K "_law_plus" s_law_plus) (D_law_times : Df K "_law_times" s_law_times) (D_law_minus : Df K "_law_minus" s_law_minus) (D_law_worth_row : Df K "_law_worth_row" s_law_worth_row) (D_law_length : Df K "_law_length" s_law_length) (D_lengths_of : Df K "lengths_of" s_lengths_of) (D_law_terms_right : Df K "_law_terms_right" s_law_terms_right) (D_law_open_cells : Df K "_law_open_cells" s_law_open_cells) (D_law : Df K "law" s_law)
    (z_len : PySem.W.nsIn K mainGlobals "len" = some none) (z_repr : PySem.W.nsIn K mainGlobals "repr" = some none) (z_int : PySem.W.nsIn K mainGlobals "int" = some none) (z_abs : PySem.W.nsIn K mainGlobals "abs" = some none) (z_range : PySem.W.nsIn K mainGlobals "range" = some none) (z_list : PySem.W.nsIn K mainGlobals "list" = some none) (z_tuple : PySem.W.nsIn K mainGlobals "tuple" = some none) (z_isinstance : PySem.W.nsIn K mainGlobals "isinstance" = some none) (z_bool : PySem.W.nsIn K mainGlobals "bool" = some none) (z_max : PySem.W.nsIn K mainGlobals "max" = some none) (z_min : PySem.W.nsIn K mainGlobals "min" = some none) (z_all : PySem.W.nsIn K mainGlobals "all" = some none) (z_str : PySem.W.nsIn K mainGlobals "str" = some none) (z_sorted : PySem.W.nsIn K mainGlobals "sorted" = some none) (z_enumerate : PySem.W.nsIn K mainGlobals "enumerate" = some none) (z_dict : PySem.W.nsIn K mainGlobals "dict" = some none) (z_sum : PySem.W.nsIn K mainGlobals "sum" = some none) (z_zip : PySem.W.nsIn K mainGlobals "zip" = some none) (z_any : PySem.W.nsIn K mainGlobals "any" = some none) (z_set : PySem.W.nsIn K mainGlobals "set" = some none) (z_reversed : PySem.W.nsIn K mainGlobals "reversed" = some none)  :
    ∃ fd : FuncData, (∀ (s : Shared) (v : Value), BindsTo s fd ⟨[v], []⟩ [("script", v)]) ∧ ∀ base : Heap, K.In base → base.Ns mainGlobals mg → FnG P w K mg base 6 fa fd ["script"] (sp_law K) := by
  obtain ⟨f, fd, a, F, kp⟩ := D_law.ex
  have e := hfa.symm.trans (PySem.W.mg_of X G a)
  cases e
  have B : Blt mg := ⟨PySem.W.mg_none_of X G z_len, PySem.W.mg_none_of X G z_repr, PySem.W.mg_none_of X G z_int, PySem.W.mg_none_of X G z_abs, PySem.W.mg_none_of X G z_range, PySem.W.mg_none_of X G z_list, PySem.W.mg_none_of X G z_tuple, PySem.W.mg_none_of X G z_isinstance, PySem.W.mg_none_of X G z_bool, PySem.W.mg_none_of X G z_max, PySem.W.mg_none_of X G z_min, PySem.W.mg_none_of X G z_all, PySem.W.mg_none_of X G z_str, PySem.W.mg_none_of X G z_sorted, PySem.W.mg_none_of X G z_enumerate, PySem.W.mg_none_of X G z_dict, PySem.W.mg_none_of X G z_sum, PySem.W.mg_none_of X G z_zip, PySem.W.mg_none_of X G z_any, PySem.W.mg_none_of X G z_set, PySem.W.mg_none_of X G z_reversed⟩
  refine ⟨fd, fun s v => ?_, fun base _ _ => ?_⟩
  · obtain ⟨oc, od, kV, doc, pm, an, cdv, ct, osl, rfl, lk, hcd⟩ := F.ex
    exact .of_eq rfl
  · have T_law_pick : Fd P w K mg base 1 "_law_pick" W_law_pick := D_law_pick.fd X G (fun f fd F => ok_law_pick F B  ) (fun _ _ _ _ _ _ us hl => match us, hl with | [_, _], _ => rfl)
    have T_law_over : Fd P w K mg base 1 "_law_over" W_law_over := D_law_over.fd X G (fun f fd F => ok_law_over F B  ) (fun _ _ _ _ _ _ us hl => match us, hl with | [_, _, _], _ => rfl)
    have T_law_order : Fd P w K mg base 1 "_law_order" W_law_order := D_law_order.fd X G (fun f fd F => ok_law_order F B  ) (fun _ _ _ _ _ _ us hl => match us, hl with | [_, _], _ => rfl)
    have T_plus : Fd P w K mg base 1 "plus" W_plus := D_plus.fd X G (fun f fd F => ok_plus F B  ) (fun _ _ _ _ _ _ us hl => match us, hl with | [_, _, _], _ => rfl)
    have T_number : Fd P w K mg base 1 "number" W_number := D_number.fd X G (fun f fd F => ok_number F B  ) (fun _ _ _ _ _ _ us hl => match us, hl with | [_, _], _ => rfl)
    have T_times : Fd P w K mg base 1 "times" W_times := D_times.fd X G (fun f fd F => ok_times F B  ) (fun _ _ _ _ _ _ us hl => match us, hl with | [_, _, _], _ => rfl)
    have T_power : Fd P w K mg base 2 "power" W_power := D_power.fd X G (fun f fd F => ok_power F B (T_number.mono (by decide)) (T_times.mono (by decide)) ) (fun _ _ _ _ _ _ us hl => match us, hl with | [_, _, _], _ => rfl)
    have T_over : Fd P w K mg base 3 "over" W_over := D_over.fd X G (fun f fd F => ok_over F B (T_power.mono (by decide)) ) (fun _ _ _ _ _ _ us hl => match us, hl with | [_, _, _], _ => rfl)
    have T_minus : Fd P w K mg base 1 "minus" W_minus := D_minus.fd X G (fun f fd F => ok_minus F B  ) (fun _ _ _ _ _ _ us hl => match us, hl with | [_, _, _], _ => rfl)
    have T_worth_row : Fd P w K mg base 2 "worth_row" W_worth_row := D_worth_row.fd X G (fun f fd F => ok_worth_row F B (T_number.mono (by decide)) (T_minus.mono (by decide)) (T_times.mono (by decide)) ) (fun _ _ _ _ _ _ us hl => match us, hl with | [_, _, _], _ => rfl)
    have T_length : Fd P w K mg base 3 "length" W_length := D_length.fd X G (fun f fd F => ok_length F B (T_number.mono (by decide)) (T_worth_row.mono (by decide)) ) (fun _ _ _ _ _ _ us hl => match us, hl with | [_, _], _ => rfl)
    have T_is_whole : Fd P w K mg base 1 "is_whole" W_is_whole := D_is_whole.fd X G (fun f fd F => ok_is_whole F B  ) (fun _ _ _ _ _ _ us hl => match us, hl with | [_], _ => rfl)
    have T_judge_length : Fd P w K mg base 4 "judge_length" W_judge_length := D_judge_length.fd X G (fun f fd F => ok_judge_length F B (T_is_whole.mono (by decide)) (T_length.mono (by decide)) (T_worth_row.mono (by decide)) ) (fun _ _ _ _ _ _ us hl => match us, hl with | [_, _, _], _ => rfl)
    have T_worths_with_length : Fd P w K mg base 1 "_worths_with_length" W_worths_with_length := D_worths_with_length.fd X G (fun f fd F => ok_worths_with_length F B  ) (fun _ _ _ _ _ _ us hl => match us, hl with | [_], _ => rfl)
    have T_worths_of : Fd P w K mg base 4 "worths_of" W_worths_of := D_worths_of.fd X G (fun f fd F => ok_worths_of F B (T_length.mono (by decide)) (T_worths_with_length.mono (by decide)) ) (fun _ _ _ _ _ _ us hl => match us, hl with | [_, _], _ => rfl)
    have T_law_far_power : Fd P w K mg base 1 "_law_far_power" W_law_far_power := D_law_far_power.fd X G (fun f fd F => ok_law_far_power F B  ) (fun _ _ _ _ _ _ us hl => match us, hl with | [_, _, _], _ => rfl)
    have T_term : Fd P w K mg base 4 "term" W_term := D_term.fd X G (fun f fd F => ok_term F B (T_worth_row.mono (by decide)) (T_length.mono (by decide)) ) (fun _ _ _ _ _ _ us hl => match us, hl with | [_, _, _], _ => rfl)
    have T_law_pair_right : Fd P w K mg base 5 "_law_pair_right" W_law_pair_right := D_law_pair_right.fd X G (fun f fd F => ok_law_pair_right F B (T_law_over.mono (by decide)) (T_law_order.mono (by decide)) (T_plus.mono (by decide)) (T_over.mono (by decide)) (T_length.mono (by decide)) (T_judge_length.mono (by decide)) (T_worths_of.mono (by decide)) (T_law_pick.mono (by decide)) (T_law_far_power.mono (by decide)) (T_term.mono (by decide)) (T_times.mono (by decide)) (T_minus.mono (by decide)) ) (fun _ _ _ _ _ _ us hl => match us, hl with | [_, _, _], _ => rfl)
    have T_law_number : Fd P w K mg base 1 "_law_number" W_law_number := D_law_number.fd X G (fun f fd F => ok_law_number F B  ) (fun _ _ _ _ _ _ us hl => match us, hl with | [_, _], _ => rfl)
    have T_law_plus : Fd P w K mg base 1 "_law_plus" W_law_plus := D_law_plus.fd X G (fun f fd F => ok_law_plus F B  ) (fun _ _ _ _ _ _ us hl => match us, hl with | [_, _, _], _ => rfl)
    have T_law_times : Fd P w K mg base 1 "_law_times" W_law_times := D_law_times.fd X G (fun f fd F => ok_law_times F B  ) (fun _ _ _ _ _ _ us hl => match us, hl with | [_, _, _], _ => rfl)
    have T_law_minus : Fd P w K mg base 2 "_law_minus" W_law_minus := D_law_minus.fd X G (fun f fd F => ok_law_minus F B (T_law_plus.mono (by decide)) (T_law_times.mono (by decide)) (T_law_number.mono (by decide)) ) (fun _ _ _ _ _ _ us hl => match us, hl with | [_, _, _], _ => rfl)
    have T_law_worth_row : Fd P w K mg base 3 "_law_worth_row" W_law_worth_row := D_law_worth_row.fd X G (fun f fd F => ok_law_worth_row F B (T_law_number.mono (by decide)) (T_law_minus.mono (by decide)) (T_law_times.mono (by decide)) ) (fun _ _ _ _ _ _ us hl => match us, hl with | [_, _, _], _ => rfl)
    have T_law_length : Fd P w K mg base 4 "_law_length" W_law_length := D_law_length.fd X G (fun f fd F => ok_law_length F B (T_law_number.mono (by decide)) (T_law_worth_row.mono (by decide)) ) (fun _ _ _ _ _ _ us hl => match us, hl with | [_, _], _ => rfl)
    have T_lengths_of : Fd P w K mg base 4 "lengths_of" W_lengths_of := D_lengths_of.fd X G (fun f fd F => ok_lengths_of F B (T_length.mono (by decide)) ) (fun _ _ _ _ _ _ us hl => match us, hl with | [_], _ => rfl)
    have T_law_terms_right : Fd P w K mg base 5 "_law_terms_right" W_law_terms_right := D_law_terms_right.fd X G (fun f fd F => ok_law_terms_right F B (T_law_length.mono (by decide)) (T_law_worth_row.mono (by decide)) (T_worth_row.mono (by decide)) (T_length.mono (by decide)) (T_law_pick.mono (by decide)) (T_term.mono (by decide)) (T_judge_length.mono (by decide)) ) (fun _ _ _ _ _ _ us hl => match us, hl with | [_, _, _], _ => rfl)
    have TO : Fo P w K mg base 1 := D_law_open_cells.fo X G (fun f fd F => ok_law_open_cells F B) (fun _ _ _ _ _ _ us hl => match us, hl with | [_], _ => rfl)
    exact ok_law F B (TO.mono (by decide)) (T_law_pick.mono (by decide)) (T_law_pair_right.mono (by decide)) (T_law_length.mono (by decide)) (T_lengths_of.mono (by decide)) (T_law_over.mono (by decide)) (T_law_terms_right.mono (by decide)) (T_worths_of.mono (by decide))
end Kt
open PySem PySem.W PyProof.Rows
set_option maxHeartbeats 0 in
theorem PySem.Challenge.cw_loopworth_k23_whole_worths_of_pairs_holds : PySem.Challenge.rw_loopworth_k23_whole_worths_of_pairs.Holds := by
  w_on; o_law; k_head; (case hw => w_witness2)
  k_fill
  refine Kt.walkG (l := PySem.Challenge.rw_loopworth_k23_whole_worths_of_pairs) (n := 63) (k := 6) (x := "script") (sp := fun w => Kt.sp_law _) rfl (by decide) rfl ⟨rfl, by decide, by decide⟩ (fun w h Y => PySem.W.kIn_of Y) ?F (fun _ _ a ns hl hS => ⟨a, ns, rfl, hS, by omega, fun _ _ e => e⟩)
  case F =>
    intro w mg fa h KX G hmg
    refine' Kt.all_mk KX G hmg ?D_law_pick ?D_law_over ?D_law_order ?D_plus ?D_number ?D_times ?D_power ?D_over ?D_minus ?D_worth_row ?D_length ?D_is_whole ?D_judge_length ?D_worths_with_length ?D_worths_of ?D_law_far_power ?D_term ?D_law_pair_right ?D_law_number ?D_law_plus ?D_law_times ?D_law_minus ?D_law_worth_row ?D_law_length ?D_lengths_of ?D_law_terms_right ?D_law_open_cells ?D_law ?z_len ?z_repr ?z_int ?z_abs ?z_range ?z_list ?z_tuple ?z_isinstance ?z_bool ?z_max ?z_min ?z_all ?z_str ?z_sorted ?z_enumerate ?z_dict ?z_sum ?z_zip ?z_any ?z_set ?z_reversed
    (case D_law_pick => refine' Kt.Df.of ?a ?l ?c ?k; (case a => k_is); (case l => k_is); (case c => k_is); (case k => k_is))
    (case D_law_over => refine' Kt.Df.of ?a ?l ?c ?k; (case a => k_is); (case l => k_is); (case c => k_is); (case k => k_is))
    (case D_law_order => refine' Kt.Df.of ?a ?l ?c ?k; (case a => k_is); (case l => k_is); (case c => k_is); (case k => k_is))
    (case D_plus => refine' Kt.Df.of ?a ?l ?c ?k; (case a => k_is); (case l => k_is); (case c => k_is); (case k => k_is))
    (case D_number => refine' Kt.Df.of ?a ?l ?c ?k; (case a => k_is); (case l => k_is); (case c => k_is); (case k => k_is))
    (case D_times => refine' Kt.Df.of ?a ?l ?c ?k; (case a => k_is); (case l => k_is); (case c => k_is); (case k => k_is))
    (case D_power => refine' Kt.Df.of ?a ?l ?c ?k; (case a => k_is); (case l => k_is); (case c => k_is); (case k => k_is))
    (case D_over => refine' Kt.Df.of ?a ?l ?c ?k; (case a => k_is); (case l => k_is); (case c => k_is); (case k => k_is))
    (case D_minus => refine' Kt.Df.of ?a ?l ?c ?k; (case a => k_is); (case l => k_is); (case c => k_is); (case k => k_is))
    (case D_worth_row => refine' Kt.Df.of ?a ?l ?c ?k; (case a => k_is); (case l => k_is); (case c => k_is); (case k => k_is))
    (case D_length => refine' Kt.Df.of ?a ?l ?c ?k; (case a => k_is); (case l => k_is); (case c => k_is); (case k => k_is))
    (case D_is_whole => refine' Kt.Df.of ?a ?l ?c ?k; (case a => k_is); (case l => k_is); (case c => k_is); (case k => k_is))
    (case D_judge_length => refine' Kt.Df.of ?a ?l ?c ?k; (case a => k_is); (case l => k_is); (case c => k_is); (case k => k_is))
    (case D_worths_with_length => refine' Kt.Df.of ?a ?l ?c ?k; (case a => k_is); (case l => k_is); (case c => k_is); (case k => k_is))
    (case D_worths_of => refine' Kt.Df.of ?a ?l ?c ?k; (case a => k_is); (case l => k_is); (case c => k_is); (case k => k_is))
    (case D_law_far_power => refine' Kt.Df.of ?a ?l ?c ?k; (case a => k_is); (case l => k_is); (case c => k_is); (case k => k_is))
    (case D_term => refine' Kt.Df.of ?a ?l ?c ?k; (case a => k_is); (case l => k_is); (case c => k_is); (case k => k_is))
    (case D_law_pair_right => refine' Kt.Df.of ?a ?l ?c ?k; (case a => k_is); (case l => k_is); (case c => k_is); (case k => k_is))
    (case D_law_number => refine' Kt.Df.of ?a ?l ?c ?k; (case a => k_is); (case l => k_is); (case c => k_is); (case k => k_is))
    (case D_law_plus => refine' Kt.Df.of ?a ?l ?c ?k; (case a => k_is); (case l => k_is); (case c => k_is); (case k => k_is))
    (case D_law_times => refine' Kt.Df.of ?a ?l ?c ?k; (case a => k_is); (case l => k_is); (case c => k_is); (case k => k_is))
    (case D_law_minus => refine' Kt.Df.of ?a ?l ?c ?k; (case a => k_is); (case l => k_is); (case c => k_is); (case k => k_is))
    (case D_law_worth_row => refine' Kt.Df.of ?a ?l ?c ?k; (case a => k_is); (case l => k_is); (case c => k_is); (case k => k_is))
    (case D_law_length => refine' Kt.Df.of ?a ?l ?c ?k; (case a => k_is); (case l => k_is); (case c => k_is); (case k => k_is))
    (case D_lengths_of => refine' Kt.Df.of ?a ?l ?c ?k; (case a => k_is); (case l => k_is); (case c => k_is); (case k => k_is))
    (case D_law_terms_right => refine' Kt.Df.of ?a ?l ?c ?k; (case a => k_is); (case l => k_is); (case c => k_is); (case k => k_is))
    (case D_law_open_cells => refine' Kt.Df.of ?a ?l ?c ?k; (case a => k_is); (case l => k_is); (case c => k_is); (case k => k_is))
    (case D_law => refine' Kt.Df.of ?a ?l ?c ?k; (case a => k_is); (case l => k_is); (case c => k_is); (case k => k_is))
    (case z_len => k_is)
    (case z_repr => k_is)
    (case z_int => k_is)
    (case z_abs => k_is)
    (case z_range => k_is)
    (case z_list => k_is)
    (case z_tuple => k_is)
    (case z_isinstance => k_is)
    (case z_bool => k_is)
    (case z_max => k_is)
    (case z_min => k_is)
    (case z_all => k_is)
    (case z_str => k_is)
    (case z_sorted => k_is)
    (case z_enumerate => k_is)
    (case z_dict => k_is)
    (case z_sum => k_is)
    (case z_zip => k_is)
    (case z_any => k_is)
    (case z_set => k_is)
    (case z_reversed => k_is)
