import PyProof.Rows.All
import Wide.All
import OpenK.AllK
import Wide.FinOn
import HandS.ForMost
import HandS.Deep
import HandS.Evl
import HandS.IsInst
import HandS.TupAny
import HandS.FStr
import HandS.Codes
import HandS.WordsExc
import HandS.ExcOwn
import HandS.TupLe
import HandS.Wide
import HandS.RaiseMore
import HandS.Style
import KE.KExcSuper
import HandS.ForExc
import KE.KExcIs
import HandS.ExcIs
import HandS.ExcField
import PySem.Challenge.RW_fateboards_k00_whole_rules_as_text
set_option Elab.async false
set_option linter.all false
set_option maxRecDepth 100000
set_option maxHeartbeats 4000000
set_option autoImplicit false
namespace Z
open PySem PySem.Spec PyProof.Rows L2
open Evl (Ex)

/-! ### data in a growing frozen part G of the heap H; own cells beside it -/
/-- a tuple that is told: as it was made, or a constant row that begins with a text -/
def TupR (K : PySem.W.Frag) (G : Hp) (a : Addr) (xs : List V) : Prop := G a = some (.tup xs) ∨ (SqT K G a xs ∧ ∃ s r, xs = V.str s :: r)
/-! data that stands in G: of its tuples it is known how they were made (so they can be keys) -/
mutual
inductive Dz (K : PySem.W.Frag) (G : Hp) : V → PyData → Prop
  | int (i : Int) : Dz K G (.int i) (.int i)
  | str (x : Str) : Dz K G (.str x) (.str x)
  | bl (b : Bool) : Dz K G (.bl b) (.bool b)
  | non : Dz K G .non .none
  | tup {p : Addr} {vs : List V} {zs : List PyData} (at_ : TupR K G p vs) (all : DzAll K G vs zs) : Dz K G (.ref p) (.tuple zs)
  | lst {p : Addr} {vs : List V} {zs : List PyData} (at_ : SqL K G p vs) (all : DzAll K G vs zs) : Dz K G (.ref p) (.list zs)
inductive DzAll (K : PySem.W.Frag) (G : Hp) : List V → List PyData → Prop
  | nil : DzAll K G [] []
  | cons {u : V} {us : List V} {z : PyData} {zs : List PyData} (hd : Dz K G u z) (tl : DzAll K G us zs) : DzAll K G (u :: us) (z :: zs)
end
theorem TupR.sq {K : PySem.W.Frag} {G : Hp} {a : Addr} {xs : List V} (h : TupR K G a xs) : SqT K G a xs := h.elim Evl.st_of And.left
theorem TupR.mono {K : PySem.W.Frag} {G G' : Hp} {a : Addr} {xs : List V} (e : Ex G G') (h : TupR K G a xs) : TupR K G' a xs := h.elim (fun q => .inl (e _ _ q)) fun q => .inr ⟨Evl.ex_t e q.1, q.2⟩
/-- what is raised, as data: its class, its fields -/
structure XD where
  cls : Addr
  fs : List (Str × PyData)
/-- d | c an own cell | e a caught exception, its class, its dict, what it is -/
inductive ZV where
  | d (x : PyData)
  | c (p : Addr)
  | e (a : Addr) (cls : Value) (dd : Option Addr) (x : XD)
abbrev Fg := PySem.W.Frag
abbrev Zs : Type := List (Option ZV)
def XAt (K : Fg) (G : Hp) (cls : Value) (d : Option Addr) (x : XD) : Prop := cls = .ref x.cls ∧ match x.fs with
  | [] => d = none
  | f :: fs => ∃ dd fv, d = some dd ∧ G dd = some (.xd fv) ∧ Paired (fun (a : Str × V) (b : Str × PyData) => a.1 = b.1 ∧ Dz K G a.2 b.2) fv (f :: fs)
def ZV.at (K : Fg) (G : Hp) (v : V) : ZV → Prop
  | .d x => Dz K G v x
  | .c p => v = .ref p
  | .e a cls dd x => v = .ref a ∧ XAt K G cls dd x
abbrev ZAll (K : Fg) (G : Hp) : List V → List ZV → Prop := Paired (fun v z => ZV.at K G v z)
inductive CD where
  | lst (xs : List PyData)
  | obj (C : Addr) (fs : List (Str × ZV))
  | dT (kvs : List (List Key × PyData))
def CD.at (K : Fg) (G H : Hp) (p : Addr) : CD → Prop
  | .lst xs => ∃ ws, H p = some (.lst ws) ∧ DzAll K G ws xs
  | .obj C fs => ∃ dx fv, H p = some (.ins C dx fv) ∧ H dx = some (.own p) ∧ G dx = none ∧ Paired (fun (a : Str × V) (b : Str × ZV) => a.1 = b.1 ∧ ZV.at K G a.2 b.2) fv fs
  | .dT kvs => ∃ ws, H p = some (.dT ws) ∧ Paired (fun (a : List Key × V) (b : List Key × PyData) => a.1 = b.1 ∧ Dz K G a.2 b.2) ws kvs
abbrev Ms : Type := List (Addr × Bool × CD)

mutual
theorem dp_mono {K : Fg} {G G' : Hp} (e : Ex G G') : ∀ {d : PyData} {v : V}, Dz K G v d → Dz K G' v d
  | _, _, .non => .non
  | _, _, .bl b => .bl b
  | _, _, .int i => .int i
  | _, _, .str s => .str s
  | _, _, .lst s a => .lst (Evl.ex_l e s) (dpAll_mono e a)
  | _, _, .tup s a => .tup (s.mono e) (dpAll_mono e a)
theorem dpAll_mono {K : Fg} {G G' : Hp} (e : Ex G G') : ∀ {ds : List PyData} {vs : List V}, DzAll K G vs ds → DzAll K G' vs ds
  | _, _, .nil => .nil
  | _, _, .cons a b => .cons (dp_mono e a) (dpAll_mono e b)
end
mutual
theorem dz_dp {K : Fg} {G : Hp} : ∀ {d : PyData} {v : V}, Dz K G v d → L2.Dp K G v d
  | _, _, .non => .non
  | _, _, .bl b => .bl b
  | _, _, .int i => .int i
  | _, _, .str s => .str s
  | _, _, .lst s a => .lst s (dzAll_dp a)
  | _, _, .tup s a => .tup s.sq (dzAll_dp a)
theorem dzAll_dp {K : Fg} {G : Hp} : ∀ {ds : List PyData} {vs : List V}, DzAll K G vs ds → L2.DpAll K G vs ds
  | _, _, .nil => .nil
  | _, _, .cons a b => .cons (dz_dp a) (dzAll_dp b)
end
theorem paired_mono {α β : Type} {F F' : α → β → Prop} (h : ∀ a b, F a b → F' a b) : ∀ {l : List α} {m : List β}, Paired F l m → Paired F' l m
  | _, _, .nil => .nil
  | _, _, .cons a b => .cons (h _ _ a) (paired_mono h b)
theorem xat_mono {K : Fg} {G G' : Hp} (e : Ex G G') {cls : Value} {d : Option Addr} {x : XD} (h : XAt K G cls d x) : XAt K G' cls d x := by
  obtain ⟨h1, h2⟩ := h
  refine ⟨h1, ?_⟩
  split at h2
  · exact h2
  · obtain ⟨dd, fv, q1, q2, q3⟩ := h2
    exact ⟨dd, fv, q1, e _ _ q2, paired_mono (fun a b q => ⟨q.1, dp_mono e q.2⟩) q3⟩
theorem ZV.mono {K : Fg} {G G' : Hp} (e : Ex G G') {v : V} : ∀ {z : ZV}, ZV.at K G v z → ZV.at K G' v z
  | .d _, h => dp_mono e h
  | .c _, h => h
  | .e _ _ _ _, h => ⟨h.1, xat_mono e h.2⟩
theorem zall_mono {K : Fg} {G G' : Hp} (e : Ex G G') : ∀ {zs : List ZV} {vs : List V}, ZAll K G vs zs → ZAll K G' vs zs
  | _, _, .nil => .nil
  | _, _, .cons a b => .cons (ZV.mono e a) (zall_mono e b)
/-- a cell's content stands, where its own addresses do -/
theorem CD.stay {K : Fg} {G G' H H' : Hp} {p : Addr} {c : CD} (h : CD.at K G H p c) (e : Ex G G') (hp : ∀ o, H p = some o → H' p = some o) (hd : ∀ a x, H a = some (.own x) → H' a = some (.own x) ∧ (G a = none → G' a = none)) : CD.at K G' H' p c := by
  cases c with
  | lst xs => obtain ⟨ws, h1, h2⟩ := h; exact ⟨ws, hp _ h1, dpAll_mono e h2⟩
  | obj C fs =>
    obtain ⟨dx, fv, h1, h2, h3, h4⟩ := h
    exact ⟨dx, fv, hp _ h1, (hd _ _ h2).1, (hd _ _ h2).2 h3, paired_mono (fun a b q => ⟨q.1, ZV.mono e q.2⟩) h4⟩
  | dT kvs => obtain ⟨ws, h1, h2⟩ := h; exact ⟨ws, hp _ h1, paired_mono (fun a b q => ⟨q.1, dp_mono e q.2⟩) h2⟩
theorem CD.there {K : Fg} {G H : Hp} {p : Addr} {c : CD} (h : CD.at K G H p c) : ∃ o, H p = some o ∧ ∀ x, o ≠ .own x := by
  cases c with
  | lst xs => obtain ⟨ws, h1, _⟩ := h; exact ⟨_, h1, fun _ q => nomatch q⟩
  | obj C fs => obtain ⟨dx, fv, h1, _⟩ := h; exact ⟨_, h1, fun _ q => nomatch q⟩
  | dT kvs => obtain ⟨ws, h1, _⟩ := h; exact ⟨_, h1, fun _ q => nomatch q⟩

/-! ### the state, seen from the entry n of the def -/
structure Sn where
  G : Hp
  H : Hp
  A : List Addr
structure Rel (K : Fg) (n : Sn) (S : Zs) (M : Ms) (σ : L2.St) (G H : Hp) : Prop where
  ex : Ex G H
  len : σ.length = S.length
  sl : ∀ (i : Nat) (z : ZV), S[i]? = some (some z) → ∃ v, σ[i]? = some (some v) ∧ ZV.at K G v z
  nd : (M.map (·.1)).Nodup
  ce : ∀ p b c, (p, b, c) ∈ M → G p = none ∧ CD.at K G H p c
  g0 : Ex n.G G
  h0 : ∀ a o, n.H a = some o → a ∉ n.A → H a = some o
  lv : ∀ a o, n.H a = some o → ∃ o', H a = some o'
  f0 : ∀ a o, n.H a = some o → n.G a = none → G a = none
  a0 : ∀ p c, (p, false, c) ∈ M → p ∈ n.A
  o0 : ∀ p c, (p, true, c) ∈ M → n.H p = none
section
variable {K : Fg} {n : Sn} {S S' : Zs} {M M' : Ms} {σ σ' : L2.St} {G G' H H' : Hp} {p : Addr} {o : HO}
theorem ex_upd (e : Ex G H) (hp : G p = none) : Ex G (upd H p o) := fun a u h => by
  rw [upd_ne (ne_of_none h hp)]
  exact e a u h
theorem ex_both (e : Ex G H) : Ex (upd G p o) (upd H p o) := fun a u h => by
  by_cases q : a = p
  · subst q
    rw [upd_same] at h ⊢
    exact h
  · rw [upd_ne q] at h ⊢
    exact e a u h
theorem ex_gnone (e : Ex G H) (h : H p = none) : G p = none := Evl.fresh_back e h
/-- a new frozen thing -/
theorem Rel.new (R : Rel K n S M σ G H) (hp : H p = none) (hno : ∀ x, o ≠ .own x) : Rel K n S M σ (upd G p o) (upd H p o) where
  ex := ex_both R.ex
  len := R.len
  sl := fun i z e => by
    obtain ⟨v, h1, h2⟩ := R.sl i z e
    exact ⟨v, h1, ZV.mono (Ex.new (ex_gnone R.ex hp)) h2⟩
  nd := R.nd
  ce := fun q b c hm => by
    obtain ⟨h1, h2⟩ := R.ce q b c hm
    obtain ⟨u, hu, _⟩ := CD.there h2
    have qp : q ≠ p := ne_of_none hu hp
    refine ⟨by rw [upd_ne qp]; exact h1, CD.stay h2 (Ex.new (ex_gnone R.ex hp)) (fun o' h => by rw [upd_ne qp]; exact h) fun a x h => ?_⟩
    have ap : a ≠ p := ne_of_none h hp
    exact ⟨by rw [upd_ne ap]; exact h, fun g => by rw [upd_ne ap]; exact g⟩
  g0 := R.g0.trans (Ex.new (ex_gnone R.ex hp))
  h0 := fun a u h1 h2 => by
    have q := R.h0 a u h1 h2
    rw [upd_ne (ne_of_none q hp)]
    exact q
  lv := fun a u h1 => by
    obtain ⟨o', q⟩ := R.lv a u h1
    exact ⟨o', by rw [upd_ne (ne_of_none q hp)]; exact q⟩
  f0 := fun a u h1 h2 => by
    obtain ⟨o', q⟩ := R.lv a u h1
    rw [upd_ne (ne_of_none q hp)]
    exact R.f0 a u h1 h2
  a0 := R.a0
  o0 := R.o0
theorem Rel.fresh (R : Rel K n S M σ G H) (hp : H p = none) : n.H p = none := by
  cases e : n.H p with
  | none => rfl
  | some u =>
    obtain ⟨o', q⟩ := R.lv p u e
    rw [hp] at q
    cases q
theorem Rel.notin (R : Rel K n S M σ G H) (hp : H p = none) : p ∉ M.map (·.1) := fun hm => by
  obtain ⟨⟨q, b, c⟩, h1, h2⟩ := List.mem_map.mp hm
  obtain ⟨u, hu, _⟩ := CD.there (R.ce q b c h1).2
  have e : q = p := h2
  rw [e, hp] at hu
  cases hu
/-- an object laid beside (its own dict ..): neither frozen nor a cell -/
theorem Rel.lay (R : Rel K n S M σ G H) (hp : H p = none) : Rel K n S M σ G (upd H p o) where
  ex := ex_upd R.ex (ex_gnone R.ex hp)
  len := R.len
  sl := R.sl
  nd := R.nd
  ce := fun q b c hm => by
    obtain ⟨h1, h2⟩ := R.ce q b c hm
    obtain ⟨u, hu, _⟩ := CD.there h2
    have qp : q ≠ p := ne_of_none hu hp
    refine ⟨h1, CD.stay h2 (Ex.refl G) (fun o' h => by rw [upd_ne qp]; exact h) fun a x h => ?_⟩
    exact ⟨by rw [upd_ne (ne_of_none h hp)]; exact h, fun g => g⟩
  g0 := R.g0
  h0 := fun a u h1 h2 => by
    have q := R.h0 a u h1 h2
    rw [upd_ne (ne_of_none q hp)]
    exact q
  lv := fun a u h1 => by
    obtain ⟨o', q⟩ := R.lv a u h1
    exact ⟨o', by rw [upd_ne (ne_of_none q hp)]; exact q⟩
  f0 := R.f0
  a0 := R.a0
  o0 := R.o0
/-- what was laid beside becomes a cell -/
theorem Rel.cell {c : CD} (R : Rel K n S M σ G H) (hn : n.H p = none) (hm : p ∉ M.map (·.1)) (hg : G p = none) (hc : CD.at K G H p c) : Rel K n S ((p, true, c) :: M) σ G H where
  ex := R.ex
  len := R.len
  sl := R.sl
  nd := List.nodup_cons.mpr ⟨hm, R.nd⟩
  ce := fun q b c' h => by
    rcases List.mem_cons.mp h with e | h
    · cases e
      exact ⟨hg, hc⟩
    · exact R.ce q b c' h
  g0 := R.g0
  h0 := R.h0
  lv := R.lv
  f0 := R.f0
  a0 := fun q c' h => by
    rcases List.mem_cons.mp h with e | h
    · cases e
    · exact R.a0 q c' h
  o0 := fun q c' h => by
    rcases List.mem_cons.mp h with e | h
    · cases e
      exact hn
    · exact R.o0 q c' h
theorem Rel.newLst {ws : List V} {xs : List PyData} (R : Rel K n S M σ G H) (hp : H p = none) (h : DzAll K G ws xs) : Rel K n S ((p, true, .lst xs) :: M) σ G (upd H p (.lst ws)) :=
  (R.lay hp).cell (R.fresh hp) (R.notin hp) (ex_gnone R.ex hp) ⟨ws, upd_same, h⟩
/-- one entry of the cells is changed, is taken out -/
inductive Upd1 (p : Addr) (b : Bool) (c c' : CD) : Ms → Ms → Prop
  | here {M : Ms} : Upd1 p b c c' ((p, b, c) :: M) ((p, b, c') :: M)
  | there {q : Addr × Bool × CD} {M M' : Ms} : Upd1 p b c c' M M' → Upd1 p b c c' (q :: M) (q :: M')
inductive Rem1 (p : Addr) (b : Bool) (c : CD) : Ms → Ms → Prop
  | here {M : Ms} : Rem1 p b c ((p, b, c) :: M) M
  | there {q : Addr × Bool × CD} {M M' : Ms} : Rem1 p b c M M' → Rem1 p b c (q :: M) (q :: M')
theorem Upd1.mem {b : Bool} {c c' : CD} (u : Upd1 p b c c' M M') : (p, b, c) ∈ M := by
  induction u with
  | here => exact List.mem_cons_self
  | there _ ih => exact List.mem_cons_of_mem _ ih
theorem Upd1.fst {b : Bool} {c c' : CD} (u : Upd1 p b c c' M M') : M'.map (·.1) = M.map (·.1) := by
  induction u with
  | here => rfl
  | there _ ih => simp only [List.map_cons, ih]
theorem Upd1.of {b : Bool} {c c' : CD} (u : Upd1 p b c c' M M') (nd : (M.map (·.1)).Nodup) : ∀ q b' e, (q, b', e) ∈ M' → (q = p ∧ b' = b ∧ e = c') ∨ (q ≠ p ∧ (q, b', e) ∈ M) := by
  induction u with
  | here =>
    intro q b' e h
    rcases List.mem_cons.mp h with z | h
    · cases z
      exact .inl ⟨rfl, rfl, rfl⟩
    · refine .inr ⟨fun z => ?_, List.mem_cons_of_mem _ h⟩
      have hp := List.mem_map_of_mem (f := (·.1)) h
      have hp : q ∈ _ := hp
      rw [z] at hp
      exact (List.nodup_cons.mp nd).1 hp
  | @there r M M' v ih =>
    intro q b' e h
    rcases List.mem_cons.mp h with z | h
    · subst z
      refine .inr ⟨fun z => ?_, List.mem_cons_self⟩
      have z : q = p := z
      have hp := List.mem_map_of_mem (f := (·.1)) v.mem
      rw [← z] at hp
      exact (List.nodup_cons.mp nd).1 hp
    · rcases ih (List.nodup_cons.mp nd).2 q b' e h with z | ⟨z1, z2⟩
      · exact .inl z
      · exact .inr ⟨z1, List.mem_cons_of_mem _ z2⟩
theorem Rem1.mem {b : Bool} {c : CD} (u : Rem1 p b c M M') : (p, b, c) ∈ M := by
  induction u with
  | here => exact List.mem_cons_self
  | there _ ih => exact List.mem_cons_of_mem _ ih
theorem Rem1.sub {b : Bool} {c : CD} (u : Rem1 p b c M M') : M'.Sublist M := by
  induction u with
  | here => exact List.sublist_cons_self _ _
  | there _ ih => exact ih.cons₂ _
theorem Rem1.ne {b : Bool} {c : CD} (u : Rem1 p b c M M') (nd : (M.map (·.1)).Nodup) : ∀ q ∈ M', q.1 ≠ p := by
  induction u with
  | here =>
    intro q h z
    rw [← z] at nd
    exact (List.nodup_cons.mp nd).1 (List.mem_map_of_mem (f := (·.1)) h)
  | @there r M M' v ih =>
    intro q h
    rcases List.mem_cons.mp h with z | h
    · intro e
      have hp := List.mem_map_of_mem (f := (·.1)) v.mem
      rw [z] at e
      rw [← e] at hp
      exact (List.nodup_cons.mp nd).1 hp
    · exact ih (List.nodup_cons.mp nd).2 q h
/-- a cell is written -/
theorem Rel.put {b : Bool} {c c' : CD} (R : Rel K n S M σ G H) (u : Upd1 p b c c' M M') (hno : ∀ x, H p ≠ some (.own x)) (hc : CD.at K G (upd H p o) p c') : Rel K n S M' σ G (upd H p o) := by
  have hm := u.mem
  obtain ⟨hg, hcd⟩ := R.ce p b c hm
  obtain ⟨u0, hu0, _⟩ := CD.there hcd
  have np : ∀ a o', n.H a = some o' → a ∉ n.A → a ≠ p := fun a o' h1 h2 z => by
    subst z
    cases b with
    | false => exact h2 (R.a0 _ _ hm)
    | true => rw [R.o0 _ _ hm] at h1; cases h1
  refine ⟨ex_upd R.ex hg, R.len, R.sl, by rw [u.fst]; exact R.nd, fun q b' e h => ?_, R.g0, fun a o' h1 h2 => ?_, fun a o' h1 => ?_, R.f0, fun q e h => ?_, fun q e h => ?_⟩
  · rcases u.of R.nd q b' e h with ⟨rfl, rfl, rfl⟩ | ⟨z1, z2⟩
    · exact ⟨hg, hc⟩
    · obtain ⟨h1, h2⟩ := R.ce q b' e z2
      refine ⟨h1, CD.stay h2 (Ex.refl G) (fun o' h => by rw [upd_ne z1]; exact h) fun a x h => ⟨?_, fun g => g⟩⟩
      rw [upd_ne (fun z => hno x (by rw [← z]; exact h))]
      exact h
  · rw [upd_ne (np a o' h1 h2)]
    exact R.h0 a o' h1 h2
  · by_cases z : a = p
    · subst z
      exact ⟨_, upd_same⟩
    · obtain ⟨o2, q⟩ := R.lv a o' h1
      exact ⟨o2, by rw [upd_ne z]; exact q⟩
  · rcases u.of R.nd q false e h with ⟨rfl, z, _⟩ | ⟨_, z⟩
    · subst z
      exact R.a0 _ _ hm
    · exact R.a0 q e z
  · rcases u.of R.nd q true e h with ⟨rfl, z, _⟩ | ⟨_, z⟩
    · subst z
      exact R.o0 _ _ hm
    · exact R.o0 q e z
theorem Rel.putLst {b : Bool} {xs ys : List PyData} {ws : List V} (R : Rel K n S M σ G H) (u : Upd1 p b (.lst xs) (.lst ys) M M') (h : DzAll K G ws ys) : Rel K n S M' σ G (upd H p (.lst ws)) := by
  obtain ⟨_, vs, h1, _⟩ := R.ce p b _ u.mem
  exact R.put u (fun x z => by rw [h1] at z; cases z) ⟨ws, upd_same, h⟩
/-- an own list that nobody will change any more -/
theorem Rel.frz {xs : List PyData} (R : Rel K n S M σ G H) (u : Rem1 p true (.lst xs) M M') : ∃ G', Ex G G' ∧ Rel K n S M' σ G' H ∧ Dz K G' (.ref p) (.list xs) := by
  obtain ⟨hg, ws, h1, h2⟩ := R.ce p true _ u.mem
  refine ⟨upd G p (.lst ws), Ex.new hg, ⟨fun a o' h => ?_, R.len, fun i z e => ?_, R.nd.sublist (u.sub.map _), fun q b c h => ?_, R.g0.trans (Ex.new hg), R.h0, R.lv, fun a o' q1 q2 => ?_, fun q c h => R.a0 q c (u.sub.subset h), fun q c h => R.o0 q c (u.sub.subset h)⟩, ?_⟩
  · by_cases z : a = p
    · subst z
      rw [upd_same] at h
      rw [h1]; exact h
    · rw [upd_ne z] at h
      exact R.ex a o' h
  · obtain ⟨v, q1, q2⟩ := R.sl i z e
    exact ⟨v, q1, ZV.mono (Ex.new hg) q2⟩
  · obtain ⟨q1, q2⟩ := R.ce q b c (u.sub.subset h)
    have z := u.ne R.nd _ h
    refine ⟨by rw [upd_ne z]; exact q1, CD.stay q2 (Ex.new hg) (fun o' h => h) fun a x h => ⟨h, fun g => ?_⟩⟩
    rw [upd_ne (fun z => by rw [z, h1] at h; cases h)]
    exact g
  · have z : a ≠ p := fun z => by rw [z, R.o0 _ _ u.mem] at q1; cases q1
    rw [upd_ne z]
    exact R.f0 a o' q1 q2
  · exact .lst (Evl.sq_of upd_same) (dpAll_mono (Ex.new hg) h2)
/-- slots -/
theorem Rel.set {i : Nat} {v : V} {z : ZV} (R : Rel K n S M σ G H) (h : ZV.at K G v z) : Rel K n (S.set i (some z)) M (σ.set i (some v)) G H := by
  refine ⟨R.ex, by simp [R.len], fun j z' e => ?_, R.nd, R.ce, R.g0, R.h0, R.lv, R.f0, R.a0, R.o0⟩
  by_cases q : i = j
  · subst q
    rw [List.getElem?_set] at e
    simp only [if_true] at e
    split at e
    · rename_i hl
      cases e
      exact ⟨v, by rw [List.getElem?_set]; simp [R.len, hl], h⟩
    · cases e
  · rw [List.getElem?_set_ne q] at e
    obtain ⟨u, h1, h2⟩ := R.sl j z' e
    exact ⟨u, by rw [List.getElem?_set_ne q]; exact h1, h2⟩
theorem Rel.unset {i : Nat} (R : Rel K n S M σ G H) : Rel K n (S.set i none) M (σ.set i none) G H := by
  refine ⟨R.ex, by simp [R.len], fun j z' e => ?_, R.nd, R.ce, R.g0, R.h0, R.lv, R.f0, R.a0, R.o0⟩
  by_cases q : i = j
  · subst q
    rw [List.getElem?_set] at e
    simp only [if_true] at e
    split at e <;> cases e
  · rw [List.getElem?_set_ne q] at e
    obtain ⟨u, h1, h2⟩ := R.sl j z' e
    exact ⟨u, by rw [List.getElem?_set_ne q]; exact h1, h2⟩
/-- what is known of slots may be forgotten -/
theorem Rel.weak (R : Rel K n S M σ G H) (hl : S'.length = S.length) (h : ∀ (i : Nat) (z : ZV), S'[i]? = some (some z) → S[i]? = some (some z)) : Rel K n S' M σ G H :=
  ⟨R.ex, R.len.trans hl.symm, fun i z e => R.sl i z (h i z e), R.nd, R.ce, R.g0, R.h0, R.lv, R.f0, R.a0, R.o0⟩
/-- cells may be forgotten -/
theorem Rel.drop (R : Rel K n S M σ G H) (h : M'.Sublist M) : Rel K n S M' σ G H :=
  ⟨R.ex, R.len, R.sl, R.nd.sublist (h.map _), fun p b c q => R.ce p b c (h.subset q), R.g0, R.h0, R.lv, R.f0, fun p c q => R.a0 p c (h.subset q), fun p c q => R.o0 p c (h.subset q)⟩
end

/-! ### what a call leaves: A the cells it may write -/
structure Ext (A : List Addr) (G H G' H' : Hp) : Prop where
  g : Ex G G'
  h : ∀ a o, H a = some o → a ∉ A → H' a = some o
  l : ∀ a o, H a = some o → ∃ o', H' a = some o'
  x : Ex G' H'
  f : ∀ a o, H a = some o → G a = none → G' a = none
section
variable {K : Fg} {n : Sn} {S S' : Zs} {M M' : Ms} {σ σ' : L2.St} {G G' H H' : Hp} {p : Addr}
theorem Rel.ext (R : Rel K n S M σ G H) : Ext n.A n.G n.H G H := ⟨R.g0, R.h0, R.lv, R.ex, R.f0⟩
/-- behind a call that writes no cell -/
theorem Rel.call (R : Rel K n S M σ G H) (e : Ext [] G H G' H') : Rel K n S M σ G' H' := by
  have hh : Ex H H' := fun a o h => e.h a o h (by simp)
  refine ⟨e.x, R.len, fun i z q => ?_, R.nd, fun q b c hm => ?_, R.g0.trans e.g, fun a o h1 h2 => hh a o (R.h0 a o h1 h2), fun a o h1 => ?_, fun a o h1 h2 => ?_, R.a0, R.o0⟩
  · obtain ⟨v, h1, h2⟩ := R.sl i z q
    exact ⟨v, h1, ZV.mono e.g h2⟩
  · obtain ⟨h1, h2⟩ := R.ce q b c hm
    obtain ⟨u, hu, _⟩ := CD.there h2
    exact ⟨e.f q u hu h1, CD.stay h2 e.g (fun o h => hh _ _ h) fun a x h => ⟨hh _ _ h, fun g => e.f a _ h g⟩⟩
  · obtain ⟨o', q⟩ := R.lv a o h1
    exact e.l a o' q
  · obtain ⟨o', q⟩ := R.lv a o h1
    exact e.f a o' q (R.f0 a o h1 h2)
/-- behind a call that writes one cell -/
theorem Rel.call1 {b : Bool} {c c' : CD} (R : Rel K n S M σ G H) (e : Ext [p] G H G' H') (u : Upd1 p b c c' M M') (hd : ∀ a x, H a = some (.own x) → H' a = some (.own x)) (hc : CD.at K G' H' p c') : Rel K n S M' σ G' H' := by
  have hm := u.mem
  obtain ⟨hg, hcd⟩ := R.ce p b c hm
  obtain ⟨u0, hu0, _⟩ := CD.there hcd
  refine ⟨e.x, R.len, fun i z q => ?_, by rw [u.fst]; exact R.nd, fun q b' e' h => ?_, R.g0.trans e.g, fun a o h1 h2 => ?_, fun a o h1 => ?_, fun a o h1 h2 => ?_, fun q e' h => ?_, fun q e' h => ?_⟩
  · obtain ⟨v, h1, h2⟩ := R.sl i z q
    exact ⟨v, h1, ZV.mono e.g h2⟩
  · rcases u.of R.nd q b' e' h with ⟨rfl, rfl, rfl⟩ | ⟨z1, z2⟩
    · exact ⟨e.f q _ hu0 hg, hc⟩
    · obtain ⟨h1, h2⟩ := R.ce q b' e' z2
      obtain ⟨u1, hu1, _⟩ := CD.there h2
      exact ⟨e.f q u1 hu1 h1, CD.stay h2 e.g (fun o h => e.h _ _ h (by simpa using z1)) fun a x h => ⟨hd a x h, fun g => e.f a _ h g⟩⟩
  · have np : a ∉ [p] := by
      intro z
      have z : a = p := by simpa using z
      subst z
      cases b with
      | false => exact h2 (R.a0 _ _ hm)
      | true => rw [R.o0 _ _ hm] at h1; cases h1
    exact e.h a o (R.h0 a o h1 h2) np
  · obtain ⟨o', q⟩ := R.lv a o h1
    exact e.l a o' q
  · obtain ⟨o', q⟩ := R.lv a o h1
    exact e.f a o' q (R.f0 a o h1 h2)
  · rcases u.of R.nd q false e' h with ⟨rfl, z, _⟩ | ⟨_, z⟩
    · subst z
      exact R.a0 _ _ hm
    · exact R.a0 q e' z
  · rcases u.of R.nd q true e' h with ⟨rfl, z, _⟩ | ⟨_, z⟩
    · subst z
      exact R.o0 _ _ hm
    · exact R.o0 q e' z
end
end Z
namespace Z
open PySem PySem.Spec PyProof.Rows L2
open Evl (Ex)

/-! ### the judgements: readings over data -/
abbrev QZ := ZV → Ms → Prop
abbrev XZ := XD → Zs → Ms → Prop
def XOk (K : Fg) (E : XK) (n : Sn) (σ : L2.St) (G : Hp) (X : XZ) : Prop := ∀ cls d G' H' x S' M', Ex G G' → Rel K n S' M' σ G' H' → XAt K G' cls d x → X x S' M' → E cls d H'
def ZW (K : Fg) (E : L2.St → XK) (te : TE) (S : Zs) (M : Ms) (Q : QZ) (X : XZ) : Prop := ∀ (n : Sn) (σ : L2.St) (G H : Hp), Rel K n S M σ G H → ∀ Qv : VK,
  (∀ v G' H' z M', Ex G G' → Rel K n S M' σ G' H' → ZV.at K G' v z → Q z M' → Qv v H') → XOk K (E σ) n σ G X → te σ H Qv
def ZA (K : Fg) (E : L2.St → XK) (ta : TA) (S : Zs) (M : Ms) (Q : List ZV → Ms → Prop) (X : XZ) : Prop := ∀ (n : Sn) (σ : L2.St) (G H : Hp), Rel K n S M σ G H → ∀ Qv : List V → Hp → Prop,
  (∀ vs G' H' zs M', Ex G G' → Rel K n S M' σ G' H' → ZAll K G' vs zs → Q zs M' → Qv vs H') → XOk K (E σ) n σ G X → ta σ H Qv
def ZT (K : Fg) (E : L2.St → XK) (tt : TT) (S : Zs) (M : Ms) (Q : Bool → Ms → Prop) (X : XZ) : Prop := ∀ (n : Sn) (σ : L2.St) (G H : Hp), Rel K n S M σ G H → ∀ Qv : Bool → Hp → Prop,
  (∀ b G' H' M', Ex G G' → Rel K n S M' σ G' H' → Q b M' → Qv b H') → XOk K (E σ) n σ G X → tt σ H Qv
structure ZP where
  nx : Zs → Ms → Prop
  rt : QZ
  bk : Zs → Ms → Prop
  ct : Zs → Ms → Prop
  ex : XZ
structure DOk (K : Fg) (E : L2.St → XK) (n : Sn) (G : Hp) (P : ZP) (D : Ends) : Prop where
  nx : ∀ σ' G' H' S' M', Ex G G' → Rel K n S' M' σ' G' H' → P.nx S' M' → D.nx σ' H'
  rt : ∀ v σ' G' H' z S' M', Ex G G' → Rel K n S' M' σ' G' H' → ZV.at K G' v z → P.rt z M' → D.rt v H'
  bk : ∀ σ' G' H' S' M', Ex G G' → Rel K n S' M' σ' G' H' → P.bk S' M' → D.bk σ' H'
  ct : ∀ σ' G' H' S' M', Ex G G' → Rel K n S' M' σ' G' H' → P.ct S' M' → D.ct σ' H'
  ex : ∀ cls d σ' G' H' x S' M', Ex G G' → Rel K n S' M' σ' G' H' → XAt K G' cls d x → P.ex x S' M' → E σ' cls d H'
theorem DOk.mono {K : Fg} {E : L2.St → XK} {n : Sn} {G G' : Hp} {P : ZP} {D : Ends} (k : DOk K E n G P D) (e : Ex G G') : DOk K E n G' P D :=
  ⟨fun a b c d f g => k.nx a b c d f (e.trans g), fun a b c d f h i g => k.rt a b c d f h i (e.trans g), fun a b c d f g => k.bk a b c d f (e.trans g), fun a b c d f g => k.ct a b c d f (e.trans g), fun a b c d f h i j g => k.ex a b c d f h i j (e.trans g)⟩
def ZS (K : Fg) (E : L2.St → XK) (t : TS) (S : Zs) (M : Ms) (P : ZP) : Prop := ∀ (n : Sn) (σ : L2.St) (G H : Hp), Rel K n S M σ G H → ∀ D, DOk K E n G P D → t D σ H
section
variable {K : Fg} {E : L2.St → XK} {e0 : XK} {te ta tb tc : TE} {tA : TA} {t u : TT} {S S' : Zs} {M M' : Ms} {Q : QZ} {X : XZ} {n : Sn} {σ : L2.St} {G G' H H' : Hp}
theorem XOk.mono (h : XOk K e0 n σ G X) (e : Ex G G') : XOk K e0 n σ G' X := fun cls d G2 H2 x S2 M2 e2 => h cls d G2 H2 x S2 M2 (e.trans e2)
theorem ZW.imp {Q' : QZ} (h : ZW K E te S M Q X) (i : ∀ z M', Q z M' → Q' z M') : ZW K E te S M Q' X := fun n σ G H R Qv q x => h n σ G H R Qv (fun v G' H' z M' e R' a b => q v G' H' z M' e R' a (i _ _ b)) x

/-! ### expressions -/
theorem zw_var {i : Nat} {z : ZV} (h : S[i]? = some (some z)) (q : Q z M) : ZW K E (tVar i) S M Q X := fun n σ G H R Qv k _ => by
  obtain ⟨v, h1, h2⟩ := R.sl i z h
  exact ⟨v, h1, k v G H z M (Ex.refl G) R h2 q⟩
theorem zw_c {v : V} {d : PyData} (h : ∀ H, Dz K H v d) (q : Q (.d d) M) : ZW K E (tC v) S M Q X := fun n σ G H R Qv k _ => k v G H (.d d) M (Ex.refl G) R (h G) q
theorem zw_int {i : Int} (q : Q (.d (.int i)) M) : ZW K E (tC (.int i)) S M Q X := zw_c (fun _ => .int i) q
theorem zw_str {x : Str} (q : Q (.d (.str x)) M) : ZW K E (tC (.str x)) S M Q X := zw_c (fun _ => .str x) q
theorem zw_bl {b : Bool} (q : Q (.d (.bool b)) M) : ZW K E (tC (.bl b)) S M Q X := zw_c (fun _ => .bl b) q
theorem zw_non (q : Q (.d .none) M) : ZW K E (tC .non) S M Q X := zw_c (fun _ => .non) q
/-- an operation on values, over data -/
def ZO (K : Fg) (r : R2) (x y : ZV) (M : Ms) (Q : QZ) : Prop := ∀ (n : Sn) (S : Zs) (σ : L2.St) (G H : Hp), Rel K n S M σ G H → ∀ v u, ZV.at K G v x → ZV.at K G u y → ∀ Qv : VK,
  (∀ w G' H' z M', Ex G G' → Rel K n S M' σ G' H' → ZV.at K G' w z → Q z M' → Qv w H') → r v u H Qv
theorem zw_op {r : R2} (h : ZW K E ta S M (fun x M1 => ZW K E tb S M1 (fun y M2 => ZO K r x y M2 Q) X) X) : ZW K E (tOp r ta tb) S M Q X := fun n σ G H R Qv k kx =>
  h n σ G H R _ (fun v G1 H1 x M1 e1 R1 a1 h1 => h1 n σ G1 H1 R1 _ (fun u G2 H2 y M2 e2 R2 a2 h2 => h2 n S σ G2 H2 R2 v u (ZV.mono e2 a1) a2 Qv
    fun w G3 H3 z M3 e3 R3 a3 q => k w G3 H3 z M3 ((e1.trans e2).trans e3) R3 a3 q) (kx.mono e1)) kx
def ZU (K : Fg) (r : V → Hp → VK → Prop) (x : ZV) (M : Ms) (Q : QZ) : Prop := ∀ (n : Sn) (S : Zs) (σ : L2.St) (G H : Hp), Rel K n S M σ G H → ∀ v, ZV.at K G v x → ∀ Qv : VK,
  (∀ w G' H' z M', Ex G G' → Rel K n S M' σ G' H' → ZV.at K G' w z → Q z M' → Qv w H') → r v H Qv
theorem zw_un {r : V → Hp → VK → Prop} (h : ZW K E ta S M (fun x M1 => ZU K r x M1 Q) X) : ZW K E (tUn r ta) S M Q X := fun n σ G H R Qv k kx =>
  h n σ G H R _ (fun v G1 H1 x M1 e1 R1 a1 h1 => h1 n S σ G1 H1 R1 v a1 Qv fun w G3 H3 z M3 e3 R3 a3 q => k w G3 H3 z M3 (e1.trans e3) R3 a3 q) kx
/-- the plain ones: a value that is there already, nothing made -/
theorem zo_val {r : R2} {x y : ZV} {z : ZV} (h : ∀ G H v u, Ex G H → ZV.at K G v x → ZV.at K G u y → ∃ w, ZV.at K G w z ∧ ∀ Qv : VK, Qv w H → r v u H Qv) (q : Q z M) : ZO K r x y M Q := fun n S σ G H R v u a b Qv k => by
  obtain ⟨w, h1, h2⟩ := h G H v u R.ex a b
  exact h2 Qv (k w G H z M (Ex.refl G) R h1 q)
theorem dp_int {G : Hp} {v : V} {i : Int} (h : Dz K G v (.int i)) : v = .int i := by cases h; rfl
theorem dp_str {G : Hp} {v : V} {i : Str} (h : Dz K G v (.str i)) : v = .str i := by cases h; rfl
theorem dp_bl {G : Hp} {v : V} {i : Bool} (h : Dz K G v (.bool i)) : v = .bl i := by cases h; rfl
theorem dp_non {G : Hp} {v : V} (h : Dz K G v .none) : v = .non := by cases h; rfl
theorem dp_tup {G : Hp} {v : V} {ds : List PyData} (h : Dz K G v (.tuple ds)) : ∃ a xs, v = .ref a ∧ SqT K G a xs ∧ DzAll K G xs ds := by cases h with | tup s a => exact ⟨_, _, rfl, s.sq, a⟩
theorem dp_lst {G : Hp} {v : V} {ds : List PyData} (h : Dz K G v (.list ds)) : ∃ a xs, v = .ref a ∧ SqL K G a xs ∧ DzAll K G xs ds := by cases h with | lst s a => exact ⟨_, _, rfl, s, a⟩
theorem dpa_len {G : Hp} : ∀ {vs : List V} {ds : List PyData}, DzAll K G vs ds → vs.length = ds.length
  | _, _, .nil => rfl
  | _, _, .cons _ b => by simp [dpa_len b]
theorem dpa_get {G : Hp} : ∀ {vs : List V} {ds : List PyData} {i : Nat} {d : PyData}, DzAll K G vs ds → ds[i]? = some d → ∃ v, vs[i]? = some v ∧ Dz K G v d
  | _, _, _, _, .nil, h => by simp at h
  | _, _, 0, _, .cons a _, h => by simp at h; subst h; exact ⟨_, rfl, a⟩
  | _, _, i + 1, _, .cons _ b, h => by
    obtain ⟨v, h1, h2⟩ := dpa_get (i := i) b (by simpa using h)
    exact ⟨v, by simpa using h1, h2⟩
theorem dpa_app {G : Hp} : ∀ {vs ws : List V} {ds es : List PyData}, DzAll K G vs ds → DzAll K G ws es → DzAll K G (vs ++ ws) (ds ++ es)
  | _, _, _, _, .nil, h => h
  | _, _, _, _, .cons a b, h => .cons a (dpa_app b h)
theorem dpa_take {G : Hp} : ∀ {vs : List V} {ds : List PyData} (k : Nat), DzAll K G vs ds → DzAll K G (vs.take k) (ds.take k)
  | _, _, 0, _ => .nil
  | _, _, _ + 1, .nil => .nil
  | _, _, k + 1, .cons a b => .cons a (dpa_take k b)
theorem dpa_drop {G : Hp} : ∀ {vs : List V} {ds : List PyData} (k : Nat), DzAll K G vs ds → DzAll K G (vs.drop k) (ds.drop k)
  | _, _, 0, h => h
  | _, _, _ + 1, .nil => .nil
  | _, _, k + 1, .cons _ b => dpa_drop k b
theorem dpa_one {G : Hp} {v : V} {d : PyData} (h : Dz K G v d) : DzAll K G [v] [d] := .cons h .nil
theorem dpa_set {G : Hp} {v : V} {d : PyData} (h : Dz K G v d) : ∀ {vs : List V} {ds : List PyData} (k : Nat), DzAll K G vs ds → DzAll K G (vs.set k v) (ds.set k d)
  | _, _, _, .nil => .nil
  | _, _, 0, .cons _ b => .cons h b
  | _, _, k + 1, .cons a b => .cons a (dpa_set h k b)
theorem zall_d {G : Hp} : ∀ {vs : List V} {ds : List PyData}, ZAll K G vs (ds.map .d) → DzAll K G vs ds
  | [], [], .nil => .nil
  | _ :: _, _ :: _, .cons a b => .cons a (zall_d b)

theorem zo_I0 {g : Int → Int → V} {gd : Int → Int → PyData} {i j : Int} (hg : ∀ H, Dz K H (g i j) (gd i j)) (q : Q (.d (gd i j)) M) : ZO K (rI0 g) (.d (.int i)) (.d (.int j)) M Q :=
  zo_val (z := .d (gd i j)) (fun G H v u _ a b => ⟨g i j, hg G, fun Qv h => ⟨i, j, dp_int a, dp_int b, h⟩⟩) q
theorem zo_I {C : Int → Int → Prop} {g : Int → Int → V} {gd : Int → Int → PyData} {i j : Int} (hg : ∀ H, Dz K H (g i j) (gd i j)) (hc : C i j) (q : Q (.d (gd i j)) M) : ZO K (rI C g) (.d (.int i)) (.d (.int j)) M Q :=
  zo_val (z := .d (gd i j)) (fun G H v u _ a b => ⟨g i j, hg G, fun Qv h => ⟨i, j, dp_int a, dp_int b, hc, h⟩⟩) q
theorem zo_add {i j : Int} (q : Q (.d (.int (i + j))) M) : ZO K (rI0 fun i j => .int (i + j)) (.d (.int i)) (.d (.int j)) M Q := zo_I0 (gd := fun i j => .int (i + j)) (fun _ => .int _) q
theorem zo_sub {i j : Int} (q : Q (.d (.int (i - j))) M) : ZO K (rI0 fun i j => .int (i - j)) (.d (.int i)) (.d (.int j)) M Q := zo_I0 (gd := fun i j => .int (i - j)) (fun _ => .int _) q
theorem zo_mul {i j : Int} (hc : CMul i j) (q : Q (.d (.int (i * j))) M) : ZO K (rI CMul fun i j => .int (i * j)) (.d (.int i)) (.d (.int j)) M Q := zo_I (gd := fun i j => .int (i * j)) (fun _ => .int _) hc q
theorem zo_mod {i j : Int} (hc : 0 < j) (q : Q (.d (.int (i % j))) M) : ZO K (rI (fun _ j => 0 < j) fun i j => .int (i % j)) (.d (.int i)) (.d (.int j)) M Q := zo_I (C := fun _ j => 0 < j) (gd := fun i j => .int (i % j)) (fun _ => .int _) hc q
theorem zo_fdiv {i j : Int} (hc : CDiv i j) (q : Q (.d (.int (i / j))) M) : ZO K (rI CDiv fun i j => .int (i / j)) (.d (.int i)) (.d (.int j)) M Q := zo_I (gd := fun i j => .int (i / j)) (fun _ => .int _) hc q
theorem zo_pow {i j : Int} (hc : CPow i j) (q : Q (.d (.int (i ^ j.toNat))) M) : ZO K (rI CPow fun i j => .int (i ^ j.toNat)) (.d (.int i)) (.d (.int j)) M Q := zo_I (gd := fun i j => .int (i ^ j.toNat)) (fun _ => .int _) hc q
theorem zo_shl {i j : Int} (hc : CPow i j) (q : Q (.d (.int (i * 2 ^ j.toNat))) M) : ZO K (rI CPow fun i j => .int (i * 2 ^ j.toNat)) (.d (.int i)) (.d (.int j)) M Q := zo_I (gd := fun i j => .int (i * 2 ^ j.toNat)) (fun _ => .int _) hc q
theorem zo_lt {i j : Int} (q : Q (.d (.bool (decide (i < j)))) M) : ZO K (rI0 fun i j => .bl (decide (i < j))) (.d (.int i)) (.d (.int j)) M Q := zo_I0 (gd := fun i j => .bool (decide (i < j))) (fun _ => .bl _) q
theorem zo_le {i j : Int} (q : Q (.d (.bool (decide (i ≤ j)))) M) : ZO K (rI0 fun i j => .bl (decide (i ≤ j))) (.d (.int i)) (.d (.int j)) M Q := zo_I0 (gd := fun i j => .bool (decide (i ≤ j))) (fun _ => .bl _) q
theorem zo_gt {i j : Int} (q : Q (.d (.bool (decide (j < i)))) M) : ZO K (rI0 fun i j => .bl (decide (j < i))) (.d (.int i)) (.d (.int j)) M Q := zo_I0 (gd := fun i j => .bool (decide (j < i))) (fun _ => .bl _) q
theorem zo_ge {i j : Int} (q : Q (.d (.bool (decide (j ≤ i)))) M) : ZO K (rI0 fun i j => .bl (decide (j ≤ i))) (.d (.int i)) (.d (.int j)) M Q := zo_I0 (gd := fun i j => .bool (decide (j ≤ i))) (fun _ => .bl _) q
theorem zu_neg {i : Int} (q : Q (.d (.int (-i))) M) : ZU K (rU fun i => .int (-i)) (.d (.int i)) M Q := fun n S σ G H R v a Qv k => ⟨i, dp_int a, k _ G H (.d (.int (-i))) M (Ex.refl G) R (.int _) q⟩
/-- == over data -/
theorem zo_eq {x y : PyData} (hx : SeqAt.shaped x = true) (hy : SeqAt.shaped y = true) (q : Q (.d (.bool (PyData.eqv x y))) M) : ZO K (rEqD K) (.d x) (.d y) M Q :=
  zo_val (z := .d (.bool (PyData.eqv x y))) (fun G H v u e a b => ⟨_, .bl _, fun Qv h => ⟨x, y, dz_dp (dp_mono e a), dz_dp (dp_mono e b), hx, hy, h⟩⟩) q
theorem zo_ne {x y : PyData} (hx : SeqAt.shaped x = true) (hy : SeqAt.shaped y = true) (q : Q (.d (.bool (!PyData.eqv x y))) M) : ZO K (rNeD K) (.d x) (.d y) M Q :=
  zo_val (z := .d (.bool (!PyData.eqv x y))) (fun G H v u e a b => ⟨_, .bl _, fun Qv h => ⟨x, y, dz_dp (dp_mono e a), dz_dp (dp_mono e b), hx, hy, h⟩⟩) q
abbrev rAddS1 : R2 := fun x y H Q => ∃ i j, x = .str i ∧ y = .str j ∧ i.length + j.length ≤ sizeLine ∧ Q (.str (i ++ j)) H
theorem zo_addS {x y : Str} (hl : x.length + y.length ≤ sizeLine) (q : Q (.d (.str (x ++ y))) M) : ZO K rAddS1 (.d (.str x)) (.d (.str y)) M Q :=
  zo_val (z := .d (.str (x ++ y))) (fun G H v u e a b => ⟨_, .str _, fun Qv h => ⟨x, y, dp_str a, dp_str b, hl, h⟩⟩) q

/-! ### arguments, displays -/
theorem za_nil {Q : List ZV → Ms → Prop} (q : Q [] M) : ZA K E tNil S M Q X := fun n σ G H R Qv k _ => k [] G H [] M (Ex.refl G) R .nil q
theorem za_cons {Q : List ZV → Ms → Prop} (h : ZW K E te S M (fun x M1 => ZA K E tA S M1 (fun zs M2 => Q (x :: zs) M2) X) X) : ZA K E (tCons te tA) S M Q X := fun n σ G H R Qv k kx =>
  h n σ G H R _ (fun v G1 H1 x M1 e1 R1 a1 h1 => h1 n σ G1 H1 R1 _ (fun vs G2 H2 zs M2 e2 R2 a2 q => k (v :: vs) G2 H2 (x :: zs) M2 (e1.trans e2) R2 (.cons (ZV.mono e2 a1) a2) q) (kx.mono e1)) kx
/-- all plain data -/
def AllD (zs : List ZV) (ds : List PyData) : Prop := zs = ds.map .d
theorem allD_nil : AllD [] [] := rfl
theorem allD_cons {d : PyData} {zs : List ZV} {ds : List PyData} (h : AllD zs ds) : AllD (.d d :: zs) (d :: ds) := by unfold AllD at *; rw [h]; rfl
theorem zw_tup (h : ZA K E tA S M (fun zs M1 => ∃ ds, AllD zs ds ∧ ds.length ≤ sizeLine ∧ Q (.d (.tuple ds)) M1) X) : ZW K E (tTup tA) S M Q X := fun n σ G H R Qv k kx =>
  h n σ G H R _ (fun vs G1 H1 zs M1 e1 R1 a1 ⟨ds, hd, hl, q⟩ => by
    have a2 : DzAll K G1 vs ds := zall_d (by rw [← hd]; exact a1)
    refine ⟨by rw [dpa_len a2]; exact hl, fun p hp => ?_⟩
    have g := ex_gnone R1.ex hp
    exact k (.ref p) _ _ (.d (.tuple ds)) M1 (e1.trans (Ex.new g)) (R1.new hp (fun _ z => nomatch z)) (.tup (.inl upd_same) (dpAll_mono (Ex.new g) a2)) q) kx
/-- a list: frozen at once | a cell -/
theorem zw_lstD (h : ZA K E tA S M (fun zs M1 => ∃ ds, AllD zs ds ∧ ds.length ≤ sizeLine ∧ Q (.d (.list ds)) M1) X) : ZW K E (tLst tA) S M Q X := fun n σ G H R Qv k kx =>
  h n σ G H R _ (fun vs G1 H1 zs M1 e1 R1 a1 ⟨ds, hd, hl, q⟩ => by
    have a2 : DzAll K G1 vs ds := zall_d (by rw [← hd]; exact a1)
    refine ⟨by rw [dpa_len a2]; exact hl, fun p hp => ?_⟩
    have g := ex_gnone R1.ex hp
    exact k (.ref p) _ _ (.d (.list ds)) M1 (e1.trans (Ex.new g)) (R1.new hp (fun _ z => nomatch z)) (.lst (Evl.sq_of upd_same) (dpAll_mono (Ex.new g) a2)) q) kx
theorem zw_lstC (h : ZA K E tA S M (fun zs M1 => ∃ ds, AllD zs ds ∧ ds.length ≤ sizeLine ∧ ∀ p, Q (.c p) ((p, true, .lst ds) :: M1)) X) : ZW K E (tLst tA) S M Q X := fun n σ G H R Qv k kx =>
  h n σ G H R _ (fun vs G1 H1 zs M1 e1 R1 a1 ⟨ds, hd, hl, q⟩ => by
    have a2 : DzAll K G1 vs ds := zall_d (by rw [← hd]; exact a1)
    exact ⟨by rw [dpa_len a2]; exact hl, fun p hp => k (.ref p) _ _ (.c p) _ e1 (R1.newLst hp a2) rfl (q p)⟩) kx
/-- an own list is taken as data from here on -/
theorem zw_frz (h : ZW K E te S M (fun z M1 => ∃ p xs M2, z = .c p ∧ Rem1 p true (.lst xs) M1 M2 ∧ Q (.d (.list xs)) M2) X) : ZW K E te S M Q X := fun n σ G H R Qv k kx =>
  h n σ G H R _ (fun v G1 H1 z M1 e1 R1 a1 ⟨p, xs, M2, hz, hr, q⟩ => by
    subst hz
    obtain ⟨G2, e2, R2, d2⟩ := R1.frz hr
    have ev : v = .ref p := a1
    subst ev
    exact k _ G2 H1 (.d (.list xs)) M2 (e1.trans e2) R2 d2 q) kx

/-! ### tests, and, or, not, if .. else -/
theorem zt_test {Q : Bool → Ms → Prop} (h : ZW K E te S M (fun z M1 => ∃ b, z = .d (.bool b) ∧ Q b M1) X) : ZT K E (tTest te) S M Q X := fun n σ G H R Qv k kx =>
  h n σ G H R _ (fun v G1 H1 z M1 e1 R1 a1 ⟨b, hz, q⟩ => by subst hz; exact ⟨b, dp_bl a1, k b G1 H1 M1 e1 R1 q⟩) kx
theorem zt_B {Q : Bool → Ms → Prop} (h : ZW K E te S M (fun z M1 => ∃ b, z = .d (.bool b) ∧ Q b M1) X) : ZT K E (tB te) S M Q X := fun n σ G H R Qv k kx =>
  h n σ G H R _ (fun v G1 H1 z M1 e1 R1 a1 ⟨b, hz, q⟩ => by subst hz; exact ⟨b, dp_bl a1, k b G1 H1 M1 e1 R1 q⟩) kx
/-- a value's truth -/
def dTru : PyData → Option Bool
  | .none => some false
  | .bool b => some b
  | .int i => some (i != 0)
  | .str y => if y.length ≤ sizeLine then some ((y.length : Int) != 0) else none
  | .list xs => some (!xs.isEmpty)
  | .tuple xs => some (!xs.isEmpty)
  | .dict _ => none
theorem dTru_ok {K : Fg} {G : Hp} {v : V} {d : PyData} {b : Bool} (h : Dz K G v d) (e : dTru d = some b) : TruV K v G b := by
  cases h with
  | non => exact (Option.some.inj e).symm
  | bl x => exact (Option.some.inj e).symm
  | int i => exact (Option.some.inj e).symm
  | str y =>
    simp only [dTru] at e
    split at e
    · rename_i hl; exact ⟨hl, (Option.some.inj e).symm⟩
    · cases e
  | lst s a =>
    refine .inl ⟨_, s, ?_⟩
    have := dpa_len a
    have e := Option.some.inj e
    rw [← e]
    cases a <;> rfl
  | tup s a =>
    refine .inr (.inl ⟨_, s.sq, ?_⟩)
    have e := Option.some.inj e
    rw [← e]
    cases a <;> rfl
theorem truV_mono {K : Fg} {G H : Hp} (e : Ex G H) {v : V} {b : Bool} (h : TruV K v G b) : TruV K v H b := by
  cases v with
  | ref p =>
    rcases h with ⟨xs, s, z⟩ | ⟨xs, s, z⟩ | ⟨kvs, s, z⟩
    · exact .inl ⟨xs, Evl.ex_l e s, z⟩
    · exact .inr (.inl ⟨xs, Evl.ex_t e s, z⟩)
    · exact .inr (.inr ⟨kvs, e _ _ s, z⟩)
  | _ => exact h
theorem zt_tru {Q : Bool → Ms → Prop} (h : ZW K E te S M (fun z M1 => ∃ d b, z = .d d ∧ dTru d = some b ∧ Q b M1) X) : ZT K E (fun σ H Q => te σ H fun x H' => ∃ k, TruV K x H' k ∧ Q k H') S M Q X := fun n σ G H R Qv k kx =>
  h n σ G H R _ (fun v G1 H1 z M1 e1 R1 a1 ⟨d, b, hz, hb, q⟩ => by subst hz; exact ⟨b, truV_mono R1.ex (dTru_ok a1 hb), k b G1 H1 M1 e1 R1 q⟩) kx
/-- an own list's truth -/
theorem zt_truC {Q : Bool → Ms → Prop} (h : ZW K E te S M (fun z M1 => ∃ p b xs, z = .c p ∧ (p, b, CD.lst xs) ∈ M1 ∧ Q (!xs.isEmpty) M1) X) : ZT K E (fun σ H Q => te σ H fun x H' => ∃ k, TruV K x H' k ∧ Q k H') S M Q X := fun n σ G H R Qv k kx =>
  h n σ G H R _ (fun v G1 H1 z M1 e1 R1 a1 ⟨p, b, xs, hz, hm, q⟩ => by
    subst hz
    obtain ⟨_, ws, hw, hd⟩ := R1.ce p b _ hm
    have ev : v = .ref p := a1
    subst ev
    refine ⟨!xs.isEmpty, .inl ⟨ws, Evl.sq_of hw, ?_⟩, k _ G1 H1 M1 e1 R1 q⟩
    cases hd <;> rfl) kx
theorem zt_not {Q : Bool → Ms → Prop} (h : ZT K E t S M (fun b M1 => Q (!b) M1) X) : ZT K E (tNot t) S M Q X := fun n σ G H R Qv k kx =>
  h n σ G H R _ (fun b G1 H1 M1 e1 R1 q => k (!b) G1 H1 M1 e1 R1 q) kx
theorem zt_and {Q : Bool → Ms → Prop} (h : ZT K E t S M (fun b M1 => (b = false → Q false M1) ∧ (b = true → ZT K E u S M1 Q X)) X) : ZT K E (tAnd t u) S M Q X := fun n σ G H R Qv k kx =>
  h n σ G H R _ (fun b G1 H1 M1 e1 R1 q => by
    cases b with
    | true =>
      show u σ H1 Qv
      exact q.2 rfl n σ G1 H1 R1 Qv (fun b G2 H2 M2 e2 R2 q2 => k b G2 H2 M2 (e1.trans e2) R2 q2) (kx.mono e1)
    | false =>
      show Qv false H1
      exact k false G1 H1 M1 e1 R1 (q.1 rfl)) kx
theorem zt_or {Q : Bool → Ms → Prop} (h : ZT K E t S M (fun b M1 => (b = true → Q true M1) ∧ (b = false → ZT K E u S M1 Q X)) X) : ZT K E (tOr t u) S M Q X := fun n σ G H R Qv k kx =>
  h n σ G H R _ (fun b G1 H1 M1 e1 R1 q => by
    cases b with
    | true =>
      show Qv true H1
      exact k true G1 H1 M1 e1 R1 (q.1 rfl)
    | false =>
      show u σ H1 Qv
      exact q.2 rfl n σ G1 H1 R1 Qv (fun b G2 H2 M2 e2 R2 q2 => k b G2 H2 M2 (e1.trans e2) R2 q2) (kx.mono e1)) kx
theorem zw_andV (h : ZW K E ta S M (fun z M1 => ∃ b, z = .d (.bool b) ∧ (b = false → Q (.d (.bool false)) M1) ∧ (b = true → ZW K E tb S M1 Q X)) X) : ZW K E (tAndV ta tb) S M Q X := fun n σ G H R Qv k kx =>
  h n σ G H R _ (fun v G1 H1 z M1 e1 R1 a1 ⟨b, hz, q⟩ => by
    subst hz
    refine ⟨b, dp_bl a1, ?_⟩
    cases b with
    | true =>
      show tb σ H1 Qv
      exact q.2 rfl n σ G1 H1 R1 Qv (fun w G2 H2 z M2 e2 R2 a2 q2 => k w G2 H2 z M2 (e1.trans e2) R2 a2 q2) (kx.mono e1)
    | false =>
      show Qv (.bl false) H1
      exact k _ G1 H1 (.d (.bool false)) M1 e1 R1 (Dz.bl false) (q.1 rfl)) kx
theorem zw_orV (h : ZW K E ta S M (fun z M1 => ∃ b, z = .d (.bool b) ∧ (b = true → Q (.d (.bool true)) M1) ∧ (b = false → ZW K E tb S M1 Q X)) X) : ZW K E (tOrV ta tb) S M Q X := fun n σ G H R Qv k kx =>
  h n σ G H R _ (fun v G1 H1 z M1 e1 R1 a1 ⟨b, hz, q⟩ => by
    subst hz
    refine ⟨b, dp_bl a1, ?_⟩
    cases b with
    | true =>
      show Qv (.bl true) H1
      exact k _ G1 H1 (.d (.bool true)) M1 e1 R1 (Dz.bl true) (q.1 rfl)
    | false =>
      show tb σ H1 Qv
      exact q.2 rfl n σ G1 H1 R1 Qv (fun w G2 H2 z M2 e2 R2 a2 q2 => k w G2 H2 z M2 (e1.trans e2) R2 a2 q2) (kx.mono e1)) kx
theorem zw_notV (h : ZW K E ta S M (fun z M1 => ∃ b, z = .d (.bool b) ∧ Q (.d (.bool (!b))) M1) X) : ZW K E (tNotV ta) S M Q X := fun n σ G H R Qv k kx =>
  h n σ G H R _ (fun v G1 H1 z M1 e1 R1 a1 ⟨b, hz, q⟩ => by subst hz; exact ⟨b, dp_bl a1, k _ G1 H1 (.d (.bool (!b))) M1 e1 R1 (Dz.bl (!b)) q⟩) kx
theorem zw_if (h : ZT K E t S M (fun b M1 => (b = true → ZW K E ta S M1 Q X) ∧ (b = false → ZW K E tb S M1 Q X)) X) : ZW K E (tIf t ta tb) S M Q X := fun n σ G H R Qv k kx =>
  h n σ G H R _ (fun b G1 H1 M1 e1 R1 q => by
    cases b with
    | true =>
      show ta σ H1 Qv
      exact q.1 rfl n σ G1 H1 R1 Qv (fun w G2 H2 z M2 e2 R2 a2 q2 => k w G2 H2 z M2 (e1.trans e2) R2 a2 q2) (kx.mono e1)
    | false =>
      show tb σ H1 Qv
      exact q.2 rfl n σ G1 H1 R1 Qv (fun w G2 H2 z M2 e2 R2 a2 q2 => k w G2 H2 z M2 (e1.trans e2) R2 a2 q2) (kx.mono e1)) kx
end
end Z
namespace Z
open PySem PySem.Spec PyProof.Rows L2
open Evl (Ex)
section
variable {K : Fg} {E : L2.St → XK} {e0 : XK} {te ta tb tc : TE} {tA : TA} {tt : TT} {t u : TS} {S S' : Zs} {M M' : Ms} {P : ZP} {Q : QZ} {X : XZ} {n : Sn} {σ : L2.St} {G G' H H' : Hp}
/-! ### statements -/
theorem DOk.xok {D : Ends} (k : DOk K E n G P D) : XOk K (E σ) n σ G P.ex := fun cls d G' H' x S' M' e R a b => k.ex cls d σ G' H' x S' M' e R a b
theorem zs_never (h : False) : ZS K E t S M P := h.elim
theorem zs_next (h : P.nx S M) : ZS K E tNext S M P := fun n σ G H R D k => k.nx σ G H S M (Ex.refl G) R h
theorem zs_seq (h : ZS K E t S M { P with nx := fun S' M' => ZS K E u S' M' P }) : ZS K E (tSeq t u) S M P := fun n σ G H R D k =>
  h n σ G H R _ ⟨fun σ' G' H' S' M' e R' z => z n σ' G' H' R' D (k.mono e), k.rt, k.bk, k.ct, k.ex⟩
theorem zs_asg {i : Nat} (h : ZW K E te S M (fun z M1 => P.nx (S.set i (some z)) M1) P.ex) : ZS K E (tAsg te (gName i)) S M P := fun n σ G H R D k =>
  h n σ G H R _ (fun v G1 H1 z M1 e1 R1 a1 q => k.nx _ G1 H1 _ M1 e1 (R1.set a1) q) k.xok
theorem zs_drop (h : ZW K E te S M (fun _ M1 => P.nx S M1) P.ex) : ZS K E (tDrop te) S M P := fun n σ G H R D k =>
  h n σ G H R _ (fun v G1 H1 z M1 e1 R1 a1 q => k.nx _ G1 H1 S M1 e1 R1 q) k.xok
theorem zs_ret (h : ZW K E te S M P.rt P.ex) : ZS K E (tRet te) S M P := fun n σ G H R D k =>
  h n σ G H R _ (fun v G1 H1 z M1 e1 R1 a1 q => k.rt v σ G1 H1 z S M1 e1 R1 a1 q) k.xok
theorem zs_retN (h : P.rt (.d .none) M) : ZS K E tRetN S M P := fun n σ G H R D k => k.rt .non σ G H (.d .none) S M (Ex.refl G) R Dz.non h
theorem zs_if (h : ZT K E tt S M (fun b M1 => (b = true → ZS K E t S M1 P) ∧ (b = false → ZS K E u S M1 P)) P.ex) : ZS K E (tIfS tt t u) S M P := fun n σ G H R D k =>
  h n σ G H R _ (fun b G1 H1 M1 e1 R1 q => by
    cases b with
    | true =>
      show t D σ H1
      exact q.1 rfl n σ G1 H1 R1 D (k.mono e1)
    | false =>
      show u D σ H1
      exact q.2 rfl n σ G1 H1 R1 D (k.mono e1)) k.xok
theorem zs_aug {i : Nat} {f : Int → Int → Int} {a : Int} (hs : S[i]? = some (some (.d (.int a)))) (h : ZW K E te S M (fun z M1 => ∃ b, z = .d (.int b) ∧ P.nx (S.set i (some (.d (.int (f a b))))) M1) P.ex) : ZS K E (tAug i te (ipI f)) S M P := fun n σ G H R D k => by
  obtain ⟨v, h1, h2⟩ := R.sl i _ hs
  have e := dp_int h2
  subst e
  refine ⟨_, h1, h n σ G H R _ (fun v G1 H1 z M1 e1 R1 a1 ⟨b, hz, q⟩ => ?_) k.xok⟩
  subst hz
  exact ⟨a, b, rfl, dp_int a1, k.nx _ G1 H1 _ M1 e1 (R1.set (v := .int (f a b)) (z := .d (.int (f a b))) (Dz.int _)) q⟩
/-- what holds of the state may be weakened ahead of a statement -/
theorem zs_weak (h : ZS K E t S' M' P) (hl : S'.length = S.length) (hs : ∀ (i : Nat) (z : ZV), S'[i]? = some (some z) → S[i]? = some (some z)) (hm : M'.Sublist M) : ZS K E t S M P := fun n σ G H R D k =>
  h n σ G H ((R.weak hl hs).drop hm) D k
/-- a row[i] = e over an own list -/
theorem zs_setL {to ti : TE} (h : ZW K E te S M (fun z M1 => ∃ d, z = .d d ∧ ZW K E to S M1 (fun o M2 => ZW K E ti S M2 (fun y M3 => ∃ p b xs k j M4, o = .c p ∧ y = .d (.int k) ∧ ixN xs.length k = some j ∧ Upd1 p b (.lst xs) (.lst (xs.set j d)) M3 M4 ∧ P.nx S M4) P.ex) P.ex) P.ex) :
    ZS K E (tAsg te (gSub to ti rSetL)) S M P := fun n σ G H R D k =>
  h n σ G H R _ (fun v G1 H1 z M1 e1 R1 a1 ⟨d, hz, h2⟩ => by
    subst hz
    refine h2 n σ G1 H1 R1 _ (fun o G2 H2 zo M2 e2 R2 a2 h3 => h3 n σ G2 H2 R2 _ (fun y G3 H3 zi M3 e3 R3 a3 ⟨p, b, xs, kk, j, M4, ho, hy, hj, hu, q⟩ => ?_) (XOk.mono k.xok ((e1.trans e2)))) (XOk.mono k.xok e1)
    subst ho hy
    have ev : o = .ref p := a2
    subst ev
    obtain ⟨_, ws, h4, h5⟩ := R3.ce p b _ hu.mem
    exact ⟨p, ws, kk, j, rfl, dp_int a3, h4, by rw [dpa_len h5]; exact hj, k.nx _ G3 _ S M4 ((e1.trans e2).trans e3) (R3.putLst hu (dpa_set (dp_mono (e2.trans e3) a1) j h5)) q⟩) k.xok

theorem zs_par {i j : Nat} (h : ZA K E tA S M (fun zs M1 => ∃ z w, zs = [z, w] ∧ P.nx ((S.set i (some z)).set j (some w)) M1) P.ex) : ZS K E (tPar i j tA) S M P := fun n σ G H R D k =>
  h n σ G H R _ (fun vs G1 H1 zs M1 e1 R1 a1 ⟨z, w, hz, q⟩ => by
    subst hz
    cases a1 with
    | cons a b => cases b with | cons b c => cases c; exact ⟨_, _, rfl, k.nx _ G1 H1 _ M1 e1 ((R1.set a).set b) q⟩) k.xok
def SuiteP (P : ZP) (i : Nat) : ZP := { P with nx := fun S2 M2 => P.nx (S2.set i none) M2, bk := fun S2 M2 => P.bk (S2.set i none) M2, ct := fun S2 M2 => P.ct (S2.set i none) M2 }
/-- try: .. except C as n: suite, the suite's slot i -/
theorem zs_try {tb : WX → TS} {c : Value} {i : Nat} {ts : Addr → Value → Option Addr → TS} {Wout : WX}
    (h : ∀ W : WX, ZS K (fun σ cls d H => W cls d σ H) (tb W) S M { P with ex := fun x S' M' => PySem.W.exmOne K (.ref x.cls) c = some true ∧ ∀ a d, ZS K E (ts a (.ref x.cls) d) (S'.set i (some (.e a (.ref x.cls) d x))) M' (SuiteP P i) }) :
    ZS K E (fun D σ H => tb (wAs K c i ts Wout D) D σ H) S M P := fun n σ G H R D k =>
  h (wAs K c i ts Wout D) n σ G H R D ⟨k.nx, k.rt, k.bk, k.ct, fun cls d σ' G' H' x S' M' e R' a ⟨he, hs⟩ => by
    have ec : cls = .ref x.cls := a.1
    subst ec
    refine ⟨true, he, fun _ ad _ => ?_, fun z => nomatch z⟩
    exact hs ad d n _ G' H' (R'.set (v := .ref ad) (z := .e ad (.ref x.cls) d x) ⟨rfl, a⟩) _
      ⟨fun σ2 G2 H2 S2 M2 e2 R2 q => k.nx _ G2 H2 _ M2 (e.trans e2) R2.unset q, fun v σ2 G2 H2 z S2 M2 e2 => k.rt v σ2 G2 H2 z S2 M2 (e.trans e2), fun σ2 G2 H2 S2 M2 e2 R2 q => k.bk _ G2 H2 _ M2 (e.trans e2) R2.unset q,
       fun σ2 G2 H2 S2 M2 e2 R2 q => k.ct _ G2 H2 _ M2 (e.trans e2) R2.unset q, fun cls' d' σ2 G2 H2 x' S2 M2 e2 => k.ex cls' d' σ2 G2 H2 x' S2 M2 (e.trans e2)⟩⟩

/-! ### the defs' promises -/
inductive DOut where
  | ok (d : PyData)
  | ex (x : XD)
/-- a def over data: R its graph -/
def spD (K : Fg) (k : Nat) (R : List PyData → DOut → Prop) : Sp := fun vs H Q E => ∃ (G : Hp) (ds : List PyData) (o : DOut), Ex G H ∧ ds.length = k ∧ DzAll K G vs ds ∧ R ds o ∧
  (∀ d, o = .ok d → ∀ v G' H', Ext [] G H G' H' → Dz K G' v d → Q v H') ∧ (∀ x, o = .ex x → ∀ cls dd G' H', Ext [] G H G' H' → XAt K G' cls dd x → E cls dd H')
/-- a def whose first argument is an own list, which it may write -/
def spC (K : Fg) (k : Nat) (R : List PyData → List PyData → (DOut → List PyData → Prop) → Prop) : Sp := fun vs H Q E => ∃ (G : Hp) (p : Addr) (xs : List PyData) (us : List V) (ds : List PyData) (F : DOut → List PyData → Prop), vs = .ref p :: us ∧ ds.length = k ∧ Ex G H ∧ G p = none ∧ CD.at K G H p (.lst xs) ∧ DzAll K G us ds ∧ R xs ds F ∧
  (∀ o ys, F o ys → (∀ d, o = .ok d → ∀ v G' H', Ext [p] G H G' H' → (∀ a x, H a = some (.own x) → H' a = some (.own x)) → CD.at K G' H' p (.lst ys) → Dz K G' v d → Q v H') ∧
  (∀ x, o = .ex x → ∀ cls dd G' H', Ext [p] G H G' H' → (∀ a x, H a = some (.own x) → H' a = some (.own x)) → CD.at K G' H' p (.lst ys) → XAt K G' cls dd x → E cls dd H'))
/-- a method of an own object: fields before and behind -/
def spO (K : Fg) (C : Addr) (k : Nat) (R : List (Str × ZV) → List PyData → DOut → List (Str × ZV) → Prop) : Sp := fun vs H Q E => ∃ (G : Hp) (p : Addr) (fs : List (Str × ZV)) (us : List V) (ds : List PyData) (o : DOut) (fs' : List (Str × ZV)), vs = .ref p :: us ∧ ds.length = k ∧ Ex G H ∧ G p = none ∧ CD.at K G H p (.obj C fs) ∧ DzAll K G us ds ∧ R fs ds o fs' ∧
  (∀ d, o = .ok d → ∀ v G' H', Ext [p] G H G' H' → (∀ a x, H a = some (.own x) → H' a = some (.own x)) → CD.at K G' H' p (.obj C fs') → Dz K G' v d → Q v H') ∧
  (∀ x, o = .ex x → ∀ cls dd G' H', Ext [p] G H G' H' → (∀ a x, H a = some (.own x) → H' a = some (.own x)) → CD.at K G' H' p (.obj C fs') → XAt K G' cls dd x → E cls dd H')
def PFn (o : DOut) : ZP := ⟨fun _ _ => o = .ok .none, fun z _ => ∃ d, z = .d d ∧ o = .ok d, fun _ _ => False, fun _ _ => False, fun x _ _ => o = .ex x⟩
def PFc (p : Addr) (o : DOut) (c : CD) : ZP := ⟨fun _ M => o = .ok .none ∧ (p, false, c) ∈ M, fun z M => (∃ d, z = .d d ∧ o = .ok d) ∧ (p, false, c) ∈ M, fun _ _ => False, fun _ _ => False, fun x _ M => o = .ex x ∧ (p, false, c) ∈ M⟩
def PFl (p : Addr) (F : DOut → List PyData → Prop) : ZP := ⟨fun _ M => ∃ ys, F (.ok .none) ys ∧ (p, false, .lst ys) ∈ M, fun z M => ∃ d ys, z = .d d ∧ F (.ok d) ys ∧ (p, false, .lst ys) ∈ M, fun _ _ => False, fun _ _ => False, fun x _ M => ∃ ys, F (.ex x) ys ∧ (p, false, .lst ys) ∈ M⟩
def stS (ds : List PyData) : Zs := ds.map fun d => some (.d d)
theorem stS_get {vs : List V} {ds : List PyData} (h : DzAll K G vs ds) (k : Nat) : ∀ (i : Nat) (z : ZV), (stS ds ++ List.replicate k none)[i]? = some (some z) → ∃ v, (vs.map some ++ List.replicate k none)[i]? = some (some v) ∧ ZV.at K G v z := fun i z e => by
  have hl := dpa_len h
  by_cases hi : i < ds.length
  · rw [List.getElem?_append_left (by simpa [stS] using hi)] at e
    simp only [stS, List.getElem?_map] at e
    cases q : ds[i]? with
    | none => rw [q] at e; cases e
    | some d =>
      rw [q] at e
      simp only [Option.map_some, Option.some.injEq] at e
      subst e
      obtain ⟨v, h1, h2⟩ := dpa_get h q
      refine ⟨v, ?_, h2⟩
      rw [List.getElem?_append_left (by simpa [hl] using hi), List.getElem?_map, h1]
      rfl
  · rw [List.getElem?_append_right (by simpa [stS] using hi), List.getElem?_replicate] at e
    split at e <;> cases e
theorem rel_start {N : List Str} {vs : List V} {ds : List PyData} (e : Ex G H) (h : DzAll K G vs ds) : Rel K ⟨G, H, []⟩ (stS ds ++ List.replicate (N.length - ds.length) none) [] (L2.start N vs) G H where
  ex := e
  len := by unfold L2.start; simp [stS, dpa_len h]
  sl := fun i z q => by
    unfold L2.start
    rw [dpa_len h]
    exact stS_get h _ i z q
  nd := List.nodup_nil
  ce := fun _ _ _ q => by simp at q
  g0 := Ex.refl G
  h0 := fun _ _ q _ => q
  lv := fun _ o q => ⟨o, q⟩
  f0 := fun _ _ _ q => q
  a0 := fun _ _ q => by simp at q
  o0 := fun _ _ q => by simp at q
theorem rel_startC {N : List Str} {p : Addr} {c : CD} {vs : List V} {ds : List PyData} (e : Ex G H) (hp : G p = none) (hc : CD.at K G H p c) (h : DzAll K G vs ds) :
    Rel K ⟨G, H, [p]⟩ (some (.c p) :: (stS ds ++ List.replicate (N.length - (ds.length + 1)) none)) [(p, false, c)] (L2.start N (.ref p :: vs)) G H where
  ex := e
  len := by unfold L2.start; simp [stS, dpa_len h]
  sl := fun i z q => by
    unfold L2.start
    cases i with
    | zero => simp at q; subst q; exact ⟨.ref p, rfl, rfl⟩
    | succ i =>
      simp only [List.getElem?_cons_succ] at q
      obtain ⟨v, h1, h2⟩ := stS_get h _ i z q
      exact ⟨v, by simpa [dpa_len h] using h1, h2⟩
  nd := by simp
  ce := fun q b c' hm => by
    simp at hm
    obtain ⟨rfl, rfl, rfl⟩ := hm
    exact ⟨hp, hc⟩
  g0 := Ex.refl G
  h0 := fun _ _ q _ => q
  lv := fun _ o q => ⟨o, q⟩
  f0 := fun _ _ _ q => q
  a0 := fun q c' hm => by simp at hm; simp [hm.1]
  o0 := fun q c' hm => by simp at hm
theorem fn_D {R : List PyData → DOut → Prop} {k : Nat} {N : List Str} {vs : List V} {Qv : VK} (h : spD K k R vs H Qv e0) (b : ∀ ds o, ds.length = k → R ds o → ZS K (fun _ => e0) t (stS ds ++ List.replicate (N.length - ds.length) none) [] (PFn o)) : t { nx := fun _ H' => Qv .non H', rt := Qv } (L2.start N vs) H := by
  obtain ⟨G, ds, o, e, hk, hd, hR, q1, q2⟩ := h
  refine b ds o hk hR ⟨G, H, []⟩ _ G H (rel_start e hd) _ ⟨fun σ' G' H' S' M' _ R z => ?_, fun v σ' G' H' z S' M' _ R a z' => ?_, fun _ _ _ _ _ _ _ z => z.elim, fun _ _ _ _ _ _ _ z => z.elim, fun cls d σ' G' H' x S' M' _ R a z => ?_⟩
  · exact q1 _ z .non G' H' R.ext .non
  · obtain ⟨d, rfl, z'⟩ := z'
    exact q1 _ z' v G' H' R.ext a
  · exact q2 _ z cls d G' H' R.ext a
theorem Rel.own (R : Rel K n S M σ G H) (hk : ∀ a x, n.H a = some (.own x) → a ∉ n.A) : ∀ a x, n.H a = some (.own x) → H a = some (.own x) := fun a x h => R.h0 a _ h (hk a x h)
theorem fn_C {R : List PyData → List PyData → (DOut → List PyData → Prop) → Prop} {kk : Nat} {N : List Str} {vs : List V} {Qv : VK} (h : spC K kk R vs H Qv e0)
    (b : ∀ p xs ds F, ds.length = kk → R xs ds F → ZS K (fun _ => e0) t (some (.c p) :: (stS ds ++ List.replicate (N.length - (ds.length + 1)) none)) [(p, false, .lst xs)] (PFl p F)) : t { nx := fun _ H' => Qv .non H', rt := Qv } (L2.start N vs) H := by
  obtain ⟨G, p, xs, us, ds, F, rfl, hkk, e, hp, hc, hd, hR, qq⟩ := h
  have hk : ∀ a x, H a = some (.own x) → a ∉ [p] := fun a x h1 z => by
    have z : a = p := by simpa using z
    obtain ⟨ws, h2, _⟩ := hc
    rw [z, h2] at h1
    cases h1
  refine b p xs ds F hkk hR ⟨G, H, [p]⟩ _ G H (rel_startC e hp hc hd) _ ⟨fun σ' G' H' S' M' _ R z => ?_, fun v σ' G' H' z S' M' _ R a z' => ?_, fun _ _ _ _ _ _ _ z => z.elim, fun _ _ _ _ _ _ _ z => z.elim, fun cls d σ' G' H' x S' M' _ R a z => ?_⟩
  · obtain ⟨ys, z1, z2⟩ := z
    exact (qq _ ys z1).1 _ rfl .non G' H' R.ext (R.own hk) (R.ce _ _ _ z2).2 .non
  · obtain ⟨d, ys, rfl, z1, z2⟩ := z'
    exact (qq _ ys z1).1 _ rfl v G' H' R.ext (R.own hk) (R.ce _ _ _ z2).2 a
  · obtain ⟨ys, z1, z2⟩ := z
    exact (qq _ ys z1).2 _ rfl cls d G' H' R.ext (R.own hk) (R.ce _ _ _ z2).2 a
theorem fn_O {C : Addr} {R : List (Str × ZV) → List PyData → DOut → List (Str × ZV) → Prop} {kk : Nat} {N : List Str} {vs : List V} {Qv : VK} (h : spO K C kk R vs H Qv e0)
    (b : ∀ p fs ds o fs', ds.length = kk → R fs ds o fs' → ZS K (fun _ => e0) t (some (.c p) :: (stS ds ++ List.replicate (N.length - (ds.length + 1)) none)) [(p, false, .obj C fs)] (PFc p o (.obj C fs'))) : t { nx := fun _ H' => Qv .non H', rt := Qv } (L2.start N vs) H := by
  obtain ⟨G, p, xs, us, ds, o, ys, rfl, hkk, e, hp, hc, hd, hR, q1, q2⟩ := h
  have hk : ∀ a x, H a = some (.own x) → a ∉ [p] := fun a x h1 z => by
    have z : a = p := by simpa using z
    obtain ⟨dx, ws, h2, _⟩ := hc
    rw [z, h2] at h1
    cases h1
  refine b p xs ds o ys hkk hR ⟨G, H, [p]⟩ _ G H (rel_startC e hp hc hd) _ ⟨fun σ' G' H' S' M' _ R z => ?_, fun v σ' G' H' z S' M' _ R a z' => ?_, fun _ _ _ _ _ _ _ z => z.elim, fun _ _ _ _ _ _ _ z => z.elim, fun cls d σ' G' H' x S' M' _ R a z => ?_⟩
  · exact q1 _ z.1 .non G' H' R.ext (R.own hk) (R.ce _ _ _ z.2).2 .non
  · obtain ⟨⟨d, rfl, z'⟩, zm⟩ := z'
    exact q1 _ z' v G' H' R.ext (R.own hk) (R.ce _ _ _ zm).2 a
  · exact q2 _ z.1 cls d G' H' R.ext (R.own hk) (R.ce _ _ _ z.2).2 a
theorem len_D {R : List PyData → DOut → Prop} {k : Nat} {vs : List V} {Qv : VK} (h : spD K k R vs H Qv e0) : vs.length = k := by
  obtain ⟨G, ds, o, e, hk, hd, h1, _⟩ := h
  rw [dpa_len hd, hk]
theorem len_C {R : List PyData → List PyData → (DOut → List PyData → Prop) → Prop} {k : Nat} {vs : List V} {Qv : VK} (h : spC K k R vs H Qv e0) : vs.length = k + 1 := by
  obtain ⟨G, p, xs, us, ds, F, rfl, hk, e, hp, hc, hd, h1, _⟩ := h
  rw [List.length_cons, dpa_len hd, hk]
theorem len_O {C : Addr} {R : List (Str × ZV) → List PyData → DOut → List (Str × ZV) → Prop} {k : Nat} {vs : List V} {Qv : VK} (h : spO K C k R vs H Qv e0) : vs.length = k + 1 := by
  obtain ⟨G, p, xs, us, ds, o, ys, rfl, hk, e, hp, hc, hd, h1, _⟩ := h
  rw [List.length_cons, dpa_len hd, hk]

/-! ### calls: e0 what is wanted of an exception; E0 nothing (none is raised here) -/
theorem zw_call {ar : Nat} {R : List PyData → DOut → Prop} (h : ZA K (fun _ => e0) tA S M (fun zs M1 => ∃ ds o, AllD zs ds ∧ ds.length = ar ∧ R ds o ∧ (∀ d, o = .ok d → Q (.d d) M1) ∧ (∀ x, o = .ex x → X x S M1)) X) : ZW K (fun _ => e0) (tCall (spD K ar R) [] e0 tA) S M Q X := fun n σ G H Rl Qv k kx =>
  h n σ G H Rl _ (fun vs G1 H1 zs M1 e1 R1 a1 ⟨ds, o, hd, hk, hR, q1, q2⟩ => by
    refine ⟨G1, ds, o, R1.ex, hk, ?_, hR, fun d ho v G' H' e a => k v G' H' (.d d) M1 (e1.trans e.g) (R1.call e) a (q1 d ho), fun x ho cls dd G' H' e a => kx cls dd G' H' x S M1 (e1.trans e.g) (R1.call e) a (q2 x ho)⟩
    rw [List.append_nil]
    exact zall_d (by rw [← hd]; exact a1)) kx
theorem zw_callS {ar : Nat} {R : List PyData → DOut → Prop} (h : ZA K E tA S M (fun zs M1 => ∃ ds o, AllD zs ds ∧ ds.length = ar ∧ R ds o ∧ (∀ d, o = .ok d → Q (.d d) M1) ∧ (∀ x, o = .ex x → X x S M1)) X) : ZW K E (tCallS (spD K ar R) E tA) S M Q X := fun n σ G H Rl Qv k kx =>
  h n σ G H Rl _ (fun vs G1 H1 zs M1 e1 R1 a1 ⟨ds, o, hd, hk, hR, q1, q2⟩ =>
    ⟨G1, ds, o, R1.ex, hk, zall_d (by rw [← hd]; exact a1), hR, fun d ho v G' H' e a => k v G' H' (.d d) M1 (e1.trans e.g) (R1.call e) a (q1 d ho), fun x ho cls dd G' H' e a => kx cls dd G' H' x S M1 (e1.trans e.g) (R1.call e) a (q2 x ho)⟩) kx
theorem zw_call0 {ar : Nat} {R : List PyData → DOut → Prop} (h : ZA K E tA S M (fun zs M1 => ∃ ds d, AllD zs ds ∧ ds.length = ar ∧ R ds (.ok d) ∧ Q (.d d) M1) X) : ZW K E (tCall (spD K ar R) [] E0 tA) S M Q X := fun n σ G H Rl Qv k kx =>
  h n σ G H Rl _ (fun vs G1 H1 zs M1 e1 R1 a1 ⟨ds, d, hd, hk, hR, q1⟩ => by
    refine ⟨G1, ds, .ok d, R1.ex, hk, ?_, hR, fun d' ho v G' H' e a => k v G' H' (.d d') M1 (e1.trans e.g) (R1.call e) a (by cases ho; exact q1), fun x ho => nomatch ho⟩
    rw [List.append_nil]
    exact zall_d (by rw [← hd]; exact a1)) kx
def FC (p : Addr) (b : Bool) (xs : List PyData) (S : Zs) (M1 : Ms) (Q : QZ) (X : XZ) : DOut → List PyData → Prop := fun o ys => ∃ M2, Upd1 p b (.lst xs) (.lst ys) M1 M2 ∧ (∀ d, o = .ok d → Q (.d d) M2) ∧ (∀ x, o = .ex x → X x S M2)
theorem zw_callC {ar : Nat} {R : List PyData → List PyData → (DOut → List PyData → Prop) → Prop} (h : ZA K (fun _ => e0) tA S M (fun zs M1 => ∃ p b xs zs' ds, zs = .c p :: zs' ∧ (p, b, CD.lst xs) ∈ M1 ∧ AllD zs' ds ∧ ds.length = ar ∧ R xs ds (FC p b xs S M1 Q X)) X) : ZW K (fun _ => e0) (tCall (spC K ar R) [] e0 tA) S M Q X := fun n σ G H Rl Qv k kx =>
  h n σ G H Rl _ (fun vs G1 H1 zs M1 e1 R1 a1 ⟨p, b, xs, zs', ds, hz, hm, hd, hk, hR⟩ => by
    subst hz
    cases a1 with
    | cons a1 a2 =>
      have ev := a1
      obtain ⟨hp, hc⟩ := R1.ce p b _ hm
      subst ev
      refine ⟨G1, p, xs, _, ds, _, by rw [List.append_nil], hk, R1.ex, hp, hc, zall_d (by rw [← hd]; exact a2), hR, fun o ys ⟨M2, hu, q1, q2⟩ => ⟨fun d ho v G' H' e own hc' a => k v G' H' (.d d) M2 (e1.trans e.g) (R1.call1 e hu own hc') a (q1 d ho), fun x ho cls dd G' H' e own hc' a => kx cls dd G' H' x S M2 (e1.trans e.g) (R1.call1 e hu own hc') a (q2 x ho)⟩⟩) kx
def FC0 (p : Addr) (b : Bool) (xs : List PyData) (M1 : Ms) (Q : QZ) : DOut → List PyData → Prop := fun o ys => ∃ d M2, o = .ok d ∧ Upd1 p b (.lst xs) (.lst ys) M1 M2 ∧ Q (.d d) M2
theorem zw_callC0 {ar : Nat} {R : List PyData → List PyData → (DOut → List PyData → Prop) → Prop} (h : ZA K E tA S M (fun zs M1 => ∃ p b xs zs' ds, zs = .c p :: zs' ∧ (p, b, CD.lst xs) ∈ M1 ∧ AllD zs' ds ∧ ds.length = ar ∧ R xs ds (FC0 p b xs M1 Q)) X) : ZW K E (tCall (spC K ar R) [] E0 tA) S M Q X := fun n σ G H Rl Qv k kx =>
  h n σ G H Rl _ (fun vs G1 H1 zs M1 e1 R1 a1 ⟨p, b, xs, zs', ds, hz, hm, hd, hk, hR⟩ => by
    subst hz
    cases a1 with
    | cons a1 a2 =>
      have ev := a1
      obtain ⟨hp, hc⟩ := R1.ce p b _ hm
      subst ev
      refine ⟨G1, p, xs, _, ds, _, by rw [List.append_nil], hk, R1.ex, hp, hc, zall_d (by rw [← hd]; exact a2), hR, fun o ys ⟨d, M2, ho, hu, q⟩ => ?_⟩
      subst ho
      refine ⟨fun d' ho v G' H' e own hc' a => ?_, fun x ho => nomatch ho⟩
      cases ho
      exact k v G' H' (.d d) M2 (e1.trans e.g) (R1.call1 e hu own hc') a q) kx
/-- o.m(..), o an own object of the class C -/
theorem lookup_paired {fv : List (Str × V)} {fs : List (Str × ZV)} (h : Paired (fun (a : Str × V) (b : Str × ZV) => a.1 = b.1 ∧ ZV.at K G a.2 b.2) fv fs) (m : Str) : (fs.lookup m = none → fv.lookup m = none) ∧ (∀ z, fs.lookup m = some z → ∃ v, fv.lookup m = some v ∧ ZV.at K G v z) := by
  induction h with
  | nil => exact ⟨fun _ => rfl, fun z e => by cases e⟩
  | @cons a b l1 l2 q t ih =>
    obtain ⟨a1, a2⟩ := a
    obtain ⟨b1, b2⟩ := b
    obtain ⟨q1, q2⟩ := q
    dsimp only at q1 q2
    subst q1
    rw [List.lookup_cons, List.lookup_cons]
    split
    · refine ⟨fun e => (nomatch e), fun z e => ?_⟩
      have e := Option.some.inj e
      subst e
      exact ⟨_, rfl, q2⟩
    · exact ih
theorem zw_methO {ar : Nat} {C : Addr} {m : Str} {R : List (Str × ZV) → List PyData → DOut → List (Str × ZV) → Prop} (h : ZW K (fun _ => e0) te S M (fun z M0 => ∃ p, z = .c p ∧ (∃ b fs0, (p, b, CD.obj C fs0) ∈ M0 ∧ fs0.lookup m = none) ∧ ZA K (fun _ => e0) tA S M0 (fun zs M1 => ∃ b fs ds o fs' M2, AllD zs ds ∧ ds.length = ar ∧ R fs ds o fs' ∧ Upd1 p b (.obj C fs) (.obj C fs') M1 M2 ∧ (∀ d, o = .ok d → Q (.d d) M2) ∧ (∀ x, o = .ex x → X x S M2)) X) X) :
    ZW K (fun _ => e0) (tMeth C m (spO K C ar R) [] e0 te tA) S M Q X := fun n σ G H Rl Qv k kx =>
  h n σ G H Rl _ (fun v G0 H0 z M0 e0' R0 a0 ⟨p, hz, ⟨b0, fs0, hm0, hl0⟩, h2⟩ => by
    subst hz
    have ev : v = .ref p := a0
    subst ev
    obtain ⟨_, dx, fv, h3, h4, h5, h6⟩ := R0.ce p b0 _ hm0
    refine ⟨p, dx, fv, rfl, h3, (lookup_paired h6 m).1 hl0, h2 n σ G0 H0 R0 _ (fun vs G1 H1 zs M1 e1 R1 a1 ⟨b, fs, ds, o, fs', M2, hd, hk, hR, hu, q1, q2⟩ => ?_) (kx.mono e0')⟩
    obtain ⟨hp, hc⟩ := R1.ce p b _ hu.mem
    refine ⟨G1, p, fs, _, ds, o, fs', by rw [List.append_nil], hk, R1.ex, hp, hc, zall_d (by rw [← hd]; exact a1), hR, fun d ho v G' H' e own hc' a => k v G' H' (.d d) M2 ((e0'.trans e1).trans e.g) (R1.call1 e hu own hc') a (q1 d ho), fun x ho cls dd G' H' e own hc' a => kx cls dd G' H' x S M2 ((e0'.trans e1).trans e.g) (R1.call1 e hu own hc') a (q2 x ho)⟩) kx
end
end Z
namespace Z
open PySem PySem.Spec PyProof.Rows L2
open Evl (Ex)
section
variable {K : Fg} {E : L2.St → XK} {e0 : XK} {te ta tb tc : TE} {tA : TA} {tt : TT} {t u : TS} {S S' : Zs} {M M' : Ms} {P : ZP} {Q : QZ} {X : XZ} {n : Sn} {σ : L2.St} {G G' H H' : Hp}
/-! ### membership of cells -/
theorem m0 {q : Addr × Bool × CD} {M : Ms} : q ∈ q :: M := List.mem_cons_self
theorem m1 {q r : Addr × Bool × CD} {M : Ms} (h : q ∈ M) : q ∈ r :: M := List.mem_cons_of_mem _ h

/-! ### subscripts -/
def dIx : PyData → Int → Option PyData
  | .list ds, i => atI ds i
  | .tuple ds, i => atI ds i
  | .str z, i => if z.length ≤ sizeLine then (atI z.cps.toList i).map fun c => .str ⟨#[c]⟩ else none
  | _, _ => none
theorem dpa_at {vs : List V} {ds : List PyData} {i : Int} {d : PyData} (h : DzAll K G vs ds) (e : atI ds i = some d) : ∃ v, atI vs i = some v ∧ Dz K G v d := by
  unfold atI at e ⊢
  rw [← dpa_len h] at e
  cases q : ixN vs.length i with
  | none => rw [q] at e; cases e
  | some j =>
    rw [q] at e
    exact dpa_get h e
theorem zo_ix {x d : PyData} {i : Int} (h : dIx x i = some d) (q : Q (.d d) M) : ZO K (rIx K) (.d x) (.d (.int i)) M Q :=
  zo_val (z := .d d) (fun G H v u e a b => by
    have eu := dp_int b
    subst eu
    cases x with
    | list ds =>
      obtain ⟨p, xs, rfl, h1, h2⟩ := dp_lst a
      obtain ⟨w, h3, h4⟩ := dpa_at h2 h
      exact ⟨w, h4, fun Qv k => .inl ⟨p, xs, i, w, rfl, rfl, Evl.ex_l e h1, h3, k⟩⟩
    | tuple ds =>
      obtain ⟨p, xs, rfl, h1, h2⟩ := dp_tup a
      obtain ⟨w, h3, h4⟩ := dpa_at h2 h
      exact ⟨w, h4, fun Qv k => .inr (.inl ⟨p, xs, i, w, rfl, rfl, Evl.ex_t e h1, h3, k⟩)⟩
    | str z =>
      have ev := dp_str a
      subst ev
      simp only [dIx] at h
      split at h
      · rename_i hl
        cases q2 : atI z.cps.toList i with
        | none => rw [q2] at h; cases h
        | some c =>
          rw [q2] at h
          cases h
          exact ⟨.str ⟨#[c]⟩, Dz.str _, fun Qv k => .inr (.inr ⟨z, i, c, rfl, rfl, hl, q2, k⟩)⟩
      · cases h
    | none => cases h
    | bool _ => cases h
    | int _ => cases h
    | dict _ => cases h) q
theorem zo_ixC {p : Addr} {b : Bool} {xs : List PyData} {i : Int} {d : PyData} (hm : (p, b, CD.lst xs) ∈ M) (h : atI xs i = some d) (q : Q (.d d) M) : ZO K (rIx K) (.c p) (.d (.int i)) M Q := fun n S σ G H R v u a b' Qv k => by
  have eu := dp_int b'
  have ev : v = .ref p := a
  subst eu ev
  obtain ⟨_, ws, h1, h2⟩ := R.ce p b _ hm
  obtain ⟨w, h3, h4⟩ := dpa_at h2 h
  exact .inl ⟨p, ws, i, w, rfl, rfl, Evl.sq_of h1, h3, k w G H (.d d) M (Ex.refl G) R h4 q⟩
theorem atI0 {α : Type} {x : α} {r : List α} : atI (x :: r) 0 = some x := atI_nat (j := 0) rfl
theorem atI1 {α : Type} {x y : α} {r : List α} : atI (x :: y :: r) 1 = some y := atI_nat (j := 1) rfl
theorem atI2 {α : Type} {x y z : α} {r : List α} : atI (x :: y :: z :: r) 2 = some z := atI_nat (j := 2) rfl
theorem atI3 {α : Type} {x y z w : α} {r : List α} : atI (x :: y :: z :: w :: r) 3 = some w := atI_nat (j := 3) rfl

/-! ### built-in functions over data -/
/-- a call on values, over data -/
def ZC (K : Fg) (r : List V → Hp → VK → Prop) (zs : List ZV) (M : Ms) (Q : QZ) : Prop := ∀ (n : Sn) (S : Zs) (σ : L2.St) (G H : Hp), Rel K n S M σ G H → ∀ vs, ZAll K G vs zs → ∀ Qv : VK,
  (∀ w G' H' z M', Ex G G' → Rel K n S M' σ G' H' → ZV.at K G' w z → Q z M' → Qv w H') → r vs H Qv
theorem zw_cb {r : List V → Hp → VK → Prop} (h : ZA K E tA S M (fun zs M1 => ZC K r zs M1 Q) X) : ZW K E (tCB r tA) S M Q X := fun n σ G H R Qv k kx =>
  h n σ G H R _ (fun vs G1 H1 zs M1 e1 R1 a1 h1 => h1 n S σ G1 H1 R1 vs a1 Qv fun w G3 H3 z M3 e3 R3 a3 q => k w G3 H3 z M3 (e1.trans e3) R3 a3 q) kx
theorem zc_val {r : List V → Hp → VK → Prop} {zs : List ZV} {z : ZV} (h : ∀ G H vs, Ex G H → ZAll K G vs zs → ∃ w, ZV.at K G w z ∧ ∀ Qv : VK, Qv w H → r vs H Qv) (q : Q z M) : ZC K r zs M Q := fun n S σ G H R vs a Qv k => by
  obtain ⟨w, h1, h2⟩ := h G H vs R.ex a
  exact h2 Qv (k w G H z M (Ex.refl G) R h1 q)
theorem zall1 {vs : List V} {z : ZV} (h : ZAll K G vs [z]) : ∃ v, vs = [v] ∧ ZV.at K G v z := by
  cases h with
  | cons a b => cases b; exact ⟨_, rfl, a⟩
theorem zall2 {vs : List V} {z y : ZV} (h : ZAll K G vs [z, y]) : ∃ v u, vs = [v, u] ∧ ZV.at K G v z ∧ ZV.at K G u y := by
  cases h with
  | cons a b => cases b with | cons b c => cases c; exact ⟨_, _, rfl, a, b⟩
def dLen : PyData → Option Nat
  | .list ds => some ds.length
  | .tuple ds => some ds.length
  | .str z => if z.length ≤ sizeLine then some z.length else none
  | _ => none
abbrev rLenA (K : Fg) : List V → Hp → VK → Prop := fun xs H Q => ∃ x n, xs = [x] ∧ LenV K x H n ∧ Q (.int (n : Nat)) H
theorem zc_len {x : PyData} {k : Nat} (h : dLen x = some k) (q : Q (.d (.int (k : Nat))) M) : ZC K (rLenA K) [.d x] M Q := zc_val (z := .d (.int (k : Nat))) (fun G H vs e a => by
  obtain ⟨v, rfl, av⟩ := zall1 a
  refine ⟨.int (k : Nat), Dz.int _, fun Qv hq => ⟨v, k, rfl, ?_, hq⟩⟩
  cases x with
  | list ds => obtain ⟨p, xs, rfl, h1, h2⟩ := dp_lst av; cases h; exact .inl ⟨xs, Evl.ex_l e h1, (dpa_len h2).symm⟩
  | tuple ds => obtain ⟨p, xs, rfl, h1, h2⟩ := dp_tup av; cases h; exact .inr ⟨xs, Evl.ex_t e h1, (dpa_len h2).symm⟩
  | str z =>
    have ev := dp_str av
    subst ev
    simp only [dLen] at h
    split at h
    · rename_i hl; cases h; exact ⟨hl, rfl⟩
    · cases h
  | none => cases h
  | bool _ => cases h
  | int _ => cases h
  | dict _ => cases h) q
theorem zc_lenC {p : Addr} {b : Bool} {xs : List PyData} (hm : (p, b, CD.lst xs) ∈ M) (q : Q (.d (.int (xs.length : Nat))) M) : ZC K (rLenA K) [.c p] M Q := fun n S σ G H R vs a Qv k => by
  obtain ⟨v, rfl, av⟩ := zall1 a
  have ev : v = .ref p := av
  subst ev
  obtain ⟨_, ws, h1, h2⟩ := R.ce p b _ hm
  exact ⟨_, xs.length, rfl, .inl ⟨ws, Evl.sq_of h1, (dpa_len h2).symm⟩, k (.int (xs.length : Nat)) G H (.d (.int (xs.length : Nat))) M (Ex.refl G) R (Dz.int _) q⟩
/-- int(an int) -/
abbrev rInt1 : List V → Hp → VK → Prop := fun xs H Q => (∃ i, xs = [.int i] ∧ Q (.int i) H) ∨ ∃ k, xs = [.bl k] ∧ Q (.int (if k then 1 else 0)) H
abbrev rIntS : List V → Hp → VK → Prop := fun xs H Q => ∃ a n, xs = [.str a] ∧ PySem.intText? a = some n ∧ a.length ≤ 640 ∧ Q (.int n) H
abbrev rIntA : List V → Hp → VK → Prop := fun xs H Q => rInt1 xs H Q ∨ rIntS xs H Q
theorem zc_int {i : Int} (q : Q (.d (.int i)) M) : ZC K rIntA [.d (.int i)] M Q := zc_val (z := .d (.int i)) (fun G H vs e a => by
  obtain ⟨v, rfl, av⟩ := zall1 a
  exact ⟨v, av, fun Qv hq => .inl (.inl ⟨i, by rw [dp_int av], by rw [← dp_int av]; exact hq⟩)⟩) q
theorem zc_intS {x : Str} {i : Int} (h : PySem.intText? x = some i) (hl : x.length ≤ 640) (q : Q (.d (.int i)) M) : ZC K rIntA [.d (.str x)] M Q := zc_val (z := .d (.int i)) (fun G H vs e a => by
  obtain ⟨v, rfl, av⟩ := zall1 a
  exact ⟨.int i, Dz.int _, fun Qv hq => .inr ⟨x, i, by rw [dp_str av], h, hl, hq⟩⟩) q
abbrev rStrI : List V → Hp → VK → Prop := fun xs H Q => ∃ i, xs = [.int i] ∧ i.natAbs.log2 < 1920 ∧ Q (.str (toString i)) H
theorem zc_strI {i : Int} (h : i.natAbs.log2 < 1920) (q : Q (.d (.str (toString i))) M) : ZC K rStrI [.d (.int i)] M Q := zc_val (z := .d (.str (toString i))) (fun G H vs e a => by
  obtain ⟨v, rfl, av⟩ := zall1 a
  exact ⟨.str (toString i), Dz.str _, fun Qv hq => ⟨i, by rw [dp_int av], h, hq⟩⟩) q
/-- tuple(a list), tuple(a tuple) -/
abbrev rTupOf (K : Fg) : List V → Hp → VK → Prop := fun xs H Q => ∃ p ys, xs = [.ref p] ∧ ((SqL K H p ys ∧ ∀ l, H l = none → Q (.ref l) (upd H l (.tup ys))) ∨ (SqT K H p ys ∧ Q (.ref p) H))
theorem zc_tupL {xs : List PyData} (q : Q (.d (.tuple xs)) M) : ZC K (rTupOf K) [.d (.list xs)] M Q := fun n S σ G H R vs a Qv k => by
  obtain ⟨v, rfl, av⟩ := zall1 a
  obtain ⟨p, ys, rfl, h1, h2⟩ := dp_lst av
  refine ⟨p, ys, rfl, .inl ⟨Evl.ex_l R.ex h1, fun l hl => ?_⟩⟩
  have g := ex_gnone R.ex hl
  exact k (.ref l) _ _ (.d (.tuple xs)) M (Ex.new g) (R.new hl (fun _ z => nomatch z)) (Dz.tup (.inl upd_same) (dpAll_mono (Ex.new g) h2)) q
theorem zc_tupT {xs : List PyData} (q : Q (.d (.tuple xs)) M) : ZC K (rTupOf K) [.d (.tuple xs)] M Q := zc_val (z := .d (.tuple xs)) (fun G H vs e a => by
  obtain ⟨v, rfl, av⟩ := zall1 a
  obtain ⟨p, ys, rfl, h1, h2⟩ := dp_tup av
  exact ⟨.ref p, av, fun Qv hq => ⟨p, ys, rfl, .inr ⟨Evl.ex_t e h1, hq⟩⟩⟩) q
theorem zc_tupC {p : Addr} {b : Bool} {xs : List PyData} (hm : (p, b, CD.lst xs) ∈ M) (q : Q (.d (.tuple xs)) M) : ZC K (rTupOf K) [.c p] M Q := fun n S σ G H R vs a Qv k => by
  obtain ⟨v, rfl, av⟩ := zall1 a
  have ev : v = .ref p := av
  subst ev
  obtain ⟨_, ys, h1, h2⟩ := R.ce p b _ hm
  refine ⟨p, ys, rfl, .inl ⟨Evl.sq_of h1, fun l hl => ?_⟩⟩
  have g := ex_gnone R.ex hl
  exact k (.ref l) _ _ (.d (.tuple xs)) M (Ex.new g) (R.new hl (fun _ z => nomatch z)) (Dz.tup (.inl upd_same) (dpAll_mono (Ex.new g) h2)) q
/-- isinstance(x, a built-in class) -/
def dTy : PyData → String
  | .none => "NoneType"
  | .bool _ => "bool"
  | .int _ => "int"
  | .str _ => "str"
  | .list _ => "list"
  | .tuple _ => "tuple"
  | .dict _ => "dict"
theorem rd_tyL {a : Addr} {xs : List V} (h : SqL K H a xs) : TyX K H (.ref a) (.type "list") := by
  rcases h with (h | ⟨o, h⟩) | ⟨o, its, k, h1, h2, _⟩
  · exact .base (.lst h)
  · exact .base (.frz h)
  · exact .kList h1 h2
theorem rd_tyT {a : Addr} {xs : List V} (h : SqT K H a xs) : TyX K H (.ref a) (.type "tuple") := by
  rcases h with (h | ⟨o, h⟩) | ⟨o, its, k, h1, h2, _⟩
  · exact .base (.tup h)
  · exact .fTuple h
  · exact .kTuple h1 h2
theorem dp_ty {x : PyData} {v : V} (e : Ex G H) (h : Dz K G v x) : TyX K H v (.type (dTy x)) := by
  cases h with
  | non => exact .base .non
  | bl b => exact .base (.bl b)
  | int i => exact .base (.int i)
  | str s => exact .base (.str s)
  | lst s a => exact rd_tyL (Evl.ex_l e s)
  | tup s a => exact rd_tyT (Evl.ex_t e s.sq)
theorem zt_isi {T : String} {tcl : TE} (hcl : tcl = tC (.ty T)) (h : ZW K E te S M (fun z M1 => ∃ x b, z = .d x ∧ kitB (dTy x) T = some b ∧ Q (.d (.bool b)) M1) X) : ZW K E (tCB (rIsi K) (tCons te (tCons tcl tNil))) S M Q X := fun n σ G H R Qv k kx =>
  h n σ G H R _ (fun v G1 H1 z M1 e1 R1 a1 ⟨x, b, hz, hb, q⟩ => by
    subst hz hcl
    exact ⟨v, .ty T, .type (dTy x), .type T, b, rfl, .ty T, dp_ty R1.ex a1, kit_ty hb, k _ G1 H1 (.d (.bool b)) M1 e1 R1 (Dz.bl b) q⟩) kx
/-- isinstance(x, (T1, T2)) -/
theorem kitAny2 {a T1 T2 : String} {b1 b2 : Bool} (h1 : kitB a T1 = some b1) (h2 : kitB a T2 = some b2) : PySem.W.kitAny K (.type a) [.type T1, .type T2] = some (b1 || b2) := by
  refine kitAny_cons (kit_ty h1) (fun e => ?_) (fun e => by rw [e]; rfl)
  refine kitAny_cons (kit_ty h2) (fun e2 => ?_) (fun e2 => by rw [e2, Bool.or_true])
  rw [e, e2]
  rfl
theorem zt_isi2 {T1 T2 : String} (h : ZW K E te S M (fun z M1 => ∃ x b1 b2, z = .d x ∧ kitB (dTy x) T1 = some b1 ∧ kitB (dTy x) T2 = some b2 ∧ Q (.d (.bool (b1 || b2))) M1) X) :
    ZW K E (tCB (rIsiT K) (tCons te (tCons (tTup (tCons (tC (.ty T1)) (tCons (tC (.ty T2)) tNil))) tNil))) S M Q X := fun n σ G H R Qv k kx =>
  h n σ G H R _ (fun v G1 H1 z M1 e1 R1 a1 ⟨x, b1, b2, hz, hb1, hb2, q⟩ => by
    subst hz
    refine ⟨by show 2 ≤ sizeLine; decide, fun p hp => ?_⟩
    have g := ex_gnone R1.ex hp
    exact ⟨v, p, [.ty T1, .ty T2], .type (dTy x), [.type T1, .type T2], b1 || b2, rfl, upd_same, .cons (.ty T1) (.cons (.ty T2) .nil), dp_ty (R1.ex.trans (Ex.new hp)) a1, kitAny2 hb1 hb2,
      k _ _ _ (.d (.bool (b1 || b2))) M1 (e1.trans (Ex.new g)) (R1.new hp (o := .tup [.ty T1, .ty T2]) (fun _ z => nomatch z)) (Dz.bl _) q⟩) kx

/-! ### lists and tuples glued; x in flat ones -/
theorem zo_catT {xs ys : List PyData} (hl : xs.length + ys.length ≤ sizeLine) (q : Q (.d (.tuple (xs ++ ys))) M) : ZO K (rCatA K) (.d (.tuple xs)) (.d (.tuple ys)) M Q := fun n S σ G H R v u a b Qv k => by
  obtain ⟨p, vs, rfl, h1, h2⟩ := dp_tup a
  obtain ⟨p2, ws, rfl, h3, h4⟩ := dp_tup b
  have l1 := dpa_len h2
  have l2 := dpa_len h4
  refine ⟨p, p2, vs, ws, rfl, rfl, Evl.ex_t R.ex h1, Evl.ex_t R.ex h3, by rw [l1, l2]; exact hl, fun e => ?_, fun _ e => ?_, fun _ _ r hr => ?_⟩
  · subst e
    have e : xs = [] := by cases xs with | nil => rfl | cons _ _ => cases l1
    subst e
    exact k (.ref p2) G H (.d (.tuple ys)) M (Ex.refl G) R b q
  · subst e
    have e : ys = [] := by cases ys with | nil => rfl | cons _ _ => cases l2
    subst e
    rw [List.append_nil] at q
    exact k (.ref p) G H (.d (.tuple xs)) M (Ex.refl G) R a q
  · have g := ex_gnone R.ex hr
    exact k (.ref r) _ _ (.d (.tuple (xs ++ ys))) M (Ex.new g) (R.new hr (fun _ z => nomatch z)) (Dz.tup (.inl upd_same) (dpAll_mono (Ex.new g) (dpa_app h2 h4))) q
theorem zo_catL {p p2 : Addr} {b b2 : Bool} {xs ys : List PyData} (hm : (p, b, CD.lst xs) ∈ M) (hm2 : (p2, b2, CD.lst ys) ∈ M) (hl : xs.length + ys.length ≤ sizeLine) (q : ∀ r, Q (.c r) ((r, true, .lst (xs ++ ys)) :: M)) : ZO K rCat (.c p) (.c p2) M Q := fun n S σ G H R v u a b Qv k => by
  have ev : v = .ref p := a
  have eu : u = .ref p2 := b
  subst ev eu
  obtain ⟨_, vs, h1, h2⟩ := R.ce p _ _ hm
  obtain ⟨_, ws, h3, h4⟩ := R.ce p2 _ _ hm2
  exact ⟨p, p2, vs, ws, rfl, rfl, h1, h3, by rw [dpa_len h2, dpa_len h4]; exact hl, fun r hr => k (.ref r) G _ (.c r) _ (Ex.refl G) (R.newLst hr (dpa_app h2 h4)) rfl (q r)⟩
def flatD : PyData → Bool
  | .none => true
  | .bool _ => true
  | .int _ => true
  | .str _ => true
  | _ => false
def vOf : PyData → V
  | .none => .non
  | .bool b => .bl b
  | .int i => .int i
  | .str s => .str s
  | _ => .non
theorem dp_flat {x : PyData} {v : V} (h : Dz K G v x) (f : flatD x = true) : v = vOf x := by
  cases h with
  | lst => cases f
  | tup => cases f
  | _ => rfl
theorem dpa_flat {vs : List V} {ds : List PyData} (h : DzAll K G vs ds) (f : ds.all flatD = true) : vs = ds.map vOf := by
  induction ds generalizing vs with
  | nil => cases h; rfl
  | cons d ds ih =>
    cases h with
    | cons a b =>
      simp only [List.all_cons, Bool.and_eq_true] at f
      rw [dp_flat a f.1, ih b f.2]
      rfl
theorem zo_inT {neg : Bool} {x : PyData} {ds : List PyData} (hx : flatV (vOf x) = true ∧ flatD x = true) (hd : (ds.map vOf).all flatV = true ∧ ds.all flatD = true) (q : Q (.d (.bool (if neg then !inV (vOf x) (ds.map vOf) else inV (vOf x) (ds.map vOf)))) M) : ZO K (rIn K neg) (.d x) (.d (.tuple ds)) M Q :=
  zo_val (z := .d (.bool (if neg then !inV (vOf x) (ds.map vOf) else inV (vOf x) (ds.map vOf)))) (fun G H v u e a b => by
    obtain ⟨p, vs, rfl, h1, h2⟩ := dp_tup b
    have e1 := dp_flat a hx.2
    have e2 := dpa_flat h2 hd.2
    subst e1 e2
    exact ⟨_, Dz.bl _, fun Qv hq => ⟨p, _, rfl, .inr (Evl.ex_t e h1), hx.1, hd.1, hq⟩⟩) q
theorem zo_inL {neg : Bool} {x : PyData} {ds : List PyData} (hx : flatV (vOf x) = true ∧ flatD x = true) (hd : (ds.map vOf).all flatV = true ∧ ds.all flatD = true) (q : Q (.d (.bool (if neg then !inV (vOf x) (ds.map vOf) else inV (vOf x) (ds.map vOf)))) M) : ZO K (rIn K neg) (.d x) (.d (.list ds)) M Q :=
  zo_val (z := .d (.bool (if neg then !inV (vOf x) (ds.map vOf) else inV (vOf x) (ds.map vOf)))) (fun G H v u e a b => by
    obtain ⟨p, vs, rfl, h1, h2⟩ := dp_lst b
    have e1 := dp_flat a hx.2
    have e2 := dpa_flat h2 hd.2
    subst e1 e2
    exact ⟨_, Dz.bl _, fun Qv hq => ⟨p, _, rfl, .inl (Evl.ex_l e h1), hx.1, hd.1, hq⟩⟩) q

/-! ### slices -/
abbrev rSlAny (K : Fg) : V → Option Int → Option Int → Hp → VK → Prop := fun x lo hi H Q => rSlL K x lo hi H Q ∨ (rSlA K x lo hi H Q ∨ C8.rSlX x lo hi H Q)
theorem sl_any {X : Cx} : SlR X (rSlAny X.K) := sl_list.or (sl_tupA.or C8.sl_txt)
def ZPt (K : Fg) (E : L2.St → XK) (to : TO) (S : Zs) (M : Ms) (Q : Option Int → Ms → Prop) (X : XZ) : Prop := ∀ (n : Sn) (σ : L2.St) (G H : Hp), Rel K n S M σ G H → ∀ Qv : Option Int → Hp → Prop,
  (∀ o G' H' M', Ex G G' → Rel K n S M' σ G' H' → Q o M' → Qv o H') → XOk K (E σ) n σ G X → to σ H Qv
theorem zp_none {Q : Option Int → Ms → Prop} (q : Q none M) : ZPt K E tNoPart S M Q X := fun n σ G H R Qv k _ => k none G H M (Ex.refl G) R q
theorem zp_some {Q : Option Int → Ms → Prop} (h : ZW K E te S M (fun z M1 => ∃ i, z = .d (.int i) ∧ Q (some i) M1) X) : ZPt K E (tPart te) S M Q X := fun n σ G H R Qv k kx =>
  h n σ G H R _ (fun v G1 H1 z M1 e1 R1 a1 ⟨i, hz, q⟩ => by subst hz; exact ⟨i, dp_int a1, k (some i) G1 H1 M1 e1 R1 q⟩) kx
def cutD (xs : List PyData) (lo hi : Option Int) : List PyData := (xs.drop (HT.sIx xs.length 0 lo)).take (HT.sIx xs.length xs.length hi - HT.sIx xs.length 0 lo)
def dSl : PyData → Option Int → Option Int → Option PyData
  | .tuple ds, lo, hi => some (.tuple (cutD ds lo hi))
  | .list ds, lo, hi => some (.list (cutD ds lo hi))
  | .str z, lo, hi => if z.length ≤ sizeLine then some (.str (Txt.slice z lo hi)) else none
  | _, _, _ => none
theorem cut_whole {ds : List PyData} {lo hi : Option Int} (h : HT.sIx ds.length 0 lo = 0 ∧ HT.sIx ds.length ds.length hi = ds.length) : cutD ds lo hi = ds := by
  unfold cutD
  rw [h.1, h.2]
  simp
theorem dpa_cut {vs : List V} {ds : List PyData} (lo hi : Option Int) (h : DzAll K G vs ds) : DzAll K G (cutV vs lo hi) (cutD ds lo hi) := by
  unfold cutV cutD
  rw [dpa_len h]
  exact dpa_take _ (dpa_drop _ h)
theorem zw_sl {tl th : TO} (h : ZW K E te S M (fun z M1 => ZPt K E tl S M1 (fun lo M2 => ZPt K E th S M2 (fun hi M3 => ∃ x y, z = .d x ∧ dSl x lo hi = some y ∧ Q (.d y) M3) X) X) X) : ZW K E (tSl (rSlAny K) te tl th) S M Q X := fun n σ G H R Qv k kx =>
  h n σ G H R _ (fun v G1 H1 z M1 e1 R1 a1 h1 => h1 n σ G1 H1 R1 _ (fun lo G2 H2 M2 e2 R2 h2 => h2 n σ G2 H2 R2 _ (fun hi G3 H3 M3 e3 R3 ⟨x, y, hz, hy, q⟩ => by
    subst hz
    have a3 : Dz K G3 v x := dp_mono (e2.trans e3) a1
    have e13 := (e1.trans e2).trans e3
    cases x with
    | tuple ds =>
      obtain ⟨p, vs, rfl, h1, h2⟩ := dp_tup a3
      cases hy
      refine .inr (.inl ⟨p, vs, rfl, Evl.ex_t R3.ex h1, fun c => ?_, fun _ r hr => ?_⟩)
      · rw [dpa_len h2] at c
        rw [cut_whole c] at q
        exact k (.ref p) G3 H3 (.d (.tuple ds)) M3 e13 R3 a3 q
      · have g := ex_gnone R3.ex hr
        exact k (.ref r) _ _ (.d (.tuple (cutD ds lo hi))) M3 (e13.trans (Ex.new g)) (R3.new hr (fun _ z => nomatch z)) (Dz.tup (.inl upd_same) (dpAll_mono (Ex.new g) (dpa_cut lo hi h2))) q
    | list ds =>
      obtain ⟨p, vs, rfl, h1, h2⟩ := dp_lst a3
      cases hy
      refine .inl ⟨p, vs, rfl, Evl.ex_l R3.ex h1, fun r hr => ?_⟩
      have g := ex_gnone R3.ex hr
      exact k (.ref r) _ _ (.d (.list (cutD ds lo hi))) M3 (e13.trans (Ex.new g)) (R3.new hr (fun _ z => nomatch z)) (Dz.lst (Evl.sq_of upd_same) (dpAll_mono (Ex.new g) (dpa_cut lo hi h2))) q
    | str z =>
      have ev := dp_str a3
      subst ev
      simp only [dSl] at hy
      split at hy
      · rename_i hl
        cases hy
        exact .inr (.inr ⟨z, rfl, hl, k _ G3 H3 (.d (.str (Txt.slice z lo hi))) M3 e13 R3 (Dz.str _) q⟩)
      · cases hy
    | none => cases hy
    | bool _ => cases hy
    | int _ => cases hy
    | dict _ => cases hy) (kx.mono (e1.trans e2))) (kx.mono e1)) kx

/-! ### methods of built-in things -/
/-- o.append(e), o an own list -/
theorem zw_append {to : TE} (h : ZW K E to S M (fun z M0 => ∃ p, z = .c p ∧ (∃ b xs, (p, b, CD.lst xs) ∈ M0) ∧ ZW K E te S M0 (fun y M1 => ∃ d b xs M2, y = .d d ∧ Upd1 p b (.lst xs) (.lst (xs ++ [d])) M1 M2 ∧ xs.length < sizeLine ∧ Q (.d .none) M2) X) X) :
    ZW K E (tBM K "list" rAppend to (tCons te tNil)) S M Q X := fun n σ G H R Qv k kx =>
  h n σ G H R _ (fun v G0 H0 z M0 e0 R0 a0 ⟨p, hz, ⟨b0, xs0, hm0⟩, h2⟩ => by
    subst hz
    have ev : v = .ref p := a0
    subst ev
    obtain ⟨_, ws0, h3, _⟩ := R0.ce p b0 _ hm0
    refine ⟨.inl ⟨rfl, ws0, Evl.sq_of h3⟩, h2 n σ G0 H0 R0 _ (fun u G1 H1 y M1 e1 R1 a1 ⟨d, b, xs, M2, hy, hu, hl, q⟩ => ?_) (kx.mono e0)⟩
    subst hy
    obtain ⟨_, ws, h4, h5⟩ := R1.ce p b _ hu.mem
    exact ⟨p, ws, u, rfl, rfl, h4, by rw [dpa_len h5]; exact hl, k .non G1 _ (.d .none) M2 (e0.trans e1) (R1.putLst hu (dpa_app h5 (dpa_one a1))) Dz.non q⟩) kx
/-- a text's method with one argument; without -/
def ZM (K : Fg) (r : V → List V → Hp → VK → Prop) (x : ZV) (zs : List ZV) (M : Ms) (Q : QZ) : Prop := ∀ (n : Sn) (S : Zs) (σ : L2.St) (G H : Hp), Rel K n S M σ G H → ∀ v vs, ZV.at K G v x → ZAll K G vs zs → ∀ Qv : VK,
  (∀ w G' H' z M', Ex G G' → Rel K n S M' σ G' H' → ZV.at K G' w z → Q z M' → Qv w H') → r v vs H Qv
theorem zw_m1 {r : V → List V → Hp → VK → Prop} {to : TE} (h : ZW K E to S M (fun x M0 => ∃ a, x = .d (.str a) ∧ ZW K E te S M0 (fun y M1 => ZM K r x [y] M1 Q) X) X) : ZW K E (tM1 r to te) S M Q X := fun n σ G H R Qv k kx =>
  h n σ G H R _ (fun v G0 H0 x M0 e0 R0 a0 ⟨a, hx, h2⟩ => by
    subst hx
    refine ⟨⟨a, dp_str a0⟩, h2 n σ G0 H0 R0 _ (fun u G1 H1 y M1 e1 R1 a1 h3 => ?_) (kx.mono e0)⟩
    exact h3 n S σ G1 H1 R1 v [u] (dp_mono e1 a0) (.cons a1 .nil) Qv fun w G' H' z M' e' R' a' q => k w G' H' z M' ((e0.trans e1).trans e') R' a' q) kx
abbrev rSplit1 : V → List V → Hp → VK → Prop := fun x xs H Q => ∃ a b, x = .str a ∧ xs = [.str b] ∧ (b.length == 0) = false ∧ a.length + 2 ≤ sizeLine ∧ rNewStrs (Txt.split a b) H Q
theorem dpa_strs : ∀ {ys : List Str}, DzAll K G (ys.map V.str) (ys.map PyData.str)
  | [] => .nil
  | _ :: _ => .cons (.str _) dpa_strs
theorem dpa_strs_eq : ∀ {ys : List Str} {vs : List V}, DzAll K G vs (ys.map PyData.str) → vs = ys.map V.str
  | [], _, .nil => rfl
  | _ :: _, _, .cons a b => by rw [dp_str a, dpa_strs_eq b]; rfl
theorem zm_split {x b : Str} (hb : (b.length == 0) = false) (hl : x.length + 2 ≤ sizeLine) (q : Q (.d (.list ((Txt.split x b).map .str))) M) : ZM K rSplit1 (.d (.str x)) [.d (.str b)] M Q := fun n S σ G H R v vs a av Qv k => by
  obtain ⟨u, rfl, au⟩ := zall1 av
  refine ⟨x, b, dp_str a, by rw [dp_str au], hb, hl, fun p hp => ?_⟩
  have g := ex_gnone R.ex hp
  exact k (.ref p) _ _ (.d (.list ((Txt.split x b).map .str))) M (Ex.new g) (R.new hp (fun _ z => nomatch z)) (Dz.lst (Evl.sq_of upd_same) dpa_strs) q
abbrev rJoin1 (K : Fg) : V → List V → Hp → VK → Prop := fun x xs H Q => ∃ a p, ∃ ys : List Str, x = .str a ∧ xs = [.ref p] ∧ (SqL K H p (ys.map V.str) ∨ SqT K H p (ys.map V.str)) ∧ (ys.map (·.length)).sum + ys.length * a.length ≤ 16777216 ∧ Q (.str (Txt.join a ys)) H
theorem zm_join {a : Str} {ys : List Str} (hl : (ys.map (·.length)).sum + ys.length * a.length ≤ 16777216) (q : Q (.d (.str (Txt.join a ys))) M) : ZM K (rJoin1 K) (.d (.str a)) [.d (.list (ys.map .str))] M Q := fun n S σ G H R v vs av au Qv k => by
  obtain ⟨u, rfl, au2⟩ := zall1 au
  obtain ⟨p, ws, rfl, h1, h2⟩ := dp_lst au2
  have e := dpa_strs_eq h2
  subst e
  exact ⟨a, p, ys, dp_str av, rfl, .inl (Evl.ex_l R.ex h1), hl, k _ G H (.d (.str (Txt.join a ys))) M (Ex.refl G) R (Dz.str _) q⟩
end
end Z
namespace Z
open PySem PySem.Spec PyProof.Rows L2
open Evl (Ex)
section
variable {K : Fg} {E : L2.St → XK} {e0 : XK} {te ta tb tc : TE} {tA : TA} {tt : TT} {t u : TS} {S S' : Zs} {M M' : Ms} {P : ZP} {Q : QZ} {X : XZ} {n : Sn} {σ σ' : L2.St} {G G' H H' : Hp} {g : TG}
/-! ### targets -/
def ZG (K : Fg) (g : TG) (x : ZV) (S : Zs) (is : List Nat) (S' : Zs) : Prop := ∀ (n : Sn) (M : Ms) (σ : L2.St) (G H : Hp) (v : V), Rel K n S M σ G H → ZV.at K G v x → ∀ Qv : L2.St → Hp → Prop,
  (∀ σ', σ'.length = σ.length → (∀ j : Nat, j ∉ is → σ'[j]? = σ[j]?) → Rel K n S' M σ' G H → Qv σ' H) → g v σ H Qv
def ZGs (K : Fg) (g : TGs) (xs : List PyData) (S : Zs) (is : List Nat) (S' : Zs) : Prop := ∀ (n : Sn) (M : Ms) (σ : L2.St) (G H : Hp) (vs : List V), Rel K n S M σ G H → DzAll K G vs xs → ∀ Qv : L2.St → Hp → Prop,
  (∀ σ', σ'.length = σ.length → (∀ j : Nat, j ∉ is → σ'[j]? = σ[j]?) → Rel K n S' M σ' G H → Qv σ' H) → g vs σ H Qv
theorem zg_name {i : Nat} {z : ZV} : ZG K (gName i) z S [i] (S.set i (some z)) := fun n M σ G H v R a Qv k =>
  k _ (by simp) (fun j hj => by rw [List.getElem?_set_ne (by simpa using fun e => hj (by simp [e]))]) (R.set a)
theorem zgs_nil : ZGs K gNil [] S [] S := fun n M σ G H vs R a Qv k => by
  cases a
  exact ⟨rfl, k σ rfl (fun _ _ => rfl) R⟩
theorem zgs_cons {i : Nat} {us : TGs} {x : PyData} {xs : List PyData} {is : List Nat} (h : ZGs K us xs (S.set i (some (.d x))) is S') : ZGs K (gCons (gName i) us) (x :: xs) S (i :: is) S' := fun n M σ G H vs R a Qv k => by
  cases a with
  | cons a b =>
    refine ⟨_, _, rfl, h n M _ G H _ (R.set (z := .d x) a) b Qv fun σ' hl hj R' => k σ' (by simpa using hl) (fun j q => ?_) R'⟩
    rw [hj j (fun z => q (List.mem_cons_of_mem _ z)), List.getElem?_set_ne (fun z => q (by simp [z]))]
theorem zg_tup {us : TGs} {k : Nat} {xs : List PyData} {is : List Nat} (hk : xs.length = k) (h : ZGs K us xs S is S') : ZG K (gTup K k us) (.d (.tuple xs)) S is S' := fun n M σ G H v R a Qv q => by
  obtain ⟨p, vs, rfl, h1, h2⟩ := dp_tup a
  exact ⟨p, vs, rfl, Evl.ex_t R.ex h1, by rw [dpa_len h2, hk], h n M σ G H vs R h2 Qv q⟩
theorem zs_asgG (h : ZW K E te S M (fun z M1 => ∃ is S2, ZG K g z S is S2 ∧ P.nx S2 M1) P.ex) : ZS K E (tAsg te g) S M P := fun n σ G H R D k =>
  h n σ G H R _ (fun v G1 H1 z M1 e1 R1 a1 ⟨is, S2, hg, q⟩ => hg n M1 σ G1 H1 v R1 a1 _ fun σ' _ _ R2 => k.nx σ' G1 H1 S2 M1 e1 R2 q) k.xok

/-! ### for -/
def LoopP (P : ZP) (I : Zs → Ms → Prop) : ZP := { P with nx := I, ct := I, bk := P.nx }
theorem DOk.loop {D : Ends} {I : Zs → Ms → Prop} {N : L2.St → Hp → Prop} (k : DOk K E n G P D) (h : ∀ σ' G' H' S' M', Ex G G' → Rel K n S' M' σ' G' H' → I S' M' → N σ' H') : DOk K E n G (LoopP P I) { D with nx := N, ct := N, bk := D.nx } :=
  ⟨h, k.rt, k.nx, h, k.ex⟩
/-- the invariant of a loop over what is data of the frozen part -/
def FI (K : Fg) (n : Sn) (G0 : Hp) (I : Nat → Zs → Ms → Prop) (i : Nat) (σ : L2.St) (H : Hp) : Prop := ∃ G S M, Rel K n S M σ G H ∧ Ex G0 G ∧ I i S M
theorem dpa_at_v {vs : List V} {ds : List PyData} (h : DzAll K G vs ds) {i : Nat} {v : V} (e : vs[i]? = some v) : ∃ d, ds[i]? = some d ∧ Dz K G v d := by
  have hi : i < ds.length := by rw [← dpa_len h]; exact (List.getElem?_eq_some_iff.mp e).1
  obtain ⟨w, h1, h2⟩ := dpa_get h (List.getElem?_eq_getElem hi)
  rw [e] at h1
  cases h1
  exact ⟨_, List.getElem?_eq_getElem hi, h2⟩
theorem zs_forT (h : ZW K E te S M (fun z M1 => ∃ xs, z = .d (.tuple xs) ∧ ∃ I : Nat → Zs → Ms → Prop, I 0 S M1 ∧
      (∀ i x S' M', xs[i]? = some x → I i S' M' → ∃ is S2, ZG K g (.d x) S' is S2 ∧ ZS K E t S2 M' (LoopP P (I (i + 1)))) ∧ (∀ S' M', I xs.length S' M' → P.nx S' M')) P.ex) : ZS K E (tFor (iTup K te) g t) S M P := fun n σ G H R D k =>
  h n σ G H R _ (fun v G1 H1 z M1 e1 R1 a1 ⟨xs, hz, I, i0, is, id⟩ => by
    subst hz
    obtain ⟨p, vs, rfl, h1, h2⟩ := dp_tup a1
    refine ⟨p, rfl, ⟨vs, Evl.ex_t R1.ex h1⟩, for_tup (xs := vs) (FI K n G1 I) ⟨G1, S, M1, R1, Ex.refl _, i0⟩ (fun i σ' H' _ ⟨G', S', M', R', e', _⟩ => Evl.ex_t (e'.trans R'.ex) h1) (fun i x σ' H' hx ⟨G', S', M', R', e', hi⟩ => ?_) (fun σ' H' ⟨G', S', M', R', e', hi⟩ => k.nx σ' G' H' S' M' (e1.trans e') R' (id S' M' (by rw [← dpa_len h2]; exact hi)))⟩
    obtain ⟨d, hd, ax⟩ := dpa_at_v h2 hx
    obtain ⟨js, S2, hg, hb⟩ := is i d S' M' hd hi
    exact hg n M' σ' G' H' x R' (dp_mono e' ax) _ fun σ2 _ _ R2 => hb n σ2 G' H' R2 _ ((k.mono (e1.trans e')).loop fun σ3 G3 H3 S3 M3 e3 R3 i3 => ⟨G3, S3, M3, R3, e'.trans e3, i3⟩)) k.xok
theorem zs_forL (h : ZW K E te S M (fun z M1 => ∃ xs, z = .d (.list xs) ∧ ∃ I : Nat → Zs → Ms → Prop, I 0 S M1 ∧
      (∀ i x S' M', xs[i]? = some x → I i S' M' → ∃ is S2, ZG K g (.d x) S' is S2 ∧ ZS K E t S2 M' (LoopP P (I (i + 1)))) ∧ (∀ S' M', I xs.length S' M' → P.nx S' M')) P.ex) : ZS K E (tFor (iList K te) g t) S M P := fun n σ G H R D k =>
  h n σ G H R _ (fun v G1 H1 z M1 e1 R1 a1 ⟨xs, hz, I, i0, is, id⟩ => by
    subst hz
    obtain ⟨p, vs, rfl, h1, h2⟩ := dp_lst a1
    refine ⟨p, rfl, ⟨vs, Evl.ex_l R1.ex h1⟩, for_list (xs := vs) (FI K n G1 I) ⟨G1, S, M1, R1, Ex.refl _, i0⟩ (fun i σ' H' _ ⟨G', S', M', R', e', _⟩ => Evl.ex_l (e'.trans R'.ex) h1) (fun i x σ' H' hx ⟨G', S', M', R', e', hi⟩ => ?_) (fun σ' H' ⟨G', S', M', R', e', hi⟩ => k.nx σ' G' H' S' M' (e1.trans e') R' (id S' M' (by rw [← dpa_len h2]; exact hi)))⟩
    obtain ⟨d, hd, ax⟩ := dpa_at_v h2 hx
    obtain ⟨js, S2, hg, hb⟩ := is i d S' M' hd hi
    exact hg n M' σ' G' H' x R' (dp_mono e' ax) _ fun σ2 _ _ R2 => hb n σ2 G' H' R2 _ ((k.mono (e1.trans e')).loop fun σ3 G3 H3 S3 M3 e3 R3 i3 => ⟨G3, S3, M3, R3, e'.trans e3, i3⟩)) k.xok
theorem zs_forR1 (h : ZA K E tA S M (fun zs M1 => ∃ j : Int, zs = [.d (.int j)] ∧ -(2 ^ 62) ≤ j ∧ j < 2 ^ 62 ∧ ∃ I : Nat → Zs → Ms → Prop, I 0 S M1 ∧
      (∀ i S' M', i < j.toNat → I i S' M' → ∃ is S2, ZG K g (.d (.int (0 + (i : Nat)))) S' is S2 ∧ ZS K E t S2 M' (LoopP P (I (i + 1)))) ∧ (∀ S' M', I j.toNat S' M' → P.nx S' M')) P.ex) : ZS K E (tFor (iRng1 tA) g t) S M P := fun n σ G H R D k =>
  h n σ G H R _ (fun vs G1 H1 zs M1 e1 R1 a1 ⟨j, hz, l1, l2, I, i0, is, id⟩ => by
    subst hz
    obtain ⟨v, rfl, av⟩ := zall1 a1
    have ev := dp_int av
    subst ev
    refine ⟨j, rfl, l1, l2, for_range (n := j.toNat) (FI K n G1 I) ⟨G1, S, M1, R1, Ex.refl _, i0⟩ (fun i σ' H' hx ⟨G', S', M', R', e', hi⟩ => ?_) (fun σ' H' ⟨G', S', M', R', e', hi⟩ => k.nx σ' G' H' S' M' (e1.trans e') R' (id S' M' hi))⟩
    obtain ⟨js, S2, hg, hb⟩ := is i S' M' hx hi
    exact hg n M' σ' G' H' _ R' (Dz.int _) _ fun σ2 _ _ R2 => hb n σ2 G' H' R2 _ ((k.mono (e1.trans e')).loop fun σ3 G3 H3 S3 M3 e3 R3 i3 => ⟨G3, S3, M3, R3, e'.trans e3, i3⟩)) k.xok
theorem zs_forR2 (h : ZA K E tA S M (fun zs M1 => ∃ a j : Int, zs = [.d (.int a), .d (.int j)] ∧ (-(2 ^ 62) ≤ a ∧ a < 2 ^ 62 ∧ -(2 ^ 62) ≤ j ∧ j < 2 ^ 62) ∧ ∃ I : Nat → Zs → Ms → Prop, I 0 S M1 ∧
      (∀ i S' M', i < (j - a).toNat → I i S' M' → ∃ is S2, ZG K g (.d (.int (a + (i : Nat)))) S' is S2 ∧ ZS K E t S2 M' (LoopP P (I (i + 1)))) ∧ (∀ S' M', I (j - a).toNat S' M' → P.nx S' M')) P.ex) : ZS K E (tFor (iRng2 tA) g t) S M P := fun n σ G H R D k =>
  h n σ G H R _ (fun vs G1 H1 zs M1 e1 R1 a1 ⟨a, j, hz, l1, I, i0, is, id⟩ => by
    subst hz
    obtain ⟨v, u, rfl, av, au⟩ := zall2 a1
    have ev := dp_int av
    have eu := dp_int au
    subst ev eu
    refine ⟨a, j, rfl, l1, for_range (n := (j - a).toNat) (FI K n G1 I) ⟨G1, S, M1, R1, Ex.refl _, i0⟩ (fun i σ' H' hx ⟨G', S', M', R', e', hi⟩ => ?_) (fun σ' H' ⟨G', S', M', R', e', hi⟩ => k.nx σ' G' H' S' M' (e1.trans e') R' (id S' M' hi))⟩
    obtain ⟨js, S2, hg, hb⟩ := is i S' M' hx hi
    exact hg n M' σ' G' H' _ R' (Dz.int _) _ fun σ2 _ _ R2 => hb n σ2 G' H' R2 _ ((k.mono (e1.trans e')).loop fun σ3 G3 H3 S3 M3 e3 R3 i3 => ⟨G3, S3, M3, R3, e'.trans e3, i3⟩)) k.xok
/-- while: I by a measure -/
theorem zs_while (I : Nat → Zs → Ms → Prop) (h0 : ∃ m, I m S M)
    (hs : ∀ m S' M', I m S' M' → ZT K E tt S' M' (fun b M1 => (b = true → ZS K E t S' M1 (LoopP P fun S2 M2 => ∃ m', m' < m ∧ I m' S2 M2)) ∧ (b = false → P.nx S' M1)) P.ex) : ZS K E (tWhile tt t) S M P := fun n σ G H R D k => by
  obtain ⟨m0, i0⟩ := h0
  refine ⟨fun m σ' H' => ∃ G' S' M', Rel K n S' M' σ' G' H' ∧ Ex G G' ∧ I m S' M', ⟨m0, G, S, M, R, Ex.refl G, i0⟩, ?_⟩
  rintro m σ' H' ⟨G', S', M', R', e', hi⟩
  refine hs m S' M' hi n σ' G' H' R' _ (fun b G1 H1 M1 e1 R1 q => ?_) (XOk.mono k.xok e')
  cases b with
  | true =>
    show ∃ N : L2.St → Hp → Prop, _ ∧ _
    exact ⟨fun σ2 H2 => ∃ G2 S2 M2, Rel K n S2 M2 σ2 G2 H2 ∧ Ex G G2 ∧ ∃ m', m' < m ∧ I m' S2 M2, fun σ2 H2 ⟨G2, S2, M2, R2, e2, m', hm, i2⟩ => ⟨m', hm, G2, S2, M2, R2, e2, i2⟩,
      q.1 rfl n σ' G1 H1 R1 _ ((k.mono (e'.trans e1)).loop fun σ3 G3 H3 S3 M3 e3 R3 i3 => ⟨G3, S3, M3, R3, (e'.trans e1).trans e3, i3⟩)⟩
  | false =>
    show D.nx σ' H1
    exact k.nx σ' G1 H1 S' M1 (e'.trans e1) R1 (q.2 rfl)

/-! ### comprehensions -/
def wipeZ (S : Zs) : List Nat → Zs
  | [] => S
  | v :: vs => (wipeZ S vs).set v none
theorem Rel.wipe (R : Rel K n S M σ G H) : ∀ vs : List Nat, Rel K n (wipeZ S vs) M (L2.wipe σ vs) G H
  | [] => R
  | v :: vs => (R.wipe vs).unset
theorem wipe_get (σ : L2.St) (j : Nat) : ∀ vs : List Nat, j ∉ vs → (L2.wipe σ vs)[j]? = σ[j]?
  | [], _ => rfl
  | v :: vs, h => by
    show ((L2.wipe σ vs).set v none)[j]? = _
    rw [List.getElem?_set_ne (fun e => h (by simp [e])), wipe_get σ j vs (fun z => h (List.mem_cons_of_mem _ z))]
theorem wipe_in (σ : L2.St) (j : Nat) : ∀ vs : List Nat, j ∈ vs → j < σ.length → (L2.wipe σ vs)[j]? = some none
  | v :: vs, h, hl => by
    show ((L2.wipe σ vs).set v none)[j]? = _
    by_cases e : v = j
    · subst e
      rw [List.getElem?_set]
      simp [L2.wipe_length, hl]
    · rw [List.getElem?_set_ne e]
      rcases List.mem_cons.mp h with z | z
      · exact absurd z.symm e
      · exact wipe_in σ j vs z hl
theorem wipe_eq {σ2 : L2.St} {vs : List Nat} (hl : σ2.length = (L2.wipe σ vs).length) (h : ∀ j : Nat, j ∉ vs → σ2[j]? = (L2.wipe σ vs)[j]?) : L2.wipe σ2 vs = L2.wipe σ vs := by
  refine List.ext_getElem? fun j => ?_
  by_cases hj : j ∈ vs
  · by_cases hb : j < σ.length
    · rw [wipe_in σ j vs hj hb, wipe_in σ2 j vs hj (by rw [hl, L2.wipe_length]; exact hb)]
    · have hb := Nat.le_of_not_lt hb
      have l1 : (L2.wipe σ2 vs).length ≤ j := by rw [L2.wipe_length, hl, L2.wipe_length]; exact hb
      have l2 : (L2.wipe σ vs).length ≤ j := by rw [L2.wipe_length]; exact hb
      rw [List.getElem?_eq_none l1, List.getElem?_eq_none l2]
  · rw [wipe_get σ2 j vs hj, h j hj]
/-- the slots of the entry over the rest of a later state -/
theorem Rel.reslot (R0 : Rel K n S M σ G H) (R : Rel K n S' M' σ' G' H') (e : Ex G G') : Rel K n S M' σ G' H' :=
  ⟨R.ex, R0.len, fun i z q => by obtain ⟨v, h1, h2⟩ := R0.sl i z q; exact ⟨v, h1, ZV.mono e h2⟩, R.nd, R.ce, R.g0, R.h0, R.lv, R.f0, R.a0, R.o0⟩
/-- one turn of a comprehension; I: behind i turns, the list so far, the cells -/
def LcTurn (K : Fg) (E : L2.St → XK) (g : TG) (tt : TT) (te : TE) (S : Zs) (vs : List Nat) (I : Nat → List PyData → Ms → Prop) (i : Nat) (x : PyData) : Prop := ∀ acc M' D, I i acc M' → ∃ is S2, (∀ j ∈ is, j ∈ vs) ∧ ZG K g (.d x) (wipeZ S vs) is S2 ∧
  ZT K E tt S2 ((D, true, .lst acc) :: M') (fun b Mb => (b = false → ∃ M2, Mb = (D, true, .lst acc) :: M2 ∧ I (i + 1) acc M2) ∧
    (b = true → ZW K E te S2 Mb (fun y Mc => ∃ d M2, y = .d d ∧ Mc = (D, true, .lst acc) :: M2 ∧ I (i + 1) (acc ++ [d]) M2) fun _ _ _ => False)) fun _ _ _ => False
def LcI (K : Fg) (n : Sn) (G0 : Hp) (S : Zs) (σ : L2.St) (vs : List Nat) (D : Addr) (I : Nat → List PyData → Ms → Prop) (i : Nat) (H : Hp) : Prop :=
  ∃ G M acc, Rel K n (wipeZ S vs) ((D, true, .lst acc) :: M) (L2.wipe σ vs) G H ∧ Ex G0 G ∧ acc.length ≤ i ∧ I i acc M
theorem lc_turn {vs : List Nat} {I : Nat → List PyData → Ms → Prop} {G0 : Hp} {D : Addr} {i : Nat} {v : V} {x : PyData} (ht : LcTurn K E g tt te S vs I i x) (hi : LcI K n G0 S σ vs D I i H) (hv : Dz K G0 v x) (hz : i < sizeLine) :
    g v (L2.wipe σ vs) H fun σ2 H2 => L2.wipe σ2 vs = L2.wipe σ vs ∧ tt σ2 H2 fun b H3 => if b = true then te σ2 H3 fun y H4 => ∃ acc, H4 D = some (.lst acc) ∧ acc.length < sizeLine ∧ LcI K n G0 S σ vs D I (i + 1) (upd H4 D (.lst (acc ++ [y]))) else LcI K n G0 S σ vs D I (i + 1) H3 := by
  obtain ⟨G, M, acc, R, e, hl, hI⟩ := hi
  obtain ⟨is, S2, hs, hg, hb⟩ := ht acc M D hI
  refine hg n _ _ G H v R (dp_mono e hv) _ fun σ2 l2 g2 R2 => ?_
  have ew : L2.wipe σ2 vs = L2.wipe σ vs := wipe_eq l2 fun j hj => g2 j fun z => hj (hs j z)
  have back : ∀ {G' H' : Hp} {M' : Ms}, Rel K n S2 M' σ2 G' H' → Ex G G' → Rel K n (wipeZ S vs) M' (L2.wipe σ vs) G' H' := fun R' e' => R.reslot R' e'
  refine ⟨ew, hb n σ2 G H R2 _ (fun b G3 H3 Mb e3 R3 q => ?_) ?_⟩
  · cases b with
    | true =>
      show te σ2 H3 _
      refine q.2 rfl n σ2 G3 H3 R3 _ (fun y G4 H4 z Mc e4 R4 a4 ⟨d, M2, hz2, hM, hI2⟩ => ?_) ?_
      · subst hz2 hM
        obtain ⟨_, ws, h1, h2⟩ := R4.ce D true _ m0
        refine ⟨ws, h1, by rw [dpa_len h2]; omega, G4, M2, acc ++ [d], ?_, (e.trans e3).trans e4, by simp; omega, hI2⟩
        exact (back R4 (e3.trans e4)).putLst .here (dpa_app h2 (dpa_one a4))
      · exact fun _ _ _ _ _ _ _ _ _ _ q => q.elim
    | false =>
      show LcI K n G0 S σ vs D I (i + 1) H3
      obtain ⟨M2, hM, hI2⟩ := q.1 rfl
      subst hM
      exact ⟨G3, M2, acc, back R3 e3, e.trans e3, by omega, hI2⟩
  · exact fun _ _ _ _ _ _ _ _ _ _ q => q.elim
/-- behind the last turn: the list is data -/
theorem lc_done {vs : List Nat} {I : Nat → List PyData → Ms → Prop} {G0 H0 : Hp} {D : Addr} {i : Nat} {Qv : VK} (R0 : Rel K n S M σ G0 H0) (hi : LcI K n G0 S σ vs D I i H) (hd : ∀ acc M', I i acc M' → Q (.d (.list acc)) M')
    (k : ∀ v G' H' z M', Ex G0 G' → Rel K n S M' σ G' H' → ZV.at K G' v z → Q z M' → Qv v H') : Qv (.ref D) H := by
  obtain ⟨G, M', acc, R, e, hl, hI⟩ := hi
  obtain ⟨G2, e2, R2, d2⟩ := R.frz .here
  exact k (.ref D) G2 H (.d (.list acc)) M' (e.trans e2) (R0.reslot R2 (e.trans e2)) d2 (hd acc M' hI)
/-- .. as an own list -/
theorem lc_doneC {vs : List Nat} {I : Nat → List PyData → Ms → Prop} {G0 H0 : Hp} {D : Addr} {i : Nat} {Qv : VK} (R0 : Rel K n S M σ G0 H0) (hi : LcI K n G0 S σ vs D I i H) (hd : ∀ acc M', I i acc M' → Q (.c D) ((D, true, .lst acc) :: M'))
    (k : ∀ v G' H' z M', Ex G0 G' → Rel K n S M' σ G' H' → ZV.at K G' v z → Q z M' → Qv v H') : Qv (.ref D) H := by
  obtain ⟨G, M', acc, R, e, hl, hI⟩ := hi
  exact k (.ref D) G H (.c D) _ e (R0.reslot R e) rfl (hd acc M' hI)
theorem lc_start {vs : List Nat} {I : Nat → List PyData → Ms → Prop} {D : Addr} (R : Rel K n S M σ G H) (hD : H D = none) (h0 : I 0 [] M) : LcI K n G S σ vs D I 0 (upd H D (.lst [])) :=
  ⟨G, M, [], (R.newLst hD .nil).wipe vs, Ex.refl G, Nat.le_refl _, h0⟩
theorem zw_lcT {vs : List Nat} (h : ZW K E ta S M (fun z M1 => ∃ xs, z = .d (.tuple xs) ∧ xs.length ≤ sizeLine ∧ ∃ I : Nat → List PyData → Ms → Prop, I 0 [] M1 ∧ (∀ i x, xs[i]? = some x → LcTurn K E g tt te S vs I i x) ∧ (∀ acc M', I xs.length acc M' → Q (.d (.list acc)) M')) X) :
    ZW K E (tLc (iTup K ta) g tt te vs) S M Q X := fun n σ G H R Qv k kx =>
  h n σ G H R _ (fun v G1 H1 z M1 e1 R1 a1 ⟨xs, hz, hl, I, i0, is, id⟩ => by
    subst hz
    obtain ⟨p, ws, rfl, h1, h2⟩ := dp_tup a1
    refine ⟨p, rfl, ⟨ws, Evl.ex_t R1.ex h1⟩, fun D hD => lc_tup (xs := ws) (LcI K n G1 S σ vs D I) (lc_start R1 hD i0) (fun i H' _ ⟨G', _, _, R', e', _⟩ => Evl.ex_t (e'.trans R'.ex) h1) (fun i x H' hx hi => ?_) (fun H' hi => lc_done R1 hi (fun acc M' q => id acc M' (by rw [← dpa_len h2]; exact q)) fun v G' H' z M' e' => k v G' H' z M' (e1.trans e'))⟩
    obtain ⟨d, hd, ax⟩ := dpa_at_v h2 hx
    have hi2 : i < xs.length := (List.getElem?_eq_some_iff.mp hd).1
    exact lc_turn (is i d hd) hi ax (Nat.lt_of_lt_of_le hi2 hl)) kx
theorem zw_lcL {vs : List Nat} (h : ZW K E ta S M (fun z M1 => ∃ xs, z = .d (.list xs) ∧ xs.length ≤ sizeLine ∧ ∃ I : Nat → List PyData → Ms → Prop, I 0 [] M1 ∧ (∀ i x, xs[i]? = some x → LcTurn K E g tt te S vs I i x) ∧ (∀ acc M', I xs.length acc M' → Q (.d (.list acc)) M')) X) :
    ZW K E (tLc (iList K ta) g tt te vs) S M Q X := fun n σ G H R Qv k kx =>
  h n σ G H R _ (fun v G1 H1 z M1 e1 R1 a1 ⟨xs, hz, hl, I, i0, is, id⟩ => by
    subst hz
    obtain ⟨p, ws, rfl, h1, h2⟩ := dp_lst a1
    refine ⟨p, rfl, ⟨ws, Evl.ex_l R1.ex h1⟩, fun D hD => lc_list (xs := ws) (LcI K n G1 S σ vs D I) (lc_start R1 hD i0) (fun i H' _ ⟨G', _, _, R', e', _⟩ => Evl.ex_l (e'.trans R'.ex) h1) (fun i x H' hx hi => ?_) (fun H' hi => lc_done R1 hi (fun acc M' q => id acc M' (by rw [← dpa_len h2]; exact q)) fun v G' H' z M' e' => k v G' H' z M' (e1.trans e'))⟩
    obtain ⟨d, hd, ax⟩ := dpa_at_v h2 hx
    have hi2 : i < xs.length := (List.getElem?_eq_some_iff.mp hd).1
    exact lc_turn (is i d hd) hi ax (Nat.lt_of_lt_of_le hi2 hl)) kx
theorem zw_lcR1 {vs : List Nat} (h : ZA K E tA S M (fun zs M1 => ∃ j : Int, zs = [.d (.int j)] ∧ 0 ≤ j ∧ j.toNat ≤ sizeLine ∧ ∃ I : Nat → List PyData → Ms → Prop, I 0 [] M1 ∧ (∀ i, i < j.toNat → LcTurn K E g tt te S vs I i (.int (0 + (i : Nat)))) ∧ (∀ acc M', I j.toNat acc M' → Q (.d (.list acc)) M')) X) :
    ZW K E (tLc (iRng1 tA) g tt te vs) S M Q X := fun n σ G H R Qv k kx =>
  h n σ G H R _ (fun us G1 H1 zs M1 e1 R1 a1 ⟨j, hz, l0, l1, I, i0, is, id⟩ => by
    subst hz
    obtain ⟨v, rfl, av⟩ := zall1 a1
    have ev := dp_int av
    subst ev
    have hs : (sizeLine : Nat) < 2 ^ 62 := by rw [sizeLine_eq]; decide
    exact ⟨j, rfl, by omega, by omega, fun D hD => lc_range (n := j.toNat) (LcI K n G1 S σ vs D I) (lc_start R1 hD i0) (fun i H' hx hi => lc_turn (is i hx) hi (Dz.int _) (Nat.lt_of_lt_of_le hx l1)) (fun H' hi => lc_done R1 hi id fun v G' H' z M' e' => k v G' H' z M' (e1.trans e'))⟩) kx
theorem zw_lcR2 {vs : List Nat} (h : ZA K E tA S M (fun zs M1 => ∃ a j : Int, zs = [.d (.int a), .d (.int j)] ∧ (-(2 ^ 62) ≤ a ∧ a < 2 ^ 62 ∧ -(2 ^ 62) ≤ j ∧ j < 2 ^ 62) ∧ (j - a).toNat ≤ sizeLine ∧ ∃ I : Nat → List PyData → Ms → Prop, I 0 [] M1 ∧ (∀ i, i < (j - a).toNat → LcTurn K E g tt te S vs I i (.int (a + (i : Nat)))) ∧ (∀ acc M', I (j - a).toNat acc M' → Q (.d (.list acc)) M')) X) :
    ZW K E (tLc (iRng2 tA) g tt te vs) S M Q X := fun n σ G H R Qv k kx =>
  h n σ G H R _ (fun us G1 H1 zs M1 e1 R1 a1 ⟨a, j, hz, l0, l1, I, i0, is, id⟩ => by
    subst hz
    obtain ⟨v, u, rfl, av, au⟩ := zall2 a1
    have ev := dp_int av
    have eu := dp_int au
    subst ev eu
    exact ⟨a, j, rfl, l0, fun D hD => lc_range (n := (j - a).toNat) (LcI K n G1 S σ vs D I) (lc_start R1 hD i0) (fun i H' hx hi => lc_turn (is i hx) hi (Dz.int _) (Nat.lt_of_lt_of_le hx l1)) (fun H' hi => lc_done R1 hi id fun v G' H' z M' e' => k v G' H' z M' (e1.trans e'))⟩) kx
theorem zt_yes {Q : Bool → Ms → Prop} (q : Q true M) : ZT K E tYes S M Q X := fun n σ G H R Qv k _ => k true G H M (Ex.refl G) R q

/-! ### objects of the program's own classes -/
theorem zw_fld {C : Addr} {f : Str} (cl : Cls K C) (na : NoAttr K C f) (h : ZW K E te S M (fun z M1 => ∃ p b fs y, z = .c p ∧ (p, b, CD.obj C fs) ∈ M1 ∧ fs.lookup f = some y ∧ Q y M1) X) : ZW K E (tFld K te f) S M Q X := fun n σ G H R Qv k kx =>
  h n σ G H R _ (fun v G1 H1 z M1 e1 R1 a1 ⟨p, b, fs, y, hz, hm, hl, q⟩ => by
    subst hz
    have ev : v = .ref p := a1
    subst ev
    obtain ⟨_, dx, fv, h1, h2, h3, h4⟩ := R1.ce p b _ hm
    obtain ⟨w, l1, l2⟩ := (lookup_paired h4 f).2 y hl
    exact ⟨p, C, dx, fv, w, rfl, h1, cl, na, l1, k w G1 H1 y M1 e1 R1 l2 q⟩) kx
def putZ (f : Str) (z : ZV) : List (Str × ZV) → List (Str × ZV)
  | [] => [(f, z)]
  | (g, y) :: r => if g = f then (g, z) :: r else (g, y) :: putZ f z r
theorem putF_paired {f : Str} {v : V} {z : ZV} (a : ZV.at K G v z) : ∀ {fv : List (Str × V)} {fs : List (Str × ZV)}, Paired (fun (a : Str × V) (b : Str × ZV) => a.1 = b.1 ∧ ZV.at K G a.2 b.2) fv fs → Paired (fun (a : Str × V) (b : Str × ZV) => a.1 = b.1 ∧ ZV.at K G a.2 b.2) (putF f v fv) (putZ f z fs)
  | [], [], .nil => .cons ⟨rfl, a⟩ .nil
  | (g, x) :: fv, (g2, y) :: fs, .cons q t => by
    obtain ⟨q1, q2⟩ := q
    dsimp only at q1 q2
    subst q1
    unfold putF putZ
    by_cases e : g = f
    · rw [if_pos e, if_pos e]; exact .cons ⟨rfl, a⟩ t
    · rw [if_neg e, if_neg e]; exact .cons ⟨rfl, q2⟩ (putF_paired a t)
theorem paired_len {α β : Type} {F : α → β → Prop} : ∀ {l : List α} {m : List β}, Paired F l m → l.length = m.length
  | _, _, .nil => rfl
  | _, _, .cons _ t => by simp [paired_len t]
theorem Rel.putObj {p C : Addr} {b : Bool} {fs : List (Str × ZV)} {f : Str} {v : V} {z : ZV} {dx : Addr} {fv : List (Str × V)} (R : Rel K n S M σ G H) (u : Upd1 p b (.obj C fs) (.obj C (putZ f z fs)) M M') (h1 : H p = some (.ins C dx fv)) (h2 : H dx = some (.own p)) (h3 : G dx = none) (h4 : Paired (fun (a : Str × V) (b : Str × ZV) => a.1 = b.1 ∧ ZV.at K G a.2 b.2) fv fs) (a : ZV.at K G v z) :
    Rel K n S M' σ G (upd H p (.ins C dx (putF f v fv))) := by
  refine R.put u (fun x q => by rw [h1] at q; cases q) ⟨dx, putF f v fv, upd_same, ?_, h3, putF_paired a h4⟩
  rw [upd_ne (fun e => by rw [e, h1] at h2; cases h2)]
  exact h2
theorem zs_fld {C : Addr} {f : Str} {to tv : TE} (cl : Cls K C) (na : NoAttr K C f) (h : ZW K E tv S M (fun y M1 => ZW K E to S M1 (fun z M2 => ∃ p b fs M3, z = .c p ∧ fs.length < 1000 ∧ Upd1 p b (.obj C fs) (.obj C (putZ f y fs)) M2 M3 ∧ P.nx S M3) P.ex) P.ex) : ZS K E (sFld K to tv f) S M P := fun n σ G H R D k =>
  h n σ G H R _ (fun v G1 H1 y M1 e1 R1 a1 h2 => h2 n σ G1 H1 R1 _ (fun w G2 H2 z M2 e2 R2 a2 ⟨p, b, fs, M3, hz, hl, hu, q⟩ => by
    subst hz
    have ev : w = .ref p := a2
    subst ev
    obtain ⟨_, dx, fv, h1, h3, h4, h5⟩ := R2.ce p b _ hu.mem
    exact ⟨p, C, dx, fv, rfl, h1, cl, na, by rw [paired_len h5]; exact hl, k.nx σ G2 _ S M3 (e1.trans e2) (R2.putObj hu h1 h3 h4 h5 (ZV.mono e2 a1)) q⟩) (XOk.mono k.xok e1)) k.xok
/-- o.f += an int -/
theorem zs_fldaug {C : Addr} {f : Str} {to tv : TE} (cl : Cls K C) (na : NoAttr K C f) (h : ZW K E to S M (fun z M1 => ∃ p a, z = .c p ∧ (∃ b0 fs0, (p, b0, CD.obj C fs0) ∈ M1 ∧ fs0.lookup f = some (.d (.int a))) ∧ ZW K E tv S M1 (fun y M2 => ∃ j b fs M3, y = .d (.int j) ∧ fs.length < 1000 ∧ Upd1 p b (.obj C fs) (.obj C (putZ f (.d (.int (a + j))) fs)) M2 M3 ∧ P.nx S M3) P.ex) P.ex) :
    ZS K E (sFldAug K to tv rAdd f) S M P := fun n σ G H R D k =>
  h n σ G H R _ (fun w G1 H1 z M1 e1 R1 a1 ⟨p, a, hz, ⟨b0, fs0, hm0, hl0⟩, h2⟩ => by
    subst hz
    have ev : w = .ref p := a1
    subst ev
    obtain ⟨_, dx, fv, h1, h3, h4, h5⟩ := R1.ce p b0 _ hm0
    obtain ⟨x, l1, l2⟩ := (lookup_paired h5 f).2 _ hl0
    refine ⟨p, C, dx, fv, x, rfl, h1, cl, na, l1, h2 n σ G1 H1 R1 _ (fun y G2 H2 zy M2 e2 R2 a2 ⟨j, b, fs, M3, hy, hl, hu, q⟩ => ?_) (XOk.mono k.xok e1)⟩
    subst hy
    obtain ⟨_, dx', fv', h1', h3', h4', h5'⟩ := R2.ce p b _ hu.mem
    exact ⟨a, j, dp_int l2, dp_int a2, dx', fv', h1', by rw [paired_len h5']; exact hl, k.nx σ G2 _ S M3 (e1.trans e2) (R2.putObj hu h1' h3' h4' h5' (v := .int (a + j)) (Dz.int _)) q⟩) k.xok
/-- C(..): a new own object -/
theorem zw_make {ar : Nat} {C : Addr} {R : List (Str × ZV) → List PyData → DOut → List (Str × ZV) → Prop} (h : ZA K (fun _ => e0) tA S M (fun zs M1 => ∃ ds o fs', AllD zs ds ∧ ds.length = ar ∧ R [] ds o fs' ∧ (∀ d, o = .ok d → d = .none ∧ ∀ p, Q (.c p) ((p, true, .obj C fs') :: M1)) ∧ (∀ x, o = .ex x → ∀ p, X x S ((p, true, .obj C fs') :: M1))) X) : ZW K (fun _ => e0) (tMake C (spO K C ar R) [] e0 tA) S M Q X := fun n σ G H Rl Qv k kx =>
  h n σ G H Rl _ (fun vs G1 H1 zs M1 e1 R1 a1 ⟨ds, o, fs', hd, hk, hR, q1, q2⟩ x dx hx hdx hne => by
    have R2 := R1.lay (p := dx) (o := .own x) hdx
    have hx2 : (upd H1 dx (.own x)) x = none := by rw [upd_ne (Ne.symm hne)]; exact hx
    have R3 := R2.lay (p := x) (o := .ins C dx []) hx2
    have gdx := ex_gnone R1.ex hdx
    have hown : (upd (upd H1 dx (.own x)) x (.ins C dx [])) dx = some (.own x) := by rw [upd_ne hne, upd_same]
    have hc : CD.at K G1 (upd (upd H1 dx (.own x)) x (.ins C dx [])) x (.obj C []) := ⟨dx, [], upd_same, hown, gdx, .nil⟩
    have R4 := R3.cell (R1.fresh hx) (R1.notin hx) (ex_gnone R1.ex hx) hc
    refine ⟨G1, x, [], vs, ds, o, fs', by rw [List.append_nil], hk, R4.ex, ex_gnone R1.ex hx, hc, zall_d (by rw [← hd]; exact a1), hR, fun d ho v G' H' e own hc' a => ?_, fun y ho cls dd G' H' e own hc' a => ?_⟩
    · obtain ⟨hd2, q⟩ := q1 d ho
      subst hd2
      exact ⟨dp_non a, k (.ref x) G' H' (.c x) _ (e1.trans e.g) (R4.call1 e .here own hc') rfl (q x)⟩
    · exact kx cls dd G' H' y S _ (e1.trans e.g) (R4.call1 e .here own hc') a (q2 y ho x)) kx

/-! ### texts with fields -/
def ZJ (K : Fg) (E : L2.St → XK) (ts : List TE) (acc : Str) (S : Zs) (M : Ms) (Q : Str → Ms → Prop) (X : XZ) : Prop := ∀ (n : Sn) (σ : L2.St) (G H : Hp), Rel K n S M σ G H → ∀ Qv : Str → Hp → Prop,
  (∀ o G' H' M', Ex G G' → Rel K n S M' σ G' H' → Q o M' → Qv o H') → XOk K (E σ) n σ G X → tJs ts acc σ H Qv
theorem zj_nil {acc : Str} {Q : Str → Ms → Prop} (q : Q acc M) : ZJ K E [] acc S M Q X := fun n σ G H R Qv k _ => k acc G H M (Ex.refl G) R q
theorem zj_cons {acc : Str} {ts : List TE} {Q : Str → Ms → Prop} (h : ZW K E te S M (fun z M1 => ∃ y, z = .d (.str y) ∧ (acc ++ y).length ≤ sizeLine ∧ ZJ K E ts (acc ++ y) S M1 Q X) X) : ZJ K E (te :: ts) acc S M Q X := fun n σ G H R Qv k kx =>
  h n σ G H R _ (fun v G1 H1 z M1 e1 R1 a1 ⟨y, hz, hl, q⟩ => by
    subst hz
    exact ⟨y, dp_str a1, hl, q n σ G1 H1 R1 Qv (fun o G2 H2 M2 e2 R2 q2 => k o G2 H2 M2 (e1.trans e2) R2 q2) (kx.mono e1)⟩) kx
theorem zw_js {ts : List TE} (h : ZJ K E ts Str.empty S M (fun o M1 => Q (.d (.str o)) M1) X) : ZW K E (fun σ H Q => tJs ts Str.empty σ H fun out H1 => Q (.str out) H1) S M Q X := fun n σ G H R Qv k kx =>
  h n σ G H R _ (fun o G1 H1 M1 e1 R1 q => k (.str o) G1 H1 (.d (.str o)) M1 e1 R1 (Dz.str _) q) kx
theorem zw_fmtS (h : ZW K E te S M (fun z M1 => ∃ y, z = .d (.str y) ∧ y.length ≤ sizeLine ∧ Q (.d (.str y)) M1) X) : ZW K E (tFmt te) S M Q X := fun n σ G H R Qv k kx =>
  h n σ G H R _ (fun v G1 H1 z M1 e1 R1 a1 ⟨y, hz, hl, q⟩ => by subst hz; exact .inl ⟨y, dp_str a1, hl, k (.str y) G1 H1 (.d (.str y)) M1 e1 R1 (Dz.str _) q⟩) kx
theorem zw_fmtI (h : ZW K E te S M (fun z M1 => ∃ i, z = .d (.int i) ∧ i.natAbs.log2 < 1920 ∧ Q (.d (.str (toString i))) M1) X) : ZW K E (tFmt te) S M Q X := fun n σ G H R Qv k kx =>
  h n σ G H R _ (fun v G1 H1 z M1 e1 R1 a1 ⟨i, hz, hl, q⟩ => by subst hz; exact .inr ⟨i, dp_int a1, hl, k (.str (toString i)) G1 H1 (.d (.str (toString i))) M1 e1 R1 (Dz.str _) q⟩) kx
/-- a < b <= c -/
theorem zw_chain {r r' : R2} (h : ZW K E ta S M (fun x M1 => ZW K E tb S M1 (fun y M2 => ZO K r x y M2 (fun z M3 => ∃ b, z = .d (.bool b) ∧ (b = false → Q (.d (.bool false)) M3) ∧ (b = true → ZW K E tc S M3 (fun w M4 => ZO K r' y w M4 Q) X))) X) X) : ZW K E (tChain r r' ta tb tc) S M Q X := fun n σ G H R Qv k kx =>
  h n σ G H R _ (fun v G1 H1 x M1 e1 R1 a1 h1 => h1 n σ G1 H1 R1 _ (fun u G2 H2 y M2 e2 R2 a2 h2 => h2 n S σ G2 H2 R2 v u (ZV.mono e2 a1) a2 _ (fun w G3 H3 z M3 e3 R3 a3 ⟨b, hz, q⟩ => by
    subst hz
    refine ⟨b, dp_bl a3, ?_⟩
    cases b with
    | true =>
      show tc σ H3 _
      exact q.2 rfl n σ G3 H3 R3 _ (fun w' G4 H4 z4 M4 e4 R4 a4 h4 => h4 n S σ G4 H4 R4 u w' (ZV.mono (e3.trans e4) a2) a4 Qv fun w5 G5 H5 z5 M5 e5 R5 a5 q5 => k w5 G5 H5 z5 M5 ((((e1.trans e2).trans e3).trans e4).trans e5) R5 a5 q5) (kx.mono ((e1.trans e2).trans e3))
    | false =>
      show Qv (.bl false) H3
      exact k (.bl false) G3 H3 (.d (.bool false)) M3 ((e1.trans e2).trans e3) R3 (Dz.bl false) (q.1 rfl))) (kx.mono e1)) kx
end
end Z
namespace Z
open PySem PySem.Spec PyProof.Rows L2
open Evl (Ex)
section
variable {X : Cx} {j k : Nat} {x : Str} {sp : Sp} {E : XK} {e o : Expr} {es : List Expr} {t : TA} {ta : TE} {p pos apos : Pos}
/-- a def of the module: what it promises, at level k -/
def Cal (P : Program) (w : World) (K : Fg) (mg : Str → Option Value) (base : Heap) (k : Nat) (x : Str) (sp : Sp) : Prop :=
  ∃ f fd ps, FnOk P w K mg base (L2.CX P w) k f fd ps sp ∧ mg x = some (.ref f) ∧ PySem.W.keepIn K (.ref f) = true ∧ Binds K fd ps []
theorem pe_cl (c : Cal X.prog X.w X.K X.mg X.base k x sp) (hr : Room j X.A) (hk : k ≤ j) (hx : Passes (L2.CX X.prog X.w) X E) (ha : PA X (e :: es) t) (hg : Gl X x := by rfl) (hdb : (x == ("__debug__" : Str)) = false := by decide)
    (he : starEach (e :: es) X.env = (false, eval e X.env) :: starEach es X.env := by rfl) (hpl : (backTo pos (starEach es X.env)).any (·.1) = false := by rfl) : PE X (.Call (.Name x p) (e :: es) [] pos) (tCall sp [] E t) := by
  obtain ⟨f, fd, ps, F, hm, hkp, hb⟩ := c
  exact pe_call F (hr.mono hk) hg hm hkp hb .nil hx ha hdb he hpl
theorem pe_clS {W : WX} (c : Cal X.prog X.w X.K X.mg X.base k x sp) (hr : Room j X.A) (hk : k ≤ j) (tk : Takes X W) (ha : PA X (e :: es) t) (hg : Gl X x := by rfl) (hdb : (x == ("__debug__" : Str)) = false := by decide)
    (he : starEach (e :: es) X.env = (false, eval e X.env) :: starEach es X.env := by rfl) (hpl : (backTo pos (starEach es X.env)).any (·.1) = false := by rfl) : PE X (.Call (.Name x p) (e :: es) [] pos) (tCallS sp (WE W) t) := by
  obtain ⟨f, fd, ps, F, hm, hkp, hb⟩ := c
  exact pe_callS F (hr.mono hk) hg hm hkp hb (fun σ => passAt tk σ) ha hdb he hpl
/-- a method of an own class -/
def Mtd (P : Program) (w : World) (K : Fg) (mg : Str → Option Value) (base : Heap) (k : Nat) (C : Addr) (m : Str) (sp : Sp) : Prop :=
  ∃ f fd ps, FnOk P w K mg base (L2.CX P w) k f fd ps sp ∧ Meth K C m f ∧ Binds K fd ps []
def Mkr (P : Program) (w : World) (K : Fg) (mg : Str → Option Value) (base : Heap) (k : Nat) (x : Str) (C : Addr) (sp : Sp) : Prop :=
  ∃ f fd ps, FnOk P w K mg base (L2.CX P w) k f fd ps sp ∧ Mk K C f ∧ mg x = some (.ref C) ∧ Binds K fd ps []
theorem pe_mkr {C : Addr} (c : Mkr X.prog X.w X.K X.mg X.base k x C sp) (hr : Room (j + 1) X.A) (hk : k ≤ j) (hx : Passes (L2.CX X.prog X.w) X E) (ha : PA X (e :: es) t) (hg : Gl X x := by rfl)
    (he : starEach (e :: es) X.env = (false, eval e X.env) :: starEach es X.env := by rfl) (hpl : (backTo pos (starEach es X.env)).any (·.1) = false := by rfl) (hdb : (x == ("__debug__" : Str)) = false := by decide) : PE X (.Call (.Name x p) (e :: es) [] pos) (tMake C sp [] E t) := by
  obtain ⟨f, fd, ps, F, M, hm, hb⟩ := c
  exact pe_make M F (hr.mono (by omega)) hg hm hb .nil hx ha hdb he hpl
end
/-! ### an operator on several kinds -/
section
variable {K : Fg} {r r' : R2} {x y : ZV} {M : Ms} {Q : QZ}
theorem zo_l (h : ZO K r x y M Q) : ZO K (fun x y H Q => r x y H Q ∨ r' x y H Q) x y M Q := fun n S σ G H R v u a b Qv k => .inl (h n S σ G H R v u a b Qv k)
theorem zo_r (h : ZO K r' x y M Q) : ZO K (fun x y H Q => r x y H Q ∨ r' x y H Q) x y M Q := fun n S σ G H R v u a b Qv k => .inr (h n S σ G H R v u a b Qv k)
end
abbrev rAddA (K : Fg) : R2 := fun x y H Q => rI0 (fun i j => .int (i + j)) x y H Q ∨ (rAddS1 x y H Q ∨ (rCatA K x y H Q ∨ rCat x y H Q))
theorem op_addA {X : Cx} : OpR X (binaryOp .Add) (rAddA X.K) := op_add.or (op_add_str.or (op_catA.or op_cat))
section
variable {K : Fg} {M : Ms} {Q : QZ}
theorem za_i {i j : Int} (q : Q (.d (.int (i + j))) M) : ZO K (rAddA K) (.d (.int i)) (.d (.int j)) M Q := zo_l (zo_add q)
theorem za_s {i j : Str} (hl : i.length + j.length ≤ sizeLine) (q : Q (.d (.str (i ++ j))) M) : ZO K (rAddA K) (.d (.str i)) (.d (.str j)) M Q := zo_r (zo_l (zo_addS hl q))
theorem za_t {xs ys : List PyData} (hl : xs.length + ys.length ≤ sizeLine) (q : Q (.d (.tuple (xs ++ ys))) M) : ZO K (rAddA K) (.d (.tuple xs)) (.d (.tuple ys)) M Q := zo_r (zo_r (zo_l (zo_catT hl q)))
theorem za_l {p p2 : Addr} {b b2 : Bool} {xs ys : List PyData} (hm : (p, b, CD.lst xs) ∈ M) (hm2 : (p2, b2, CD.lst ys) ∈ M) (hl : xs.length + ys.length ≤ sizeLine) (q : ∀ r, Q (.c r) ((r, true, .lst (xs ++ ys)) :: M)) : ZO K (rAddA K) (.c p) (.c p2) M Q := zo_r (zo_r (zo_r (zo_catL hm hm2 hl q)))
end
section
variable {K : Fg} {M : Ms} {Q : QZ}
theorem zo_fdivW {i j : Int} (hc : CDivW i j) (q : Q (.d (.int (i / j))) M) : ZO K (rI CDivW fun i j => .int (i / j)) (.d (.int i)) (.d (.int j)) M Q := zo_I (gd := fun i j => .int (i / j)) (fun _ => .int _) hc q
theorem zo_mulW {i j : Int} (hc : CMulW i j) (q : Q (.d (.int (i * j))) M) : ZO K (rI CMulW fun i j => .int (i * j)) (.d (.int i)) (.d (.int j)) M Q := zo_I (gd := fun i j => .int (i * j)) (fun _ => .int _) hc q
end
/-! ### built-in names as values -/
theorem bt_tuple : bootBuiltins "tuple" = some (.type "tuple") := by decide +kernel
theorem bt_list : bootBuiltins "list" = some (.type "list") := by decide +kernel
theorem bt_str : bootBuiltins "str" = some (.type "str") := by decide +kernel
theorem bt_int : bootBuiltins "int" = some (.type "int") := by decide +kernel
theorem bt_bool : bootBuiltins "bool" = some (.type "bool") := by decide +kernel
theorem bt_dict : bootBuiltins "dict" = some (.type "dict") := by decide +kernel
theorem bt_set : bootBuiltins "set" = some (.type "set") := by decide +kernel
theorem bb_len : bootBuiltins "len" = some (.builtin "len") := by decide +kernel
theorem bb_isinstance : bootBuiltins "isinstance" = some (.builtin "isinstance") := by decide +kernel
theorem bb_min : bootBuiltins "min" = some (.builtin "min") := by decide +kernel
theorem bb_max : bootBuiltins "max" = some (.builtin "max") := by decide +kernel
theorem bb_sorted : bootBuiltins "sorted" = some (.builtin "sorted") := by decide +kernel
theorem bb_abs : bootBuiltins "abs" = some (.builtin "abs") := by decide +kernel
theorem bb_any : bootBuiltins "any" = some (.builtin "any") := by decide +kernel
theorem bb_all : bootBuiltins "all" = some (.builtin "all") := by decide +kernel
theorem bb_sum : bootBuiltins "sum" = some (.builtin "sum") := by decide +kernel
end Z
namespace Z
open PySem PySem.Spec PyProof.Rows L2
open Evl (Ex)
section
variable {K : Fg} {E : L2.St → XK} {S : Zs} {M : Ms}
theorem zs_raiseO {C : Addr} {P : ZP} (h : P.ex ⟨C, []⟩ S M) : ZS K E (fun _ σ H => E σ (.ref C) none H) S M P := fun n σ G H R D k => k.ex (.ref C) none σ G H ⟨C, []⟩ S M (Ex.refl G) R ⟨rfl, rfl⟩ h
end
/-- what an own error class without own __init__ must have to be raised with a text -/
structure Rsr (K : Fg) (mg : Str → Option Value) (x : Str) (C : Addr) : Prop where
  xi : PySem.W.excIn K C [Value.type "ValueError", Value.type "Exception", Value.type "BaseException", Value.type "object"] "ValueError.__new__" = true
  g : mg x = some (.ref C)
  k : PySem.W.keepIn K (.ref C) = true
  ex : PySem.W.subIn K (.ref C) (.type "BaseException") = some true
  ty : PySem.W.typeIn K (.ref C) = some (.type "type")
section
variable {K : Fg} {E : L2.St → XK} {e0 : XK} {te ta : TE} {tA : TA} {S : Zs} {M : Ms} {Q : QZ} {X : XZ}
/-- f(o, ..), f a def whose first argument is an own object of the class C -/
theorem zw_callO {ar : Nat} {C : Addr} {R : List (Str × ZV) → List PyData → DOut → List (Str × ZV) → Prop} (h : ZA K (fun _ => e0) tA S M (fun zs M1 => ∃ p b fs zs' ds o fs' M2, zs = .c p :: zs' ∧ AllD zs' ds ∧ ds.length = ar ∧ R fs ds o fs' ∧ Upd1 p b (.obj C fs) (.obj C fs') M1 M2 ∧ (∀ d, o = .ok d → Q (.d d) M2) ∧ (∀ x, o = .ex x → X x S M2)) X) :
    ZW K (fun _ => e0) (tCall (spO K C ar R) [] e0 tA) S M Q X := fun n σ G H Rl Qv k kx =>
  h n σ G H Rl _ (fun vs G1 H1 zs M1 e1 R1 a1 ⟨p, b, fs, zs', ds, o, fs', M2, hz, hd, hk, hR, hu, q1, q2⟩ => by
    subst hz
    cases a1 with
    | cons a1 a2 =>
      have ev := a1
      obtain ⟨hp, hc⟩ := R1.ce p b _ hu.mem
      subst ev
      exact ⟨G1, p, fs, _, ds, o, fs', by rw [List.append_nil], hk, R1.ex, hp, hc, zall_d (by rw [← hd]; exact a2), hR, fun d ho v G' H' e own hc' a => k v G' H' (.d d) M2 (e1.trans e.g) (R1.call1 e hu own hc') a (q1 d ho), fun x ho cls dd G' H' e own hc' a => kx cls dd G' H' x S M2 (e1.trans e.g) (R1.call1 e hu own hc') a (q2 x ho)⟩) kx
theorem flat_strs (al : List Str) : ((al.map PyData.str).map vOf).all flatV = true ∧ (al.map PyData.str).all flatD = true := by
  constructor <;> (induction al with
  | nil => rfl
  | cons a l ih => simpa [vOf, flatV, flatD] using ih)
theorem inV_strs (w : Str) (al : List Str) : inV (vOf (.str w)) ((al.map PyData.str).map vOf) = decide (w ∈ al) := by
  induction al with
  | nil => rfl
  | cons a l ih =>
    have e : inV (vOf (.str w)) (((a :: l).map PyData.str).map vOf) = (eqV (.str a) (.str w) || inV (vOf (.str w)) ((l.map PyData.str).map vOf)) := rfl
    rw [e, ih]
    have e2 : eqV (.str a) (.str w) = decide (w = a) := by
      show (a == w) = decide (w = a)
      by_cases h : w = a
      · subst h; simp
      · simp [h, Ne.symm h]
    rw [e2]
    simp
theorem zo_inTS {M : Ms} {Q : QZ} {neg : Bool} {w : Str} {al : List Str} (q : Q (.d (.bool (if neg then !decide (w ∈ al) else decide (w ∈ al)))) M) : ZO K (rIn K neg) (.d (.str w)) (.d (.tuple (al.map .str))) M Q :=
  zo_inT ⟨rfl, rfl⟩ (flat_strs al) (by rw [inV_strs]; exact q)
theorem zo_inLS {M : Ms} {Q : QZ} {neg : Bool} {w : Str} {al : List Str} (q : Q (.d (.bool (if neg then !decide (w ∈ al) else decide (w ∈ al)))) M) : ZO K (rIn K neg) (.d (.str w)) (.d (.list (al.map .str))) M Q :=
  zo_inL ⟨rfl, rfl⟩ (flat_strs al) (by rw [inV_strs]; exact q)
abbrev rEqA (K : Fg) : R2 := fun x y H Q => rEq x y H Q ∨ rEqD K x y H Q
abbrev rNeA (K : Fg) : R2 := fun x y H Q => rNe x y H Q ∨ rNeD K x y H Q
theorem op_eqA {X : Cx} (hu : X.A.units + 64 < cLine) : OpR X (compareOp .Eq) (rEqA X.K) := op_eq.or (op_eqD hu)
theorem op_neA {X : Cx} (hu : X.A.units + 64 < cLine) : OpR X (compareOp .NotEq) (rNeA X.K) := op_ne.or (op_neD hu)
theorem zo_eqV {M : Ms} {Q : QZ} {x y : PyData} (hx : flatD x = true) (hy : flatD y = true) (hs : scal (vOf x) (vOf y) = true) {c : Bool} (hc : c = decide (vOf x = vOf y)) (q : Q (.d (.bool c)) M) : ZO K rEq (.d x) (.d y) M Q :=
  zo_val (z := .d (.bool c)) (fun G H v u e a b => by
    have ev := dp_flat a hx
    have eu := dp_flat b hy
    subst ev eu
    exact ⟨_, .bl _, fun Qv h => ⟨hs, by rw [← hc]; exact h⟩⟩) q
theorem zo_neV {M : Ms} {Q : QZ} {x y : PyData} (hx : flatD x = true) (hy : flatD y = true) (hs : scal (vOf x) (vOf y) = true) {c : Bool} (hc : c = !decide (vOf x = vOf y)) (q : Q (.d (.bool c)) M) : ZO K rNe (.d x) (.d y) M Q :=
  zo_val (z := .d (.bool c)) (fun G H v u e a b => by
    have ev := dp_flat a hx
    have eu := dp_flat b hy
    subst ev eu
    exact ⟨_, .bl _, fun Qv h => ⟨hs, by rw [← hc]; exact h⟩⟩) q
theorem vint_eq (a b : Int) : decide (a = b) = decide (vOf (.int a) = vOf (.int b)) := by
  simp [vOf]
theorem vstr_eq (a b : Str) : decide (a = b) = decide (vOf (.str a) = vOf (.str b)) := by
  simp [vOf]
theorem zo_eqI {M : Ms} {Q : QZ} {a b : Int} (q : Q (.d (.bool (decide (a = b)))) M) : ZO K (rEqA K) (.d (.int a)) (.d (.int b)) M Q := zo_l (zo_eqV rfl rfl rfl (vint_eq a b) q)
theorem zo_eqS {M : Ms} {Q : QZ} {a b : Str} (q : Q (.d (.bool (decide (a = b)))) M) : ZO K (rEqA K) (.d (.str a)) (.d (.str b)) M Q := zo_l (zo_eqV rfl rfl rfl (vstr_eq a b) q)
theorem zo_neI {M : Ms} {Q : QZ} {a b : Int} (q : Q (.d (.bool (!decide (a = b)))) M) : ZO K (rNeA K) (.d (.int a)) (.d (.int b)) M Q := zo_l (zo_neV rfl rfl rfl (by rw [vint_eq]) q)
theorem zo_neS {M : Ms} {Q : QZ} {a b : Str} (q : Q (.d (.bool (!decide (a = b)))) M) : ZO K (rNeA K) (.d (.str a)) (.d (.str b)) M Q := zo_l (zo_neV rfl rfl rfl (by rw [vstr_eq]) q)
theorem zo_eqDD {M : Ms} {Q : QZ} {x y : PyData} (hx : SeqAt.shaped x = true) (hy : SeqAt.shaped y = true) (q : Q (.d (.bool (PyData.eqv x y))) M) : ZO K (rEqA K) (.d x) (.d y) M Q := zo_r (zo_eq hx hy q)
theorem zo_neDD {M : Ms} {Q : QZ} {x y : PyData} (hx : SeqAt.shaped x = true) (hy : SeqAt.shaped y = true) (q : Q (.d (.bool (!PyData.eqv x y))) M) : ZO K (rNeA K) (.d x) (.d y) M Q := zo_r (zo_ne hx hy q)
theorem dLen_str {s : Str} (h : s.length ≤ sizeLine) : dLen (.str s) = some s.length := if_pos h
theorem dLen_strs (ws : List Str) : dLen (.list (ws.map .str)) = some ws.length := by show some _ = _; rw [List.length_map]
theorem atI_str {ws : List Str} {k : Nat} {w : Str} (h : ws[k]? = some w) : atI (ws.map PyData.str) (k : Nat) = some (.str w) := atI_nat (by rw [List.getElem?_map, h]; rfl)
/-- a constant of the module: data that the classes' part holds -/
theorem zw_con {v : V} {d : PyData} (hd : ∀ G, Dz K G v d) (q : Q (.d d) M) : ZW K E (tC v) S M Q X := fun n σ G H R Qv k kx => k v G H (.d d) M (Ex.refl G) R (hd G) q
theorem zw_make0 {ar : Nat} {C : Addr} {R : List (Str × ZV) → List PyData → DOut → List (Str × ZV) → Prop} (h : ZA K E tA S M (fun zs M1 => ∃ ds fs', AllD zs ds ∧ ds.length = ar ∧ R [] ds (.ok .none) fs' ∧ ∀ p, Q (.c p) ((p, true, .obj C fs') :: M1)) X) : ZW K E (tMake C (spO K C ar R) [] E0 tA) S M Q X := fun n σ G H Rl Qv k kx =>
  h n σ G H Rl _ (fun vs G1 H1 zs M1 e1 R1 a1 ⟨ds, fs', hd, hk, hR, q1⟩ x dx hx hdx hne => by
    have R2 := R1.lay (p := dx) (o := .own x) hdx
    have hx2 : (upd H1 dx (.own x)) x = none := by rw [upd_ne (Ne.symm hne)]; exact hx
    have R3 := R2.lay (p := x) (o := .ins C dx []) hx2
    have gdx := ex_gnone R1.ex hdx
    have hown : (upd (upd H1 dx (.own x)) x (.ins C dx [])) dx = some (.own x) := by rw [upd_ne hne, upd_same]
    have hc : CD.at K G1 (upd (upd H1 dx (.own x)) x (.ins C dx [])) x (.obj C []) := ⟨dx, [], upd_same, hown, gdx, .nil⟩
    have R4 := R3.cell (R1.fresh hx) (R1.notin hx) (ex_gnone R1.ex hx) hc
    refine ⟨G1, x, [], vs, ds, .ok .none, fs', by rw [List.append_nil], hk, R4.ex, ex_gnone R1.ex hx, hc, zall_d (by rw [← hd]; exact a1), hR, fun d ho v G' H' e own hc' a => ?_, fun y ho => nomatch ho⟩
    have ho := DOut.ok.inj ho
    subst ho
    exact ⟨dp_non a, k (.ref x) G' H' (.c x) _ (e1.trans e.g) (R4.call1 e .here own hc') rfl (q1 x)⟩) kx
theorem zw_methO0 {ar : Nat} {C : Addr} {m : Str} {R : List (Str × ZV) → List PyData → DOut → List (Str × ZV) → Prop} (h : ZW K E te S M (fun z M0 => ∃ p, z = .c p ∧ (∃ b fs0, (p, b, CD.obj C fs0) ∈ M0 ∧ fs0.lookup m = none) ∧ ZA K E tA S M0 (fun zs M1 => ∃ b fs ds d fs' M2, AllD zs ds ∧ ds.length = ar ∧ R fs ds (.ok d) fs' ∧ Upd1 p b (.obj C fs) (.obj C fs') M1 M2 ∧ Q (.d d) M2) X) X) :
    ZW K E (tMeth C m (spO K C ar R) [] E0 te tA) S M Q X := fun n σ G H Rl Qv k kx =>
  h n σ G H Rl _ (fun v G0 H0 z M0 e0' R0 a0 ⟨p, hz, ⟨b0, fs0, hm0, hl0⟩, h2⟩ => by
    subst hz
    have ev : v = .ref p := a0
    subst ev
    obtain ⟨_, dx, fv, h3, h4, h5, h6⟩ := R0.ce p b0 _ hm0
    refine ⟨p, dx, fv, rfl, h3, (lookup_paired h6 m).1 hl0, h2 n σ G0 H0 R0 _ (fun vs G1 H1 zs M1 e1 R1 a1 ⟨b, fs, ds, d, fs', M2, hd, hk, hR, hu, q1⟩ => ?_) (kx.mono e0')⟩
    obtain ⟨hp, hc⟩ := R1.ce p b _ hu.mem
    refine ⟨G1, p, fs, _, ds, .ok d, fs', by rw [List.append_nil], hk, R1.ex, hp, hc, zall_d (by rw [← hd]; exact a1), hR, fun d' ho v G' H' e own hc' a => ?_, fun x ho => nomatch ho⟩
    have ho := DOut.ok.inj ho
    subst ho
    exact k v G' H' (.d d) M2 ((e0'.trans e1).trans e.g) (R1.call1 e hu own hc') a q1) kx
theorem zw_callO0 {ar : Nat} {C : Addr} {R : List (Str × ZV) → List PyData → DOut → List (Str × ZV) → Prop} (h : ZA K E tA S M (fun zs M1 => ∃ p b fs zs' ds d fs' M2, zs = .c p :: zs' ∧ AllD zs' ds ∧ ds.length = ar ∧ R fs ds (.ok d) fs' ∧ Upd1 p b (.obj C fs) (.obj C fs') M1 M2 ∧ Q (.d d) M2) X) :
    ZW K E (tCall (spO K C ar R) [] E0 tA) S M Q X := fun n σ G H Rl Qv k kx =>
  h n σ G H Rl _ (fun vs G1 H1 zs M1 e1 R1 a1 ⟨p, b, fs, zs', ds, d, fs', M2, hz, hd, hk, hR, hu, q1⟩ => by
    subst hz
    cases a1 with
    | cons a1 a2 =>
      have ev := a1
      obtain ⟨hp, hc⟩ := R1.ce p b _ hu.mem
      subst ev
      refine ⟨G1, p, fs, _, ds, .ok d, fs', by rw [List.append_nil], hk, R1.ex, hp, hc, zall_d (by rw [← hd]; exact a2), hR, fun d' ho v G' H' e own hc' a => ?_, fun x ho => nomatch ho⟩
      have ho := DOut.ok.inj ho
      subst ho
      exact k v G' H' (.d d) M2 (e1.trans e.g) (R1.call1 e hu own hc') a q1) kx
theorem canLay_ints : ∀ l : List Int, PyData.canLayAll0 (l.map PyData.int) = true
  | [] => rfl
  | _ :: r => by simp [PyData.canLayAll0, PyData.canLay0, canLay_ints r]
theorem depth_ints : ∀ l : List Int, PyData.depthAll (l.map PyData.int) = 0
  | [] => rfl
  | _ :: r => by simp [PyData.depthAll, PyData.depth, depth_ints r]
theorem shp_ints (l : List Int) : SeqAt.shaped (.tuple (l.map .int)) = true := by
  simp [SeqAt.shaped, PyData.canLay0, PyData.depth, canLay_ints, depth_ints]
theorem eqv_nilT (l : List Int) : PyData.eqv (.tuple (l.map .int)) (.tuple []) = l.isEmpty := by cases l <;> rfl
theorem vbl_eq (a b : Bool) : (a == b) = decide (vOf (.bool a) = vOf (.bool b)) := by
  cases a <;> cases b <;> rfl
theorem zo_eqB {M : Ms} {Q : QZ} {a b : Bool} (q : Q (.d (.bool (a == b))) M) : ZO K (rEqA K) (.d (.bool a)) (.d (.bool b)) M Q := zo_l (zo_eqV rfl rfl rfl (vbl_eq a b) q)
theorem zo_neB {M : Ms} {Q : QZ} {a b : Bool} (q : Q (.d (.bool (!(a == b)))) M) : ZO K (rNeA K) (.d (.bool a)) (.d (.bool b)) M Q := zo_l (zo_neV rfl rfl rfl (by rw [vbl_eq]) q)
def dNone : PyData → Bool
  | .none => true
  | _ => false
theorem dp_isN {G : Hp} {v : V} {x : PyData} (h : Dz K G v x) : decide (v = V.non) = dNone x := by
  cases h <;> simp [dNone]
theorem zo_isN {M : Ms} {Q : QZ} {x : PyData} (q : Q (.d (.bool (dNone x))) M) : ZO K (fun x y H Q => y = V.non ∧ Q (.bl (decide (x = V.non))) H) (.d x) (.d .none) M Q := fun n S σ G H R v u a b Qv k =>
  ⟨dp_non b, by rw [dp_isN a]; exact k (.bl (dNone x)) G H (.d (.bool (dNone x))) M (Ex.refl G) R (Dz.bl _) q⟩
theorem zo_notN {M : Ms} {Q : QZ} {x : PyData} (q : Q (.d (.bool (!dNone x))) M) : ZO K (fun x y H Q => y = V.non ∧ Q (.bl (!decide (x = V.non))) H) (.d x) (.d .none) M Q := fun n S σ G H R v u a b Qv k =>
  ⟨dp_non b, by rw [dp_isN a]; exact k (.bl (!dNone x)) G H (.d (.bool (!dNone x))) M (Ex.refl G) R (Dz.bl _) q⟩
theorem zw_mono {Q' : QZ} (h : ZW K E te S M Q' X) (hi : ∀ z M', Q' z M' → Q z M') : ZW K E te S M Q X := fun n σ G H R Qv k kx => h n σ G H R Qv (fun v G' H' z M' e R' a q => k v G' H' z M' e R' a (hi z M' q)) kx
theorem zs_par3 {i j l : Nat} {P : ZP} (h : ZA K E tA S M (fun zs M1 => ∃ z w y, zs = [z, w, y] ∧ P.nx (((S.set i (some z)).set j (some w)).set l (some y)) M1) P.ex) : ZS K E (tPar3 i j l tA) S M P := fun n σ G H R D k =>
  h n σ G H R _ (fun vs G1 H1 zs M1 e1 R1 a1 ⟨z, w, y, hz, q⟩ => by
    subst hz
    cases a1 with
    | cons a b => cases b with | cons b c => cases c with | cons c d => cases d; exact ⟨_, _, _, rfl, k.nx _ G1 H1 _ M1 e1 (((R1.set a).set b).set c) q⟩) k.xok
theorem zc_min2 {M : Ms} {Q : QZ} {i j : Int} (q : Q (.d (.int (if j < i then j else i))) M) : ZC K (fun xs H Q => ∃ i j, xs = [.int i, .int j] ∧ Q (.int (if j < i then j else i)) H) [.d (.int i), .d (.int j)] M Q :=
  zc_val (z := .d (.int (if j < i then j else i))) (fun G H vs e a => by
    obtain ⟨v, u, rfl, av, au⟩ := zall2 a
    exact ⟨.int _, Dz.int _, fun Qv hq => ⟨i, j, by rw [dp_int av, dp_int au], hq⟩⟩) q
theorem zc_max2 {M : Ms} {Q : QZ} {i j : Int} (q : Q (.d (.int (if j > i then j else i))) M) : ZC K (fun xs H Q => ∃ i j, xs = [.int i, .int j] ∧ Q (.int (if j > i then j else i)) H) [.d (.int i), .d (.int j)] M Q :=
  zc_val (z := .d (.int (if j > i then j else i))) (fun G H vs e a => by
    obtain ⟨v, u, rfl, av, au⟩ := zall2 a
    exact ⟨.int _, Dz.int _, fun Qv hq => ⟨i, j, by rw [dp_int av, dp_int au], hq⟩⟩) q
/-- a statement's own end, ahead of what follows -/
theorem zs_nx {t : TS} {P : ZP} {N : Zs → Ms → Prop} (h : ZS K E t S M { P with nx := N }) (hi : ∀ S' M', N S' M' → P.nx S' M') : ZS K E t S M P := fun n σ G H R D k =>
  h n σ G H R D ⟨fun σ' G' H' S' M' e R' q => k.nx σ' G' H' S' M' e R' (hi S' M' q), k.rt, k.bk, k.ct, k.ex⟩
theorem dSl_str {s : Str} {lo hi : Option Int} (h : s.length ≤ sizeLine) : dSl (.str s) lo hi = some (.str (Txt.slice s lo hi)) := if_pos h
def tTry (K : Fg) (tb : WX → TS) (c : Value) (i : Nat) (ts : Addr → Value → Option Addr → TS) (Wout : WX) : TS := fun D σ H => tb (wAs K c i ts Wout D) D σ H
theorem zs_tryZ {tb : WX → TS} {c : Value} {i : Nat} {ts : Addr → Value → Option Addr → TS} {Wout : WX} {P : ZP}
    (h : ∀ W : WX, ZS K (fun σ cls d H => W cls d σ H) (tb W) S M { P with ex := fun x S' M' => PySem.W.exmOne K (.ref x.cls) c = some true ∧ ∀ a d, ZS K E (ts a (.ref x.cls) d) (S'.set i (some (.e a (.ref x.cls) d x))) M' (SuiteP P i) }) :
    ZS K E (tTry K tb c i ts Wout) S M P := zs_try h
end
end Z
/-! raise C(e), C an own exception class over ValueError whose __init__ says super().__init__(f'text{f}') and self.f = f -/
namespace PySem
namespace SupX
open PySem.W PySem.Calls PyProof.Rows PySem.HandSPX
def sA (f : Str) (p1 p2 : Pos) : Arguments := { posonlyargs := [], args := [{ arg := "self", annotation := none, pos := p1 }, { arg := f, annotation := none, pos := p2 }], vararg := none, kwonlyargs := [], kw_defaults := [], kwarg := none, defaults := [] }
structure Ps where
  (a b c d e g h i k l m n o : Pos)
def sE (f pre : Str) (j : Nat) (q : Ps) : Expr := .JoinedStr [.Constant (.str pre) j q.a, .FormattedValue (.Name f q.b) (-1) none q.c] q.d
def sB (f pre : Str) (j : Nat) (q : Ps) : List Stmt :=
  [.Expr (.Call (.Attribute (.Call (.Name "super" q.e) [] [] q.g) "__init__" q.h) [sE f pre j q] [] q.i) q.k, .Assign [.Attribute (.Name "self" q.l) f q.m] (.Name f q.n) q.o]
def sS (f : Str) : Scope := { kind := .function, names := [("self", .local), (f, .local), ("__class__", .free), ("super", .globalImplicit)], isGenerator := false, isCoroutine := false, more := [] }
/-- the field's name is none of the others -/
structure Nm (f : Str) : Prop where
  sup : (sS f).names.lookup ("super" : Str) = some .globalImplicit
  cls : (sS f).names.lookup ("__class__" : Str) = some .free
  self : (sS f).names.lookup ("self" : Str) = some .local
  fld : (sS f).names.lookup f = some .local
  bs : ∀ u v : Value, ([("self", u), (f, v)] : List (Str × Value)).reverse.lookup ("self" : Str) = some u
  bf : ∀ u v : Value, ([("self", u), (f, v)] : List (Str × Value)).reverse.lookup f = some v
  dbg : (f == ("__debug__" : Str)) = false
  cell : ∀ x ∈ (sS f).names, x.2 ≠ .cell
  bind : ∀ (qn pre : Str) (j : Nat) (q : Ps) (p1 p2 : Pos) (doc pm : Value) (an : Option Addr) (cd ct : Value) (cc : Addr) (u v : Value), bindArgs (ksFn "__init__" qn (sA f p1 p2) (sB f pre j q) (sS f) .none .none doc pm an cd ct cc) ⟨[u, v], []⟩ = pure [(("self" : Str), u), (f, v)]
/-- how the call of super().__init__ is evaluated (by rfl where the places are written) -/
def EvOk (f pre : Str) (j : Nat) (q : Ps) : Prop := ∃ pl : Sem Bool, ∀ env : Env, eval (.Call (.Attribute (.Call (.Name "super" q.e) [] [] q.g) "__init__" q.h) [sE f pre j q] [] q.i) env = (do
  let ov ← attributeBase (.Call (.Name "super" q.e) [] [] q.g) "__init__" env (eval (.Call (.Name "super" q.e) [] [] q.g) env)
  standAt q.h.atName
  let (fn, first) ← holding [ov] (getMethod ov "__init__" pl)
  callWith q.i fn first (backTo q.i (starEach [sE f pre j q] env)) [])
structure SupTxt (prog : Program) (K : Frag) (mg : Str → Option Value) (x qn f pre : Str) (C fI : Addr) : Prop where
  nm : Nm f
  gC : mg x = some (.ref C)
  cls : ∃ nm q N bs bm sn sub ab col dd k0 k1 k2 k3 k5, K.lookup C = some (excClassObj nm q C N bs bm true sn sub ab col dd k0 k1 k2 k3 k5 "ValueError.__new__") ∧ refsVE bm = true
  q : excInitIn K C [.type "ValueError", .type "Exception", .type "BaseException", .type "object"] "ValueError.__new__" = true
  sa : findIn K (.ref C) "__setattr__" = some (some (.builtin "object.__setattr__"))
  noN : findIn K (.ref C) f = some none
  iC : findIn K (.ref C) "__init__" = some (some (.ref fI))
  tC : typeIn K (.ref fI) = some (.type "function")
  kC : keepIn K (.ref C) = true
  exC : subIn K (.ref C) (.type "BaseException") = some true
  veC : subIn K (.ref C) (.type "ValueError") = some true
  tyC : typeIn K (.ref C) = some (.type "type")
  hdC : hasDictIn K C = true
  ms : mroIn K C (.ref C) = some true
  si : ks_superIn K C C "__init__" = some (some (.builtin "ValueError.__init__"))
  op : nsIn K cStatics "thirdparty.any" = some none
  su : nsIn K mainGlobals "super" = some none
  fn : ∃ (oc : Value) (od : Option Addr) (doc pm : Value) (an : Option Addr) (cda cc : Addr) (ct : Value) (osl : Array (Option Value)) (p1 p2 : Pos) (j : Nat) (ps : Ps),
    K.lookup fI = some ⟨oc, od, .func (ksFn "__init__" qn (sA f p1 p2) (sB f pre j ps) (sS f) .none .none doc pm an (.ref cda) ct cc), osl⟩ ∧ codeIn K (.ref cda) qn = true ∧
    (∃ ccl cdd vs ccs file tf, K.lookup cda = some ⟨ccl, cdd, .fields vs, ccs⟩ ∧ vs[2]? = some (.str file tf) ∧ ((prog.main.file : Str) == file) = true) ∧ (∃ cl cld csl, K.lookup cc = some ⟨cl, cld, .cell (some (.ref C)), csl⟩) ∧ EvOk f pre j ps
  top : (prog.main.scope.names.lookup ("super" : Str)).isSome = false
  pz : pre.length ≤ 1000
/-- what the text's field may be -/
def Fld (v : Value) : Prop := v = .none ∨ ∃ i t, v = .int i t ∧ i.natAbs.log2 < 1920
structure InitEnd (h h' : Heap) (x C dx : Addr) (f : Str) (v : Value) : Prop where
  keep : ∀ b o, b ≠ x → h.get? b = some o → h'.get? b = some o
  obj : ∃ t1 : Addr, h'.get? x = some { cls := .ref C, dict := some dx, data := .fields #[.ref t1, .none, .none, .none, .bool false, .none] }
  dbig : h.objs.size ≤ dx
  dne : dx ≠ x
  ns : h'.Ns1 dx (fun y => if y = f then some v else none)
section
variable {prog : Program} {w : World} {A : Around} {E : Value → Shared → Prop} {R : Result → Shared → Prop} {s : Shared} {K : Frag} {mg : Str → Option Value} {x qn f pre : Str} {C fI : Addr}
/-- the text, by an environment that knows the field -/
theorem sup_text {env : Env} {j : Nat} {q : Ps} {m : Str → Option Value} {v : Value} {Q : Value → Shared → Prop} (hn : s.heap.Ns env.locals m) (hk : env.scope.kind = .function) (hl : env.kindOf f = some .local) (hd : (f == ("__debug__" : Str)) = false) (hv : m f = some v) (hf : Fld v) (hp : pre.length ≤ 1000)
    (h : ∀ z tk tk', Q (.str z tk) { s with toks := tk' }) : wpAny (model prog w) A (eval (sE f pre j q) env) Q E s := by
  unfold sE
  refine wpAny_JoinedStr ?_
  have e0 : evalEach [Expr.Constant (.str pre) j q.a, .FormattedValue (.Name f q.b) (-1) none q.c] env = [eval (Expr.Constant (.str pre) j q.a) env, eval (.FormattedValue (.Name f q.b) (-1) none q.c) env] := by simp [evalEach]
  rw [e0]
  have h1000 : (1000 : Nat) ≤ sizeLine := by rw [sizeLine_eq]; decide
  have hl0 : (Str.empty ++ pre).length ≤ 1000 := by
    rw [Str.length_append]
    show 0 + pre.length ≤ 1000
    omega
  refine Calls.Constant_str ⟨pre, _, rfl, Nat.le_trans hl0 h1000, ?_⟩
  refine wpAny_FormattedValue_plain (wpAny_Name (wpAny_loadName_local hk hl hn hv ?_) hd)
  rcases hf with rfl | ⟨i, t, rfl, hi⟩
  · have hz : (Str.empty ++ pre ++ ("None" : Str)).length ≤ sizeLine := by
      rw [Str.length_append, sizeLine_eq]
      have e4 : ("None" : Str).length = 4 := by decide +kernel
      omega
    exact wpAny_formatField_none ⟨"None", _, rfl, hz, hz, h _ _ _⟩
  · have hz : (Str.empty ++ pre ++ (Str.ofString (toString i))).length ≤ sizeLine := by
      rw [Str.length_append, sizeLine_eq, ofString_length]
      have e4 := int_text_length_le (k := 1920) (by decide) hi
      omega
    exact wpAny_formatField_int hi ⟨toString i, _, rfl, hz, hz, h _ _ _⟩
/-- the bound __init__ of ValueError called -/
theorem call_mw {u e t0 : Addr} {rest : List Value} {hp : Heap} {g : Array GenState} {d : Drawn} {t : Nat} {os : OsState} {Q : Value → Shared → Prop} (X : K.In hp) (q : excInitIn K C [.type "ValueError", .type "Exception", .type "BaseException", .type "object"] "ValueError.__new__" = true)
    (he : hp.get? e = some (excO C t0)) (hu : hp.get? u = some (kxs_mw "ValueError.__init__" e)) (hz : rest.length ≤ sizeLine)
    (hq : ∀ h' t1, (∀ b o, b ≠ e → hp.get? b = some o → h'.get? b = some o) → h'.get? e = some (excO C t1) → Q .none ⟨h', g, d, t, os⟩) : wpAny (model prog w) A (call (.ref u) rest) Q E ⟨hp, g, d, t, os⟩ := by
  obtain ⟨nm, N', qn, bs, bm, hdct, sn, sub, ab, col, dd, k0, k1, k2, k3, k5, hC, hT⟩ := excInit_of X q
  have FB := F.excBase_ValueError
  refine wpAny_call (codeAny_of_tree ?_)
  show wpAny _ A.in1 (callAny (.ref u) ⟨rest, []⟩) _ _ _
  simp only [callAny]
  refine wpAny_bind (wpAny_load hu ?_)
  simp only [kxs_mw, show (Value.type "method-wrapper" == Value.type "method" || Value.type "method-wrapper" == Value.type "builtin_function_or_method" || Value.type "method-wrapper" == Value.type "method-wrapper") = true by decide, if_true]
  refine KFB.if_so (by decide) ?_
  refine wpAny_bind (check_bound_init FB.toExcCallFacts hC he rfl ?_)
  refine wpAny_bind (wpAny_pure (wpAny_pure ?_))
  refine ⟨plainId_quiet FB.init.plain _, codeAny_builtin FB.initEntry ?_⟩
  exact exc_init_tree (cls := .ref C) (t0 := t0) (dv := none) (c2 := .none) (c3 := .none) (b4 := .bool false) he hz fun h' k e' _ => hq h' _ k e'
/-- the __init__ of such a class, upon a fresh exception at x -/
theorem sup_init (T : SupTxt prog K mg x qn f pre C fI) {e t0 : Addr} {v : Value} {mb : Str → Option Value} (X : K.In s.heap) (hlim : s.heap.NoLimit) (hG : s.heap.Ns mainGlobals mg) (hB : s.heap.Ns builtinsNs mb) (hmb : mb "super" = some (.type "super"))
    (hx : s.heap.get? e = some (excO C t0)) (hnx : K.lookup e = none) (hroom : A.depth < recursionLimit) (hf : Fld v)
    (hq : ∀ h' tk dx, InitEnd s.heap h' e C dx f v → R (.ok (.ret .none)) { s with heap := h', toks := tk }) :
    codeAny (model prog w) A (.call (.ref fI) ⟨[.ref e, v], []⟩) R s := by
  obtain ⟨oc, od, doc, pm, an, cda, cc, ct, osl, p1, p2, j, ps, ho, hcd, ⟨ccl, cdd, vs, ccs, file, tf, hcode, hvs, hfile⟩, ⟨cl, cld, csl, hcell⟩, ⟨pl, hev⟩⟩ := T.fn
  obtain ⟨nm, q, N, bs, bm, sn, sub, ab, col, dd, k0, k1, k2, k3, k5, hC, hbm⟩ := T.cls
  have hcl : clsIn K C = some { name := nm, bases := bs, mro := .ref C :: bm, ns := N, qualname := q, hasDict := true, slotNames := sn, subclasses := sub, abstract := ab, collection := col, hasDel := false } := by unfold clsIn; rw [hC] <;> rfl
  refine ks_codeAny_call_defAt (fd := ksFn "__init__" qn (sA f p1 p2) (sB f pre j ps) (sS f) .none .none doc pm an (.ref cda) ct cc) (body := sB f pre j ps) (binds := [("self", .ref e), (f, v)])
    hroom (X _ _ ho) rfl hlim (codeRec_of X hcd) rfl (BindsTo.of_eq (T.nm.bind _ _ _ _ _ _ _ _ _ _ _ _ _ _)) T.nm.cell (fun y hy => ?_) (fun h₁ hn k => ?_)
  · rcases List.mem_cons.mp hy with rfl | hy
    · exact T.nm.self
    · have hy := List.mem_singleton.mp hy
      subst hy
      exact T.nm.fld
  have X₁ : K.In h₁ := X.keeps k
  have hx₁ := k _ _ hx
  refine ks_wpAt_execs_cons (ks_wpAt_Expr_any (ks_wpAt_MethodCall (pl := pl) ?_ (hev _)))
  refine ks_wpAt_super_base (f := fI) (cc := cda) (ar := { arg := "self", annotation := none, pos := p1 }) T.nm.sup T.nm.cls (by decide) rfl (X₁ _ _ ho) rfl rfl rfl (X₁ _ _ hcode) rfl hvs hfile T.top ?_
  refine ks_loadName_global rfl T.nm.sup (loadGlobal_builtin (hG.keeps k) (mg_none_of X hG T.su) (hB.keeps k) hmb ⟨rfl, ?_⟩)
  refine wpAny_loadName_free rfl T.nm.cls rfl ⟨_, X₁ _ _ hcell, rfl⟩ ?_
  refine wpAny_loadName_local rfl T.nm.self hn (T.nm.bs _ _) ?_
  refine ks_wpAny_isType_cls (X₁ _ _ hC) rfl ⟨rfl, ?_⟩
  refine ks_wpAny_call_super (X₁ _ _ hC) rfl hx₁ rfl (fun c z => nomatch z) (looks_mroIn X₁ T.ms) (fun h₂ hso k₂ => ?_)
  have X₂ : K.In h₂ := X₁.keeps k₂
  have hx₂ := k₂ _ _ hx₁
  have I₂ : InstAt h₂ e (excO C t0) C none := ⟨hx₂, rfl, rfl, trivial⟩
  have hI : Looks (model prog w) h₂ (isInstance (.ref e) (.type "ValueError")) true := I₂.type.andThen (looks_subIn X₂ T.veC)
  have hsi := T.si
  unfold ks_superIn at hsi
  rw [hcl] at hsi
  refine kxs_getMethod kxs_ValueError hso (looks_opaque X₂ T.op) (l₀ := .ref C :: bm) (fun A Q E s k q => wpAny_bind ((looks_clsIn X₂ hcl) A _ E s k (wpAny_pure q))) rfl X₂ hsi hI (ks_ne X₂ I₂ hcl) (by decide) ?_
  show wpAny _ _ (callWith ps.i (.ref h₂.objs.size) [] (backTo ps.i ((false, eval (sE f pre j ps) (ksEnv qn (sS f) s.heap.objs.size fI (.ref cda) cc)) :: starEach [] (ksEnv qn (sS f) s.heap.objs.size fI (.ref cda) cc))) []) _ _ _
  have hnL : (h₂.push (kxs_mw "ValueError.__init__" e)).Ns s.heap.objs.size (fun y => ([("self", .ref e), (f, v)] : List (Str × Value)).reverse.lookup y) := by
    obtain ⟨oL, es, ep, hL, r⟩ := hn
    exact ⟨oL, es, ep, Heap.get?_push_of_some _ (k₂ _ _ hL), r⟩
  refine kxs_callWith (i := "ValueError.__init__") (x := e) rfl (evalArgs_plain (spliced_cons ?_))
  refine sup_text (w := w) hnL rfl T.nm.fld T.nm.dbg (T.nm.bf _ _) hf T.pz fun z tk tk' => ?_
  refine spliced_nil ⟨Heap.get?_push_at rfl rfl, ?_⟩
  have k₃ : ∀ b o, h₂.get? b = some o → (h₂.push (kxs_mw "ValueError.__init__" e)).get? b = some o := fun b o q => Heap.get?_push_of_some _ q
  refine call_mw (X₂.keeps k₃) T.q (k₃ _ _ hx₂) (Heap.get?_push_at rfl rfl) (by show 1 ≤ sizeLine; decide) (fun h₄ t1 k₄ hx₄ => ?_)
  have X₄ : K.In h₄ := fun a o q => k₄ a o (fun z => by rw [z, hnx] at q; cases q) (k₃ _ _ (X₂ a o q))
  have eL : s.heap.objs.size ≠ e := Nat.ne_of_gt (Heap.lt_size hx)
  have hn4 : h₄.Ns s.heap.objs.size (fun y => ([("self", .ref e), (f, v)] : List (Str × Value)).reverse.lookup y) := by
    obtain ⟨oL, es, ep, hL, r⟩ := hnL
    exact ⟨oL, es, ep, k₄ _ _ eL hL, r⟩
  show wpAt _ _ _ (execs _ _) _ _ _
  refine wpAt_of_wpAny (wpAny_execs_cons (plainObj_wpAny_Assign_Attribute ?_))
  refine wpAny_Name (wpAny_loadName_local rfl T.nm.fld hn4 (T.nm.bf _ _) ?_) T.nm.dbg
  refine wpAny_Name (wpAny_loadName_local rfl T.nm.self hn4 (T.nm.bs _ _) ?_) (by decide)
  refine set_plain X₄ (ox := excO C t1) (od := none) ⟨hx₄, rfl, rfl, trivial⟩ T.sa ?_
  refine exc_osa X₄ hx₄ hcl (show refsVE (.ref C :: bm) = true from hbm) rfl T.noN (fun h₅ tk₅ dx k₅ dn dne hx₅ hn₅ => ?_)
  show wpAny _ _ (execs _ _) _ _ _
  refine wpAny_execs_nil (hq h₅ tk₅ dx ⟨fun b o hb q => k₅ b o hb (k₄ b o hb (k₃ _ _ (k₂ _ _ (k _ _ q)))), ⟨t1, hx₅⟩, ?_, dne, hn₅⟩)
  have z1 : s.heap.objs.size < h₄.objs.size := hn4.lt
  exact Nat.le_trans (Nat.le_of_lt z1) dn
theorem one_size (v : Value) : [v].length ≤ sizeLine := by rw [sizeLine_eq]; exact (by decide : 1 ≤ 16777216)
structure OwnMade (h h' : Heap) (e C d : Addr) (f : Str) (v : Value) : Prop where
  keep : ∀ b o, h.get? b = some o → h'.get? b = some o
  new : h.objs.size ≤ e
  obj : ∃ oe vs, h'.get? e = some oe ∧ oe.cls = .ref C ∧ oe.dict = some d ∧ oe.data = .fields vs ∧ vs[1]? = some .none
  dbig : h.objs.size ≤ d
  dne : d ≠ e
  ns : h'.Ns1 d (fun y => if y = f then some v else none)
theorem sup_made (T : SupTxt prog K mg x qn f pre C fI) {v : Value} {mb : Str → Option Value} (X : K.In s.heap) (hlim : s.heap.NoLimit) (hG : s.heap.Ns mainGlobals mg) (hB : s.heap.Ns builtinsNs mb) (hmb : mb "super" = some (.type "super")) (hroom : A.depth + 1 < recursionLimit) (hf : Fld v)
    (hq : ∀ h' tk e d, OwnMade s.heap h' e C d f v → R (.ok (.ret (.ref e))) { s with heap := h', toks := tk }) : codeAny (model prog w) A (.call (.ref C) ⟨[v], []⟩) R s := by
  obtain ⟨nm, q, N, bs, bm, sn, sub, ab, col, dd, k0, k1, k2, k3, k5, hC, hbm⟩ := T.cls
  obtain ⟨hp, g, dr, tk, os⟩ := s
  have k : ∀ b o, hp.get? b = some o → ((hp.push (kdv_tup [v])).push (excO C hp.objs.size)).get? b = some o := fun b o e => Heap.get?_push_of_some _ (Heap.get?_push_of_some _ e)
  have hget : ((hp.push (kdv_tup [v])).push (excO C hp.objs.size)).get? (hp.objs.size + 1) = some (excO C hp.objs.size) := by heap_get
  have hnx : K.lookup (hp.objs.size + 1) = none := by
    cases e : K.lookup (hp.objs.size + 1) with
    | none => rfl
    | some o =>
      have z : hp.get? (hp.objs.size + 1) = some o := X _ _ e
      exact absurd (Nat.lt_of_succ_lt (Heap.lt_size z)) (Nat.lt_irrefl _)
  refine call_own F.excBase_ValueError (fun X => refsVE_contains X bm hbm) (X _ _ hC) (looks_findIn X T.iC) (fun self => bind_fn X self T.tC) (one_size v) ?_
  refine sup_init (s := ⟨(hp.push (kdv_tup [v])).push (excO C hp.objs.size), g, dr, tk, os⟩) T (X.keeps k) (hlim.keeps k) (hG.keeps k) (hB.keeps k) hmb hget hnx ?_ hf fun h' tk' dx ⟨k', ⟨t1, hx⟩, dn, dne, hns⟩ => ?_
  · show A.depth + 1 < recursionLimit
    exact hroom
  · have old : ∀ b o, hp.get? b = some o → h'.get? b = some o := fun b o e => k' b o (Nat.ne_of_lt (Nat.lt_succ_of_lt (Heap.lt_size e))) (k b o e)
    have z : hp.objs.size + 1 + 1 ≤ dx := by
      have q := dn
      rw [Heap.size_push, Heap.size_push] at q
      exact q
    exact ⟨rfl, hq h' tk' (hp.objs.size + 1) dx ⟨old, Nat.le_succ _, ⟨_, _, hx, rfl, rfl, rfl, rfl⟩, Nat.le_trans (Nat.le_trans (Nat.le_succ _) (Nat.le_succ _)) z, dne, hns⟩⟩
end
end SupX
end PySem
namespace L2
open PySem PySem.Spec PyProof.Rows
theorem relO_one {f g : Str} {v : V} {v' : Value} (r : RelV v v') : RelO (List.lookup g [(f, v)]) (if g = f then some v' else none) := by
  by_cases hw : g = f
  · subst hw
    rw [if_pos rfl]
    have q : List.lookup g [(g, v)] = some v := by simp [List.lookup]
    rw [q]
    exact r
  · rw [if_neg hw]
    have qw : (g == f) = false := by simpa using hw
    have q2 : List.lookup g [(f, v)] = none := by simp [List.lookup, qw]
    rw [q2]
    trivial
def FldV (v : V) : Prop := v = .non ∨ ∃ i : Int, v = .int i ∧ i.natAbs.log2 < 1920
theorem fld_of {v : V} {u : Value} (h : FldV v) (r : RelV v u) : PySem.SupX.Fld u := by
  rcases h with rfl | ⟨i, rfl, hi⟩
  · exact .inl r
  · obtain ⟨t, rfl⟩ := r
    exact .inr ⟨i, t, rfl, hi⟩
/-- C(e): the error's own dict d, new, holds the field -/
def tMkS (C : Addr) (f : Str) (ta : TA) : L2.St → Hp → XK → Prop := fun σ H Q => ta σ H fun vs H1 => ∃ v, vs = [v] ∧ FldV v ∧ ∀ d, H1 d = none → Q (.ref C) (some d) (upd H1 d (.xd [(f, v)]))
section
variable {X : Cx} {x qn f pre : Str} {C fI : Addr}
theorem pmk_sup {a : Expr} {ta : TA} {p pos : Pos} {k : Nat} (T : PySem.SupX.SupTxt X.prog X.K X.mg x qn f pre C fI) (hr : Room k X.A) (ha : PA X [a] ta) (hg : Gl X x := by rfl) (hdb : (x == ("__debug__" : Str)) = false := by decide)
    (he : starEach (a :: []) X.env = (false, eval a X.env) :: starEach [] X.env := by rfl) (hpl : (backTo pos (starEach [] X.env)).any (·.1) = false := by rfl) :
    PMk X (.Call (.Name x p) [a] [] pos) (tMkS C f ta) := by
  intro pins s σ H Q I h
  refine wpAny_Call_Name_kw (ld_glob I hg T.gC ?_ hdb)
  refine PySem.W.callWith_K (h₀ := X.base) I.ok.mod.kin T.kC (thn (ha.run pos pins s σ H _ I h) fun us s1 hh => ?_) he hpl
  obtain ⟨vs, H1, I1, r1, v, ev, hf, q1⟩ := hh
  subst ev
  refine ⟨I1.kIn, ?_⟩
  cases r1 with
  | cons rv rn =>
    rename_i v' us'
    cases rn
    show wpAny _ _ (call (.ref C) [v']) _ _ _
    have hlim := I1.nolimit
    have hG : s1.heap.Ns mainGlobals X.mg := I1.mod.glob.keeps I1.bk
    obtain ⟨mb, hb1, hb2⟩ := I1.mod.blt
    have hB : s1.heap.Ns builtinsNs mb := hb1.keeps I1.bk
    have hmb : mb "super" = some (.type "super") := (hb2 "super" (by decide)).trans (by decide +kernel)
    have kI := I1.kIn
    obtain ⟨hp, g, dr, tk, os⟩ := s1
    refine wpAny_call (PySem.SupX.sup_made T kI hlim hG hB hmb (by have := hr.dp; omega) (fld_of hf rv) fun h' tk' e d M => ?_)
    show MkP X pins σ Q (.ref e) ⟨h', g, dr, tk', os⟩
    obtain ⟨oe, fv, hoe, hc, hd, hdat, h1⟩ := M.obj
    have hns := M.ns
    obtain ⟨G', g1, g2⟩ := restrict h' fun b => decide (b ≠ e)
    have gk : ∀ b, b ≠ e → G'.get? b = h'.get? b := fun b hb => g1 b (decide_eq_true hb)
    have ge : G'.get? e = none := g2 e (by simp)
    have old : ∀ b o, hp.get? b = some o → G'.get? b = some o := fun b o q => (gk b (Nat.ne_of_lt (Nat.lt_of_lt_of_le (Heap.lt_size q) M.new))).trans (M.keep b o q)
    have ob : ObjOk X.prog X.w (upd H1 d (.xd [(f, v)])) G' d (.xd [(f, v)]) :=
      ⟨_, hns.at (fun o q => (gk d M.dne).trans q), fun y => relO_one rv⟩
    have J : Inv X pins σ (upd H1 d (.xd [(f, v)])) ⟨G', g, dr, tk', os⟩ := I1.laid (t' := tk') old M.dbig ob
    refine ⟨e, oe, fv, ⟨G', g, dr, tk', os⟩, _, .ref C, some d, rfl, J, fun b o q => ?_, ge, hoe, ⟨hc, hd⟩, hdat, h1, ?_, rfl, I1.bare, raises_own T.exC T.tyC, q1 d (I1.hok.fresh M.dbig)⟩
    · by_cases hb : b = e
      · have q' : G'.get? b = some o := q
        rw [hb, ge] at q'; cases q'
      · exact (gk b hb).symm.trans q
    · rw [upd_ne (Ne.symm M.dne)]
      exact I1.hok.fresh M.new
end
end L2
/-! in an except suite: isinstance(e, C) and e.f, whatever e's dict -/
namespace Z
open PySem PySem.Spec PyProof.Rows L2
open Evl (Ex)
def rIsX (K : Fg) (cls : Value) (a : Addr) (d : Option Addr) : List V → Hp → VK → Prop := fun xs H Q => ∃ (c : V) (cv : Value) (b : Bool) (D : Addr), xs = [.ref a, c] ∧ cls = .ref D ∧ ExcC K D ∧ (∀ dd, d = some dd → ∃ fs, H dd = some (.xd fs)) ∧ (∀ u, RelV c u → u = cv) ∧ PySem.W.kitOne K (.ref D) cv = some b ∧ Q (.bl b) H
theorem call_isX {X : Cx} {a : Addr} {cls : Value} {d : Option Addr} {oe : Obj} {pn : List (Addr × Obj)} (hz : Zc cls d oe) (hf : ∃ vs, oe.data = .fields vs) : CallR (X.suite a ((a, oe) :: pn)) (.builtin "isinstance") (rIsX X.K cls a d) := by
  intro pins s σ H xs us Q I r h
  obtain ⟨c, cv, b, D, rfl, hD, C, hx, hcv, e, q⟩ := h
  subst hD
  cases r with
  | cons rx rr =>
    cases rr with
    | cons rt rr =>
      cases rr
      cases rx
      have ec := hcv _ rt
      subst ec
      obtain ⟨hget, _⟩ := I.pin (a, oe) (List.mem_append.mpr (.inl List.mem_cons_self))
      obtain ⟨vs, hv⟩ := hf
      have J : ∃ od, PySem.W.InstAt s.heap a oe D od := by
        have hn : PySem.W.notCls oe = true := by unfold PySem.W.notCls; rw [hv] <;> rfl
        cases d with
        | none => exact ⟨none, hget, hz.1, hn, by rw [hz.2]; trivial⟩
        | some dd =>
          obtain ⟨fs, hd⟩ := hx dd rfl
          have ho : ObjOk X.prog X.w H s.heap dd (.xd fs) := I.hok dd _ hd
          obtain ⟨mA, hns, hr⟩ := ho
          obtain ⟨od, hg, hl⟩ := lookIn_ns hns
          exact ⟨some od, hget, hz.1, hn, by rw [hz.2]; exact hg⟩
      obtain ⟨od, J⟩ := J
      obtain ⟨cd, hcd, _⟩ := PySem.W.any_some C.hd
      exact PySem.W.kia_one (PySem.W.kitx_exc (by rw [hcd]; rfl) C.hg C.hk C.hs C.ha C.hn C.ht C.hm) I.kIn J e (fun z => nomatch z) fun tk => ⟨.bl b, H, I.kept (t' := tk) fun _ _ z => z, rfl, q⟩
def tXfE (K : Fg) (a : Addr) (cls : Value) (d : Option Addr) (f : Str) (te : TE) : TE := fun σ H Q => ∃ C, XfC K C ∧ PySem.W.findIn K (.ref C) f = some none ∧ tXf a cls d C f te σ H Q
theorem pe_xfE {X : Cx} {a : Addr} {oe : Obj} {cls : Value} {d : Option Addr} {pn : List (Addr × Obj)} {e : Expr} {te : TE} {pos : Pos} {n : Str}
    (hz : Zc cls d oe) (hf : ∃ vs, oe.data = .fields vs) (he : PE (X.suite a ((a, oe) :: pn)) e te) (hb : attributeBase e n X.env (eval e X.env) = eval e X.env := by rfl) :
    PE (X.suite a ((a, oe) :: pn)) (.Attribute e n pos) (tXfE X.K a cls d n te) :=
  ⟨fun pins s σ H Q I ⟨C, T, hno, h⟩ => (pe_xf T hno hz hf he hb).run pins s σ H Q I h⟩
section
variable {K : Fg} {E : L2.St → XK} {te ta : TE} {S : Zs} {M : Ms} {Q : QZ} {X : XZ}
theorem zw_isX {a : Addr} {cls : Value} {d : Option Addr} {C : Addr} {tcl : TE} (hcl : tcl = tC (.ref C)) (h : ZW K E te S M (fun z M1 => ∃ x b, z = .e a cls d x ∧ ExcC K x.cls ∧ PySem.W.kitOne K (.ref x.cls) (.ref C) = some b ∧ Q (.d (.bool b)) M1) X) :
    ZW K E (tCB (rIsX K cls a d) (tCons te (tCons tcl tNil))) S M Q X := fun n σ G H R Qv k kx =>
  h n σ G H R _ (fun v G1 H1 z M1 e1 R1 a1 ⟨x, b, hz, hE, hb, q⟩ => by
    subst hz hcl
    obtain ⟨rfl, hc, hx⟩ := a1
    refine ⟨.ref C, .ref C, b, x.cls, rfl, hc, hE, fun dd hd => ?_, fun u r => r, hb, k _ G1 H1 (.d (.bool b)) M1 e1 R1 (Dz.bl b) q⟩
    subst hd
    split at hx
    · cases hx
    · obtain ⟨dd', fv, h1, h2, _⟩ := hx
      cases h1
      exact ⟨fv, R1.ex _ _ h2⟩) kx
theorem paired_lookup {G : Hp} {f : Str} {fv : List (Str × V)} {fs : List (Str × PyData)} (h : Paired (fun (a : Str × V) (b : Str × PyData) => a.1 = b.1 ∧ Dz K G a.2 b.2) fv fs) {y : PyData} (e : fs.lookup f = some y) : ∃ v, fv.lookup f = some v ∧ Dz K G v y := by
  induction h with
  | nil => cases e
  | @cons a b l1 l2 q t ih =>
    obtain ⟨a1, a2⟩ := a
    obtain ⟨b1, b2⟩ := b
    obtain ⟨q1, q2⟩ := q
    dsimp only at q1 q2
    subst q1
    rw [List.lookup_cons] at e ⊢
    split at e
    · cases e
      exact ⟨_, rfl, q2⟩
    · exact ih e
theorem zw_xf {a C : Addr} {d : Option Addr} {f : Str} (hC : XfC K C ∧ PySem.W.findIn K (.ref C) f = some none) (h : ZW K E te S M (fun z M1 => ∃ x y, z = .e a (.ref C) d x ∧ x.fs.lookup f = some y ∧ Q (.d y) M1) X) :
    ZW K E (tXfE K a (.ref C) d f te) S M Q X := fun n σ G H R Qv k kx => by
  obtain ⟨T, hn⟩ := hC
  refine ⟨C, T, hn, h n σ G H R _ (fun v G1 H1 z M1 e1 R1 a1 ⟨x, y, hz, hl, q⟩ => ?_) kx⟩
  subst hz
  obtain ⟨rfl, hc, hx⟩ := a1
  split at hx
  · rename_i e
    rw [e] at hl
    cases hl
  · rename_i f0 fs0 e
    obtain ⟨dd', fv, h1, h2, h3⟩ := hx
    rw [e] at hl
    obtain ⟨v, hv1, hv2⟩ := paired_lookup h3 hl
    exact ⟨rfl, rfl, dd', fv, v, h1, R1.ex _ _ h2, hv1, k v G1 H1 (.d y) M1 e1 R1 hv2 q⟩
def FldD (x : PyData) : Prop := x = .none ∨ ∃ i : Int, x = .int i ∧ i.natAbs.log2 < 1920
theorem zs_raiseS {C : Addr} {f : Str} {tA : TA} {P : ZP} (h : ZA K E tA S M (fun zs M1 => ∃ x, zs = [.d x] ∧ FldD x ∧ P.ex ⟨C, [(f, x)]⟩ S M1) P.ex) : ZS K E (fun _ σ H => tMkS C f tA σ H fun cls d H' => E σ cls d H') S M P := fun n σ G H R D k =>
  h n σ G H R _ (fun vs G1 H1 zs M1 e1 R1 a1 ⟨x, hz, hx, q⟩ => by
    subst hz
    obtain ⟨v, rfl, av⟩ := zall1 a1
    have av' : Dz K G1 v x := av
    refine ⟨v, rfl, ?_, fun d hd => ?_⟩
    · rcases hx with rfl | ⟨i, rfl, hi⟩
      · cases av'
        exact .inl rfl
      · exact .inr ⟨i, dp_int av', hi⟩
    · have g := ex_gnone R1.ex hd
      refine k.ex (.ref C) (some d) σ _ _ ⟨C, [(f, x)]⟩ S M1 (e1.trans (Ex.new g)) (R1.new hd (fun _ z => nomatch z)) ⟨rfl, d, [(f, v)], rfl, upd_same, .cons ⟨rfl, dp_mono (Ex.new g) av'⟩ .nil⟩ q) k.xok
end
end Z
set_option autoImplicit true
namespace K00
open PySem PySem.Spec PyProof.Rows L2 Z
local macro_rules | `(tactic| walk_at "zd") => `(tactic| repeat (first | exact allD_nil | refine allD_cons ?_))
local macro_rules | `(tactic| walk_at "zm") => `(tactic| first | exact m0 | exact m1 m0 | exact m1 (m1 m0) | exact m1 (m1 (m1 m0)) | exact m1 (m1 (m1 (m1 m0))))
local macro_rules | `(tactic| walk_at "zu") => `(tactic| first | exact .here | exact .there .here | exact .there (.there .here) | exact .there (.there (.there .here)) | exact .there (.there (.there (.there .here))))
local macro_rules | `(tactic| walk_at "z") => `(tactic| first
  | with_reducible refine zs_seq ?_ | with_reducible refine zs_asg ?_ | with_reducible refine zs_setL ?_ | with_reducible refine zs_next ?_ | with_reducible refine zs_ret ?_ | with_reducible refine zs_retN ?_ | with_reducible refine zs_drop ?_ | with_reducible refine zs_if ?_ | with_reducible refine zs_par ?_
  | ((with_reducible refine' zw_var ?zv ?_); (case zv => rfl)) | with_reducible refine zw_int ?_ | with_reducible refine zw_str ?_ | with_reducible refine zw_bl ?_ | with_reducible refine zw_non ?_
  | with_reducible refine zw_op ?_ | with_reducible refine zw_un ?_ | with_reducible refine zw_tup ?_ | with_reducible refine zw_sl ?_ | with_reducible refine zp_none ?_ | with_reducible refine zp_some ?_ | with_reducible refine zw_m1 ?_
  | with_reducible refine zt_test ?_ | with_reducible refine zt_B ?_ | with_reducible refine zt_not ?_ | with_reducible refine zt_and ?_ | with_reducible refine zt_or ?_ | with_reducible refine zw_andV ?_ | with_reducible refine zw_orV ?_ | with_reducible refine zw_notV ?_ | with_reducible refine zw_if ?_
  | with_reducible refine za_cons ?_ | with_reducible refine za_nil ?_
  | with_reducible refine za_i ?_ | with_reducible refine zo_sub ?_ | with_reducible refine zo_lt ?_ | with_reducible refine zo_le ?_ | with_reducible refine zo_gt ?_ | with_reducible refine zo_ge ?_ | with_reducible refine zu_neg ?_
  | with_reducible refine zt_isi rfl ?_ | with_reducible refine zt_isi2 ?_ | with_reducible refine zw_isX rfl ?_ | with_reducible refine zw_cb ?_ | with_reducible refine zc_int ?_
  | ((with_reducible refine' zo_ixC ?za ?zb ?_); (case za => walk_at "zm"); (case zb => first | exact atI0 | exact atI1 | exact atI2 | exact atI3 | assumption)) | ((with_reducible refine' zo_ix ?zb ?_); (case zb => first | rfl | assumption)) | ((with_reducible refine' zc_len ?zb ?_); (case zb => first | rfl | assumption)) | ((with_reducible refine' zc_lenC ?za ?_); (case za => walk_at "zm"))
  | with_reducible refine zt_tru ?_ | with_reducible refine zw_con (by assumption) ?_ | with_reducible refine' zs_raiseO ?_ | with_reducible refine zs_asgG ?_ | with_reducible refine zw_call0 ?_ | with_reducible refine zw_callC0 ?_ | with_reducible refine zw_make0 ?_ | with_reducible refine zw_methO0 ?_ | with_reducible refine zw_callO0 ?_ | with_reducible refine zw_make ?_ | with_reducible refine zw_methO ?_ | with_reducible refine zw_callO ?_ | with_reducible refine zw_callC ?_ | with_reducible refine zw_call ?_ | with_reducible refine zs_forT ?_ | with_reducible refine zs_forL ?_ | with_reducible refine zs_forR1 ?_ | with_reducible refine zs_forR2 ?_ | with_reducible refine zw_lcT ?_ | with_reducible refine zw_lcL ?_ | with_reducible refine zw_lcR1 ?_ | with_reducible refine zw_lcR2 ?_ | with_reducible refine zt_yes ?_ | with_reducible refine zo_eqI ?_ | with_reducible refine zo_eqS ?_ | with_reducible refine zs_par3 ?_ | with_reducible refine zc_min2 ?_ | with_reducible refine zc_max2 ?_ | with_reducible refine zo_isN ?_ | with_reducible refine zo_notN ?_ | with_reducible refine zo_eqB ?_ | with_reducible refine zo_neB ?_ | with_reducible refine zo_neI ?_ | with_reducible refine zo_neS ?_ | with_reducible refine zo_inTS ?_ | with_reducible refine zo_inLS ?_ | with_reducible refine' zs_raiseS ?_ | with_reducible refine zw_js ?_ | with_reducible refine zj_nil ?_ | with_reducible refine zj_cons ?_ | with_reducible refine zw_chain ?_)
local macro_rules | `(tactic| walk_at "zz") => `(tactic| repeat (walk_at "z"))
local macro_rules | `(tactic| walk_at "ze") => `(tactic| first
  | refine ⟨fun _ => ?_, fun z => Bool.noConfusion z⟩ | refine ⟨fun z => Bool.noConfusion z, fun _ => ?_⟩
  | refine ⟨_, _, zg_tup rfl (zgs_cons (zgs_cons zgs_nil)), ?_⟩ | refine ⟨_, _, zg_tup rfl (zgs_cons (zgs_cons (zgs_cons zgs_nil))), ?_⟩ | refine ⟨_, _, zg_name, ?_⟩
  | refine ⟨_, _, _, rfl, rfl, rfl, ?_⟩ | refine ⟨_, _, rfl, rfl, ?_⟩ | refine ⟨_, rfl, ?_⟩ | exact ⟨_, rfl, rfl⟩)
local macro_rules | `(tactic| walk_at "zf") => `(tactic| first | refine ⟨_, _, _, _, rfl, m0, rfl, ?_⟩ | refine ⟨_, _, rfl, ⟨_, _, m0, rfl⟩, ?_⟩ | refine ⟨_, _, _, _, rfl, (by exact Nat.le_of_ble_eq_true rfl), .here, ?_⟩ | with_reducible refine zs_fld (by assumption) (by assumption) ?_ | with_reducible refine zw_fld (by assumption) (by assumption) ?_ | with_reducible refine zs_fldaug (by assumption) (by assumption) ?_)
local macro_rules | `(tactic| walk_at "zfq") => `(tactic| repeat (first | walk_at "zf" | walk_at "z" | walk_at "ze"))
local macro_rules | `(tactic| walk_at "zq") => `(tactic| repeat (first | walk_at "z" | walk_at "ze"))
local macro_rules | `(tactic| walk_at "zt") => `(tactic| first | (refine ⟨_, allD_nil, (by rw [sizeLine_eq]; first | decide | exact Nat.le_of_ble_eq_true rfl), ?_⟩) | (refine ⟨_, (allD_cons allD_nil), (by rw [sizeLine_eq]; first | decide | exact Nat.le_of_ble_eq_true rfl), ?_⟩) | (refine ⟨_, (allD_cons (allD_cons allD_nil)), (by rw [sizeLine_eq]; first | decide | exact Nat.le_of_ble_eq_true rfl), ?_⟩) | (refine ⟨_, (allD_cons (allD_cons (allD_cons allD_nil))), (by rw [sizeLine_eq]; first | decide | exact Nat.le_of_ble_eq_true rfl), ?_⟩) | (refine ⟨_, (allD_cons (allD_cons (allD_cons (allD_cons allD_nil)))), (by rw [sizeLine_eq]; first | decide | exact Nat.le_of_ble_eq_true rfl), ?_⟩) | (refine ⟨_, (allD_cons (allD_cons (allD_cons (allD_cons (allD_cons allD_nil))))), (by rw [sizeLine_eq]; first | decide | exact Nat.le_of_ble_eq_true rfl), ?_⟩) | (refine ⟨_, (allD_cons (allD_cons (allD_cons (allD_cons (allD_cons (allD_cons allD_nil)))))), (by rw [sizeLine_eq]; first | decide | exact Nat.le_of_ble_eq_true rfl), ?_⟩) | (refine ⟨_, (allD_cons (allD_cons (allD_cons (allD_cons (allD_cons (allD_cons (allD_cons allD_nil))))))), (by rw [sizeLine_eq]; first | decide | exact Nat.le_of_ble_eq_true rfl), ?_⟩) | (refine ⟨_, (allD_cons (allD_cons (allD_cons (allD_cons (allD_cons (allD_cons (allD_cons (allD_cons allD_nil)))))))), (by rw [sizeLine_eq]; first | decide | exact Nat.le_of_ble_eq_true rfl), ?_⟩) | (refine ⟨_, (allD_cons (allD_cons (allD_cons (allD_cons (allD_cons (allD_cons (allD_cons (allD_cons (allD_cons allD_nil))))))))), (by rw [sizeLine_eq]; first | decide | exact Nat.le_of_ble_eq_true rfl), ?_⟩) | (refine ⟨_, (allD_cons (allD_cons (allD_cons (allD_cons (allD_cons (allD_cons (allD_cons (allD_cons (allD_cons (allD_cons allD_nil)))))))))), (by rw [sizeLine_eq]; first | decide | exact Nat.le_of_ble_eq_true rfl), ?_⟩) | (refine ⟨_, (allD_cons (allD_cons (allD_cons (allD_cons (allD_cons (allD_cons (allD_cons (allD_cons (allD_cons (allD_cons (allD_cons allD_nil))))))))))), (by rw [sizeLine_eq]; first | decide | exact Nat.le_of_ble_eq_true rfl), ?_⟩) | (refine ⟨_, (allD_cons (allD_cons (allD_cons (allD_cons (allD_cons (allD_cons (allD_cons (allD_cons (allD_cons (allD_cons (allD_cons (allD_cons allD_nil)))))))))))), (by rw [sizeLine_eq]; first | decide | exact Nat.le_of_ble_eq_true rfl), ?_⟩) | (refine ⟨_, (allD_cons (allD_cons (allD_cons (allD_cons (allD_cons (allD_cons (allD_cons (allD_cons (allD_cons (allD_cons (allD_cons (allD_cons (allD_cons allD_nil))))))))))))), (by rw [sizeLine_eq]; first | decide | exact Nat.le_of_ble_eq_true rfl), ?_⟩) | (refine ⟨_, (allD_cons (allD_cons (allD_cons (allD_cons (allD_cons (allD_cons (allD_cons (allD_cons (allD_cons (allD_cons (allD_cons (allD_cons (allD_cons (allD_cons allD_nil)))))))))))))), (by rw [sizeLine_eq]; first | decide | exact Nat.le_of_ble_eq_true rfl), ?_⟩) | (refine ⟨_, (allD_cons (allD_cons (allD_cons (allD_cons (allD_cons (allD_cons (allD_cons (allD_cons (allD_cons (allD_cons (allD_cons (allD_cons (allD_cons (allD_cons (allD_cons allD_nil))))))))))))))), (by rw [sizeLine_eq]; first | decide | exact Nat.le_of_ble_eq_true rfl), ?_⟩) | (refine ⟨_, (allD_cons (allD_cons (allD_cons (allD_cons (allD_cons (allD_cons (allD_cons (allD_cons (allD_cons (allD_cons (allD_cons (allD_cons (allD_cons (allD_cons (allD_cons (allD_cons allD_nil)))))))))))))))), (by rw [sizeLine_eq]; first | decide | exact Nat.le_of_ble_eq_true rfl), ?_⟩) | (refine ⟨_, (allD_cons (allD_cons (allD_cons (allD_cons (allD_cons (allD_cons (allD_cons (allD_cons (allD_cons (allD_cons (allD_cons (allD_cons (allD_cons (allD_cons (allD_cons (allD_cons (allD_cons allD_nil))))))))))))))))), (by rw [sizeLine_eq]; first | decide | exact Nat.le_of_ble_eq_true rfl), ?_⟩) | (refine ⟨_, (allD_cons (allD_cons (allD_cons (allD_cons (allD_cons (allD_cons (allD_cons (allD_cons (allD_cons (allD_cons (allD_cons (allD_cons (allD_cons (allD_cons (allD_cons (allD_cons (allD_cons (allD_cons allD_nil)))))))))))))))))), (by rw [sizeLine_eq]; first | decide | exact Nat.le_of_ble_eq_true rfl), ?_⟩) | (refine ⟨_, (allD_cons (allD_cons (allD_cons (allD_cons (allD_cons (allD_cons (allD_cons (allD_cons (allD_cons (allD_cons (allD_cons (allD_cons (allD_cons (allD_cons (allD_cons (allD_cons (allD_cons (allD_cons (allD_cons allD_nil))))))))))))))))))), (by rw [sizeLine_eq]; first | decide | exact Nat.le_of_ble_eq_true rfl), ?_⟩) | (refine ⟨_, (allD_cons (allD_cons (allD_cons (allD_cons (allD_cons (allD_cons (allD_cons (allD_cons (allD_cons (allD_cons (allD_cons (allD_cons (allD_cons (allD_cons (allD_cons (allD_cons (allD_cons (allD_cons (allD_cons (allD_cons allD_nil)))))))))))))))))))), (by rw [sizeLine_eq]; first | decide | exact Nat.le_of_ble_eq_true rfl), ?_⟩) | (refine ⟨_, (allD_cons (allD_cons (allD_cons (allD_cons (allD_cons (allD_cons (allD_cons (allD_cons (allD_cons (allD_cons (allD_cons (allD_cons (allD_cons (allD_cons (allD_cons (allD_cons (allD_cons (allD_cons (allD_cons (allD_cons (allD_cons allD_nil))))))))))))))))))))), (by rw [sizeLine_eq]; first | decide | exact Nat.le_of_ble_eq_true rfl), ?_⟩) | (refine ⟨_, (allD_cons (allD_cons (allD_cons (allD_cons (allD_cons (allD_cons (allD_cons (allD_cons (allD_cons (allD_cons (allD_cons (allD_cons (allD_cons (allD_cons (allD_cons (allD_cons (allD_cons (allD_cons (allD_cons (allD_cons (allD_cons (allD_cons allD_nil)))))))))))))))))))))), (by rw [sizeLine_eq]; first | decide | exact Nat.le_of_ble_eq_true rfl), ?_⟩) | (refine ⟨_, (allD_cons (allD_cons (allD_cons (allD_cons (allD_cons (allD_cons (allD_cons (allD_cons (allD_cons (allD_cons (allD_cons (allD_cons (allD_cons (allD_cons (allD_cons (allD_cons (allD_cons (allD_cons (allD_cons (allD_cons (allD_cons (allD_cons (allD_cons allD_nil))))))))))))))))))))))), (by rw [sizeLine_eq]; first | decide | exact Nat.le_of_ble_eq_true rfl), ?_⟩))
def topS (i : Nat) : Stmt := PySem.Challenge.pw_fateboards_k00_whole_rules_as_text.main.body.getD i (.Pass ⟨0, 0, 0, 0⟩)
abbrev s_is_between : Stmt := topS 6
abbrev N_is_between : List Str := ["value", "low", "high"]
theorem sc_is_between : FnScope N_is_between ["value", "low", "high"] (defScope s_is_between) := ⟨rfl, rfl, rfl, by decide +kernel, rfl, by decide +kernel, by decide +kernel⟩
abbrev s_check_text : Stmt := topS 7
abbrev N_check_text : List Str := ["value"]
theorem sc_check_text : FnScope N_check_text ["value"] (defScope s_check_text) := ⟨rfl, rfl, rfl, by decide +kernel, rfl, by decide +kernel, by decide +kernel⟩
abbrev s_WordReader_init : Stmt := inClass (topS 9) 0
abbrev N_WordReader_init : List Str := ["self", "text"]
theorem sc_WordReader_init : FnScope N_WordReader_init ["self", "text"] (defScope s_WordReader_init) := ⟨rfl, rfl, rfl, by decide +kernel, rfl, by decide +kernel, by decide +kernel⟩
abbrev s_WordReader_take : Stmt := inClass (topS 9) 1
abbrev N_WordReader_take : List Str := ["self", "allowed", "word"]
theorem sc_WordReader_take : FnScope N_WordReader_take ["self", "allowed"] (defScope s_WordReader_take) := ⟨rfl, rfl, rfl, by decide +kernel, rfl, by decide +kernel, by decide +kernel⟩
abbrev s_WordReader_end : Stmt := inClass (topS 9) 2
abbrev N_WordReader_end : List Str := ["self"]
theorem sc_WordReader_end : FnScope N_WordReader_end ["self"] (defScope s_WordReader_end) := ⟨rfl, rfl, rfl, by decide +kernel, rfl, by decide +kernel, by decide +kernel⟩
abbrev s_check_rule : Stmt := topS 13
abbrev N_check_rule : List Str := ["rule"]
theorem sc_check_rule : FnScope N_check_rule ["rule"] (defScope s_check_rule) := ⟨rfl, rfl, rfl, by decide +kernel, rfl, by decide +kernel, by decide +kernel⟩
abbrev s_is_rule : Stmt := topS 14
abbrev N_is_rule : List Str := ["value", "births", "stays", "states"]
theorem sc_is_rule : FnScope N_is_rule ["value"] (defScope s_is_rule) := ⟨rfl, rfl, rfl, by decide +kernel, rfl, by decide +kernel, by decide +kernel⟩
abbrev s_are_counts : Stmt := topS 15
abbrev N_are_counts : List Str := ["value", "least", "count"]
theorem sc_are_counts : FnScope N_are_counts ["value", "least"] (defScope s_are_counts) := ⟨rfl, rfl, rfl, by decide +kernel, rfl, by decide +kernel, by decide +kernel⟩
abbrev s_write_rule : Stmt := topS 16
abbrev N_write_rule : List Str := ["rule", "births", "stays", "states"]
theorem sc_write_rule : FnScope N_write_rule ["rule"] (defScope s_write_rule) := ⟨rfl, rfl, rfl, by decide +kernel, rfl, by decide +kernel, by decide +kernel⟩
abbrev s_write_counts : Stmt := topS 17
abbrev N_write_counts : List Str := ["counts", "count"]
theorem sc_write_counts : FnScope N_write_counts ["counts"] (defScope s_write_counts) := ⟨rfl, rfl, rfl, by decide +kernel, rfl, by decide +kernel, by decide +kernel⟩
abbrev s_read_rule : Stmt := topS 18
abbrev N_read_rule : List Str := ["text", "reader", "births", "stays", "states"]
theorem sc_read_rule : FnScope N_read_rule ["text"] (defScope s_read_rule) := ⟨rfl, rfl, rfl, by decide +kernel, rfl, by decide +kernel, by decide +kernel⟩
abbrev s_read_counts : Stmt := topS 19
abbrev N_read_counts : List Str := ["reader", "least", "behind", "word", "counts"]
theorem sc_read_counts : FnScope N_read_counts ["reader", "least", "behind"] (defScope s_read_counts) := ⟨rfl, rfl, rfl, by decide +kernel, rfl, by decide +kernel, by decide +kernel⟩
abbrev s_law_taken : Stmt := topS 21
abbrev N_law_taken : List Str := ["row", "many", "found", "cell"]
theorem sc_law_taken : FnScope N_law_taken ["row", "many"] (defScope s_law_taken) := ⟨rfl, rfl, rfl, by decide +kernel, rfl, by decide +kernel, by decide +kernel⟩
abbrev s_law_pick : Stmt := topS 22
abbrev N_law_pick : List Str := ["row", "things"]
theorem sc_law_pick : FnScope N_law_pick ["row", "things"] (defScope s_law_pick) := ⟨rfl, rfl, rfl, by decide +kernel, rfl, by decide +kernel, by decide +kernel⟩
abbrev s_law_some_rule : Stmt := topS 23
abbrev N_law_some_rule : List Str := ["row", "way", "births", "k", "stays"]
theorem sc_law_some_rule : FnScope N_law_some_rule ["row"] (defScope s_law_some_rule) := ⟨rfl, rfl, rfl, by decide +kernel, rfl, by decide +kernel, by decide +kernel⟩
abbrev s_law_rule_text : Stmt := topS 24
abbrev N_law_rule_text : List Str := ["rule", "births", "one", "stays"]
theorem sc_law_rule_text : FnScope N_law_rule_text ["rule"] (defScope s_law_rule_text) := ⟨rfl, rfl, rfl, by decide +kernel, rfl, by decide +kernel, by decide +kernel⟩
abbrev s_law_alike : Stmt := topS 25
abbrev N_law_alike : List Str := ["found", "due", "k"]
theorem sc_law_alike : FnScope N_law_alike ["found", "due"] (defScope s_law_alike) := ⟨rfl, rfl, rfl, by decide +kernel, rfl, by decide +kernel, by decide +kernel⟩
abbrev s_law_counts_due : Stmt := topS 26
abbrev N_law_counts_due : List Str := ["words", "spot", "least", "end", "found", "word"]
theorem sc_law_counts_due : FnScope N_law_counts_due ["words", "spot", "least", "end"] (defScope s_law_counts_due) := ⟨rfl, rfl, rfl, by decide +kernel, rfl, by decide +kernel, by decide +kernel⟩
abbrev s_law_rule_due : Stmt := topS 27
abbrev N_law_rule_due : List Str := ["text", "words", "starts", "at", "word", "one", "two"]
theorem sc_law_rule_due : FnScope N_law_rule_due ["text"] (defScope s_law_rule_due) := ⟨rfl, rfl, rfl, by decide +kernel, rfl, by decide +kernel, by decide +kernel⟩
abbrev s_law : Stmt := topS 28
abbrev N_law : List Str := ["script", "row", "rule", "text", "texts", "turn", "at", "sign", "some", "told", "error"]
theorem sc_law : FnScope N_law ["script"] (defScope s_law) := ⟨rfl, rfl, rfl, by decide +kernel, rfl, by decide +kernel, by decide +kernel⟩
def dBetween (x : PyData) (lo hi : Int) : Bool := match x with | .int i => decide (lo ≤ i) && decide (i ≤ hi) | _ => false
def R_between (ds : List PyData) (o : DOut) : Prop := ∃ x lo hi, ds = [x, .int lo, .int hi] ∧ o = .ok (.bool (dBetween x lo hi))
theorem ok_is_between {P : Program} {w : World} {K : Fg} {mg : Str → Option Value} {base : Heap} {f : Addr} {fd : FuncData} (F : Fun K "is_between" "is_between" s_is_between f fd)
    (m_isinstance : mg "isinstance" = none)
    (m_int : mg "int" = none)
    (m_bool : mg "bool" = none) :
    FnOk P w K mg base (L2.CX P w) 1 f fd ["value", "low", "high"] (spD K 3 R_between) := by
  refine F.okX sc_is_between (fun vs H Q E h => len_D h) (fun cdv A outer s H vs Q E hr h => ⟨_, (pss_cons (ps_if (PW.pt (pw_or (pt_val (pe_callB call_isi (by rfl) m_isinstance bb_isinstance (pa_cons (pv 0) (pa_cons (pe_bltn (v := .ty "bool") (by rfl) m_bool bt_bool rfl) pa_nil))) (fun _ => rfl)) (pw_or1 (pt_not (pt_val (pe_callB call_isi (by rfl) m_isinstance bb_isinstance (pa_cons (pv 0) (pa_cons (pe_bltn (v := .ty "int") (by rfl) m_int bt_int rfl) pa_nil))) (fun _ => rfl)))))) (pss_one (ps_ret pe_bl)) pss_nil)
      (pss_one (ps_ret (pe_chain op_le op_le (pv 1) (pv 0) (pv 2))))),
    fn_D h fun ds o hk hR => ?_⟩)
  try dsimp only [L2.cxOf]
  obtain ⟨x, lo, hi, rfl, rfl⟩ := hR
  walk_at "zz"
  cases x <;> walk_at "zq"
  all_goals try rfl
  rename_i i _ _
  have hb : dBetween (.int i) lo hi = (decide (lo ≤ i) && decide (i ≤ hi)) := rfl
  refine ⟨fun e => ?_, fun e => ?_⟩
  · exact ⟨_, rfl, by rw [hb, e]; rfl⟩
  · walk_at "zq"
    show _ = _
    rw [hb, e]
    rfl
def R_text (C : Addr) (ds : List PyData) (o : DOut) : Prop := ∃ x, ds = [x] ∧ ((∃ s, x = .str s ∧ o = .ok .none) ∨ ((∀ s, x ≠ .str s) ∧ o = .ex ⟨C, []⟩))
theorem ok_check_text {P : Program} {w : World} {K : Fg} {mg : Str → Option Value} {base : Heap} {f : Addr} {fd : FuncData} {C_NotText : Addr} (F : Fun K "check_text" "check_text" s_check_text f fd)
    (m_isinstance : mg "isinstance" = none)
    (m_str : mg "str" = none)
    (r_NotText : Rsr K mg "NotText" C_NotText) :
    FnOk P w K mg base (L2.CX P w) 1 f fd ["value"] (spD K 1 (R_text C_NotText)) := by
  refine F.okX sc_check_text (fun vs H Q E h => len_D h) (fun cdv A outer s H vs Q E hr h => ⟨_, (pss_one (ps_if (pt_not (pt_val (pe_callB call_isi (by rfl) m_isinstance bb_isinstance (pa_cons (pv 0) (pa_cons (pe_bltn (v := .ty "str") (by rfl) m_str bt_str rfl) pa_nil))) (fun _ => rfl))) (pss_one (ps_raise rfl (takes_of rfl rfl rfl rfl) (pmk_own PySem.F.excBase_ValueError r_NotText.xi r_NotText.g r_NotText.k (raises_own r_NotText.ex r_NotText.ty) rfl))) pss_nil)),
    fn_D h fun ds o hk hR => ?_⟩)
  try dsimp only [L2.cxOf]
  obtain ⟨x, rfl, hx⟩ := hR
  walk_at "zz"
  rcases hx with ⟨s, rfl, rfl⟩ | ⟨hn, rfl⟩
  · walk_at "zq"
    rfl
  · cases x <;> walk_at "zq"
    all_goals first | rfl | exact absurd rfl (hn _)
def wds (s : Str) : List Str := Txt.split s " "
def off (ws : List Str) (k : Nat) : Nat := ((ws.take k).map fun w => w.length + 1).sum
def RdF (ws : List Str) (L k : Nat) : List (Str × ZV) := [("words", .d (.list (ws.map .str))), ("taken", .d (.int k)), ("place", .d (.int (off ws k))), ("length", .d (.int L))]
def R_init (fs : List (Str × ZV)) (ds : List PyData) (o : DOut) (fs' : List (Str × ZV)) : Prop := ∃ s : Str, fs = [] ∧ ds = [.str s] ∧ s.length ≤ 1000 ∧ o = .ok .none ∧ fs' = RdF (wds s) s.length 0
theorem ok_WordReader_init {P : Program} {w : World} {K : Fg} {mg : Str → Option Value} {base : Heap} {f : Addr} {fd : FuncData} {C_WordReader : Addr} (F : Fun K "__init__" "WordReader.__init__" s_WordReader_init f fd)
    (na_WordReader_words : NoAttr K C_WordReader "words")
    (na_WordReader_taken : NoAttr K C_WordReader "taken")
    (na_WordReader_place : NoAttr K C_WordReader "place")
    (na_WordReader_length : NoAttr K C_WordReader "length")
    (m_len : mg "len" = none)
    (cl_WordReader : Cls K C_WordReader) :
    FnOk P w K mg base (L2.CX P w) 1 f fd ["self", "text"] (spO K C_WordReader 1 R_init) := by
  refine F.okX sc_WordReader_init (fun vs H Q E h => len_O h) (fun cdv A outer s H vs Q E hr h => ⟨_, (pss_cons (ps_fld (pv 0) (pe_split (pv 1) pe_str) rfl)
      (pss_cons (ps_fld (pv 0) pe_int rfl)
      (pss_cons (ps_fld (pv 0) pe_int rfl)
      (pss_one (ps_fld (pv 0) (pe_callB call_len (by rfl) m_len bb_len (pa_cons (pv 1) pa_nil)) rfl))))),
    fn_O h fun p fs ds o fs2 hk hR => ?_⟩)
  try dsimp only [L2.cxOf]
  obtain ⟨s, rfl, rfl, hs, rfl, rfl⟩ := hR
  have hsz : s.length + 2 ≤ sizeLine := by rw [sizeLine_eq]; omega
  walk_at "zfq"
  refine zm_split rfl hsz ?_
  walk_at "zfq"
  refine zc_len (dLen_str (by omega)) ?_
  walk_at "zfq"
  first | exact ⟨rfl, m0⟩ | exact m0
structure RdOk (ws : List Str) (L k : Nat) : Prop where
  n : ws.length ≤ 3000
  k : k ≤ ws.length
  o : off ws ws.length ≤ 5000
  L : L ≤ 5000
theorem off_le (ws : List Str) (k : Nat) : off ws k ≤ off ws ws.length := by
  unfold off
  rw [List.take_length]
  induction ws generalizing k with
  | nil => simp
  | cons a l ih => cases k with
    | zero => simp
    | succ k => simpa using ih k
theorem off_succ {ws : List Str} {k : Nat} {w : Str} (h : ws[k]? = some w) : off ws (k + 1) = off ws k + (w.length + 1) := by
  unfold off
  rw [List.take_add_one, h]
  simp
theorem small_log {i : Int} (h0 : 0 ≤ i) (h : i ≤ 5000) : i.natAbs.log2 < 1920 := by
  have h1 : i.natAbs ≤ 5000 := by omega
  by_cases hz : i.natAbs = 0
  · rw [hz]; decide
  · exact Nat.lt_of_lt_of_le ((Nat.log2_lt hz).2 (show i.natAbs < 2 ^ 13 by omega)) (by decide)
theorem RdF_step {ws : List Str} {L k : Nat} {w : Str} (h : ws[k]? = some w) : putZ "place" (.d (.int ((off ws k : Int) + ((w.length : Int) + 1)))) (putZ "taken" (.d (.int ((k : Int) + 1))) (RdF ws L k)) = RdF ws L (k + 1) := by
  have e := off_succ h
  unfold RdF
  rw [e]
  push_cast
  rfl
def R_take (C : Addr) (fs : List (Str × ZV)) (ds : List PyData) (o : DOut) (fs' : List (Str × ZV)) : Prop := ∃ (ws : List Str) (L k : Nat) (al : List Str), fs = RdF ws L k ∧ ds = [.tuple (al.map .str)] ∧ RdOk ws L k ∧
  ((k = ws.length ∧ o = .ex ⟨C, [("place", .int L)]⟩ ∧ fs' = fs) ∨ (∃ w, ws[k]? = some w ∧ w ∉ al ∧ o = .ex ⟨C, [("place", .int (off ws k))]⟩ ∧ fs' = fs) ∨ (∃ w, ws[k]? = some w ∧ w ∈ al ∧ o = .ok (.str w) ∧ fs' = RdF ws L (k + 1)))
theorem ok_WordReader_take {P : Program} {w : World} {K : Fg} {mg : Str → Option Value} {base : Heap} {f : Addr} {fd : FuncData} {C_InvalidText C_WordReader fI_InvalidText : Addr} (F : Fun K "take" "WordReader.take" s_WordReader_take f fd)
    (na_WordReader_taken : NoAttr K C_WordReader "taken")
    (m_len : mg "len" = none)
    (na_WordReader_words : NoAttr K C_WordReader "words")
    (r_InvalidText : PySem.SupX.SupTxt P K mg "InvalidText" "InvalidText.__init__" "place" "the text goes wrong at " C_InvalidText fI_InvalidText)
    (na_WordReader_length : NoAttr K C_WordReader "length")
    (na_WordReader_place : NoAttr K C_WordReader "place")
    (cl_WordReader : Cls K C_WordReader) :
    FnOk P w K mg base (L2.CX P w) 1 f fd ["self", "allowed"] (spO K C_WordReader 1 (R_take C_InvalidText)) := by
  refine F.okX sc_WordReader_take (fun vs H Q E h => len_O h) (fun cdv A outer s H vs Q E hr h => ⟨_, (pss_cons (ps_if (pt_cmpR (op_eqA hr.units) (pe_fld (pv 0) rfl) (pe_callB call_len (by rfl) m_len bb_len (pa_cons (pe_fld (pv 0) rfl) pa_nil)) (nomark _)) (pss_one (ps_raise rfl (takes_of rfl rfl rfl rfl) (pmk_sup r_InvalidText hr (pa_cons (pe_fld (pv 0) rfl) pa_nil)))) pss_nil)
      (pss_cons (ps_set (i := 2) sc_WordReader_take.nd rfl (by first | exact Or.inl rfl | exact Or.inr rfl) (pe_ix ix_seq (pe_fld (pv 0) rfl) (pe_fld (pv 0) rfl) (fun _ _ => rfl)))
      (pss_cons (ps_if (pt_cmpR op_notIn_seq (pv 2) (pv 1) (by rfl)) (pss_one (ps_raise rfl (takes_of rfl rfl rfl rfl) (pmk_sup r_InvalidText hr (pa_cons (pe_fld (pv 0) rfl) pa_nil)))) pss_nil)
      (pss_cons (ps_fldaug (pv 0) pe_int in_add)
      (pss_cons (ps_fldaug (pv 0) (pe_op op_addA (pe_callB call_len (by rfl) m_len bb_len (pa_cons (pv 2) pa_nil)) pe_int) in_add)
      (pss_one (ps_ret (pv 2)))))))),
    fn_O h fun p fs ds o fs2 hk hR => ?_⟩)
  try dsimp only [L2.cxOf]
  obtain ⟨ws, L, k, al, rfl, rfl, hok, hR⟩ := hR
  have hsz : (sizeLine : Nat) = 16777216 := sizeLine_eq
  have h1 := hok.n
  have h2 := hok.k
  have h3 := hok.o
  have h4 := hok.L
  have h5 := off_le ws k
  walk_at "zfq"
  rw [List.length_map]
  rcases hR with ⟨rfl, rfl, rfl⟩ | ⟨w, hw, hn, rfl, rfl⟩ | ⟨w, hw, hn, rfl, rfl⟩
  · rw [decide_eq_true rfl]
    walk_at "zfq"
    exact ⟨.inr ⟨_, rfl, small_log (by omega) (by omega)⟩, rfl, m0⟩
  · have hk : k < ws.length := (List.getElem?_eq_some_iff.mp hw).1
    rw [decide_eq_false (show ¬ ((k : Int) = (ws.length : Nat)) by omega)]
    walk_at "zfq"
    refine zo_ix (atI_str hw) ?_
    walk_at "zfq"
    rw [decide_eq_false hn]
    walk_at "zfq"
    exact ⟨.inr ⟨_, rfl, small_log (by omega) (by omega)⟩, rfl, m0⟩
  · have hk : k < ws.length := (List.getElem?_eq_some_iff.mp hw).1
    have h6 := off_le ws (k + 1)
    have h7 := off_succ hw
    rw [decide_eq_false (show ¬ ((k : Int) = (ws.length : Nat)) by omega)]
    walk_at "zfq"
    refine zo_ix (atI_str hw) ?_
    walk_at "zfq"
    rw [decide_eq_true hn]
    walk_at "zfq"
    refine zc_len (dLen_str (by omega)) ?_
    walk_at "zfq"
    rw [RdF_step hw]
    exact ⟨⟨_, rfl, rfl⟩, m0⟩
def R_end (C : Addr) (fs : List (Str × ZV)) (ds : List PyData) (o : DOut) (fs' : List (Str × ZV)) : Prop := ∃ (ws : List Str) (L k : Nat), fs = RdF ws L k ∧ fs' = fs ∧ ds = [] ∧ RdOk ws L k ∧ ((k = ws.length ∧ o = .ok .none) ∨ (k < ws.length ∧ o = .ex ⟨C, [("place", .int (off ws k))]⟩))
theorem ok_WordReader_end {P : Program} {w : World} {K : Fg} {mg : Str → Option Value} {base : Heap} {f : Addr} {fd : FuncData} {C_InvalidText C_WordReader fI_InvalidText : Addr} (F : Fun K "end" "WordReader.end" s_WordReader_end f fd)
    (na_WordReader_taken : NoAttr K C_WordReader "taken")
    (m_len : mg "len" = none)
    (na_WordReader_words : NoAttr K C_WordReader "words")
    (r_InvalidText : PySem.SupX.SupTxt P K mg "InvalidText" "InvalidText.__init__" "place" "the text goes wrong at " C_InvalidText fI_InvalidText)
    (na_WordReader_place : NoAttr K C_WordReader "place")
    (cl_WordReader : Cls K C_WordReader) :
    FnOk P w K mg base (L2.CX P w) 1 f fd ["self"] (spO K C_WordReader 0 (R_end C_InvalidText)) := by
  refine F.okX sc_WordReader_end (fun vs H Q E h => len_O h) (fun cdv A outer s H vs Q E hr h => ⟨_, (pss_one (ps_if (pt_cmpR op_lt (pe_fld (pv 0) rfl) (pe_callB call_len (by rfl) m_len bb_len (pa_cons (pe_fld (pv 0) rfl) pa_nil)) (nomark _)) (pss_one (ps_raise rfl (takes_of rfl rfl rfl rfl) (pmk_sup r_InvalidText hr (pa_cons (pe_fld (pv 0) rfl) pa_nil)))) pss_nil)),
    fn_O h fun p fs ds o fs2 hk hR => ?_⟩)
  try dsimp only [L2.cxOf]
  obtain ⟨ws, L, k, rfl, rfl, rfl, hok, hR⟩ := hR
  have hsz : (sizeLine : Nat) = 16777216 := sizeLine_eq
  have h1 := hok.n
  have h3 := hok.o
  have h5 := off_le ws k
  walk_at "zfq"
  all_goals rw [List.length_map]
  rcases hR with ⟨rfl, rfl⟩ | ⟨hk, rfl⟩
  · rw [decide_eq_false (by omega)]
    walk_at "zfq"
    first | exact ⟨rfl, m0⟩ | exact m0
  · rw [decide_eq_true (by omega)]
    walk_at "zfq"
    exact ⟨.inr ⟨_, rfl, small_log (by omega) (by omega)⟩, rfl, m0⟩
/-- a strictly ascending row of numbers from lo to 8 -/
def asc : Int → List Int → Bool
  | _, [] => true
  | lo, a :: l => decide (lo ≤ a) && decide (a ≤ 8) && asc (a + 1) l
def lb (lo : Int) (l : List Int) (i : Nat) : Int := (lo :: l.map (· + 1)).getD i 0
theorem asc_at {l : List Int} : ∀ {lo : Int} {i : Nat} {x : Int}, asc lo l = true → l[i]? = some x → (lb lo l i ≤ x ∧ x ≤ 8) ∧ lb lo l (i + 1) = x + 1 := by
  induction l with
  | nil => intro lo i x _ h; simp at h
  | cons a l ih =>
    intro lo i x h e
    have h' : (decide (lo ≤ a) && decide (a ≤ 8) && asc (a + 1) l) = true := h
    simp only [Bool.and_eq_true, decide_eq_true_eq] at h'
    cases i with
    | zero =>
      simp at e
      subst e
      exact ⟨h'.1, rfl⟩
    | succ i => exact ih (lo := a + 1) h'.2 (by simpa using e)
def R_counts (ds : List PyData) (o : DOut) : Prop := ∃ (l : List Int) (lo : Int), ds = [.tuple (l.map .int), .int lo] ∧ asc lo l = true ∧ o = .ok (.bool true)
theorem ok_are_counts {P : Program} {w : World} {K : Fg} {mg : Str → Option Value} {base : Heap} {f : Addr} {fd : FuncData} (F : Fun K "_are_counts" "_are_counts" s_are_counts f fd)
    (m_isinstance : mg "isinstance" = none)
    (m_tuple : mg "tuple" = none)
    (c_is_between : Cal P w K mg base 1 "is_between" (spD K 3 R_between)) :
    FnOk P w K mg base (L2.CX P w) 2 f fd ["value", "least"] (spD K 2 R_counts) := by
  refine F.okX sc_are_counts (fun vs H Q E h => len_D h) (fun cdv A outer s H vs Q E hr h => ⟨_, (pss_cons (ps_if (pt_not (pt_val (pe_callB call_isi (by rfl) m_isinstance bb_isinstance (pa_cons (pv 0) (pa_cons (pe_bltn (v := .ty "tuple") (by rfl) m_tuple bt_tuple rfl) pa_nil))) (fun _ => rfl))) (pss_one (ps_ret pe_bl)) pss_nil)
      (pss_cons (ps_for (passes_of rfl) rfl (pi_tup (pv 0)) (pg_name (i := 2) sc_are_counts.nd rfl (by first | exact Or.inl rfl | exact Or.inr rfl)) (pss_cons (ps_if (pt_not (pt_val (pe_cl c_is_between hr (show 1 ≤ 1 by decide) passL (pa_cons (pv 2) (pa_cons (pv 1) (pa_cons pe_int pa_nil)))) (fun _ => rfl))) (pss_one (ps_ret pe_bl)) pss_nil)
      (pss_one (ps_set (i := 1) sc_are_counts.nd rfl (by first | exact Or.inl rfl | exact Or.inr rfl) (pe_op op_addA (pv 2) pe_int)))))
      (pss_one (ps_ret pe_bl)))),
    fn_D h fun ds o hk hR => ?_⟩)
  try dsimp only [L2.cxOf]
  obtain ⟨l, lo, rfl, ha, rfl⟩ := hR
  walk_at "zq"
  refine ⟨fun i S2 M2 => ∃ c, S2 = [some (.d (.tuple (l.map .int))), some (.d (.int (lb lo l i))), c] ∧ M2 = [], ⟨_, rfl, rfl⟩, ?_, ?_⟩
  · rintro i x S2 M2 hx ⟨c, rfl, rfl⟩
    rw [List.getElem?_map] at hx
    obtain ⟨y, hy, rfl⟩ := Option.map_eq_some_iff.mp hx
    obtain ⟨⟨q1, q2⟩, q3⟩ := asc_at ha hy
    walk_at "zq"
    refine ⟨_, _, by walk_at "zd", rfl, ⟨.int y, lb lo l i, 8, rfl, rfl⟩, ?_⟩
    rw [show dBetween (.int y) (lb lo l i) 8 = true by unfold dBetween; simp [q1, q2]]
    walk_at "zq"
    exact ⟨_, by rw [q3]; rfl, rfl⟩
  · rintro S2 M2 ⟨c, rfl, rfl⟩
    walk_at "zq"
    rfl
def R_isRule (ds : List PyData) (o : DOut) : Prop := ∃ (b s : List Int) (n : Int), ds = [.tuple [.tuple (b.map .int), .tuple (s.map .int), .int n]] ∧ asc 1 b = true ∧ asc 0 s = true ∧ 2 ≤ n ∧ n ≤ 6 ∧ o = .ok (.bool true)
theorem ok_is_rule {P : Program} {w : World} {K : Fg} {mg : Str → Option Value} {base : Heap} {f : Addr} {fd : FuncData} (F : Fun K "_is_rule" "_is_rule" s_is_rule f fd)
    (m_len : mg "len" = none)
    (m_isinstance : mg "isinstance" = none)
    (m_tuple : mg "tuple" = none)
    (c_is_between : Cal P w K mg base 1 "is_between" (spD K 3 R_between))
    (c__are_counts : Cal P w K mg base 2 "_are_counts" (spD K 2 R_counts)) :
    FnOk P w K mg base (L2.CX P w) 3 f fd ["value"] (spD K 1 R_isRule) := by
  refine F.okX sc_is_rule (fun vs H Q E h => len_D h) (fun cdv A outer s H vs Q E hr h => ⟨_, (pss_cons (ps_if (PW.pt (pw_or (pt_not (pt_val (pe_callB call_isi (by rfl) m_isinstance bb_isinstance (pa_cons (pv 0) (pa_cons (pe_bltn (v := .ty "tuple") (by rfl) m_tuple bt_tuple rfl) pa_nil))) (fun _ => rfl))) (pw_or1 (pt_cmpR (op_neA hr.units) (pe_callB call_len (by rfl) m_len bb_len (pa_cons (pv 0) pa_nil)) pe_int (nomark _))))) (pss_one (ps_ret pe_bl)) pss_nil)
      (pss_cons (ps_asg (pv 0) (pg_tup rfl (pgs_cons (pg_name (i := 1) sc_is_rule.nd rfl (by first | exact Or.inl rfl | exact Or.inr rfl)) (pgs_cons (pg_name (i := 2) sc_is_rule.nd rfl (by first | exact Or.inl rfl | exact Or.inr rfl)) (pgs_cons (pg_name (i := 3) sc_is_rule.nd rfl (by first | exact Or.inl rfl | exact Or.inr rfl)) pgs_nil)))))
      (pss_one (ps_ret (pe_and (pe_cl c__are_counts hr (show 2 ≤ 2 by decide) passL (pa_cons (pv 1) (pa_cons pe_int pa_nil))) (pe_and (pe_cl c__are_counts hr (show 2 ≤ 2 by decide) passL (pa_cons (pv 2) (pa_cons pe_int pa_nil))) (pe_one (pe_cl c_is_between hr (show 1 ≤ 2 by decide) passL (pa_cons (pv 3) (pa_cons pe_int (pa_cons pe_int pa_nil))))))))))),
    fn_D h fun ds o hk hR => ?_⟩)
  try dsimp only [L2.cxOf]
  obtain ⟨b, s, n, rfl, hb, hs, h1, h2, rfl⟩ := hR
  walk_at "zq"
  refine ⟨_, _, by walk_at "zd", rfl, ⟨b, 1, rfl, hb, rfl⟩, ?_⟩
  walk_at "zq"
  refine ⟨_, _, by walk_at "zd", rfl, ⟨s, 0, rfl, hs, rfl⟩, ?_⟩
  walk_at "zq"
  refine ⟨_, _, by walk_at "zd", rfl, ⟨.int n, 2, 6, rfl, rfl⟩, ?_⟩
  rw [show dBetween (.int n) 2 6 = true by unfold dBetween; simp [h1, h2]]
  walk_at "zq"
  rfl
def R_checkRule (ds : List PyData) (o : DOut) : Prop := ∃ (b s : List Int) (n : Int), ds = [.tuple [.tuple (b.map .int), .tuple (s.map .int), .int n]] ∧ asc 1 b = true ∧ asc 0 s = true ∧ 2 ≤ n ∧ n ≤ 6 ∧ o = .ok .none
theorem ok_check_rule {P : Program} {w : World} {K : Fg} {mg : Str → Option Value} {base : Heap} {f : Addr} {fd : FuncData} (F : Fun K "check_rule" "check_rule" s_check_rule f fd)
    (c__is_rule : Cal P w K mg base 3 "_is_rule" (spD K 1 R_isRule)) :
    FnOk P w K mg base (L2.CX P w) 4 f fd ["rule"] (spD K 1 R_checkRule) := by
  refine F.okX sc_check_rule (fun vs H Q E h => len_D h) (fun cdv A outer s H vs Q E hr h => ⟨_, (pss_one (ps_if (pt_not (pt_val (pe_cl c__is_rule hr (show 3 ≤ 3 by decide) passL (pa_cons (pv 0) pa_nil)) (fun _ => rfl))) (pss_one ps_never) pss_nil)),
    fn_D h fun ds o hk hR => ?_⟩)
  try dsimp only [L2.cxOf]
  obtain ⟨b, s, n, rfl, hb, hs, h1, h2, rfl⟩ := hR
  walk_at "zq"
  refine ⟨_, _, by walk_at "zd", rfl, ⟨b, s, n, rfl, hb, hs, h1, h2, rfl⟩, ?_⟩
  walk_at "zq"
  rfl
/-! ### the words of texts -/
abbrev Sl (l : List Nat) : Str := SX.S l
def dgS (d : Nat) : Str := Sl [48 + d]
def FIGS : List Str := ["0", "1", "2", "3", "4", "5", "6", "7", "8"]
def fig (w : Str) : Option Int := if w ∈ FIGS then some (FIGS.idxOf w : Int) else none
theorem FIGS_eq : FIGS = (List.range 9).map dgS := by decide +kernel
theorem fig_dg : ∀ d : Fin 9, fig (dgS d) = some (d : Nat) := by decide +kernel
theorem int_dg : ∀ d : Fin 9, PySem.intText? (dgS d) = some (d : Nat) := by decide +kernel
theorem mem_figs {w : Str} : w ∈ FIGS ↔ ∃ d : Fin 9, w = dgS d := by
  rw [FIGS_eq]
  simp only [List.mem_map, List.mem_range]
  exact ⟨fun ⟨d, h1, h2⟩ => ⟨⟨d, h1⟩, h2.symm⟩, fun ⟨d, h⟩ => ⟨d, d.2, h.symm⟩⟩
theorem drop_dg : ∀ d a : Fin 9, dgS d ∈ FIGS.drop a ↔ (a : Nat) ≤ (d : Nat) := by decide +kernel
theorem fig_mem {w : Str} {a : Int} (ha : 0 ≤ a) : w ∈ FIGS.drop a.toNat ↔ ∃ d, fig w = some d ∧ a ≤ d := by
  by_cases hw : w ∈ FIGS
  · obtain ⟨d, rfl⟩ := mem_figs.mp hw
    rw [fig_dg d]
    by_cases h9 : a.toNat < 9
    · rw [drop_dg d ⟨a.toNat, h9⟩]
      dsimp only
      constructor
      · intro h
        exact ⟨_, rfl, by omega⟩
      · rintro ⟨e, h1, h2⟩
        have h1 := Option.some.inj h1
        omega
    · rw [List.drop_of_length_le (show FIGS.length ≤ a.toNat from Nat.le_of_not_lt h9)]
      constructor
      · intro h
        cases h
      · rintro ⟨e, h1, h2⟩
        have h1 := Option.some.inj h1
        have := d.2
        omega
  · constructor
    · intro h
      exact absurd (List.mem_of_mem_drop h) hw
    · rintro ⟨e, h1, _⟩
      unfold fig at h1
      rw [if_neg hw] at h1
      cases h1
theorem dg_facts : ∀ d : Fin 9, (dgS d).length = 1 ∧ dgS d ≠ "none" ∧ dgS d ≠ "stays" ∧ dgS d ≠ "states" := by decide +kernel
theorem fig_int {w : Str} {d : Int} (h : fig w = some d) : PySem.intText? w = some d ∧ w.length = 1 ∧ 0 ≤ d ∧ d ≤ 8 ∧ w ≠ "none" ∧ w ≠ "stays" ∧ w ≠ "states" := by
  have hw : w ∈ FIGS := by
    unfold fig at h
    split at h
    · assumption
    · cases h
  obtain ⟨e, rfl⟩ := mem_figs.mp hw
  rw [fig_dg e] at h
  have h := Option.some.inj h
  subst h
  have := e.2
  exact ⟨int_dg e, (dg_facts e).1, by omega, by omega, (dg_facts e).2⟩
theorem str_dg : ∀ d : Fin 9, (toString ((d : Nat) : Int) : Str) = dgS d := by decide +kernel
theorem str_int {i : Int} (h0 : 0 ≤ i) (h8 : i ≤ 8) : (toString i : Str) = Sl [48 + i.toNat] := by
  have h := str_dg ⟨i.toNat, by omega⟩
  have e : ((i.toNat : Nat) : Int) = i := by omega
  rw [show (((⟨i.toNat, by omega⟩ : Fin 9) : Nat) : Int) = i from e] at h
  exact h
theorem joinL_app {c : List Nat} : ∀ {A B : List (List Nat)}, A ≠ [] → B ≠ [] → TL.joinL c (A ++ B) = TL.joinL c A ++ (c ++ TL.joinL c B)
  | [a], b :: B, _, _ => by simp [TL.joinL]
  | a :: a' :: A, B, _, hB => by
    have ih := joinL_app (c := c) (A := a' :: A) (B := B) (by simp) hB
    simp only [List.cons_append] at ih ⊢
    simp only [TL.joinL, ih, List.append_assoc]
theorem tl_free {c : Nat} {x : Str} {l : List Nat} (h : x = Sl l) (hc : (l.contains c) = false) : c ∉ l := by simpa using hc
/-- words in codes, joined by blanks, and cut again -/
theorem wds_join {W : List (List Nat)} (hne : W ≠ []) (h : ∀ p ∈ W, 32 ∉ p) : Txt.split (Sl (TL.joinL [32] W)) " " = W.map Sl := by
  have e : (" " : Str) = Sl [32] := by decide +kernel
  rw [e, SX.split_S (by simp) (by decide), SX.spl_join hne h]
def cwL (l : List Int) : List (List Nat) := if l = [] then [[110, 111, 110, 101]] else l.map fun i => [48 + i.toNat]
def wc (l : List Int) : Str := if l = [] then "none" else Txt.join " " (l.map fun i => (toString i : Str))
theorem wc_eq {l : List Int} (h : ∀ i ∈ l, 0 ≤ i ∧ i ≤ 8) : wc l = Sl (TL.joinL [32] (cwL l)) := by
  unfold wc cwL
  split
  · decide +kernel
  · have e : (" " : Str) = Sl [32] := by decide +kernel
    have e2 : l.map (fun i => (toString i : Str)) = (l.map fun i => [48 + i.toNat]).map Sl := by
      rw [List.map_map]
      exact List.map_congr_left fun i hi => str_int (h i hi).1 (h i hi).2
    rw [e, e2]
    exact SX.join_S _ _
def ruleText (b s : List Int) (n : Int) : Str := (("births " : Str) ++ wc b) ++ " stays " ++ wc s ++ " states " ++ (toString n : Str)
def ruleW (b s : List Int) (n : Int) : List (List Nat) := [[98, 105, 114, 116, 104, 115]] ++ (cwL b ++ ([[115, 116, 97, 121, 115]] ++ (cwL s ++ [[115, 116, 97, 116, 101, 115], [48 + n.toNat]])))
theorem cw_ne (l : List Int) : cwL l ≠ [] := by
  unfold cwL
  split
  · simp
  · simpa using ‹_›
theorem ruleText_eq {b s : List Int} {n : Int} (hb : ∀ i ∈ b, 0 ≤ i ∧ i ≤ 8) (hs : ∀ i ∈ s, 0 ≤ i ∧ i ≤ 8) (hn : 0 ≤ n ∧ n ≤ 8) : ruleText b s n = Sl (TL.joinL [32] (ruleW b s n)) := by
  unfold ruleText ruleW
  rw [wc_eq hb, wc_eq hs, str_int hn.1 hn.2]
  rw [joinL_app (by simp) (by simp [cw_ne]), joinL_app (cw_ne b) (by simp), joinL_app (by simp) (by simp [cw_ne]), joinL_app (cw_ne s) (by simp)]
  have e1 : ("births " : Str) = Sl [98, 105, 114, 116, 104, 115, 32] := by decide +kernel
  have e2 : (" stays " : Str) = Sl [32, 115, 116, 97, 121, 115, 32] := by decide +kernel
  have e3 : (" states " : Str) = Sl [32, 115, 116, 97, 116, 101, 115, 32] := by decide +kernel
  rw [e1, e2, e3]
  simp only [SX.S_cat, TL.joinL]
  congr 1
  simp
theorem wds_rule {b s : List Int} {n : Int} (hb : ∀ i ∈ b, 0 ≤ i ∧ i ≤ 8) (hs : ∀ i ∈ s, 0 ≤ i ∧ i ≤ 8) (hn : 0 ≤ n ∧ n ≤ 8) : wds (ruleText b s n) = (ruleW b s n).map Sl := by
  unfold wds
  rw [ruleText_eq hb hs hn]
  have hc : ∀ l : List Int, ∀ p ∈ cwL l, (∀ i ∈ l, 0 ≤ i ∧ i ≤ 8) → 32 ∉ p := by
    intro l p hp hl
    unfold cwL at hp
    split at hp
    · simp at hp; subst hp; decide
    · obtain ⟨i, hi, rfl⟩ := List.mem_map.mp hp
      simp
      omega
  refine wds_join (by simp [ruleW]) fun p hp => ?_
  unfold ruleW at hp
  simp only [List.mem_append, List.mem_cons, List.not_mem_nil, or_false] at hp
  rcases hp with rfl | hp | rfl | hp | rfl | rfl
  · decide
  · exact hc b p hp hb
  · decide
  · exact hc s p hp hs
  · decide
  · simp
    omega
theorem asc_mem {l : List Int} : ∀ {lo : Int}, asc lo l = true → ∀ i ∈ l, lo ≤ i ∧ i ≤ 8 := by
  induction l with
  | nil => intro lo _ i h; cases h
  | cons a l ih =>
    intro lo h i hi
    have h' : (decide (lo ≤ a) && decide (a ≤ 8) && asc (a + 1) l) = true := h
    simp only [Bool.and_eq_true, decide_eq_true_eq] at h'
    rcases List.mem_cons.mp hi with rfl | hi
    · exact h'.1
    · have := ih h'.2 i hi
      omega
theorem asc_len {l : List Int} : ∀ {lo : Int}, asc lo l = true → lo ≤ 9 → (l.length : Int) ≤ 9 - lo := by
  induction l with
  | nil => intro lo _ h; simpa using h
  | cons a l ih =>
    intro lo h hl
    have h' : (decide (lo ≤ a) && decide (a ≤ 8) && asc (a + 1) l) = true := h
    simp only [Bool.and_eq_true, decide_eq_true_eq] at h'
    have := ih h'.2 (by omega)
    simp only [List.length_cons]
    push_cast
    omega
theorem wc_sum {l : List Int} (h : ∀ i ∈ l, 0 ≤ i ∧ i ≤ 8) : ((l.map fun i => (toString i : Str)).map (·.length)).sum = l.length := by
  induction l with
  | nil => rfl
  | cons a l ih =>
    have h1 := h a (by simp)
    simp only [List.map_cons, List.sum_cons, List.length_cons]
    rw [ih (fun i hi => h i (by simp [hi])), str_int h1.1 h1.2]
    rw [SX.S_len]
    simp
    omega
theorem joinL_len : ∀ (A : List (List Nat)), (∀ p ∈ A, p.length ≤ 10) → (TL.joinL [32] A).length ≤ 11 * A.length
  | [], _ => by simp [TL.joinL]
  | [p], h => by have := h p (by simp); simp [TL.joinL]; omega
  | p :: q :: r, h => by
    have := h p (by simp)
    have ih := joinL_len (q :: r) (fun x hx => h x (by simp [hx]))
    simp only [TL.joinL, List.length_append, List.length_cons, List.length_nil] at ih ⊢
    omega
theorem wc_len {l : List Int} (h : ∀ i ∈ l, 0 ≤ i ∧ i ≤ 8) (hl : l.length ≤ 9) : (wc l).length ≤ 99 := by
  rw [wc_eq h, SX.S_len]
  have : (cwL l).length ≤ 9 ∧ ∀ p ∈ cwL l, p.length ≤ 10 := by
    unfold cwL
    split
    · simp
    · simp
      exact hl
  have := joinL_len (cwL l) this.2
  omega
def R_wc (ds : List PyData) (o : DOut) : Prop := ∃ (l : List Int), ds = [.tuple (l.map .int)] ∧ (∀ i ∈ l, 0 ≤ i ∧ i ≤ 8) ∧ l.length ≤ 9 ∧ o = .ok (.str (wc l))
theorem ok_write_counts {P : Program} {w : World} {K : Fg} {mg : Str → Option Value} {base : Heap} {f : Addr} {fd : FuncData} (F : Fun K "_write_counts" "_write_counts" s_write_counts f fd)
    (g_NONE : ∃ u, mg "NONE" = some u ∧ RelV (.str "none") u)
    (m_str : mg "str" = none) :
    FnOk P w K mg base (L2.CX P w) 1 f fd ["counts"] (spD K 1 R_wc) := by
  refine F.okX sc_write_counts (fun vs H Q E h => len_D h) (fun cdv A outer s H vs Q E hr h => ⟨_, (pss_cons (ps_if (pt_not (pt_truth (pv 0) (fun _ => rfl))) (pss_one (ps_ret (pe_glob (by rfl) g_NONE.choose_spec.1 g_NONE.choose_spec.2))) pss_nil)
      (pss_one (ps_ret (pe_join pe_str (pe_lc (own := [("count", 1)]) rfl sc_write_counts.nd (pi_tup (pv 0)) (blkOk_by (N := N_write_counts) (sc := defScope s_write_counts) (by decide +kernel)) (fun _ _ _ _ _ => (pg_name (i := 1) sc_write_counts.nd rfl (by first | exact Or.inl rfl | exact Or.inr rfl))) (fun _ _ _ _ _ => pts_nil) (fun _ _ _ _ _ => (pe_callTy call_str_int (by rfl) m_str bt_str (pa_cons (pv 1) pa_nil)))))))),
    fn_D h fun ds o hk hR => ?_⟩)
  try dsimp only [L2.cxOf]
  obtain ⟨l, rfl, hl, hn, rfl⟩ := hR
  have hsz : (sizeLine : Nat) = 16777216 := sizeLine_eq
  walk_at "zq"
  cases l with
  | nil =>
    walk_at "zq"
    rfl
  | cons a l =>
    walk_at "zq"
    refine ⟨by rw [List.length_map]; omega, fun i acc M' => M' = [] ∧ acc = (((a :: l).take i).map fun i => (toString i : Str)).map .str, ⟨rfl, rfl⟩, ?_, ?_⟩
    · rintro i x hx acc M2 D ⟨rfl, rfl⟩
      rw [List.getElem?_map] at hx
      obtain ⟨y, hy, rfl⟩ := Option.map_eq_some_iff.mp hx
      have hy2 := hl y (List.mem_of_getElem? hy)
      refine ⟨_, _, ?_, zg_name, ?_⟩
      · simp
      · walk_at "zq"
        refine zc_strI (small_log (by omega) (by omega)) ?_
        refine ⟨_, [], rfl, rfl, rfl, ?_⟩
        rw [List.take_add_one, hy]
        simp
    · rintro acc M2 ⟨rfl, rfl⟩
      rw [List.length_map, List.take_length]
      refine zm_join ?_ ?_
      · rw [wc_sum hl, List.length_map, show ((" " : Str).length = 1) by decide +kernel]
        omega
      · exact ⟨_, rfl, rfl⟩
theorem len_app (a b : Str) : (a ++ b).length = a.length + b.length := by simp [Str.length, show (a ++ b).cps = a.cps ++ b.cps from rfl]
theorem emp_app (a : Str) : Str.empty ++ a = a := by
  have h : (Str.empty ++ a).cps = a.cps := by rw [show (Str.empty ++ a).cps = Str.empty.cps ++ a.cps from rfl, show Str.empty.cps = #[] by decide +kernel]; simp
  cases a
  cases hx : (Str.empty ++ _ : Str) with
  | mk c => rw [hx] at h; exact congrArg _ h
theorem len1 : Str.empty.length = 0 := by decide +kernel
theorem len2 : ("births " : Str).length = 7 := by decide +kernel
theorem len3 : (" stays " : Str).length = 7 := by decide +kernel
theorem len4 : (" states " : Str).length = 8 := by decide +kernel
theorem len5 {n : Int} (h0 : 0 ≤ n) (h8 : n ≤ 8) : (toString n : Str).length = 1 := by rw [str_int h0 h8, SX.S_len]; rfl
def R_wr (ds : List PyData) (o : DOut) : Prop := ∃ (b s : List Int) (n : Int), ds = [.tuple [.tuple (b.map .int), .tuple (s.map .int), .int n]] ∧ asc 1 b = true ∧ asc 0 s = true ∧ 2 ≤ n ∧ n ≤ 6 ∧ o = .ok (.str (ruleText b s n))
theorem ok_write_rule {P : Program} {w : World} {K : Fg} {mg : Str → Option Value} {base : Heap} {f : Addr} {fd : FuncData} (F : Fun K "write_rule" "write_rule" s_write_rule f fd)
    (c_check_rule : Cal P w K mg base 4 "check_rule" (spD K 1 R_checkRule))
    (c__write_counts : Cal P w K mg base 1 "_write_counts" (spD K 1 R_wc)) :
    FnOk P w K mg base (L2.CX P w) 5 f fd ["rule"] (spD K 1 R_wr) := by
  refine F.okX sc_write_rule (fun vs H Q E h => len_D h) (fun cdv A outer s H vs Q E hr h => ⟨_, (pss_cons (ps_expr (pe_cl c_check_rule hr (show 4 ≤ 4 by decide) passL (pa_cons (pv 0) pa_nil)))
      (pss_cons (ps_asg (pv 0) (pg_tup rfl (pgs_cons (pg_name (i := 1) sc_write_rule.nd rfl (by first | exact Or.inl rfl | exact Or.inr rfl)) (pgs_cons (pg_name (i := 2) sc_write_rule.nd rfl (by first | exact Or.inl rfl | exact Or.inr rfl)) (pgs_cons (pg_name (i := 3) sc_write_rule.nd rfl (by first | exact Or.inl rfl | exact Or.inr rfl)) pgs_nil)))))
      (pss_one (ps_ret (pe_joined (PJ.cons pe_str (PJ.cons (pe_fmt (pe_cl c__write_counts hr (show 1 ≤ 4 by decide) passL (pa_cons (pv 1) pa_nil))) (PJ.cons pe_str (PJ.cons (pe_fmt (pe_cl c__write_counts hr (show 1 ≤ 4 by decide) passL (pa_cons (pv 2) pa_nil))) (PJ.cons pe_str (PJ.cons (pe_fmt (pv 3)) PJ.nil))))))))))),
    fn_D h fun ds o hk hR => ?_⟩)
  try dsimp only [L2.cxOf]
  obtain ⟨b, s, n, rfl, hb, hs, h1, h2, rfl⟩ := hR
  walk_at "zq"
  refine ⟨_, _, by walk_at "zd", rfl, ⟨b, s, n, rfl, hb, hs, h1, h2, rfl⟩, ?_⟩
  have hsz : (sizeLine : Nat) = 16777216 := sizeLine_eq
  have hb2 := asc_mem hb
  have hs2 := asc_mem hs
  have hb3 := asc_len hb (by decide)
  have hs3 := asc_len hs (by decide)
  have hb4 : ∀ i ∈ b, 0 ≤ i ∧ i ≤ 8 := fun i hi => ⟨by have := hb2 i hi; omega, (hb2 i hi).2⟩
  have wb := wc_len hb4 (by omega)
  have ws := wc_len hs2 (by omega)
  have l5 := len5 (n := n) (by omega) (by omega)
  walk_at "zq"
  refine ⟨by rw [len_app, len1, len2]; omega, ?_⟩
  walk_at "zq"
  refine zw_fmtS ?_
  walk_at "zq"
  refine ⟨_, _, by walk_at "zd", rfl, ⟨b, rfl, hb4, by omega, rfl⟩, ?_⟩
  walk_at "zq"
  refine ⟨by omega, ?_⟩
  walk_at "zq"
  refine ⟨by simp only [len_app, len1, len2]; omega, ?_⟩
  walk_at "zq"
  refine ⟨by simp only [len_app, len1, len2, len3]; omega, ?_⟩
  walk_at "zq"
  refine zw_fmtS ?_
  walk_at "zq"
  refine ⟨_, _, by walk_at "zd", rfl, ⟨s, rfl, hs2, by omega, rfl⟩, ?_⟩
  walk_at "zq"
  refine ⟨by omega, ?_⟩
  walk_at "zq"
  refine ⟨by simp only [len_app, len1, len2, len3]; omega, ?_⟩
  walk_at "zq"
  refine ⟨by simp only [len_app, len1, len2, len3, len4]; omega, ?_⟩
  walk_at "zq"
  refine zw_fmtI ?_
  walk_at "zq"
  refine ⟨small_log (by omega) (by omega), ?_⟩
  walk_at "zq"
  refine ⟨by simp only [len_app, len1, len2, len3, len4, l5]; omega, ?_⟩
  walk_at "zq"
  unfold ruleText
  rw [emp_app]
/-! ### reading -/
inductive Res where
  | bad (j : Nat)
  | done (cs : List Int) (j : Nat)
def loopS (be : Str) : Int → List Int → List Str → Nat → Res
  | _, _, [], j => .bad j
  | a, cs, w :: r, j => if w = be then .done cs (j + 1) else match fig w with
    | some d => if a ≤ d then loopS be (d + 1) (cs ++ [d]) r (j + 1) else .bad j
    | none => .bad j
def cntS (be : Str) (least : Int) : List Str → Nat → Res
  | [], j => .bad j
  | w :: r, j => if w = "none" then (match r with
      | [] => .bad (j + 1)
      | v :: _ => if v = be then .done [] (j + 2) else .bad (j + 1)) else match fig w with
    | some d => if least ≤ d then loopS be (d + 1) [d] r (j + 1) else .bad j
    | none => .bad j
theorem cnt_nil {be : Str} {lo : Int} {j : Nat} : cntS be lo [] j = .bad j := rfl
theorem cnt_none0 {be : Str} {lo : Int} {j : Nat} : cntS be lo ["none"] j = .bad (j + 1) := by simp [cntS]
theorem cnt_none {be v : Str} {lo : Int} {r : List Str} {j : Nat} : cntS be lo ("none" :: v :: r) j = if v = be then .done [] (j + 2) else .bad (j + 1) := by simp [cntS]
theorem cnt_cons {be w : Str} {lo : Int} {r : List Str} {j : Nat} (h : w ≠ "none") : cntS be lo (w :: r) j = match fig w with
    | some d => if lo ≤ d then loopS be (d + 1) [d] r (j + 1) else .bad j
    | none => .bad j := if_neg h
theorem loop_cons {be w : Str} {a : Int} {cs : List Int} {r : List Str} {j : Nat} : loopS be a cs (w :: r) j = if w = be then .done cs (j + 1) else match fig w with
    | some d => if a ≤ d then loopS be (d + 1) (cs ++ [d]) r (j + 1) else .bad j
    | none => .bad j := rfl
theorem atI_last {α : Type} (xs : List α) (d : α) : atI (xs ++ [d]) (-1) = some d := by
  unfold atI ixN
  rw [if_neg (by decide)]
  have h : (xs ++ [d]).length = xs.length + 1 := by simp
  rw [h, if_pos (by omega)]
  have h2 : (-1 + ((xs.length + 1 : Nat) : Int)).toNat = xs.length := by omega
  show (xs ++ [d])[(-1 + ((xs.length + 1 : Nat) : Int)).toNat]? = _
  rw [h2]
  simp
def plc (ws : List Str) (L j : Nat) : Int := if j < ws.length then (off ws j : Int) else L
theorem take_cases (ws al : List Str) {k : Nat} (h : k ≤ ws.length) : (k = ws.length ∧ ws.drop k = []) ∨ (∃ w, ws[k]? = some w ∧ ws.drop k = w :: ws.drop (k + 1) ∧ k < ws.length ∧ w ∉ al) ∨ (∃ w, ws[k]? = some w ∧ ws.drop k = w :: ws.drop (k + 1) ∧ k < ws.length ∧ w ∈ al) := by
  by_cases hk : k = ws.length
  · exact .inl ⟨hk, by rw [hk, List.drop_length]⟩
  · have h1 : k < ws.length := by omega
    have h2 := List.getElem?_eq_getElem h1
    have h3 : ws.drop k = ws[k] :: ws.drop (k + 1) := List.drop_eq_getElem_cons h1
    by_cases hm : ws[k] ∈ al
    · exact .inr (.inr ⟨_, h2, h3, h1, hm⟩)
    · exact .inr (.inl ⟨_, h2, h3, h1, hm⟩)
abbrev figD : List PyData := [.str "0", .str "1", .str "2", .str "3", .str "4", .str "5", .str "6", .str "7", .str "8"]
theorem cut_figs {a : Int} (h0 : 0 ≤ a) (h9 : a ≤ 9) : cutD figD (some a) none = (FIGS.drop a.toNat).map .str := by
  have h : a = 0 ∨ a = 1 ∨ a = 2 ∨ a = 3 ∨ a = 4 ∨ a = 5 ∨ a = 6 ∨ a = 7 ∨ a = 8 ∨ a = 9 := by omega
  rcases h with rfl | rfl | rfl | rfl | rfl | rfl | rfl | rfl | rfl | rfl <;> rfl
def R_rc (C : Addr) (fs : List (Str × ZV)) (ds : List PyData) (o : DOut) (fs' : List (Str × ZV)) : Prop := ∃ (ws : List Str) (L k : Nat) (lo : Int) (be : Str), fs = RdF ws L k ∧ ds = [.int lo, .str be] ∧ RdOk ws L k ∧ 0 ≤ lo ∧ lo ≤ 8 ∧ be ≠ "none" ∧ fig be = none ∧
  ((∃ j, cntS be lo (ws.drop k) k = .bad j ∧ o = .ex ⟨C, [("place", .int (plc ws L j))]⟩ ∧ fs' = RdF ws L j) ∨ (∃ cs j, cntS be lo (ws.drop k) k = .done cs j ∧ o = .ok (.tuple (cs.map .int)) ∧ fs' = RdF ws L j))
theorem ok_read_counts {P : Program} {w : World} {K : Fg} {mg : Str → Option Value} {base : Heap} {f : Addr} {fd : FuncData} {C_FIGURES C_InvalidText C_WordReader : Addr} (F : Fun K "_read_counts" "_read_counts" s_read_counts f fd)
    (g_NONE : ∃ u, mg "NONE" = some u ∧ RelV (.str "none") u)
    (g_FIGURES : ∃ u, mg "FIGURES" = some u ∧ RelV (.ref C_FIGURES) u)
    (d_FIGURES : ∀ G, Dz K G (.ref C_FIGURES) (.tuple [.str "0", .str "1", .str "2", .str "3", .str "4", .str "5", .str "6", .str "7", .str "8"]))
    (m_int : mg "int" = none)
    (m_tuple : mg "tuple" = none)
    (c_WordReader_take : Mtd P w K mg base 1 C_WordReader "take" (spO K C_WordReader 1 (R_take C_InvalidText)))
    (cl_WordReader : Cls K C_WordReader) :
    FnOk P w K mg base (L2.CX P w) 2 f fd ["reader", "least", "behind"] (spO K C_WordReader 2 (R_rc C_InvalidText)) := by
  obtain ⟨f_WordReader_take, fd_WordReader_take, ps_WordReader_take, G_WordReader_take, M_WordReader_take, B_WordReader_take⟩ := c_WordReader_take
  refine F.okX sc_read_counts (fun vs H Q E h => len_O h) (fun cdv A outer s H vs Q E hr h => ⟨_, (pss_cons (ps_set (i := 3) sc_read_counts.nd rfl (by first | exact Or.inl rfl | exact Or.inr rfl) (pe_meth (pv 0) cl_WordReader M_WordReader_take G_WordReader_take (hr.mono (show 1 ≤ 1 by decide)) B_WordReader_take .nil (passes_call (takes_of rfl rfl rfl rfl) fun _ _ _ _ h => h) (pa_cons (pe_op op_addA (pe_tup (pa_cons (pe_glob (by rfl) g_NONE.choose_spec.1 g_NONE.choose_spec.2) pa_nil)) (pe_slice sl_any (pe_glob (by rfl) g_FIGURES.choose_spec.1 g_FIGURES.choose_spec.2) (po_some (pv 1)) po_none)) pa_nil)))
      (pss_cons (ps_if (pt_cmpR (op_eqA hr.units) (pv 3) (pe_glob (by rfl) g_NONE.choose_spec.1 g_NONE.choose_spec.2) (nomark _)) (pss_cons (ps_expr (pe_meth (pv 0) cl_WordReader M_WordReader_take G_WordReader_take (hr.mono (show 1 ≤ 1 by decide)) B_WordReader_take .nil (passes_call (takes_of rfl rfl rfl rfl) fun _ _ _ _ h => h) (pa_cons (pe_tup (pa_cons (pv 2) pa_nil)) pa_nil)))
      (pss_one (ps_ret (pe_tup pa_nil)))) pss_nil)
      (pss_cons (ps_set (i := 4) sc_read_counts.nd rfl (by first | exact Or.inl rfl | exact Or.inr rfl) (pe_lst pa_nil))
      (pss_cons (ps_while (passes_of rfl) (pt_cmpR (op_neA hr.units) (pv 3) (pv 2) (nomark _)) (pss_cons (ps_expr (pe_bm PySem.F.plainAttrs_list PySem.F.slot_list_append PySem.F.type_list_append mt_append (pv 4) (pa_cons (pe_callTy (call_int1.or call_int_str) (by rfl) m_int bt_int (pa_cons (pv 3) pa_nil)) pa_nil)))
      (pss_one (ps_set (i := 3) sc_read_counts.nd rfl (by first | exact Or.inl rfl | exact Or.inr rfl) (pe_meth (pv 0) cl_WordReader M_WordReader_take G_WordReader_take (hr.mono (show 1 ≤ 1 by decide)) B_WordReader_take .nil (passes_call (takes_of rfl rfl rfl rfl) fun _ _ _ _ h => h) (pa_cons (pe_op op_addA (pe_slice sl_any (pe_glob (by rfl) g_FIGURES.choose_spec.1 g_FIGURES.choose_spec.2) (po_some (pe_op op_addA (pe_ix ix_seq (pv 4) (pe_un un_neg pe_int) (fun _ _ => rfl)) pe_int)) po_none) (pe_tup (pa_cons (pv 2) pa_nil))) pa_nil))))))
      (pss_one (ps_ret (pe_callTy call_tuple_of (by rfl) m_tuple bt_tuple (pa_cons (pv 4) pa_nil)))))))),
    fn_O h fun p fs ds o fs2 hk hR => ?_⟩)
  try dsimp only [L2.cxOf]
  obtain ⟨ws, L, k, lo, be, rfl, rfl, hok, l0, l8, hbe, hbf, hR⟩ := hR
  have hsz : (sizeLine : Nat) = 16777216 := sizeLine_eq
  have hcut := cut_figs l0 (by omega : lo ≤ 9)
  have hk := hok.k
  walk_at "zq"
  refine ⟨⟨_, _, m0, rfl⟩, ?_⟩
  walk_at "zq"
  walk_at "zt"
  walk_at "zq"
  rw [hcut]
  refine za_t (by rw [List.length_map]; have := List.length_drop (l := FIGS) (i := lo.toNat); have : FIGS.length = 9 := rfl; simp only [List.length_cons, List.length_nil]; omega) ?_
  walk_at "zq"
  have hal : [PyData.str "none"] ++ (FIGS.drop lo.toNat).map PyData.str = List.map PyData.str ((Str.ofString "none") :: FIGS.drop lo.toNat) := rfl
  rw [hal]
  rcases take_cases ws ((Str.ofString "none") :: FIGS.drop lo.toNat) hk with ⟨he, hd⟩ | ⟨w, hw, hd, hk1, hn⟩ | ⟨w, hw, hd, hk1, hn⟩
  · rw [hd] at hR
    rcases hR with ⟨j, h1, rfl, rfl⟩ | ⟨cs, j, h1, _⟩
    · have h1 := (Res.bad.inj h1).symm
      subst h1
      refine ⟨_, _, _, _, _, _, allD_cons allD_nil, rfl, ⟨ws, L, _, _, rfl, rfl, hok, .inl ⟨he, rfl, rfl⟩⟩, .here, fun d h => (nomatch h), fun x h => ?_⟩
      cases h
      refine ⟨?_, m0⟩
      unfold plc
      rw [if_neg (by omega)]
    · cases h1
  · have hc : cntS be lo (ws.drop k) k = .bad k := by
      rw [hd, cnt_cons (fun e => hn (by rw [e]; exact List.mem_cons_self))]
      cases hf : fig w with
      | none => rfl
      | some d =>
        dsimp only
        rw [if_neg (fun e => hn (List.mem_cons_of_mem _ ((fig_mem l0).mpr ⟨d, hf, e⟩)))]
    rw [hc] at hR
    rcases hR with ⟨j, h1, rfl, rfl⟩ | ⟨cs, j, h1, _⟩
    · have h1 := (Res.bad.inj h1).symm
      subst h1
      refine ⟨_, _, _, _, _, _, allD_cons allD_nil, rfl, ⟨ws, L, _, _, rfl, rfl, hok, .inr (.inl ⟨w, hw, hn, rfl, rfl⟩)⟩, .here, fun d h => (nomatch h), fun x h => ?_⟩
      cases h
      refine ⟨?_, m0⟩
      unfold plc
      rw [if_pos (by omega)]
    · cases h1
  · refine ⟨_, _, _, _, _, _, allD_cons allD_nil, rfl, ⟨ws, L, _, _, rfl, rfl, hok, .inr (.inr ⟨w, hw, hn, rfl, rfl⟩)⟩, .here, fun d h => ?_, fun x h => (nomatch h)⟩
    cases h
    walk_at "zq"
    by_cases hwn : w = "none"
    · subst hwn
      rw [decide_eq_true rfl]
      walk_at "zq"
      refine ⟨⟨_, _, m0, rfl⟩, ?_⟩
      walk_at "zq"
      walk_at "zt"
      walk_at "zq"
      have hok2 : RdOk ws L (k + 1) := ⟨hok.n, hk1, hok.o, hok.L⟩
      rcases take_cases ws [be] (k := k + 1) hk1 with ⟨he2, hd2⟩ | ⟨w, hw2, hd2, hk2, hn2⟩ | ⟨w, hw2, hd2, hk2, hn2⟩
      · rw [hd, hd2, cnt_none0] at hR
        rcases hR with ⟨j, h1, rfl, rfl⟩ | ⟨cs, j, h1, _⟩
        · have h1 := (Res.bad.inj h1).symm
          subst h1
          refine ⟨_, _, _, _, _, _, allD_cons allD_nil, rfl, ⟨ws, L, _, [be], rfl, rfl, hok2, .inl ⟨he2, rfl, rfl⟩⟩, .here, fun d h => (nomatch h), fun x h => ?_⟩
          cases h
          refine ⟨?_, m0⟩
          unfold plc
          rw [if_neg (by omega)]
        · cases h1
      · rw [hd, hd2, cnt_none, if_neg (by simpa using hn2)] at hR
        rcases hR with ⟨j, h1, rfl, rfl⟩ | ⟨cs, j, h1, _⟩
        · have h1 := (Res.bad.inj h1).symm
          subst h1
          refine ⟨_, _, _, _, _, _, allD_cons allD_nil, rfl, ⟨ws, L, _, [be], rfl, rfl, hok2, .inr (.inl ⟨w, hw2, hn2, rfl, rfl⟩)⟩, .here, fun d h => (nomatch h), fun x h => ?_⟩
          cases h
          refine ⟨?_, m0⟩
          unfold plc
          rw [if_pos (by omega)]
        · cases h1
      · rw [hd, hd2, cnt_none, if_pos (by simpa using hn2)] at hR
        rcases hR with ⟨j, h1, _⟩ | ⟨cs, j, h1, rfl, rfl⟩
        · cases h1
        · obtain ⟨h1, h2⟩ := Res.done.inj h1
          subst h1 h2
          refine ⟨_, _, _, _, _, _, allD_cons allD_nil, rfl, ⟨ws, L, _, [be], rfl, rfl, hok2, .inr (.inr ⟨w, hw2, hn2, rfl, rfl⟩)⟩, .here, fun d h => ?_, fun x h => (nomatch h)⟩
          cases h
          walk_at "zq"
          walk_at "zt"
          exact ⟨⟨_, rfl, rfl⟩, m0⟩
    · rw [decide_eq_false hwn]
      walk_at "zq"
      refine zw_lstC ?_
      walk_at "zq"
      walk_at "zt"
      intro q
      walk_at "zq"
      have hf0 : ∃ d, fig w = some d ∧ lo ≤ d := (fig_mem l0).mp (by simpa [hwn] using hn)
      refine zs_while (fun m S2 M2 => ∃ (k1 : Nat) (v : Str) (cs : List Int) (a : Int), S2 = [some (.c p), some (.d (.int lo)), some (.d (.str be)), some (.d (.str v)), some (.c q)] ∧ M2 = [(q, true, .lst (cs.map .int)), (p, false, .obj C_WordReader (RdF ws L (k1 + 1)))] ∧ m = ws.length - k1 ∧ k1 < ws.length ∧ 0 ≤ a ∧ cs.length ≤ k1 ∧
        cntS be lo (ws.drop k) k = loopS be a cs (v :: ws.drop (k1 + 1)) k1 ∧ (v = be ∨ ∃ d, fig v = some d ∧ a ≤ d)) ⟨_, k, w, [], lo, rfl, rfl, rfl, hk1, l0, Nat.zero_le _, ?_, .inr hf0⟩ ?_
      · rw [hd, cnt_cons hwn, loop_cons, if_neg (fun e => by obtain ⟨d, h1, _⟩ := hf0; rw [e, hbf] at h1; cases h1)]
        rfl
      · rintro m S2 M2 ⟨k1, v, cs, a, rfl, rfl, rfl, hk1, ha0, hcl, hc, hv⟩
        walk_at "zq"
        have hok2 : RdOk ws L (k1 + 1) := ⟨hok.n, hk1, hok.o, hok.L⟩
        have h3000 := hok.n
        by_cases hvb : v = be
        · rw [hc, loop_cons, if_pos hvb] at hR
          rw [decide_eq_true hvb]
          walk_at "zq"
          refine zc_tupC m0 ?_
          rcases hR with ⟨j, h1, _⟩ | ⟨cs2, j, h1, rfl, rfl⟩
          · cases h1
          · obtain ⟨h1, h2⟩ := Res.done.inj h1
            subst h1 h2
            exact ⟨⟨_, rfl, rfl⟩, m1 m0⟩
        · obtain ⟨d, hf, had⟩ := hv.resolve_left hvb
          have hfi := fig_int hf
          rw [decide_eq_false hvb]
          walk_at "zq"
          refine zw_append ?_
          walk_at "zq"
          refine ⟨⟨_, _, m0⟩, ?_⟩
          walk_at "zq"
          refine zc_intS hfi.1 (by omega) ?_
          refine ⟨_, _, _, _, rfl, .here, by rw [List.length_map]; omega, ?_⟩
          walk_at "zq"
          refine ⟨⟨_, _, m1 m0, rfl⟩, ?_⟩
          walk_at "zq"
          refine zo_ixC m0 (atI_last _ _) ?_
          walk_at "zq"
          rw [cut_figs (by omega) (by omega)]
          walk_at "zt"
          walk_at "zq"
          refine za_t (by rw [List.length_map]; have := List.length_drop (l := FIGS) (i := (d + 1).toNat); have : FIGS.length = 9 := rfl; simp only [List.length_cons, List.length_nil]; omega) ?_
          walk_at "zq"
          have hal : (FIGS.drop (d + 1).toNat).map PyData.str ++ [PyData.str be] = List.map PyData.str (FIGS.drop (d + 1).toNat ++ [be]) := by simp
          rw [hal]
          have hl2 : loopS be a cs (v :: ws.drop (k1 + 1)) k1 = loopS be (d + 1) (cs ++ [d]) (ws.drop (k1 + 1)) (k1 + 1) := by
            rw [loop_cons, if_neg hvb, hf]
            exact if_pos had
          rw [hl2] at hc
          rw [hc] at hR
          rcases take_cases ws (FIGS.drop (d + 1).toNat ++ [be]) (k := k1 + 1) hk1 with ⟨he2, hd2⟩ | ⟨v2, hw2, hd2, hk2, hn2⟩ | ⟨v2, hw2, hd2, hk2, hn2⟩
          · rw [hd2] at hR
            rcases hR with ⟨j, h1, rfl, rfl⟩ | ⟨cs, j, h1, _⟩
            · have h1 := (Res.bad.inj h1).symm
              subst h1
              refine ⟨_, _, _, _, _, _, allD_cons allD_nil, rfl, ⟨ws, L, _, _, rfl, rfl, hok2, .inl ⟨he2, rfl, rfl⟩⟩, .there .here, fun d h => (nomatch h), fun x h => ?_⟩
              cases h
              refine ⟨?_, m1 m0⟩
              unfold plc
              rw [if_neg (by omega)]
            · cases h1
          · have hb2 : loopS be (d + 1) (cs ++ [d]) (ws.drop (k1 + 1)) (k1 + 1) = .bad (k1 + 1) := by
              rw [hd2, loop_cons, if_neg (fun e => hn2 (by simp [e]))]
              cases hf2 : fig v2 with
              | none => rfl
              | some d2 =>
                dsimp only
                rw [if_neg (fun e => hn2 (List.mem_append_left _ ((fig_mem (by omega)).mpr ⟨d2, hf2, e⟩)))]
            rw [hb2] at hR
            rcases hR with ⟨j, h1, rfl, rfl⟩ | ⟨cs, j, h1, _⟩
            · have h1 := (Res.bad.inj h1).symm
              subst h1
              refine ⟨_, _, _, _, _, _, allD_cons allD_nil, rfl, ⟨ws, L, _, _, rfl, rfl, hok2, .inr (.inl ⟨v2, hw2, hn2, rfl, rfl⟩)⟩, .there .here, fun d h => (nomatch h), fun x h => ?_⟩
              cases h
              refine ⟨?_, m1 m0⟩
              unfold plc
              rw [if_pos (by omega)]
            · cases h1
          · refine ⟨_, _, _, _, _, _, allD_cons allD_nil, rfl, ⟨ws, L, _, _, rfl, rfl, hok2, .inr (.inr ⟨v2, hw2, hn2, rfl, rfl⟩)⟩, .there .here, fun d h => ?_, fun x h => (nomatch h)⟩
            cases h
            refine ⟨_, ?_, k1 + 1, v2, cs ++ [d], d + 1, rfl, by simp, rfl, hk2, by omega, by simp; omega, by rw [hc, hd2], ?_⟩
            · omega
            · rcases List.mem_append.mp hn2 with h | h
              · exact .inr ((fig_mem (by omega)).mp h)
              · exact .inl (by simpa using h)
theorem loop_le {be : Str} {w : List Str} : ∀ {a : Int} {cs : List Int} {k : Nat}, match loopS be a cs w k with | .bad j => j ≤ k + w.length | .done _ j => j ≤ k + w.length := by
  induction w with
  | nil => intro a cs k; exact Nat.le_refl _
  | cons v r ih =>
    intro a cs k
    rw [loop_cons]
    by_cases h : v = be
    · rw [if_pos h]
      simp
    · rw [if_neg h]
      cases fig v with
      | none => dsimp only; omega
      | some d =>
        dsimp only
        by_cases h2 : a ≤ d
        · rw [if_pos h2]
          have := ih (a := d + 1) (cs := cs ++ [d]) (k := k + 1)
          split at this <;> simp only [List.length_cons] <;> omega
        · rw [if_neg h2]
          dsimp only
          omega
theorem cnt_le {be : Str} {lo : Int} {w : List Str} {k : Nat} : match cntS be lo w k with | .bad j => j ≤ k + w.length | .done _ j => j ≤ k + w.length := by
  cases w with
  | nil => exact Nat.le_refl _
  | cons v r =>
    by_cases h : v = "none"
    · subst h
      cases r with
      | nil => rw [cnt_none0]; simp
      | cons u r =>
        rw [cnt_none]
        by_cases h2 : u = be
        · rw [if_pos h2]; simp
        · rw [if_neg h2]; simp
    · rw [cnt_cons h]
      cases fig v with
      | none => dsimp only; omega
      | some d =>
        dsimp only
        by_cases h2 : lo ≤ d
        · rw [if_pos h2]
          have := loop_le (be := be) (w := r) (a := d + 1) (cs := [d]) (k := k + 1)
          split at this <;> simp only [List.length_cons] <;> omega
        · rw [if_neg h2]
          dsimp only
          omega
theorem cnt_bad {be : Str} {lo : Int} {ws : List Str} {k j : Nat} (hk : k ≤ ws.length) (h : cntS be lo (ws.drop k) k = .bad j) : j ≤ ws.length := by
  have := cnt_le (be := be) (lo := lo) (w := ws.drop k) (k := k)
  rw [h] at this
  simp only [List.length_drop] at this
  omega
theorem cnt_done {be : Str} {lo : Int} {ws : List Str} {k j : Nat} {cs : List Int} (hk : k ≤ ws.length) (h : cntS be lo (ws.drop k) k = .done cs j) : j ≤ ws.length := by
  have := cnt_le (be := be) (lo := lo) (w := ws.drop k) (k := k)
  rw [h] at this
  simp only [List.length_drop] at this
  omega
inductive RR where
  | place (j : Nat)
  | rule (b s : List Int) (n : Int)
def endS (b s : List Int) (j : Nat) : List Str → RR
  | [] => .place j
  | w :: r => match fig w with
    | some n => if 2 ≤ n ∧ n ≤ 6 then (match r with | [] => .rule b s n | _ :: _ => .place (j + 1)) else .place j
    | none => .place j
theorem end_cons {b s : List Int} {j : Nat} {w : Str} {r : List Str} : endS b s j (w :: r) = match fig w with
    | some n => if 2 ≤ n ∧ n ≤ 6 then (match r with | [] => .rule b s n | _ :: _ => .place (j + 1)) else .place j
    | none => .place j := rfl
def ruleS (ws : List Str) : RR :=
  match ws with
  | [] => .place 0
  | w :: r => if w ≠ "births" then .place 0 else match cntS "stays" 1 (ws.drop 1) 1 with
    | .bad j => .place j
    | .done b j => match cntS "states" 0 (ws.drop j) j with
      | .bad j => .place j
      | .done s j => endS b s j (ws.drop j)
theorem rd_ok (s : Str) (h : s.length ≤ 1000) {k : Nat} (hk : k ≤ (wds s).length) : RdOk (wds s) s.length k := by
  have h1 := split_le s " "
  have h2 := split_weight s " " (by decide +kernel)
  have h3 : off (wds s) (wds s).length = ((wds s).map (·.length)).sum + (wds s).length := by
    unfold off
    rw [List.take_length]
    induction wds s with
    | nil => rfl
    | cons a l ih => simp only [List.map_cons, List.sum_cons, List.length_cons, ih]; omega
  unfold wds at *
  exact ⟨by omega, hk, by omega, by omega⟩
theorem small_figs : ∀ d : Fin 9, dgS d ∈ ([("2" : Str), "3", "4", "5", "6"] : List Str) ↔ 2 ≤ (d : Nat) ∧ (d : Nat) ≤ 6 := by decide +kernel
theorem mem_states {w : Str} : w ∈ ([("2" : Str), "3", "4", "5", "6"] : List Str) ↔ ∃ n, fig w = some n ∧ 2 ≤ n ∧ n ≤ 6 := by
  by_cases hw : w ∈ FIGS
  · obtain ⟨d, rfl⟩ := mem_figs.mp hw
    rw [fig_dg d, small_figs d]
    constructor
    · intro h
      exact ⟨_, rfl, by omega, by omega⟩
    · rintro ⟨n, h1, h2⟩
      have h1 := Option.some.inj h1
      omega
  · constructor
    · intro h
      exact absurd (show w ∈ FIGS from (List.Sublist.subset (show [("2" : Str), "3", "4", "5", "6"].Sublist FIGS by decide +kernel)) h) hw
    · rintro ⟨n, h1, _⟩
      unfold fig at h1
      rw [if_neg hw] at h1
      cases h1
def R_read (C : Addr) (ds : List PyData) (o : DOut) : Prop := ∃ s : Str, ds = [.str s] ∧ s.length ≤ 1000 ∧ ((∃ j, ruleS (wds s) = .place j ∧ o = .ex ⟨C, [("place", .int (plc (wds s) s.length j))]⟩) ∨ ∃ b st n, ruleS (wds s) = .rule b st n ∧ o = .ok (.tuple [.tuple (b.map .int), .tuple (st.map .int), .int n]))
theorem ok_read_rule {P : Program} {w : World} {K : Fg} {mg : Str → Option Value} {base : Heap} {f : Addr} {fd : FuncData} {C_FIGURES C_InvalidText C_NotText C_WordReader : Addr} (F : Fun K "read_rule" "read_rule" s_read_rule f fd)
    (m_int : mg "int" = none)
    (g_FIGURES : ∃ u, mg "FIGURES" = some u ∧ RelV (.ref C_FIGURES) u)
    (d_FIGURES : ∀ G, Dz K G (.ref C_FIGURES) (.tuple [.str "0", .str "1", .str "2", .str "3", .str "4", .str "5", .str "6", .str "7", .str "8"]))
    (c_check_text : Cal P w K mg base 1 "check_text" (spD K 1 (R_text C_NotText)))
    (c_WordReader_init : Mkr P w K mg base 1 "WordReader" C_WordReader (spO K C_WordReader 1 R_init))
    (c_WordReader_take : Mtd P w K mg base 1 C_WordReader "take" (spO K C_WordReader 1 (R_take C_InvalidText)))
    (c__read_counts : Cal P w K mg base 2 "_read_counts" (spO K C_WordReader 2 (R_rc C_InvalidText)))
    (c_WordReader_end : Mtd P w K mg base 1 C_WordReader "end" (spO K C_WordReader 0 (R_end C_InvalidText)))
    (cl_WordReader : Cls K C_WordReader) :
    FnOk P w K mg base (L2.CX P w) 3 f fd ["text"] (spD K 1 (R_read C_InvalidText)) := by
  obtain ⟨f_WordReader_take, fd_WordReader_take, ps_WordReader_take, G_WordReader_take, M_WordReader_take, B_WordReader_take⟩ := c_WordReader_take
  obtain ⟨f_WordReader_end, fd_WordReader_end, ps_WordReader_end, G_WordReader_end, M_WordReader_end, B_WordReader_end⟩ := c_WordReader_end
  refine F.okX sc_read_rule (fun vs H Q E h => len_D h) (fun cdv A outer s H vs Q E hr h => ⟨_, (pss_cons (ps_expr (pe_cl c_check_text hr (show 1 ≤ 2 by decide) passL (pa_cons (pv 0) pa_nil)))
      (pss_cons (ps_set (i := 1) sc_read_rule.nd rfl (by first | exact Or.inl rfl | exact Or.inr rfl) (pe_mkr (j := 1) c_WordReader_init (hr.mono (by decide)) (by decide) passL (pa_cons (pv 0) pa_nil)))
      (pss_cons (ps_expr (pe_meth (pv 1) cl_WordReader M_WordReader_take G_WordReader_take (hr.mono (show 1 ≤ 2 by decide)) B_WordReader_take .nil (passes_call (takes_of rfl rfl rfl rfl) fun _ _ _ _ h => h) (pa_cons (pe_tup (pa_cons pe_str pa_nil)) pa_nil)))
      (pss_cons (ps_set (i := 2) sc_read_rule.nd rfl (by first | exact Or.inl rfl | exact Or.inr rfl) (pe_cl c__read_counts hr (show 2 ≤ 2 by decide) (passes_call (takes_of rfl rfl rfl rfl) fun _ _ _ _ h => h) (pa_cons (pv 1) (pa_cons pe_int (pa_cons pe_str pa_nil)))))
      (pss_cons (ps_set (i := 3) sc_read_rule.nd rfl (by first | exact Or.inl rfl | exact Or.inr rfl) (pe_cl c__read_counts hr (show 2 ≤ 2 by decide) (passes_call (takes_of rfl rfl rfl rfl) fun _ _ _ _ h => h) (pa_cons (pv 1) (pa_cons pe_int (pa_cons pe_str pa_nil)))))
      (pss_cons (ps_set (i := 4) sc_read_rule.nd rfl (by first | exact Or.inl rfl | exact Or.inr rfl) (pe_callTy (call_int1.or call_int_str) (by rfl) m_int bt_int (pa_cons (pe_meth (pv 1) cl_WordReader M_WordReader_take G_WordReader_take (hr.mono (show 1 ≤ 2 by decide)) B_WordReader_take .nil (passes_call (takes_of rfl rfl rfl rfl) fun _ _ _ _ h => h) (pa_cons (pe_slice sl_any (pe_glob (by rfl) g_FIGURES.choose_spec.1 g_FIGURES.choose_spec.2) (po_some pe_int) (po_some pe_int)) pa_nil)) pa_nil)))
      (pss_cons (ps_expr (pe_meth0 (pv 1) cl_WordReader M_WordReader_end G_WordReader_end (hr.mono (show 1 ≤ 2 by decide)) B_WordReader_end .nil (passes_call (takes_of rfl rfl rfl rfl) fun _ _ _ _ h => h)))
      (pss_one (ps_ret (pe_tup (pa_cons (pv 2) (pa_cons (pv 3) (pa_cons (pv 4) pa_nil))))))))))))),
    fn_D h fun ds o hk hR => ?_⟩)
  try dsimp only [L2.cxOf]
  obtain ⟨s, rfl, hs, hR⟩ := hR
  have hsz : (sizeLine : Nat) = 16777216 := sizeLine_eq
  have hok := fun {k : Nat} (hk : k ≤ (wds s).length) => rd_ok s hs hk
  walk_at "zq"
  refine ⟨_, _, allD_cons allD_nil, rfl, ⟨.str s, rfl, .inl ⟨s, rfl, rfl⟩⟩, ?_⟩
  walk_at "zq"
  refine ⟨_, _, allD_cons allD_nil, rfl, ⟨s, rfl, rfl, hs, rfl, rfl⟩, fun p => ?_⟩
  walk_at "zq"
  refine ⟨⟨_, _, m0, rfl⟩, ?_⟩
  walk_at "zq"
  walk_at "zt"
  walk_at "zq"
  have hpos : 1 ≤ (wds s).length := split_pos s " "
  generalize hws : wds s = ws at hR hok hpos ⊢
  rcases take_cases ws [("births" : Str)] (Nat.zero_le _) with ⟨he, hd⟩ | ⟨w, hw, hd, hk1, hn⟩ | ⟨w, hw, hd, hk1, hn⟩
  · omega
  · have hc : ruleS ws = .place 0 := by
      rw [List.drop_zero] at hd
      rw [hd]
      unfold ruleS
      dsimp only
      rw [if_pos (by simpa using hn)]
    rw [hc] at hR
    rcases hR with ⟨j, h1, rfl⟩ | ⟨b, st, n, h1, _⟩
    · have h1 := RR.place.inj h1
      subst h1
      refine ⟨_, _, _, _, _, _, allD_cons allD_nil, rfl, ⟨ws, _, _, [("births" : Str)], rfl, rfl, hok (Nat.zero_le _), .inr (.inl ⟨w, hw, hn, rfl, rfl⟩)⟩, .here, fun d h => (nomatch h), fun x h => ?_⟩
      cases h
      unfold plc
      rw [if_pos (by omega)]
      rfl
    · cases h1
  · refine ⟨_, _, _, _, _, _, allD_cons allD_nil, rfl, ⟨ws, _, _, [("births" : Str)], rfl, rfl, hok (Nat.zero_le _), .inr (.inr ⟨w, hw, hn, rfl, rfl⟩)⟩, .here, fun d h => ?_, fun x h => (nomatch h)⟩
    have hc : ruleS ws = match cntS "stays" 1 (ws.drop 1) 1 with
      | .bad j => .place j
      | .done b j => match cntS "states" 0 (ws.drop j) j with
        | .bad j => .place j
        | .done s j => endS b s j (ws.drop j) := by
      rw [List.drop_zero] at hd
      cases ws with
      | nil => cases hd
      | cons u r =>
        cases hd
        unfold ruleS
        dsimp only
        rw [if_neg (by simpa using hn)]
    rw [hc] at hR
    clear hc
    walk_at "zq"
    cases hc1 : cntS "stays" 1 (ws.drop 1) 1 with
    | bad j =>
      rw [hc1] at hR
      rcases hR with ⟨j2, h1, rfl⟩ | ⟨b, st, n, h1, _⟩
      · have h1 := RR.place.inj h1
        subst h1
        refine ⟨_, _, _, _, _, _, _, _, rfl, allD_cons (allD_cons allD_nil), rfl, ⟨ws, _, 1, 1, "stays", rfl, rfl, hok hk1, by decide, by decide, by decide +kernel, by decide +kernel, .inl ⟨j, hc1, rfl, rfl⟩⟩, .here, fun d h => (nomatch h), fun x h => ?_⟩
        cases h
        rfl
      · cases h1
    | done b j =>
      rw [hc1] at hR
      dsimp only at hR
      have hj := cnt_done hk1 hc1
      refine ⟨_, _, _, _, _, _, _, _, rfl, allD_cons (allD_cons allD_nil), rfl, ⟨ws, _, 1, 1, "stays", rfl, rfl, hok hk1, by decide, by decide, by decide +kernel, by decide +kernel, .inr ⟨b, j, hc1, rfl, rfl⟩⟩, .here, fun d h => ?_, fun x h => (nomatch h)⟩
      cases h
      walk_at "zq"
      cases hc2 : cntS "states" 0 (ws.drop j) j with
      | bad j2 =>
        rw [hc2] at hR
        rcases hR with ⟨j3, h1, rfl⟩ | ⟨b, st, n, h1, _⟩
        · have h1 := RR.place.inj h1
          subst h1
          refine ⟨_, _, _, _, _, _, _, _, rfl, allD_cons (allD_cons allD_nil), rfl, ⟨ws, _, j, 0, "states", rfl, rfl, hok hj, by decide, by decide, by decide +kernel, by decide +kernel, .inl ⟨j2, hc2, rfl, rfl⟩⟩, .here, fun d h => (nomatch h), fun x h => ?_⟩
          cases h
          rfl
        · cases h1
      | done st j2 =>
        rw [hc2] at hR
        dsimp only at hR
        have hj2 := cnt_done hj hc2
        refine ⟨_, _, _, _, _, _, _, _, rfl, allD_cons (allD_cons allD_nil), rfl, ⟨ws, _, j, 0, "states", rfl, rfl, hok hj, by decide, by decide, by decide +kernel, by decide +kernel, .inr ⟨st, j2, hc2, rfl, rfl⟩⟩, .here, fun d h => ?_, fun x h => (nomatch h)⟩
        cases h
        walk_at "zq"
        refine ⟨⟨_, _, m0, rfl⟩, ?_⟩
        walk_at "zq"
        have hcd : cutD figD (some 2) (some 7) = [("2" : Str), "3", "4", "5", "6"].map .str := rfl
        rw [hcd]
        rcases take_cases ws [("2" : Str), "3", "4", "5", "6"] hj2 with ⟨he3, hd3⟩ | ⟨w3, hw3, hd3, hk3, hn3⟩ | ⟨w3, hw3, hd3, hk3, hn3⟩
        · rw [hd3] at hR
          rcases hR with ⟨j3, h1, rfl⟩ | ⟨b, st, n, h1, _⟩
          · have h1 := RR.place.inj h1
            subst h1
            refine ⟨_, _, _, _, _, _, allD_cons allD_nil, rfl, ⟨ws, _, j2, _, rfl, rfl, hok hj2, .inl ⟨he3, rfl, rfl⟩⟩, .here, fun d h => (nomatch h), fun x h => ?_⟩
            cases h
            unfold plc
            rw [if_neg (by omega)]
            rfl
          · cases h1
        · have hb3 : endS b st j2 (ws.drop j2) = .place j2 := by
            rw [hd3, end_cons]
            cases hf3 : fig w3 with
            | none => rfl
            | some n =>
              dsimp only
              rw [if_neg (fun e => hn3 (mem_states.mpr ⟨n, hf3, e.1, e.2⟩))]
          rw [hb3] at hR
          rcases hR with ⟨j3, h1, rfl⟩ | ⟨b, st, n, h1, _⟩
          · have h1 := RR.place.inj h1
            subst h1
            refine ⟨_, _, _, _, _, _, allD_cons allD_nil, rfl, ⟨ws, _, j2, _, rfl, rfl, hok hj2, .inr (.inl ⟨w3, hw3, hn3, rfl, rfl⟩)⟩, .here, fun d h => (nomatch h), fun x h => ?_⟩
            cases h
            unfold plc
            rw [if_pos (by omega)]
            rfl
          · cases h1
        · obtain ⟨n, hf3, hn2, hn6⟩ := mem_states.mp hn3
          have hfi := fig_int hf3
          refine ⟨_, _, _, _, _, _, allD_cons allD_nil, rfl, ⟨ws, _, j2, _, rfl, rfl, hok hj2, .inr (.inr ⟨w3, hw3, hn3, rfl, rfl⟩)⟩, .here, fun d h => ?_, fun x h => (nomatch h)⟩
          cases h
          walk_at "zq"
          refine zc_intS hfi.1 (by omega) ?_
          walk_at "zq"
          refine ⟨⟨_, _, m0, rfl⟩, ?_⟩
          walk_at "zq"
          rw [hd3, end_cons, hf3] at hR
          dsimp only at hR
          rw [if_pos ⟨hn2, hn6⟩] at hR
          rcases take_cases ws [] hk3 with ⟨he4, hd4⟩ | ⟨w4, hw4, hd4, hk4, hn4⟩ | ⟨w4, hw4, hd4, hk4, hn4⟩
          · rw [hd4] at hR
            dsimp only at hR
            rcases hR with ⟨j3, h1, _⟩ | ⟨b2, st2, n2, h1, rfl⟩
            · cases h1
            · obtain ⟨h1, h2, h3⟩ := RR.rule.inj h1
              subst h1 h2 h3
              refine ⟨_, _, _, _, _, _, allD_nil, rfl, ⟨ws, _, j2 + 1, rfl, rfl, rfl, hok hk3, .inl ⟨he4, rfl⟩⟩, .here, fun d h => ?_, fun x h => (nomatch h)⟩
              walk_at "zq"
              walk_at "zt"
              exact ⟨_, rfl, rfl⟩
          · rw [hd4] at hR
            dsimp only at hR
            rcases hR with ⟨j3, h1, rfl⟩ | ⟨b2, st2, n2, h1, _⟩
            · have h1 := RR.place.inj h1
              subst h1
              refine ⟨_, _, _, _, _, _, allD_nil, rfl, ⟨ws, _, j2 + 1, rfl, rfl, rfl, hok hk3, .inr ⟨hk4, rfl⟩⟩, .here, fun d h => (nomatch h), fun x h => ?_⟩
              cases h
              unfold plc
              rw [if_pos hk4]
              rfl
            · cases h1
          · cases hn4
/-- a draw's row: the script, the cell's number, the seed, the rest -/
structure RowS where
  ns : List Int
  i : Int
  s : Int
  r : Int
  hi : 0 ≤ i
  hs : 0 ≤ s
  ht : s < 2147483647
def RowS.d (t : RowS) : List PyData := [.list (t.ns.map .int), .int t.i, .int t.s, .int t.r]
def RowS.cell (t : RowS) : Int := t.ns.getD t.i.toNat 0
def RowS.draw (t : RowS) (many : Int) : Int := if 0 < t.r then t.r % many else if (t.ns.length : Int) < t.i + 1 then (t.s * 48271 + 11) % 2147483647 / 7 % many else t.cell % many
theorem mod_ok (a : Int) : 0 ≤ a % 2147483647 ∧ a % 2147483647 < 2147483647 := ⟨Int.emod_nonneg _ (by decide), Int.emod_lt_of_pos _ (by decide)⟩
def RowS.next (t : RowS) (many : Int) : RowS := if 0 < t.r then { t with r := t.r / many } else if (t.ns.length : Int) < t.i + 1 then ⟨t.ns, t.i + 1, (t.s * 48271 + 11) % 2147483647, t.r, by have := t.hi; omega, (mod_ok _).1, (mod_ok _).2⟩
  else ⟨t.ns, t.i + 1, (t.s * 48271 + t.cell + 11) % 2147483647, if 10 ^ 18 ≤ t.cell then t.cell / many else t.r, by have := t.hi; omega, (mod_ok _).1, (mod_ok _).2⟩
theorem RowS.draw_lt (t : RowS) {many : Int} (h : 0 < many) : 0 ≤ t.draw many ∧ t.draw many < many := by
  unfold RowS.draw
  split
  · exact ⟨Int.emod_nonneg _ (by omega), Int.emod_lt_of_pos _ h⟩
  · split <;> exact ⟨Int.emod_nonneg _ (by omega), Int.emod_lt_of_pos _ h⟩
def R_taken (xs ds : List PyData) (F : DOut → List PyData → Prop) : Prop := ∃ (t : RowS) (many : Int), xs = t.d ∧ ds = [.int many] ∧ 0 < many ∧ many.natAbs.log2 < 9000 ∧ ∀ (v : Int) (t' : RowS), 0 ≤ v → v < many → F (.ok (.int v)) t'.d
theorem ok_law_taken {P : Program} {w : World} {K : Fg} {mg : Str → Option Value} {base : Heap} {f : Addr} {fd : FuncData} (F : Fun K "_law_taken" "_law_taken" s_law_taken f fd)
    (m_int : mg "int" = none)
    (m_len : mg "len" = none) :
    FnOk P w K mg base (L2.CX P w) 1 f fd ["row", "many"] (spC K 1 R_taken) := by
  refine F.okX sc_law_taken (fun vs H Q E h => len_C h) (fun cdv A outer s H vs Q E hr h => ⟨_, (pss_cons (ps_if (pt_cmpR op_gt (pe_ix ix_seq (pv 0) pe_int (fun _ _ => rfl)) pe_int (nomark _)) (pss_cons (ps_set (i := 2) sc_law_taken.nd rfl (by first | exact Or.inl rfl | exact Or.inr rfl) (pe_op op_mod (pe_callTy (call_int1.or call_int_str) (by rfl) m_int bt_int (pa_cons (pe_ix ix_seq (pv 0) pe_int (fun _ _ => rfl)) pa_nil)) (pv 1)))
      (pss_cons (ps_asg (pe_op op_fdivW (pe_ix ix_seq (pv 0) pe_int (fun _ _ => rfl)) (pv 1)) (pg_sub (pv 0) pe_int set_list))
      (pss_one (ps_ret (pv 2))))) pss_nil)
      (pss_cons (ps_asg (pe_op op_addA (pe_ix ix_seq (pv 0) pe_int (fun _ _ => rfl)) pe_int) (pg_sub (pv 0) pe_int set_list))
      (pss_cons (ps_if (pt_cmpR op_gt (pe_ix ix_seq (pv 0) pe_int (fun _ _ => rfl)) (pe_callB call_len (by rfl) m_len bb_len (pa_cons (pe_ix ix_seq (pv 0) pe_int (fun _ _ => rfl)) pa_nil)) (nomark _)) (pss_cons (ps_asg (pe_op op_mod (pe_callTy (call_int1.or call_int_str) (by rfl) m_int bt_int (pa_cons (pe_op op_addA (pe_op op_mul (pe_ix ix_seq (pv 0) pe_int (fun _ _ => rfl)) pe_int) pe_int) pa_nil)) pe_int) (pg_sub (pv 0) pe_int set_list))
      (pss_one (ps_ret (pe_op op_mod (pe_callTy (call_int1.or call_int_str) (by rfl) m_int bt_int (pa_cons (pe_op op_fdivW (pe_ix ix_seq (pv 0) pe_int (fun _ _ => rfl)) pe_int) pa_nil)) (pv 1))))) pss_nil)
      (pss_cons (ps_set (i := 3) sc_law_taken.nd rfl (by first | exact Or.inl rfl | exact Or.inr rfl) (pe_ix ix_seq (pe_ix ix_seq (pv 0) pe_int (fun _ _ => rfl)) (pe_op op_sub (pe_ix ix_seq (pv 0) pe_int (fun _ _ => rfl)) pe_int) (fun _ _ => rfl)))
      (pss_cons (ps_asg (pe_op op_mod (pe_callTy (call_int1.or call_int_str) (by rfl) m_int bt_int (pa_cons (pe_op op_addA (pe_op op_addA (pe_op op_mul (pe_ix ix_seq (pv 0) pe_int (fun _ _ => rfl)) pe_int) (pv 3)) pe_int) pa_nil)) pe_int) (pg_sub (pv 0) pe_int set_list))
      (pss_cons (ps_if (pt_cmpR op_ge (pv 3) (pe_op op_pow pe_int pe_int) (nomark _)) (pss_one (ps_asg (pe_op op_fdivW (pv 3) (pv 1)) (pg_sub (pv 0) pe_int set_list))) pss_nil)
      (pss_one (ps_ret (pe_op op_mod (pe_callTy (call_int1.or call_int_str) (by rfl) m_int bt_int (pa_cons (pv 3) pa_nil)) (pv 1)))))))))),
    fn_C h fun p xs ds F hk hR => ?_⟩)
  try dsimp only [L2.cxOf]
  obtain ⟨t, many, rfl, rfl, hm, hm2, hF⟩ := hR
  have hG := hF _ (t.next many) (t.draw_lt hm).1 (t.draw_lt hm).2
  clear hF
  have hi := t.hi
  have hs := t.hs
  have ht := t.ht
  walk_at "zz"
  refine ⟨_, rfl, fun hb => ?_, fun hb => ?_⟩
  · have hb : 0 < t.r := of_decide_eq_true hb
    have e1 : t.draw many = t.r % many := if_pos hb
    have e2 : (t.next many).d = [.list (t.ns.map .int), .int t.i, .int t.s, .int (t.r / many)] := by unfold RowS.next; rw [if_pos hb]; rfl
    walk_at "zz"
    refine zo_mod hm ?_
    walk_at "zz"
    refine zo_fdivW ⟨hm, hm2⟩ ?_
    refine ⟨_, rfl, ?_⟩
    walk_at "zz"
    refine ⟨p, false, _, 3, 3, _, rfl, rfl, rfl, .here, ?_⟩
    walk_at "zz"
    exact ⟨_, _, rfl, by rw [e1] at hG; exact hG, by rw [e2]; exact m0⟩
  · have hb : ¬ 0 < t.r := of_decide_eq_false hb
    walk_at "zz"
    refine ⟨_, rfl, ?_⟩
    walk_at "zz"
    refine ⟨p, false, _, 1, 1, _, rfl, rfl, rfl, .here, ?_⟩
    walk_at "zz"
    refine ⟨_, rfl, fun hc => ?_, fun hc => ?_⟩
    · have hc : (t.ns.length : Int) < t.i + 1 := by simpa using of_decide_eq_true hc
      have e1 : t.draw many = (t.s * 48271 + 11) % 2147483647 / 7 % many := by unfold RowS.draw; rw [if_neg hb, if_pos hc]
      have e2 : (t.next many).d = [.list (t.ns.map .int), .int (t.i + 1), .int ((t.s * 48271 + 11) % 2147483647), .int t.r] := by unfold RowS.next; rw [if_neg hb, if_pos hc]; rfl
      walk_at "zz"
      refine zo_mul (.inl ⟨by omega, by omega⟩) ?_
      walk_at "zz"
      refine zo_mod (by decide) ?_
      refine ⟨_, rfl, ?_⟩
      walk_at "zz"
      refine ⟨p, false, _, 2, 2, _, rfl, rfl, rfl, .here, ?_⟩
      walk_at "zz"
      refine zo_fdivW ⟨by decide, by decide⟩ ?_
      walk_at "zz"
      refine zo_mod hm ?_
      exact ⟨_, _, rfl, by rw [e1] at hG; exact hG, by rw [e2]; exact m0⟩
    · have hc : ¬ (t.ns.length : Int) < t.i + 1 := fun z => absurd (of_decide_eq_false hc) (by simpa using z)
      have hg : t.ns[t.i.toNat]? = some t.cell := by
        unfold RowS.cell
        rw [List.getD_eq_getElem?_getD]
        rw [List.getElem?_eq_getElem (by omega)]
        rfl
      have hat : atI (t.ns.map PyData.int) (t.i + 1 - 1) = some (.int t.cell) := by
        have e : t.i + 1 - 1 = ((t.i.toNat : Nat) : Int) := by omega
        rw [e]
        exact atI_nat (by rw [List.getElem?_map, hg]; rfl)
      have e1 : t.draw many = t.cell % many := by unfold RowS.draw; rw [if_neg hb, if_neg hc]
      have e2 : (t.next many).d = [.list (t.ns.map .int), .int (t.i + 1), .int ((t.s * 48271 + t.cell + 11) % 2147483647), .int (if 10 ^ 18 ≤ t.cell then t.cell / many else t.r)] := by unfold RowS.next; rw [if_neg hb, if_neg hc]; rfl
      walk_at "zz"
      refine zo_mul (.inl ⟨by omega, by omega⟩) ?_
      walk_at "zz"
      refine zo_mod (by decide) ?_
      refine ⟨_, rfl, ?_⟩
      walk_at "zz"
      refine ⟨p, false, _, 2, 2, _, rfl, rfl, rfl, .here, ?_⟩
      walk_at "zz"
      refine zo_pow ⟨by decide, by decide, by decide⟩ ?_
      walk_at "zz"
      refine ⟨_, rfl, fun hd => ?_, fun hd => ?_⟩
      · have hd : (10 : Int) ^ 18 ≤ t.cell := of_decide_eq_true hd
        rw [if_pos hd] at e2
        walk_at "zz"
        refine zo_fdivW ⟨hm, hm2⟩ ?_
        refine ⟨_, rfl, ?_⟩
        walk_at "zz"
        refine ⟨p, false, _, 3, 3, _, rfl, rfl, rfl, .here, ?_⟩
        walk_at "zz"
        refine zo_mod hm ?_
        exact ⟨_, _, rfl, by rw [e1] at hG; exact hG, by rw [e2]; exact m0⟩
      · have hd : ¬ (10 : Int) ^ 18 ≤ t.cell := of_decide_eq_false hd
        rw [if_neg hd] at e2
        walk_at "zz"
        refine zo_mod hm ?_
        exact ⟨_, _, rfl, by rw [e1] at hG; exact hG, by rw [e2]; exact m0⟩
theorem log_small {n : Nat} (h : n < 2 ^ 100) : ((n : Int)).natAbs.log2 < 9000 := by
  rw [Int.natAbs_natCast]
  by_cases hz : n = 0
  · subst hz; decide
  · exact Nat.lt_of_lt_of_le ((Nat.log2_lt hz).2 h) (by decide)
def R_pick (xs ds : List PyData) (F : DOut → List PyData → Prop) : Prop := ∃ (t : RowS) (things : List PyData), xs = t.d ∧ ds = [.list things] ∧ things ≠ [] ∧ things.length < 1000 ∧ ∀ (i : Nat) (v : PyData) (t' : RowS), things[i]? = some v → F (.ok v) t'.d
theorem ok_law_pick {P : Program} {w : World} {K : Fg} {mg : Str → Option Value} {base : Heap} {f : Addr} {fd : FuncData} (F : Fun K "_law_pick" "_law_pick" s_law_pick f fd)
    (m_len : mg "len" = none)
    (c__law_taken : Cal P w K mg base 1 "_law_taken" (spC K 1 R_taken)) :
    FnOk P w K mg base (L2.CX P w) 2 f fd ["row", "things"] (spC K 1 R_pick) := by
  refine F.okX sc_law_pick (fun vs H Q E h => len_C h) (fun cdv A outer s H vs Q E hr h => ⟨_, (pss_one (ps_ret (pe_ix ix_seq (pv 1) (pe_cl c__law_taken hr (show 1 ≤ 1 by decide) passL (pa_cons (pv 0) (pa_cons (pe_callB call_len (by rfl) m_len bb_len (pa_cons (pv 1) pa_nil)) pa_nil))) (fun _ _ => rfl)))),
    fn_C h fun p xs ds F hk hR => ?_⟩)
  try dsimp only [L2.cxOf]
  obtain ⟨t, things, rfl, rfl, hne, hl, hF⟩ := hR
  walk_at "zq"
  have hp : 0 < things.length := List.length_pos_iff.mpr hne
  refine ⟨_, _, _, _, _, rfl, m0, allD_cons allD_nil, rfl, ⟨t, things.length, rfl, rfl, by omega, log_small (by omega), fun v t' h0 hv => ⟨_, _, rfl, .here, ?_⟩⟩⟩
  have hi : v.toNat < things.length := by omega
  have hv2 : atI things v = some things[v.toNat] := by
    have e : v = ((v.toNat : Nat) : Int) := by omega
    have h := atI_nat (xs := things) (List.getElem?_eq_getElem hi)
    rw [← e] at h
    exact h
  refine zo_ix hv2 ?_
  exact ⟨_, _, rfl, hF v.toNat _ t' (List.getElem?_eq_getElem hi), m0⟩
theorem asc_snoc {l : List Int} {y : Int} (h8 : y ≤ 8) : ∀ {lo : Int}, asc lo l = true → (∀ x ∈ l, x < y) → lo ≤ y → asc lo (l ++ [y]) = true := by
  induction l with
  | nil =>
    intro lo _ _ h
    show (decide (lo ≤ y) && decide (y ≤ 8) && true) = true
    simp [h, h8]
  | cons a l ih =>
    intro lo h hl hy
    have h' : (decide (lo ≤ a) && decide (a ≤ 8) && asc (a + 1) l) = true := h
    rw [Bool.and_eq_true] at h'
    have := hl a (by simp)
    show (decide (lo ≤ a) && decide (a ≤ 8) && asc (a + 1) (l ++ [y])) = true
    rw [h'.1, ih h'.2 (fun x hx => hl x (by simp [hx])) (by omega)]
    rfl
def R_some (xs ds : List PyData) (F : DOut → List PyData → Prop) : Prop := ∃ (t : RowS), xs = t.d ∧ ds = [] ∧ ∀ (b s : List Int) (n : Int) (t' : RowS), asc 1 b = true → asc 0 s = true → 2 ≤ n → n ≤ 6 → F (.ok (.tuple [.tuple (b.map .int), .tuple (s.map .int), .int n])) t'.d
theorem ok_law_some_rule {P : Program} {w : World} {K : Fg} {mg : Str → Option Value} {base : Heap} {f : Addr} {fd : FuncData} (F : Fun K "_law_some_rule" "_law_some_rule" s_law_some_rule f fd)
    (m_tuple : mg "tuple" = none)
    (m_range : mg "range" = none)
    (c__law_taken : Cal P w K mg base 1 "_law_taken" (spC K 1 R_taken))
    (c__law_pick : Cal P w K mg base 2 "_law_pick" (spC K 1 R_pick)) :
    FnOk P w K mg base (L2.CX P w) 3 f fd ["row"] (spC K 0 R_some) := by
  refine F.okX sc_law_some_rule (fun vs H Q E h => len_C h) (fun cdv A outer s H vs Q E hr h => ⟨_, (pss_cons (ps_set (i := 1) sc_law_some_rule.nd rfl (by first | exact Or.inl rfl | exact Or.inr rfl) (pe_cl c__law_taken hr (show 1 ≤ 2 by decide) passL (pa_cons (pv 0) (pa_cons pe_int pa_nil))))
      (pss_cons (ps_if (pt_cmpR op_lt (pv 1) pe_int (nomark _)) (pss_one (ps_ret (pe_tup (pa_cons (pe_tup (pa_cons pe_int pa_nil)) (pa_cons (pe_tup (pa_cons pe_int (pa_cons pe_int pa_nil))) (pa_cons pe_int pa_nil)))))) pss_nil)
      (pss_cons (ps_set (i := 2) sc_law_some_rule.nd rfl (by first | exact Or.inl rfl | exact Or.inr rfl) (pe_callTy call_tuple_of (by rfl) m_tuple bt_tuple (pa_cons (pe_lc (own := [("k", 3)]) rfl sc_law_some_rule.nd (pi_range2 (by rfl) m_range (pa_cons pe_int (pa_cons pe_int pa_nil))) (blkOk_by (N := N_law_some_rule) (sc := defScope s_law_some_rule) (by decide +kernel)) (fun _ _ _ _ _ => (pg_name (i := 3) sc_law_some_rule.nd rfl (by first | exact Or.inl rfl | exact Or.inr rfl))) (fun _ _ _ _ _ => (pts_one (pt_cmpR (show OpR _ (compareOp .Eq) (rEqA K) from (op_eqA hr.units)) (pe_cl c__law_taken hr (show 1 ≤ 2 by decide) passL (pa_cons (pv 0) (pa_cons pe_int pa_nil))) pe_int (nomark _)))) (fun _ _ _ _ _ => (pv 3))) pa_nil)))
      (pss_cons (ps_set (i := 4) sc_law_some_rule.nd rfl (by first | exact Or.inl rfl | exact Or.inr rfl) (pe_callTy call_tuple_of (by rfl) m_tuple bt_tuple (pa_cons (pe_lc (own := [("k", 3)]) rfl sc_law_some_rule.nd (pi_range1 (by rfl) m_range (pa_cons pe_int pa_nil)) (blkOk_by (N := N_law_some_rule) (sc := defScope s_law_some_rule) (by decide +kernel)) (fun _ _ _ _ _ => (pg_name (i := 3) sc_law_some_rule.nd rfl (by first | exact Or.inl rfl | exact Or.inr rfl))) (fun _ _ _ _ _ => (pts_one (pt_cmpR (show OpR _ (compareOp .Eq) (rEqA K) from (op_eqA hr.units)) (pe_cl c__law_taken hr (show 1 ≤ 2 by decide) passL (pa_cons (pv 0) (pa_cons pe_int pa_nil))) pe_int (nomark _)))) (fun _ _ _ _ _ => (pv 3))) pa_nil)))
      (pss_one (ps_ret (pe_tup (pa_cons (pv 2) (pa_cons (pv 4) (pa_cons (pe_cl c__law_pick hr (show 2 ≤ 2 by decide) passL (pa_cons (pv 0) (pa_cons (pe_lst (pa_cons pe_int (pa_cons pe_int (pa_cons pe_int (pa_cons pe_int (pa_cons pe_int pa_nil)))))) pa_nil))) pa_nil)))))))))),
    fn_C h fun p xs ds F hk hR => ?_⟩)
  try dsimp only [L2.cxOf]
  obtain ⟨t, rfl, rfl, hF⟩ := hR
  walk_at "zq"
  refine ⟨_, _, _, _, _, rfl, m0, allD_cons allD_nil, rfl, ⟨t, 6, rfl, rfl, by decide, by decide, fun way t1 hw0 hw6 => ⟨_, _, rfl, .here, ?_⟩⟩⟩
  walk_at "zq"
  refine ⟨fun hw => ?_, fun hw => ?_⟩
  · walk_at "zq"
    walk_at "zt"
    walk_at "zq"
    walk_at "zt"
    walk_at "zq"
    walk_at "zt"
    exact ⟨_, _, rfl, hF [3] [2, 3] 2 t1 rfl rfl (by decide) (by decide), m0⟩
  · walk_at "zq"
    refine ⟨_, _, rfl, by decide, by rw [sizeLine_eq]; decide, fun i acc M' => ∃ (l : List Int) (t' : RowS), acc = l.map .int ∧ M' = [(p, false, .lst t'.d)] ∧ asc 1 l = true ∧ ∀ x ∈ l, x < 2 + (i : Int), ⟨[], t1, rfl, rfl, rfl, by simp⟩, ?_, ?_⟩
    · rintro i hi acc M' D ⟨l, t2, rfl, rfl, ha, hl⟩
      refine ⟨_, _, ?_, zg_name, ?_⟩
      · simp
      · walk_at "zq"
        refine ⟨_, _, _, _, _, rfl, m1 m0, allD_cons allD_nil, rfl, ⟨t2, 4, rfl, rfl, by decide, by decide, fun v t3 h0 h4 => ⟨_, _, rfl, .there .here, ?_⟩⟩⟩
        walk_at "zq"
        refine ⟨fun hb => ⟨_, rfl, l, t3, rfl, rfl, ha, fun x hx => ?_⟩, fun hb => ?_⟩
        · have := hl x hx
          push_cast
          omega
        · walk_at "zq"
          refine ⟨l ++ [2 + (i : Int)], t3, by simp, rfl, asc_snoc (by omega) ha hl (by omega), fun x hx => ?_⟩
          rcases List.mem_append.mp hx with h | h
          · have := hl x h
            push_cast
            omega
          · have : x = 2 + (i : Int) := by simpa using h
            push_cast
            omega
    · rintro acc M' ⟨b, t2, rfl, rfl, hb, _⟩
      walk_at "zq"
      refine zc_tupL ?_
      walk_at "zq"
      refine ⟨by decide, by rw [sizeLine_eq]; decide, fun i acc M' => ∃ (l : List Int) (t' : RowS), acc = l.map .int ∧ M' = [(p, false, .lst t'.d)] ∧ asc 0 l = true ∧ ∀ x ∈ l, x < (i : Int), ⟨[], t2, rfl, rfl, rfl, by simp⟩, ?_, ?_⟩
      · rintro i hi acc M' D ⟨l, t2, rfl, rfl, ha, hl⟩
        refine ⟨_, _, ?_, zg_name, ?_⟩
        · simp
        · walk_at "zq"
          refine ⟨_, _, _, _, _, rfl, m1 m0, allD_cons allD_nil, rfl, ⟨t2, 3, rfl, rfl, by decide, by decide, fun v t3 h0 h4 => ⟨_, _, rfl, .there .here, ?_⟩⟩⟩
          walk_at "zq"
          refine ⟨fun hb => ⟨_, rfl, l, t3, rfl, rfl, ha, fun x hx => ?_⟩, fun hb => ?_⟩
          · have := hl x hx
            push_cast
            omega
          · walk_at "zq"
            refine ⟨l ++ [0 + (i : Int)], t3, by simp, rfl, asc_snoc (by omega) ha (fun x hx => by have := hl x hx; omega) (by omega), fun x hx => ?_⟩
            rcases List.mem_append.mp hx with h | h
            · have := hl x h
              push_cast
              omega
            · have : x = 0 + (i : Int) := by simpa using h
              push_cast
              omega
      · rintro acc M' ⟨st, t3, rfl, rfl, hs, _⟩
        walk_at "zq"
        refine zc_tupL ?_
        walk_at "zq"
        refine zw_lstD ?_
        walk_at "zq"
        walk_at "zt"
        walk_at "zq"
        refine ⟨_, _, _, _, _, rfl, m0, allD_cons allD_nil, rfl, ⟨t3, [.int 2, .int 2, .int 3, .int 4, .int 6], rfl, rfl, by simp, by simp, fun i v t4 hv => ⟨_, _, rfl, .here, ?_⟩⟩⟩
        walk_at "zq"
        walk_at "zt"
        have hm := List.mem_of_getElem? hv
        have hn : ∃ n : Int, v = .int n ∧ 2 ≤ n ∧ n ≤ 6 := by
          simp only [List.mem_cons, List.not_mem_nil, or_false] at hm
          rcases hm with rfl | rfl | rfl | rfl | rfl <;> exact ⟨_, rfl, by decide, by decide⟩
        obtain ⟨n, rfl, h2, h6⟩ := hn
        exact ⟨_, _, rfl, hF b st n t4 hb hs h2 h6, m0⟩
def R_rtext (ds : List PyData) (o : DOut) : Prop := ∃ (b s : List Int) (n : Int), ds = [.tuple [.tuple (b.map .int), .tuple (s.map .int), .int n]] ∧ asc 1 b = true ∧ asc 0 s = true ∧ 2 ≤ n ∧ n ≤ 6 ∧ o = .ok (.str (ruleText b s n))
theorem ok_law_rule_text {P : Program} {w : World} {K : Fg} {mg : Str → Option Value} {base : Heap} {f : Addr} {fd : FuncData} (F : Fun K "_law_rule_text" "_law_rule_text" s_law_rule_text f fd)
    (m_str : mg "str" = none) :
    FnOk P w K mg base (L2.CX P w) 1 f fd ["rule"] (spD K 1 R_rtext) := by
  refine F.okX sc_law_rule_text (fun vs H Q E h => len_D h) (fun cdv A outer s H vs Q E hr h => ⟨_, (pss_cons (ps_set (i := 1) sc_law_rule_text.nd rfl (by first | exact Or.inl rfl | exact Or.inr rfl) (pe_ifExp (pt_cmpR (op_neA hr.units) (pe_ix ix_seq (pv 0) pe_int (fun _ _ => rfl)) (pe_tup pa_nil) (nomark _)) (pe_join pe_str (pe_lc (own := [("one", 2)]) rfl sc_law_rule_text.nd (pi_tup (pe_ix ix_seq (pv 0) pe_int (fun _ _ => rfl))) (blkOk_by (N := N_law_rule_text) (sc := defScope s_law_rule_text) (by decide +kernel)) (fun _ _ _ _ _ => (pg_name (i := 2) sc_law_rule_text.nd rfl (by first | exact Or.inl rfl | exact Or.inr rfl))) (fun _ _ _ _ _ => pts_nil) (fun _ _ _ _ _ => (pe_callTy call_str_int (by rfl) m_str bt_str (pa_cons (pv 2) pa_nil))))) pe_str))
      (pss_cons (ps_set (i := 3) sc_law_rule_text.nd rfl (by first | exact Or.inl rfl | exact Or.inr rfl) (pe_ifExp (pt_cmpR (op_neA hr.units) (pe_ix ix_seq (pv 0) pe_int (fun _ _ => rfl)) (pe_tup pa_nil) (nomark _)) (pe_join pe_str (pe_lc (own := [("one", 2)]) rfl sc_law_rule_text.nd (pi_tup (pe_ix ix_seq (pv 0) pe_int (fun _ _ => rfl))) (blkOk_by (N := N_law_rule_text) (sc := defScope s_law_rule_text) (by decide +kernel)) (fun _ _ _ _ _ => (pg_name (i := 2) sc_law_rule_text.nd rfl (by first | exact Or.inl rfl | exact Or.inr rfl))) (fun _ _ _ _ _ => pts_nil) (fun _ _ _ _ _ => (pe_callTy call_str_int (by rfl) m_str bt_str (pa_cons (pv 2) pa_nil))))) pe_str))
      (pss_one (ps_ret (pe_op op_addA (pe_op op_addA (pe_op op_addA (pe_op op_addA (pe_op op_addA pe_str (pv 1)) pe_str) (pv 3)) pe_str) (pe_callTy call_str_int (by rfl) m_str bt_str (pa_cons (pe_ix ix_seq (pv 0) pe_int (fun _ _ => rfl)) pa_nil))))))),
    fn_D h fun ds o hk hR => ?_⟩)
  try dsimp only [L2.cxOf]
  obtain ⟨b, s, n, rfl, hb, hs, h1, h2, rfl⟩ := hR
  have hsz : (sizeLine : Nat) = 16777216 := sizeLine_eq
  have hb2 := asc_mem hb
  have hs2 := asc_mem hs
  have hb3 := asc_len hb (by decide)
  have hs3 := asc_len hs (by decide)
  have hb4 : ∀ i ∈ b, 0 ≤ i ∧ i ≤ 8 := fun i hi => ⟨by have := hb2 i hi; omega, (hb2 i hi).2⟩
  have wb := wc_len hb4 (by omega)
  have ws := wc_len hs2 (by omega)
  have l5 := len5 (n := n) (by omega) (by omega)
  refine zs_seq (zs_asg (zw_mono (Q' := fun z M' => z = .d (.str (wc b)) ∧ M' = []) ?_ ?_))
  · walk_at "zq"
    walk_at "zt"
    refine zo_neDD (shp_ints b) (shp_ints []) ?_
    rw [show PyData.eqv (.tuple (b.map .int)) (.tuple []) = b.isEmpty from eqv_nilT b]
    walk_at "zq"
    refine ⟨fun hbe => ?_, fun hbe => ?_⟩
    · walk_at "zq"
      refine ⟨by rw [List.length_map]; omega, fun i acc M' => M' = [] ∧ acc = ((b.take i).map fun i => (toString i : Str)).map .str, ⟨rfl, rfl⟩, ?_, ?_⟩
      · rintro i x hx acc M2 D ⟨rfl, rfl⟩
        rw [List.getElem?_map] at hx
        obtain ⟨y, hy, rfl⟩ := Option.map_eq_some_iff.mp hx
        have hy2 := hb4 y (List.mem_of_getElem? hy)
        refine ⟨_, _, ?_, zg_name, ?_⟩
        · simp
        · walk_at "zq"
          refine zc_strI (small_log (by omega) (by omega)) ?_
          refine ⟨_, [], rfl, rfl, rfl, ?_⟩
          rw [List.take_add_one, hy]
          simp
      · rintro acc M2 ⟨rfl, rfl⟩
        rw [List.length_map, List.take_length]
        refine zm_join ?_ ⟨?_, rfl⟩
        · rw [wc_sum hb4, List.length_map, show ((" " : Str).length = 1) by decide +kernel]
          omega
        · rw [show Txt.join " " (b.map fun i => (toString i : Str)) = wc b by unfold wc; rw [if_neg (by intro e; rw [e] at hbe; cases hbe)]]
    · walk_at "zq"
      have e : b = [] := by
        cases b with
        | nil => rfl
        | cons x l => cases hbe
      subst e
      exact ⟨rfl, rfl⟩
  rintro z M' ⟨rfl, rfl⟩
  refine zs_seq (zs_asg (zw_mono (Q' := fun z M' => z = .d (.str (wc s)) ∧ M' = []) ?_ ?_))
  · walk_at "zq"
    walk_at "zt"
    refine zo_neDD (shp_ints s) (shp_ints []) ?_
    rw [show PyData.eqv (.tuple (s.map .int)) (.tuple []) = s.isEmpty from eqv_nilT s]
    walk_at "zq"
    refine ⟨fun hbe => ?_, fun hbe => ?_⟩
    · walk_at "zq"
      refine ⟨by rw [List.length_map]; omega, fun i acc M' => M' = [] ∧ acc = ((s.take i).map fun i => (toString i : Str)).map .str, ⟨rfl, rfl⟩, ?_, ?_⟩
      · rintro i x hx acc M2 D ⟨rfl, rfl⟩
        rw [List.getElem?_map] at hx
        obtain ⟨y, hy, rfl⟩ := Option.map_eq_some_iff.mp hx
        have hy2 := hs2 y (List.mem_of_getElem? hy)
        refine ⟨_, _, ?_, zg_name, ?_⟩
        · simp
        · walk_at "zq"
          refine zc_strI (small_log (by omega) (by omega)) ?_
          refine ⟨_, [], rfl, rfl, rfl, ?_⟩
          rw [List.take_add_one, hy]
          simp
      · rintro acc M2 ⟨rfl, rfl⟩
        rw [List.length_map, List.take_length]
        refine zm_join ?_ ⟨?_, rfl⟩
        · rw [wc_sum hs2, List.length_map, show ((" " : Str).length = 1) by decide +kernel]
          omega
        · rw [show Txt.join " " (s.map fun i => (toString i : Str)) = wc s by unfold wc; rw [if_neg (by intro e; rw [e] at hbe; cases hbe)]]
    · walk_at "zq"
      have e : s = [] := by
        cases s with
        | nil => rfl
        | cons x l => cases hbe
      subst e
      exact ⟨rfl, rfl⟩
  rintro z M' ⟨rfl, rfl⟩
  walk_at "zq"
  refine za_s (by rw [len2]; omega) ?_
  walk_at "zq"
  refine za_s (by simp only [len_app, len2, len3]; omega) ?_
  walk_at "zq"
  refine za_s (by simp only [len_app, len2, len3]; omega) ?_
  walk_at "zq"
  refine za_s (by simp only [len_app, len2, len3, len4]; omega) ?_
  walk_at "zq"
  refine zc_strI (small_log (by omega) (by omega)) ?_
  refine za_s (by simp only [len_app, len2, len3, len4, l5]; omega) ?_
  exact ⟨_, rfl, rfl⟩
/-- numbers, texts, and tuples of such, n deep -/
def al : Nat → PyData → Bool
  | 0, _ => false
  | _ + 1, .int _ => true
  | _ + 1, .str _ => true
  | n + 1, .tuple xs => decide (xs.length ≤ 1000) && xs.all (al n)
  | _ + 1, _ => false
def R_alike (n : Nat) (ds : List PyData) (o : DOut) : Prop := ∃ d, ds = [d, d] ∧ al n d = true ∧ o = .ok (.bool true)
theorem ok_law_alike {P : Program} {w : World} {K : Fg} {mg : Str → Option Value} {base : Heap} {f : Addr} {fd : FuncData} {j : Nat} {n : Nat} (F : Fun K "_law_alike" "_law_alike" s_law_alike f fd)
    (m_isinstance : mg "isinstance" = none)
    (m_list : mg "list" = none)
    (m_tuple : mg "tuple" = none)
    (m_len : mg "len" = none)
    (m_range : mg "range" = none)
    (m_str : mg "str" = none)
    (m_bool : mg "bool" = none)
    (m_int : mg "int" = none)
    (c__law_alike : Cal P w K mg base j "_law_alike" (spD K 2 (R_alike n))) :
    FnOk P w K mg base (L2.CX P w) (j+1) f fd ["found", "due"] (spD K 2 (R_alike (n + 1))) := by
  refine F.okX sc_law_alike (fun vs H Q E h => len_D h) (fun cdv A outer s H vs Q E hr h => ⟨_, (pss_cons (ps_if (pt_val (pe_callB call_isiT (by rfl) m_isinstance bb_isinstance (pa_cons (pv 1) (pa_cons (pe_tup (pa_cons (pe_bltn (v := .ty "tuple") (by rfl) m_tuple bt_tuple rfl) (pa_cons (pe_bltn (v := .ty "list") (by rfl) m_list bt_list rfl) pa_nil))) pa_nil))) (fun _ => rfl)) (pss_cons (ps_if (PW.pt (pw_or (pt_not (pt_val (pe_callB call_isiT (by rfl) m_isinstance bb_isinstance (pa_cons (pv 0) (pa_cons (pe_tup (pa_cons (pe_bltn (v := .ty "tuple") (by rfl) m_tuple bt_tuple rfl) (pa_cons (pe_bltn (v := .ty "list") (by rfl) m_list bt_list rfl) pa_nil))) pa_nil))) (fun _ => rfl))) (pw_or1 (pt_cmpR (op_neA hr.units) (pe_callB call_isi (by rfl) m_isinstance bb_isinstance (pa_cons (pv 0) (pa_cons (pe_bltn (v := .ty "list") (by rfl) m_list bt_list rfl) pa_nil))) (pe_callB call_isi (by rfl) m_isinstance bb_isinstance (pa_cons (pv 1) (pa_cons (pe_bltn (v := .ty "list") (by rfl) m_list bt_list rfl) pa_nil))) (nomark _))))) (pss_one (ps_ret pe_bl)) pss_nil)
      (pss_cons (ps_if (pt_cmpR (op_neA hr.units) (pe_callB call_len (by rfl) m_len bb_len (pa_cons (pv 0) pa_nil)) (pe_callB call_len (by rfl) m_len bb_len (pa_cons (pv 1) pa_nil)) (nomark _)) (pss_one (ps_ret pe_bl)) pss_nil)
      (pss_one (ps_ret (pe_cmpR (op_eqA hr.units) (pe_lc (own := [("k", 2)]) rfl sc_law_alike.nd (pi_range1 (by rfl) m_range (pa_cons (pe_callB call_len (by rfl) m_len bb_len (pa_cons (pv 1) pa_nil)) pa_nil)) (blkOk_by (N := N_law_alike) (sc := defScope s_law_alike) (by decide +kernel)) (fun _ _ _ _ _ => (pg_name (i := 2) sc_law_alike.nd rfl (by first | exact Or.inl rfl | exact Or.inr rfl))) (fun _ _ _ _ _ => (pts_one (pt_not (pt_val (pe_cl c__law_alike hr (Nat.le_refl _) passL (pa_cons (pe_ix (show IxR _ (rIx K) from ix_seq) (pv 0) (pv 2) (fun _ _ => rfl)) (pa_cons (pe_ix (show IxR _ (rIx K) from ix_seq) (pv 1) (pv 2) (fun _ _ => rfl)) pa_nil))) (fun _ => rfl))))) (fun _ _ _ _ _ => (pv 2))) (pe_lst pa_nil) (nomark _)))))) pss_nil)
      (pss_cons (ps_if (PW.pt (pw_or (pt_cmpR op_isN (pv 1) pe_non (nomark _)) (pw_or1 (pt_val (pe_callB call_isi (by rfl) m_isinstance bb_isinstance (pa_cons (pv 1) (pa_cons (pe_bltn (v := .ty "str") (by rfl) m_str bt_str rfl) pa_nil))) (fun _ => rfl))))) (pss_one (ps_ret (pe_and (pe_cmpR (op_eqA hr.units) (pv 0) (pv 1) (nomark _)) (pe_one (pe_cmpR (op_eqA hr.units) (pe_callB call_isi (by rfl) m_isinstance bb_isinstance (pa_cons (pv 0) (pa_cons (pe_bltn (v := .ty "str") (by rfl) m_str bt_str rfl) pa_nil))) (pe_callB call_isi (by rfl) m_isinstance bb_isinstance (pa_cons (pv 1) (pa_cons (pe_bltn (v := .ty "str") (by rfl) m_str bt_str rfl) pa_nil))) (nomark _)))))) pss_nil)
      (pss_one (ps_ret (pe_and (pe_callB call_isi (by rfl) m_isinstance bb_isinstance (pa_cons (pv 0) (pa_cons (pe_bltn (v := .ty "int") (by rfl) m_int bt_int rfl) pa_nil))) (pe_and (pe_cmpR (op_eqA hr.units) (pe_callB call_isi (by rfl) m_isinstance bb_isinstance (pa_cons (pv 0) (pa_cons (pe_bltn (v := .ty "bool") (by rfl) m_bool bt_bool rfl) pa_nil))) (pe_callB call_isi (by rfl) m_isinstance bb_isinstance (pa_cons (pv 1) (pa_cons (pe_bltn (v := .ty "bool") (by rfl) m_bool bt_bool rfl) pa_nil))) (nomark _)) (pe_one (pe_cmpR (op_eqA hr.units) (pv 0) (pv 1) (nomark _))))))))),
    fn_D h fun ds o hk hR => ?_⟩)
  try dsimp only [L2.cxOf]
  obtain ⟨d, rfl, ha, rfl⟩ := hR
  walk_at "zz"
  cases d with
  | tuple xs =>
    have ha2 : xs.length ≤ 1000 ∧ ∀ x ∈ xs, al n x = true := by
      have h : (decide (xs.length ≤ 1000) && xs.all (al n)) = true := ha
      rw [Bool.and_eq_true, List.all_eq_true] at h
      exact ⟨of_decide_eq_true h.1, h.2⟩
    walk_at "zq"
    rw [decide_eq_true rfl]
    walk_at "zq"
    refine ⟨by omega, by rw [sizeLine_eq]; omega, fun i acc M' => acc = [] ∧ M' = [], ⟨rfl, rfl⟩, ?_, ?_⟩
    · rintro i hi acc M2 D ⟨rfl, rfl⟩
      have hi2 : i < xs.length := by omega
      have hat : atI xs (0 + (i : Int)) = some xs[i] := by rw [Int.zero_add]; exact atI_nat (List.getElem?_eq_getElem hi2)
      refine ⟨_, _, ?_, zg_name, ?_⟩
      · simp
      · walk_at "zq"
        refine ⟨_, _, allD_cons (allD_cons allD_nil), rfl, ⟨_, rfl, ha2.2 _ (List.getElem_mem hi2), rfl⟩, ?_⟩
        walk_at "zq"
        exact ⟨rfl, rfl⟩
    · rintro acc M2 ⟨rfl, rfl⟩
      walk_at "zq"
      refine zw_lstD ?_
      walk_at "zq"
      walk_at "zt"
      refine zo_eqDD rfl rfl ?_
      exact ⟨_, rfl, rfl⟩
  | str x =>
    walk_at "zq"
    rw [decide_eq_true rfl]
    walk_at "zq"
    all_goals rfl
  | int i =>
    walk_at "zq"
    rw [decide_eq_true rfl]
  | _ => cases ha
theorem alike_vac {P : Program} {w : World} {K : Fg} {mg : Str → Option Value} {base : Heap} {f : Addr} {fd : FuncData} (F : Fun K "_law_alike" "_law_alike" s_law_alike f fd) : FnOk P w K mg base (L2.CX P w) 1 f fd ["found", "due"] (spD K 2 (R_alike 0)) := by
  refine F.okX sc_law_alike (fun vs H Q E h => len_D h) (fun cdv A outer s H vs Q E hr h => ?_)
  obtain ⟨G, ds, o, e, hk, hd, ⟨d, _, h2, _⟩, _⟩ := h
  cases h2
inductive DR where
  | bad (j : Nat)
  | done (cs : List Int) (j : Nat)
def DR.dat : DR → PyData
  | .bad j => .tuple [.str "bad", .int j]
  | .done cs j => .tuple [.str "done", .tuple (cs.map .int), .int j]
/-- the least number that may follow -/
def nextL (lo : Int) (cs : List Int) : Int := match cs.getLast? with | none => lo | some d => max lo (d + 1)
def dueL (be : Str) (lo : Int) : List Int → List Str → Nat → DR
  | cs, [], j => if cs = [] then .bad j else .done cs j
  | cs, w :: r, j => if w = be then (if cs = [] then .bad j else .done cs j) else match fig w with
    | some d => if nextL lo cs ≤ d then dueL be lo (cs ++ [d]) r (j + 1) else .bad j
    | none => .bad j
def dueS (be : Str) (lo : Int) (ws : List Str) (k : Nat) : DR := match ws.drop k with
  | [] => .bad k
  | w :: r => if w = "none" then .done [] (k + 1) else dueL be lo [] (w :: r) k
theorem due_cons {be w : Str} {lo : Int} {cs : List Int} {r : List Str} {j : Nat} : dueL be lo cs (w :: r) j = if w = be then (if cs = [] then .bad j else .done cs j) else match fig w with
    | some d => if nextL lo cs ≤ d then dueL be lo (cs ++ [d]) r (j + 1) else .bad j
    | none => .bad j := rfl
theorem nextL_app {lo d : Int} {cs : List Int} (h : lo ≤ d) : nextL lo (cs ++ [d]) = d + 1 := by
  unfold nextL
  rw [List.getLast?_concat]
  dsimp only
  omega
def R_cdue (ds : List PyData) (o : DOut) : Prop := ∃ (ws : List Str) (k : Nat) (lo : Int) (be : Str), ds = [.list (ws.map .str), .int k, .int lo, .str be] ∧ k ≤ ws.length ∧ ws.length ≤ 3000 ∧ 0 ≤ lo ∧ be ≠ "none" ∧ fig be = none ∧ o = .ok (dueS be lo ws k).dat
theorem ok_law_counts_due {P : Program} {w : World} {K : Fg} {mg : Str → Option Value} {base : Heap} {f : Addr} {fd : FuncData} (F : Fun K "_law_counts_due" "_law_counts_due" s_law_counts_due f fd)
    (m_len : mg "len" = none)
    (m_int : mg "int" = none) :
    FnOk P w K mg base (L2.CX P w) 1 f fd ["words", "spot", "least", "end"] (spD K 4 R_cdue) := by
  refine F.okX sc_law_counts_due (fun vs H Q E h => len_D h) (fun cdv A outer s H vs Q E hr h => ⟨_, (pss_cons (ps_if (PW.pt (pw_and (pt_cmpR op_lt (pv 1) (pe_callB call_len (by rfl) m_len bb_len (pa_cons (pv 0) pa_nil)) (nomark _)) (pw_and1 (pt_cmpR (op_eqA hr.units) (pe_ix ix_seq (pv 0) (pv 1) (fun _ _ => rfl)) pe_str (nomark _))))) (pss_one (ps_ret (pe_tup (pa_cons pe_str (pa_cons (pe_tup pa_nil) (pa_cons (pe_op op_addA (pv 1) pe_int) pa_nil)))))) pss_nil)
      (pss_cons (ps_set (i := 4) sc_law_counts_due.nd rfl (by first | exact Or.inl rfl | exact Or.inr rfl) (pe_tup pa_nil))
      (pss_cons (ps_while (passes_of rfl) (PW.pt (pw_and (pt_cmpR op_lt (pv 1) (pe_callB call_len (by rfl) m_len bb_len (pa_cons (pv 0) pa_nil)) (nomark _)) (pw_and1 (pt_cmpR (op_neA hr.units) (pe_ix ix_seq (pv 0) (pv 1) (fun _ _ => rfl)) (pv 3) (nomark _))))) (pss_cons (ps_set (i := 5) sc_law_counts_due.nd rfl (by first | exact Or.inl rfl | exact Or.inr rfl) (pe_ix ix_seq (pv 0) (pv 1) (fun _ _ => rfl)))
      (pss_cons (ps_if (PW.pt (pw_or (pt_cmpR op_notIn_seq (pv 5) (pe_lst (pa_cons pe_str (pa_cons pe_str (pa_cons pe_str (pa_cons pe_str (pa_cons pe_str (pa_cons pe_str (pa_cons pe_str (pa_cons pe_str (pa_cons pe_str pa_nil)))))))))) (by rfl)) (pw_or1 (pt_cmpR op_lt (pe_callTy (call_int1.or call_int_str) (by rfl) m_int bt_int (pa_cons (pv 5) pa_nil)) (pv 2) (nomark _))))) (pss_one (ps_ret (pe_tup (pa_cons pe_str (pa_cons (pv 1) pa_nil))))) pss_nil)
      (pss_cons (ps_if (PW.pt (pw_and (pt_cmpR (op_neA hr.units) (pv 4) (pe_tup pa_nil) (nomark _)) (pw_and1 (pt_cmpR op_le (pe_callTy (call_int1.or call_int_str) (by rfl) m_int bt_int (pa_cons (pv 5) pa_nil)) (pe_ix ix_seq (pv 4) (pe_un un_neg pe_int) (fun _ _ => rfl)) (nomark _))))) (pss_one (ps_ret (pe_tup (pa_cons pe_str (pa_cons (pv 1) pa_nil))))) pss_nil)
      (pss_one (ps_par (i := 4) (j := 1) rfl sc_law_counts_due.nd rfl rfl (by decide) rfl rfl (pa_cons (pe_op op_addA (pv 4) (pe_tup (pa_cons (pe_callTy (call_int1.or call_int_str) (by rfl) m_int bt_int (pa_cons (pv 5) pa_nil)) pa_nil))) (pa_cons (pe_op op_addA (pv 1) pe_int) pa_nil)) (by rfl)))))))
      (pss_one (ps_ret (pe_ifExp (pt_cmpR (op_neA hr.units) (pv 4) (pe_tup pa_nil) (nomark _)) (pe_tup (pa_cons pe_str (pa_cons (pv 4) (pa_cons (pv 1) pa_nil)))) (pe_tup (pa_cons pe_str (pa_cons (pv 1) pa_nil))))))))),
    fn_D h fun ds o hk hR => ?_⟩)
  try dsimp only [L2.cxOf]
  obtain ⟨ws, k, lo, be, rfl, hk, hn, l0, hbe, hbf, rfl⟩ := hR
  have hsz : (sizeLine : Nat) = 16777216 := sizeLine_eq
  have hdS : ws.drop k ≠ [] → (∀ w, ws[k]? = some w → w ≠ "none") → dueS be lo ws k = dueL be lo [] (ws.drop k) k := fun h1 h2 => by
    rcases take_cases ws [] hk with ⟨he, hd⟩ | ⟨w, hw, hd, hk1, hn⟩ | ⟨w, hw, hd, hk1, hn⟩
    · exact absurd hd h1
    · unfold dueS
      rw [hd]
      exact if_neg (h2 w hw)
    · cases hn
  refine zs_seq (zs_nx (N := fun S2 M2 => S2 = [some (.d (.list (ws.map .str))), some (.d (.int k)), some (.d (.int lo)), some (.d (.str be)), none, none] ∧ M2 = [] ∧ dueS be lo ws k = dueL be lo [] (ws.drop k) k) ?_ ?_)
  · walk_at "zq"
    rw [List.length_map]
    rcases take_cases ws [("none" : Str)] hk with ⟨he, hd⟩ | ⟨w, hw, hd, hk1, hn⟩ | ⟨w, hw, hd, hk1, hn⟩
    · rw [decide_eq_false (by omega)]
      walk_at "zq"
      refine ⟨rfl, rfl, ?_⟩
      unfold dueS
      rw [hd]
      rfl
    · rw [decide_eq_true (by omega)]
      walk_at "zq"
      refine zo_ix (atI_str hw) ?_
      walk_at "zq"
      rw [decide_eq_false (by simpa using hn)]
      walk_at "zq"
      exact ⟨rfl, rfl, hdS (by rw [hd]; simp) (fun v hv => by rw [hw] at hv; cases hv; simpa using hn)⟩
    · rw [decide_eq_true (by omega)]
      walk_at "zq"
      refine zo_ix (atI_str hw) ?_
      walk_at "zq"
      have hwn : w = "none" := by simpa using hn
      rw [decide_eq_true hwn]
      walk_at "zq"
      walk_at "zt"
      walk_at "zq"
      walk_at "zt"
      refine ⟨_, rfl, ?_⟩
      unfold dueS
      rw [hd]
      dsimp only
      rw [if_pos hwn]
      rfl
  · rintro S2 M2 ⟨rfl, rfl, hdue⟩
    rw [hdue]
    clear hdS
    walk_at "zq"
    walk_at "zt"
    walk_at "zq"
    refine zs_while (fun m S2 M2 => ∃ (j : Nat) (cs : List Int) (c : Option ZV), S2 = [some (.d (.list (ws.map .str))), some (.d (.int j)), some (.d (.int lo)), some (.d (.str be)), some (.d (.tuple (cs.map .int))), c] ∧ M2 = [] ∧ m = ws.length - j ∧ j ≤ ws.length ∧ cs.length ≤ j ∧ (∀ x ∈ cs, lo ≤ x) ∧ dueL be lo [] (ws.drop k) k = dueL be lo cs (ws.drop j) j) ⟨_, k, [], _, rfl, rfl, rfl, hk, Nat.zero_le _, by simp, rfl⟩ ?_
    rintro m S2 M2 ⟨j, cs, c, rfl, rfl, rfl, hj, hcl, hcs, hdj⟩
    rw [hdj]
    walk_at "zq"
    rw [List.length_map]
    rcases take_cases ws [be] hj with ⟨he, hd⟩ | ⟨w, hw, hd, hk1, hn⟩ | ⟨w, hw, hd, hk1, hn⟩
    · rw [decide_eq_false (by omega)]
      walk_at "zq"
      walk_at "zt"
      refine zo_neDD (shp_ints cs) (shp_ints []) ?_
      rw [show PyData.eqv (.tuple (cs.map .int)) (.tuple []) = cs.isEmpty from eqv_nilT cs]
      have hres : dueL be lo cs (ws.drop j) j = if cs = [] then .bad j else .done cs j := by
        rw [hd]
        rfl
      rw [hres]
      cases cs with
      | nil =>
        walk_at "zq"
        walk_at "zt"
        exact ⟨_, rfl, rfl⟩
      | cons x l =>
        walk_at "zq"
        walk_at "zt"
        exact ⟨_, rfl, rfl⟩
    · rw [decide_eq_true (by omega)]
      walk_at "zq"
      refine zo_ix (atI_str hw) ?_
      walk_at "zq"
      rw [decide_eq_false (by simpa using hn)]
      walk_at "zq"
      refine zo_ix (atI_str hw) ?_
      walk_at "zq"
      refine zw_lstD ?_
      walk_at "zq"
      walk_at "zt"
      refine zo_inLS (al := FIGS) ?_
      walk_at "zq"
      have hres : dueL be lo cs (ws.drop j) j = match fig w with
          | some d => if nextL lo cs ≤ d then dueL be lo (cs ++ [d]) (ws.drop (j + 1)) (j + 1) else .bad j
          | none => .bad j := by rw [hd, due_cons, if_neg (by simpa using hn)]
      cases hf : fig w with
      | none =>
        have hm : w ∉ FIGS := fun h => by unfold fig at hf; rw [if_pos h] at hf; cases hf
        rw [hf] at hres
        rw [hres, decide_eq_false hm]
        walk_at "zq"
        walk_at "zt"
        exact ⟨_, rfl, rfl⟩
      | some d =>
        have hm : w ∈ FIGS := by
          unfold fig at hf
          split at hf
          · assumption
          · cases hf
        have hfi := fig_int hf
        rw [hf] at hres
        dsimp only at hres
        rw [decide_eq_true hm]
        walk_at "zq"
        refine zc_intS hfi.1 (by omega) ?_
        walk_at "zq"
        have hnl : lo ≤ nextL lo cs := by unfold nextL; split <;> omega
        by_cases hdl : d < lo
        · rw [if_neg (by omega)] at hres
          rw [hres, decide_eq_true hdl]
          walk_at "zq"
          walk_at "zt"
          exact ⟨_, rfl, rfl⟩
        · rw [decide_eq_false hdl]
          walk_at "zz"
          refine ⟨fun h => (by cases h), fun _ => ?_⟩
          refine zs_next ?_
          refine zs_seq (zs_nx (N := fun S2 M2 => S2 = [some (.d (.list (ws.map .str))), some (.d (.int j)), some (.d (.int lo)), some (.d (.str be)), some (.d (.tuple (cs.map .int))), some (.d (.str w))] ∧ M2 = [] ∧ nextL lo cs ≤ d) ?_ ?_)
          · walk_at "zq"
            walk_at "zt"
            refine zo_neDD (shp_ints cs) (shp_ints []) ?_
            rw [show PyData.eqv (.tuple (cs.map .int)) (.tuple []) = cs.isEmpty from eqv_nilT cs]
            rcases List.eq_nil_or_concat cs with rfl | ⟨l, x, rfl⟩
            · walk_at "zq"
              refine ⟨rfl, rfl, ?_⟩
              show lo ≤ d
              omega
            · rw [List.concat_eq_append] at hres hcs ⊢
              have hlx := hcs x (by simp)
              rw [nextL_app hlx] at hres ⊢
              rw [show (l ++ [x]).isEmpty = false by simp]
              walk_at "zq"
              refine zc_intS hfi.1 (by omega) ?_
              walk_at "zq"
              rw [List.map_append]
              refine zo_ix (x := .tuple (l.map .int ++ [.int x])) (atI_last _ _) ?_
              walk_at "zq"
              refine ⟨fun h => ?_, fun h => ?_⟩
              · have h := of_decide_eq_true h
                rw [if_neg (by omega)] at hres
                walk_at "zq"
                walk_at "zt"
                exact ⟨_, rfl, by rw [hres]; rfl⟩
              · have h := of_decide_eq_false h
                refine zs_next ?_
                exact ⟨rfl, rfl, by omega⟩
          · rintro S2 M2 ⟨rfl, rfl, hnd⟩
            rw [if_pos hnd] at hres
            walk_at "zq"
            refine zc_intS hfi.1 (by omega) ?_
            walk_at "zq"
            walk_at "zt"
            refine za_t (by rw [List.length_map, List.length_singleton]; omega) ?_
            walk_at "zq"
            refine ⟨_, _, rfl, _, ?_, j + 1, cs ++ [d], some (.d (.str w)), ?_, rfl, rfl, by omega, by simp; omega, ?_, hres⟩
            · omega
            · simp
            · intro x hx
              rcases List.mem_append.mp hx with h | h
              · exact hcs x h
              · have : x = d := by simpa using h
                omega
    · rw [decide_eq_true (by omega)]
      walk_at "zq"
      refine zo_ix (atI_str hw) ?_
      walk_at "zq"
      rw [decide_eq_true (by simpa using hn)]
      walk_at "zq"
      walk_at "zt"
      refine zo_neDD (shp_ints cs) (shp_ints []) ?_
      rw [show PyData.eqv (.tuple (cs.map .int)) (.tuple []) = cs.isEmpty from eqv_nilT cs]
      have hres : dueL be lo cs (ws.drop j) j = if cs = [] then .bad j else .done cs j := by
        rw [hd]
        rw [due_cons, if_pos (by simpa using hn)]
      rw [hres]
      cases cs with
      | nil =>
        walk_at "zq"
        walk_at "zt"
        exact ⟨_, rfl, rfl⟩
      | cons x l =>
        walk_at "zq"
        walk_at "zt"
        exact ⟨_, rfl, rfl⟩
def comb (ws : List Str) (be : Str) : DR → Res
  | .bad j => .bad j
  | .done cs j => match ws.drop j with
    | w :: _ => if w = be then .done cs (j + 1) else .bad j
    | [] => .bad j
theorem comb_done {ws : List Str} {be : Str} {cs : List Int} {j : Nat} : comb ws be (.done cs j) = match ws.drop j with
    | w :: _ => if w = be then .done cs (j + 1) else .bad j
    | [] => .bad j := rfl
theorem drop_tail {ws : List Str} {k : Nat} {w : Str} {r : List Str} (h : ws.drop k = w :: r) : ws.drop (k + 1) = r := by
  rw [← List.drop_drop, h]
  rfl
theorem nextL_le (lo : Int) (cs : List Int) : lo ≤ nextL lo cs := by unfold nextL; split <;> omega
theorem loop_due {ws : List Str} {be : Str} {lo : Int} : ∀ (r : List Str) (k : Nat) (cs : List Int), cs ≠ [] → ws.drop k = r → loopS be (nextL lo cs) cs r k = comb ws be (dueL be lo cs r k) := by
  intro r
  induction r with
  | nil =>
    intro k cs hc hd
    unfold loopS dueL
    rw [if_neg hc, comb_done, hd]
  | cons w r ih =>
    intro k cs hc hd
    rw [loop_cons, due_cons]
    by_cases hw : w = be
    · rw [if_pos hw, if_pos hw, if_neg hc, comb_done, hd]
      dsimp only
      rw [if_pos hw]
    · rw [if_neg hw, if_neg hw]
      cases fig w with
      | none => rfl
      | some d =>
        dsimp only
        by_cases h : nextL lo cs ≤ d
        · have := nextL_le lo cs
          rw [if_pos h, if_pos h, ← ih (k + 1) (cs ++ [d]) (by simp) (drop_tail hd), nextL_app (by omega)]
        · rw [if_neg h, if_neg h]
          rfl
theorem cnt_due {ws : List Str} {be : Str} {lo : Int} {k : Nat} (hbf : fig be = none) (hbn : be ≠ "none") : cntS be lo (ws.drop k) k = comb ws be (dueS be lo ws k) := by
  unfold dueS
  cases hd : ws.drop k with
  | nil => rfl
  | cons w r =>
    dsimp only
    by_cases hw : w = "none"
    · rw [if_pos hw, comb_done, drop_tail hd]
      subst hw
      cases r with
      | nil => exact cnt_none0
      | cons v r => exact cnt_none
    · rw [if_neg hw, cnt_cons hw, due_cons]
      by_cases hb : w = be
      · rw [if_pos hb, if_pos rfl, hb, hbf]
        rfl
      · rw [if_neg hb]
        cases fig w with
        | none => rfl
        | some d =>
          dsimp only
          by_cases h : lo ≤ d
          · rw [if_pos h, if_pos (show nextL lo [] ≤ d from h)]
            have := loop_due (ws := ws) (be := be) (lo := lo) r (k + 1) ([] ++ [d]) (by simp) (drop_tail hd)
            rw [nextL_app h] at this
            exact this
          · rw [if_neg h, if_neg (show ¬ nextL lo [] ≤ d from h)]
            rfl
def RR.dat (ws : List Str) (L : Nat) : RR → PyData
  | .place j => .tuple [.str "place", .int (plc ws L j)]
  | .rule b s n => .tuple [.str "rule", .tuple [.tuple (b.map .int), .tuple (s.map .int), .int n]]
theorem due_le {be : Str} {lo : Int} : ∀ (r : List Str) (k : Nat) (cs : List Int), match dueL be lo cs r k with | .bad j => j ≤ k + r.length | .done _ j => j ≤ k + r.length := by
  intro r
  induction r with
  | nil =>
    intro k cs
    unfold dueL
    by_cases h : cs = []
    · rw [if_pos h]; exact Nat.le_refl _
    · rw [if_neg h]; exact Nat.le_refl _
  | cons w r ih =>
    intro k cs
    rw [due_cons]
    by_cases hw : w = be
    · rw [if_pos hw]
      by_cases h : cs = []
      · rw [if_pos h]; simp
      · rw [if_neg h]; simp
    · rw [if_neg hw]
      cases fig w with
      | none => simp
      | some d =>
        dsimp only
        by_cases h : nextL lo cs ≤ d
        · rw [if_pos h]
          have := ih (k + 1) (cs ++ [d])
          split at this <;> simp only [List.length_cons] <;> omega
        · rw [if_neg h]; simp
theorem dueS_le {be : Str} {lo : Int} {ws : List Str} {k : Nat} (hk : k ≤ ws.length) : match dueS be lo ws k with | .bad j => j ≤ ws.length | .done _ j => j ≤ ws.length := by
  unfold dueS
  have hl := List.length_drop (l := ws) (i := k)
  cases hd : ws.drop k with
  | nil => exact hk
  | cons w r =>
    rw [hd, List.length_cons] at hl
    dsimp only
    by_cases hw : w = "none"
    · rw [if_pos hw]
      dsimp only
      omega
    · rw [if_neg hw]
      have := due_le (be := be) (lo := lo) (w :: r) k []
      simp only [List.length_cons] at this
      cases hdd : dueL be lo [] (w :: r) k with
      | bad j => rw [hdd] at this; dsimp only at this ⊢; omega
      | done cs j => rw [hdd] at this; dsimp only at this ⊢; omega
def stL (ws : List Str) (L : Nat) : List Int := (List.range ws.length).map (fun i => (off ws i : Int)) ++ [(L : Int)]
theorem stL_at {ws : List Str} {L j : Nat} (h : j ≤ ws.length) : atI ((stL ws L).map PyData.int) (j : Nat) = some (.int (plc ws L j)) := by
  refine atI_nat ?_
  rw [List.getElem?_map]
  unfold stL plc
  by_cases hj : j < ws.length
  · rw [if_pos hj, List.getElem?_append_left (by simpa using hj)]
    simp [hj]
  · have : j = ws.length := by omega
    rw [if_neg hj, this, List.getElem?_append_right (by simp)]
    simp
def rule2 (ws : List Str) : RR := match comb ws "stays" (dueS "stays" 1 ws 1) with
  | .bad j => .place j
  | .done b j => match comb ws "states" (dueS "states" 0 ws j) with
    | .bad j => .place j
    | .done s j => endS b s j (ws.drop j)
theorem rule_eq {ws : List Str} {w : Str} {r : List Str} (h : ws = w :: r) : ruleS ws = if w ≠ "births" then .place 0 else rule2 ws := by
  subst h
  unfold ruleS rule2
  rw [← cnt_due (by decide +kernel) (by decide +kernel)]
  simp only [← cnt_due (be := "states") (lo := 0) (by decide +kernel) (by decide +kernel)]
theorem place0 {ws : List Str} {L : Nat} (h : 1 ≤ ws.length) : plc ws L 0 = 0 := by unfold plc; rw [if_pos (by omega)]; rfl
theorem sne1 : decide (("done" : Str) = "bad") = false := by decide +kernel
def R_rdue (ds : List PyData) (o : DOut) : Prop := ∃ s : Str, ds = [.str s] ∧ s.length ≤ 1000 ∧ o = .ok ((ruleS (wds s)).dat (wds s) s.length)
theorem ok_law_rule_due {P : Program} {w : World} {K : Fg} {mg : Str → Option Value} {base : Heap} {f : Addr} {fd : FuncData} (F : Fun K "_law_rule_due" "_law_rule_due" s_law_rule_due f fd)
    (m_len : mg "len" = none)
    (m_min : mg "min" = none)
    (m_int : mg "int" = none)
    (c__law_counts_due : Cal P w K mg base 1 "_law_counts_due" (spD K 4 R_cdue)) :
    FnOk P w K mg base (L2.CX P w) 2 f fd ["text"] (spD K 1 R_rdue) := by
  refine F.okX sc_law_rule_due (fun vs H Q E h => len_D h) (fun cdv A outer s H vs Q E hr h => ⟨_, (pss_cons (ps_par3 (i := 1) (j := 2) (l := 3) rfl sc_law_rule_due.nd rfl rfl rfl (by decide) (by decide) (by decide) rfl rfl rfl (pa_cons (pe_split (pv 0) pe_str) (pa_cons (pe_lst pa_nil) (pa_cons pe_int pa_nil))) (by rfl))
      (pss_cons (ps_for (passes_of rfl) rfl (pi_list (pv 1)) (pg_name (i := 4) sc_law_rule_due.nd rfl (by first | exact Or.inl rfl | exact Or.inr rfl)) (pss_one (ps_par (i := 2) (j := 3) rfl sc_law_rule_due.nd rfl rfl (by decide) rfl rfl (pa_cons (pe_op op_addA (pv 2) (pe_lst (pa_cons (pv 3) pa_nil))) (pa_cons (pe_op op_addA (pe_op op_addA (pv 3) (pe_callB call_len (by rfl) m_len bb_len (pa_cons (pv 4) pa_nil))) pe_int) pa_nil)) (by rfl))))
      (pss_cons (ps_set (i := 2) sc_law_rule_due.nd rfl (by first | exact Or.inl rfl | exact Or.inr rfl) (pe_op op_addA (pv 2) (pe_lst (pa_cons (pe_callB call_len (by rfl) m_len bb_len (pa_cons (pv 0) pa_nil)) pa_nil))))
      (pss_cons (ps_if (pt_cmpR (op_neA hr.units) (pe_ix ix_seq (pv 1) pe_int (fun _ _ => rfl)) pe_str (nomark _)) (pss_one (ps_ret (pe_tup (pa_cons pe_str (pa_cons pe_int pa_nil))))) pss_nil)
      (pss_cons (ps_set (i := 5) sc_law_rule_due.nd rfl (by first | exact Or.inl rfl | exact Or.inr rfl) (pe_cl c__law_counts_due hr (show 1 ≤ 1 by decide) passL (pa_cons (pv 1) (pa_cons pe_int (pa_cons pe_int (pa_cons pe_str pa_nil))))))
      (pss_cons (ps_if (pt_cmpR (op_eqA hr.units) (pe_ix ix_seq (pv 5) pe_int (fun _ _ => rfl)) pe_str (nomark _)) (pss_one (ps_ret (pe_tup (pa_cons pe_str (pa_cons (pe_ix ix_seq (pv 2) (pe_callB (call_min2 rfl) (by rfl) m_min bb_min (pa_cons (pe_ix ix_seq (pv 5) pe_int (fun _ _ => rfl)) (pa_cons (pe_callB call_len (by rfl) m_len bb_len (pa_cons (pv 1) pa_nil)) pa_nil))) (fun _ _ => rfl)) pa_nil))))) pss_nil)
      (pss_cons (ps_if (PW.pt (pw_or (pt_cmpR op_ge (pe_ix ix_seq (pv 5) pe_int (fun _ _ => rfl)) (pe_callB call_len (by rfl) m_len bb_len (pa_cons (pv 1) pa_nil)) (nomark _)) (pw_or1 (pt_cmpR (op_neA hr.units) (pe_ix ix_seq (pv 1) (pe_ix ix_seq (pv 5) pe_int (fun _ _ => rfl)) (fun _ _ => rfl)) pe_str (nomark _))))) (pss_one (ps_ret (pe_tup (pa_cons pe_str (pa_cons (pe_ix ix_seq (pv 2) (pe_callB (call_min2 rfl) (by rfl) m_min bb_min (pa_cons (pe_ix ix_seq (pv 5) pe_int (fun _ _ => rfl)) (pa_cons (pe_callB call_len (by rfl) m_len bb_len (pa_cons (pv 1) pa_nil)) pa_nil))) (fun _ _ => rfl)) pa_nil))))) pss_nil)
      (pss_cons (ps_set (i := 6) sc_law_rule_due.nd rfl (by first | exact Or.inl rfl | exact Or.inr rfl) (pe_cl c__law_counts_due hr (show 1 ≤ 1 by decide) passL (pa_cons (pv 1) (pa_cons (pe_op op_addA (pe_ix ix_seq (pv 5) pe_int (fun _ _ => rfl)) pe_int) (pa_cons pe_int (pa_cons pe_str pa_nil))))))
      (pss_cons (ps_if (pt_cmpR (op_eqA hr.units) (pe_ix ix_seq (pv 6) pe_int (fun _ _ => rfl)) pe_str (nomark _)) (pss_one (ps_ret (pe_tup (pa_cons pe_str (pa_cons (pe_ix ix_seq (pv 2) (pe_callB (call_min2 rfl) (by rfl) m_min bb_min (pa_cons (pe_ix ix_seq (pv 6) pe_int (fun _ _ => rfl)) (pa_cons (pe_callB call_len (by rfl) m_len bb_len (pa_cons (pv 1) pa_nil)) pa_nil))) (fun _ _ => rfl)) pa_nil))))) pss_nil)
      (pss_cons (ps_if (PW.pt (pw_or (pt_cmpR op_ge (pe_ix ix_seq (pv 6) pe_int (fun _ _ => rfl)) (pe_callB call_len (by rfl) m_len bb_len (pa_cons (pv 1) pa_nil)) (nomark _)) (pw_or (pt_cmpR (op_neA hr.units) (pe_ix ix_seq (pv 1) (pe_ix ix_seq (pv 6) pe_int (fun _ _ => rfl)) (fun _ _ => rfl)) pe_str (nomark _)) (pw_or1 (pt_cmpR op_ge (pe_op op_addA (pe_ix ix_seq (pv 6) pe_int (fun _ _ => rfl)) pe_int) (pe_callB call_len (by rfl) m_len bb_len (pa_cons (pv 1) pa_nil)) (nomark _)))))) (pss_one (ps_ret (pe_tup (pa_cons pe_str (pa_cons (pe_ifExp (PW.pt (pw_and (pt_cmpR op_lt (pe_ix ix_seq (pv 6) pe_int (fun _ _ => rfl)) (pe_callB call_len (by rfl) m_len bb_len (pa_cons (pv 1) pa_nil)) (nomark _)) (pw_and1 (pt_cmpR (op_neA hr.units) (pe_ix ix_seq (pv 1) (pe_ix ix_seq (pv 6) pe_int (fun _ _ => rfl)) (fun _ _ => rfl)) pe_str (nomark _))))) (pe_ix ix_seq (pv 2) (pe_ix ix_seq (pv 6) pe_int (fun _ _ => rfl)) (fun _ _ => rfl)) (pe_callB call_len (by rfl) m_len bb_len (pa_cons (pv 0) pa_nil))) pa_nil))))) pss_nil)
      (pss_cons (ps_if (pt_cmpR op_notIn_seq (pe_ix ix_seq (pv 1) (pe_op op_addA (pe_ix ix_seq (pv 6) pe_int (fun _ _ => rfl)) pe_int) (fun _ _ => rfl)) (pe_lst (pa_cons pe_str (pa_cons pe_str (pa_cons pe_str (pa_cons pe_str (pa_cons pe_str pa_nil)))))) (by rfl)) (pss_one (ps_ret (pe_tup (pa_cons pe_str (pa_cons (pe_ix ix_seq (pv 2) (pe_op op_addA (pe_ix ix_seq (pv 6) pe_int (fun _ _ => rfl)) pe_int) (fun _ _ => rfl)) pa_nil))))) pss_nil)
      (pss_one (ps_ret (pe_ifExp (pt_cmpR op_lt (pe_op op_addA (pe_ix ix_seq (pv 6) pe_int (fun _ _ => rfl)) pe_int) (pe_callB call_len (by rfl) m_len bb_len (pa_cons (pv 1) pa_nil)) (nomark _)) (pe_tup (pa_cons pe_str (pa_cons (pe_ix ix_seq (pv 2) (pe_op op_addA (pe_ix ix_seq (pv 6) pe_int (fun _ _ => rfl)) pe_int) (fun _ _ => rfl)) pa_nil))) (pe_tup (pa_cons pe_str (pa_cons (pe_tup (pa_cons (pe_ix ix_seq (pv 5) pe_int (fun _ _ => rfl)) (pa_cons (pe_ix ix_seq (pv 6) pe_int (fun _ _ => rfl)) (pa_cons (pe_callTy (call_int1.or call_int_str) (by rfl) m_int bt_int (pa_cons (pe_ix ix_seq (pv 1) (pe_op op_addA (pe_ix ix_seq (pv 6) pe_int (fun _ _ => rfl)) pe_int) (fun _ _ => rfl)) pa_nil)) pa_nil)))) pa_nil))))))))))))))))),
    fn_D h fun ds o hk hR => ?_⟩)
  try dsimp only [L2.cxOf]
  obtain ⟨s, rfl, hs, rfl⟩ := hR
  have hsz : (sizeLine : Nat) = 16777216 := sizeLine_eq
  have hok := rd_ok s hs (Nat.le_refl _)
  have hpos : 1 ≤ (wds s).length := split_pos s " "
  walk_at "zq"
  refine zm_split rfl (by omega) ?_
  walk_at "zq"
  refine zw_lstC ?_
  walk_at "zq"
  walk_at "zt"
  intro q
  walk_at "zq"
  refine ⟨_, _, _, rfl, ?_⟩
  walk_at "zq"
  rw [show Txt.split s " " = wds s from rfl]
  generalize hws : wds s = ws at hok hpos ⊢
  have hn := hok.n
  have ho := hok.o
  refine ⟨fun i S2 M2 => ∃ (q : Addr) (c : Option ZV), S2 = [some (.d (.str s)), some (.d (.list (ws.map .str))), some (.c q), some (.d (.int (off ws i))), c, none, none] ∧ (q, true, CD.lst (((List.range i).map (fun i => (off ws i : Int))).map .int)) ∈ M2, ⟨q, _, rfl, m0⟩, ?_, ?_⟩
  · rintro i x S2 M2 hx ⟨q2, c, rfl, hm⟩
    rw [List.getElem?_map] at hx
    obtain ⟨w, hw, rfl⟩ := Option.map_eq_some_iff.mp hx
    have hil := (List.getElem?_eq_some_iff.mp hw).1
    have h6 := off_le ws (i + 1)
    have h7 := off_succ hw
    walk_at "zq"
    refine zw_lstC ?_
    walk_at "zq"
    walk_at "zt"
    intro r
    refine za_l (m1 hm) m0 (by simp; omega) fun r2 => ?_
    walk_at "zq"
    refine zc_len (dLen_str (by omega)) ?_
    walk_at "zq"
    refine ⟨_, _, rfl, r2, some (.d (.str w)), ?_, ?_⟩
    · rw [h7]
      push_cast
      rw [Int.add_assoc]
      rfl
    · rw [List.range_succ, List.map_append, List.map_append]
      exact m0
  · rintro S2 M2 ⟨q2, c, rfl, hm⟩
    rw [List.length_map] at hm
    walk_at "zq"
    refine zw_lstC ?_
    walk_at "zq"
    refine zc_len (dLen_str (by omega)) ?_
    walk_at "zq"
    walk_at "zt"
    intro r
    refine za_l (m1 hm) m0 (by simp; omega) fun r2 => ?_
    rw [show ((List.range ws.length).map (fun i => (off ws i : Int))).map PyData.int ++ [PyData.int s.length] = (stL ws s.length).map .int by unfold stL; simp]
    generalize hM : (r2, true, CD.lst ((stL ws s.length).map .int)) :: (r, true, CD.lst [PyData.int s.length]) :: M2 = M3
    have hst : (r2, true, CD.lst ((stL ws s.length).map .int)) ∈ M3 := by rw [← hM]; exact m0
    clear hM hm
    walk_at "zq"
    rw [List.length_map]
    rcases take_cases ws [("births" : Str)] (Nat.zero_le _) with ⟨he, _⟩ | ⟨w, hw, hd, hk1, hnm⟩ | ⟨w, hw, hd, hk1, hnm⟩
    · omega
    · have hrs : ruleS ws = .place 0 := by rw [rule_eq (by rw [← hd, List.drop_zero]), if_pos (by simpa using hnm)]
      refine zo_ix (i := 0) (atI_str hw) ?_
      walk_at "zq"
      rw [decide_eq_false (by simpa using hnm)]
      walk_at "zq"
      walk_at "zt"
      exact ⟨_, rfl, by rw [hrs, show ((RR.place 0).dat ws s.length) = .tuple [.str "place", .int (plc ws s.length 0)] from rfl, place0 hpos]⟩
    · have hrs : ruleS ws = rule2 ws := by rw [rule_eq (by rw [← hd, List.drop_zero]), if_neg (by simpa using hnm)]
      unfold rule2 at hrs
      refine zo_ix (i := 0) (atI_str hw) ?_
      walk_at "zq"
      rw [decide_eq_true (by simpa using hnm)]
      walk_at "zq"
      refine ⟨_, _, allD_cons (allD_cons (allD_cons (allD_cons allD_nil))), rfl, ⟨ws, 1, 1, "stays", rfl, hpos, hn, by decide, by decide +kernel, by decide +kernel, rfl⟩, ?_⟩
      have hle1 := dueS_le (be := "stays") (lo := 1) hpos
      cases hd1 : dueS "stays" 1 ws 1 with
      | bad j =>
        rw [hd1] at hle1 hrs
        dsimp only [DR.dat]
        walk_at "zq"
        rw [List.length_map, if_neg (by omega)]
        refine zo_ixC hst (stL_at hle1) ?_
        walk_at "zq"
        walk_at "zt"
        exact ⟨_, rfl, by rw [hrs]; rfl⟩
      | done b j =>
        rw [hd1] at hle1
        rw [hd1, comb_done] at hrs
        dsimp only [DR.dat]
        walk_at "zq"
        rw [List.length_map]
        rcases take_cases ws [("stays" : Str)] hle1 with ⟨he1, hd2⟩ | ⟨w1, hw1, hd2, hk2, hn1⟩ | ⟨w1, hw1, hd2, hk2, hn1⟩
        · rw [hd2] at hrs
          rw [decide_eq_true (by omega)]
          walk_at "zq"
          rw [List.length_map, if_neg (by omega)]
          refine zo_ixC hst (stL_at hle1) ?_
          walk_at "zq"
          walk_at "zt"
          exact ⟨_, rfl, by rw [hrs]; rfl⟩
        · rw [hd2] at hrs
          dsimp only at hrs
          rw [if_neg (by simpa using hn1)] at hrs
          rw [decide_eq_false (by omega)]
          walk_at "zq"
          refine zo_ix (atI_str hw1) ?_
          walk_at "zq"
          rw [decide_eq_false (by simpa using hn1)]
          walk_at "zq"
          rw [List.length_map, if_neg (by omega)]
          refine zo_ixC hst (stL_at hle1) ?_
          walk_at "zq"
          walk_at "zt"
          exact ⟨_, rfl, by rw [hrs]; rfl⟩
        · rw [hd2] at hrs
          dsimp only at hrs
          rw [if_pos (by simpa using hn1)] at hrs
          dsimp only at hrs
          rw [decide_eq_false (by omega)]
          walk_at "zq"
          refine zo_ix (atI_str hw1) ?_
          walk_at "zq"
          rw [decide_eq_true (by simpa using hn1)]
          walk_at "zq"
          refine ⟨_, _, allD_cons (allD_cons (allD_cons (allD_cons allD_nil))), rfl, ⟨ws, j + 1, 0, "states", rfl, hk2, hn, by decide, by decide +kernel, by decide +kernel, rfl⟩, ?_⟩
          have hle2 := dueS_le (be := "states") (lo := 0) (k := j + 1) hk2
          cases hd3 : dueS "states" 0 ws (j + 1) with
          | bad j2 =>
            rw [hd3] at hle2 hrs
            dsimp only [DR.dat]
            walk_at "zq"
            rw [List.length_map, if_neg (by omega)]
            refine zo_ixC hst (stL_at hle2) ?_
            walk_at "zq"
            walk_at "zt"
            exact ⟨_, rfl, by rw [hrs]; rfl⟩
          | done st j2 =>
            rw [hd3] at hle2
            rw [hd3, comb_done] at hrs
            dsimp only [DR.dat]
            walk_at "zq"
            rw [List.length_map]
            rcases take_cases ws [("states" : Str)] hle2 with ⟨he2, hd4⟩ | ⟨w2, hw2, hd4, hk4, hn2⟩ | ⟨w2, hw2, hd4, hk4, hn2⟩
            · rw [hd4] at hrs
              rw [decide_eq_true (by omega)]
              walk_at "zq"
              rw [List.length_map, decide_eq_false (by omega)]
              walk_at "zq"
              refine zc_len (dLen_str (by omega)) ?_
              walk_at "zq"
              walk_at "zt"
              exact ⟨_, rfl, by rw [hrs, show (RR.dat ws s.length (RR.place j2)) = .tuple [.str "place", .int (plc ws s.length j2)] from rfl, show plc ws s.length j2 = s.length by unfold plc; rw [if_neg (by omega)]]⟩
            · rw [hd4] at hrs
              dsimp only at hrs
              rw [if_neg (by simpa using hn2)] at hrs
              rw [decide_eq_false (by omega)]
              walk_at "zq"
              refine zo_ix (atI_str hw2) ?_
              walk_at "zq"
              rw [decide_eq_false (by simpa using hn2)]
              walk_at "zq"
              rw [List.length_map, decide_eq_true (by omega)]
              walk_at "zq"
              refine zo_ix (atI_str hw2) ?_
              walk_at "zq"
              rw [decide_eq_false (by simpa using hn2)]
              walk_at "zq"
              refine zo_ixC hst (stL_at hle2) ?_
              walk_at "zq"
              walk_at "zt"
              exact ⟨_, rfl, by rw [hrs]; rfl⟩
            · rw [hd4] at hrs
              dsimp only at hrs
              rw [if_pos (by simpa using hn2)] at hrs
              dsimp only at hrs
              rw [decide_eq_false (by omega)]
              walk_at "zq"
              refine zo_ix (atI_str hw2) ?_
              walk_at "zq"
              rw [decide_eq_true (by simpa using hn2)]
              walk_at "zq"
              rw [List.length_map]
              rcases take_cases ws [("2" : Str), "3", "4", "5", "6"] hk4 with ⟨he3, hd5⟩ | ⟨w3, hw3, hd5, hk5, hn3⟩ | ⟨w3, hw3, hd5, hk5, hn3⟩
              · rw [hd5] at hrs
                rw [decide_eq_true (by omega)]
                walk_at "zq"
                rw [List.length_map, decide_eq_true (by omega)]
                walk_at "zq"
                refine zo_ix (atI_str hw2) ?_
                walk_at "zq"
                rw [decide_eq_true (by simpa using hn2)]
                walk_at "zq"
                refine zc_len (dLen_str (by omega)) ?_
                walk_at "zq"
                walk_at "zt"
                exact ⟨_, rfl, by rw [hrs, show (RR.dat ws s.length (endS b st (j2 + 1) [])) = .tuple [.str "place", .int (plc ws s.length (j2 + 1))] from rfl, show plc ws s.length (j2 + 1) = s.length by unfold plc; rw [if_neg (by omega)]]⟩
              · have he5 : ruleS ws = .place (j2 + 1) := by
                  rw [hrs, hd5, end_cons]
                  cases hf3 : fig w3 with
                  | none => rfl
                  | some n =>
                    dsimp only
                    rw [if_neg (fun e => hn3 (mem_states.mpr ⟨n, hf3, e.1, e.2⟩))]
                rw [decide_eq_false (by omega)]
                walk_at "zq"
                refine zo_ix (i := (j2 : Int) + 1) (atI_str hw3) ?_
                walk_at "zq"
                refine zw_lstD ?_
                walk_at "zq"
                walk_at "zt"
                refine zo_inLS (al := [("2" : Str), "3", "4", "5", "6"]) ?_
                walk_at "zq"
                rw [decide_eq_false hn3]
                walk_at "zq"
                refine zo_ixC (i := (j2 : Int) + 1) hst (stL_at hk4) ?_
                walk_at "zq"
                walk_at "zt"
                exact ⟨_, rfl, by rw [he5]; rfl⟩
              · obtain ⟨n, hf3, hn2', hn6⟩ := mem_states.mp hn3
                have hfi := fig_int hf3
                rw [hd5, end_cons, hf3] at hrs
                dsimp only at hrs
                rw [if_pos ⟨hn2', hn6⟩] at hrs
                rw [decide_eq_false (by omega)]
                walk_at "zq"
                refine zo_ix (i := (j2 : Int) + 1) (atI_str hw3) ?_
                walk_at "zq"
                refine zw_lstD ?_
                walk_at "zq"
                walk_at "zt"
                refine zo_inLS (al := [("2" : Str), "3", "4", "5", "6"]) ?_
                walk_at "zq"
                rw [decide_eq_true hn3]
                walk_at "zq"
                rw [List.length_map]
                rcases take_cases ws [] hk5 with ⟨he6, hd6⟩ | ⟨w4, hw4, hd6, hk6, hn4⟩ | ⟨w4, hw4, hd6, hk6, hn4⟩
                · rw [hd6] at hrs
                  rw [decide_eq_false (by omega)]
                  walk_at "zq"
                  refine zo_ix (i := (j2 : Int) + 1) (atI_str hw3) ?_
                  walk_at "zq"
                  refine zc_intS hfi.1 (by omega) ?_
                  walk_at "zq"
                  walk_at "zt"
                  walk_at "zq"
                  walk_at "zt"
                  exact ⟨_, rfl, by rw [hrs]; rfl⟩
                · rw [hd6] at hrs
                  rw [decide_eq_true (by omega)]
                  walk_at "zq"
                  refine zo_ixC (i := (j2 : Int) + 2) hst (stL_at (j := j2 + 2) (by omega)) ?_
                  walk_at "zq"
                  walk_at "zt"
                  exact ⟨_, rfl, by rw [hrs]; rfl⟩
                · cases hn4
/-! ### there and back -/
theorem fig_sl {i : Int} (h0 : 0 ≤ i) (h8 : i ≤ 8) : fig (Sl [48 + i.toNat]) = some i := by
  have h : fig (Sl [48 + i.toNat]) = some ((i.toNat : Nat) : Int) := fig_dg ⟨i.toNat, by omega⟩
  rw [show ((i.toNat : Nat) : Int) = i by omega] at h
  exact h
theorem loop_rule {be : Str} (hb : fig be = none) {rest : List Str} : ∀ (l : List Int) (a : Int) (cs : List Int) (k : Nat), 0 ≤ a → asc a l = true → loopS be a cs (l.map (fun i => Sl [48 + i.toNat]) ++ be :: rest) k = .done (cs ++ l) (k + l.length + 1) := by
  intro l
  induction l with
  | nil =>
    intro a cs k _ _
    show loopS be a cs (be :: rest) k = _
    rw [loop_cons, if_pos rfl, List.append_nil]
    rfl
  | cons x l ih =>
    intro a cs k h0 h
    have h' : (decide (a ≤ x) && decide (x ≤ 8) && asc (x + 1) l) = true := h
    simp only [Bool.and_eq_true, decide_eq_true_eq] at h'
    have hf := fig_sl (i := x) (by omega) h'.1.2
    rw [List.map_cons, List.cons_append, loop_cons, if_neg (fun e => by rw [e, hb] at hf; cases hf), hf]
    dsimp only
    rw [if_pos h'.1.1, ih (x + 1) (cs ++ [x]) (k + 1) (by omega) h'.2]
    rw [List.append_assoc, List.length_cons]
    congr 1
    omega
theorem cnt_rule {be : Str} (hb : fig be = none) {rest : List Str} {l : List Int} {lo : Int} {k : Nat} (h0 : 0 ≤ lo) (h : asc lo l = true) : cntS be lo ((cwL l).map Sl ++ be :: rest) k = .done l (k + (cwL l).length + 1) := by
  cases l with
  | nil =>
    have e : (cwL []).map Sl = [("none" : Str)] := by decide +kernel
    rw [e]
    show cntS be lo ("none" :: be :: rest) k = _
    rw [cnt_none, if_pos rfl]
    rfl
  | cons x l =>
    have h' : (decide (lo ≤ x) && decide (x ≤ 8) && asc (x + 1) l) = true := h
    simp only [Bool.and_eq_true, decide_eq_true_eq] at h'
    have hf := fig_sl (i := x) (by omega) h'.1.2
    have hne := (fig_int hf).2.2.2.2.1
    have e : (cwL (x :: l)).map Sl = Sl [48 + x.toNat] :: l.map (fun i => Sl [48 + i.toNat]) := by
      unfold cwL
      rw [if_neg (by simp)]
      simp
    have e2 : (cwL (x :: l)).length = l.length + 1 := by
      unfold cwL
      rw [if_neg (by simp)]
      simp
    rw [e, e2, List.cons_append, cnt_cons hne, hf]
    dsimp only
    rw [if_pos h'.1.1, loop_rule hb l (x + 1) [x] (k + 1) (by omega) h'.2]
    congr 1
    omega
theorem rule_there {b s : List Int} {n : Int} (hb : asc 1 b = true) (hs : asc 0 s = true) (h2 : 2 ≤ n) (h6 : n ≤ 6) : ruleS (wds (ruleText b s n)) = .rule b s n := by
  have hb2 := asc_mem hb
  have hs2 := asc_mem hs
  have hb4 : ∀ i ∈ b, 0 ≤ i ∧ i ≤ 8 := fun i hi => ⟨by have := hb2 i hi; omega, (hb2 i hi).2⟩
  rw [wds_rule hb4 hs2 ⟨by omega, by omega⟩]
  have e0 : Sl [98, 105, 114, 116, 104, 115] = ("births" : Str) := by decide +kernel
  have e1 : Sl [115, 116, 97, 121, 115] = ("stays" : Str) := by decide +kernel
  have e2 : Sl [115, 116, 97, 116, 101, 115] = ("states" : Str) := by decide +kernel
  have hw : (ruleW b s n).map Sl = ("births" : Str) :: ((cwL b).map Sl ++ ("stays" : Str) :: ((cwL s).map Sl ++ ("states" : Str) :: [Sl [48 + n.toNat]])) := by
    unfold ruleW
    simp only [List.map_append, List.map_cons, List.map_nil, List.cons_append, List.nil_append, e0, e1, e2]
  rw [hw]
  unfold ruleS
  dsimp only
  rw [if_neg (by simp), List.drop_one, List.tail_cons, cnt_rule (by decide +kernel) (by decide) hb]
  dsimp only
  rw [show ("births" : Str) :: ((cwL b).map Sl ++ ("stays" : Str) :: ((cwL s).map Sl ++ ("states" : Str) :: [Sl [48 + n.toNat]])) = (("births" : Str) :: ((cwL b).map Sl ++ [("stays" : Str)])) ++ ((cwL s).map Sl ++ ("states" : Str) :: [Sl [48 + n.toNat]]) by simp]
  rw [List.drop_left' (show (("births" : Str) :: ((cwL b).map Sl ++ [("stays" : Str)])).length = 1 + (cwL b).length + 1 by simp; omega), cnt_rule (by decide +kernel) (by decide) hs]
  dsimp only
  rw [show (("births" : Str) :: ((cwL b).map Sl ++ [("stays" : Str)])) ++ ((cwL s).map Sl ++ ("states" : Str) :: [Sl [48 + n.toNat]]) = ((("births" : Str) :: ((cwL b).map Sl ++ [("stays" : Str)])) ++ ((cwL s).map Sl ++ [("states" : Str)])) ++ [Sl [48 + n.toNat]] by simp]
  rw [List.drop_left' (by simp; omega), end_cons, fig_sl (by omega) (by omega)]
  dsimp only
  rw [if_pos ⟨h2, h6⟩]
theorem ruleText_len {b s : List Int} {n : Int} (hb : asc 1 b = true) (hs : asc 0 s = true) (h2 : 2 ≤ n) (h6 : n ≤ 6) : (ruleText b s n).length ≤ 300 ∧ b.length ≤ 9 ∧ s.length ≤ 9 := by
  have hb2 := asc_mem hb
  have hs2 := asc_mem hs
  have hb3 := asc_len hb (by decide)
  have hs3 := asc_len hs (by decide)
  have hb4 : ∀ i ∈ b, 0 ≤ i ∧ i ≤ 8 := fun i hi => ⟨by have := hb2 i hi; omega, (hb2 i hi).2⟩
  have wb := wc_len hb4 (by omega)
  have ws := wc_len hs2 (by omega)
  have l5 := len5 (n := n) (by omega) (by omega)
  unfold ruleText
  simp only [len_app, len2, len3, len4, l5]
  exact ⟨by omega, by omega, by omega⟩
theorem tup_al {n : Nat} {l : List Int} (h : l.length ≤ 1000) : al (n + 2) (.tuple (l.map .int)) = true := by
  show (decide ((l.map PyData.int).length ≤ 1000) && (l.map PyData.int).all (al (n + 1))) = true
  rw [List.length_map, decide_eq_true h]
  simp [al]
def texts0 : List Str := ["", " ", "births", "births ", "births none", "births none stays", "births none stays none", "births none stays none states", "births stays 2 states 2", "births 0 stays 2 states 2", "births 9 stays 2 states 2", "births 3 3 stays 2 states 2", "births none 3 stays 2 states 2", "births 3 stays states 2", "births 3 stays 0 states 7", "births 3 stays 0 states 2 2", "births 3  stays 0 states 2", "stays 2", "births 3 stays 2 none states 2", "births 12 stays 2 states 2"]
theorem texts0_len : texts0.length = 20 ∧ ∀ x ∈ texts0, x.length ≤ 900 := by decide +kernel
theorem slice_to_len {T : Str} {v : Int} (h : 0 ≤ v) : (Txt.slice T none (some v)).length ≤ T.length := by
  have e := SX.slice_to (a := T.cps.toList) h
  rw [SX.S_tl] at e
  rw [e, SX.S_len, List.length_take]
  have : T.cps.toList.length = T.length := by simp [Str.length]
  omega
theorem slice_from_len {T : Str} {v : Int} (h : 0 ≤ v) : (Txt.slice T (some v) none).length ≤ T.length := by
  have e := SX.slice_from (a := T.cps.toList) h
  rw [SX.S_tl] at e
  rw [e, SX.S_len, List.length_drop]
  have : T.cps.toList.length = T.length := by simp [Str.length]
  omega
theorem loop_len {be : Str} : ∀ (r : List Str) (a : Int) (cs : List Int) (k : Nat) (cs2 : List Int) (j : Nat), loopS be a cs r k = .done cs2 j → cs2.length ≤ cs.length + r.length := by
  intro r
  induction r with
  | nil => intro a cs k cs2 j h; cases h
  | cons w r ih =>
    intro a cs k cs2 j h
    rw [loop_cons] at h
    by_cases hw : w = be
    · rw [if_pos hw] at h
      cases h
      omega
    · rw [if_neg hw] at h
      cases hf : fig w with
      | none => rw [hf] at h; cases h
      | some d =>
        rw [hf] at h
        dsimp only at h
        by_cases h2 : a ≤ d
        · rw [if_pos h2] at h
          have := ih _ _ _ _ _ h
          simp only [List.length_append, List.length_cons, List.length_nil] at this ⊢
          omega
        · rw [if_neg h2] at h
          cases h
theorem cnt_len {be : Str} {lo : Int} {r : List Str} {k : Nat} {cs : List Int} {j : Nat} (h : cntS be lo r k = .done cs j) : cs.length ≤ r.length := by
  cases r with
  | nil => cases h
  | cons w r =>
    by_cases hw : w = "none"
    · subst hw
      cases r with
      | nil => rw [cnt_none0] at h; cases h
      | cons v r =>
        rw [cnt_none] at h
        by_cases h2 : v = be
        · rw [if_pos h2] at h
          cases h
          exact Nat.zero_le _
        · rw [if_neg h2] at h
          cases h
    · rw [cnt_cons hw] at h
      cases hf : fig w with
      | none => rw [hf] at h; cases h
      | some d =>
        rw [hf] at h
        dsimp only at h
        by_cases h2 : lo ≤ d
        · rw [if_pos h2] at h
          have := loop_len _ _ _ _ _ _ h
          simp only [List.length_cons, List.length_nil] at this ⊢
          omega
        · rw [if_neg h2] at h
          cases h
theorem rule_len {ws : List Str} {b s : List Int} {n : Int} (h : ruleS ws = .rule b s n) : b.length ≤ ws.length ∧ s.length ≤ ws.length := by
  cases ws with
  | nil => cases h
  | cons w r =>
    unfold ruleS at h
    dsimp only at h
    by_cases hw : w ≠ "births"
    · rw [if_pos hw] at h; cases h
    · rw [if_neg hw] at h
      cases hc1 : cntS "stays" 1 ((w :: r).drop 1) 1 with
      | bad j => rw [hc1] at h; cases h
      | done b1 j =>
        rw [hc1] at h
        dsimp only at h
        cases hc2 : cntS "states" 0 ((w :: r).drop j) j with
        | bad j2 => rw [hc2] at h; cases h
        | done s1 j2 =>
          rw [hc2] at h
          dsimp only at h
          have h1 := cnt_len hc1
          have h2 := cnt_len hc2
          rw [List.length_drop] at h1 h2
          have he : b1 = b ∧ s1 = s := by
            cases hd : (w :: r).drop j2 with
            | nil => rw [hd] at h; cases h
            | cons v t =>
              rw [hd, end_cons] at h
              cases hf : fig v with
              | none => rw [hf] at h; cases h
              | some d =>
                rw [hf] at h
                dsimp only at h
                by_cases h3 : 2 ≤ d ∧ d ≤ 6
                · rw [if_pos h3] at h
                  cases t with
                  | nil => cases h; exact ⟨rfl, rfl⟩
                  | cons _ _ => cases h
                · rw [if_neg h3] at h
                  cases h
          obtain ⟨rfl, rfl⟩ := he
          exact ⟨by omega, by omega⟩
theorem dat_al {y : Str} (h : y.length ≤ 900) : al 4 ((ruleS (wds y)).dat (wds y) y.length) = true := by
  have hn := (rd_ok y (by omega) (Nat.zero_le _)).n
  have hsl := split_le y " "
  cases hru : ruleS (wds y) with
  | place j => rfl
  | rule b s n =>
    obtain ⟨h1, h2⟩ := rule_len hru
    unfold wds at h1 h2
    show (decide (2 ≤ 1000) && (true && ((decide (3 ≤ 1000) && (al 2 (.tuple (b.map .int)) && (al 2 (.tuple (s.map .int)) && (true && true)))) && true))) = true
    rw [tup_al (n := 0) (by omega), tup_al (n := 0) (by omega)]
    rfl
def R_law (ds : List PyData) (o : DOut) : Prop := ∃ ns : List Int, ds = [.list (ns.map .int)] ∧ o = .ok (.bool true)
theorem ok_law {P : Program} {w : World} {K : Fg} {mg : Str → Option Value} {base : Heap} {f : Addr} {fd : FuncData} {C_BoardError C_InvalidText : Addr} (F : Fun K "law" "law" s_law f fd)
    (m_range : mg "range" = none)
    (m_len : mg "len" = none)
    (gx_BoardError : mg "BoardError" = some (.ref C_BoardError))
    (m_isinstance : mg "isinstance" = none)
    (gx_InvalidText : mg "InvalidText" = some (.ref C_InvalidText))
    (c__law_some_rule : Cal P w K mg base 3 "_law_some_rule" (spC K 0 R_some))
    (c__law_rule_text : Cal P w K mg base 1 "_law_rule_text" (spD K 1 R_rtext))
    (c__law_alike : Cal P w K mg base 5 "_law_alike" (spD K 2 (R_alike 4)))
    (c_read_rule : Cal P w K mg base 3 "read_rule" (spD K 1 (R_read C_InvalidText)))
    (c_write_rule : Cal P w K mg base 5 "write_rule" (spD K 1 R_wr))
    (c__law_pick : Cal P w K mg base 2 "_law_pick" (spC K 1 R_pick))
    (c__law_taken : Cal P w K mg base 1 "_law_taken" (spC K 1 R_taken))
    (c__law_rule_due : Cal P w K mg base 2 "_law_rule_due" (spD K 1 R_rdue))
    (h_exm : PySem.W.exmOne K (.ref C_InvalidText) (.ref C_BoardError) = some true)
    (h_exc : ExcC K C_InvalidText)
    (h_xf : XfC K C_InvalidText)
    (h_no : PySem.W.findIn K (.ref C_InvalidText) "place" = some none) :
    FnOk P w K mg base (L2.CX P w) 6 f fd ["script"] (spD K 1 R_law) := by
  refine F.okX sc_law (fun vs H Q E h => len_D h) (fun cdv A outer s H vs Q E hr h => ⟨_, (pss_cons (ps_set (i := 1) sc_law.nd rfl (by first | exact Or.inl rfl | exact Or.inr rfl) (pe_lst (pa_cons (pv 0) (pa_cons pe_int (pa_cons pe_int (pa_cons pe_int pa_nil))))))
      (pss_cons (ps_set (i := 2) sc_law.nd rfl (by first | exact Or.inl rfl | exact Or.inr rfl) (pe_cl c__law_some_rule hr (show 3 ≤ 5 by decide) passL (pa_cons (pv 1) pa_nil)))
      (pss_cons (ps_set (i := 3) sc_law.nd rfl (by first | exact Or.inl rfl | exact Or.inr rfl) (pe_cl c__law_rule_text hr (show 1 ≤ 5 by decide) passL (pa_cons (pv 2) pa_nil)))
      (pss_cons (ps_if (PW.pt (pw_or (pt_not (pt_val (pe_cl c__law_alike hr (show 5 ≤ 5 by decide) passL (pa_cons (pe_cl c_write_rule hr (show 5 ≤ 5 by decide) passL (pa_cons (pv 2) pa_nil)) (pa_cons (pv 3) pa_nil))) (fun _ => rfl))) (pw_or1 (pt_not (pt_val (pe_cl c__law_alike hr (show 5 ≤ 5 by decide) passL (pa_cons (pe_cl c_read_rule hr (show 3 ≤ 5 by decide) (passes_call (takes_of rfl rfl rfl rfl) fun _ _ _ _ h => h) (pa_cons (pv 3) pa_nil)) (pa_cons (pv 2) pa_nil))) (fun _ => rfl)))))) (pss_one (ps_ret pe_bl)) pss_nil)
      (pss_cons (ps_set (i := 4) sc_law.nd rfl (by first | exact Or.inl rfl | exact Or.inr rfl) (pe_lst (pa_cons pe_str (pa_cons pe_str (pa_cons pe_str (pa_cons pe_str (pa_cons pe_str (pa_cons pe_str (pa_cons pe_str pa_nil)))))))))
      (pss_cons (ps_set (i := 4) sc_law.nd rfl (by first | exact Or.inl rfl | exact Or.inr rfl) (pe_op op_addA (pv 4) (pe_lst (pa_cons pe_str (pa_cons pe_str pa_nil)))))
      (pss_cons (ps_set (i := 4) sc_law.nd rfl (by first | exact Or.inl rfl | exact Or.inr rfl) (pe_op op_addA (pv 4) (pe_lst (pa_cons pe_str (pa_cons pe_str (pa_cons pe_str pa_nil))))))
      (pss_cons (ps_set (i := 4) sc_law.nd rfl (by first | exact Or.inl rfl | exact Or.inr rfl) (pe_op op_addA (pv 4) (pe_lst (pa_cons pe_str (pa_cons pe_str pa_nil)))))
      (pss_cons (ps_set (i := 4) sc_law.nd rfl (by first | exact Or.inl rfl | exact Or.inr rfl) (pe_op op_addA (pv 4) (pe_lst (pa_cons pe_str (pa_cons pe_str (pa_cons pe_str pa_nil))))))
      (pss_cons (ps_set (i := 4) sc_law.nd rfl (by first | exact Or.inl rfl | exact Or.inr rfl) (pe_op op_addA (pv 4) (pe_lst (pa_cons pe_str (pa_cons pe_str (pa_cons pe_str pa_nil))))))
      (pss_cons (ps_for (passes_of rfl) rfl (pi_range1 (by rfl) m_range (pa_cons pe_int pa_nil)) (pg_name (i := 5) sc_law.nd rfl (by first | exact Or.inl rfl | exact Or.inr rfl)) (pss_cons (ps_par (i := 6) (j := 7) rfl sc_law.nd rfl rfl (by decide) rfl rfl (pa_cons (pe_cl c__law_taken hr (show 1 ≤ 5 by decide) passL (pa_cons (pv 1) (pa_cons (pe_op op_addA (pe_callB call_len (by rfl) m_len bb_len (pa_cons (pv 3) pa_nil)) pe_int) pa_nil))) (pa_cons (pe_cl c__law_pick hr (show 2 ≤ 5 by decide) passL (pa_cons (pv 1) (pa_cons (pe_lst (pa_cons pe_str (pa_cons pe_str (pa_cons pe_str (pa_cons pe_str (pa_cons pe_str (pa_cons pe_str pa_nil))))))) pa_nil))) pa_nil)) (by rfl))
      (pss_one (ps_expr (pe_bm PySem.F.plainAttrs_list PySem.F.slot_list_append PySem.F.type_list_append mt_append (pv 4) (pa_cons (pe_cl c__law_pick hr (show 2 ≤ 5 by decide) passL (pa_cons (pv 1) (pa_cons (pe_lst (pa_cons (pe_op op_addA (pe_op op_addA (pe_slice sl_any (pv 3) po_none (po_some (pv 6))) (pv 7)) (pe_slice sl_any (pv 3) (po_some (pv 6)) po_none)) (pa_cons (pe_op op_addA (pe_op op_addA (pe_slice sl_any (pv 3) po_none (po_some (pv 6))) (pv 7)) (pe_slice sl_any (pv 3) (po_some (pe_op op_addA (pv 6) pe_int)) po_none)) (pa_cons (pe_op op_addA (pe_slice sl_any (pv 3) po_none (po_some (pv 6))) (pe_slice sl_any (pv 3) (po_some (pe_op op_addA (pv 6) pe_int)) po_none)) (pa_cons (pe_slice sl_any (pv 3) po_none (po_some (pv 6))) pa_nil))))) pa_nil))) pa_nil))))))
      (pss_cons (ps_for (passes_of rfl) rfl (pi_list (pv 4)) (pg_name (i := 8) sc_law.nd rfl (by first | exact Or.inl rfl | exact Or.inr rfl)) (pss_cons (ps_set (i := 9) sc_law.nd rfl (by first | exact Or.inl rfl | exact Or.inr rfl) pe_non)
      (pss_cons (show PS _ _ (tTry _ _ _ _ _ _) from ps_try_as (i := 10) (Wout := fun _ _ _ _ => False) rfl rfl sc_law.nd rfl rfl ⟨rfl, by decide, Or.inl gx_BoardError⟩ takes0
        (fun W pn xe tk _ => (pss_one (ps_set (i := 9) sc_law.nd rfl (by first | exact Or.inl rfl | exact Or.inr rfl) (pe_tup (pa_cons pe_str (pa_cons (pe_clS c_read_rule hr (show 3 ≤ 5 by decide) tk (pa_cons (pv 8) pa_nil)) pa_nil))))))
        (fun ad oe cls dd pn hz hf => (pss_one (ps_set (i := 9) sc_law.nd rfl (by first | exact Or.inl rfl | exact Or.inr rfl) (pe_ifExp (pt_val (pe_callB (call_isX hz hf) (by rfl) m_isinstance bb_isinstance (pa_cons (pv 10) (pa_cons (pe_glob (v := .ref C_InvalidText) (by rfl) gx_InvalidText rfl) pa_nil))) (fun _ => rfl)) (pe_tup (pa_cons pe_str (pa_cons (pe_xfE hz hf (pv 10)) pa_nil))) pe_str)))))
      (pss_one (ps_if (pt_not (pt_val (pe_cl c__law_alike hr (show 5 ≤ 5 by decide) passL (pa_cons (pv 9) (pa_cons (pe_cl c__law_rule_due hr (show 2 ≤ 5 by decide) passL (pa_cons (pv 8) pa_nil)) pa_nil))) (fun _ => rfl))) (pss_one (ps_ret pe_bl)) pss_nil)))))
      (pss_one (ps_ret pe_bl)))))))))))))),
    fn_D h fun ds o hk hR => ?_⟩)
  try dsimp only [L2.cxOf]
  obtain ⟨ns, rfl, rfl⟩ := hR
  have hsz : (sizeLine : Nat) = 16777216 := sizeLine_eq
  let t0 : RowS := ⟨ns, 0, 10800, 0, by decide, by decide, by decide⟩
  walk_at "zq"
  refine zw_lstC ?_
  walk_at "zq"
  walk_at "zt"
  intro p
  walk_at "zq"
  refine ⟨p, _, _, _, _, rfl, m0, allD_nil, rfl, ⟨t0, rfl, rfl, fun b s n t1 hb hs h2 h6 => ⟨_, _, rfl, .here, ?_⟩⟩⟩
  obtain ⟨hl1, hl2, hl3⟩ := ruleText_len hb hs h2 h6
  walk_at "zq"
  refine ⟨_, _, allD_cons allD_nil, rfl, ⟨b, s, n, rfl, hb, hs, h2, h6, rfl⟩, ?_⟩
  walk_at "zq"
  refine ⟨_, _, allD_cons allD_nil, rfl, ⟨b, s, n, rfl, hb, hs, h2, h6, rfl⟩, ?_⟩
  walk_at "zq"
  refine ⟨_, _, allD_cons (allD_cons allD_nil), rfl, ⟨_, rfl, rfl, rfl⟩, ?_⟩
  walk_at "zq"
  refine ⟨_, _, allD_cons allD_nil, rfl, ⟨_, rfl, by omega, .inr ⟨b, s, n, rule_there hb hs h2 h6, rfl⟩⟩, fun d h => ?_, fun x h => (nomatch h)⟩
  cases h
  walk_at "zq"
  refine ⟨_, _, allD_cons (allD_cons allD_nil), rfl, ⟨_, rfl, ?_, rfl⟩, ?_⟩
  · show (decide (3 ≤ 1000) && (al 3 (.tuple (b.map .int)) && (al 3 (.tuple (s.map .int)) && (true && true)))) = true
    rw [tup_al (by omega), tup_al (by omega)]
    rfl
  generalize hT : ruleText b s n = T at hl1 ⊢
  clear hb hs h2 h6 hl2 hl3 hT
  walk_at "zq"
  refine zw_lstC ?_
  walk_at "zq"
  walk_at "zt"
  intro q1
  walk_at "zq"
  refine zw_lstC ?_
  walk_at "zq"
  walk_at "zt"
  intro q2
  refine za_l (m1 m0) m0 (by rw [sizeLine_eq]; exact Nat.le_of_ble_eq_true rfl) fun r1 => ?_
  walk_at "zq"
  refine zw_lstC ?_
  walk_at "zq"
  walk_at "zt"
  intro q3
  refine za_l (m1 m0) m0 (by rw [sizeLine_eq]; exact Nat.le_of_ble_eq_true rfl) fun r2 => ?_
  walk_at "zq"
  refine zw_lstC ?_
  walk_at "zq"
  walk_at "zt"
  intro q4
  refine za_l (m1 m0) m0 (by rw [sizeLine_eq]; exact Nat.le_of_ble_eq_true rfl) fun r3 => ?_
  walk_at "zq"
  refine zw_lstC ?_
  walk_at "zq"
  walk_at "zt"
  intro q5
  refine za_l (m1 m0) m0 (by rw [sizeLine_eq]; exact Nat.le_of_ble_eq_true rfl) fun r4 => ?_
  walk_at "zq"
  refine zw_lstC ?_
  walk_at "zq"
  walk_at "zt"
  intro q6
  refine za_l (m1 m0) m0 (by rw [sizeLine_eq]; exact Nat.le_of_ble_eq_true rfl) fun r5 => ?_
  refine zs_weak (S' := [some (.d (.list (ns.map .int))), some (.c p), some (.d (.tuple [.tuple (b.map .int), .tuple (s.map .int), .int n])), some (.d (.str T)), some (.c r5), none, none, none, none, none, none]) (M' := [(r5, true, .lst (texts0.map .str)), (p, true, .lst t1.d)]) ?_ rfl (fun _ _ h => h) (.cons₂ _ (.cons _ (.cons _ (.cons _ (.cons _ (.cons _ (.cons _ (.cons _ (.cons _ (.cons _ (.cons _ (.cons₂ _ .slnil))))))))))))
  walk_at "zq"
  refine ⟨by decide, by decide, fun i S2 M2 => ∃ (L : List Str) (t' : RowS) (c1 c2 c3 : Option ZV), S2 = [some (.d (.list (ns.map .int))), some (.c p), some (.d (.tuple [.tuple (b.map .int), .tuple (s.map .int), .int n])), some (.d (.str T)), some (.c r5), c1, c2, c3, none, none, none] ∧ (∀ x ∈ L, x.length ≤ 900) ∧ L.length = 20 + i ∧ M2 = [(r5, true, .lst (L.map .str)), (p, true, .lst t'.d)], ⟨texts0, t1, _, _, _, rfl, texts0_len.2, texts0_len.1, rfl⟩, ?_, ?_⟩
  · rintro i S2 M2 hi ⟨L, t2, c1, c2, c3, rfl, hLl, hL, rfl⟩
    walk_at "zq"
    refine zc_len (dLen_str (by omega)) ?_
    walk_at "zq"
    refine ⟨p, _, _, _, _, rfl, m1 m0, allD_cons allD_nil, rfl, ⟨t2, _, rfl, rfl, by omega, log_small (n := T.length + 1) (by omega), fun v t3 h0 hv => ⟨_, _, rfl, .there .here, ?_⟩⟩⟩
    walk_at "zq"
    refine zw_lstD ?_
    walk_at "zq"
    walk_at "zt"
    walk_at "zq"
    refine ⟨p, _, _, _, _, rfl, m1 m0, allD_cons allD_nil, rfl, ⟨t3, _, rfl, rfl, by simp, by simp, fun k sg t4 hk => ⟨_, _, rfl, .there .here, ?_⟩⟩⟩
    have hsg : ∃ x : Str, sg = .str x ∧ x.length ≤ 1 := by
      have hm := List.mem_of_getElem? hk
      simp only [List.mem_cons, List.not_mem_nil, or_false] at hm
      rcases hm with rfl | rfl | rfl | rfl | rfl | rfl <;> exact ⟨_, rfl, by decide +kernel⟩
    obtain ⟨x, rfl, hx⟩ := hsg
    clear hk
    walk_at "zq"
    refine ⟨_, _, rfl, ?_⟩
    walk_at "zq"
    refine zw_append ?_
    walk_at "zq"
    have e1 := slice_to_len (T := T) h0
    have e2 := slice_from_len (T := T) h0
    have e3 := slice_from_len (T := T) (v := v + 1) (by omega)
    refine ⟨⟨_, _, m0⟩, ?_⟩
    walk_at "zq"
    refine zw_lstD ?_
    walk_at "zq"
    refine ⟨_, _, rfl, dSl_str (by omega), ?_⟩
    walk_at "zq"
    refine za_s (by omega) ?_
    walk_at "zq"
    refine ⟨_, _, rfl, dSl_str (by omega), ?_⟩
    refine za_s (by rw [len_app]; omega) ?_
    walk_at "zq"
    refine ⟨_, _, rfl, dSl_str (by omega), ?_⟩
    walk_at "zq"
    refine za_s (by omega) ?_
    walk_at "zq"
    refine ⟨_, _, rfl, dSl_str (by omega), ?_⟩
    refine za_s (by rw [len_app]; omega) ?_
    walk_at "zq"
    refine ⟨_, _, rfl, dSl_str (by omega), ?_⟩
    walk_at "zq"
    refine ⟨_, _, rfl, dSl_str (by omega), ?_⟩
    refine za_s (by omega) ?_
    walk_at "zq"
    refine ⟨_, _, rfl, dSl_str (by omega), ?_⟩
    walk_at "zq"
    walk_at "zt"
    walk_at "zq"
    refine ⟨p, _, _, _, _, rfl, m1 m0, allD_cons allD_nil, rfl, ⟨t4, _, rfl, rfl, by simp, by simp, fun k sg t5 hk => ⟨_, _, rfl, .there .here, ?_⟩⟩⟩
    have hsg : ∃ y : Str, sg = .str y ∧ y.length ≤ 900 := by
      have hm := List.mem_of_getElem? hk
      simp only [List.mem_cons, List.not_mem_nil, or_false] at hm
      rcases hm with rfl | rfl | rfl | rfl
      · exact ⟨_, rfl, by simp only [len_app]; omega⟩
      · exact ⟨_, rfl, by simp only [len_app]; omega⟩
      · exact ⟨_, rfl, by simp only [len_app]; omega⟩
      · exact ⟨_, rfl, by omega⟩
    obtain ⟨y, rfl, hy⟩ := hsg
    clear hk
    refine ⟨_, _, _, _, rfl, .here, by rw [List.length_map]; omega, ?_⟩
    refine ⟨L ++ [y], t5, some (.d (.int (0 + (i : Int)))), some (.d (.int v)), some (.d (.str x)), rfl, fun z hz => ?_, by simp; omega, by simp⟩
    rcases List.mem_append.mp hz with h | h
    · exact hLl z h
    · have : z = y := by simpa using h
      rw [this]
      exact hy
  · rintro S2 M2 ⟨L, t2, c1, c2, c3, rfl, hLl, hL, rfl⟩
    refine zs_seq (zs_forL (zw_frz ?_))
    walk_at "zq"
    refine ⟨_, _, _, rfl, .here, _, rfl, fun i S2 M2 => ∃ (c1 c2 c3 c4 c5 c6 : Option ZV), S2 = [some (.d (.list (ns.map .int))), some (.c p), some (.d (.tuple [.tuple (b.map .int), .tuple (s.map .int), .int n])), some (.d (.str T)), some (.c r5), c1, c2, c3, c4, c5, c6] ∧ M2 = [(p, true, .lst t2.d)], ⟨_, _, _, _, _, _, rfl, rfl⟩, ?_, ?_⟩
    · rintro i v S2 M2 hx ⟨c1, c2, c3, c4, c5, c6, rfl, rfl⟩
      rw [List.getElem?_map] at hx
      obtain ⟨y, hy, rfl⟩ := Option.map_eq_some_iff.mp hx
      have hyl := hLl y (List.mem_of_getElem? hy)
      walk_at "zq"
      refine zs_seq (zs_nx (N := fun S2 M2 => ∃ c10, S2 = [some (.d (.list (ns.map .int))), some (.c p), some (.d (.tuple [.tuple (b.map .int), .tuple (s.map .int), .int n])), some (.d (.str T)), some (.c r5), c1, c2, c3, some (.d (.str y)), some (.d ((ruleS (wds y)).dat (wds y) y.length)), c10] ∧ M2 = [(p, true, .lst t2.d)]) (zs_tryZ fun W => ?_) ?_)
      · walk_at "zq"
        refine zw_callS ?_
        walk_at "zq"
        cases hru : ruleS (wds y) with
        | place j =>
          refine ⟨_, _, allD_cons allD_nil, rfl, ⟨y, rfl, by omega, .inl ⟨j, hru, rfl⟩⟩, fun d h => (nomatch h), fun x h => ?_⟩
          cases h
          refine ⟨h_exm, fun a d => ?_⟩
          walk_at "zq"
          refine ⟨_, true, rfl, h_exc, ?_, ?_⟩
          · unfold PySem.W.kitOne
            rw [if_pos (by simp)]
          walk_at "zq"
          refine zw_xf ⟨h_xf, h_no⟩ ?_
          walk_at "zq"
          walk_at "zt"
          exact ⟨_, rfl, rfl⟩
        | rule b2 s2 n2 =>
          refine ⟨_, _, allD_cons allD_nil, rfl, ⟨y, rfl, by omega, .inr ⟨b2, s2, n2, hru, rfl⟩⟩, fun d h => ?_, fun x h => (nomatch h)⟩
          cases h
          walk_at "zq"
          walk_at "zt"
          exact ⟨_, rfl, rfl⟩
      · rintro S3 M3 ⟨c10, rfl, rfl⟩
        refine zs_next ?_
        walk_at "zq"
        refine ⟨_, _, allD_cons allD_nil, rfl, ⟨y, rfl, by omega, rfl⟩, ?_⟩
        walk_at "zq"
        refine ⟨_, _, allD_cons (allD_cons allD_nil), rfl, ⟨_, rfl, dat_al hyl, rfl⟩, ?_⟩
        walk_at "zq"
        exact ⟨_, _, _, _, _, _, rfl, rfl⟩
    · rintro S2 M2 ⟨c1, c2, c3, c4, c5, c6, rfl, rfl⟩
      walk_at "zq"
      rfl
end K00
namespace K00
open PySem PySem.Spec PyProof.Rows L2 Z
end K00
namespace K00
open PySem PySem.Spec PyProof.Rows L2 Z
theorem all_mk {l : PySem.W.OpenLaw} {w : World} {K : Fg} {h : Heap} {mg : Str → Option Value} {fa C_WordReader C_FIGURES C_NotText C_InvalidText C_BoardError fI_InvalidText f_is_between f_check_text f_WordReader_init f_WordReader_take f_WordReader_end f_are_counts f_is_rule f_check_rule f_write_counts f_write_rule f_read_counts f_read_rule f_law_taken f_law_pick f_law_some_rule f_law_rule_text f_law_alike f_law_counts_due f_law_rule_due f_law : Addr} (X : K.In h) (G : h.Ns mainGlobals mg) (hfa : mg "law" = some (.ref fa))
    {t_NONE : Tok}
    {t_FIGURES_0 t_FIGURES_1 t_FIGURES_2 t_FIGURES_3 t_FIGURES_4 t_FIGURES_5 t_FIGURES_6 t_FIGURES_7 t_FIGURES_8 : Tok}
    {d_FIGURES_ : Option Addr} {n_FIGURES_ : Nat} {sl_FIGURES_ : Array (Option Value)}
    {nm_InvalidText q_InvalidText_ : Str} {N_InvalidText : Addr} {bs_InvalidText bm_InvalidText : List Value} {sn_InvalidText : List Str} {sub_InvalidText : List Value} {ab_InvalidText : Bool} {col_InvalidText : Option Bool} {dd_InvalidText : Option Addr} {m0_InvalidText m1_InvalidText m2_InvalidText m3_InvalidText m5_InvalidText : Option Value}
    {oc_InvalidText doc_InvalidText pm_InvalidText ct_InvalidText : Value} {od_InvalidText an_InvalidText : Option Addr} {cda_InvalidText cc_InvalidText : Addr} {osl_InvalidText : Array (Option Value)} {p1_InvalidText p2_InvalidText ya_InvalidText yb_InvalidText yc_InvalidText yd_InvalidText ye_InvalidText yg_InvalidText yh_InvalidText yi_InvalidText yk_InvalidText yl_InvalidText ym_InvalidText yn_InvalidText yo_InvalidText : Pos} {j_InvalidText : Nat}
    {ccl_InvalidText : Value} {cdd_InvalidText : Option Addr} {vs_InvalidText : Array Value} {ccs_InvalidText csl_InvalidText : Array (Option Value)} {cl_InvalidText : Value} {cld_InvalidText : Option Addr} {file_InvalidText : Str} {tf_InvalidText : Tok}
    {od_is_between an_is_between : Option Addr} {sl_is_between : Array (Option Value)} {oc_is_between kV_is_between dc_is_between pm_is_between cd_is_between ct_is_between : Value}
    {od_check_text an_check_text : Option Addr} {sl_check_text : Array (Option Value)} {oc_check_text kV_check_text dc_check_text pm_check_text cd_check_text ct_check_text : Value}
    {od_WordReader_init an_WordReader_init : Option Addr} {sl_WordReader_init : Array (Option Value)} {oc_WordReader_init kV_WordReader_init dc_WordReader_init pm_WordReader_init cd_WordReader_init ct_WordReader_init : Value}
    {od_WordReader_take an_WordReader_take : Option Addr} {sl_WordReader_take : Array (Option Value)} {oc_WordReader_take kV_WordReader_take dc_WordReader_take pm_WordReader_take cd_WordReader_take ct_WordReader_take : Value}
    {od_WordReader_end an_WordReader_end : Option Addr} {sl_WordReader_end : Array (Option Value)} {oc_WordReader_end kV_WordReader_end dc_WordReader_end pm_WordReader_end cd_WordReader_end ct_WordReader_end : Value}
    {od_are_counts an_are_counts : Option Addr} {sl_are_counts : Array (Option Value)} {oc_are_counts kV_are_counts dc_are_counts pm_are_counts cd_are_counts ct_are_counts : Value}
    {od_is_rule an_is_rule : Option Addr} {sl_is_rule : Array (Option Value)} {oc_is_rule kV_is_rule dc_is_rule pm_is_rule cd_is_rule ct_is_rule : Value}
    {od_check_rule an_check_rule : Option Addr} {sl_check_rule : Array (Option Value)} {oc_check_rule kV_check_rule dc_check_rule pm_check_rule cd_check_rule ct_check_rule : Value}
    {od_write_counts an_write_counts : Option Addr} {sl_write_counts : Array (Option Value)} {oc_write_counts kV_write_counts dc_write_counts pm_write_counts cd_write_counts ct_write_counts : Value}
    {od_write_rule an_write_rule : Option Addr} {sl_write_rule : Array (Option Value)} {oc_write_rule kV_write_rule dc_write_rule pm_write_rule cd_write_rule ct_write_rule : Value}
    {od_read_counts an_read_counts : Option Addr} {sl_read_counts : Array (Option Value)} {oc_read_counts kV_read_counts dc_read_counts pm_read_counts cd_read_counts ct_read_counts : Value}
    {od_read_rule an_read_rule : Option Addr} {sl_read_rule : Array (Option Value)} {oc_read_rule kV_read_rule dc_read_rule pm_read_rule cd_read_rule ct_read_rule : Value}
    {od_law_taken an_law_taken : Option Addr} {sl_law_taken : Array (Option Value)} {oc_law_taken kV_law_taken dc_law_taken pm_law_taken cd_law_taken ct_law_taken : Value}
    {od_law_pick an_law_pick : Option Addr} {sl_law_pick : Array (Option Value)} {oc_law_pick kV_law_pick dc_law_pick pm_law_pick cd_law_pick ct_law_pick : Value}
    {od_law_some_rule an_law_some_rule : Option Addr} {sl_law_some_rule : Array (Option Value)} {oc_law_some_rule kV_law_some_rule dc_law_some_rule pm_law_some_rule cd_law_some_rule ct_law_some_rule : Value}
    {od_law_rule_text an_law_rule_text : Option Addr} {sl_law_rule_text : Array (Option Value)} {oc_law_rule_text kV_law_rule_text dc_law_rule_text pm_law_rule_text cd_law_rule_text ct_law_rule_text : Value}
    {od_law_alike an_law_alike : Option Addr} {sl_law_alike : Array (Option Value)} {oc_law_alike kV_law_alike dc_law_alike pm_law_alike cd_law_alike ct_law_alike : Value}
    {od_law_counts_due an_law_counts_due : Option Addr} {sl_law_counts_due : Array (Option Value)} {oc_law_counts_due kV_law_counts_due dc_law_counts_due pm_law_counts_due cd_law_counts_due ct_law_counts_due : Value}
    {od_law_rule_due an_law_rule_due : Option Addr} {sl_law_rule_due : Array (Option Value)} {oc_law_rule_due kV_law_rule_due dc_law_rule_due pm_law_rule_due cd_law_rule_due ct_law_rule_due : Value}
    {od_law an_law : Option Addr} {sl_law : Array (Option Value)} {oc_law kV_law dc_law pm_law cd_law ct_law : Value}
    (a_WordReader : PySem.W.nsIn K mainGlobals "WordReader" = some (some (.ref C_WordReader)))
    (pg_WordReader : PySem.W.plainGet K C_WordReader Str.empty = true)
    (hd_WordReader : PySem.W.hasDictIn K C_WordReader = true)
    (po_WordReader : PySem.W.plainOver K C_WordReader = true)
    (sa_WordReader : PySem.W.findIn K (.ref C_WordReader) "__setattr__" = some (some (.builtin "object.__setattr__")))
    (mk_WordReader : PySem.W.makesIn K C_WordReader = true)
    (kc_WordReader : PySem.W.keepIn K (.ref C_WordReader) = true)
    (z_isinstance : PySem.W.nsIn K mainGlobals "isinstance" = some none)
    (z_int : PySem.W.nsIn K mainGlobals "int" = some none)
    (z_bool : PySem.W.nsIn K mainGlobals "bool" = some none)
    (z_str : PySem.W.nsIn K mainGlobals "str" = some none)
    (na_WordReader_words : PySem.W.findIn K (.ref C_WordReader) "words" = some none)
    (na_WordReader_taken : PySem.W.findIn K (.ref C_WordReader) "taken" = some none)
    (na_WordReader_place : PySem.W.findIn K (.ref C_WordReader) "place" = some none)
    (na_WordReader_length : PySem.W.findIn K (.ref C_WordReader) "length" = some none)
    (z_len : PySem.W.nsIn K mainGlobals "len" = some none)
    (z_tuple : PySem.W.nsIn K mainGlobals "tuple" = some none)
    (z_NONE : PySem.W.nsIn K mainGlobals "NONE" = some (some (.str "none" t_NONE)))
    (z_FIGURES : PySem.W.nsIn K mainGlobals "FIGURES" = some (some (.ref C_FIGURES)))
    (lk_FIGURES : K.lookup C_FIGURES = some ⟨.type "tuple", d_FIGURES_, .seq #[.str "0" t_FIGURES_0, .str "1" t_FIGURES_1, .str "2" t_FIGURES_2, .str "3" t_FIGURES_3, .str "4" t_FIGURES_4, .str "5" t_FIGURES_5, .str "6" t_FIGURES_6, .str "7" t_FIGURES_7, .str "8" t_FIGURES_8] n_FIGURES_, sl_FIGURES_⟩)
    (z_range : PySem.W.nsIn K mainGlobals "range" = some none)
    (z_list : PySem.W.nsIn K mainGlobals "list" = some none)
    (z_min : PySem.W.nsIn K mainGlobals "min" = some none)
    (a_NotText : PySem.W.nsIn K mainGlobals "NotText" = some (some (.ref C_NotText)))
    (kC_NotText : PySem.W.keepIn K (.ref C_NotText) = true)
    (exC_NotText : PySem.W.subIn K (.ref C_NotText) (.type "BaseException") = some true)
    (tyC_NotText : PySem.W.typeIn K (.ref C_NotText) = some (.type "type"))
    (hdC_NotText : PySem.W.hasDictIn K C_NotText = true)
    (a_InvalidText : PySem.W.nsIn K mainGlobals "InvalidText" = some (some (.ref C_InvalidText)))
    (kC_InvalidText : PySem.W.keepIn K (.ref C_InvalidText) = true)
    (exC_InvalidText : PySem.W.subIn K (.ref C_InvalidText) (.type "BaseException") = some true)
    (tyC_InvalidText : PySem.W.typeIn K (.ref C_InvalidText) = some (.type "type"))
    (hdC_InvalidText : PySem.W.hasDictIn K C_InvalidText = true)
    (a_BoardError : PySem.W.nsIn K mainGlobals "BoardError" = some (some (.ref C_BoardError)))
    (kC_BoardError : PySem.W.keepIn K (.ref C_BoardError) = true)
    (exC_BoardError : PySem.W.subIn K (.ref C_BoardError) (.type "BaseException") = some true)
    (tyC_BoardError : PySem.W.typeIn K (.ref C_BoardError) = some (.type "type"))
    (hdC_BoardError : PySem.W.hasDictIn K C_BoardError = true)
    (q_InvalidText : PySem.W.excInitIn K C_InvalidText [.type "ValueError", .type "Exception", .type "BaseException", .type "object"] "ValueError.__new__" = true)
    (cls_InvalidText : K.lookup C_InvalidText = some (excClassObj nm_InvalidText q_InvalidText_ C_InvalidText N_InvalidText bs_InvalidText bm_InvalidText true sn_InvalidText sub_InvalidText ab_InvalidText col_InvalidText dd_InvalidText m0_InvalidText m1_InvalidText m2_InvalidText m3_InvalidText m5_InvalidText "ValueError.__new__"))
    (bm_InvalidText : PySem.HandSPX.refsVE bm_InvalidText = true)
    (sa_InvalidText : PySem.W.findIn K (.ref C_InvalidText) "__setattr__" = some (some (.builtin "object.__setattr__")))
    (noN_InvalidText : PySem.W.findIn K (.ref C_InvalidText) "place" = some none)
    (iC_InvalidText : PySem.W.findIn K (.ref C_InvalidText) "__init__" = some (some (.ref fI_InvalidText)))
    (tC_InvalidText : PySem.W.typeIn K (.ref fI_InvalidText) = some (.type "function"))
    (veC_InvalidText : PySem.W.subIn K (.ref C_InvalidText) (.type "ValueError") = some true)
    (ms_InvalidText : PySem.W.mroIn K C_InvalidText (.ref C_InvalidText) = some true)
    (si_InvalidText : PySem.W.ks_superIn K C_InvalidText C_InvalidText "__init__" = some (some (.builtin "ValueError.__init__")))
    (op_super : PySem.W.nsIn K cStatics "thirdparty.any" = some none)
    (su_super : PySem.W.nsIn K mainGlobals "super" = some none)
    (x_NotText : PySem.W.excIn K C_NotText [Value.type "ValueError", Value.type "Exception", Value.type "BaseException", Value.type "object"] "ValueError.__new__" = true)
    (l_InvalidText : K.lookup fI_InvalidText = some ⟨oc_InvalidText, od_InvalidText, .func (PySem.W.ksFn "__init__" "InvalidText.__init__" (PySem.SupX.sA "place" p1_InvalidText p2_InvalidText) (PySem.SupX.sB "place" "the text goes wrong at " j_InvalidText ⟨ya_InvalidText, yb_InvalidText, yc_InvalidText, yd_InvalidText, ye_InvalidText, yg_InvalidText, yh_InvalidText, yi_InvalidText, yk_InvalidText, yl_InvalidText, ym_InvalidText, yn_InvalidText, yo_InvalidText⟩) (PySem.SupX.sS "place") .none .none doc_InvalidText pm_InvalidText an_InvalidText (.ref cda_InvalidText) ct_InvalidText cc_InvalidText), osl_InvalidText⟩)
    (c_InvalidText : PySem.W.codeIn K (.ref cda_InvalidText) "InvalidText.__init__" = true)
    (cf_InvalidText : K.lookup cda_InvalidText = some ⟨ccl_InvalidText, cdd_InvalidText, .fields vs_InvalidText, ccs_InvalidText⟩)
    (vf_InvalidText : vs_InvalidText[2]? = some (.str file_InvalidText tf_InvalidText))
    (fe_InvalidText : ((l.prog.main.file : Str) == file_InvalidText) = true)
    (cc_InvalidText_ : K.lookup cc_InvalidText = some ⟨cl_InvalidText, cld_InvalidText, .cell (some (.ref C_InvalidText)), csl_InvalidText⟩)
    (ev_InvalidText : PySem.SupX.EvOk "place" "the text goes wrong at " j_InvalidText ⟨ya_InvalidText, yb_InvalidText, yc_InvalidText, yd_InvalidText, ye_InvalidText, yg_InvalidText, yh_InvalidText, yi_InvalidText, yk_InvalidText, yl_InvalidText, ym_InvalidText, yn_InvalidText, yo_InvalidText⟩)
    (tp_InvalidText : (l.prog.main.scope.names.lookup ("super" : Str)).isSome = false)
    (sx1 : PySem.W.subIn K (.ref C_InvalidText) (.ref C_BoardError) = some true)
    (ga1 : PySem.W.findIn K (.ref C_InvalidText) "__getattribute__" = some (some (.builtin "BaseException.__getattribute__")))
    (gt1 : PySem.W.findIn K (.ref C_InvalidText) "__getattr__" = some none)
    (ca1 : PySem.W.findIn K (.ref C_InvalidText) "__class__" = some (some (.builtin "object.__class__")))
    (cn1 : PySem.W.specialIn K (.builtin "object.__class__") "__get__" = some (some (.builtin "getset_descriptor.__get__")))
    (ct1 : PySem.W.takesIn K (.builtin "object.__class__") = some true)
    (cm1 : PySem.W.mroIn K C_InvalidText (.type "object") = some true)
    (a_is_between : PySem.W.nsIn K mainGlobals "is_between" = some (some (.ref f_is_between)))
    (l_is_between : K.lookup f_is_between = some ⟨oc_is_between, od_is_between, .func (PySem.W.fnOf "is_between" "is_between" (defArgs s_is_between) (defBody s_is_between) (defScope s_is_between) .none kV_is_between dc_is_between pm_is_between an_is_between cd_is_between ct_is_between), sl_is_between⟩)
    (c_is_between : PySem.W.codeIn K cd_is_between "is_between" = true)
    (k_is_between : PySem.W.keepIn K (.ref f_is_between) = true)
    (a_check_text : PySem.W.nsIn K mainGlobals "check_text" = some (some (.ref f_check_text)))
    (l_check_text : K.lookup f_check_text = some ⟨oc_check_text, od_check_text, .func (PySem.W.fnOf "check_text" "check_text" (defArgs s_check_text) (defBody s_check_text) (defScope s_check_text) .none kV_check_text dc_check_text pm_check_text an_check_text cd_check_text ct_check_text), sl_check_text⟩)
    (c_check_text : PySem.W.codeIn K cd_check_text "check_text" = true)
    (k_check_text : PySem.W.keepIn K (.ref f_check_text) = true)
    (a_WordReader_init : PySem.W.findIn K (.ref C_WordReader) "__init__" = some (some (.ref f_WordReader_init)))
    (i_WordReader_init : PySem.W.isFn K (.ref f_WordReader_init) = true)
    (l_WordReader_init : K.lookup f_WordReader_init = some ⟨oc_WordReader_init, od_WordReader_init, .func (PySem.W.fnOf "__init__" "WordReader.__init__" (defArgs s_WordReader_init) (defBody s_WordReader_init) (defScope s_WordReader_init) .none kV_WordReader_init dc_WordReader_init pm_WordReader_init an_WordReader_init cd_WordReader_init ct_WordReader_init), sl_WordReader_init⟩)
    (c_WordReader_init : PySem.W.codeIn K cd_WordReader_init "WordReader.__init__" = true)
    (k_WordReader_init : PySem.W.keepIn K (.ref f_WordReader_init) = true)
    (a_WordReader_take : PySem.W.findIn K (.ref C_WordReader) "take" = some (some (.ref f_WordReader_take)))
    (i_WordReader_take : PySem.W.isFn K (.ref f_WordReader_take) = true)
    (l_WordReader_take : K.lookup f_WordReader_take = some ⟨oc_WordReader_take, od_WordReader_take, .func (PySem.W.fnOf "take" "WordReader.take" (defArgs s_WordReader_take) (defBody s_WordReader_take) (defScope s_WordReader_take) .none kV_WordReader_take dc_WordReader_take pm_WordReader_take an_WordReader_take cd_WordReader_take ct_WordReader_take), sl_WordReader_take⟩)
    (c_WordReader_take : PySem.W.codeIn K cd_WordReader_take "WordReader.take" = true)
    (k_WordReader_take : PySem.W.keepIn K (.ref f_WordReader_take) = true)
    (a_WordReader_end : PySem.W.findIn K (.ref C_WordReader) "end" = some (some (.ref f_WordReader_end)))
    (i_WordReader_end : PySem.W.isFn K (.ref f_WordReader_end) = true)
    (l_WordReader_end : K.lookup f_WordReader_end = some ⟨oc_WordReader_end, od_WordReader_end, .func (PySem.W.fnOf "end" "WordReader.end" (defArgs s_WordReader_end) (defBody s_WordReader_end) (defScope s_WordReader_end) .none kV_WordReader_end dc_WordReader_end pm_WordReader_end an_WordReader_end cd_WordReader_end ct_WordReader_end), sl_WordReader_end⟩)
    (c_WordReader_end : PySem.W.codeIn K cd_WordReader_end "WordReader.end" = true)
    (k_WordReader_end : PySem.W.keepIn K (.ref f_WordReader_end) = true)
    (a_are_counts : PySem.W.nsIn K mainGlobals "_are_counts" = some (some (.ref f_are_counts)))
    (l_are_counts : K.lookup f_are_counts = some ⟨oc_are_counts, od_are_counts, .func (PySem.W.fnOf "_are_counts" "_are_counts" (defArgs s_are_counts) (defBody s_are_counts) (defScope s_are_counts) .none kV_are_counts dc_are_counts pm_are_counts an_are_counts cd_are_counts ct_are_counts), sl_are_counts⟩)
    (c_are_counts : PySem.W.codeIn K cd_are_counts "_are_counts" = true)
    (k_are_counts : PySem.W.keepIn K (.ref f_are_counts) = true)
    (a_is_rule : PySem.W.nsIn K mainGlobals "_is_rule" = some (some (.ref f_is_rule)))
    (l_is_rule : K.lookup f_is_rule = some ⟨oc_is_rule, od_is_rule, .func (PySem.W.fnOf "_is_rule" "_is_rule" (defArgs s_is_rule) (defBody s_is_rule) (defScope s_is_rule) .none kV_is_rule dc_is_rule pm_is_rule an_is_rule cd_is_rule ct_is_rule), sl_is_rule⟩)
    (c_is_rule : PySem.W.codeIn K cd_is_rule "_is_rule" = true)
    (k_is_rule : PySem.W.keepIn K (.ref f_is_rule) = true)
    (a_check_rule : PySem.W.nsIn K mainGlobals "check_rule" = some (some (.ref f_check_rule)))
    (l_check_rule : K.lookup f_check_rule = some ⟨oc_check_rule, od_check_rule, .func (PySem.W.fnOf "check_rule" "check_rule" (defArgs s_check_rule) (defBody s_check_rule) (defScope s_check_rule) .none kV_check_rule dc_check_rule pm_check_rule an_check_rule cd_check_rule ct_check_rule), sl_check_rule⟩)
    (c_check_rule : PySem.W.codeIn K cd_check_rule "check_rule" = true)
    (k_check_rule : PySem.W.keepIn K (.ref f_check_rule) = true)
    (a_write_counts : PySem.W.nsIn K mainGlobals "_write_counts" = some (some (.ref f_write_counts)))
    (l_write_counts : K.lookup f_write_counts = some ⟨oc_write_counts, od_write_counts, .func (PySem.W.fnOf "_write_counts" "_write_counts" (defArgs s_write_counts) (defBody s_write_counts) (defScope s_write_counts) .none kV_write_counts dc_write_counts pm_write_counts an_write_counts cd_write_counts ct_write_counts), sl_write_counts⟩)
    (c_write_counts : PySem.W.codeIn K cd_write_counts "_write_counts" = true)
    (k_write_counts : PySem.W.keepIn K (.ref f_write_counts) = true)
    (a_write_rule : PySem.W.nsIn K mainGlobals "write_rule" = some (some (.ref f_write_rule)))
    (l_write_rule : K.lookup f_write_rule = some ⟨oc_write_rule, od_write_rule, .func (PySem.W.fnOf "write_rule" "write_rule" (defArgs s_write_rule) (defBody s_write_rule) (defScope s_write_rule) .none kV_write_rule dc_write_rule pm_write_rule an_write_rule cd_write_rule ct_write_rule), sl_write_rule⟩)
    (c_write_rule : PySem.W.codeIn K cd_write_rule "write_rule" = true)
    (k_write_rule : PySem.W.keepIn K (.ref f_write_rule) = true)
    (a_read_counts : PySem.W.nsIn K mainGlobals "_read_counts" = some (some (.ref f_read_counts)))
    (l_read_counts : K.lookup f_read_counts = some ⟨oc_read_counts, od_read_counts, .func (PySem.W.fnOf "_read_counts" "_read_counts" (defArgs s_read_counts) (defBody s_read_counts) (defScope s_read_counts) .none kV_read_counts dc_read_counts pm_read_counts an_read_counts cd_read_counts ct_read_counts), sl_read_counts⟩)
    (c_read_counts : PySem.W.codeIn K cd_read_counts "_read_counts" = true)
    (k_read_counts : PySem.W.keepIn K (.ref f_read_counts) = true)
    (a_read_rule : PySem.W.nsIn K mainGlobals "read_rule" = some (some (.ref f_read_rule)))
    (l_read_rule : K.lookup f_read_rule = some ⟨oc_read_rule, od_read_rule, .func (PySem.W.fnOf "read_rule" "read_rule" (defArgs s_read_rule) (defBody s_read_rule) (defScope s_read_rule) .none kV_read_rule dc_read_rule pm_read_rule an_read_rule cd_read_rule ct_read_rule), sl_read_rule⟩)
    (c_read_rule : PySem.W.codeIn K cd_read_rule "read_rule" = true)
    (k_read_rule : PySem.W.keepIn K (.ref f_read_rule) = true)
    (a_law_taken : PySem.W.nsIn K mainGlobals "_law_taken" = some (some (.ref f_law_taken)))
    (l_law_taken : K.lookup f_law_taken = some ⟨oc_law_taken, od_law_taken, .func (PySem.W.fnOf "_law_taken" "_law_taken" (defArgs s_law_taken) (defBody s_law_taken) (defScope s_law_taken) .none kV_law_taken dc_law_taken pm_law_taken an_law_taken cd_law_taken ct_law_taken), sl_law_taken⟩)
    (c_law_taken : PySem.W.codeIn K cd_law_taken "_law_taken" = true)
    (k_law_taken : PySem.W.keepIn K (.ref f_law_taken) = true)
    (a_law_pick : PySem.W.nsIn K mainGlobals "_law_pick" = some (some (.ref f_law_pick)))
    (l_law_pick : K.lookup f_law_pick = some ⟨oc_law_pick, od_law_pick, .func (PySem.W.fnOf "_law_pick" "_law_pick" (defArgs s_law_pick) (defBody s_law_pick) (defScope s_law_pick) .none kV_law_pick dc_law_pick pm_law_pick an_law_pick cd_law_pick ct_law_pick), sl_law_pick⟩)
    (c_law_pick : PySem.W.codeIn K cd_law_pick "_law_pick" = true)
    (k_law_pick : PySem.W.keepIn K (.ref f_law_pick) = true)
    (a_law_some_rule : PySem.W.nsIn K mainGlobals "_law_some_rule" = some (some (.ref f_law_some_rule)))
    (l_law_some_rule : K.lookup f_law_some_rule = some ⟨oc_law_some_rule, od_law_some_rule, .func (PySem.W.fnOf "_law_some_rule" "_law_some_rule" (defArgs s_law_some_rule) (defBody s_law_some_rule) (defScope s_law_some_rule) .none kV_law_some_rule dc_law_some_rule pm_law_some_rule an_law_some_rule cd_law_some_rule ct_law_some_rule), sl_law_some_rule⟩)
    (c_law_some_rule : PySem.W.codeIn K cd_law_some_rule "_law_some_rule" = true)
    (k_law_some_rule : PySem.W.keepIn K (.ref f_law_some_rule) = true)
    (a_law_rule_text : PySem.W.nsIn K mainGlobals "_law_rule_text" = some (some (.ref f_law_rule_text)))
    (l_law_rule_text : K.lookup f_law_rule_text = some ⟨oc_law_rule_text, od_law_rule_text, .func (PySem.W.fnOf "_law_rule_text" "_law_rule_text" (defArgs s_law_rule_text) (defBody s_law_rule_text) (defScope s_law_rule_text) .none kV_law_rule_text dc_law_rule_text pm_law_rule_text an_law_rule_text cd_law_rule_text ct_law_rule_text), sl_law_rule_text⟩)
    (c_law_rule_text : PySem.W.codeIn K cd_law_rule_text "_law_rule_text" = true)
    (k_law_rule_text : PySem.W.keepIn K (.ref f_law_rule_text) = true)
    (a_law_alike : PySem.W.nsIn K mainGlobals "_law_alike" = some (some (.ref f_law_alike)))
    (l_law_alike : K.lookup f_law_alike = some ⟨oc_law_alike, od_law_alike, .func (PySem.W.fnOf "_law_alike" "_law_alike" (defArgs s_law_alike) (defBody s_law_alike) (defScope s_law_alike) .none kV_law_alike dc_law_alike pm_law_alike an_law_alike cd_law_alike ct_law_alike), sl_law_alike⟩)
    (c_law_alike : PySem.W.codeIn K cd_law_alike "_law_alike" = true)
    (k_law_alike : PySem.W.keepIn K (.ref f_law_alike) = true)
    (a_law_counts_due : PySem.W.nsIn K mainGlobals "_law_counts_due" = some (some (.ref f_law_counts_due)))
    (l_law_counts_due : K.lookup f_law_counts_due = some ⟨oc_law_counts_due, od_law_counts_due, .func (PySem.W.fnOf "_law_counts_due" "_law_counts_due" (defArgs s_law_counts_due) (defBody s_law_counts_due) (defScope s_law_counts_due) .none kV_law_counts_due dc_law_counts_due pm_law_counts_due an_law_counts_due cd_law_counts_due ct_law_counts_due), sl_law_counts_due⟩)
    (c_law_counts_due : PySem.W.codeIn K cd_law_counts_due "_law_counts_due" = true)
    (k_law_counts_due : PySem.W.keepIn K (.ref f_law_counts_due) = true)
    (a_law_rule_due : PySem.W.nsIn K mainGlobals "_law_rule_due" = some (some (.ref f_law_rule_due)))
    (l_law_rule_due : K.lookup f_law_rule_due = some ⟨oc_law_rule_due, od_law_rule_due, .func (PySem.W.fnOf "_law_rule_due" "_law_rule_due" (defArgs s_law_rule_due) (defBody s_law_rule_due) (defScope s_law_rule_due) .none kV_law_rule_due dc_law_rule_due pm_law_rule_due an_law_rule_due cd_law_rule_due ct_law_rule_due), sl_law_rule_due⟩)
    (c_law_rule_due : PySem.W.codeIn K cd_law_rule_due "_law_rule_due" = true)
    (k_law_rule_due : PySem.W.keepIn K (.ref f_law_rule_due) = true)
    (a_law : PySem.W.nsIn K mainGlobals "law" = some (some (.ref f_law)))
    (l_law : K.lookup f_law = some ⟨oc_law, od_law, .func (PySem.W.fnOf "law" "law" (defArgs s_law) (defBody s_law) (defScope s_law) .none kV_law dc_law pm_law an_law cd_law ct_law), sl_law⟩)
    (c_law : PySem.W.codeIn K cd_law "law" = true)
    (k_law : PySem.W.keepIn K (.ref f_law) = true) :
    ∃ fd : FuncData, (∀ (s : Shared) (v : Value), BindsTo s fd ⟨[v], []⟩ [("script", v)]) ∧ ∀ base : Heap, K.In base → base.Ns mainGlobals mg → FnOk l.prog w K mg base (L2.CX l.prog w) 6 fa fd ["script"] (spD K 1 R_law) := by
  have e := hfa.symm.trans (PySem.W.mg_of X G a_law)
  cases e
  have g_WordReader := PySem.W.mg_of X G a_WordReader
  have cl_WordReader : Cls K C_WordReader := ⟨pg_WordReader, hd_WordReader, po_WordReader, sa_WordReader⟩
  have m_isinstance := PySem.W.mg_none_of X G z_isinstance
  have m_int := PySem.W.mg_none_of X G z_int
  have m_bool := PySem.W.mg_none_of X G z_bool
  have m_str := PySem.W.mg_none_of X G z_str
  have m_len := PySem.W.mg_none_of X G z_len
  have m_tuple := PySem.W.mg_none_of X G z_tuple
  have g_NONE : ∃ u, mg "NONE" = some u ∧ RelV (.str "none") u := ⟨_, PySem.W.mg_of X G z_NONE, _, rfl⟩
  have g_FIGURES : ∃ u, mg "FIGURES" = some u ∧ RelV (.ref C_FIGURES) u := ⟨_, PySem.W.mg_of X G z_FIGURES, rfl⟩
  have d_FIGURES : ∀ G, Dz K G (.ref C_FIGURES) (.tuple [.str "0", .str "1", .str "2", .str "3", .str "4", .str "5", .str "6", .str "7", .str "8"]) := fun G => .tup (vs := [.str "0", .str "1", .str "2", .str "3", .str "4", .str "5", .str "6", .str "7", .str "8"]) (.inr ⟨.inr ⟨_, _, _, lk_FIGURES, rfl, rfl, by rw [sizeLine_eq]; exact Nat.le_of_ble_eq_true rfl, by repeat (first | exact .nil | refine .cons ⟨_, rfl⟩ ?_)⟩, _, _, rfl⟩) (by repeat (first | exact .nil | refine .cons (.str _) ?_ | refine .cons (.int _) ?_))
  have m_range := PySem.W.mg_none_of X G z_range
  have m_list := PySem.W.mg_none_of X G z_list
  have m_min := PySem.W.mg_none_of X G z_min
  have gx_NotText := PySem.W.mg_of X G a_NotText
  have gx_InvalidText := PySem.W.mg_of X G a_InvalidText
  have gx_BoardError := PySem.W.mg_of X G a_BoardError
  have r_NotText : Rsr K mg "NotText" C_NotText := ⟨x_NotText, gx_NotText, kC_NotText, exC_NotText, tyC_NotText⟩
  have r_InvalidText : PySem.SupX.SupTxt l.prog K mg "InvalidText" "InvalidText.__init__" "place" "the text goes wrong at " C_InvalidText fI_InvalidText := { nm := ⟨by decide +kernel, by decide +kernel, by decide +kernel, by decide +kernel, fun _ _ => rfl, fun _ _ => rfl, by decide +kernel, by decide +kernel, fun _ _ _ _ _ _ _ _ _ _ _ _ _ _ => rfl⟩, gC := gx_InvalidText, cls := ⟨_, _, _, _, _, _, _, _, _, _, _, _, _, _, _, cls_InvalidText, bm_InvalidText⟩, q := q_InvalidText, sa := sa_InvalidText, noN := noN_InvalidText, iC := iC_InvalidText, tC := tC_InvalidText, kC := kC_InvalidText, exC := exC_InvalidText, veC := veC_InvalidText, tyC := tyC_InvalidText, hdC := hdC_InvalidText, ms := ms_InvalidText, si := si_InvalidText, op := op_super, su := su_super, fn := ⟨_, _, _, _, _, _, _, _, _, _, _, _, _, l_InvalidText, c_InvalidText, ⟨_, _, _, _, _, _, cf_InvalidText, vf_InvalidText, fe_InvalidText⟩, ⟨_, _, _, cc_InvalidText_⟩, ev_InvalidText⟩, top := tp_InvalidText, pz := by decide +kernel }
  have h_exm := PySem.W.exm_ref exC_BoardError hdC_BoardError tyC_BoardError sx1
  have h_exc := (⟨ga1, gt1, exC_InvalidText, hdC_InvalidText, ca1, cn1, ct1, cm1⟩ : ExcC K C_InvalidText)
  have h_xf := (⟨ga1, gt1, exC_InvalidText, hdC_InvalidText⟩ : XfC K C_InvalidText)
  have h_no := noN_InvalidText
  have F_is_between := fun_mk (st := s_is_between) l_is_between c_is_between k_is_between
  have b_is_between := F_is_between.binds (ps := ["value", "low", "high"]) fun _ _ _ _ _ _ us hl => match us, hl with | [_, _, _], _ => rfl
  have F_check_text := fun_mk (st := s_check_text) l_check_text c_check_text k_check_text
  have b_check_text := F_check_text.binds (ps := ["value"]) fun _ _ _ _ _ _ us hl => match us, hl with | [_], _ => rfl
  have F_WordReader_init := fun_mk (st := s_WordReader_init) l_WordReader_init c_WordReader_init k_WordReader_init
  have b_WordReader_init := F_WordReader_init.binds (ps := ["self", "text"]) fun _ _ _ _ _ _ us hl => match us, hl with | [_, _], _ => rfl
  have F_WordReader_take := fun_mk (st := s_WordReader_take) l_WordReader_take c_WordReader_take k_WordReader_take
  have b_WordReader_take := F_WordReader_take.binds (ps := ["self", "allowed"]) fun _ _ _ _ _ _ us hl => match us, hl with | [_, _], _ => rfl
  have F_WordReader_end := fun_mk (st := s_WordReader_end) l_WordReader_end c_WordReader_end k_WordReader_end
  have b_WordReader_end := F_WordReader_end.binds (ps := ["self"]) fun _ _ _ _ _ _ us hl => match us, hl with | [_], _ => rfl
  have F_are_counts := fun_mk (st := s_are_counts) l_are_counts c_are_counts k_are_counts
  have b_are_counts := F_are_counts.binds (ps := ["value", "least"]) fun _ _ _ _ _ _ us hl => match us, hl with | [_, _], _ => rfl
  have F_is_rule := fun_mk (st := s_is_rule) l_is_rule c_is_rule k_is_rule
  have b_is_rule := F_is_rule.binds (ps := ["value"]) fun _ _ _ _ _ _ us hl => match us, hl with | [_], _ => rfl
  have F_check_rule := fun_mk (st := s_check_rule) l_check_rule c_check_rule k_check_rule
  have b_check_rule := F_check_rule.binds (ps := ["rule"]) fun _ _ _ _ _ _ us hl => match us, hl with | [_], _ => rfl
  have F_write_counts := fun_mk (st := s_write_counts) l_write_counts c_write_counts k_write_counts
  have b_write_counts := F_write_counts.binds (ps := ["counts"]) fun _ _ _ _ _ _ us hl => match us, hl with | [_], _ => rfl
  have F_write_rule := fun_mk (st := s_write_rule) l_write_rule c_write_rule k_write_rule
  have b_write_rule := F_write_rule.binds (ps := ["rule"]) fun _ _ _ _ _ _ us hl => match us, hl with | [_], _ => rfl
  have F_read_counts := fun_mk (st := s_read_counts) l_read_counts c_read_counts k_read_counts
  have b_read_counts := F_read_counts.binds (ps := ["reader", "least", "behind"]) fun _ _ _ _ _ _ us hl => match us, hl with | [_, _, _], _ => rfl
  have F_read_rule := fun_mk (st := s_read_rule) l_read_rule c_read_rule k_read_rule
  have b_read_rule := F_read_rule.binds (ps := ["text"]) fun _ _ _ _ _ _ us hl => match us, hl with | [_], _ => rfl
  have F_law_taken := fun_mk (st := s_law_taken) l_law_taken c_law_taken k_law_taken
  have b_law_taken := F_law_taken.binds (ps := ["row", "many"]) fun _ _ _ _ _ _ us hl => match us, hl with | [_, _], _ => rfl
  have F_law_pick := fun_mk (st := s_law_pick) l_law_pick c_law_pick k_law_pick
  have b_law_pick := F_law_pick.binds (ps := ["row", "things"]) fun _ _ _ _ _ _ us hl => match us, hl with | [_, _], _ => rfl
  have F_law_some_rule := fun_mk (st := s_law_some_rule) l_law_some_rule c_law_some_rule k_law_some_rule
  have b_law_some_rule := F_law_some_rule.binds (ps := ["row"]) fun _ _ _ _ _ _ us hl => match us, hl with | [_], _ => rfl
  have F_law_rule_text := fun_mk (st := s_law_rule_text) l_law_rule_text c_law_rule_text k_law_rule_text
  have b_law_rule_text := F_law_rule_text.binds (ps := ["rule"]) fun _ _ _ _ _ _ us hl => match us, hl with | [_], _ => rfl
  have F_law_alike := fun_mk (st := s_law_alike) l_law_alike c_law_alike k_law_alike
  have b_law_alike := F_law_alike.binds (ps := ["found", "due"]) fun _ _ _ _ _ _ us hl => match us, hl with | [_, _], _ => rfl
  have F_law_counts_due := fun_mk (st := s_law_counts_due) l_law_counts_due c_law_counts_due k_law_counts_due
  have b_law_counts_due := F_law_counts_due.binds (ps := ["words", "spot", "least", "end"]) fun _ _ _ _ _ _ us hl => match us, hl with | [_, _, _, _], _ => rfl
  have F_law_rule_due := fun_mk (st := s_law_rule_due) l_law_rule_due c_law_rule_due k_law_rule_due
  have b_law_rule_due := F_law_rule_due.binds (ps := ["text"]) fun _ _ _ _ _ _ us hl => match us, hl with | [_], _ => rfl
  have F_law := fun_mk (st := s_law) l_law c_law k_law
  refine ⟨PySem.W.fnOf "law" "law" (defArgs s_law) (defBody s_law) (defScope s_law) .none kV_law dc_law pm_law an_law cd_law ct_law, fun s v => .of_eq rfl, fun base _ _ => ?_⟩
  have c_is_between : Cal l.prog w K mg base 1 "is_between" (spD K 3 R_between) := ⟨_, _, _, ok_is_between F_is_between (m_isinstance := m_isinstance) (m_int := m_int) (m_bool := m_bool), PySem.W.mg_of X G a_is_between, k_is_between, b_is_between⟩
  have c_check_text : Cal l.prog w K mg base 1 "check_text" (spD K 1 (R_text C_NotText)) := ⟨_, _, _, ok_check_text F_check_text (m_isinstance := m_isinstance) (m_str := m_str) (r_NotText := r_NotText), PySem.W.mg_of X G a_check_text, k_check_text, b_check_text⟩
  have c_WordReader_init : Mkr l.prog w K mg base 1 "WordReader" C_WordReader (spO K C_WordReader 1 R_init) := ⟨_, _, _, ok_WordReader_init F_WordReader_init (na_WordReader_words := na_WordReader_words) (na_WordReader_taken := na_WordReader_taken) (na_WordReader_place := na_WordReader_place) (na_WordReader_length := na_WordReader_length) (m_len := m_len) (cl_WordReader := cl_WordReader), ⟨mk_WordReader, a_WordReader_init, i_WordReader_init, kc_WordReader⟩, g_WordReader, b_WordReader_init⟩
  have c_WordReader_take : Mtd l.prog w K mg base 1 C_WordReader "take" (spO K C_WordReader 1 (R_take C_InvalidText)) := ⟨_, _, _, ok_WordReader_take F_WordReader_take (na_WordReader_taken := na_WordReader_taken) (m_len := m_len) (na_WordReader_words := na_WordReader_words) (r_InvalidText := r_InvalidText) (na_WordReader_length := na_WordReader_length) (na_WordReader_place := na_WordReader_place) (cl_WordReader := cl_WordReader), ⟨a_WordReader_take, i_WordReader_take, k_WordReader_take⟩, b_WordReader_take⟩
  have c_WordReader_end : Mtd l.prog w K mg base 1 C_WordReader "end" (spO K C_WordReader 0 (R_end C_InvalidText)) := ⟨_, _, _, ok_WordReader_end F_WordReader_end (na_WordReader_taken := na_WordReader_taken) (m_len := m_len) (na_WordReader_words := na_WordReader_words) (r_InvalidText := r_InvalidText) (na_WordReader_place := na_WordReader_place) (cl_WordReader := cl_WordReader), ⟨a_WordReader_end, i_WordReader_end, k_WordReader_end⟩, b_WordReader_end⟩
  have c__are_counts : Cal l.prog w K mg base 2 "_are_counts" (spD K 2 R_counts) := ⟨_, _, _, ok_are_counts F_are_counts (m_isinstance := m_isinstance) (m_tuple := m_tuple) (c_is_between := c_is_between), PySem.W.mg_of X G a_are_counts, k_are_counts, b_are_counts⟩
  have c__is_rule : Cal l.prog w K mg base 3 "_is_rule" (spD K 1 R_isRule) := ⟨_, _, _, ok_is_rule F_is_rule (m_len := m_len) (m_isinstance := m_isinstance) (m_tuple := m_tuple) (c_is_between := c_is_between) (c__are_counts := c__are_counts), PySem.W.mg_of X G a_is_rule, k_is_rule, b_is_rule⟩
  have c_check_rule : Cal l.prog w K mg base 4 "check_rule" (spD K 1 R_checkRule) := ⟨_, _, _, ok_check_rule F_check_rule (c__is_rule := c__is_rule), PySem.W.mg_of X G a_check_rule, k_check_rule, b_check_rule⟩
  have c__write_counts : Cal l.prog w K mg base 1 "_write_counts" (spD K 1 R_wc) := ⟨_, _, _, ok_write_counts F_write_counts (g_NONE := g_NONE) (m_str := m_str), PySem.W.mg_of X G a_write_counts, k_write_counts, b_write_counts⟩
  have c_write_rule : Cal l.prog w K mg base 5 "write_rule" (spD K 1 R_wr) := ⟨_, _, _, ok_write_rule F_write_rule (c_check_rule := c_check_rule) (c__write_counts := c__write_counts), PySem.W.mg_of X G a_write_rule, k_write_rule, b_write_rule⟩
  have c__read_counts : Cal l.prog w K mg base 2 "_read_counts" (spO K C_WordReader 2 (R_rc C_InvalidText)) := ⟨_, _, _, ok_read_counts F_read_counts (g_NONE := g_NONE) (g_FIGURES := g_FIGURES) (d_FIGURES := d_FIGURES) (m_int := m_int) (m_tuple := m_tuple) (c_WordReader_take := c_WordReader_take) (cl_WordReader := cl_WordReader), PySem.W.mg_of X G a_read_counts, k_read_counts, b_read_counts⟩
  have c_read_rule : Cal l.prog w K mg base 3 "read_rule" (spD K 1 (R_read C_InvalidText)) := ⟨_, _, _, ok_read_rule F_read_rule (m_int := m_int) (g_FIGURES := g_FIGURES) (d_FIGURES := d_FIGURES) (c_check_text := c_check_text) (c_WordReader_init := c_WordReader_init) (c_WordReader_take := c_WordReader_take) (c__read_counts := c__read_counts) (c_WordReader_end := c_WordReader_end) (cl_WordReader := cl_WordReader), PySem.W.mg_of X G a_read_rule, k_read_rule, b_read_rule⟩
  have c__law_taken : Cal l.prog w K mg base 1 "_law_taken" (spC K 1 R_taken) := ⟨_, _, _, ok_law_taken F_law_taken (m_int := m_int) (m_len := m_len), PySem.W.mg_of X G a_law_taken, k_law_taken, b_law_taken⟩
  have c__law_pick : Cal l.prog w K mg base 2 "_law_pick" (spC K 1 R_pick) := ⟨_, _, _, ok_law_pick F_law_pick (m_len := m_len) (c__law_taken := c__law_taken), PySem.W.mg_of X G a_law_pick, k_law_pick, b_law_pick⟩
  have c__law_some_rule : Cal l.prog w K mg base 3 "_law_some_rule" (spC K 0 R_some) := ⟨_, _, _, ok_law_some_rule F_law_some_rule (m_tuple := m_tuple) (m_range := m_range) (c__law_taken := c__law_taken) (c__law_pick := c__law_pick), PySem.W.mg_of X G a_law_some_rule, k_law_some_rule, b_law_some_rule⟩
  have c__law_rule_text : Cal l.prog w K mg base 1 "_law_rule_text" (spD K 1 R_rtext) := ⟨_, _, _, ok_law_rule_text F_law_rule_text (m_str := m_str), PySem.W.mg_of X G a_law_rule_text, k_law_rule_text, b_law_rule_text⟩
  have z0_law_alike : Cal l.prog w K mg base 1 "_law_alike" (spD K 2 (R_alike 0)) := ⟨_, _, _, alike_vac F_law_alike, PySem.W.mg_of X G a_law_alike, k_law_alike, b_law_alike⟩
  have z1_law_alike : Cal l.prog w K mg base 2 "_law_alike" (spD K 2 (R_alike 1)) := ⟨_, _, _, ok_law_alike (j := 1) (n := 0) F_law_alike (m_isinstance := m_isinstance) (m_list := m_list) (m_tuple := m_tuple) (m_len := m_len) (m_range := m_range) (m_str := m_str) (m_bool := m_bool) (m_int := m_int) (c__law_alike := z0_law_alike), PySem.W.mg_of X G a_law_alike, k_law_alike, b_law_alike⟩
  have z2_law_alike : Cal l.prog w K mg base 3 "_law_alike" (spD K 2 (R_alike 2)) := ⟨_, _, _, ok_law_alike (j := 2) (n := 1) F_law_alike (m_isinstance := m_isinstance) (m_list := m_list) (m_tuple := m_tuple) (m_len := m_len) (m_range := m_range) (m_str := m_str) (m_bool := m_bool) (m_int := m_int) (c__law_alike := z1_law_alike), PySem.W.mg_of X G a_law_alike, k_law_alike, b_law_alike⟩
  have z3_law_alike : Cal l.prog w K mg base 4 "_law_alike" (spD K 2 (R_alike 3)) := ⟨_, _, _, ok_law_alike (j := 3) (n := 2) F_law_alike (m_isinstance := m_isinstance) (m_list := m_list) (m_tuple := m_tuple) (m_len := m_len) (m_range := m_range) (m_str := m_str) (m_bool := m_bool) (m_int := m_int) (c__law_alike := z2_law_alike), PySem.W.mg_of X G a_law_alike, k_law_alike, b_law_alike⟩
  have z4_law_alike : Cal l.prog w K mg base 5 "_law_alike" (spD K 2 (R_alike 4)) := ⟨_, _, _, ok_law_alike (j := 4) (n := 3) F_law_alike (m_isinstance := m_isinstance) (m_list := m_list) (m_tuple := m_tuple) (m_len := m_len) (m_range := m_range) (m_str := m_str) (m_bool := m_bool) (m_int := m_int) (c__law_alike := z3_law_alike), PySem.W.mg_of X G a_law_alike, k_law_alike, b_law_alike⟩
  have c__law_alike := z4_law_alike
  have c__law_counts_due : Cal l.prog w K mg base 1 "_law_counts_due" (spD K 4 R_cdue) := ⟨_, _, _, ok_law_counts_due F_law_counts_due (m_len := m_len) (m_int := m_int), PySem.W.mg_of X G a_law_counts_due, k_law_counts_due, b_law_counts_due⟩
  have c__law_rule_due : Cal l.prog w K mg base 2 "_law_rule_due" (spD K 1 R_rdue) := ⟨_, _, _, ok_law_rule_due F_law_rule_due (m_len := m_len) (m_min := m_min) (m_int := m_int) (c__law_counts_due := c__law_counts_due), PySem.W.mg_of X G a_law_rule_due, k_law_rule_due, b_law_rule_due⟩
  exact ok_law F_law (m_range := m_range) (m_len := m_len) (gx_BoardError := gx_BoardError) (m_isinstance := m_isinstance) (gx_InvalidText := gx_InvalidText) (c__law_some_rule := c__law_some_rule) (c__law_rule_text := c__law_rule_text) (c__law_alike := c__law_alike) (c_read_rule := c_read_rule) (c_write_rule := c_write_rule) (c__law_pick := c__law_pick) (c__law_taken := c__law_taken) (c__law_rule_due := c__law_rule_due) (h_exm := h_exm) (h_exc := h_exc) (h_xf := h_xf) (h_no := h_no)
theorem dpa_ints {K : Fg} {G : Hp} : ∀ ns : List Int, DzAll K G (ns.map V.int) (ns.map PyData.int)
  | [] => .nil
  | n :: ns => .cons (Dz.int n) (dpa_ints ns)
theorem walk {l : PySem.W.OpenLaw} {q : Program} {loose : List Str} {XP : (Str → Option Value) → Heap → Prop} {YP : World → Heap → Prop} {d : DefRec} {K : Params → PySem.W.Frag} (hn : l.most = some 63) (hdf : d.params.defaults = [])
    (hY : ∀ (w : World) (h : Heap), YP w h → (K w.params).In h)
    (F : ∀ (w : World) (mg : Str → Option Value) (fa : Addr) (h : Heap), (K w.params).In h → h.Ns mainGlobals mg → mg d.name = some (.ref fa) →
      ∃ fd : FuncData, (∀ (s : Shared) (u : Value), BindsTo s fd ⟨[u], []⟩ [("script", u)]) ∧ ∀ base : Heap, (K w.params).In base → base.Ns mainGlobals mg → FnOk l.prog w (K w.params) mg base (L2.CX l.prog w) 6 fa fd ["script"] (spD (K w.params) 1 R_law)) :
    PySem.W.WalkO q loose XP YP l.row.toRowW d [] (fun f vs => PySem.call f vs) :=
  L2.walk_of (n := 63) (k := 6) (x := "script") (CX := fun w => L2.CX l.prog w) (sp := fun w => spD (K w.params) 1 R_law) hn (by decide) hdf ⟨rfl, by decide, by decide⟩ hY F
    (fun w H a ns hl _ hS => ⟨H, [.list (ns.map .int)], .ok (.bool true), fun _ _ z => z, rfl, .cons (.lst hS (dpa_ints ns)) .nil, ⟨ns, rfl, rfl⟩, fun d hd v G' H' _ av => by cases hd; exact dp_bl av, fun x hx => (nomatch hx)⟩)
    fun w H s e s' z => by obtain ⟨_, _, _, _, _, _, _, _, _, _, _, _, z⟩ := z; exact z
end K00
open PySem PySem.W PyProof.Rows in
set_option maxRecDepth 100000 in
set_option maxHeartbeats 0 in
theorem PySem.Challenge.cw_fateboards_k00_whole_rules_as_text_holds : PySem.Challenge.rw_fateboards_k00_whole_rules_as_text.Holds := by
  w_on; o_law; k_head; (case hw => w_witness2)
  k_fill
  refine K00.walk (l := PySem.Challenge.rw_fateboards_k00_whole_rules_as_text) rfl rfl (fun w h Y => PySem.W.kIn_of Y) ?F
  case F =>
    intro w mg fa h KX G hmg
    refine' K00.all_mk KX G hmg ?a_WordReader ?pg_WordReader ?hd_WordReader ?po_WordReader ?sa_WordReader ?mk_WordReader ?kc_WordReader ?z_isinstance ?z_int ?z_bool ?z_str ?na_WordReader_words ?na_WordReader_taken ?na_WordReader_place ?na_WordReader_length ?z_len ?z_tuple ?z_NONE ?z_FIGURES ?lk_FIGURES ?z_range ?z_list ?z_min ?a_NotText ?kC_NotText ?exC_NotText ?tyC_NotText ?hdC_NotText ?a_InvalidText ?kC_InvalidText ?exC_InvalidText ?tyC_InvalidText ?hdC_InvalidText ?a_BoardError ?kC_BoardError ?exC_BoardError ?tyC_BoardError ?hdC_BoardError ?q_InvalidText ?cls_InvalidText ?bm_InvalidText ?sa_InvalidText ?noN_InvalidText ?iC_InvalidText ?tC_InvalidText ?veC_InvalidText ?ms_InvalidText ?si_InvalidText ?op_super ?su_super ?x_NotText ?l_InvalidText ?c_InvalidText ?cf_InvalidText ?vf_InvalidText ?fe_InvalidText ?cc_InvalidText_ ?ev_InvalidText ?tp_InvalidText ?sx1 ?ga1 ?gt1 ?ca1 ?cn1 ?ct1 ?cm1 ?a_is_between ?l_is_between ?c_is_between ?k_is_between ?a_check_text ?l_check_text ?c_check_text ?k_check_text ?a_WordReader_init ?i_WordReader_init ?l_WordReader_init ?c_WordReader_init ?k_WordReader_init ?a_WordReader_take ?i_WordReader_take ?l_WordReader_take ?c_WordReader_take ?k_WordReader_take ?a_WordReader_end ?i_WordReader_end ?l_WordReader_end ?c_WordReader_end ?k_WordReader_end ?a_are_counts ?l_are_counts ?c_are_counts ?k_are_counts ?a_is_rule ?l_is_rule ?c_is_rule ?k_is_rule ?a_check_rule ?l_check_rule ?c_check_rule ?k_check_rule ?a_write_counts ?l_write_counts ?c_write_counts ?k_write_counts ?a_write_rule ?l_write_rule ?c_write_rule ?k_write_rule ?a_read_counts ?l_read_counts ?c_read_counts ?k_read_counts ?a_read_rule ?l_read_rule ?c_read_rule ?k_read_rule ?a_law_taken ?l_law_taken ?c_law_taken ?k_law_taken ?a_law_pick ?l_law_pick ?c_law_pick ?k_law_pick ?a_law_some_rule ?l_law_some_rule ?c_law_some_rule ?k_law_some_rule ?a_law_rule_text ?l_law_rule_text ?c_law_rule_text ?k_law_rule_text ?a_law_alike ?l_law_alike ?c_law_alike ?k_law_alike ?a_law_counts_due ?l_law_counts_due ?c_law_counts_due ?k_law_counts_due ?a_law_rule_due ?l_law_rule_due ?c_law_rule_due ?k_law_rule_due ?a_law ?l_law ?c_law ?k_law
    (case a_WordReader => k_is)
    (case pg_WordReader => k_is)
    (case hd_WordReader => k_is)
    (case po_WordReader => k_is)
    (case sa_WordReader => k_is)
    (case mk_WordReader => k_is)
    (case kc_WordReader => k_is)
    (case z_isinstance => k_is)
    (case z_int => k_is)
    (case z_bool => k_is)
    (case z_str => k_is)
    (case na_WordReader_words => k_is)
    (case na_WordReader_taken => k_is)
    (case na_WordReader_place => k_is)
    (case na_WordReader_length => k_is)
    (case z_len => k_is)
    (case z_tuple => k_is)
    (case z_NONE => k_is)
    (case z_FIGURES => k_is)
    (case lk_FIGURES => k_is)
    (case z_range => k_is)
    (case z_list => k_is)
    (case z_min => k_is)
    (case a_NotText => k_is)
    (case kC_NotText => k_is)
    (case exC_NotText => k_is)
    (case tyC_NotText => k_is)
    (case hdC_NotText => k_is)
    (case a_InvalidText => k_is)
    (case kC_InvalidText => k_is)
    (case exC_InvalidText => k_is)
    (case tyC_InvalidText => k_is)
    (case hdC_InvalidText => k_is)
    (case a_BoardError => k_is)
    (case kC_BoardError => k_is)
    (case exC_BoardError => k_is)
    (case tyC_BoardError => k_is)
    (case hdC_BoardError => k_is)
    (case q_InvalidText => first | kx_is | k_is)
    (case cls_InvalidText => k_is)
    (case bm_InvalidText => first | rfl | decide +kernel | k_is)
    (case sa_InvalidText => k_is)
    (case noN_InvalidText => k_is)
    (case iC_InvalidText => k_is)
    (case tC_InvalidText => k_is)
    (case veC_InvalidText => k_is)
    (case ms_InvalidText => k_is)
    (case si_InvalidText => first | ks_is | k_is)
    (case op_super => k_is)
    (case su_super => k_is)
    (case x_NotText => first | k_exc | kx_is)
    (case l_InvalidText => k_is)
    (case c_InvalidText => k_is)
    (case cf_InvalidText => k_is)
    (case vf_InvalidText => first | rfl | decide +kernel | k_is)
    (case fe_InvalidText => first | rfl | decide +kernel | k_is)
    (case cc_InvalidText_ => k_is)
    (case ev_InvalidText => exact ⟨_, fun env => rfl⟩)
    (case tp_InvalidText => first | rfl | decide +kernel | k_is)
    (case sx1 => k_is)
    (case ga1 => k_is)
    (case gt1 => k_is)
    (case ca1 => k_is)
    (case cn1 => k_is)
    (case ct1 => k_is)
    (case cm1 => k_is)
    (case a_is_between => k_is)
    (case l_is_between => k_is)
    (case c_is_between => k_is)
    (case k_is_between => k_is)
    (case a_check_text => k_is)
    (case l_check_text => k_is)
    (case c_check_text => k_is)
    (case k_check_text => k_is)
    (case a_WordReader_init => k_is)
    (case i_WordReader_init => k_is)
    (case l_WordReader_init => k_is)
    (case c_WordReader_init => k_is)
    (case k_WordReader_init => k_is)
    (case a_WordReader_take => k_is)
    (case i_WordReader_take => k_is)
    (case l_WordReader_take => k_is)
    (case c_WordReader_take => k_is)
    (case k_WordReader_take => k_is)
    (case a_WordReader_end => k_is)
    (case i_WordReader_end => k_is)
    (case l_WordReader_end => k_is)
    (case c_WordReader_end => k_is)
    (case k_WordReader_end => k_is)
    (case a_are_counts => k_is)
    (case l_are_counts => k_is)
    (case c_are_counts => k_is)
    (case k_are_counts => k_is)
    (case a_is_rule => k_is)
    (case l_is_rule => k_is)
    (case c_is_rule => k_is)
    (case k_is_rule => k_is)
    (case a_check_rule => k_is)
    (case l_check_rule => k_is)
    (case c_check_rule => k_is)
    (case k_check_rule => k_is)
    (case a_write_counts => k_is)
    (case l_write_counts => k_is)
    (case c_write_counts => k_is)
    (case k_write_counts => k_is)
    (case a_write_rule => k_is)
    (case l_write_rule => k_is)
    (case c_write_rule => k_is)
    (case k_write_rule => k_is)
    (case a_read_counts => k_is)
    (case l_read_counts => k_is)
    (case c_read_counts => k_is)
    (case k_read_counts => k_is)
    (case a_read_rule => k_is)
    (case l_read_rule => k_is)
    (case c_read_rule => k_is)
    (case k_read_rule => k_is)
    (case a_law_taken => k_is)
    (case l_law_taken => k_is)
    (case c_law_taken => k_is)
    (case k_law_taken => k_is)
    (case a_law_pick => k_is)
    (case l_law_pick => k_is)
    (case c_law_pick => k_is)
    (case k_law_pick => k_is)
    (case a_law_some_rule => k_is)
    (case l_law_some_rule => k_is)
    (case c_law_some_rule => k_is)
    (case k_law_some_rule => k_is)
    (case a_law_rule_text => k_is)
    (case l_law_rule_text => k_is)
    (case c_law_rule_text => k_is)
    (case k_law_rule_text => k_is)
    (case a_law_alike => k_is)
    (case l_law_alike => k_is)
    (case c_law_alike => k_is)
    (case k_law_alike => k_is)
    (case a_law_counts_due => k_is)
    (case l_law_counts_due => k_is)
    (case c_law_counts_due => k_is)
    (case k_law_counts_due => k_is)
    (case a_law_rule_due => k_is)
    (case l_law_rule_due => k_is)
    (case c_law_rule_due => k_is)
    (case k_law_rule_due => k_is)
    (case a_law => k_is)
    (case l_law => k_is)
    (case c_law => k_is)
    (case k_law => k_is)
