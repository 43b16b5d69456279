import PyProof.Rows.All
import Wide.All
import OpenK.AllK
import Wide.FinOn
import HandS.ForMost
import HandS.Deep
import HandS.Evl
import HandS.IsInst
import HandS.TupAny
import HandS.FStr
import HandS.Codes
import HandS.WordsExc
import HandS.ExcOwn
import HandS.TupLe
import HandS.Wide
import HandS.RaiseMore
import HandS.Style
import HandS.Gcd
import PySem.Challenge.RW_fateboards_k07_whole_two_moves
set_option Elab.async false
set_option linter.all false
set_option maxRecDepth 100000
set_option maxHeartbeats 4000000
set_option autoImplicit false
namespace Z
open PySem PySem.Spec PyProof.Rows L2
open Evl (Ex)

/-! ### data in a growing frozen part G of the heap H; own cells beside it -/
/-- a tuple that is told: as it was made, or a constant row that begins with a text -/
def TupR (K : PySem.W.Frag) (G : Hp) (a : Addr) (xs : List V) : Prop := G a = some (.tup xs) ∨ (SqT K G a xs ∧ ∃ s r, xs = V.str s :: r)
/-! data that stands in G: of its tuples it is known how they were made (so they can be keys) -/
mutual
inductive Dz (K : PySem.W.Frag) (G : Hp) : V → PyData → Prop
  | int (i : Int) : Dz K G (.int i) (.int i)
  | str (x : Str) : Dz K G (.str x) (.str x)
  | bl (b : Bool) : Dz K G (.bl b) (.bool b)
  | non : Dz K G .non .none
  | tup {p : Addr} {vs : List V} {zs : List PyData} (at_ : TupR K G p vs) (all : DzAll K G vs zs) : Dz K G (.ref p) (.tuple zs)
  | lst {p : Addr} {vs : List V} {zs : List PyData} (at_ : SqL K G p vs) (all : DzAll K G vs zs) : Dz K G (.ref p) (.list zs)
inductive DzAll (K : PySem.W.Frag) (G : Hp) : List V → List PyData → Prop
  | nil : DzAll K G [] []
  | cons {u : V} {us : List V} {z : PyData} {zs : List PyData} (hd : Dz K G u z) (tl : DzAll K G us zs) : DzAll K G (u :: us) (z :: zs)
end
theorem TupR.sq {K : PySem.W.Frag} {G : Hp} {a : Addr} {xs : List V} (h : TupR K G a xs) : SqT K G a xs := h.elim Evl.st_of And.left
theorem TupR.mono {K : PySem.W.Frag} {G G' : Hp} {a : Addr} {xs : List V} (e : Ex G G') (h : TupR K G a xs) : TupR K G' a xs := h.elim (fun q => .inl (e _ _ q)) fun q => .inr ⟨Evl.ex_t e q.1, q.2⟩
/-- what is raised, as data: its class, its fields -/
structure XD where
  cls : Addr
  fs : List (Str × PyData)
/-- d | c an own cell | e a caught exception, its class, its dict, what it is -/
inductive ZV where
  | d (x : PyData)
  | c (p : Addr)
  | e (a : Addr) (cls : Value) (dd : Option Addr) (x : XD)
abbrev Fg := PySem.W.Frag
abbrev Zs : Type := List (Option ZV)
def XAt (K : Fg) (G : Hp) (cls : Value) (d : Option Addr) (x : XD) : Prop := cls = .ref x.cls ∧ match x.fs with
  | [] => d = none
  | f :: fs => ∃ dd fv, d = some dd ∧ G dd = some (.xd fv) ∧ Paired (fun (a : Str × V) (b : Str × PyData) => a.1 = b.1 ∧ Dz K G a.2 b.2) fv (f :: fs)
def ZV.at (K : Fg) (G : Hp) (v : V) : ZV → Prop
  | .d x => Dz K G v x
  | .c p => v = .ref p
  | .e a cls dd x => v = .ref a ∧ XAt K G cls dd x
abbrev ZAll (K : Fg) (G : Hp) : List V → List ZV → Prop := Paired (fun v z => ZV.at K G v z)
inductive CD where
  | lst (xs : List PyData)
  | obj (C : Addr) (fs : List (Str × ZV))
  | dT (kvs : List (List Key × PyData))
def CD.at (K : Fg) (G H : Hp) (p : Addr) : CD → Prop
  | .lst xs => ∃ ws, H p = some (.lst ws) ∧ DzAll K G ws xs
  | .obj C fs => ∃ dx fv, H p = some (.ins C dx fv) ∧ H dx = some (.own p) ∧ G dx = none ∧ Paired (fun (a : Str × V) (b : Str × ZV) => a.1 = b.1 ∧ ZV.at K G a.2 b.2) fv fs
  | .dT kvs => ∃ ws, H p = some (.dT ws) ∧ Paired (fun (a : List Key × V) (b : List Key × PyData) => a.1 = b.1 ∧ Dz K G a.2 b.2) ws kvs
abbrev Ms : Type := List (Addr × Bool × CD)

mutual
theorem dp_mono {K : Fg} {G G' : Hp} (e : Ex G G') : ∀ {d : PyData} {v : V}, Dz K G v d → Dz K G' v d
  | _, _, .non => .non
  | _, _, .bl b => .bl b
  | _, _, .int i => .int i
  | _, _, .str s => .str s
  | _, _, .lst s a => .lst (Evl.ex_l e s) (dpAll_mono e a)
  | _, _, .tup s a => .tup (s.mono e) (dpAll_mono e a)
theorem dpAll_mono {K : Fg} {G G' : Hp} (e : Ex G G') : ∀ {ds : List PyData} {vs : List V}, DzAll K G vs ds → DzAll K G' vs ds
  | _, _, .nil => .nil
  | _, _, .cons a b => .cons (dp_mono e a) (dpAll_mono e b)
end
mutual
theorem dz_dp {K : Fg} {G : Hp} : ∀ {d : PyData} {v : V}, Dz K G v d → L2.Dp K G v d
  | _, _, .non => .non
  | _, _, .bl b => .bl b
  | _, _, .int i => .int i
  | _, _, .str s => .str s
  | _, _, .lst s a => .lst s (dzAll_dp a)
  | _, _, .tup s a => .tup s.sq (dzAll_dp a)
theorem dzAll_dp {K : Fg} {G : Hp} : ∀ {ds : List PyData} {vs : List V}, DzAll K G vs ds → L2.DpAll K G vs ds
  | _, _, .nil => .nil
  | _, _, .cons a b => .cons (dz_dp a) (dzAll_dp b)
end
theorem paired_mono {α β : Type} {F F' : α → β → Prop} (h : ∀ a b, F a b → F' a b) : ∀ {l : List α} {m : List β}, Paired F l m → Paired F' l m
  | _, _, .nil => .nil
  | _, _, .cons a b => .cons (h _ _ a) (paired_mono h b)
theorem xat_mono {K : Fg} {G G' : Hp} (e : Ex G G') {cls : Value} {d : Option Addr} {x : XD} (h : XAt K G cls d x) : XAt K G' cls d x := by
  obtain ⟨h1, h2⟩ := h
  refine ⟨h1, ?_⟩
  split at h2
  · exact h2
  · obtain ⟨dd, fv, q1, q2, q3⟩ := h2
    exact ⟨dd, fv, q1, e _ _ q2, paired_mono (fun a b q => ⟨q.1, dp_mono e q.2⟩) q3⟩
theorem ZV.mono {K : Fg} {G G' : Hp} (e : Ex G G') {v : V} : ∀ {z : ZV}, ZV.at K G v z → ZV.at K G' v z
  | .d _, h => dp_mono e h
  | .c _, h => h
  | .e _ _ _ _, h => ⟨h.1, xat_mono e h.2⟩
theorem zall_mono {K : Fg} {G G' : Hp} (e : Ex G G') : ∀ {zs : List ZV} {vs : List V}, ZAll K G vs zs → ZAll K G' vs zs
  | _, _, .nil => .nil
  | _, _, .cons a b => .cons (ZV.mono e a) (zall_mono e b)
/-- a cell's content stands, where its own addresses do -/
theorem CD.stay {K : Fg} {G G' H H' : Hp} {p : Addr} {c : CD} (h : CD.at K G H p c) (e : Ex G G') (hp : ∀ o, H p = some o → H' p = some o) (hd : ∀ a x, H a = some (.own x) → H' a = some (.own x) ∧ (G a = none → G' a = none)) : CD.at K G' H' p c := by
  cases c with
  | lst xs => obtain ⟨ws, h1, h2⟩ := h; exact ⟨ws, hp _ h1, dpAll_mono e h2⟩
  | obj C fs =>
    obtain ⟨dx, fv, h1, h2, h3, h4⟩ := h
    exact ⟨dx, fv, hp _ h1, (hd _ _ h2).1, (hd _ _ h2).2 h3, paired_mono (fun a b q => ⟨q.1, ZV.mono e q.2⟩) h4⟩
  | dT kvs => obtain ⟨ws, h1, h2⟩ := h; exact ⟨ws, hp _ h1, paired_mono (fun a b q => ⟨q.1, dp_mono e q.2⟩) h2⟩
theorem CD.there {K : Fg} {G H : Hp} {p : Addr} {c : CD} (h : CD.at K G H p c) : ∃ o, H p = some o ∧ ∀ x, o ≠ .own x := by
  cases c with
  | lst xs => obtain ⟨ws, h1, _⟩ := h; exact ⟨_, h1, fun _ q => nomatch q⟩
  | obj C fs => obtain ⟨dx, fv, h1, _⟩ := h; exact ⟨_, h1, fun _ q => nomatch q⟩
  | dT kvs => obtain ⟨ws, h1, _⟩ := h; exact ⟨_, h1, fun _ q => nomatch q⟩

/-! ### the state, seen from the entry n of the def -/
structure Sn where
  G : Hp
  H : Hp
  A : List Addr
structure Rel (K : Fg) (n : Sn) (S : Zs) (M : Ms) (σ : L2.St) (G H : Hp) : Prop where
  ex : Ex G H
  len : σ.length = S.length
  sl : ∀ (i : Nat) (z : ZV), S[i]? = some (some z) → ∃ v, σ[i]? = some (some v) ∧ ZV.at K G v z
  nd : (M.map (·.1)).Nodup
  ce : ∀ p b c, (p, b, c) ∈ M → G p = none ∧ CD.at K G H p c
  g0 : Ex n.G G
  h0 : ∀ a o, n.H a = some o → a ∉ n.A → H a = some o
  lv : ∀ a o, n.H a = some o → ∃ o', H a = some o'
  f0 : ∀ a o, n.H a = some o → n.G a = none → G a = none
  a0 : ∀ p c, (p, false, c) ∈ M → p ∈ n.A
  o0 : ∀ p c, (p, true, c) ∈ M → n.H p = none
section
variable {K : Fg} {n : Sn} {S S' : Zs} {M M' : Ms} {σ σ' : L2.St} {G G' H H' : Hp} {p : Addr} {o : HO}
theorem ex_upd (e : Ex G H) (hp : G p = none) : Ex G (upd H p o) := fun a u h => by
  rw [upd_ne (ne_of_none h hp)]
  exact e a u h
theorem ex_both (e : Ex G H) : Ex (upd G p o) (upd H p o) := fun a u h => by
  by_cases q : a = p
  · subst q
    rw [upd_same] at h ⊢
    exact h
  · rw [upd_ne q] at h ⊢
    exact e a u h
theorem ex_gnone (e : Ex G H) (h : H p = none) : G p = none := Evl.fresh_back e h
/-- a new frozen thing -/
theorem Rel.new (R : Rel K n S M σ G H) (hp : H p = none) (hno : ∀ x, o ≠ .own x) : Rel K n S M σ (upd G p o) (upd H p o) where
  ex := ex_both R.ex
  len := R.len
  sl := fun i z e => by
    obtain ⟨v, h1, h2⟩ := R.sl i z e
    exact ⟨v, h1, ZV.mono (Ex.new (ex_gnone R.ex hp)) h2⟩
  nd := R.nd
  ce := fun q b c hm => by
    obtain ⟨h1, h2⟩ := R.ce q b c hm
    obtain ⟨u, hu, _⟩ := CD.there h2
    have qp : q ≠ p := ne_of_none hu hp
    refine ⟨by rw [upd_ne qp]; exact h1, CD.stay h2 (Ex.new (ex_gnone R.ex hp)) (fun o' h => by rw [upd_ne qp]; exact h) fun a x h => ?_⟩
    have ap : a ≠ p := ne_of_none h hp
    exact ⟨by rw [upd_ne ap]; exact h, fun g => by rw [upd_ne ap]; exact g⟩
  g0 := R.g0.trans (Ex.new (ex_gnone R.ex hp))
  h0 := fun a u h1 h2 => by
    have q := R.h0 a u h1 h2
    rw [upd_ne (ne_of_none q hp)]
    exact q
  lv := fun a u h1 => by
    obtain ⟨o', q⟩ := R.lv a u h1
    exact ⟨o', by rw [upd_ne (ne_of_none q hp)]; exact q⟩
  f0 := fun a u h1 h2 => by
    obtain ⟨o', q⟩ := R.lv a u h1
    rw [upd_ne (ne_of_none q hp)]
    exact R.f0 a u h1 h2
  a0 := R.a0
  o0 := R.o0
theorem Rel.fresh (R : Rel K n S M σ G H) (hp : H p = none) : n.H p = none := by
  cases e : n.H p with
  | none => rfl
  | some u =>
    obtain ⟨o', q⟩ := R.lv p u e
    rw [hp] at q
    cases q
theorem Rel.notin (R : Rel K n S M σ G H) (hp : H p = none) : p ∉ M.map (·.1) := fun hm => by
  obtain ⟨⟨q, b, c⟩, h1, h2⟩ := List.mem_map.mp hm
  obtain ⟨u, hu, _⟩ := CD.there (R.ce q b c h1).2
  have e : q = p := h2
  rw [e, hp] at hu
  cases hu
/-- an object laid beside (its own dict ..): neither frozen nor a cell -/
theorem Rel.lay (R : Rel K n S M σ G H) (hp : H p = none) : Rel K n S M σ G (upd H p o) where
  ex := ex_upd R.ex (ex_gnone R.ex hp)
  len := R.len
  sl := R.sl
  nd := R.nd
  ce := fun q b c hm => by
    obtain ⟨h1, h2⟩ := R.ce q b c hm
    obtain ⟨u, hu, _⟩ := CD.there h2
    have qp : q ≠ p := ne_of_none hu hp
    refine ⟨h1, CD.stay h2 (Ex.refl G) (fun o' h => by rw [upd_ne qp]; exact h) fun a x h => ?_⟩
    exact ⟨by rw [upd_ne (ne_of_none h hp)]; exact h, fun g => g⟩
  g0 := R.g0
  h0 := fun a u h1 h2 => by
    have q := R.h0 a u h1 h2
    rw [upd_ne (ne_of_none q hp)]
    exact q
  lv := fun a u h1 => by
    obtain ⟨o', q⟩ := R.lv a u h1
    exact ⟨o', by rw [upd_ne (ne_of_none q hp)]; exact q⟩
  f0 := R.f0
  a0 := R.a0
  o0 := R.o0
/-- what was laid beside becomes a cell -/
theorem Rel.cell {c : CD} (R : Rel K n S M σ G H) (hn : n.H p = none) (hm : p ∉ M.map (·.1)) (hg : G p = none) (hc : CD.at K G H p c) : Rel K n S ((p, true, c) :: M) σ G H where
  ex := R.ex
  len := R.len
  sl := R.sl
  nd := List.nodup_cons.mpr ⟨hm, R.nd⟩
  ce := fun q b c' h => by
    rcases List.mem_cons.mp h with e | h
    · cases e
      exact ⟨hg, hc⟩
    · exact R.ce q b c' h
  g0 := R.g0
  h0 := R.h0
  lv := R.lv
  f0 := R.f0
  a0 := fun q c' h => by
    rcases List.mem_cons.mp h with e | h
    · cases e
    · exact R.a0 q c' h
  o0 := fun q c' h => by
    rcases List.mem_cons.mp h with e | h
    · cases e
      exact hn
    · exact R.o0 q c' h
theorem Rel.newLst {ws : List V} {xs : List PyData} (R : Rel K n S M σ G H) (hp : H p = none) (h : DzAll K G ws xs) : Rel K n S ((p, true, .lst xs) :: M) σ G (upd H p (.lst ws)) :=
  (R.lay hp).cell (R.fresh hp) (R.notin hp) (ex_gnone R.ex hp) ⟨ws, upd_same, h⟩
/-- one entry of the cells is changed, is taken out -/
inductive Upd1 (p : Addr) (b : Bool) (c c' : CD) : Ms → Ms → Prop
  | here {M : Ms} : Upd1 p b c c' ((p, b, c) :: M) ((p, b, c') :: M)
  | there {q : Addr × Bool × CD} {M M' : Ms} : Upd1 p b c c' M M' → Upd1 p b c c' (q :: M) (q :: M')
inductive Rem1 (p : Addr) (b : Bool) (c : CD) : Ms → Ms → Prop
  | here {M : Ms} : Rem1 p b c ((p, b, c) :: M) M
  | there {q : Addr × Bool × CD} {M M' : Ms} : Rem1 p b c M M' → Rem1 p b c (q :: M) (q :: M')
theorem Upd1.mem {b : Bool} {c c' : CD} (u : Upd1 p b c c' M M') : (p, b, c) ∈ M := by
  induction u with
  | here => exact List.mem_cons_self
  | there _ ih => exact List.mem_cons_of_mem _ ih
theorem Upd1.fst {b : Bool} {c c' : CD} (u : Upd1 p b c c' M M') : M'.map (·.1) = M.map (·.1) := by
  induction u with
  | here => rfl
  | there _ ih => simp only [List.map_cons, ih]
theorem Upd1.of {b : Bool} {c c' : CD} (u : Upd1 p b c c' M M') (nd : (M.map (·.1)).Nodup) : ∀ q b' e, (q, b', e) ∈ M' → (q = p ∧ b' = b ∧ e = c') ∨ (q ≠ p ∧ (q, b', e) ∈ M) := by
  induction u with
  | here =>
    intro q b' e h
    rcases List.mem_cons.mp h with z | h
    · cases z
      exact .inl ⟨rfl, rfl, rfl⟩
    · refine .inr ⟨fun z => ?_, List.mem_cons_of_mem _ h⟩
      have hp := List.mem_map_of_mem (f := (·.1)) h
      have hp : q ∈ _ := hp
      rw [z] at hp
      exact (List.nodup_cons.mp nd).1 hp
  | @there r M M' v ih =>
    intro q b' e h
    rcases List.mem_cons.mp h with z | h
    · subst z
      refine .inr ⟨fun z => ?_, List.mem_cons_self⟩
      have z : q = p := z
      have hp := List.mem_map_of_mem (f := (·.1)) v.mem
      rw [← z] at hp
      exact (List.nodup_cons.mp nd).1 hp
    · rcases ih (List.nodup_cons.mp nd).2 q b' e h with z | ⟨z1, z2⟩
      · exact .inl z
      · exact .inr ⟨z1, List.mem_cons_of_mem _ z2⟩
theorem Rem1.mem {b : Bool} {c : CD} (u : Rem1 p b c M M') : (p, b, c) ∈ M := by
  induction u with
  | here => exact List.mem_cons_self
  | there _ ih => exact List.mem_cons_of_mem _ ih
theorem Rem1.sub {b : Bool} {c : CD} (u : Rem1 p b c M M') : M'.Sublist M := by
  induction u with
  | here => exact List.sublist_cons_self _ _
  | there _ ih => exact ih.cons₂ _
theorem Rem1.ne {b : Bool} {c : CD} (u : Rem1 p b c M M') (nd : (M.map (·.1)).Nodup) : ∀ q ∈ M', q.1 ≠ p := by
  induction u with
  | here =>
    intro q h z
    rw [← z] at nd
    exact (List.nodup_cons.mp nd).1 (List.mem_map_of_mem (f := (·.1)) h)
  | @there r M M' v ih =>
    intro q h
    rcases List.mem_cons.mp h with z | h
    · intro e
      have hp := List.mem_map_of_mem (f := (·.1)) v.mem
      rw [z] at e
      rw [← e] at hp
      exact (List.nodup_cons.mp nd).1 hp
    · exact ih (List.nodup_cons.mp nd).2 q h
/-- a cell is written -/
theorem Rel.put {b : Bool} {c c' : CD} (R : Rel K n S M σ G H) (u : Upd1 p b c c' M M') (hno : ∀ x, H p ≠ some (.own x)) (hc : CD.at K G (upd H p o) p c') : Rel K n S M' σ G (upd H p o) := by
  have hm := u.mem
  obtain ⟨hg, hcd⟩ := R.ce p b c hm
  obtain ⟨u0, hu0, _⟩ := CD.there hcd
  have np : ∀ a o', n.H a = some o' → a ∉ n.A → a ≠ p := fun a o' h1 h2 z => by
    subst z
    cases b with
    | false => exact h2 (R.a0 _ _ hm)
    | true => rw [R.o0 _ _ hm] at h1; cases h1
  refine ⟨ex_upd R.ex hg, R.len, R.sl, by rw [u.fst]; exact R.nd, fun q b' e h => ?_, R.g0, fun a o' h1 h2 => ?_, fun a o' h1 => ?_, R.f0, fun q e h => ?_, fun q e h => ?_⟩
  · rcases u.of R.nd q b' e h with ⟨rfl, rfl, rfl⟩ | ⟨z1, z2⟩
    · exact ⟨hg, hc⟩
    · obtain ⟨h1, h2⟩ := R.ce q b' e z2
      refine ⟨h1, CD.stay h2 (Ex.refl G) (fun o' h => by rw [upd_ne z1]; exact h) fun a x h => ⟨?_, fun g => g⟩⟩
      rw [upd_ne (fun z => hno x (by rw [← z]; exact h))]
      exact h
  · rw [upd_ne (np a o' h1 h2)]
    exact R.h0 a o' h1 h2
  · by_cases z : a = p
    · subst z
      exact ⟨_, upd_same⟩
    · obtain ⟨o2, q⟩ := R.lv a o' h1
      exact ⟨o2, by rw [upd_ne z]; exact q⟩
  · rcases u.of R.nd q false e h with ⟨rfl, z, _⟩ | ⟨_, z⟩
    · subst z
      exact R.a0 _ _ hm
    · exact R.a0 q e z
  · rcases u.of R.nd q true e h with ⟨rfl, z, _⟩ | ⟨_, z⟩
    · subst z
      exact R.o0 _ _ hm
    · exact R.o0 q e z
theorem Rel.putLst {b : Bool} {xs ys : List PyData} {ws : List V} (R : Rel K n S M σ G H) (u : Upd1 p b (.lst xs) (.lst ys) M M') (h : DzAll K G ws ys) : Rel K n S M' σ G (upd H p (.lst ws)) := by
  obtain ⟨_, vs, h1, _⟩ := R.ce p b _ u.mem
  exact R.put u (fun x z => by rw [h1] at z; cases z) ⟨ws, upd_same, h⟩
/-- an own list that nobody will change any more -/
theorem Rel.frz {xs : List PyData} (R : Rel K n S M σ G H) (u : Rem1 p true (.lst xs) M M') : ∃ G', Ex G G' ∧ Rel K n S M' σ G' H ∧ Dz K G' (.ref p) (.list xs) := by
  obtain ⟨hg, ws, h1, h2⟩ := R.ce p true _ u.mem
  refine ⟨upd G p (.lst ws), Ex.new hg, ⟨fun a o' h => ?_, R.len, fun i z e => ?_, R.nd.sublist (u.sub.map _), fun q b c h => ?_, R.g0.trans (Ex.new hg), R.h0, R.lv, fun a o' q1 q2 => ?_, fun q c h => R.a0 q c (u.sub.subset h), fun q c h => R.o0 q c (u.sub.subset h)⟩, ?_⟩
  · by_cases z : a = p
    · subst z
      rw [upd_same] at h
      rw [h1]; exact h
    · rw [upd_ne z] at h
      exact R.ex a o' h
  · obtain ⟨v, q1, q2⟩ := R.sl i z e
    exact ⟨v, q1, ZV.mono (Ex.new hg) q2⟩
  · obtain ⟨q1, q2⟩ := R.ce q b c (u.sub.subset h)
    have z := u.ne R.nd _ h
    refine ⟨by rw [upd_ne z]; exact q1, CD.stay q2 (Ex.new hg) (fun o' h => h) fun a x h => ⟨h, fun g => ?_⟩⟩
    rw [upd_ne (fun z => by rw [z, h1] at h; cases h)]
    exact g
  · have z : a ≠ p := fun z => by rw [z, R.o0 _ _ u.mem] at q1; cases q1
    rw [upd_ne z]
    exact R.f0 a o' q1 q2
  · exact .lst (Evl.sq_of upd_same) (dpAll_mono (Ex.new hg) h2)
/-- slots -/
theorem Rel.set {i : Nat} {v : V} {z : ZV} (R : Rel K n S M σ G H) (h : ZV.at K G v z) : Rel K n (S.set i (some z)) M (σ.set i (some v)) G H := by
  refine ⟨R.ex, by simp [R.len], fun j z' e => ?_, R.nd, R.ce, R.g0, R.h0, R.lv, R.f0, R.a0, R.o0⟩
  by_cases q : i = j
  · subst q
    rw [List.getElem?_set] at e
    simp only [if_true] at e
    split at e
    · rename_i hl
      cases e
      exact ⟨v, by rw [List.getElem?_set]; simp [R.len, hl], h⟩
    · cases e
  · rw [List.getElem?_set_ne q] at e
    obtain ⟨u, h1, h2⟩ := R.sl j z' e
    exact ⟨u, by rw [List.getElem?_set_ne q]; exact h1, h2⟩
theorem Rel.unset {i : Nat} (R : Rel K n S M σ G H) : Rel K n (S.set i none) M (σ.set i none) G H := by
  refine ⟨R.ex, by simp [R.len], fun j z' e => ?_, R.nd, R.ce, R.g0, R.h0, R.lv, R.f0, R.a0, R.o0⟩
  by_cases q : i = j
  · subst q
    rw [List.getElem?_set] at e
    simp only [if_true] at e
    split at e <;> cases e
  · rw [List.getElem?_set_ne q] at e
    obtain ⟨u, h1, h2⟩ := R.sl j z' e
    exact ⟨u, by rw [List.getElem?_set_ne q]; exact h1, h2⟩
/-- what is known of slots may be forgotten -/
theorem Rel.weak (R : Rel K n S M σ G H) (hl : S'.length = S.length) (h : ∀ (i : Nat) (z : ZV), S'[i]? = some (some z) → S[i]? = some (some z)) : Rel K n S' M σ G H :=
  ⟨R.ex, R.len.trans hl.symm, fun i z e => R.sl i z (h i z e), R.nd, R.ce, R.g0, R.h0, R.lv, R.f0, R.a0, R.o0⟩
/-- cells may be forgotten -/
theorem Rel.drop (R : Rel K n S M σ G H) (h : M'.Sublist M) : Rel K n S M' σ G H :=
  ⟨R.ex, R.len, R.sl, R.nd.sublist (h.map _), fun p b c q => R.ce p b c (h.subset q), R.g0, R.h0, R.lv, R.f0, fun p c q => R.a0 p c (h.subset q), fun p c q => R.o0 p c (h.subset q)⟩
end

/-! ### what a call leaves: A the cells it may write -/
structure Ext (A : List Addr) (G H G' H' : Hp) : Prop where
  g : Ex G G'
  h : ∀ a o, H a = some o → a ∉ A → H' a = some o
  l : ∀ a o, H a = some o → ∃ o', H' a = some o'
  x : Ex G' H'
  f : ∀ a o, H a = some o → G a = none → G' a = none
section
variable {K : Fg} {n : Sn} {S S' : Zs} {M M' : Ms} {σ σ' : L2.St} {G G' H H' : Hp} {p : Addr}
theorem Rel.ext (R : Rel K n S M σ G H) : Ext n.A n.G n.H G H := ⟨R.g0, R.h0, R.lv, R.ex, R.f0⟩
/-- behind a call that writes no cell -/
theorem Rel.call (R : Rel K n S M σ G H) (e : Ext [] G H G' H') : Rel K n S M σ G' H' := by
  have hh : Ex H H' := fun a o h => e.h a o h (by simp)
  refine ⟨e.x, R.len, fun i z q => ?_, R.nd, fun q b c hm => ?_, R.g0.trans e.g, fun a o h1 h2 => hh a o (R.h0 a o h1 h2), fun a o h1 => ?_, fun a o h1 h2 => ?_, R.a0, R.o0⟩
  · obtain ⟨v, h1, h2⟩ := R.sl i z q
    exact ⟨v, h1, ZV.mono e.g h2⟩
  · obtain ⟨h1, h2⟩ := R.ce q b c hm
    obtain ⟨u, hu, _⟩ := CD.there h2
    exact ⟨e.f q u hu h1, CD.stay h2 e.g (fun o h => hh _ _ h) fun a x h => ⟨hh _ _ h, fun g => e.f a _ h g⟩⟩
  · obtain ⟨o', q⟩ := R.lv a o h1
    exact e.l a o' q
  · obtain ⟨o', q⟩ := R.lv a o h1
    exact e.f a o' q (R.f0 a o h1 h2)
/-- behind a call that writes one cell -/
theorem Rel.call1 {b : Bool} {c c' : CD} (R : Rel K n S M σ G H) (e : Ext [p] G H G' H') (u : Upd1 p b c c' M M') (hd : ∀ a x, H a = some (.own x) → H' a = some (.own x)) (hc : CD.at K G' H' p c') : Rel K n S M' σ G' H' := by
  have hm := u.mem
  obtain ⟨hg, hcd⟩ := R.ce p b c hm
  obtain ⟨u0, hu0, _⟩ := CD.there hcd
  refine ⟨e.x, R.len, fun i z q => ?_, by rw [u.fst]; exact R.nd, fun q b' e' h => ?_, R.g0.trans e.g, fun a o h1 h2 => ?_, fun a o h1 => ?_, fun a o h1 h2 => ?_, fun q e' h => ?_, fun q e' h => ?_⟩
  · obtain ⟨v, h1, h2⟩ := R.sl i z q
    exact ⟨v, h1, ZV.mono e.g h2⟩
  · rcases u.of R.nd q b' e' h with ⟨rfl, rfl, rfl⟩ | ⟨z1, z2⟩
    · exact ⟨e.f q _ hu0 hg, hc⟩
    · obtain ⟨h1, h2⟩ := R.ce q b' e' z2
      obtain ⟨u1, hu1, _⟩ := CD.there h2
      exact ⟨e.f q u1 hu1 h1, CD.stay h2 e.g (fun o h => e.h _ _ h (by simpa using z1)) fun a x h => ⟨hd a x h, fun g => e.f a _ h g⟩⟩
  · have np : a ∉ [p] := by
      intro z
      have z : a = p := by simpa using z
      subst z
      cases b with
      | false => exact h2 (R.a0 _ _ hm)
      | true => rw [R.o0 _ _ hm] at h1; cases h1
    exact e.h a o (R.h0 a o h1 h2) np
  · obtain ⟨o', q⟩ := R.lv a o h1
    exact e.l a o' q
  · obtain ⟨o', q⟩ := R.lv a o h1
    exact e.f a o' q (R.f0 a o h1 h2)
  · rcases u.of R.nd q false e' h with ⟨rfl, z, _⟩ | ⟨_, z⟩
    · subst z
      exact R.a0 _ _ hm
    · exact R.a0 q e' z
  · rcases u.of R.nd q true e' h with ⟨rfl, z, _⟩ | ⟨_, z⟩
    · subst z
      exact R.o0 _ _ hm
    · exact R.o0 q e' z
end
end Z
namespace Z
open PySem PySem.Spec PyProof.Rows L2
open Evl (Ex)

/-! ### the judgements: readings over data -/
abbrev QZ := ZV → Ms → Prop
abbrev XZ := XD → Zs → Ms → Prop
def XOk (K : Fg) (E : XK) (n : Sn) (σ : L2.St) (G : Hp) (X : XZ) : Prop := ∀ cls d G' H' x S' M', Ex G G' → Rel K n S' M' σ G' H' → XAt K G' cls d x → X x S' M' → E cls d H'
def ZW (K : Fg) (E : L2.St → XK) (te : TE) (S : Zs) (M : Ms) (Q : QZ) (X : XZ) : Prop := ∀ (n : Sn) (σ : L2.St) (G H : Hp), Rel K n S M σ G H → ∀ Qv : VK,
  (∀ v G' H' z M', Ex G G' → Rel K n S M' σ G' H' → ZV.at K G' v z → Q z M' → Qv v H') → XOk K (E σ) n σ G X → te σ H Qv
def ZA (K : Fg) (E : L2.St → XK) (ta : TA) (S : Zs) (M : Ms) (Q : List ZV → Ms → Prop) (X : XZ) : Prop := ∀ (n : Sn) (σ : L2.St) (G H : Hp), Rel K n S M σ G H → ∀ Qv : List V → Hp → Prop,
  (∀ vs G' H' zs M', Ex G G' → Rel K n S M' σ G' H' → ZAll K G' vs zs → Q zs M' → Qv vs H') → XOk K (E σ) n σ G X → ta σ H Qv
def ZT (K : Fg) (E : L2.St → XK) (tt : TT) (S : Zs) (M : Ms) (Q : Bool → Ms → Prop) (X : XZ) : Prop := ∀ (n : Sn) (σ : L2.St) (G H : Hp), Rel K n S M σ G H → ∀ Qv : Bool → Hp → Prop,
  (∀ b G' H' M', Ex G G' → Rel K n S M' σ G' H' → Q b M' → Qv b H') → XOk K (E σ) n σ G X → tt σ H Qv
structure ZP where
  nx : Zs → Ms → Prop
  rt : QZ
  bk : Zs → Ms → Prop
  ct : Zs → Ms → Prop
  ex : XZ
structure DOk (K : Fg) (E : L2.St → XK) (n : Sn) (G : Hp) (P : ZP) (D : Ends) : Prop where
  nx : ∀ σ' G' H' S' M', Ex G G' → Rel K n S' M' σ' G' H' → P.nx S' M' → D.nx σ' H'
  rt : ∀ v σ' G' H' z S' M', Ex G G' → Rel K n S' M' σ' G' H' → ZV.at K G' v z → P.rt z M' → D.rt v H'
  bk : ∀ σ' G' H' S' M', Ex G G' → Rel K n S' M' σ' G' H' → P.bk S' M' → D.bk σ' H'
  ct : ∀ σ' G' H' S' M', Ex G G' → Rel K n S' M' σ' G' H' → P.ct S' M' → D.ct σ' H'
  ex : ∀ cls d σ' G' H' x S' M', Ex G G' → Rel K n S' M' σ' G' H' → XAt K G' cls d x → P.ex x S' M' → E σ' cls d H'
theorem DOk.mono {K : Fg} {E : L2.St → XK} {n : Sn} {G G' : Hp} {P : ZP} {D : Ends} (k : DOk K E n G P D) (e : Ex G G') : DOk K E n G' P D :=
  ⟨fun a b c d f g => k.nx a b c d f (e.trans g), fun a b c d f h i g => k.rt a b c d f h i (e.trans g), fun a b c d f g => k.bk a b c d f (e.trans g), fun a b c d f g => k.ct a b c d f (e.trans g), fun a b c d f h i j g => k.ex a b c d f h i j (e.trans g)⟩
def ZS (K : Fg) (E : L2.St → XK) (t : TS) (S : Zs) (M : Ms) (P : ZP) : Prop := ∀ (n : Sn) (σ : L2.St) (G H : Hp), Rel K n S M σ G H → ∀ D, DOk K E n G P D → t D σ H
section
variable {K : Fg} {E : L2.St → XK} {e0 : XK} {te ta tb tc : TE} {tA : TA} {t u : TT} {S S' : Zs} {M M' : Ms} {Q : QZ} {X : XZ} {n : Sn} {σ : L2.St} {G G' H H' : Hp}
theorem XOk.mono (h : XOk K e0 n σ G X) (e : Ex G G') : XOk K e0 n σ G' X := fun cls d G2 H2 x S2 M2 e2 => h cls d G2 H2 x S2 M2 (e.trans e2)
theorem ZW.imp {Q' : QZ} (h : ZW K E te S M Q X) (i : ∀ z M', Q z M' → Q' z M') : ZW K E te S M Q' X := fun n σ G H R Qv q x => h n σ G H R Qv (fun v G' H' z M' e R' a b => q v G' H' z M' e R' a (i _ _ b)) x

/-! ### expressions -/
theorem zw_var {i : Nat} {z : ZV} (h : S[i]? = some (some z)) (q : Q z M) : ZW K E (tVar i) S M Q X := fun n σ G H R Qv k _ => by
  obtain ⟨v, h1, h2⟩ := R.sl i z h
  exact ⟨v, h1, k v G H z M (Ex.refl G) R h2 q⟩
theorem zw_c {v : V} {d : PyData} (h : ∀ H, Dz K H v d) (q : Q (.d d) M) : ZW K E (tC v) S M Q X := fun n σ G H R Qv k _ => k v G H (.d d) M (Ex.refl G) R (h G) q
theorem zw_int {i : Int} (q : Q (.d (.int i)) M) : ZW K E (tC (.int i)) S M Q X := zw_c (fun _ => .int i) q
theorem zw_str {x : Str} (q : Q (.d (.str x)) M) : ZW K E (tC (.str x)) S M Q X := zw_c (fun _ => .str x) q
theorem zw_bl {b : Bool} (q : Q (.d (.bool b)) M) : ZW K E (tC (.bl b)) S M Q X := zw_c (fun _ => .bl b) q
theorem zw_non (q : Q (.d .none) M) : ZW K E (tC .non) S M Q X := zw_c (fun _ => .non) q
/-- an operation on values, over data -/
def ZO (K : Fg) (r : R2) (x y : ZV) (M : Ms) (Q : QZ) : Prop := ∀ (n : Sn) (S : Zs) (σ : L2.St) (G H : Hp), Rel K n S M σ G H → ∀ v u, ZV.at K G v x → ZV.at K G u y → ∀ Qv : VK,
  (∀ w G' H' z M', Ex G G' → Rel K n S M' σ G' H' → ZV.at K G' w z → Q z M' → Qv w H') → r v u H Qv
theorem zw_op {r : R2} (h : ZW K E ta S M (fun x M1 => ZW K E tb S M1 (fun y M2 => ZO K r x y M2 Q) X) X) : ZW K E (tOp r ta tb) S M Q X := fun n σ G H R Qv k kx =>
  h n σ G H R _ (fun v G1 H1 x M1 e1 R1 a1 h1 => h1 n σ G1 H1 R1 _ (fun u G2 H2 y M2 e2 R2 a2 h2 => h2 n S σ G2 H2 R2 v u (ZV.mono e2 a1) a2 Qv
    fun w G3 H3 z M3 e3 R3 a3 q => k w G3 H3 z M3 ((e1.trans e2).trans e3) R3 a3 q) (kx.mono e1)) kx
def ZU (K : Fg) (r : V → Hp → VK → Prop) (x : ZV) (M : Ms) (Q : QZ) : Prop := ∀ (n : Sn) (S : Zs) (σ : L2.St) (G H : Hp), Rel K n S M σ G H → ∀ v, ZV.at K G v x → ∀ Qv : VK,
  (∀ w G' H' z M', Ex G G' → Rel K n S M' σ G' H' → ZV.at K G' w z → Q z M' → Qv w H') → r v H Qv
theorem zw_un {r : V → Hp → VK → Prop} (h : ZW K E ta S M (fun x M1 => ZU K r x M1 Q) X) : ZW K E (tUn r ta) S M Q X := fun n σ G H R Qv k kx =>
  h n σ G H R _ (fun v G1 H1 x M1 e1 R1 a1 h1 => h1 n S σ G1 H1 R1 v a1 Qv fun w G3 H3 z M3 e3 R3 a3 q => k w G3 H3 z M3 (e1.trans e3) R3 a3 q) kx
/-- the plain ones: a value that is there already, nothing made -/
theorem zo_val {r : R2} {x y : ZV} {z : ZV} (h : ∀ G H v u, Ex G H → ZV.at K G v x → ZV.at K G u y → ∃ w, ZV.at K G w z ∧ ∀ Qv : VK, Qv w H → r v u H Qv) (q : Q z M) : ZO K r x y M Q := fun n S σ G H R v u a b Qv k => by
  obtain ⟨w, h1, h2⟩ := h G H v u R.ex a b
  exact h2 Qv (k w G H z M (Ex.refl G) R h1 q)
theorem dp_int {G : Hp} {v : V} {i : Int} (h : Dz K G v (.int i)) : v = .int i := by cases h; rfl
theorem dp_str {G : Hp} {v : V} {i : Str} (h : Dz K G v (.str i)) : v = .str i := by cases h; rfl
theorem dp_bl {G : Hp} {v : V} {i : Bool} (h : Dz K G v (.bool i)) : v = .bl i := by cases h; rfl
theorem dp_non {G : Hp} {v : V} (h : Dz K G v .none) : v = .non := by cases h; rfl
theorem dp_tup {G : Hp} {v : V} {ds : List PyData} (h : Dz K G v (.tuple ds)) : ∃ a xs, v = .ref a ∧ SqT K G a xs ∧ DzAll K G xs ds := by cases h with | tup s a => exact ⟨_, _, rfl, s.sq, a⟩
theorem dp_lst {G : Hp} {v : V} {ds : List PyData} (h : Dz K G v (.list ds)) : ∃ a xs, v = .ref a ∧ SqL K G a xs ∧ DzAll K G xs ds := by cases h with | lst s a => exact ⟨_, _, rfl, s, a⟩
theorem dpa_len {G : Hp} : ∀ {vs : List V} {ds : List PyData}, DzAll K G vs ds → vs.length = ds.length
  | _, _, .nil => rfl
  | _, _, .cons _ b => by simp [dpa_len b]
theorem dpa_get {G : Hp} : ∀ {vs : List V} {ds : List PyData} {i : Nat} {d : PyData}, DzAll K G vs ds → ds[i]? = some d → ∃ v, vs[i]? = some v ∧ Dz K G v d
  | _, _, _, _, .nil, h => by simp at h
  | _, _, 0, _, .cons a _, h => by simp at h; subst h; exact ⟨_, rfl, a⟩
  | _, _, i + 1, _, .cons _ b, h => by
    obtain ⟨v, h1, h2⟩ := dpa_get (i := i) b (by simpa using h)
    exact ⟨v, by simpa using h1, h2⟩
theorem dpa_app {G : Hp} : ∀ {vs ws : List V} {ds es : List PyData}, DzAll K G vs ds → DzAll K G ws es → DzAll K G (vs ++ ws) (ds ++ es)
  | _, _, _, _, .nil, h => h
  | _, _, _, _, .cons a b, h => .cons a (dpa_app b h)
theorem dpa_take {G : Hp} : ∀ {vs : List V} {ds : List PyData} (k : Nat), DzAll K G vs ds → DzAll K G (vs.take k) (ds.take k)
  | _, _, 0, _ => .nil
  | _, _, _ + 1, .nil => .nil
  | _, _, k + 1, .cons a b => .cons a (dpa_take k b)
theorem dpa_drop {G : Hp} : ∀ {vs : List V} {ds : List PyData} (k : Nat), DzAll K G vs ds → DzAll K G (vs.drop k) (ds.drop k)
  | _, _, 0, h => h
  | _, _, _ + 1, .nil => .nil
  | _, _, k + 1, .cons _ b => dpa_drop k b
theorem dpa_one {G : Hp} {v : V} {d : PyData} (h : Dz K G v d) : DzAll K G [v] [d] := .cons h .nil
theorem dpa_set {G : Hp} {v : V} {d : PyData} (h : Dz K G v d) : ∀ {vs : List V} {ds : List PyData} (k : Nat), DzAll K G vs ds → DzAll K G (vs.set k v) (ds.set k d)
  | _, _, _, .nil => .nil
  | _, _, 0, .cons _ b => .cons h b
  | _, _, k + 1, .cons a b => .cons a (dpa_set h k b)
theorem zall_d {G : Hp} : ∀ {vs : List V} {ds : List PyData}, ZAll K G vs (ds.map .d) → DzAll K G vs ds
  | [], [], .nil => .nil
  | _ :: _, _ :: _, .cons a b => .cons a (zall_d b)

theorem zo_I0 {g : Int → Int → V} {gd : Int → Int → PyData} {i j : Int} (hg : ∀ H, Dz K H (g i j) (gd i j)) (q : Q (.d (gd i j)) M) : ZO K (rI0 g) (.d (.int i)) (.d (.int j)) M Q :=
  zo_val (z := .d (gd i j)) (fun G H v u _ a b => ⟨g i j, hg G, fun Qv h => ⟨i, j, dp_int a, dp_int b, h⟩⟩) q
theorem zo_I {C : Int → Int → Prop} {g : Int → Int → V} {gd : Int → Int → PyData} {i j : Int} (hg : ∀ H, Dz K H (g i j) (gd i j)) (hc : C i j) (q : Q (.d (gd i j)) M) : ZO K (rI C g) (.d (.int i)) (.d (.int j)) M Q :=
  zo_val (z := .d (gd i j)) (fun G H v u _ a b => ⟨g i j, hg G, fun Qv h => ⟨i, j, dp_int a, dp_int b, hc, h⟩⟩) q
theorem zo_add {i j : Int} (q : Q (.d (.int (i + j))) M) : ZO K (rI0 fun i j => .int (i + j)) (.d (.int i)) (.d (.int j)) M Q := zo_I0 (gd := fun i j => .int (i + j)) (fun _ => .int _) q
theorem zo_sub {i j : Int} (q : Q (.d (.int (i - j))) M) : ZO K (rI0 fun i j => .int (i - j)) (.d (.int i)) (.d (.int j)) M Q := zo_I0 (gd := fun i j => .int (i - j)) (fun _ => .int _) q
theorem zo_mul {i j : Int} (hc : CMul i j) (q : Q (.d (.int (i * j))) M) : ZO K (rI CMul fun i j => .int (i * j)) (.d (.int i)) (.d (.int j)) M Q := zo_I (gd := fun i j => .int (i * j)) (fun _ => .int _) hc q
theorem zo_mod {i j : Int} (hc : 0 < j) (q : Q (.d (.int (i % j))) M) : ZO K (rI (fun _ j => 0 < j) fun i j => .int (i % j)) (.d (.int i)) (.d (.int j)) M Q := zo_I (C := fun _ j => 0 < j) (gd := fun i j => .int (i % j)) (fun _ => .int _) hc q
theorem zo_fdiv {i j : Int} (hc : CDiv i j) (q : Q (.d (.int (i / j))) M) : ZO K (rI CDiv fun i j => .int (i / j)) (.d (.int i)) (.d (.int j)) M Q := zo_I (gd := fun i j => .int (i / j)) (fun _ => .int _) hc q
theorem zo_pow {i j : Int} (hc : CPow i j) (q : Q (.d (.int (i ^ j.toNat))) M) : ZO K (rI CPow fun i j => .int (i ^ j.toNat)) (.d (.int i)) (.d (.int j)) M Q := zo_I (gd := fun i j => .int (i ^ j.toNat)) (fun _ => .int _) hc q
theorem zo_shl {i j : Int} (hc : CPow i j) (q : Q (.d (.int (i * 2 ^ j.toNat))) M) : ZO K (rI CPow fun i j => .int (i * 2 ^ j.toNat)) (.d (.int i)) (.d (.int j)) M Q := zo_I (gd := fun i j => .int (i * 2 ^ j.toNat)) (fun _ => .int _) hc q
theorem zo_lt {i j : Int} (q : Q (.d (.bool (decide (i < j)))) M) : ZO K (rI0 fun i j => .bl (decide (i < j))) (.d (.int i)) (.d (.int j)) M Q := zo_I0 (gd := fun i j => .bool (decide (i < j))) (fun _ => .bl _) q
theorem zo_le {i j : Int} (q : Q (.d (.bool (decide (i ≤ j)))) M) : ZO K (rI0 fun i j => .bl (decide (i ≤ j))) (.d (.int i)) (.d (.int j)) M Q := zo_I0 (gd := fun i j => .bool (decide (i ≤ j))) (fun _ => .bl _) q
theorem zo_gt {i j : Int} (q : Q (.d (.bool (decide (j < i)))) M) : ZO K (rI0 fun i j => .bl (decide (j < i))) (.d (.int i)) (.d (.int j)) M Q := zo_I0 (gd := fun i j => .bool (decide (j < i))) (fun _ => .bl _) q
theorem zo_ge {i j : Int} (q : Q (.d (.bool (decide (j ≤ i)))) M) : ZO K (rI0 fun i j => .bl (decide (j ≤ i))) (.d (.int i)) (.d (.int j)) M Q := zo_I0 (gd := fun i j => .bool (decide (j ≤ i))) (fun _ => .bl _) q
theorem zu_neg {i : Int} (q : Q (.d (.int (-i))) M) : ZU K (rU fun i => .int (-i)) (.d (.int i)) M Q := fun n S σ G H R v a Qv k => ⟨i, dp_int a, k _ G H (.d (.int (-i))) M (Ex.refl G) R (.int _) q⟩
/-- == over data -/
theorem zo_eq {x y : PyData} (hx : SeqAt.shaped x = true) (hy : SeqAt.shaped y = true) (q : Q (.d (.bool (PyData.eqv x y))) M) : ZO K (rEqD K) (.d x) (.d y) M Q :=
  zo_val (z := .d (.bool (PyData.eqv x y))) (fun G H v u e a b => ⟨_, .bl _, fun Qv h => ⟨x, y, dz_dp (dp_mono e a), dz_dp (dp_mono e b), hx, hy, h⟩⟩) q
theorem zo_ne {x y : PyData} (hx : SeqAt.shaped x = true) (hy : SeqAt.shaped y = true) (q : Q (.d (.bool (!PyData.eqv x y))) M) : ZO K (rNeD K) (.d x) (.d y) M Q :=
  zo_val (z := .d (.bool (!PyData.eqv x y))) (fun G H v u e a b => ⟨_, .bl _, fun Qv h => ⟨x, y, dz_dp (dp_mono e a), dz_dp (dp_mono e b), hx, hy, h⟩⟩) q
abbrev rAddS1 : R2 := fun x y H Q => ∃ i j, x = .str i ∧ y = .str j ∧ i.length + j.length ≤ sizeLine ∧ Q (.str (i ++ j)) H
theorem zo_addS {x y : Str} (hl : x.length + y.length ≤ sizeLine) (q : Q (.d (.str (x ++ y))) M) : ZO K rAddS1 (.d (.str x)) (.d (.str y)) M Q :=
  zo_val (z := .d (.str (x ++ y))) (fun G H v u e a b => ⟨_, .str _, fun Qv h => ⟨x, y, dp_str a, dp_str b, hl, h⟩⟩) q

/-! ### arguments, displays -/
theorem za_nil {Q : List ZV → Ms → Prop} (q : Q [] M) : ZA K E tNil S M Q X := fun n σ G H R Qv k _ => k [] G H [] M (Ex.refl G) R .nil q
theorem za_cons {Q : List ZV → Ms → Prop} (h : ZW K E te S M (fun x M1 => ZA K E tA S M1 (fun zs M2 => Q (x :: zs) M2) X) X) : ZA K E (tCons te tA) S M Q X := fun n σ G H R Qv k kx =>
  h n σ G H R _ (fun v G1 H1 x M1 e1 R1 a1 h1 => h1 n σ G1 H1 R1 _ (fun vs G2 H2 zs M2 e2 R2 a2 q => k (v :: vs) G2 H2 (x :: zs) M2 (e1.trans e2) R2 (.cons (ZV.mono e2 a1) a2) q) (kx.mono e1)) kx
/-- all plain data -/
def AllD (zs : List ZV) (ds : List PyData) : Prop := zs = ds.map .d
theorem allD_nil : AllD [] [] := rfl
theorem allD_cons {d : PyData} {zs : List ZV} {ds : List PyData} (h : AllD zs ds) : AllD (.d d :: zs) (d :: ds) := by unfold AllD at *; rw [h]; rfl
theorem zw_tup (h : ZA K E tA S M (fun zs M1 => ∃ ds, AllD zs ds ∧ ds.length ≤ sizeLine ∧ Q (.d (.tuple ds)) M1) X) : ZW K E (tTup tA) S M Q X := fun n σ G H R Qv k kx =>
  h n σ G H R _ (fun vs G1 H1 zs M1 e1 R1 a1 ⟨ds, hd, hl, q⟩ => by
    have a2 : DzAll K G1 vs ds := zall_d (by rw [← hd]; exact a1)
    refine ⟨by rw [dpa_len a2]; exact hl, fun p hp => ?_⟩
    have g := ex_gnone R1.ex hp
    exact k (.ref p) _ _ (.d (.tuple ds)) M1 (e1.trans (Ex.new g)) (R1.new hp (fun _ z => nomatch z)) (.tup (.inl upd_same) (dpAll_mono (Ex.new g) a2)) q) kx
/-- a list: frozen at once | a cell -/
theorem zw_lstD (h : ZA K E tA S M (fun zs M1 => ∃ ds, AllD zs ds ∧ ds.length ≤ sizeLine ∧ Q (.d (.list ds)) M1) X) : ZW K E (tLst tA) S M Q X := fun n σ G H R Qv k kx =>
  h n σ G H R _ (fun vs G1 H1 zs M1 e1 R1 a1 ⟨ds, hd, hl, q⟩ => by
    have a2 : DzAll K G1 vs ds := zall_d (by rw [← hd]; exact a1)
    refine ⟨by rw [dpa_len a2]; exact hl, fun p hp => ?_⟩
    have g := ex_gnone R1.ex hp
    exact k (.ref p) _ _ (.d (.list ds)) M1 (e1.trans (Ex.new g)) (R1.new hp (fun _ z => nomatch z)) (.lst (Evl.sq_of upd_same) (dpAll_mono (Ex.new g) a2)) q) kx
theorem zw_lstC (h : ZA K E tA S M (fun zs M1 => ∃ ds, AllD zs ds ∧ ds.length ≤ sizeLine ∧ ∀ p, Q (.c p) ((p, true, .lst ds) :: M1)) X) : ZW K E (tLst tA) S M Q X := fun n σ G H R Qv k kx =>
  h n σ G H R _ (fun vs G1 H1 zs M1 e1 R1 a1 ⟨ds, hd, hl, q⟩ => by
    have a2 : DzAll K G1 vs ds := zall_d (by rw [← hd]; exact a1)
    exact ⟨by rw [dpa_len a2]; exact hl, fun p hp => k (.ref p) _ _ (.c p) _ e1 (R1.newLst hp a2) rfl (q p)⟩) kx
/-- an own list is taken as data from here on -/
theorem zw_frz (h : ZW K E te S M (fun z M1 => ∃ p xs M2, z = .c p ∧ Rem1 p true (.lst xs) M1 M2 ∧ Q (.d (.list xs)) M2) X) : ZW K E te S M Q X := fun n σ G H R Qv k kx =>
  h n σ G H R _ (fun v G1 H1 z M1 e1 R1 a1 ⟨p, xs, M2, hz, hr, q⟩ => by
    subst hz
    obtain ⟨G2, e2, R2, d2⟩ := R1.frz hr
    have ev : v = .ref p := a1
    subst ev
    exact k _ G2 H1 (.d (.list xs)) M2 (e1.trans e2) R2 d2 q) kx

/-! ### tests, and, or, not, if .. else -/
theorem zt_test {Q : Bool → Ms → Prop} (h : ZW K E te S M (fun z M1 => ∃ b, z = .d (.bool b) ∧ Q b M1) X) : ZT K E (tTest te) S M Q X := fun n σ G H R Qv k kx =>
  h n σ G H R _ (fun v G1 H1 z M1 e1 R1 a1 ⟨b, hz, q⟩ => by subst hz; exact ⟨b, dp_bl a1, k b G1 H1 M1 e1 R1 q⟩) kx
theorem zt_B {Q : Bool → Ms → Prop} (h : ZW K E te S M (fun z M1 => ∃ b, z = .d (.bool b) ∧ Q b M1) X) : ZT K E (tB te) S M Q X := fun n σ G H R Qv k kx =>
  h n σ G H R _ (fun v G1 H1 z M1 e1 R1 a1 ⟨b, hz, q⟩ => by subst hz; exact ⟨b, dp_bl a1, k b G1 H1 M1 e1 R1 q⟩) kx
/-- a value's truth -/
def dTru : PyData → Option Bool
  | .none => some false
  | .bool b => some b
  | .int i => some (i != 0)
  | .str y => if y.length ≤ sizeLine then some ((y.length : Int) != 0) else none
  | .list xs => some (!xs.isEmpty)
  | .tuple xs => some (!xs.isEmpty)
  | .dict _ => none
theorem dTru_ok {K : Fg} {G : Hp} {v : V} {d : PyData} {b : Bool} (h : Dz K G v d) (e : dTru d = some b) : TruV K v G b := by
  cases h with
  | non => exact (Option.some.inj e).symm
  | bl x => exact (Option.some.inj e).symm
  | int i => exact (Option.some.inj e).symm
  | str y =>
    simp only [dTru] at e
    split at e
    · rename_i hl; exact ⟨hl, (Option.some.inj e).symm⟩
    · cases e
  | lst s a =>
    refine .inl ⟨_, s, ?_⟩
    have := dpa_len a
    have e := Option.some.inj e
    rw [← e]
    cases a <;> rfl
  | tup s a =>
    refine .inr (.inl ⟨_, s.sq, ?_⟩)
    have e := Option.some.inj e
    rw [← e]
    cases a <;> rfl
theorem truV_mono {K : Fg} {G H : Hp} (e : Ex G H) {v : V} {b : Bool} (h : TruV K v G b) : TruV K v H b := by
  cases v with
  | ref p =>
    rcases h with ⟨xs, s, z⟩ | ⟨xs, s, z⟩ | ⟨kvs, s, z⟩
    · exact .inl ⟨xs, Evl.ex_l e s, z⟩
    · exact .inr (.inl ⟨xs, Evl.ex_t e s, z⟩)
    · exact .inr (.inr ⟨kvs, e _ _ s, z⟩)
  | _ => exact h
theorem zt_tru {Q : Bool → Ms → Prop} (h : ZW K E te S M (fun z M1 => ∃ d b, z = .d d ∧ dTru d = some b ∧ Q b M1) X) : ZT K E (fun σ H Q => te σ H fun x H' => ∃ k, TruV K x H' k ∧ Q k H') S M Q X := fun n σ G H R Qv k kx =>
  h n σ G H R _ (fun v G1 H1 z M1 e1 R1 a1 ⟨d, b, hz, hb, q⟩ => by subst hz; exact ⟨b, truV_mono R1.ex (dTru_ok a1 hb), k b G1 H1 M1 e1 R1 q⟩) kx
/-- an own list's truth -/
theorem zt_truC {Q : Bool → Ms → Prop} (h : ZW K E te S M (fun z M1 => ∃ p b xs, z = .c p ∧ (p, b, CD.lst xs) ∈ M1 ∧ Q (!xs.isEmpty) M1) X) : ZT K E (fun σ H Q => te σ H fun x H' => ∃ k, TruV K x H' k ∧ Q k H') S M Q X := fun n σ G H R Qv k kx =>
  h n σ G H R _ (fun v G1 H1 z M1 e1 R1 a1 ⟨p, b, xs, hz, hm, q⟩ => by
    subst hz
    obtain ⟨_, ws, hw, hd⟩ := R1.ce p b _ hm
    have ev : v = .ref p := a1
    subst ev
    refine ⟨!xs.isEmpty, .inl ⟨ws, Evl.sq_of hw, ?_⟩, k _ G1 H1 M1 e1 R1 q⟩
    cases hd <;> rfl) kx
theorem zt_not {Q : Bool → Ms → Prop} (h : ZT K E t S M (fun b M1 => Q (!b) M1) X) : ZT K E (tNot t) S M Q X := fun n σ G H R Qv k kx =>
  h n σ G H R _ (fun b G1 H1 M1 e1 R1 q => k (!b) G1 H1 M1 e1 R1 q) kx
theorem zt_and {Q : Bool → Ms → Prop} (h : ZT K E t S M (fun b M1 => (b = false → Q false M1) ∧ (b = true → ZT K E u S M1 Q X)) X) : ZT K E (tAnd t u) S M Q X := fun n σ G H R Qv k kx =>
  h n σ G H R _ (fun b G1 H1 M1 e1 R1 q => by
    cases b with
    | true =>
      show u σ H1 Qv
      exact q.2 rfl n σ G1 H1 R1 Qv (fun b G2 H2 M2 e2 R2 q2 => k b G2 H2 M2 (e1.trans e2) R2 q2) (kx.mono e1)
    | false =>
      show Qv false H1
      exact k false G1 H1 M1 e1 R1 (q.1 rfl)) kx
theorem zt_or {Q : Bool → Ms → Prop} (h : ZT K E t S M (fun b M1 => (b = true → Q true M1) ∧ (b = false → ZT K E u S M1 Q X)) X) : ZT K E (tOr t u) S M Q X := fun n σ G H R Qv k kx =>
  h n σ G H R _ (fun b G1 H1 M1 e1 R1 q => by
    cases b with
    | true =>
      show Qv true H1
      exact k true G1 H1 M1 e1 R1 (q.1 rfl)
    | false =>
      show u σ H1 Qv
      exact q.2 rfl n σ G1 H1 R1 Qv (fun b G2 H2 M2 e2 R2 q2 => k b G2 H2 M2 (e1.trans e2) R2 q2) (kx.mono e1)) kx
theorem zw_andV (h : ZW K E ta S M (fun z M1 => ∃ b, z = .d (.bool b) ∧ (b = false → Q (.d (.bool false)) M1) ∧ (b = true → ZW K E tb S M1 Q X)) X) : ZW K E (tAndV ta tb) S M Q X := fun n σ G H R Qv k kx =>
  h n σ G H R _ (fun v G1 H1 z M1 e1 R1 a1 ⟨b, hz, q⟩ => by
    subst hz
    refine ⟨b, dp_bl a1, ?_⟩
    cases b with
    | true =>
      show tb σ H1 Qv
      exact q.2 rfl n σ G1 H1 R1 Qv (fun w G2 H2 z M2 e2 R2 a2 q2 => k w G2 H2 z M2 (e1.trans e2) R2 a2 q2) (kx.mono e1)
    | false =>
      show Qv (.bl false) H1
      exact k _ G1 H1 (.d (.bool false)) M1 e1 R1 (Dz.bl false) (q.1 rfl)) kx
theorem zw_orV (h : ZW K E ta S M (fun z M1 => ∃ b, z = .d (.bool b) ∧ (b = true → Q (.d (.bool true)) M1) ∧ (b = false → ZW K E tb S M1 Q X)) X) : ZW K E (tOrV ta tb) S M Q X := fun n σ G H R Qv k kx =>
  h n σ G H R _ (fun v G1 H1 z M1 e1 R1 a1 ⟨b, hz, q⟩ => by
    subst hz
    refine ⟨b, dp_bl a1, ?_⟩
    cases b with
    | true =>
      show Qv (.bl true) H1
      exact k _ G1 H1 (.d (.bool true)) M1 e1 R1 (Dz.bl true) (q.1 rfl)
    | false =>
      show tb σ H1 Qv
      exact q.2 rfl n σ G1 H1 R1 Qv (fun w G2 H2 z M2 e2 R2 a2 q2 => k w G2 H2 z M2 (e1.trans e2) R2 a2 q2) (kx.mono e1)) kx
theorem zw_notV (h : ZW K E ta S M (fun z M1 => ∃ b, z = .d (.bool b) ∧ Q (.d (.bool (!b))) M1) X) : ZW K E (tNotV ta) S M Q X := fun n σ G H R Qv k kx =>
  h n σ G H R _ (fun v G1 H1 z M1 e1 R1 a1 ⟨b, hz, q⟩ => by subst hz; exact ⟨b, dp_bl a1, k _ G1 H1 (.d (.bool (!b))) M1 e1 R1 (Dz.bl (!b)) q⟩) kx
theorem zw_if (h : ZT K E t S M (fun b M1 => (b = true → ZW K E ta S M1 Q X) ∧ (b = false → ZW K E tb S M1 Q X)) X) : ZW K E (tIf t ta tb) S M Q X := fun n σ G H R Qv k kx =>
  h n σ G H R _ (fun b G1 H1 M1 e1 R1 q => by
    cases b with
    | true =>
      show ta σ H1 Qv
      exact q.1 rfl n σ G1 H1 R1 Qv (fun w G2 H2 z M2 e2 R2 a2 q2 => k w G2 H2 z M2 (e1.trans e2) R2 a2 q2) (kx.mono e1)
    | false =>
      show tb σ H1 Qv
      exact q.2 rfl n σ G1 H1 R1 Qv (fun w G2 H2 z M2 e2 R2 a2 q2 => k w G2 H2 z M2 (e1.trans e2) R2 a2 q2) (kx.mono e1)) kx
end
end Z
namespace Z
open PySem PySem.Spec PyProof.Rows L2
open Evl (Ex)
section
variable {K : Fg} {E : L2.St → XK} {e0 : XK} {te ta tb tc : TE} {tA : TA} {tt : TT} {t u : TS} {S S' : Zs} {M M' : Ms} {P : ZP} {Q : QZ} {X : XZ} {n : Sn} {σ : L2.St} {G G' H H' : Hp}
/-! ### statements -/
theorem DOk.xok {D : Ends} (k : DOk K E n G P D) : XOk K (E σ) n σ G P.ex := fun cls d G' H' x S' M' e R a b => k.ex cls d σ G' H' x S' M' e R a b
theorem zs_never (h : False) : ZS K E t S M P := h.elim
theorem zs_next (h : P.nx S M) : ZS K E tNext S M P := fun n σ G H R D k => k.nx σ G H S M (Ex.refl G) R h
theorem zs_seq (h : ZS K E t S M { P with nx := fun S' M' => ZS K E u S' M' P }) : ZS K E (tSeq t u) S M P := fun n σ G H R D k =>
  h n σ G H R _ ⟨fun σ' G' H' S' M' e R' z => z n σ' G' H' R' D (k.mono e), k.rt, k.bk, k.ct, k.ex⟩
theorem zs_asg {i : Nat} (h : ZW K E te S M (fun z M1 => P.nx (S.set i (some z)) M1) P.ex) : ZS K E (tAsg te (gName i)) S M P := fun n σ G H R D k =>
  h n σ G H R _ (fun v G1 H1 z M1 e1 R1 a1 q => k.nx _ G1 H1 _ M1 e1 (R1.set a1) q) k.xok
theorem zs_drop (h : ZW K E te S M (fun _ M1 => P.nx S M1) P.ex) : ZS K E (tDrop te) S M P := fun n σ G H R D k =>
  h n σ G H R _ (fun v G1 H1 z M1 e1 R1 a1 q => k.nx _ G1 H1 S M1 e1 R1 q) k.xok
theorem zs_ret (h : ZW K E te S M P.rt P.ex) : ZS K E (tRet te) S M P := fun n σ G H R D k =>
  h n σ G H R _ (fun v G1 H1 z M1 e1 R1 a1 q => k.rt v σ G1 H1 z S M1 e1 R1 a1 q) k.xok
theorem zs_retN (h : P.rt (.d .none) M) : ZS K E tRetN S M P := fun n σ G H R D k => k.rt .non σ G H (.d .none) S M (Ex.refl G) R Dz.non h
theorem zs_if (h : ZT K E tt S M (fun b M1 => (b = true → ZS K E t S M1 P) ∧ (b = false → ZS K E u S M1 P)) P.ex) : ZS K E (tIfS tt t u) S M P := fun n σ G H R D k =>
  h n σ G H R _ (fun b G1 H1 M1 e1 R1 q => by
    cases b with
    | true =>
      show t D σ H1
      exact q.1 rfl n σ G1 H1 R1 D (k.mono e1)
    | false =>
      show u D σ H1
      exact q.2 rfl n σ G1 H1 R1 D (k.mono e1)) k.xok
theorem zs_aug {i : Nat} {f : Int → Int → Int} {a : Int} (hs : S[i]? = some (some (.d (.int a)))) (h : ZW K E te S M (fun z M1 => ∃ b, z = .d (.int b) ∧ P.nx (S.set i (some (.d (.int (f a b))))) M1) P.ex) : ZS K E (tAug i te (ipI f)) S M P := fun n σ G H R D k => by
  obtain ⟨v, h1, h2⟩ := R.sl i _ hs
  have e := dp_int h2
  subst e
  refine ⟨_, h1, h n σ G H R _ (fun v G1 H1 z M1 e1 R1 a1 ⟨b, hz, q⟩ => ?_) k.xok⟩
  subst hz
  exact ⟨a, b, rfl, dp_int a1, k.nx _ G1 H1 _ M1 e1 (R1.set (v := .int (f a b)) (z := .d (.int (f a b))) (Dz.int _)) q⟩
/-- what holds of the state may be weakened ahead of a statement -/
theorem zs_weak (h : ZS K E t S' M' P) (hl : S'.length = S.length) (hs : ∀ (i : Nat) (z : ZV), S'[i]? = some (some z) → S[i]? = some (some z)) (hm : M'.Sublist M) : ZS K E t S M P := fun n σ G H R D k =>
  h n σ G H ((R.weak hl hs).drop hm) D k
/-- a row[i] = e over an own list -/
theorem zs_setL {to ti : TE} (h : ZW K E te S M (fun z M1 => ∃ d, z = .d d ∧ ZW K E to S M1 (fun o M2 => ZW K E ti S M2 (fun y M3 => ∃ p b xs k j M4, o = .c p ∧ y = .d (.int k) ∧ ixN xs.length k = some j ∧ Upd1 p b (.lst xs) (.lst (xs.set j d)) M3 M4 ∧ P.nx S M4) P.ex) P.ex) P.ex) :
    ZS K E (tAsg te (gSub to ti rSetL)) S M P := fun n σ G H R D k =>
  h n σ G H R _ (fun v G1 H1 z M1 e1 R1 a1 ⟨d, hz, h2⟩ => by
    subst hz
    refine h2 n σ G1 H1 R1 _ (fun o G2 H2 zo M2 e2 R2 a2 h3 => h3 n σ G2 H2 R2 _ (fun y G3 H3 zi M3 e3 R3 a3 ⟨p, b, xs, kk, j, M4, ho, hy, hj, hu, q⟩ => ?_) (XOk.mono k.xok ((e1.trans e2)))) (XOk.mono k.xok e1)
    subst ho hy
    have ev : o = .ref p := a2
    subst ev
    obtain ⟨_, ws, h4, h5⟩ := R3.ce p b _ hu.mem
    exact ⟨p, ws, kk, j, rfl, dp_int a3, h4, by rw [dpa_len h5]; exact hj, k.nx _ G3 _ S M4 ((e1.trans e2).trans e3) (R3.putLst hu (dpa_set (dp_mono (e2.trans e3) a1) j h5)) q⟩) k.xok

theorem zs_par {i j : Nat} (h : ZA K E tA S M (fun zs M1 => ∃ z w, zs = [z, w] ∧ P.nx ((S.set i (some z)).set j (some w)) M1) P.ex) : ZS K E (tPar i j tA) S M P := fun n σ G H R D k =>
  h n σ G H R _ (fun vs G1 H1 zs M1 e1 R1 a1 ⟨z, w, hz, q⟩ => by
    subst hz
    cases a1 with
    | cons a b => cases b with | cons b c => cases c; exact ⟨_, _, rfl, k.nx _ G1 H1 _ M1 e1 ((R1.set a).set b) q⟩) k.xok
def SuiteP (P : ZP) (i : Nat) : ZP := { P with nx := fun S2 M2 => P.nx (S2.set i none) M2, bk := fun S2 M2 => P.bk (S2.set i none) M2, ct := fun S2 M2 => P.ct (S2.set i none) M2 }
/-- try: .. except C as n: suite, the suite's slot i -/
theorem zs_try {tb : WX → TS} {c : Value} {i : Nat} {ts : Addr → Value → Option Addr → TS} {Wout : WX}
    (h : ∀ W : WX, ZS K (fun σ cls d H => W cls d σ H) (tb W) S M { P with ex := fun x S' M' => PySem.W.exmOne K (.ref x.cls) c = some true ∧ ∀ a d, ZS K E (ts a (.ref x.cls) d) (S'.set i (some (.e a (.ref x.cls) d x))) M' (SuiteP P i) }) :
    ZS K E (fun D σ H => tb (wAs K c i ts Wout D) D σ H) S M P := fun n σ G H R D k =>
  h (wAs K c i ts Wout D) n σ G H R D ⟨k.nx, k.rt, k.bk, k.ct, fun cls d σ' G' H' x S' M' e R' a ⟨he, hs⟩ => by
    have ec : cls = .ref x.cls := a.1
    subst ec
    refine ⟨true, he, fun _ ad _ => ?_, fun z => nomatch z⟩
    exact hs ad d n _ G' H' (R'.set (v := .ref ad) (z := .e ad (.ref x.cls) d x) ⟨rfl, a⟩) _
      ⟨fun σ2 G2 H2 S2 M2 e2 R2 q => k.nx _ G2 H2 _ M2 (e.trans e2) R2.unset q, fun v σ2 G2 H2 z S2 M2 e2 => k.rt v σ2 G2 H2 z S2 M2 (e.trans e2), fun σ2 G2 H2 S2 M2 e2 R2 q => k.bk _ G2 H2 _ M2 (e.trans e2) R2.unset q,
       fun σ2 G2 H2 S2 M2 e2 R2 q => k.ct _ G2 H2 _ M2 (e.trans e2) R2.unset q, fun cls' d' σ2 G2 H2 x' S2 M2 e2 => k.ex cls' d' σ2 G2 H2 x' S2 M2 (e.trans e2)⟩⟩

/-! ### the defs' promises -/
inductive DOut where
  | ok (d : PyData)
  | ex (x : XD)
/-- a def over data: R its graph -/
def spD (K : Fg) (k : Nat) (R : List PyData → DOut → Prop) : Sp := fun vs H Q E => ∃ (G : Hp) (ds : List PyData) (o : DOut), Ex G H ∧ ds.length = k ∧ DzAll K G vs ds ∧ R ds o ∧
  (∀ d, o = .ok d → ∀ v G' H', Ext [] G H G' H' → Dz K G' v d → Q v H') ∧ (∀ x, o = .ex x → ∀ cls dd G' H', Ext [] G H G' H' → XAt K G' cls dd x → E cls dd H')
/-- a def whose first argument is an own list, which it may write -/
def spC (K : Fg) (k : Nat) (R : List PyData → List PyData → (DOut → List PyData → Prop) → Prop) : Sp := fun vs H Q E => ∃ (G : Hp) (p : Addr) (xs : List PyData) (us : List V) (ds : List PyData) (F : DOut → List PyData → Prop), vs = .ref p :: us ∧ ds.length = k ∧ Ex G H ∧ G p = none ∧ CD.at K G H p (.lst xs) ∧ DzAll K G us ds ∧ R xs ds F ∧
  (∀ o ys, F o ys → (∀ d, o = .ok d → ∀ v G' H', Ext [p] G H G' H' → (∀ a x, H a = some (.own x) → H' a = some (.own x)) → CD.at K G' H' p (.lst ys) → Dz K G' v d → Q v H') ∧
  (∀ x, o = .ex x → ∀ cls dd G' H', Ext [p] G H G' H' → (∀ a x, H a = some (.own x) → H' a = some (.own x)) → CD.at K G' H' p (.lst ys) → XAt K G' cls dd x → E cls dd H'))
/-- a method of an own object: fields before and behind -/
def spO (K : Fg) (C : Addr) (k : Nat) (R : List (Str × ZV) → List PyData → DOut → List (Str × ZV) → Prop) : Sp := fun vs H Q E => ∃ (G : Hp) (p : Addr) (fs : List (Str × ZV)) (us : List V) (ds : List PyData) (o : DOut) (fs' : List (Str × ZV)), vs = .ref p :: us ∧ ds.length = k ∧ Ex G H ∧ G p = none ∧ CD.at K G H p (.obj C fs) ∧ DzAll K G us ds ∧ R fs ds o fs' ∧
  (∀ d, o = .ok d → ∀ v G' H', Ext [p] G H G' H' → (∀ a x, H a = some (.own x) → H' a = some (.own x)) → CD.at K G' H' p (.obj C fs') → Dz K G' v d → Q v H') ∧
  (∀ x, o = .ex x → ∀ cls dd G' H', Ext [p] G H G' H' → (∀ a x, H a = some (.own x) → H' a = some (.own x)) → CD.at K G' H' p (.obj C fs') → XAt K G' cls dd x → E cls dd H')
def PFn (o : DOut) : ZP := ⟨fun _ _ => o = .ok .none, fun z _ => ∃ d, z = .d d ∧ o = .ok d, fun _ _ => False, fun _ _ => False, fun x _ _ => o = .ex x⟩
def PFc (p : Addr) (o : DOut) (c : CD) : ZP := ⟨fun _ M => o = .ok .none ∧ (p, false, c) ∈ M, fun z M => (∃ d, z = .d d ∧ o = .ok d) ∧ (p, false, c) ∈ M, fun _ _ => False, fun _ _ => False, fun x _ M => o = .ex x ∧ (p, false, c) ∈ M⟩
def PFl (p : Addr) (F : DOut → List PyData → Prop) : ZP := ⟨fun _ M => ∃ ys, F (.ok .none) ys ∧ (p, false, .lst ys) ∈ M, fun z M => ∃ d ys, z = .d d ∧ F (.ok d) ys ∧ (p, false, .lst ys) ∈ M, fun _ _ => False, fun _ _ => False, fun x _ M => ∃ ys, F (.ex x) ys ∧ (p, false, .lst ys) ∈ M⟩
def stS (ds : List PyData) : Zs := ds.map fun d => some (.d d)
theorem stS_get {vs : List V} {ds : List PyData} (h : DzAll K G vs ds) (k : Nat) : ∀ (i : Nat) (z : ZV), (stS ds ++ List.replicate k none)[i]? = some (some z) → ∃ v, (vs.map some ++ List.replicate k none)[i]? = some (some v) ∧ ZV.at K G v z := fun i z e => by
  have hl := dpa_len h
  by_cases hi : i < ds.length
  · rw [List.getElem?_append_left (by simpa [stS] using hi)] at e
    simp only [stS, List.getElem?_map] at e
    cases q : ds[i]? with
    | none => rw [q] at e; cases e
    | some d =>
      rw [q] at e
      simp only [Option.map_some, Option.some.injEq] at e
      subst e
      obtain ⟨v, h1, h2⟩ := dpa_get h q
      refine ⟨v, ?_, h2⟩
      rw [List.getElem?_append_left (by simpa [hl] using hi), List.getElem?_map, h1]
      rfl
  · rw [List.getElem?_append_right (by simpa [stS] using hi), List.getElem?_replicate] at e
    split at e <;> cases e
theorem rel_start {N : List Str} {vs : List V} {ds : List PyData} (e : Ex G H) (h : DzAll K G vs ds) : Rel K ⟨G, H, []⟩ (stS ds ++ List.replicate (N.length - ds.length) none) [] (L2.start N vs) G H where
  ex := e
  len := by unfold L2.start; simp [stS, dpa_len h]
  sl := fun i z q => by
    unfold L2.start
    rw [dpa_len h]
    exact stS_get h _ i z q
  nd := List.nodup_nil
  ce := fun _ _ _ q => by simp at q
  g0 := Ex.refl G
  h0 := fun _ _ q _ => q
  lv := fun _ o q => ⟨o, q⟩
  f0 := fun _ _ _ q => q
  a0 := fun _ _ q => by simp at q
  o0 := fun _ _ q => by simp at q
theorem rel_startC {N : List Str} {p : Addr} {c : CD} {vs : List V} {ds : List PyData} (e : Ex G H) (hp : G p = none) (hc : CD.at K G H p c) (h : DzAll K G vs ds) :
    Rel K ⟨G, H, [p]⟩ (some (.c p) :: (stS ds ++ List.replicate (N.length - (ds.length + 1)) none)) [(p, false, c)] (L2.start N (.ref p :: vs)) G H where
  ex := e
  len := by unfold L2.start; simp [stS, dpa_len h]
  sl := fun i z q => by
    unfold L2.start
    cases i with
    | zero => simp at q; subst q; exact ⟨.ref p, rfl, rfl⟩
    | succ i =>
      simp only [List.getElem?_cons_succ] at q
      obtain ⟨v, h1, h2⟩ := stS_get h _ i z q
      exact ⟨v, by simpa [dpa_len h] using h1, h2⟩
  nd := by simp
  ce := fun q b c' hm => by
    simp at hm
    obtain ⟨rfl, rfl, rfl⟩ := hm
    exact ⟨hp, hc⟩
  g0 := Ex.refl G
  h0 := fun _ _ q _ => q
  lv := fun _ o q => ⟨o, q⟩
  f0 := fun _ _ _ q => q
  a0 := fun q c' hm => by simp at hm; simp [hm.1]
  o0 := fun q c' hm => by simp at hm
theorem fn_D {R : List PyData → DOut → Prop} {k : Nat} {N : List Str} {vs : List V} {Qv : VK} (h : spD K k R vs H Qv e0) (b : ∀ ds o, ds.length = k → R ds o → ZS K (fun _ => e0) t (stS ds ++ List.replicate (N.length - ds.length) none) [] (PFn o)) : t { nx := fun _ H' => Qv .non H', rt := Qv } (L2.start N vs) H := by
  obtain ⟨G, ds, o, e, hk, hd, hR, q1, q2⟩ := h
  refine b ds o hk hR ⟨G, H, []⟩ _ G H (rel_start e hd) _ ⟨fun σ' G' H' S' M' _ R z => ?_, fun v σ' G' H' z S' M' _ R a z' => ?_, fun _ _ _ _ _ _ _ z => z.elim, fun _ _ _ _ _ _ _ z => z.elim, fun cls d σ' G' H' x S' M' _ R a z => ?_⟩
  · exact q1 _ z .non G' H' R.ext .non
  · obtain ⟨d, rfl, z'⟩ := z'
    exact q1 _ z' v G' H' R.ext a
  · exact q2 _ z cls d G' H' R.ext a
theorem Rel.own (R : Rel K n S M σ G H) (hk : ∀ a x, n.H a = some (.own x) → a ∉ n.A) : ∀ a x, n.H a = some (.own x) → H a = some (.own x) := fun a x h => R.h0 a _ h (hk a x h)
theorem fn_C {R : List PyData → List PyData → (DOut → List PyData → Prop) → Prop} {kk : Nat} {N : List Str} {vs : List V} {Qv : VK} (h : spC K kk R vs H Qv e0)
    (b : ∀ p xs ds F, ds.length = kk → R xs ds F → ZS K (fun _ => e0) t (some (.c p) :: (stS ds ++ List.replicate (N.length - (ds.length + 1)) none)) [(p, false, .lst xs)] (PFl p F)) : t { nx := fun _ H' => Qv .non H', rt := Qv } (L2.start N vs) H := by
  obtain ⟨G, p, xs, us, ds, F, rfl, hkk, e, hp, hc, hd, hR, qq⟩ := h
  have hk : ∀ a x, H a = some (.own x) → a ∉ [p] := fun a x h1 z => by
    have z : a = p := by simpa using z
    obtain ⟨ws, h2, _⟩ := hc
    rw [z, h2] at h1
    cases h1
  refine b p xs ds F hkk hR ⟨G, H, [p]⟩ _ G H (rel_startC e hp hc hd) _ ⟨fun σ' G' H' S' M' _ R z => ?_, fun v σ' G' H' z S' M' _ R a z' => ?_, fun _ _ _ _ _ _ _ z => z.elim, fun _ _ _ _ _ _ _ z => z.elim, fun cls d σ' G' H' x S' M' _ R a z => ?_⟩
  · obtain ⟨ys, z1, z2⟩ := z
    exact (qq _ ys z1).1 _ rfl .non G' H' R.ext (R.own hk) (R.ce _ _ _ z2).2 .non
  · obtain ⟨d, ys, rfl, z1, z2⟩ := z'
    exact (qq _ ys z1).1 _ rfl v G' H' R.ext (R.own hk) (R.ce _ _ _ z2).2 a
  · obtain ⟨ys, z1, z2⟩ := z
    exact (qq _ ys z1).2 _ rfl cls d G' H' R.ext (R.own hk) (R.ce _ _ _ z2).2 a
theorem fn_O {C : Addr} {R : List (Str × ZV) → List PyData → DOut → List (Str × ZV) → Prop} {kk : Nat} {N : List Str} {vs : List V} {Qv : VK} (h : spO K C kk R vs H Qv e0)
    (b : ∀ p fs ds o fs', ds.length = kk → R fs ds o fs' → ZS K (fun _ => e0) t (some (.c p) :: (stS ds ++ List.replicate (N.length - (ds.length + 1)) none)) [(p, false, .obj C fs)] (PFc p o (.obj C fs'))) : t { nx := fun _ H' => Qv .non H', rt := Qv } (L2.start N vs) H := by
  obtain ⟨G, p, xs, us, ds, o, ys, rfl, hkk, e, hp, hc, hd, hR, q1, q2⟩ := h
  have hk : ∀ a x, H a = some (.own x) → a ∉ [p] := fun a x h1 z => by
    have z : a = p := by simpa using z
    obtain ⟨dx, ws, h2, _⟩ := hc
    rw [z, h2] at h1
    cases h1
  refine b p xs ds o ys hkk hR ⟨G, H, [p]⟩ _ G H (rel_startC e hp hc hd) _ ⟨fun σ' G' H' S' M' _ R z => ?_, fun v σ' G' H' z S' M' _ R a z' => ?_, fun _ _ _ _ _ _ _ z => z.elim, fun _ _ _ _ _ _ _ z => z.elim, fun cls d σ' G' H' x S' M' _ R a z => ?_⟩
  · exact q1 _ z.1 .non G' H' R.ext (R.own hk) (R.ce _ _ _ z.2).2 .non
  · obtain ⟨⟨d, rfl, z'⟩, zm⟩ := z'
    exact q1 _ z' v G' H' R.ext (R.own hk) (R.ce _ _ _ zm).2 a
  · exact q2 _ z.1 cls d G' H' R.ext (R.own hk) (R.ce _ _ _ z.2).2 a
theorem len_D {R : List PyData → DOut → Prop} {k : Nat} {vs : List V} {Qv : VK} (h : spD K k R vs H Qv e0) : vs.length = k := by
  obtain ⟨G, ds, o, e, hk, hd, h1, _⟩ := h
  rw [dpa_len hd, hk]
theorem len_C {R : List PyData → List PyData → (DOut → List PyData → Prop) → Prop} {k : Nat} {vs : List V} {Qv : VK} (h : spC K k R vs H Qv e0) : vs.length = k + 1 := by
  obtain ⟨G, p, xs, us, ds, F, rfl, hk, e, hp, hc, hd, h1, _⟩ := h
  rw [List.length_cons, dpa_len hd, hk]
theorem len_O {C : Addr} {R : List (Str × ZV) → List PyData → DOut → List (Str × ZV) → Prop} {k : Nat} {vs : List V} {Qv : VK} (h : spO K C k R vs H Qv e0) : vs.length = k + 1 := by
  obtain ⟨G, p, xs, us, ds, o, ys, rfl, hk, e, hp, hc, hd, h1, _⟩ := h
  rw [List.length_cons, dpa_len hd, hk]

/-! ### calls: e0 what is wanted of an exception; E0 nothing (none is raised here) -/
theorem zw_call {ar : Nat} {R : List PyData → DOut → Prop} (h : ZA K (fun _ => e0) tA S M (fun zs M1 => ∃ ds o, AllD zs ds ∧ ds.length = ar ∧ R ds o ∧ (∀ d, o = .ok d → Q (.d d) M1) ∧ (∀ x, o = .ex x → X x S M1)) X) : ZW K (fun _ => e0) (tCall (spD K ar R) [] e0 tA) S M Q X := fun n σ G H Rl Qv k kx =>
  h n σ G H Rl _ (fun vs G1 H1 zs M1 e1 R1 a1 ⟨ds, o, hd, hk, hR, q1, q2⟩ => by
    refine ⟨G1, ds, o, R1.ex, hk, ?_, hR, fun d ho v G' H' e a => k v G' H' (.d d) M1 (e1.trans e.g) (R1.call e) a (q1 d ho), fun x ho cls dd G' H' e a => kx cls dd G' H' x S M1 (e1.trans e.g) (R1.call e) a (q2 x ho)⟩
    rw [List.append_nil]
    exact zall_d (by rw [← hd]; exact a1)) kx
theorem zw_callS {ar : Nat} {R : List PyData → DOut → Prop} (h : ZA K E tA S M (fun zs M1 => ∃ ds o, AllD zs ds ∧ ds.length = ar ∧ R ds o ∧ (∀ d, o = .ok d → Q (.d d) M1) ∧ (∀ x, o = .ex x → X x S M1)) X) : ZW K E (tCallS (spD K ar R) E tA) S M Q X := fun n σ G H Rl Qv k kx =>
  h n σ G H Rl _ (fun vs G1 H1 zs M1 e1 R1 a1 ⟨ds, o, hd, hk, hR, q1, q2⟩ =>
    ⟨G1, ds, o, R1.ex, hk, zall_d (by rw [← hd]; exact a1), hR, fun d ho v G' H' e a => k v G' H' (.d d) M1 (e1.trans e.g) (R1.call e) a (q1 d ho), fun x ho cls dd G' H' e a => kx cls dd G' H' x S M1 (e1.trans e.g) (R1.call e) a (q2 x ho)⟩) kx
theorem zw_call0 {ar : Nat} {R : List PyData → DOut → Prop} (h : ZA K E tA S M (fun zs M1 => ∃ ds d, AllD zs ds ∧ ds.length = ar ∧ R ds (.ok d) ∧ Q (.d d) M1) X) : ZW K E (tCall (spD K ar R) [] E0 tA) S M Q X := fun n σ G H Rl Qv k kx =>
  h n σ G H Rl _ (fun vs G1 H1 zs M1 e1 R1 a1 ⟨ds, d, hd, hk, hR, q1⟩ => by
    refine ⟨G1, ds, .ok d, R1.ex, hk, ?_, hR, fun d' ho v G' H' e a => k v G' H' (.d d') M1 (e1.trans e.g) (R1.call e) a (by cases ho; exact q1), fun x ho => nomatch ho⟩
    rw [List.append_nil]
    exact zall_d (by rw [← hd]; exact a1)) kx
def FC (p : Addr) (b : Bool) (xs : List PyData) (S : Zs) (M1 : Ms) (Q : QZ) (X : XZ) : DOut → List PyData → Prop := fun o ys => ∃ M2, Upd1 p b (.lst xs) (.lst ys) M1 M2 ∧ (∀ d, o = .ok d → Q (.d d) M2) ∧ (∀ x, o = .ex x → X x S M2)
theorem zw_callC {ar : Nat} {R : List PyData → List PyData → (DOut → List PyData → Prop) → Prop} (h : ZA K (fun _ => e0) tA S M (fun zs M1 => ∃ p b xs zs' ds, zs = .c p :: zs' ∧ (p, b, CD.lst xs) ∈ M1 ∧ AllD zs' ds ∧ ds.length = ar ∧ R xs ds (FC p b xs S M1 Q X)) X) : ZW K (fun _ => e0) (tCall (spC K ar R) [] e0 tA) S M Q X := fun n σ G H Rl Qv k kx =>
  h n σ G H Rl _ (fun vs G1 H1 zs M1 e1 R1 a1 ⟨p, b, xs, zs', ds, hz, hm, hd, hk, hR⟩ => by
    subst hz
    cases a1 with
    | cons a1 a2 =>
      have ev := a1
      obtain ⟨hp, hc⟩ := R1.ce p b _ hm
      subst ev
      refine ⟨G1, p, xs, _, ds, _, by rw [List.append_nil], hk, R1.ex, hp, hc, zall_d (by rw [← hd]; exact a2), hR, fun o ys ⟨M2, hu, q1, q2⟩ => ⟨fun d ho v G' H' e own hc' a => k v G' H' (.d d) M2 (e1.trans e.g) (R1.call1 e hu own hc') a (q1 d ho), fun x ho cls dd G' H' e own hc' a => kx cls dd G' H' x S M2 (e1.trans e.g) (R1.call1 e hu own hc') a (q2 x ho)⟩⟩) kx
def FC0 (p : Addr) (b : Bool) (xs : List PyData) (M1 : Ms) (Q : QZ) : DOut → List PyData → Prop := fun o ys => ∃ d M2, o = .ok d ∧ Upd1 p b (.lst xs) (.lst ys) M1 M2 ∧ Q (.d d) M2
theorem zw_callC0 {ar : Nat} {R : List PyData → List PyData → (DOut → List PyData → Prop) → Prop} (h : ZA K E tA S M (fun zs M1 => ∃ p b xs zs' ds, zs = .c p :: zs' ∧ (p, b, CD.lst xs) ∈ M1 ∧ AllD zs' ds ∧ ds.length = ar ∧ R xs ds (FC0 p b xs M1 Q)) X) : ZW K E (tCall (spC K ar R) [] E0 tA) S M Q X := fun n σ G H Rl Qv k kx =>
  h n σ G H Rl _ (fun vs G1 H1 zs M1 e1 R1 a1 ⟨p, b, xs, zs', ds, hz, hm, hd, hk, hR⟩ => by
    subst hz
    cases a1 with
    | cons a1 a2 =>
      have ev := a1
      obtain ⟨hp, hc⟩ := R1.ce p b _ hm
      subst ev
      refine ⟨G1, p, xs, _, ds, _, by rw [List.append_nil], hk, R1.ex, hp, hc, zall_d (by rw [← hd]; exact a2), hR, fun o ys ⟨d, M2, ho, hu, q⟩ => ?_⟩
      subst ho
      refine ⟨fun d' ho v G' H' e own hc' a => ?_, fun x ho => nomatch ho⟩
      cases ho
      exact k v G' H' (.d d) M2 (e1.trans e.g) (R1.call1 e hu own hc') a q) kx
/-- o.m(..), o an own object of the class C -/
theorem lookup_paired {fv : List (Str × V)} {fs : List (Str × ZV)} (h : Paired (fun (a : Str × V) (b : Str × ZV) => a.1 = b.1 ∧ ZV.at K G a.2 b.2) fv fs) (m : Str) : (fs.lookup m = none → fv.lookup m = none) ∧ (∀ z, fs.lookup m = some z → ∃ v, fv.lookup m = some v ∧ ZV.at K G v z) := by
  induction h with
  | nil => exact ⟨fun _ => rfl, fun z e => by cases e⟩
  | @cons a b l1 l2 q t ih =>
    obtain ⟨a1, a2⟩ := a
    obtain ⟨b1, b2⟩ := b
    obtain ⟨q1, q2⟩ := q
    dsimp only at q1 q2
    subst q1
    rw [List.lookup_cons, List.lookup_cons]
    split
    · refine ⟨fun e => (nomatch e), fun z e => ?_⟩
      have e := Option.some.inj e
      subst e
      exact ⟨_, rfl, q2⟩
    · exact ih
theorem zw_methO {ar : Nat} {C : Addr} {m : Str} {R : List (Str × ZV) → List PyData → DOut → List (Str × ZV) → Prop} (h : ZW K (fun _ => e0) te S M (fun z M0 => ∃ p, z = .c p ∧ (∃ b fs0, (p, b, CD.obj C fs0) ∈ M0 ∧ fs0.lookup m = none) ∧ ZA K (fun _ => e0) tA S M0 (fun zs M1 => ∃ b fs ds o fs' M2, AllD zs ds ∧ ds.length = ar ∧ R fs ds o fs' ∧ Upd1 p b (.obj C fs) (.obj C fs') M1 M2 ∧ (∀ d, o = .ok d → Q (.d d) M2) ∧ (∀ x, o = .ex x → X x S M2)) X) X) :
    ZW K (fun _ => e0) (tMeth C m (spO K C ar R) [] e0 te tA) S M Q X := fun n σ G H Rl Qv k kx =>
  h n σ G H Rl _ (fun v G0 H0 z M0 e0' R0 a0 ⟨p, hz, ⟨b0, fs0, hm0, hl0⟩, h2⟩ => by
    subst hz
    have ev : v = .ref p := a0
    subst ev
    obtain ⟨_, dx, fv, h3, h4, h5, h6⟩ := R0.ce p b0 _ hm0
    refine ⟨p, dx, fv, rfl, h3, (lookup_paired h6 m).1 hl0, h2 n σ G0 H0 R0 _ (fun vs G1 H1 zs M1 e1 R1 a1 ⟨b, fs, ds, o, fs', M2, hd, hk, hR, hu, q1, q2⟩ => ?_) (kx.mono e0')⟩
    obtain ⟨hp, hc⟩ := R1.ce p b _ hu.mem
    refine ⟨G1, p, fs, _, ds, o, fs', by rw [List.append_nil], hk, R1.ex, hp, hc, zall_d (by rw [← hd]; exact a1), hR, fun d ho v G' H' e own hc' a => k v G' H' (.d d) M2 ((e0'.trans e1).trans e.g) (R1.call1 e hu own hc') a (q1 d ho), fun x ho cls dd G' H' e own hc' a => kx cls dd G' H' x S M2 ((e0'.trans e1).trans e.g) (R1.call1 e hu own hc') a (q2 x ho)⟩) kx
end
end Z
namespace Z
open PySem PySem.Spec PyProof.Rows L2
open Evl (Ex)
section
variable {K : Fg} {E : L2.St → XK} {e0 : XK} {te ta tb tc : TE} {tA : TA} {tt : TT} {t u : TS} {S S' : Zs} {M M' : Ms} {P : ZP} {Q : QZ} {X : XZ} {n : Sn} {σ : L2.St} {G G' H H' : Hp}
/-! ### membership of cells -/
theorem m0 {q : Addr × Bool × CD} {M : Ms} : q ∈ q :: M := List.mem_cons_self
theorem m1 {q r : Addr × Bool × CD} {M : Ms} (h : q ∈ M) : q ∈ r :: M := List.mem_cons_of_mem _ h

/-! ### subscripts -/
def dIx : PyData → Int → Option PyData
  | .list ds, i => atI ds i
  | .tuple ds, i => atI ds i
  | .str z, i => if z.length ≤ sizeLine then (atI z.cps.toList i).map fun c => .str ⟨#[c]⟩ else none
  | _, _ => none
theorem dpa_at {vs : List V} {ds : List PyData} {i : Int} {d : PyData} (h : DzAll K G vs ds) (e : atI ds i = some d) : ∃ v, atI vs i = some v ∧ Dz K G v d := by
  unfold atI at e ⊢
  rw [← dpa_len h] at e
  cases q : ixN vs.length i with
  | none => rw [q] at e; cases e
  | some j =>
    rw [q] at e
    exact dpa_get h e
theorem zo_ix {x d : PyData} {i : Int} (h : dIx x i = some d) (q : Q (.d d) M) : ZO K (rIx K) (.d x) (.d (.int i)) M Q :=
  zo_val (z := .d d) (fun G H v u e a b => by
    have eu := dp_int b
    subst eu
    cases x with
    | list ds =>
      obtain ⟨p, xs, rfl, h1, h2⟩ := dp_lst a
      obtain ⟨w, h3, h4⟩ := dpa_at h2 h
      exact ⟨w, h4, fun Qv k => .inl ⟨p, xs, i, w, rfl, rfl, Evl.ex_l e h1, h3, k⟩⟩
    | tuple ds =>
      obtain ⟨p, xs, rfl, h1, h2⟩ := dp_tup a
      obtain ⟨w, h3, h4⟩ := dpa_at h2 h
      exact ⟨w, h4, fun Qv k => .inr (.inl ⟨p, xs, i, w, rfl, rfl, Evl.ex_t e h1, h3, k⟩)⟩
    | str z =>
      have ev := dp_str a
      subst ev
      simp only [dIx] at h
      split at h
      · rename_i hl
        cases q2 : atI z.cps.toList i with
        | none => rw [q2] at h; cases h
        | some c =>
          rw [q2] at h
          cases h
          exact ⟨.str ⟨#[c]⟩, Dz.str _, fun Qv k => .inr (.inr ⟨z, i, c, rfl, rfl, hl, q2, k⟩)⟩
      · cases h
    | none => cases h
    | bool _ => cases h
    | int _ => cases h
    | dict _ => cases h) q
theorem zo_ixC {p : Addr} {b : Bool} {xs : List PyData} {i : Int} {d : PyData} (hm : (p, b, CD.lst xs) ∈ M) (h : atI xs i = some d) (q : Q (.d d) M) : ZO K (rIx K) (.c p) (.d (.int i)) M Q := fun n S σ G H R v u a b' Qv k => by
  have eu := dp_int b'
  have ev : v = .ref p := a
  subst eu ev
  obtain ⟨_, ws, h1, h2⟩ := R.ce p b _ hm
  obtain ⟨w, h3, h4⟩ := dpa_at h2 h
  exact .inl ⟨p, ws, i, w, rfl, rfl, Evl.sq_of h1, h3, k w G H (.d d) M (Ex.refl G) R h4 q⟩
theorem atI0 {α : Type} {x : α} {r : List α} : atI (x :: r) 0 = some x := atI_nat (j := 0) rfl
theorem atI1 {α : Type} {x y : α} {r : List α} : atI (x :: y :: r) 1 = some y := atI_nat (j := 1) rfl
theorem atI2 {α : Type} {x y z : α} {r : List α} : atI (x :: y :: z :: r) 2 = some z := atI_nat (j := 2) rfl
theorem atI3 {α : Type} {x y z w : α} {r : List α} : atI (x :: y :: z :: w :: r) 3 = some w := atI_nat (j := 3) rfl

/-! ### built-in functions over data -/
/-- a call on values, over data -/
def ZC (K : Fg) (r : List V → Hp → VK → Prop) (zs : List ZV) (M : Ms) (Q : QZ) : Prop := ∀ (n : Sn) (S : Zs) (σ : L2.St) (G H : Hp), Rel K n S M σ G H → ∀ vs, ZAll K G vs zs → ∀ Qv : VK,
  (∀ w G' H' z M', Ex G G' → Rel K n S M' σ G' H' → ZV.at K G' w z → Q z M' → Qv w H') → r vs H Qv
theorem zw_cb {r : List V → Hp → VK → Prop} (h : ZA K E tA S M (fun zs M1 => ZC K r zs M1 Q) X) : ZW K E (tCB r tA) S M Q X := fun n σ G H R Qv k kx =>
  h n σ G H R _ (fun vs G1 H1 zs M1 e1 R1 a1 h1 => h1 n S σ G1 H1 R1 vs a1 Qv fun w G3 H3 z M3 e3 R3 a3 q => k w G3 H3 z M3 (e1.trans e3) R3 a3 q) kx
theorem zc_val {r : List V → Hp → VK → Prop} {zs : List ZV} {z : ZV} (h : ∀ G H vs, Ex G H → ZAll K G vs zs → ∃ w, ZV.at K G w z ∧ ∀ Qv : VK, Qv w H → r vs H Qv) (q : Q z M) : ZC K r zs M Q := fun n S σ G H R vs a Qv k => by
  obtain ⟨w, h1, h2⟩ := h G H vs R.ex a
  exact h2 Qv (k w G H z M (Ex.refl G) R h1 q)
theorem zall1 {vs : List V} {z : ZV} (h : ZAll K G vs [z]) : ∃ v, vs = [v] ∧ ZV.at K G v z := by
  cases h with
  | cons a b => cases b; exact ⟨_, rfl, a⟩
theorem zall2 {vs : List V} {z y : ZV} (h : ZAll K G vs [z, y]) : ∃ v u, vs = [v, u] ∧ ZV.at K G v z ∧ ZV.at K G u y := by
  cases h with
  | cons a b => cases b with | cons b c => cases c; exact ⟨_, _, rfl, a, b⟩
def dLen : PyData → Option Nat
  | .list ds => some ds.length
  | .tuple ds => some ds.length
  | .str z => if z.length ≤ sizeLine then some z.length else none
  | _ => none
abbrev rLenA (K : Fg) : List V → Hp → VK → Prop := fun xs H Q => ∃ x n, xs = [x] ∧ LenV K x H n ∧ Q (.int (n : Nat)) H
theorem zc_len {x : PyData} {k : Nat} (h : dLen x = some k) (q : Q (.d (.int (k : Nat))) M) : ZC K (rLenA K) [.d x] M Q := zc_val (z := .d (.int (k : Nat))) (fun G H vs e a => by
  obtain ⟨v, rfl, av⟩ := zall1 a
  refine ⟨.int (k : Nat), Dz.int _, fun Qv hq => ⟨v, k, rfl, ?_, hq⟩⟩
  cases x with
  | list ds => obtain ⟨p, xs, rfl, h1, h2⟩ := dp_lst av; cases h; exact .inl ⟨xs, Evl.ex_l e h1, (dpa_len h2).symm⟩
  | tuple ds => obtain ⟨p, xs, rfl, h1, h2⟩ := dp_tup av; cases h; exact .inr ⟨xs, Evl.ex_t e h1, (dpa_len h2).symm⟩
  | str z =>
    have ev := dp_str av
    subst ev
    simp only [dLen] at h
    split at h
    · rename_i hl; cases h; exact ⟨hl, rfl⟩
    · cases h
  | none => cases h
  | bool _ => cases h
  | int _ => cases h
  | dict _ => cases h) q
theorem zc_lenC {p : Addr} {b : Bool} {xs : List PyData} (hm : (p, b, CD.lst xs) ∈ M) (q : Q (.d (.int (xs.length : Nat))) M) : ZC K (rLenA K) [.c p] M Q := fun n S σ G H R vs a Qv k => by
  obtain ⟨v, rfl, av⟩ := zall1 a
  have ev : v = .ref p := av
  subst ev
  obtain ⟨_, ws, h1, h2⟩ := R.ce p b _ hm
  exact ⟨_, xs.length, rfl, .inl ⟨ws, Evl.sq_of h1, (dpa_len h2).symm⟩, k (.int (xs.length : Nat)) G H (.d (.int (xs.length : Nat))) M (Ex.refl G) R (Dz.int _) q⟩
/-- int(an int) -/
abbrev rInt1 : List V → Hp → VK → Prop := fun xs H Q => (∃ i, xs = [.int i] ∧ Q (.int i) H) ∨ ∃ k, xs = [.bl k] ∧ Q (.int (if k then 1 else 0)) H
abbrev rIntS : List V → Hp → VK → Prop := fun xs H Q => ∃ a n, xs = [.str a] ∧ PySem.intText? a = some n ∧ a.length ≤ 640 ∧ Q (.int n) H
abbrev rIntA : List V → Hp → VK → Prop := fun xs H Q => rInt1 xs H Q ∨ rIntS xs H Q
theorem zc_int {i : Int} (q : Q (.d (.int i)) M) : ZC K rIntA [.d (.int i)] M Q := zc_val (z := .d (.int i)) (fun G H vs e a => by
  obtain ⟨v, rfl, av⟩ := zall1 a
  exact ⟨v, av, fun Qv hq => .inl (.inl ⟨i, by rw [dp_int av], by rw [← dp_int av]; exact hq⟩)⟩) q
theorem zc_intS {x : Str} {i : Int} (h : PySem.intText? x = some i) (hl : x.length ≤ 640) (q : Q (.d (.int i)) M) : ZC K rIntA [.d (.str x)] M Q := zc_val (z := .d (.int i)) (fun G H vs e a => by
  obtain ⟨v, rfl, av⟩ := zall1 a
  exact ⟨.int i, Dz.int _, fun Qv hq => .inr ⟨x, i, by rw [dp_str av], h, hl, hq⟩⟩) q
abbrev rStrI : List V → Hp → VK → Prop := fun xs H Q => ∃ i, xs = [.int i] ∧ i.natAbs.log2 < 1920 ∧ Q (.str (toString i)) H
theorem zc_strI {i : Int} (h : i.natAbs.log2 < 1920) (q : Q (.d (.str (toString i))) M) : ZC K rStrI [.d (.int i)] M Q := zc_val (z := .d (.str (toString i))) (fun G H vs e a => by
  obtain ⟨v, rfl, av⟩ := zall1 a
  exact ⟨.str (toString i), Dz.str _, fun Qv hq => ⟨i, by rw [dp_int av], h, hq⟩⟩) q
/-- tuple(a list), tuple(a tuple) -/
abbrev rTupOf (K : Fg) : List V → Hp → VK → Prop := fun xs H Q => ∃ p ys, xs = [.ref p] ∧ ((SqL K H p ys ∧ ∀ l, H l = none → Q (.ref l) (upd H l (.tup ys))) ∨ (SqT K H p ys ∧ Q (.ref p) H))
theorem zc_tupL {xs : List PyData} (q : Q (.d (.tuple xs)) M) : ZC K (rTupOf K) [.d (.list xs)] M Q := fun n S σ G H R vs a Qv k => by
  obtain ⟨v, rfl, av⟩ := zall1 a
  obtain ⟨p, ys, rfl, h1, h2⟩ := dp_lst av
  refine ⟨p, ys, rfl, .inl ⟨Evl.ex_l R.ex h1, fun l hl => ?_⟩⟩
  have g := ex_gnone R.ex hl
  exact k (.ref l) _ _ (.d (.tuple xs)) M (Ex.new g) (R.new hl (fun _ z => nomatch z)) (Dz.tup (.inl upd_same) (dpAll_mono (Ex.new g) h2)) q
theorem zc_tupT {xs : List PyData} (q : Q (.d (.tuple xs)) M) : ZC K (rTupOf K) [.d (.tuple xs)] M Q := zc_val (z := .d (.tuple xs)) (fun G H vs e a => by
  obtain ⟨v, rfl, av⟩ := zall1 a
  obtain ⟨p, ys, rfl, h1, h2⟩ := dp_tup av
  exact ⟨.ref p, av, fun Qv hq => ⟨p, ys, rfl, .inr ⟨Evl.ex_t e h1, hq⟩⟩⟩) q
theorem zc_tupC {p : Addr} {b : Bool} {xs : List PyData} (hm : (p, b, CD.lst xs) ∈ M) (q : Q (.d (.tuple xs)) M) : ZC K (rTupOf K) [.c p] M Q := fun n S σ G H R vs a Qv k => by
  obtain ⟨v, rfl, av⟩ := zall1 a
  have ev : v = .ref p := av
  subst ev
  obtain ⟨_, ys, h1, h2⟩ := R.ce p b _ hm
  refine ⟨p, ys, rfl, .inl ⟨Evl.sq_of h1, fun l hl => ?_⟩⟩
  have g := ex_gnone R.ex hl
  exact k (.ref l) _ _ (.d (.tuple xs)) M (Ex.new g) (R.new hl (fun _ z => nomatch z)) (Dz.tup (.inl upd_same) (dpAll_mono (Ex.new g) h2)) q
/-- isinstance(x, a built-in class) -/
def dTy : PyData → String
  | .none => "NoneType"
  | .bool _ => "bool"
  | .int _ => "int"
  | .str _ => "str"
  | .list _ => "list"
  | .tuple _ => "tuple"
  | .dict _ => "dict"
theorem rd_tyL {a : Addr} {xs : List V} (h : SqL K H a xs) : TyX K H (.ref a) (.type "list") := by
  rcases h with (h | ⟨o, h⟩) | ⟨o, its, k, h1, h2, _⟩
  · exact .base (.lst h)
  · exact .base (.frz h)
  · exact .kList h1 h2
theorem rd_tyT {a : Addr} {xs : List V} (h : SqT K H a xs) : TyX K H (.ref a) (.type "tuple") := by
  rcases h with (h | ⟨o, h⟩) | ⟨o, its, k, h1, h2, _⟩
  · exact .base (.tup h)
  · exact .fTuple h
  · exact .kTuple h1 h2
theorem dp_ty {x : PyData} {v : V} (e : Ex G H) (h : Dz K G v x) : TyX K H v (.type (dTy x)) := by
  cases h with
  | non => exact .base .non
  | bl b => exact .base (.bl b)
  | int i => exact .base (.int i)
  | str s => exact .base (.str s)
  | lst s a => exact rd_tyL (Evl.ex_l e s)
  | tup s a => exact rd_tyT (Evl.ex_t e s.sq)
theorem zt_isi {T : String} {tcl : TE} (hcl : tcl = tC (.ty T)) (h : ZW K E te S M (fun z M1 => ∃ x b, z = .d x ∧ kitB (dTy x) T = some b ∧ Q (.d (.bool b)) M1) X) : ZW K E (tCB (rIsi K) (tCons te (tCons tcl tNil))) S M Q X := fun n σ G H R Qv k kx =>
  h n σ G H R _ (fun v G1 H1 z M1 e1 R1 a1 ⟨x, b, hz, hb, q⟩ => by
    subst hz hcl
    exact ⟨v, .ty T, .type (dTy x), .type T, b, rfl, .ty T, dp_ty R1.ex a1, kit_ty hb, k _ G1 H1 (.d (.bool b)) M1 e1 R1 (Dz.bl b) q⟩) kx
/-- isinstance(x, (T1, T2)) -/
theorem kitAny2 {a T1 T2 : String} {b1 b2 : Bool} (h1 : kitB a T1 = some b1) (h2 : kitB a T2 = some b2) : PySem.W.kitAny K (.type a) [.type T1, .type T2] = some (b1 || b2) := by
  refine kitAny_cons (kit_ty h1) (fun e => ?_) (fun e => by rw [e]; rfl)
  refine kitAny_cons (kit_ty h2) (fun e2 => ?_) (fun e2 => by rw [e2, Bool.or_true])
  rw [e, e2]
  rfl
theorem zt_isi2 {T1 T2 : String} (h : ZW K E te S M (fun z M1 => ∃ x b1 b2, z = .d x ∧ kitB (dTy x) T1 = some b1 ∧ kitB (dTy x) T2 = some b2 ∧ Q (.d (.bool (b1 || b2))) M1) X) :
    ZW K E (tCB (rIsiT K) (tCons te (tCons (tTup (tCons (tC (.ty T1)) (tCons (tC (.ty T2)) tNil))) tNil))) S M Q X := fun n σ G H R Qv k kx =>
  h n σ G H R _ (fun v G1 H1 z M1 e1 R1 a1 ⟨x, b1, b2, hz, hb1, hb2, q⟩ => by
    subst hz
    refine ⟨by show 2 ≤ sizeLine; decide, fun p hp => ?_⟩
    have g := ex_gnone R1.ex hp
    exact ⟨v, p, [.ty T1, .ty T2], .type (dTy x), [.type T1, .type T2], b1 || b2, rfl, upd_same, .cons (.ty T1) (.cons (.ty T2) .nil), dp_ty (R1.ex.trans (Ex.new hp)) a1, kitAny2 hb1 hb2,
      k _ _ _ (.d (.bool (b1 || b2))) M1 (e1.trans (Ex.new g)) (R1.new hp (o := .tup [.ty T1, .ty T2]) (fun _ z => nomatch z)) (Dz.bl _) q⟩) kx

/-! ### lists and tuples glued; x in flat ones -/
theorem zo_catT {xs ys : List PyData} (hl : xs.length + ys.length ≤ sizeLine) (q : Q (.d (.tuple (xs ++ ys))) M) : ZO K (rCatA K) (.d (.tuple xs)) (.d (.tuple ys)) M Q := fun n S σ G H R v u a b Qv k => by
  obtain ⟨p, vs, rfl, h1, h2⟩ := dp_tup a
  obtain ⟨p2, ws, rfl, h3, h4⟩ := dp_tup b
  have l1 := dpa_len h2
  have l2 := dpa_len h4
  refine ⟨p, p2, vs, ws, rfl, rfl, Evl.ex_t R.ex h1, Evl.ex_t R.ex h3, by rw [l1, l2]; exact hl, fun e => ?_, fun _ e => ?_, fun _ _ r hr => ?_⟩
  · subst e
    have e : xs = [] := by cases xs with | nil => rfl | cons _ _ => cases l1
    subst e
    exact k (.ref p2) G H (.d (.tuple ys)) M (Ex.refl G) R b q
  · subst e
    have e : ys = [] := by cases ys with | nil => rfl | cons _ _ => cases l2
    subst e
    rw [List.append_nil] at q
    exact k (.ref p) G H (.d (.tuple xs)) M (Ex.refl G) R a q
  · have g := ex_gnone R.ex hr
    exact k (.ref r) _ _ (.d (.tuple (xs ++ ys))) M (Ex.new g) (R.new hr (fun _ z => nomatch z)) (Dz.tup (.inl upd_same) (dpAll_mono (Ex.new g) (dpa_app h2 h4))) q
theorem zo_catL {p p2 : Addr} {b b2 : Bool} {xs ys : List PyData} (hm : (p, b, CD.lst xs) ∈ M) (hm2 : (p2, b2, CD.lst ys) ∈ M) (hl : xs.length + ys.length ≤ sizeLine) (q : ∀ r, Q (.c r) ((r, true, .lst (xs ++ ys)) :: M)) : ZO K rCat (.c p) (.c p2) M Q := fun n S σ G H R v u a b Qv k => by
  have ev : v = .ref p := a
  have eu : u = .ref p2 := b
  subst ev eu
  obtain ⟨_, vs, h1, h2⟩ := R.ce p _ _ hm
  obtain ⟨_, ws, h3, h4⟩ := R.ce p2 _ _ hm2
  exact ⟨p, p2, vs, ws, rfl, rfl, h1, h3, by rw [dpa_len h2, dpa_len h4]; exact hl, fun r hr => k (.ref r) G _ (.c r) _ (Ex.refl G) (R.newLst hr (dpa_app h2 h4)) rfl (q r)⟩
def flatD : PyData → Bool
  | .none => true
  | .bool _ => true
  | .int _ => true
  | .str _ => true
  | _ => false
def vOf : PyData → V
  | .none => .non
  | .bool b => .bl b
  | .int i => .int i
  | .str s => .str s
  | _ => .non
theorem dp_flat {x : PyData} {v : V} (h : Dz K G v x) (f : flatD x = true) : v = vOf x := by
  cases h with
  | lst => cases f
  | tup => cases f
  | _ => rfl
theorem dpa_flat {vs : List V} {ds : List PyData} (h : DzAll K G vs ds) (f : ds.all flatD = true) : vs = ds.map vOf := by
  induction ds generalizing vs with
  | nil => cases h; rfl
  | cons d ds ih =>
    cases h with
    | cons a b =>
      simp only [List.all_cons, Bool.and_eq_true] at f
      rw [dp_flat a f.1, ih b f.2]
      rfl
theorem zo_inT {neg : Bool} {x : PyData} {ds : List PyData} (hx : flatV (vOf x) = true ∧ flatD x = true) (hd : (ds.map vOf).all flatV = true ∧ ds.all flatD = true) (q : Q (.d (.bool (if neg then !inV (vOf x) (ds.map vOf) else inV (vOf x) (ds.map vOf)))) M) : ZO K (rIn K neg) (.d x) (.d (.tuple ds)) M Q :=
  zo_val (z := .d (.bool (if neg then !inV (vOf x) (ds.map vOf) else inV (vOf x) (ds.map vOf)))) (fun G H v u e a b => by
    obtain ⟨p, vs, rfl, h1, h2⟩ := dp_tup b
    have e1 := dp_flat a hx.2
    have e2 := dpa_flat h2 hd.2
    subst e1 e2
    exact ⟨_, Dz.bl _, fun Qv hq => ⟨p, _, rfl, .inr (Evl.ex_t e h1), hx.1, hd.1, hq⟩⟩) q
theorem zo_inL {neg : Bool} {x : PyData} {ds : List PyData} (hx : flatV (vOf x) = true ∧ flatD x = true) (hd : (ds.map vOf).all flatV = true ∧ ds.all flatD = true) (q : Q (.d (.bool (if neg then !inV (vOf x) (ds.map vOf) else inV (vOf x) (ds.map vOf)))) M) : ZO K (rIn K neg) (.d x) (.d (.list ds)) M Q :=
  zo_val (z := .d (.bool (if neg then !inV (vOf x) (ds.map vOf) else inV (vOf x) (ds.map vOf)))) (fun G H v u e a b => by
    obtain ⟨p, vs, rfl, h1, h2⟩ := dp_lst b
    have e1 := dp_flat a hx.2
    have e2 := dpa_flat h2 hd.2
    subst e1 e2
    exact ⟨_, Dz.bl _, fun Qv hq => ⟨p, _, rfl, .inl (Evl.ex_l e h1), hx.1, hd.1, hq⟩⟩) q

/-! ### slices -/
abbrev rSlAny (K : Fg) : V → Option Int → Option Int → Hp → VK → Prop := fun x lo hi H Q => rSlL K x lo hi H Q ∨ (rSlA K x lo hi H Q ∨ C8.rSlX x lo hi H Q)
theorem sl_any {X : Cx} : SlR X (rSlAny X.K) := sl_list.or (sl_tupA.or C8.sl_txt)
def ZPt (K : Fg) (E : L2.St → XK) (to : TO) (S : Zs) (M : Ms) (Q : Option Int → Ms → Prop) (X : XZ) : Prop := ∀ (n : Sn) (σ : L2.St) (G H : Hp), Rel K n S M σ G H → ∀ Qv : Option Int → Hp → Prop,
  (∀ o G' H' M', Ex G G' → Rel K n S M' σ G' H' → Q o M' → Qv o H') → XOk K (E σ) n σ G X → to σ H Qv
theorem zp_none {Q : Option Int → Ms → Prop} (q : Q none M) : ZPt K E tNoPart S M Q X := fun n σ G H R Qv k _ => k none G H M (Ex.refl G) R q
theorem zp_some {Q : Option Int → Ms → Prop} (h : ZW K E te S M (fun z M1 => ∃ i, z = .d (.int i) ∧ Q (some i) M1) X) : ZPt K E (tPart te) S M Q X := fun n σ G H R Qv k kx =>
  h n σ G H R _ (fun v G1 H1 z M1 e1 R1 a1 ⟨i, hz, q⟩ => by subst hz; exact ⟨i, dp_int a1, k (some i) G1 H1 M1 e1 R1 q⟩) kx
def cutD (xs : List PyData) (lo hi : Option Int) : List PyData := (xs.drop (HT.sIx xs.length 0 lo)).take (HT.sIx xs.length xs.length hi - HT.sIx xs.length 0 lo)
def dSl : PyData → Option Int → Option Int → Option PyData
  | .tuple ds, lo, hi => some (.tuple (cutD ds lo hi))
  | .list ds, lo, hi => some (.list (cutD ds lo hi))
  | .str z, lo, hi => if z.length ≤ sizeLine then some (.str (Txt.slice z lo hi)) else none
  | _, _, _ => none
theorem cut_whole {ds : List PyData} {lo hi : Option Int} (h : HT.sIx ds.length 0 lo = 0 ∧ HT.sIx ds.length ds.length hi = ds.length) : cutD ds lo hi = ds := by
  unfold cutD
  rw [h.1, h.2]
  simp
theorem dpa_cut {vs : List V} {ds : List PyData} (lo hi : Option Int) (h : DzAll K G vs ds) : DzAll K G (cutV vs lo hi) (cutD ds lo hi) := by
  unfold cutV cutD
  rw [dpa_len h]
  exact dpa_take _ (dpa_drop _ h)
theorem zw_sl {tl th : TO} (h : ZW K E te S M (fun z M1 => ZPt K E tl S M1 (fun lo M2 => ZPt K E th S M2 (fun hi M3 => ∃ x y, z = .d x ∧ dSl x lo hi = some y ∧ Q (.d y) M3) X) X) X) : ZW K E (tSl (rSlAny K) te tl th) S M Q X := fun n σ G H R Qv k kx =>
  h n σ G H R _ (fun v G1 H1 z M1 e1 R1 a1 h1 => h1 n σ G1 H1 R1 _ (fun lo G2 H2 M2 e2 R2 h2 => h2 n σ G2 H2 R2 _ (fun hi G3 H3 M3 e3 R3 ⟨x, y, hz, hy, q⟩ => by
    subst hz
    have a3 : Dz K G3 v x := dp_mono (e2.trans e3) a1
    have e13 := (e1.trans e2).trans e3
    cases x with
    | tuple ds =>
      obtain ⟨p, vs, rfl, h1, h2⟩ := dp_tup a3
      cases hy
      refine .inr (.inl ⟨p, vs, rfl, Evl.ex_t R3.ex h1, fun c => ?_, fun _ r hr => ?_⟩)
      · rw [dpa_len h2] at c
        rw [cut_whole c] at q
        exact k (.ref p) G3 H3 (.d (.tuple ds)) M3 e13 R3 a3 q
      · have g := ex_gnone R3.ex hr
        exact k (.ref r) _ _ (.d (.tuple (cutD ds lo hi))) M3 (e13.trans (Ex.new g)) (R3.new hr (fun _ z => nomatch z)) (Dz.tup (.inl upd_same) (dpAll_mono (Ex.new g) (dpa_cut lo hi h2))) q
    | list ds =>
      obtain ⟨p, vs, rfl, h1, h2⟩ := dp_lst a3
      cases hy
      refine .inl ⟨p, vs, rfl, Evl.ex_l R3.ex h1, fun r hr => ?_⟩
      have g := ex_gnone R3.ex hr
      exact k (.ref r) _ _ (.d (.list (cutD ds lo hi))) M3 (e13.trans (Ex.new g)) (R3.new hr (fun _ z => nomatch z)) (Dz.lst (Evl.sq_of upd_same) (dpAll_mono (Ex.new g) (dpa_cut lo hi h2))) q
    | str z =>
      have ev := dp_str a3
      subst ev
      simp only [dSl] at hy
      split at hy
      · rename_i hl
        cases hy
        exact .inr (.inr ⟨z, rfl, hl, k _ G3 H3 (.d (.str (Txt.slice z lo hi))) M3 e13 R3 (Dz.str _) q⟩)
      · cases hy
    | none => cases hy
    | bool _ => cases hy
    | int _ => cases hy
    | dict _ => cases hy) (kx.mono (e1.trans e2))) (kx.mono e1)) kx

/-! ### methods of built-in things -/
/-- o.append(e), o an own list -/
theorem zw_append {to : TE} (h : ZW K E to S M (fun z M0 => ∃ p, z = .c p ∧ (∃ b xs, (p, b, CD.lst xs) ∈ M0) ∧ ZW K E te S M0 (fun y M1 => ∃ d b xs M2, y = .d d ∧ Upd1 p b (.lst xs) (.lst (xs ++ [d])) M1 M2 ∧ xs.length < sizeLine ∧ Q (.d .none) M2) X) X) :
    ZW K E (tBM K "list" rAppend to (tCons te tNil)) S M Q X := fun n σ G H R Qv k kx =>
  h n σ G H R _ (fun v G0 H0 z M0 e0 R0 a0 ⟨p, hz, ⟨b0, xs0, hm0⟩, h2⟩ => by
    subst hz
    have ev : v = .ref p := a0
    subst ev
    obtain ⟨_, ws0, h3, _⟩ := R0.ce p b0 _ hm0
    refine ⟨.inl ⟨rfl, ws0, Evl.sq_of h3⟩, h2 n σ G0 H0 R0 _ (fun u G1 H1 y M1 e1 R1 a1 ⟨d, b, xs, M2, hy, hu, hl, q⟩ => ?_) (kx.mono e0)⟩
    subst hy
    obtain ⟨_, ws, h4, h5⟩ := R1.ce p b _ hu.mem
    exact ⟨p, ws, u, rfl, rfl, h4, by rw [dpa_len h5]; exact hl, k .non G1 _ (.d .none) M2 (e0.trans e1) (R1.putLst hu (dpa_app h5 (dpa_one a1))) Dz.non q⟩) kx
/-- a text's method with one argument; without -/
def ZM (K : Fg) (r : V → List V → Hp → VK → Prop) (x : ZV) (zs : List ZV) (M : Ms) (Q : QZ) : Prop := ∀ (n : Sn) (S : Zs) (σ : L2.St) (G H : Hp), Rel K n S M σ G H → ∀ v vs, ZV.at K G v x → ZAll K G vs zs → ∀ Qv : VK,
  (∀ w G' H' z M', Ex G G' → Rel K n S M' σ G' H' → ZV.at K G' w z → Q z M' → Qv w H') → r v vs H Qv
theorem zw_m1 {r : V → List V → Hp → VK → Prop} {to : TE} (h : ZW K E to S M (fun x M0 => ∃ a, x = .d (.str a) ∧ ZW K E te S M0 (fun y M1 => ZM K r x [y] M1 Q) X) X) : ZW K E (tM1 r to te) S M Q X := fun n σ G H R Qv k kx =>
  h n σ G H R _ (fun v G0 H0 x M0 e0 R0 a0 ⟨a, hx, h2⟩ => by
    subst hx
    refine ⟨⟨a, dp_str a0⟩, h2 n σ G0 H0 R0 _ (fun u G1 H1 y M1 e1 R1 a1 h3 => ?_) (kx.mono e0)⟩
    exact h3 n S σ G1 H1 R1 v [u] (dp_mono e1 a0) (.cons a1 .nil) Qv fun w G' H' z M' e' R' a' q => k w G' H' z M' ((e0.trans e1).trans e') R' a' q) kx
abbrev rSplit1 : V → List V → Hp → VK → Prop := fun x xs H Q => ∃ a b, x = .str a ∧ xs = [.str b] ∧ (b.length == 0) = false ∧ a.length + 2 ≤ sizeLine ∧ rNewStrs (Txt.split a b) H Q
theorem dpa_strs : ∀ {ys : List Str}, DzAll K G (ys.map V.str) (ys.map PyData.str)
  | [] => .nil
  | _ :: _ => .cons (.str _) dpa_strs
theorem dpa_strs_eq : ∀ {ys : List Str} {vs : List V}, DzAll K G vs (ys.map PyData.str) → vs = ys.map V.str
  | [], _, .nil => rfl
  | _ :: _, _, .cons a b => by rw [dp_str a, dpa_strs_eq b]; rfl
theorem zm_split {x b : Str} (hb : (b.length == 0) = false) (hl : x.length + 2 ≤ sizeLine) (q : Q (.d (.list ((Txt.split x b).map .str))) M) : ZM K rSplit1 (.d (.str x)) [.d (.str b)] M Q := fun n S σ G H R v vs a av Qv k => by
  obtain ⟨u, rfl, au⟩ := zall1 av
  refine ⟨x, b, dp_str a, by rw [dp_str au], hb, hl, fun p hp => ?_⟩
  have g := ex_gnone R.ex hp
  exact k (.ref p) _ _ (.d (.list ((Txt.split x b).map .str))) M (Ex.new g) (R.new hp (fun _ z => nomatch z)) (Dz.lst (Evl.sq_of upd_same) dpa_strs) q
abbrev rJoin1 (K : Fg) : V → List V → Hp → VK → Prop := fun x xs H Q => ∃ a p, ∃ ys : List Str, x = .str a ∧ xs = [.ref p] ∧ (SqL K H p (ys.map V.str) ∨ SqT K H p (ys.map V.str)) ∧ (ys.map (·.length)).sum + ys.length * a.length ≤ 16777216 ∧ Q (.str (Txt.join a ys)) H
theorem zm_join {a : Str} {ys : List Str} (hl : (ys.map (·.length)).sum + ys.length * a.length ≤ 16777216) (q : Q (.d (.str (Txt.join a ys))) M) : ZM K (rJoin1 K) (.d (.str a)) [.d (.list (ys.map .str))] M Q := fun n S σ G H R v vs av au Qv k => by
  obtain ⟨u, rfl, au2⟩ := zall1 au
  obtain ⟨p, ws, rfl, h1, h2⟩ := dp_lst au2
  have e := dpa_strs_eq h2
  subst e
  exact ⟨a, p, ys, dp_str av, rfl, .inl (Evl.ex_l R.ex h1), hl, k _ G H (.d (.str (Txt.join a ys))) M (Ex.refl G) R (Dz.str _) q⟩
end
end Z
namespace Z
open PySem PySem.Spec PyProof.Rows L2
open Evl (Ex)
section
variable {K : Fg} {E : L2.St → XK} {e0 : XK} {te ta tb tc : TE} {tA : TA} {tt : TT} {t u : TS} {S S' : Zs} {M M' : Ms} {P : ZP} {Q : QZ} {X : XZ} {n : Sn} {σ σ' : L2.St} {G G' H H' : Hp} {g : TG}
/-! ### targets -/
def ZG (K : Fg) (g : TG) (x : ZV) (S : Zs) (is : List Nat) (S' : Zs) : Prop := ∀ (n : Sn) (M : Ms) (σ : L2.St) (G H : Hp) (v : V), Rel K n S M σ G H → ZV.at K G v x → ∀ Qv : L2.St → Hp → Prop,
  (∀ σ', σ'.length = σ.length → (∀ j : Nat, j ∉ is → σ'[j]? = σ[j]?) → Rel K n S' M σ' G H → Qv σ' H) → g v σ H Qv
def ZGs (K : Fg) (g : TGs) (xs : List PyData) (S : Zs) (is : List Nat) (S' : Zs) : Prop := ∀ (n : Sn) (M : Ms) (σ : L2.St) (G H : Hp) (vs : List V), Rel K n S M σ G H → DzAll K G vs xs → ∀ Qv : L2.St → Hp → Prop,
  (∀ σ', σ'.length = σ.length → (∀ j : Nat, j ∉ is → σ'[j]? = σ[j]?) → Rel K n S' M σ' G H → Qv σ' H) → g vs σ H Qv
theorem zg_name {i : Nat} {z : ZV} : ZG K (gName i) z S [i] (S.set i (some z)) := fun n M σ G H v R a Qv k =>
  k _ (by simp) (fun j hj => by rw [List.getElem?_set_ne (by simpa using fun e => hj (by simp [e]))]) (R.set a)
theorem zgs_nil : ZGs K gNil [] S [] S := fun n M σ G H vs R a Qv k => by
  cases a
  exact ⟨rfl, k σ rfl (fun _ _ => rfl) R⟩
theorem zgs_cons {i : Nat} {us : TGs} {x : PyData} {xs : List PyData} {is : List Nat} (h : ZGs K us xs (S.set i (some (.d x))) is S') : ZGs K (gCons (gName i) us) (x :: xs) S (i :: is) S' := fun n M σ G H vs R a Qv k => by
  cases a with
  | cons a b =>
    refine ⟨_, _, rfl, h n M _ G H _ (R.set (z := .d x) a) b Qv fun σ' hl hj R' => k σ' (by simpa using hl) (fun j q => ?_) R'⟩
    rw [hj j (fun z => q (List.mem_cons_of_mem _ z)), List.getElem?_set_ne (fun z => q (by simp [z]))]
theorem zg_tup {us : TGs} {k : Nat} {xs : List PyData} {is : List Nat} (hk : xs.length = k) (h : ZGs K us xs S is S') : ZG K (gTup K k us) (.d (.tuple xs)) S is S' := fun n M σ G H v R a Qv q => by
  obtain ⟨p, vs, rfl, h1, h2⟩ := dp_tup a
  exact ⟨p, vs, rfl, Evl.ex_t R.ex h1, by rw [dpa_len h2, hk], h n M σ G H vs R h2 Qv q⟩
theorem zs_asgG (h : ZW K E te S M (fun z M1 => ∃ is S2, ZG K g z S is S2 ∧ P.nx S2 M1) P.ex) : ZS K E (tAsg te g) S M P := fun n σ G H R D k =>
  h n σ G H R _ (fun v G1 H1 z M1 e1 R1 a1 ⟨is, S2, hg, q⟩ => hg n M1 σ G1 H1 v R1 a1 _ fun σ' _ _ R2 => k.nx σ' G1 H1 S2 M1 e1 R2 q) k.xok

/-! ### for -/
def LoopP (P : ZP) (I : Zs → Ms → Prop) : ZP := { P with nx := I, ct := I, bk := P.nx }
theorem DOk.loop {D : Ends} {I : Zs → Ms → Prop} {N : L2.St → Hp → Prop} (k : DOk K E n G P D) (h : ∀ σ' G' H' S' M', Ex G G' → Rel K n S' M' σ' G' H' → I S' M' → N σ' H') : DOk K E n G (LoopP P I) { D with nx := N, ct := N, bk := D.nx } :=
  ⟨h, k.rt, k.nx, h, k.ex⟩
/-- the invariant of a loop over what is data of the frozen part -/
def FI (K : Fg) (n : Sn) (G0 : Hp) (I : Nat → Zs → Ms → Prop) (i : Nat) (σ : L2.St) (H : Hp) : Prop := ∃ G S M, Rel K n S M σ G H ∧ Ex G0 G ∧ I i S M
theorem dpa_at_v {vs : List V} {ds : List PyData} (h : DzAll K G vs ds) {i : Nat} {v : V} (e : vs[i]? = some v) : ∃ d, ds[i]? = some d ∧ Dz K G v d := by
  have hi : i < ds.length := by rw [← dpa_len h]; exact (List.getElem?_eq_some_iff.mp e).1
  obtain ⟨w, h1, h2⟩ := dpa_get h (List.getElem?_eq_getElem hi)
  rw [e] at h1
  cases h1
  exact ⟨_, List.getElem?_eq_getElem hi, h2⟩
theorem zs_forT (h : ZW K E te S M (fun z M1 => ∃ xs, z = .d (.tuple xs) ∧ ∃ I : Nat → Zs → Ms → Prop, I 0 S M1 ∧
      (∀ i x S' M', xs[i]? = some x → I i S' M' → ∃ is S2, ZG K g (.d x) S' is S2 ∧ ZS K E t S2 M' (LoopP P (I (i + 1)))) ∧ (∀ S' M', I xs.length S' M' → P.nx S' M')) P.ex) : ZS K E (tFor (iTup K te) g t) S M P := fun n σ G H R D k =>
  h n σ G H R _ (fun v G1 H1 z M1 e1 R1 a1 ⟨xs, hz, I, i0, is, id⟩ => by
    subst hz
    obtain ⟨p, vs, rfl, h1, h2⟩ := dp_tup a1
    refine ⟨p, rfl, ⟨vs, Evl.ex_t R1.ex h1⟩, for_tup (xs := vs) (FI K n G1 I) ⟨G1, S, M1, R1, Ex.refl _, i0⟩ (fun i σ' H' _ ⟨G', S', M', R', e', _⟩ => Evl.ex_t (e'.trans R'.ex) h1) (fun i x σ' H' hx ⟨G', S', M', R', e', hi⟩ => ?_) (fun σ' H' ⟨G', S', M', R', e', hi⟩ => k.nx σ' G' H' S' M' (e1.trans e') R' (id S' M' (by rw [← dpa_len h2]; exact hi)))⟩
    obtain ⟨d, hd, ax⟩ := dpa_at_v h2 hx
    obtain ⟨js, S2, hg, hb⟩ := is i d S' M' hd hi
    exact hg n M' σ' G' H' x R' (dp_mono e' ax) _ fun σ2 _ _ R2 => hb n σ2 G' H' R2 _ ((k.mono (e1.trans e')).loop fun σ3 G3 H3 S3 M3 e3 R3 i3 => ⟨G3, S3, M3, R3, e'.trans e3, i3⟩)) k.xok
theorem zs_forL (h : ZW K E te S M (fun z M1 => ∃ xs, z = .d (.list xs) ∧ ∃ I : Nat → Zs → Ms → Prop, I 0 S M1 ∧
      (∀ i x S' M', xs[i]? = some x → I i S' M' → ∃ is S2, ZG K g (.d x) S' is S2 ∧ ZS K E t S2 M' (LoopP P (I (i + 1)))) ∧ (∀ S' M', I xs.length S' M' → P.nx S' M')) P.ex) : ZS K E (tFor (iList K te) g t) S M P := fun n σ G H R D k =>
  h n σ G H R _ (fun v G1 H1 z M1 e1 R1 a1 ⟨xs, hz, I, i0, is, id⟩ => by
    subst hz
    obtain ⟨p, vs, rfl, h1, h2⟩ := dp_lst a1
    refine ⟨p, rfl, ⟨vs, Evl.ex_l R1.ex h1⟩, for_list (xs := vs) (FI K n G1 I) ⟨G1, S, M1, R1, Ex.refl _, i0⟩ (fun i σ' H' _ ⟨G', S', M', R', e', _⟩ => Evl.ex_l (e'.trans R'.ex) h1) (fun i x σ' H' hx ⟨G', S', M', R', e', hi⟩ => ?_) (fun σ' H' ⟨G', S', M', R', e', hi⟩ => k.nx σ' G' H' S' M' (e1.trans e') R' (id S' M' (by rw [← dpa_len h2]; exact hi)))⟩
    obtain ⟨d, hd, ax⟩ := dpa_at_v h2 hx
    obtain ⟨js, S2, hg, hb⟩ := is i d S' M' hd hi
    exact hg n M' σ' G' H' x R' (dp_mono e' ax) _ fun σ2 _ _ R2 => hb n σ2 G' H' R2 _ ((k.mono (e1.trans e')).loop fun σ3 G3 H3 S3 M3 e3 R3 i3 => ⟨G3, S3, M3, R3, e'.trans e3, i3⟩)) k.xok
theorem zs_forR1 (h : ZA K E tA S M (fun zs M1 => ∃ j : Int, zs = [.d (.int j)] ∧ -(2 ^ 62) ≤ j ∧ j < 2 ^ 62 ∧ ∃ I : Nat → Zs → Ms → Prop, I 0 S M1 ∧
      (∀ i S' M', i < j.toNat → I i S' M' → ∃ is S2, ZG K g (.d (.int (0 + (i : Nat)))) S' is S2 ∧ ZS K E t S2 M' (LoopP P (I (i + 1)))) ∧ (∀ S' M', I j.toNat S' M' → P.nx S' M')) P.ex) : ZS K E (tFor (iRng1 tA) g t) S M P := fun n σ G H R D k =>
  h n σ G H R _ (fun vs G1 H1 zs M1 e1 R1 a1 ⟨j, hz, l1, l2, I, i0, is, id⟩ => by
    subst hz
    obtain ⟨v, rfl, av⟩ := zall1 a1
    have ev := dp_int av
    subst ev
    refine ⟨j, rfl, l1, l2, for_range (n := j.toNat) (FI K n G1 I) ⟨G1, S, M1, R1, Ex.refl _, i0⟩ (fun i σ' H' hx ⟨G', S', M', R', e', hi⟩ => ?_) (fun σ' H' ⟨G', S', M', R', e', hi⟩ => k.nx σ' G' H' S' M' (e1.trans e') R' (id S' M' hi))⟩
    obtain ⟨js, S2, hg, hb⟩ := is i S' M' hx hi
    exact hg n M' σ' G' H' _ R' (Dz.int _) _ fun σ2 _ _ R2 => hb n σ2 G' H' R2 _ ((k.mono (e1.trans e')).loop fun σ3 G3 H3 S3 M3 e3 R3 i3 => ⟨G3, S3, M3, R3, e'.trans e3, i3⟩)) k.xok
theorem zs_forR2 (h : ZA K E tA S M (fun zs M1 => ∃ a j : Int, zs = [.d (.int a), .d (.int j)] ∧ (-(2 ^ 62) ≤ a ∧ a < 2 ^ 62 ∧ -(2 ^ 62) ≤ j ∧ j < 2 ^ 62) ∧ ∃ I : Nat → Zs → Ms → Prop, I 0 S M1 ∧
      (∀ i S' M', i < (j - a).toNat → I i S' M' → ∃ is S2, ZG K g (.d (.int (a + (i : Nat)))) S' is S2 ∧ ZS K E t S2 M' (LoopP P (I (i + 1)))) ∧ (∀ S' M', I (j - a).toNat S' M' → P.nx S' M')) P.ex) : ZS K E (tFor (iRng2 tA) g t) S M P := fun n σ G H R D k =>
  h n σ G H R _ (fun vs G1 H1 zs M1 e1 R1 a1 ⟨a, j, hz, l1, I, i0, is, id⟩ => by
    subst hz
    obtain ⟨v, u, rfl, av, au⟩ := zall2 a1
    have ev := dp_int av
    have eu := dp_int au
    subst ev eu
    refine ⟨a, j, rfl, l1, for_range (n := (j - a).toNat) (FI K n G1 I) ⟨G1, S, M1, R1, Ex.refl _, i0⟩ (fun i σ' H' hx ⟨G', S', M', R', e', hi⟩ => ?_) (fun σ' H' ⟨G', S', M', R', e', hi⟩ => k.nx σ' G' H' S' M' (e1.trans e') R' (id S' M' hi))⟩
    obtain ⟨js, S2, hg, hb⟩ := is i S' M' hx hi
    exact hg n M' σ' G' H' _ R' (Dz.int _) _ fun σ2 _ _ R2 => hb n σ2 G' H' R2 _ ((k.mono (e1.trans e')).loop fun σ3 G3 H3 S3 M3 e3 R3 i3 => ⟨G3, S3, M3, R3, e'.trans e3, i3⟩)) k.xok
/-- while: I by a measure -/
theorem zs_while (I : Nat → Zs → Ms → Prop) (h0 : ∃ m, I m S M)
    (hs : ∀ m S' M', I m S' M' → ZT K E tt S' M' (fun b M1 => (b = true → ZS K E t S' M1 (LoopP P fun S2 M2 => ∃ m', m' < m ∧ I m' S2 M2)) ∧ (b = false → P.nx S' M1)) P.ex) : ZS K E (tWhile tt t) S M P := fun n σ G H R D k => by
  obtain ⟨m0, i0⟩ := h0
  refine ⟨fun m σ' H' => ∃ G' S' M', Rel K n S' M' σ' G' H' ∧ Ex G G' ∧ I m S' M', ⟨m0, G, S, M, R, Ex.refl G, i0⟩, ?_⟩
  rintro m σ' H' ⟨G', S', M', R', e', hi⟩
  refine hs m S' M' hi n σ' G' H' R' _ (fun b G1 H1 M1 e1 R1 q => ?_) (XOk.mono k.xok e')
  cases b with
  | true =>
    show ∃ N : L2.St → Hp → Prop, _ ∧ _
    exact ⟨fun σ2 H2 => ∃ G2 S2 M2, Rel K n S2 M2 σ2 G2 H2 ∧ Ex G G2 ∧ ∃ m', m' < m ∧ I m' S2 M2, fun σ2 H2 ⟨G2, S2, M2, R2, e2, m', hm, i2⟩ => ⟨m', hm, G2, S2, M2, R2, e2, i2⟩,
      q.1 rfl n σ' G1 H1 R1 _ ((k.mono (e'.trans e1)).loop fun σ3 G3 H3 S3 M3 e3 R3 i3 => ⟨G3, S3, M3, R3, (e'.trans e1).trans e3, i3⟩)⟩
  | false =>
    show D.nx σ' H1
    exact k.nx σ' G1 H1 S' M1 (e'.trans e1) R1 (q.2 rfl)

/-! ### comprehensions -/
def wipeZ (S : Zs) : List Nat → Zs
  | [] => S
  | v :: vs => (wipeZ S vs).set v none
theorem Rel.wipe (R : Rel K n S M σ G H) : ∀ vs : List Nat, Rel K n (wipeZ S vs) M (L2.wipe σ vs) G H
  | [] => R
  | v :: vs => (R.wipe vs).unset
theorem wipe_get (σ : L2.St) (j : Nat) : ∀ vs : List Nat, j ∉ vs → (L2.wipe σ vs)[j]? = σ[j]?
  | [], _ => rfl
  | v :: vs, h => by
    show ((L2.wipe σ vs).set v none)[j]? = _
    rw [List.getElem?_set_ne (fun e => h (by simp [e])), wipe_get σ j vs (fun z => h (List.mem_cons_of_mem _ z))]
theorem wipe_in (σ : L2.St) (j : Nat) : ∀ vs : List Nat, j ∈ vs → j < σ.length → (L2.wipe σ vs)[j]? = some none
  | v :: vs, h, hl => by
    show ((L2.wipe σ vs).set v none)[j]? = _
    by_cases e : v = j
    · subst e
      rw [List.getElem?_set]
      simp [L2.wipe_length, hl]
    · rw [List.getElem?_set_ne e]
      rcases List.mem_cons.mp h with z | z
      · exact absurd z.symm e
      · exact wipe_in σ j vs z hl
theorem wipe_eq {σ2 : L2.St} {vs : List Nat} (hl : σ2.length = (L2.wipe σ vs).length) (h : ∀ j : Nat, j ∉ vs → σ2[j]? = (L2.wipe σ vs)[j]?) : L2.wipe σ2 vs = L2.wipe σ vs := by
  refine List.ext_getElem? fun j => ?_
  by_cases hj : j ∈ vs
  · by_cases hb : j < σ.length
    · rw [wipe_in σ j vs hj hb, wipe_in σ2 j vs hj (by rw [hl, L2.wipe_length]; exact hb)]
    · have hb := Nat.le_of_not_lt hb
      have l1 : (L2.wipe σ2 vs).length ≤ j := by rw [L2.wipe_length, hl, L2.wipe_length]; exact hb
      have l2 : (L2.wipe σ vs).length ≤ j := by rw [L2.wipe_length]; exact hb
      rw [List.getElem?_eq_none l1, List.getElem?_eq_none l2]
  · rw [wipe_get σ2 j vs hj, h j hj]
/-- the slots of the entry over the rest of a later state -/
theorem Rel.reslot (R0 : Rel K n S M σ G H) (R : Rel K n S' M' σ' G' H') (e : Ex G G') : Rel K n S M' σ G' H' :=
  ⟨R.ex, R0.len, fun i z q => by obtain ⟨v, h1, h2⟩ := R0.sl i z q; exact ⟨v, h1, ZV.mono e h2⟩, R.nd, R.ce, R.g0, R.h0, R.lv, R.f0, R.a0, R.o0⟩
/-- one turn of a comprehension; I: behind i turns, the list so far, the cells -/
def LcTurn (K : Fg) (E : L2.St → XK) (g : TG) (tt : TT) (te : TE) (S : Zs) (vs : List Nat) (I : Nat → List PyData → Ms → Prop) (i : Nat) (x : PyData) : Prop := ∀ acc M' D, I i acc M' → ∃ is S2, (∀ j ∈ is, j ∈ vs) ∧ ZG K g (.d x) (wipeZ S vs) is S2 ∧
  ZT K E tt S2 ((D, true, .lst acc) :: M') (fun b Mb => (b = false → ∃ M2, Mb = (D, true, .lst acc) :: M2 ∧ I (i + 1) acc M2) ∧
    (b = true → ZW K E te S2 Mb (fun y Mc => ∃ d M2, y = .d d ∧ Mc = (D, true, .lst acc) :: M2 ∧ I (i + 1) (acc ++ [d]) M2) fun _ _ _ => False)) fun _ _ _ => False
def LcI (K : Fg) (n : Sn) (G0 : Hp) (S : Zs) (σ : L2.St) (vs : List Nat) (D : Addr) (I : Nat → List PyData → Ms → Prop) (i : Nat) (H : Hp) : Prop :=
  ∃ G M acc, Rel K n (wipeZ S vs) ((D, true, .lst acc) :: M) (L2.wipe σ vs) G H ∧ Ex G0 G ∧ acc.length ≤ i ∧ I i acc M
theorem lc_turn {vs : List Nat} {I : Nat → List PyData → Ms → Prop} {G0 : Hp} {D : Addr} {i : Nat} {v : V} {x : PyData} (ht : LcTurn K E g tt te S vs I i x) (hi : LcI K n G0 S σ vs D I i H) (hv : Dz K G0 v x) (hz : i < sizeLine) :
    g v (L2.wipe σ vs) H fun σ2 H2 => L2.wipe σ2 vs = L2.wipe σ vs ∧ tt σ2 H2 fun b H3 => if b = true then te σ2 H3 fun y H4 => ∃ acc, H4 D = some (.lst acc) ∧ acc.length < sizeLine ∧ LcI K n G0 S σ vs D I (i + 1) (upd H4 D (.lst (acc ++ [y]))) else LcI K n G0 S σ vs D I (i + 1) H3 := by
  obtain ⟨G, M, acc, R, e, hl, hI⟩ := hi
  obtain ⟨is, S2, hs, hg, hb⟩ := ht acc M D hI
  refine hg n _ _ G H v R (dp_mono e hv) _ fun σ2 l2 g2 R2 => ?_
  have ew : L2.wipe σ2 vs = L2.wipe σ vs := wipe_eq l2 fun j hj => g2 j fun z => hj (hs j z)
  have back : ∀ {G' H' : Hp} {M' : Ms}, Rel K n S2 M' σ2 G' H' → Ex G G' → Rel K n (wipeZ S vs) M' (L2.wipe σ vs) G' H' := fun R' e' => R.reslot R' e'
  refine ⟨ew, hb n σ2 G H R2 _ (fun b G3 H3 Mb e3 R3 q => ?_) ?_⟩
  · cases b with
    | true =>
      show te σ2 H3 _
      refine q.2 rfl n σ2 G3 H3 R3 _ (fun y G4 H4 z Mc e4 R4 a4 ⟨d, M2, hz2, hM, hI2⟩ => ?_) ?_
      · subst hz2 hM
        obtain ⟨_, ws, h1, h2⟩ := R4.ce D true _ m0
        refine ⟨ws, h1, by rw [dpa_len h2]; omega, G4, M2, acc ++ [d], ?_, (e.trans e3).trans e4, by simp; omega, hI2⟩
        exact (back R4 (e3.trans e4)).putLst .here (dpa_app h2 (dpa_one a4))
      · exact fun _ _ _ _ _ _ _ _ _ _ q => q.elim
    | false =>
      show LcI K n G0 S σ vs D I (i + 1) H3
      obtain ⟨M2, hM, hI2⟩ := q.1 rfl
      subst hM
      exact ⟨G3, M2, acc, back R3 e3, e.trans e3, by omega, hI2⟩
  · exact fun _ _ _ _ _ _ _ _ _ _ q => q.elim
/-- behind the last turn: the list is data -/
theorem lc_done {vs : List Nat} {I : Nat → List PyData → Ms → Prop} {G0 H0 : Hp} {D : Addr} {i : Nat} {Qv : VK} (R0 : Rel K n S M σ G0 H0) (hi : LcI K n G0 S σ vs D I i H) (hd : ∀ acc M', I i acc M' → Q (.d (.list acc)) M')
    (k : ∀ v G' H' z M', Ex G0 G' → Rel K n S M' σ G' H' → ZV.at K G' v z → Q z M' → Qv v H') : Qv (.ref D) H := by
  obtain ⟨G, M', acc, R, e, hl, hI⟩ := hi
  obtain ⟨G2, e2, R2, d2⟩ := R.frz .here
  exact k (.ref D) G2 H (.d (.list acc)) M' (e.trans e2) (R0.reslot R2 (e.trans e2)) d2 (hd acc M' hI)
/-- .. as an own list -/
theorem lc_doneC {vs : List Nat} {I : Nat → List PyData → Ms → Prop} {G0 H0 : Hp} {D : Addr} {i : Nat} {Qv : VK} (R0 : Rel K n S M σ G0 H0) (hi : LcI K n G0 S σ vs D I i H) (hd : ∀ acc M', I i acc M' → Q (.c D) ((D, true, .lst acc) :: M'))
    (k : ∀ v G' H' z M', Ex G0 G' → Rel K n S M' σ G' H' → ZV.at K G' v z → Q z M' → Qv v H') : Qv (.ref D) H := by
  obtain ⟨G, M', acc, R, e, hl, hI⟩ := hi
  exact k (.ref D) G H (.c D) _ e (R0.reslot R e) rfl (hd acc M' hI)
theorem lc_start {vs : List Nat} {I : Nat → List PyData → Ms → Prop} {D : Addr} (R : Rel K n S M σ G H) (hD : H D = none) (h0 : I 0 [] M) : LcI K n G S σ vs D I 0 (upd H D (.lst [])) :=
  ⟨G, M, [], (R.newLst hD .nil).wipe vs, Ex.refl G, Nat.le_refl _, h0⟩
theorem zw_lcT {vs : List Nat} (h : ZW K E ta S M (fun z M1 => ∃ xs, z = .d (.tuple xs) ∧ xs.length ≤ sizeLine ∧ ∃ I : Nat → List PyData → Ms → Prop, I 0 [] M1 ∧ (∀ i x, xs[i]? = some x → LcTurn K E g tt te S vs I i x) ∧ (∀ acc M', I xs.length acc M' → Q (.d (.list acc)) M')) X) :
    ZW K E (tLc (iTup K ta) g tt te vs) S M Q X := fun n σ G H R Qv k kx =>
  h n σ G H R _ (fun v G1 H1 z M1 e1 R1 a1 ⟨xs, hz, hl, I, i0, is, id⟩ => by
    subst hz
    obtain ⟨p, ws, rfl, h1, h2⟩ := dp_tup a1
    refine ⟨p, rfl, ⟨ws, Evl.ex_t R1.ex h1⟩, fun D hD => lc_tup (xs := ws) (LcI K n G1 S σ vs D I) (lc_start R1 hD i0) (fun i H' _ ⟨G', _, _, R', e', _⟩ => Evl.ex_t (e'.trans R'.ex) h1) (fun i x H' hx hi => ?_) (fun H' hi => lc_done R1 hi (fun acc M' q => id acc M' (by rw [← dpa_len h2]; exact q)) fun v G' H' z M' e' => k v G' H' z M' (e1.trans e'))⟩
    obtain ⟨d, hd, ax⟩ := dpa_at_v h2 hx
    have hi2 : i < xs.length := (List.getElem?_eq_some_iff.mp hd).1
    exact lc_turn (is i d hd) hi ax (Nat.lt_of_lt_of_le hi2 hl)) kx
theorem zw_lcL {vs : List Nat} (h : ZW K E ta S M (fun z M1 => ∃ xs, z = .d (.list xs) ∧ xs.length ≤ sizeLine ∧ ∃ I : Nat → List PyData → Ms → Prop, I 0 [] M1 ∧ (∀ i x, xs[i]? = some x → LcTurn K E g tt te S vs I i x) ∧ (∀ acc M', I xs.length acc M' → Q (.d (.list acc)) M')) X) :
    ZW K E (tLc (iList K ta) g tt te vs) S M Q X := fun n σ G H R Qv k kx =>
  h n σ G H R _ (fun v G1 H1 z M1 e1 R1 a1 ⟨xs, hz, hl, I, i0, is, id⟩ => by
    subst hz
    obtain ⟨p, ws, rfl, h1, h2⟩ := dp_lst a1
    refine ⟨p, rfl, ⟨ws, Evl.ex_l R1.ex h1⟩, fun D hD => lc_list (xs := ws) (LcI K n G1 S σ vs D I) (lc_start R1 hD i0) (fun i H' _ ⟨G', _, _, R', e', _⟩ => Evl.ex_l (e'.trans R'.ex) h1) (fun i x H' hx hi => ?_) (fun H' hi => lc_done R1 hi (fun acc M' q => id acc M' (by rw [← dpa_len h2]; exact q)) fun v G' H' z M' e' => k v G' H' z M' (e1.trans e'))⟩
    obtain ⟨d, hd, ax⟩ := dpa_at_v h2 hx
    have hi2 : i < xs.length := (List.getElem?_eq_some_iff.mp hd).1
    exact lc_turn (is i d hd) hi ax (Nat.lt_of_lt_of_le hi2 hl)) kx
theorem zw_lcR1 {vs : List Nat} (h : ZA K E tA S M (fun zs M1 => ∃ j : Int, zs = [.d (.int j)] ∧ 0 ≤ j ∧ j.toNat ≤ sizeLine ∧ ∃ I : Nat → List PyData → Ms → Prop, I 0 [] M1 ∧ (∀ i, i < j.toNat → LcTurn K E g tt te S vs I i (.int (0 + (i : Nat)))) ∧ (∀ acc M', I j.toNat acc M' → Q (.d (.list acc)) M')) X) :
    ZW K E (tLc (iRng1 tA) g tt te vs) S M Q X := fun n σ G H R Qv k kx =>
  h n σ G H R _ (fun us G1 H1 zs M1 e1 R1 a1 ⟨j, hz, l0, l1, I, i0, is, id⟩ => by
    subst hz
    obtain ⟨v, rfl, av⟩ := zall1 a1
    have ev := dp_int av
    subst ev
    have hs : (sizeLine : Nat) < 2 ^ 62 := by rw [sizeLine_eq]; decide
    exact ⟨j, rfl, by omega, by omega, fun D hD => lc_range (n := j.toNat) (LcI K n G1 S σ vs D I) (lc_start R1 hD i0) (fun i H' hx hi => lc_turn (is i hx) hi (Dz.int _) (Nat.lt_of_lt_of_le hx l1)) (fun H' hi => lc_done R1 hi id fun v G' H' z M' e' => k v G' H' z M' (e1.trans e'))⟩) kx
theorem zw_lcR2 {vs : List Nat} (h : ZA K E tA S M (fun zs M1 => ∃ a j : Int, zs = [.d (.int a), .d (.int j)] ∧ (-(2 ^ 62) ≤ a ∧ a < 2 ^ 62 ∧ -(2 ^ 62) ≤ j ∧ j < 2 ^ 62) ∧ (j - a).toNat ≤ sizeLine ∧ ∃ I : Nat → List PyData → Ms → Prop, I 0 [] M1 ∧ (∀ i, i < (j - a).toNat → LcTurn K E g tt te S vs I i (.int (a + (i : Nat)))) ∧ (∀ acc M', I (j - a).toNat acc M' → Q (.d (.list acc)) M')) X) :
    ZW K E (tLc (iRng2 tA) g tt te vs) S M Q X := fun n σ G H R Qv k kx =>
  h n σ G H R _ (fun us G1 H1 zs M1 e1 R1 a1 ⟨a, j, hz, l0, l1, I, i0, is, id⟩ => by
    subst hz
    obtain ⟨v, u, rfl, av, au⟩ := zall2 a1
    have ev := dp_int av
    have eu := dp_int au
    subst ev eu
    exact ⟨a, j, rfl, l0, fun D hD => lc_range (n := (j - a).toNat) (LcI K n G1 S σ vs D I) (lc_start R1 hD i0) (fun i H' hx hi => lc_turn (is i hx) hi (Dz.int _) (Nat.lt_of_lt_of_le hx l1)) (fun H' hi => lc_done R1 hi id fun v G' H' z M' e' => k v G' H' z M' (e1.trans e'))⟩) kx
theorem zt_yes {Q : Bool → Ms → Prop} (q : Q true M) : ZT K E tYes S M Q X := fun n σ G H R Qv k _ => k true G H M (Ex.refl G) R q

/-! ### objects of the program's own classes -/
theorem zw_fld {C : Addr} {f : Str} (cl : Cls K C) (na : NoAttr K C f) (h : ZW K E te S M (fun z M1 => ∃ p b fs y, z = .c p ∧ (p, b, CD.obj C fs) ∈ M1 ∧ fs.lookup f = some y ∧ Q y M1) X) : ZW K E (tFld K te f) S M Q X := fun n σ G H R Qv k kx =>
  h n σ G H R _ (fun v G1 H1 z M1 e1 R1 a1 ⟨p, b, fs, y, hz, hm, hl, q⟩ => by
    subst hz
    have ev : v = .ref p := a1
    subst ev
    obtain ⟨_, dx, fv, h1, h2, h3, h4⟩ := R1.ce p b _ hm
    obtain ⟨w, l1, l2⟩ := (lookup_paired h4 f).2 y hl
    exact ⟨p, C, dx, fv, w, rfl, h1, cl, na, l1, k w G1 H1 y M1 e1 R1 l2 q⟩) kx
def putZ (f : Str) (z : ZV) : List (Str × ZV) → List (Str × ZV)
  | [] => [(f, z)]
  | (g, y) :: r => if g = f then (g, z) :: r else (g, y) :: putZ f z r
theorem putF_paired {f : Str} {v : V} {z : ZV} (a : ZV.at K G v z) : ∀ {fv : List (Str × V)} {fs : List (Str × ZV)}, Paired (fun (a : Str × V) (b : Str × ZV) => a.1 = b.1 ∧ ZV.at K G a.2 b.2) fv fs → Paired (fun (a : Str × V) (b : Str × ZV) => a.1 = b.1 ∧ ZV.at K G a.2 b.2) (putF f v fv) (putZ f z fs)
  | [], [], .nil => .cons ⟨rfl, a⟩ .nil
  | (g, x) :: fv, (g2, y) :: fs, .cons q t => by
    obtain ⟨q1, q2⟩ := q
    dsimp only at q1 q2
    subst q1
    unfold putF putZ
    by_cases e : g = f
    · rw [if_pos e, if_pos e]; exact .cons ⟨rfl, a⟩ t
    · rw [if_neg e, if_neg e]; exact .cons ⟨rfl, q2⟩ (putF_paired a t)
theorem paired_len {α β : Type} {F : α → β → Prop} : ∀ {l : List α} {m : List β}, Paired F l m → l.length = m.length
  | _, _, .nil => rfl
  | _, _, .cons _ t => by simp [paired_len t]
theorem Rel.putObj {p C : Addr} {b : Bool} {fs : List (Str × ZV)} {f : Str} {v : V} {z : ZV} {dx : Addr} {fv : List (Str × V)} (R : Rel K n S M σ G H) (u : Upd1 p b (.obj C fs) (.obj C (putZ f z fs)) M M') (h1 : H p = some (.ins C dx fv)) (h2 : H dx = some (.own p)) (h3 : G dx = none) (h4 : Paired (fun (a : Str × V) (b : Str × ZV) => a.1 = b.1 ∧ ZV.at K G a.2 b.2) fv fs) (a : ZV.at K G v z) :
    Rel K n S M' σ G (upd H p (.ins C dx (putF f v fv))) := by
  refine R.put u (fun x q => by rw [h1] at q; cases q) ⟨dx, putF f v fv, upd_same, ?_, h3, putF_paired a h4⟩
  rw [upd_ne (fun e => by rw [e, h1] at h2; cases h2)]
  exact h2
theorem zs_fld {C : Addr} {f : Str} {to tv : TE} (cl : Cls K C) (na : NoAttr K C f) (h : ZW K E tv S M (fun y M1 => ZW K E to S M1 (fun z M2 => ∃ p b fs M3, z = .c p ∧ fs.length < 1000 ∧ Upd1 p b (.obj C fs) (.obj C (putZ f y fs)) M2 M3 ∧ P.nx S M3) P.ex) P.ex) : ZS K E (sFld K to tv f) S M P := fun n σ G H R D k =>
  h n σ G H R _ (fun v G1 H1 y M1 e1 R1 a1 h2 => h2 n σ G1 H1 R1 _ (fun w G2 H2 z M2 e2 R2 a2 ⟨p, b, fs, M3, hz, hl, hu, q⟩ => by
    subst hz
    have ev : w = .ref p := a2
    subst ev
    obtain ⟨_, dx, fv, h1, h3, h4, h5⟩ := R2.ce p b _ hu.mem
    exact ⟨p, C, dx, fv, rfl, h1, cl, na, by rw [paired_len h5]; exact hl, k.nx σ G2 _ S M3 (e1.trans e2) (R2.putObj hu h1 h3 h4 h5 (ZV.mono e2 a1)) q⟩) (XOk.mono k.xok e1)) k.xok
/-- o.f += an int -/
theorem zs_fldaug {C : Addr} {f : Str} {to tv : TE} (cl : Cls K C) (na : NoAttr K C f) (h : ZW K E to S M (fun z M1 => ∃ p a, z = .c p ∧ (∃ b0 fs0, (p, b0, CD.obj C fs0) ∈ M1 ∧ fs0.lookup f = some (.d (.int a))) ∧ ZW K E tv S M1 (fun y M2 => ∃ j b fs M3, y = .d (.int j) ∧ fs.length < 1000 ∧ Upd1 p b (.obj C fs) (.obj C (putZ f (.d (.int (a + j))) fs)) M2 M3 ∧ P.nx S M3) P.ex) P.ex) :
    ZS K E (sFldAug K to tv rAdd f) S M P := fun n σ G H R D k =>
  h n σ G H R _ (fun w G1 H1 z M1 e1 R1 a1 ⟨p, a, hz, ⟨b0, fs0, hm0, hl0⟩, h2⟩ => by
    subst hz
    have ev : w = .ref p := a1
    subst ev
    obtain ⟨_, dx, fv, h1, h3, h4, h5⟩ := R1.ce p b0 _ hm0
    obtain ⟨x, l1, l2⟩ := (lookup_paired h5 f).2 _ hl0
    refine ⟨p, C, dx, fv, x, rfl, h1, cl, na, l1, h2 n σ G1 H1 R1 _ (fun y G2 H2 zy M2 e2 R2 a2 ⟨j, b, fs, M3, hy, hl, hu, q⟩ => ?_) (XOk.mono k.xok e1)⟩
    subst hy
    obtain ⟨_, dx', fv', h1', h3', h4', h5'⟩ := R2.ce p b _ hu.mem
    exact ⟨a, j, dp_int l2, dp_int a2, dx', fv', h1', by rw [paired_len h5']; exact hl, k.nx σ G2 _ S M3 (e1.trans e2) (R2.putObj hu h1' h3' h4' h5' (v := .int (a + j)) (Dz.int _)) q⟩) k.xok
/-- C(..): a new own object -/
theorem zw_make {ar : Nat} {C : Addr} {R : List (Str × ZV) → List PyData → DOut → List (Str × ZV) → Prop} (h : ZA K (fun _ => e0) tA S M (fun zs M1 => ∃ ds o fs', AllD zs ds ∧ ds.length = ar ∧ R [] ds o fs' ∧ (∀ d, o = .ok d → d = .none ∧ ∀ p, Q (.c p) ((p, true, .obj C fs') :: M1)) ∧ (∀ x, o = .ex x → ∀ p, X x S ((p, true, .obj C fs') :: M1))) X) : ZW K (fun _ => e0) (tMake C (spO K C ar R) [] e0 tA) S M Q X := fun n σ G H Rl Qv k kx =>
  h n σ G H Rl _ (fun vs G1 H1 zs M1 e1 R1 a1 ⟨ds, o, fs', hd, hk, hR, q1, q2⟩ x dx hx hdx hne => by
    have R2 := R1.lay (p := dx) (o := .own x) hdx
    have hx2 : (upd H1 dx (.own x)) x = none := by rw [upd_ne (Ne.symm hne)]; exact hx
    have R3 := R2.lay (p := x) (o := .ins C dx []) hx2
    have gdx := ex_gnone R1.ex hdx
    have hown : (upd (upd H1 dx (.own x)) x (.ins C dx [])) dx = some (.own x) := by rw [upd_ne hne, upd_same]
    have hc : CD.at K G1 (upd (upd H1 dx (.own x)) x (.ins C dx [])) x (.obj C []) := ⟨dx, [], upd_same, hown, gdx, .nil⟩
    have R4 := R3.cell (R1.fresh hx) (R1.notin hx) (ex_gnone R1.ex hx) hc
    refine ⟨G1, x, [], vs, ds, o, fs', by rw [List.append_nil], hk, R4.ex, ex_gnone R1.ex hx, hc, zall_d (by rw [← hd]; exact a1), hR, fun d ho v G' H' e own hc' a => ?_, fun y ho cls dd G' H' e own hc' a => ?_⟩
    · obtain ⟨hd2, q⟩ := q1 d ho
      subst hd2
      exact ⟨dp_non a, k (.ref x) G' H' (.c x) _ (e1.trans e.g) (R4.call1 e .here own hc') rfl (q x)⟩
    · exact kx cls dd G' H' y S _ (e1.trans e.g) (R4.call1 e .here own hc') a (q2 y ho x)) kx

/-! ### texts with fields -/
def ZJ (K : Fg) (E : L2.St → XK) (ts : List TE) (acc : Str) (S : Zs) (M : Ms) (Q : Str → Ms → Prop) (X : XZ) : Prop := ∀ (n : Sn) (σ : L2.St) (G H : Hp), Rel K n S M σ G H → ∀ Qv : Str → Hp → Prop,
  (∀ o G' H' M', Ex G G' → Rel K n S M' σ G' H' → Q o M' → Qv o H') → XOk K (E σ) n σ G X → tJs ts acc σ H Qv
theorem zj_nil {acc : Str} {Q : Str → Ms → Prop} (q : Q acc M) : ZJ K E [] acc S M Q X := fun n σ G H R Qv k _ => k acc G H M (Ex.refl G) R q
theorem zj_cons {acc : Str} {ts : List TE} {Q : Str → Ms → Prop} (h : ZW K E te S M (fun z M1 => ∃ y, z = .d (.str y) ∧ (acc ++ y).length ≤ sizeLine ∧ ZJ K E ts (acc ++ y) S M1 Q X) X) : ZJ K E (te :: ts) acc S M Q X := fun n σ G H R Qv k kx =>
  h n σ G H R _ (fun v G1 H1 z M1 e1 R1 a1 ⟨y, hz, hl, q⟩ => by
    subst hz
    exact ⟨y, dp_str a1, hl, q n σ G1 H1 R1 Qv (fun o G2 H2 M2 e2 R2 q2 => k o G2 H2 M2 (e1.trans e2) R2 q2) (kx.mono e1)⟩) kx
theorem zw_js {ts : List TE} (h : ZJ K E ts Str.empty S M (fun o M1 => Q (.d (.str o)) M1) X) : ZW K E (fun σ H Q => tJs ts Str.empty σ H fun out H1 => Q (.str out) H1) S M Q X := fun n σ G H R Qv k kx =>
  h n σ G H R _ (fun o G1 H1 M1 e1 R1 q => k (.str o) G1 H1 (.d (.str o)) M1 e1 R1 (Dz.str _) q) kx
theorem zw_fmtS (h : ZW K E te S M (fun z M1 => ∃ y, z = .d (.str y) ∧ y.length ≤ sizeLine ∧ Q (.d (.str y)) M1) X) : ZW K E (tFmt te) S M Q X := fun n σ G H R Qv k kx =>
  h n σ G H R _ (fun v G1 H1 z M1 e1 R1 a1 ⟨y, hz, hl, q⟩ => by subst hz; exact .inl ⟨y, dp_str a1, hl, k (.str y) G1 H1 (.d (.str y)) M1 e1 R1 (Dz.str _) q⟩) kx
theorem zw_fmtI (h : ZW K E te S M (fun z M1 => ∃ i, z = .d (.int i) ∧ i.natAbs.log2 < 1920 ∧ Q (.d (.str (toString i))) M1) X) : ZW K E (tFmt te) S M Q X := fun n σ G H R Qv k kx =>
  h n σ G H R _ (fun v G1 H1 z M1 e1 R1 a1 ⟨i, hz, hl, q⟩ => by subst hz; exact .inr ⟨i, dp_int a1, hl, k (.str (toString i)) G1 H1 (.d (.str (toString i))) M1 e1 R1 (Dz.str _) q⟩) kx
/-- a < b <= c -/
theorem zw_chain {r r' : R2} (h : ZW K E ta S M (fun x M1 => ZW K E tb S M1 (fun y M2 => ZO K r x y M2 (fun z M3 => ∃ b, z = .d (.bool b) ∧ (b = false → Q (.d (.bool false)) M3) ∧ (b = true → ZW K E tc S M3 (fun w M4 => ZO K r' y w M4 Q) X))) X) X) : ZW K E (tChain r r' ta tb tc) S M Q X := fun n σ G H R Qv k kx =>
  h n σ G H R _ (fun v G1 H1 x M1 e1 R1 a1 h1 => h1 n σ G1 H1 R1 _ (fun u G2 H2 y M2 e2 R2 a2 h2 => h2 n S σ G2 H2 R2 v u (ZV.mono e2 a1) a2 _ (fun w G3 H3 z M3 e3 R3 a3 ⟨b, hz, q⟩ => by
    subst hz
    refine ⟨b, dp_bl a3, ?_⟩
    cases b with
    | true =>
      show tc σ H3 _
      exact q.2 rfl n σ G3 H3 R3 _ (fun w' G4 H4 z4 M4 e4 R4 a4 h4 => h4 n S σ G4 H4 R4 u w' (ZV.mono (e3.trans e4) a2) a4 Qv fun w5 G5 H5 z5 M5 e5 R5 a5 q5 => k w5 G5 H5 z5 M5 ((((e1.trans e2).trans e3).trans e4).trans e5) R5 a5 q5) (kx.mono ((e1.trans e2).trans e3))
    | false =>
      show Qv (.bl false) H3
      exact k (.bl false) G3 H3 (.d (.bool false)) M3 ((e1.trans e2).trans e3) R3 (Dz.bl false) (q.1 rfl))) (kx.mono e1)) kx
end
end Z
namespace Z
open PySem PySem.Spec PyProof.Rows L2
open Evl (Ex)
section
variable {X : Cx} {j k : Nat} {x : Str} {sp : Sp} {E : XK} {e o : Expr} {es : List Expr} {t : TA} {ta : TE} {p pos apos : Pos}
/-- a def of the module: what it promises, at level k -/
def Cal (P : Program) (w : World) (K : Fg) (mg : Str → Option Value) (base : Heap) (k : Nat) (x : Str) (sp : Sp) : Prop :=
  ∃ f fd ps, FnOk P w K mg base (L2.CX P w) k f fd ps sp ∧ mg x = some (.ref f) ∧ PySem.W.keepIn K (.ref f) = true ∧ Binds K fd ps []
theorem pe_cl (c : Cal X.prog X.w X.K X.mg X.base k x sp) (hr : Room j X.A) (hk : k ≤ j) (hx : Passes (L2.CX X.prog X.w) X E) (ha : PA X (e :: es) t) (hg : Gl X x := by rfl) (hdb : (x == ("__debug__" : Str)) = false := by decide)
    (he : starEach (e :: es) X.env = (false, eval e X.env) :: starEach es X.env := by rfl) (hpl : (backTo pos (starEach es X.env)).any (·.1) = false := by rfl) : PE X (.Call (.Name x p) (e :: es) [] pos) (tCall sp [] E t) := by
  obtain ⟨f, fd, ps, F, hm, hkp, hb⟩ := c
  exact pe_call F (hr.mono hk) hg hm hkp hb .nil hx ha hdb he hpl
theorem pe_clS {W : WX} (c : Cal X.prog X.w X.K X.mg X.base k x sp) (hr : Room j X.A) (hk : k ≤ j) (tk : Takes X W) (ha : PA X (e :: es) t) (hg : Gl X x := by rfl) (hdb : (x == ("__debug__" : Str)) = false := by decide)
    (he : starEach (e :: es) X.env = (false, eval e X.env) :: starEach es X.env := by rfl) (hpl : (backTo pos (starEach es X.env)).any (·.1) = false := by rfl) : PE X (.Call (.Name x p) (e :: es) [] pos) (tCallS sp (WE W) t) := by
  obtain ⟨f, fd, ps, F, hm, hkp, hb⟩ := c
  exact pe_callS F (hr.mono hk) hg hm hkp hb (fun σ => passAt tk σ) ha hdb he hpl
/-- a method of an own class -/
def Mtd (P : Program) (w : World) (K : Fg) (mg : Str → Option Value) (base : Heap) (k : Nat) (C : Addr) (m : Str) (sp : Sp) : Prop :=
  ∃ f fd ps, FnOk P w K mg base (L2.CX P w) k f fd ps sp ∧ Meth K C m f ∧ Binds K fd ps []
def Mkr (P : Program) (w : World) (K : Fg) (mg : Str → Option Value) (base : Heap) (k : Nat) (x : Str) (C : Addr) (sp : Sp) : Prop :=
  ∃ f fd ps, FnOk P w K mg base (L2.CX P w) k f fd ps sp ∧ Mk K C f ∧ mg x = some (.ref C) ∧ Binds K fd ps []
theorem pe_mkr {C : Addr} (c : Mkr X.prog X.w X.K X.mg X.base k x C sp) (hr : Room (j + 1) X.A) (hk : k ≤ j) (hx : Passes (L2.CX X.prog X.w) X E) (ha : PA X (e :: es) t) (hg : Gl X x := by rfl)
    (he : starEach (e :: es) X.env = (false, eval e X.env) :: starEach es X.env := by rfl) (hpl : (backTo pos (starEach es X.env)).any (·.1) = false := by rfl) (hdb : (x == ("__debug__" : Str)) = false := by decide) : PE X (.Call (.Name x p) (e :: es) [] pos) (tMake C sp [] E t) := by
  obtain ⟨f, fd, ps, F, M, hm, hb⟩ := c
  exact pe_make M F (hr.mono (by omega)) hg hm hb .nil hx ha hdb he hpl
end
/-! ### an operator on several kinds -/
section
variable {K : Fg} {r r' : R2} {x y : ZV} {M : Ms} {Q : QZ}
theorem zo_l (h : ZO K r x y M Q) : ZO K (fun x y H Q => r x y H Q ∨ r' x y H Q) x y M Q := fun n S σ G H R v u a b Qv k => .inl (h n S σ G H R v u a b Qv k)
theorem zo_r (h : ZO K r' x y M Q) : ZO K (fun x y H Q => r x y H Q ∨ r' x y H Q) x y M Q := fun n S σ G H R v u a b Qv k => .inr (h n S σ G H R v u a b Qv k)
end
abbrev rAddA (K : Fg) : R2 := fun x y H Q => rI0 (fun i j => .int (i + j)) x y H Q ∨ (rAddS1 x y H Q ∨ (rCatA K x y H Q ∨ rCat x y H Q))
theorem op_addA {X : Cx} : OpR X (binaryOp .Add) (rAddA X.K) := op_add.or (op_add_str.or (op_catA.or op_cat))
section
variable {K : Fg} {M : Ms} {Q : QZ}
theorem za_i {i j : Int} (q : Q (.d (.int (i + j))) M) : ZO K (rAddA K) (.d (.int i)) (.d (.int j)) M Q := zo_l (zo_add q)
theorem za_s {i j : Str} (hl : i.length + j.length ≤ sizeLine) (q : Q (.d (.str (i ++ j))) M) : ZO K (rAddA K) (.d (.str i)) (.d (.str j)) M Q := zo_r (zo_l (zo_addS hl q))
theorem za_t {xs ys : List PyData} (hl : xs.length + ys.length ≤ sizeLine) (q : Q (.d (.tuple (xs ++ ys))) M) : ZO K (rAddA K) (.d (.tuple xs)) (.d (.tuple ys)) M Q := zo_r (zo_r (zo_l (zo_catT hl q)))
theorem za_l {p p2 : Addr} {b b2 : Bool} {xs ys : List PyData} (hm : (p, b, CD.lst xs) ∈ M) (hm2 : (p2, b2, CD.lst ys) ∈ M) (hl : xs.length + ys.length ≤ sizeLine) (q : ∀ r, Q (.c r) ((r, true, .lst (xs ++ ys)) :: M)) : ZO K (rAddA K) (.c p) (.c p2) M Q := zo_r (zo_r (zo_r (zo_catL hm hm2 hl q)))
end
section
variable {K : Fg} {M : Ms} {Q : QZ}
theorem zo_fdivW {i j : Int} (hc : CDivW i j) (q : Q (.d (.int (i / j))) M) : ZO K (rI CDivW fun i j => .int (i / j)) (.d (.int i)) (.d (.int j)) M Q := zo_I (gd := fun i j => .int (i / j)) (fun _ => .int _) hc q
theorem zo_mulW {i j : Int} (hc : CMulW i j) (q : Q (.d (.int (i * j))) M) : ZO K (rI CMulW fun i j => .int (i * j)) (.d (.int i)) (.d (.int j)) M Q := zo_I (gd := fun i j => .int (i * j)) (fun _ => .int _) hc q
end
/-! ### built-in names as values -/
theorem bt_tuple : bootBuiltins "tuple" = some (.type "tuple") := by decide +kernel
theorem bt_list : bootBuiltins "list" = some (.type "list") := by decide +kernel
theorem bt_str : bootBuiltins "str" = some (.type "str") := by decide +kernel
theorem bt_int : bootBuiltins "int" = some (.type "int") := by decide +kernel
theorem bt_bool : bootBuiltins "bool" = some (.type "bool") := by decide +kernel
theorem bt_dict : bootBuiltins "dict" = some (.type "dict") := by decide +kernel
theorem bt_set : bootBuiltins "set" = some (.type "set") := by decide +kernel
theorem bb_len : bootBuiltins "len" = some (.builtin "len") := by decide +kernel
theorem bb_isinstance : bootBuiltins "isinstance" = some (.builtin "isinstance") := by decide +kernel
theorem bb_min : bootBuiltins "min" = some (.builtin "min") := by decide +kernel
theorem bb_max : bootBuiltins "max" = some (.builtin "max") := by decide +kernel
theorem bb_sorted : bootBuiltins "sorted" = some (.builtin "sorted") := by decide +kernel
theorem bb_abs : bootBuiltins "abs" = some (.builtin "abs") := by decide +kernel
theorem bb_any : bootBuiltins "any" = some (.builtin "any") := by decide +kernel
theorem bb_all : bootBuiltins "all" = some (.builtin "all") := by decide +kernel
theorem bb_sum : bootBuiltins "sum" = some (.builtin "sum") := by decide +kernel
end Z
namespace Z
open PySem PySem.Spec PyProof.Rows L2
open Evl (Ex)
section
variable {K : Fg} {E : L2.St → XK} {S : Zs} {M : Ms}
theorem zs_raiseO {C : Addr} {P : ZP} (h : P.ex ⟨C, []⟩ S M) : ZS K E (fun _ σ H => E σ (.ref C) none H) S M P := fun n σ G H R D k => k.ex (.ref C) none σ G H ⟨C, []⟩ S M (Ex.refl G) R ⟨rfl, rfl⟩ h
end
/-- what an own error class without own __init__ must have to be raised with a text -/
structure Rsr (K : Fg) (mg : Str → Option Value) (x : Str) (C : Addr) : Prop where
  xi : PySem.W.excIn K C [Value.type "ValueError", Value.type "Exception", Value.type "BaseException", Value.type "object"] "ValueError.__new__" = true
  g : mg x = some (.ref C)
  k : PySem.W.keepIn K (.ref C) = true
  ex : PySem.W.subIn K (.ref C) (.type "BaseException") = some true
  ty : PySem.W.typeIn K (.ref C) = some (.type "type")
section
variable {K : Fg} {E : L2.St → XK} {e0 : XK} {te ta : TE} {tA : TA} {S : Zs} {M : Ms} {Q : QZ} {X : XZ}
/-- f(o, ..), f a def whose first argument is an own object of the class C -/
theorem zw_callO {ar : Nat} {C : Addr} {R : List (Str × ZV) → List PyData → DOut → List (Str × ZV) → Prop} (h : ZA K (fun _ => e0) tA S M (fun zs M1 => ∃ p b fs zs' ds o fs' M2, zs = .c p :: zs' ∧ AllD zs' ds ∧ ds.length = ar ∧ R fs ds o fs' ∧ Upd1 p b (.obj C fs) (.obj C fs') M1 M2 ∧ (∀ d, o = .ok d → Q (.d d) M2) ∧ (∀ x, o = .ex x → X x S M2)) X) :
    ZW K (fun _ => e0) (tCall (spO K C ar R) [] e0 tA) S M Q X := fun n σ G H Rl Qv k kx =>
  h n σ G H Rl _ (fun vs G1 H1 zs M1 e1 R1 a1 ⟨p, b, fs, zs', ds, o, fs', M2, hz, hd, hk, hR, hu, q1, q2⟩ => by
    subst hz
    cases a1 with
    | cons a1 a2 =>
      have ev := a1
      obtain ⟨hp, hc⟩ := R1.ce p b _ hu.mem
      subst ev
      exact ⟨G1, p, fs, _, ds, o, fs', by rw [List.append_nil], hk, R1.ex, hp, hc, zall_d (by rw [← hd]; exact a2), hR, fun d ho v G' H' e own hc' a => k v G' H' (.d d) M2 (e1.trans e.g) (R1.call1 e hu own hc') a (q1 d ho), fun x ho cls dd G' H' e own hc' a => kx cls dd G' H' x S M2 (e1.trans e.g) (R1.call1 e hu own hc') a (q2 x ho)⟩) kx
theorem flat_strs (al : List Str) : ((al.map PyData.str).map vOf).all flatV = true ∧ (al.map PyData.str).all flatD = true := by
  constructor <;> (induction al with
  | nil => rfl
  | cons a l ih => simpa [vOf, flatV, flatD] using ih)
theorem inV_strs (w : Str) (al : List Str) : inV (vOf (.str w)) ((al.map PyData.str).map vOf) = decide (w ∈ al) := by
  induction al with
  | nil => rfl
  | cons a l ih =>
    have e : inV (vOf (.str w)) (((a :: l).map PyData.str).map vOf) = (eqV (.str a) (.str w) || inV (vOf (.str w)) ((l.map PyData.str).map vOf)) := rfl
    rw [e, ih]
    have e2 : eqV (.str a) (.str w) = decide (w = a) := by
      show (a == w) = decide (w = a)
      by_cases h : w = a
      · subst h; simp
      · simp [h, Ne.symm h]
    rw [e2]
    simp
theorem zo_inTS {M : Ms} {Q : QZ} {neg : Bool} {w : Str} {al : List Str} (q : Q (.d (.bool (if neg then !decide (w ∈ al) else decide (w ∈ al)))) M) : ZO K (rIn K neg) (.d (.str w)) (.d (.tuple (al.map .str))) M Q :=
  zo_inT ⟨rfl, rfl⟩ (flat_strs al) (by rw [inV_strs]; exact q)
theorem zo_inLS {M : Ms} {Q : QZ} {neg : Bool} {w : Str} {al : List Str} (q : Q (.d (.bool (if neg then !decide (w ∈ al) else decide (w ∈ al)))) M) : ZO K (rIn K neg) (.d (.str w)) (.d (.list (al.map .str))) M Q :=
  zo_inL ⟨rfl, rfl⟩ (flat_strs al) (by rw [inV_strs]; exact q)
abbrev rEqA (K : Fg) : R2 := fun x y H Q => rEq x y H Q ∨ rEqD K x y H Q
abbrev rNeA (K : Fg) : R2 := fun x y H Q => rNe x y H Q ∨ rNeD K x y H Q
theorem op_eqA {X : Cx} (hu : X.A.units + 64 < cLine) : OpR X (compareOp .Eq) (rEqA X.K) := op_eq.or (op_eqD hu)
theorem op_neA {X : Cx} (hu : X.A.units + 64 < cLine) : OpR X (compareOp .NotEq) (rNeA X.K) := op_ne.or (op_neD hu)
theorem zo_eqV {M : Ms} {Q : QZ} {x y : PyData} (hx : flatD x = true) (hy : flatD y = true) (hs : scal (vOf x) (vOf y) = true) {c : Bool} (hc : c = decide (vOf x = vOf y)) (q : Q (.d (.bool c)) M) : ZO K rEq (.d x) (.d y) M Q :=
  zo_val (z := .d (.bool c)) (fun G H v u e a b => by
    have ev := dp_flat a hx
    have eu := dp_flat b hy
    subst ev eu
    exact ⟨_, .bl _, fun Qv h => ⟨hs, by rw [← hc]; exact h⟩⟩) q
theorem zo_neV {M : Ms} {Q : QZ} {x y : PyData} (hx : flatD x = true) (hy : flatD y = true) (hs : scal (vOf x) (vOf y) = true) {c : Bool} (hc : c = !decide (vOf x = vOf y)) (q : Q (.d (.bool c)) M) : ZO K rNe (.d x) (.d y) M Q :=
  zo_val (z := .d (.bool c)) (fun G H v u e a b => by
    have ev := dp_flat a hx
    have eu := dp_flat b hy
    subst ev eu
    exact ⟨_, .bl _, fun Qv h => ⟨hs, by rw [← hc]; exact h⟩⟩) q
theorem vint_eq (a b : Int) : decide (a = b) = decide (vOf (.int a) = vOf (.int b)) := by
  simp [vOf]
theorem vstr_eq (a b : Str) : decide (a = b) = decide (vOf (.str a) = vOf (.str b)) := by
  simp [vOf]
theorem zo_eqI {M : Ms} {Q : QZ} {a b : Int} (q : Q (.d (.bool (decide (a = b)))) M) : ZO K (rEqA K) (.d (.int a)) (.d (.int b)) M Q := zo_l (zo_eqV rfl rfl rfl (vint_eq a b) q)
theorem zo_eqS {M : Ms} {Q : QZ} {a b : Str} (q : Q (.d (.bool (decide (a = b)))) M) : ZO K (rEqA K) (.d (.str a)) (.d (.str b)) M Q := zo_l (zo_eqV rfl rfl rfl (vstr_eq a b) q)
theorem zo_neI {M : Ms} {Q : QZ} {a b : Int} (q : Q (.d (.bool (!decide (a = b)))) M) : ZO K (rNeA K) (.d (.int a)) (.d (.int b)) M Q := zo_l (zo_neV rfl rfl rfl (by rw [vint_eq]) q)
theorem zo_neS {M : Ms} {Q : QZ} {a b : Str} (q : Q (.d (.bool (!decide (a = b)))) M) : ZO K (rNeA K) (.d (.str a)) (.d (.str b)) M Q := zo_l (zo_neV rfl rfl rfl (by rw [vstr_eq]) q)
theorem zo_eqDD {M : Ms} {Q : QZ} {x y : PyData} (hx : SeqAt.shaped x = true) (hy : SeqAt.shaped y = true) (q : Q (.d (.bool (PyData.eqv x y))) M) : ZO K (rEqA K) (.d x) (.d y) M Q := zo_r (zo_eq hx hy q)
theorem zo_neDD {M : Ms} {Q : QZ} {x y : PyData} (hx : SeqAt.shaped x = true) (hy : SeqAt.shaped y = true) (q : Q (.d (.bool (!PyData.eqv x y))) M) : ZO K (rNeA K) (.d x) (.d y) M Q := zo_r (zo_ne hx hy q)
theorem dLen_str {s : Str} (h : s.length ≤ sizeLine) : dLen (.str s) = some s.length := if_pos h
theorem dLen_strs (ws : List Str) : dLen (.list (ws.map .str)) = some ws.length := by show some _ = _; rw [List.length_map]
theorem atI_str {ws : List Str} {k : Nat} {w : Str} (h : ws[k]? = some w) : atI (ws.map PyData.str) (k : Nat) = some (.str w) := atI_nat (by rw [List.getElem?_map, h]; rfl)
/-- a constant of the module: data that the classes' part holds -/
theorem zw_con {v : V} {d : PyData} (hd : ∀ G, Dz K G v d) (q : Q (.d d) M) : ZW K E (tC v) S M Q X := fun n σ G H R Qv k kx => k v G H (.d d) M (Ex.refl G) R (hd G) q
theorem zw_make0 {ar : Nat} {C : Addr} {R : List (Str × ZV) → List PyData → DOut → List (Str × ZV) → Prop} (h : ZA K E tA S M (fun zs M1 => ∃ ds fs', AllD zs ds ∧ ds.length = ar ∧ R [] ds (.ok .none) fs' ∧ ∀ p, Q (.c p) ((p, true, .obj C fs') :: M1)) X) : ZW K E (tMake C (spO K C ar R) [] E0 tA) S M Q X := fun n σ G H Rl Qv k kx =>
  h n σ G H Rl _ (fun vs G1 H1 zs M1 e1 R1 a1 ⟨ds, fs', hd, hk, hR, q1⟩ x dx hx hdx hne => by
    have R2 := R1.lay (p := dx) (o := .own x) hdx
    have hx2 : (upd H1 dx (.own x)) x = none := by rw [upd_ne (Ne.symm hne)]; exact hx
    have R3 := R2.lay (p := x) (o := .ins C dx []) hx2
    have gdx := ex_gnone R1.ex hdx
    have hown : (upd (upd H1 dx (.own x)) x (.ins C dx [])) dx = some (.own x) := by rw [upd_ne hne, upd_same]
    have hc : CD.at K G1 (upd (upd H1 dx (.own x)) x (.ins C dx [])) x (.obj C []) := ⟨dx, [], upd_same, hown, gdx, .nil⟩
    have R4 := R3.cell (R1.fresh hx) (R1.notin hx) (ex_gnone R1.ex hx) hc
    refine ⟨G1, x, [], vs, ds, .ok .none, fs', by rw [List.append_nil], hk, R4.ex, ex_gnone R1.ex hx, hc, zall_d (by rw [← hd]; exact a1), hR, fun d ho v G' H' e own hc' a => ?_, fun y ho => nomatch ho⟩
    have ho := DOut.ok.inj ho
    subst ho
    exact ⟨dp_non a, k (.ref x) G' H' (.c x) _ (e1.trans e.g) (R4.call1 e .here own hc') rfl (q1 x)⟩) kx
theorem zw_methO0 {ar : Nat} {C : Addr} {m : Str} {R : List (Str × ZV) → List PyData → DOut → List (Str × ZV) → Prop} (h : ZW K E te S M (fun z M0 => ∃ p, z = .c p ∧ (∃ b fs0, (p, b, CD.obj C fs0) ∈ M0 ∧ fs0.lookup m = none) ∧ ZA K E tA S M0 (fun zs M1 => ∃ b fs ds d fs' M2, AllD zs ds ∧ ds.length = ar ∧ R fs ds (.ok d) fs' ∧ Upd1 p b (.obj C fs) (.obj C fs') M1 M2 ∧ Q (.d d) M2) X) X) :
    ZW K E (tMeth C m (spO K C ar R) [] E0 te tA) S M Q X := fun n σ G H Rl Qv k kx =>
  h n σ G H Rl _ (fun v G0 H0 z M0 e0' R0 a0 ⟨p, hz, ⟨b0, fs0, hm0, hl0⟩, h2⟩ => by
    subst hz
    have ev : v = .ref p := a0
    subst ev
    obtain ⟨_, dx, fv, h3, h4, h5, h6⟩ := R0.ce p b0 _ hm0
    refine ⟨p, dx, fv, rfl, h3, (lookup_paired h6 m).1 hl0, h2 n σ G0 H0 R0 _ (fun vs G1 H1 zs M1 e1 R1 a1 ⟨b, fs, ds, d, fs', M2, hd, hk, hR, hu, q1⟩ => ?_) (kx.mono e0')⟩
    obtain ⟨hp, hc⟩ := R1.ce p b _ hu.mem
    refine ⟨G1, p, fs, _, ds, .ok d, fs', by rw [List.append_nil], hk, R1.ex, hp, hc, zall_d (by rw [← hd]; exact a1), hR, fun d' ho v G' H' e own hc' a => ?_, fun x ho => nomatch ho⟩
    have ho := DOut.ok.inj ho
    subst ho
    exact k v G' H' (.d d) M2 ((e0'.trans e1).trans e.g) (R1.call1 e hu own hc') a q1) kx
theorem zw_callO0 {ar : Nat} {C : Addr} {R : List (Str × ZV) → List PyData → DOut → List (Str × ZV) → Prop} (h : ZA K E tA S M (fun zs M1 => ∃ p b fs zs' ds d fs' M2, zs = .c p :: zs' ∧ AllD zs' ds ∧ ds.length = ar ∧ R fs ds (.ok d) fs' ∧ Upd1 p b (.obj C fs) (.obj C fs') M1 M2 ∧ Q (.d d) M2) X) :
    ZW K E (tCall (spO K C ar R) [] E0 tA) S M Q X := fun n σ G H Rl Qv k kx =>
  h n σ G H Rl _ (fun vs G1 H1 zs M1 e1 R1 a1 ⟨p, b, fs, zs', ds, d, fs', M2, hz, hd, hk, hR, hu, q1⟩ => by
    subst hz
    cases a1 with
    | cons a1 a2 =>
      have ev := a1
      obtain ⟨hp, hc⟩ := R1.ce p b _ hu.mem
      subst ev
      refine ⟨G1, p, fs, _, ds, .ok d, fs', by rw [List.append_nil], hk, R1.ex, hp, hc, zall_d (by rw [← hd]; exact a2), hR, fun d' ho v G' H' e own hc' a => ?_, fun x ho => nomatch ho⟩
      have ho := DOut.ok.inj ho
      subst ho
      exact k v G' H' (.d d) M2 (e1.trans e.g) (R1.call1 e hu own hc') a q1) kx
theorem canLay_ints : ∀ l : List Int, PyData.canLayAll0 (l.map PyData.int) = true
  | [] => rfl
  | _ :: r => by simp [PyData.canLayAll0, PyData.canLay0, canLay_ints r]
theorem depth_ints : ∀ l : List Int, PyData.depthAll (l.map PyData.int) = 0
  | [] => rfl
  | _ :: r => by simp [PyData.depthAll, PyData.depth, depth_ints r]
theorem shp_ints (l : List Int) : SeqAt.shaped (.tuple (l.map .int)) = true := by
  simp [SeqAt.shaped, PyData.canLay0, PyData.depth, canLay_ints, depth_ints]
theorem eqv_nilT (l : List Int) : PyData.eqv (.tuple (l.map .int)) (.tuple []) = l.isEmpty := by cases l <;> rfl
theorem vbl_eq (a b : Bool) : (a == b) = decide (vOf (.bool a) = vOf (.bool b)) := by
  cases a <;> cases b <;> rfl
theorem zo_eqB {M : Ms} {Q : QZ} {a b : Bool} (q : Q (.d (.bool (a == b))) M) : ZO K (rEqA K) (.d (.bool a)) (.d (.bool b)) M Q := zo_l (zo_eqV rfl rfl rfl (vbl_eq a b) q)
theorem zo_neB {M : Ms} {Q : QZ} {a b : Bool} (q : Q (.d (.bool (!(a == b)))) M) : ZO K (rNeA K) (.d (.bool a)) (.d (.bool b)) M Q := zo_l (zo_neV rfl rfl rfl (by rw [vbl_eq]) q)
def dNone : PyData → Bool
  | .none => true
  | _ => false
theorem dp_isN {G : Hp} {v : V} {x : PyData} (h : Dz K G v x) : decide (v = V.non) = dNone x := by
  cases h <;> simp [dNone]
theorem zo_isN {M : Ms} {Q : QZ} {x : PyData} (q : Q (.d (.bool (dNone x))) M) : ZO K (fun x y H Q => y = V.non ∧ Q (.bl (decide (x = V.non))) H) (.d x) (.d .none) M Q := fun n S σ G H R v u a b Qv k =>
  ⟨dp_non b, by rw [dp_isN a]; exact k (.bl (dNone x)) G H (.d (.bool (dNone x))) M (Ex.refl G) R (Dz.bl _) q⟩
theorem zo_notN {M : Ms} {Q : QZ} {x : PyData} (q : Q (.d (.bool (!dNone x))) M) : ZO K (fun x y H Q => y = V.non ∧ Q (.bl (!decide (x = V.non))) H) (.d x) (.d .none) M Q := fun n S σ G H R v u a b Qv k =>
  ⟨dp_non b, by rw [dp_isN a]; exact k (.bl (!dNone x)) G H (.d (.bool (!dNone x))) M (Ex.refl G) R (Dz.bl _) q⟩
theorem zw_mono {Q' : QZ} (h : ZW K E te S M Q' X) (hi : ∀ z M', Q' z M' → Q z M') : ZW K E te S M Q X := fun n σ G H R Qv k kx => h n σ G H R Qv (fun v G' H' z M' e R' a q => k v G' H' z M' e R' a (hi z M' q)) kx
theorem zs_par3 {i j l : Nat} {P : ZP} (h : ZA K E tA S M (fun zs M1 => ∃ z w y, zs = [z, w, y] ∧ P.nx (((S.set i (some z)).set j (some w)).set l (some y)) M1) P.ex) : ZS K E (tPar3 i j l tA) S M P := fun n σ G H R D k =>
  h n σ G H R _ (fun vs G1 H1 zs M1 e1 R1 a1 ⟨z, w, y, hz, q⟩ => by
    subst hz
    cases a1 with
    | cons a b => cases b with | cons b c => cases c with | cons c d => cases d; exact ⟨_, _, _, rfl, k.nx _ G1 H1 _ M1 e1 (((R1.set a).set b).set c) q⟩) k.xok
theorem zc_min2 {M : Ms} {Q : QZ} {i j : Int} (q : Q (.d (.int (if j < i then j else i))) M) : ZC K (fun xs H Q => ∃ i j, xs = [.int i, .int j] ∧ Q (.int (if j < i then j else i)) H) [.d (.int i), .d (.int j)] M Q :=
  zc_val (z := .d (.int (if j < i then j else i))) (fun G H vs e a => by
    obtain ⟨v, u, rfl, av, au⟩ := zall2 a
    exact ⟨.int _, Dz.int _, fun Qv hq => ⟨i, j, by rw [dp_int av, dp_int au], hq⟩⟩) q
theorem zc_max2 {M : Ms} {Q : QZ} {i j : Int} (q : Q (.d (.int (if j > i then j else i))) M) : ZC K (fun xs H Q => ∃ i j, xs = [.int i, .int j] ∧ Q (.int (if j > i then j else i)) H) [.d (.int i), .d (.int j)] M Q :=
  zc_val (z := .d (.int (if j > i then j else i))) (fun G H vs e a => by
    obtain ⟨v, u, rfl, av, au⟩ := zall2 a
    exact ⟨.int _, Dz.int _, fun Qv hq => ⟨i, j, by rw [dp_int av, dp_int au], hq⟩⟩) q
/-- a statement's own end, ahead of what follows -/
theorem zs_nx {t : TS} {P : ZP} {N : Zs → Ms → Prop} (h : ZS K E t S M { P with nx := N }) (hi : ∀ S' M', N S' M' → P.nx S' M') : ZS K E t S M P := fun n σ G H R D k =>
  h n σ G H R D ⟨fun σ' G' H' S' M' e R' q => k.nx σ' G' H' S' M' e R' (hi S' M' q), k.rt, k.bk, k.ct, k.ex⟩
theorem dSl_str {s : Str} {lo hi : Option Int} (h : s.length ≤ sizeLine) : dSl (.str s) lo hi = some (.str (Txt.slice s lo hi)) := if_pos h
def tTry (K : Fg) (tb : WX → TS) (c : Value) (i : Nat) (ts : Addr → Value → Option Addr → TS) (Wout : WX) : TS := fun D σ H => tb (wAs K c i ts Wout D) D σ H
theorem zs_tryZ {tb : WX → TS} {c : Value} {i : Nat} {ts : Addr → Value → Option Addr → TS} {Wout : WX} {P : ZP}
    (h : ∀ W : WX, ZS K (fun σ cls d H => W cls d σ H) (tb W) S M { P with ex := fun x S' M' => PySem.W.exmOne K (.ref x.cls) c = some true ∧ ∀ a d, ZS K E (ts a (.ref x.cls) d) (S'.set i (some (.e a (.ref x.cls) d x))) M' (SuiteP P i) }) :
    ZS K E (tTry K tb c i ts Wout) S M P := zs_try h
end
end Z
/-! a def that hands back a new own object; an object of a class without __init__; one of several readings; //, gcd, abs of great numbers; x is True -/
namespace Z
open PySem PySem.Spec PyProof.Rows L2
open Evl (Ex)
/-! ### one of several readings of an expression -/
def tOr2 (a b : TE) : TE := fun σ H Q => a σ H Q ∨ b σ H Q
theorem pe_or2 {X : Cx} {e : Expr} {a b : TE} (ha : PE X e a) (hb : PE X e b) : PE X e (tOr2 a b) :=
  ⟨fun pins s σ H Q I h => h.elim (fun q => ha.run pins s σ H Q I q) (fun q => hb.run pins s σ H Q I q)⟩
section
variable {K : Fg} {E : L2.St → XK} {e0 : XK} {te ta tb : TE} {tA : TA} {t : TS} {S : Zs} {M : Ms} {P : ZP} {Q : QZ} {X : XZ} {n : Sn} {σ : L2.St} {G G' H H' : Hp}
theorem zw_orl (h : ZW K E ta S M Q X) : ZW K E (tOr2 ta tb) S M Q X := fun n σ G H R Qv k kx => .inl (h n σ G H R Qv k kx)
theorem zw_orr (h : ZW K E tb S M Q X) : ZW K E (tOr2 ta tb) S M Q X := fun n σ G H R Qv k kx => .inr (h n σ G H R Qv k kx)
/-! ### a def over data that hands back a new own object -/
def spB (K : Fg) (k : Nat) (R : List PyData → Addr → List (Str × ZV) → Prop) : Sp := fun vs H Q E => ∃ (G : Hp) (ds : List PyData) (C : Addr) (fs : List (Str × ZV)), Ex G H ∧ ds.length = k ∧ DzAll K G vs ds ∧ R ds C fs ∧
  ∀ p G' H', Ext [] G H G' H' → H p = none → G' p = none → CD.at K G' H' p (.obj C fs) → Q (.ref p) H'
def PFb (C : Addr) (fs : List (Str × ZV)) : ZP := ⟨fun _ _ => False, fun z M => ∃ p, z = .c p ∧ (p, true, .obj C fs) ∈ M, fun _ _ => False, fun _ _ => False, fun _ _ _ => False⟩
theorem fn_B {R : List PyData → Addr → List (Str × ZV) → Prop} {k : Nat} {N : List Str} {vs : List V} {Qv : VK} (h : spB K k R vs H Qv e0) (b : ∀ ds C fs, ds.length = k → R ds C fs → ZS K (fun _ => e0) t (stS ds ++ List.replicate (N.length - ds.length) none) [] (PFb C fs)) : t { nx := fun _ H' => Qv .non H', rt := Qv } (L2.start N vs) H := by
  obtain ⟨G, ds, C, fs, e, hk, hd, hR, q⟩ := h
  refine b ds C fs hk hR ⟨G, H, []⟩ _ G H (rel_start e hd) _ ⟨fun _ _ _ _ _ _ _ z => z.elim, fun v σ' G' H' z S' M' _ R a z' => ?_, fun _ _ _ _ _ _ _ z => z.elim, fun _ _ _ _ _ _ _ z => z.elim, fun _ _ _ _ _ _ _ _ _ _ _ z => z.elim⟩
  obtain ⟨p, hz, hm⟩ := z'
  subst hz
  have ev : v = .ref p := a
  subst ev
  obtain ⟨h1, h2⟩ := R.ce p true _ hm
  exact q p G' H' R.ext (R.o0 p _ hm) h1 h2
theorem len_B {R : List PyData → Addr → List (Str × ZV) → Prop} {k : Nat} {vs : List V} {Qv : VK} (h : spB K k R vs H Qv e0) : vs.length = k := by
  obtain ⟨G, ds, C, fs, e, hk, hd, _⟩ := h
  rw [dpa_len hd, hk]
theorem zw_callB0 {ar : Nat} {R : List PyData → Addr → List (Str × ZV) → Prop} (h : ZA K E tA S M (fun zs M1 => ∃ ds C fs, AllD zs ds ∧ ds.length = ar ∧ R ds C fs ∧ ∀ p, Q (.c p) ((p, true, .obj C fs) :: M1)) X) : ZW K E (tCall (spB K ar R) [] E0 tA) S M Q X := fun n σ G H Rl Qv k kx =>
  h n σ G H Rl _ (fun vs G1 H1 zs M1 e1 R1 a1 ⟨ds, C, fs, hd, hk, hR, q⟩ => by
    refine ⟨G1, ds, C, fs, R1.ex, hk, ?_, hR, fun p G' H' e hp hg hc => ?_⟩
    · rw [List.append_nil]
      exact zall_d (by rw [← hd]; exact a1)
    · exact k (.ref p) G' H' (.c p) _ (e1.trans e.g) ((R1.call e).cell (R1.fresh hp) (R1.notin hp) hg hc) rfl (q p)) kx
/-! ### C(), C a class without __init__ -/
def tMakeE (C : Addr) : TE := fun _ H Q => ∀ x dx, H x = none → H dx = none → dx ≠ x → Q (.ref x) (upd (upd H dx (.own x)) x (.ins C dx []))
theorem zw_makeE {C : Addr} (q : ∀ p, Q (.c p) ((p, true, .obj C []) :: M)) : ZW K E (tMakeE C) S M Q X := fun n σ G H Rl Qv k kx x dx hx hdx hne => by
  have R2 := Rl.lay (p := dx) (o := .own x) hdx
  have hx2 : (upd H dx (.own x)) x = none := by rw [upd_ne (Ne.symm hne)]; exact hx
  have R3 := R2.lay (p := x) (o := .ins C dx []) hx2
  have hown : (upd (upd H dx (.own x)) x (.ins C dx [])) dx = some (.own x) := by rw [upd_ne hne, upd_same]
  have hc : CD.at K G (upd (upd H dx (.own x)) x (.ins C dx [])) x (.obj C []) := ⟨dx, [], upd_same, hown, ex_gnone Rl.ex hdx, .nil⟩
  exact k (.ref x) G _ (.c x) _ (Ex.refl G) (R3.cell (Rl.fresh hx) (Rl.notin hx) (ex_gnone Rl.ex hx) hc) rfl (q x)
end
section
variable {X : Cx} {C : Addr} {x : Str} {p pos : Pos}
/-- what such a class must have -/
structure MkE (K : Fg) (mg : Str → Option Value) (x : Str) (C : Addr) : Prop where
  m : PySem.W.makesIn K C = true
  i : PySem.W.findIn K (.ref C) "__init__" = some (some (.builtin "object.__init__"))
  k : PySem.W.keepIn K (.ref C) = true
  g : mg x = some (.ref C)
theorem pe_mkE (T : MkE X.K X.mg x C) (hg : Gl X x := by rfl) (hdb : (x == ("__debug__" : Str)) = false := by decide) : PE X (.Call (.Name x p) [] [] pos) (tMakeE C) := by
  refine ⟨fun pins s σ H Q I h => wpAny_Call_Name_kw (ld_glob I hg T.g (PySem.W.callWith_K0 I.kIn T.k (wpAny_call ?_)) hdb)⟩
  have J := Inv.made (C := C) I
  have q := h (s.heap.objs.size + 1) s.heap.objs.size (I.hok.fresh (Nat.le_succ _)) (I.hok.fresh (Nat.le_refl _)) (Nat.ne_of_lt (Nat.lt_succ_self _))
  have Y := PySem.W.makes_of (M := model X.prog X.w) I.kIn T.m
  have old : ∀ b o, s.heap.get? b = some o → ((s.heap.push PySem.W.emptyDict).push (PySem.W.instObj C s.heap.objs.size)).get? b = some o := fun b o e => Heap.get?_push_of_some _ (Heap.get?_push_of_some _ e)
  have new : ((s.heap.push PySem.W.emptyDict).push (PySem.W.instObj C s.heap.objs.size)).get? (s.heap.objs.size + 1) = some (PySem.W.instObj C s.heap.objs.size) := by
    rw [← Heap.size_push s.heap PySem.W.emptyDict]
    exact Heap.get?_push_size _ rfl
  have ty : PySem.W.Looks (model X.prog X.w) ((s.heap.push PySem.W.emptyDict).push (PySem.W.instObj C s.heap.objs.size)) (typeOf (.ref (s.heap.objs.size + 1))) (.ref C) := (PySem.W.Looks.ld new).andThen .now
  have obj : PySem.W.Looks (model X.prog X.w) ((s.heap.push PySem.W.emptyDict).push (PySem.W.instObj C s.heap.objs.size)) (isInstance (.ref (s.heap.objs.size + 1)) (.type "object")) true := ty.andThen (Y.top.keeps old)
  refine PySem.W.make_core Y (PySem.W.looks_findIn I.kIn T.i) (fun self => .of_pure (PySem.W.oi_bind self)) (.inr ⟨rfl, rfl⟩) (codeAny_call_builtin PySem.W.oi_plain PySem.W.entry_oi (PySem.W.check_slot PySem.W.oi_kind PySem.W.oi_split obj (PySem.W.oi_args _) ?_))
  show wpAny _ _ (Builtin.«object.__init__» ⟨[.ref (s.heap.objs.size + 1)], []⟩) _ _ _
  rw [PySem.W.oi_run]
  exact wpAny_pure ⟨rfl, V.ref (s.heap.objs.size + 1), _, J, rfl, q⟩
/-! ### great numbers -/
def CDivG (_ j : Int) : Prop := j ≠ 0 ∧ j.natAbs.log2 < 9000
theorem op_fdivG : OpR X (binaryOp .FloorDiv) (rI CDivG fun i j => .int (i.fdiv j)) := opI fun i j t u s Q E hc q => floordiv_int hc.1 q (.inl (PyProof.noPylong_of_log2 hc.2))
end
section
variable {K : Fg} {M : Ms} {Q : QZ}
theorem zo_fdivG {i j : Int} (hc : CDivG i j) (q : Q (.d (.int (i.fdiv j))) M) : ZO K (rI CDivG fun i j => .int (i.fdiv j)) (.d (.int i)) (.d (.int j)) M Q := zo_I (gd := fun i j => .int (i.fdiv j)) (fun _ => .int _) hc q
abbrev rAbs : List V → Hp → VK → Prop := fun xs H Q => ∃ i, xs = [.int i] ∧ Q (.int (if i < 0 then -i else i)) H
theorem zc_abs {i : Int} (q : Q (.d (.int (if i < 0 then -i else i))) M) : ZC K rAbs [.d (.int i)] M Q := zc_val (z := .d (.int (if i < 0 then -i else i))) (fun G H vs e a => by
  obtain ⟨v, rfl, av⟩ := zall1 a
  exact ⟨_, Dz.int _, fun Qv hq => ⟨i, by rw [dp_int av], hq⟩⟩) q
theorem zc_gcd {i j : Int} (q : Q (.d (.int ((Nat.gcd i.natAbs j.natAbs : Nat) : Int))) M) : ZC K rGcd [.d (.int i), .d (.int j)] M Q := zc_val (z := .d (.int ((Nat.gcd i.natAbs j.natAbs : Nat) : Int))) (fun G H vs e a => by
  obtain ⟨v, u, rfl, av, au⟩ := zall2 a
  exact ⟨_, Dz.int _, fun Qv hq => ⟨i, j, by rw [dp_int av, dp_int au], hq⟩⟩) q
abbrev rIsB : R2 := fun x y H Q => ∃ a b, x = .bl a ∧ y = .bl b ∧ Q (.bl (decide (a = b))) H
abbrev rIsntB : R2 := fun x y H Q => ∃ a b, x = .bl a ∧ y = .bl b ∧ Q (.bl (!decide (a = b))) H
theorem zo_isB {a b : Bool} (q : Q (.d (.bool (decide (a = b)))) M) : ZO K rIsB (.d (.bool a)) (.d (.bool b)) M Q :=
  zo_val (z := .d (.bool (decide (a = b)))) (fun G H v u e x y => ⟨_, .bl _, fun Qv h => ⟨a, b, dp_bl x, dp_bl y, h⟩⟩) q
theorem zo_isntB {a b : Bool} (q : Q (.d (.bool (!decide (a = b)))) M) : ZO K rIsntB (.d (.bool a)) (.d (.bool b)) M Q :=
  zo_val (z := .d (.bool (!decide (a = b)))) (fun G H v u e x y => ⟨_, .bl _, fun Qv h => ⟨a, b, dp_bl x, dp_bl y, h⟩⟩) q
end
end Z
/-! [e for x in range(a, b) for y in range(c, d)] -/
namespace Z
open PySem PySem.Spec PyProof.Rows L2
open Evl (Ex)
/-- what stands in the list ahead of the turn (i, j) -/
def gridL (f : Nat → Nat → PyData) (m i j : Nat) : List PyData := ((List.range i).flatMap fun a => (List.range m).map (f a)) ++ (List.range j).map (f i)
theorem gridL_zero (f : Nat → Nat → PyData) (m : Nat) : gridL f m 0 0 = [] := rfl
theorem gridL_row (f : Nat → Nat → PyData) (m i : Nat) : gridL f m i m = gridL f m (i + 1) 0 := by
  unfold gridL
  rw [List.range_succ, List.flatMap_append]
  simp
theorem gridL_cell (f : Nat → Nat → PyData) (m i j : Nat) : gridL f m i (j + 1) = gridL f m i j ++ [f i j] := by
  unfold gridL
  rw [List.range_succ, List.map_append, List.append_assoc]
  rfl
theorem gridL_len (f : Nat → Nat → PyData) (m i j : Nat) : (gridL f m i j).length = i * m + j := by
  induction i with
  | zero => unfold gridL; simp
  | succ i ih =>
    have e : gridL f m (i + 1) j = (gridL f m i m) ++ (List.range j).map (f (i + 1)) := by
      rw [gridL_row]
      unfold gridL
      simp
    have e2 : (gridL f m i m).length = i * m + m := by
      have h := ih
      unfold gridL at h ⊢
      simp at h ⊢
      omega
    rw [e, List.length_append, e2, List.length_map, List.length_range, Nat.succ_mul]
theorem par_go {F : ZV → ZV → Prop} {z w : ZV} (h : F z w) : ∃ a b, [z, w] = [a, b] ∧ F a b := ⟨z, w, rfl, h⟩
theorem par_go3 {F : ZV → ZV → ZV → Prop} {z w y : ZV} (h : F z w y) : ∃ a b c, [z, w, y] = [a, b, c] ∧ F a b c := ⟨z, w, y, rfl, h⟩
section
variable {K : Fg} {E : L2.St → XK} {tA tB : TA} {g g1 : TG} {te : TE} {S : Zs} {M : Ms} {Q : QZ} {X : XZ}
theorem zw_lc2R {vs vs1 : List Nat} {a b a1 b1 : Int} {r d : Nat} (f : Nat → Nat → PyData) (hr : r ∈ vs) (hd : d ∈ vs1) (hg : g = gName r) (hg1 : g1 = gName d)
    (hz : (b - a).toNat * (b1 - a1).toNat ≤ sizeLine)
    (la : -(2 ^ 62) ≤ a ∧ a < 2 ^ 62 ∧ -(2 ^ 62) ≤ b ∧ b < 2 ^ 62) (lb : -(2 ^ 62) ≤ a1 ∧ a1 < 2 ^ 62 ∧ -(2 ^ 62) ≤ b1 ∧ b1 < 2 ^ 62)
    (hA : ZA K E tA S M (fun zs M1 => zs = [.d (.int a), .d (.int b)] ∧ M1 = M) X)
    (hB : ∀ S2 M2, ZA K E tB S2 M2 (fun zs M1 => zs = [.d (.int a1), .d (.int b1)] ∧ M1 = M2) fun _ _ _ => False)
    (hE : ∀ (i j : Nat) (M2 : Ms), i < (b - a).toNat → j < (b1 - a1).toNat → ZW K E te ((wipeZ ((wipeZ S vs).set r (some (.d (.int (a + (i : Nat)))))) vs1).set d (some (.d (.int (a1 + (j : Nat)))))) M2 (fun z M3 => z = .d (f i j) ∧ M3 = M2) fun _ _ _ => False)
    (q : Q (.d (.list (gridL f (b1 - a1).toNat (b - a).toNat 0))) M) : ZW K E (tLc2 (iRng2 tA) g tYes (iRng2 tB) g1 tYes te vs vs1) S M Q X := fun n σ G H R Qv k kx => by
  subst hg hg1
  refine hA n σ G H R _ (fun us G1 H1 zs M1 e1 R1 a1' ⟨hzs, hM⟩ => ?_) kx
  subst hzs hM
  obtain ⟨v, u, rfl, av, au⟩ := zall2 a1'
  have ev := dp_int av
  have eu := dp_int au
  subst ev eu
  refine ⟨a, b, rfl, la, fun D hD => ?_⟩
  let N := (b - a).toNat
  let L := (b1 - a1).toNat
  -- ahead of a row
  let A : Nat → Hp → Prop := fun i H' => ∃ G', Rel K n (wipeZ S vs) ((D, true, .lst (gridL f L i 0)) :: M1) (L2.wipe σ vs) G' H' ∧ Ex G1 G'
  refine ⟨fun i m H' => m = N - i ∧ i ≤ N ∧ A i H', ⟨N, rfl, Nat.zero_le _, G1, (R1.newLst hD .nil).wipe vs, Ex.refl G1⟩, ?_⟩
  rintro i m H2 ⟨rfl, hi, G2, R2, e2⟩
  by_cases hlt : i < N
  · refine .inr ⟨hlt, A (i + 1), fun H' h' => ⟨N - (i + 1), by omega, rfl, hlt, h'⟩, fun x H' hy => ?_⟩
    obtain ⟨hH, hx⟩ := hy
    subst hH hx
    show _ ∧ _
    have R3 := R2.set (i := r) (v := .int (a + (i : Nat))) (z := .d (.int (a + (i : Nat)))) (Dz.int _)
    refine ⟨wipe_eq (by simp) fun j hj => by rw [List.getElem?_set_ne (fun e => hj (by rw [← e]; exact hr))], ?_⟩
    show tYes _ _ _
    refine hB _ _ n _ G2 _ R3 _ (fun us G3 H3 zs M3 e3 R3' a3 ⟨hzs, hM⟩ => ?_) (fun _ _ _ _ _ _ _ _ _ _ z => z.elim)
    subst hzs hM
    obtain ⟨v, u, rfl, av, au⟩ := zall2 a3
    have ev := dp_int av
    have eu := dp_int au
    subst ev eu
    refine ⟨a1, b1, rfl, lb, ?_⟩
    generalize hS2 : (wipeZ S vs).set r (some (.d (.int (a + (i : Nat))))) = S2 at R3'
    generalize hσ2 : (L2.wipe σ vs).set r (some (.int (a + (i : Nat)))) = σ2 at R3'
    -- ahead of a cell of the row
    let B : Nat → Hp → Prop := fun j H' => ∃ G', Rel K n S2 ((D, true, .lst (gridL f L i j)) :: M1) σ2 G' H' ∧ Ex G3 G'
    refine ⟨fun j k H' => k = L - j ∧ j ≤ L ∧ B j H', ⟨L, rfl, Nat.zero_le _, G3, R3', Ex.refl G3⟩, ?_⟩
    rintro j k' H4 ⟨rfl, hj, G4, R4, e4⟩
    by_cases hjl : j < L
    · refine .inr ⟨hjl, B (j + 1), fun H' h' => ⟨L - (j + 1), by omega, rfl, hjl, h'⟩, fun y H' hy => ?_⟩
      obtain ⟨hH, hx⟩ := hy
      subst hH hx
      show _ ∧ _
      have R5 := (R4.wipe vs1).set (i := d) (v := .int (a1 + (j : Nat))) (z := .d (.int (a1 + (j : Nat)))) (Dz.int _)
      refine ⟨wipe_eq (by simp) fun l hl => by rw [List.getElem?_set_ne (fun e => hl (by rw [← e]; exact hd))], ?_⟩
      show tYes _ _ _
      rw [← hS2] at R5
      refine hE i j _ hlt hjl n _ G4 _ R5 _ (fun w G6 H6 z M6 e6 R6 a6 ⟨hz6, hM6⟩ => ?_) (fun _ _ _ _ _ _ _ _ _ _ z => z.elim)
      subst hz6 hM6
      obtain ⟨_, ws, h1, h2⟩ := R6.ce D true _ m0
      have hlen := gridL_len f L i j
      have hb : i * L + j < sizeLine := by
        have h1 : (i + 1) * L ≤ N * L := Nat.mul_le_mul_right L hlt
        rw [Nat.succ_mul] at h1
        have h2 : N * L ≤ sizeLine := hz
        omega
      refine ⟨ws, h1, by rw [dpa_len h2, hlen]; exact hb, G6, ?_, e4.trans e6⟩
      rw [gridL_cell]
      exact (R4.reslot R6 e6).putLst .here (dpa_app h2 (dpa_one a6))
    · have e : j = L := by omega
      subst e
      refine .inl ⟨Nat.le_refl _, G4, ?_, (e2.trans e3).trans e4⟩
      rw [← gridL_row]
      exact R2.reslot R4 (e3.trans e4)
  · have e : i = N := by omega
    subst e
    refine .inl ⟨Nat.le_refl _, ?_⟩
    obtain ⟨G5, e5, R5, d5⟩ := R2.frz .here
    exact k (.ref D) G5 H2 (.d (.list (gridL f L N 0))) M1 ((e1.trans e2).trans e5) (R1.reslot R5 (e2.trans e5)) d5 q
end
end Z
set_option autoImplicit true
namespace K07
open PySem PySem.Spec PyProof.Rows L2 Z
local macro_rules | `(tactic| walk_at "zd") => `(tactic| repeat (first | exact allD_nil | refine allD_cons ?_))
local macro_rules | `(tactic| walk_at "zm") => `(tactic| first | exact m0 | exact m1 m0 | exact m1 (m1 m0) | exact m1 (m1 (m1 m0)) | exact m1 (m1 (m1 (m1 m0))))
local macro_rules | `(tactic| walk_at "zu") => `(tactic| first | exact .here | exact .there .here | exact .there (.there .here) | exact .there (.there (.there .here)) | exact .there (.there (.there (.there .here))))
local macro_rules | `(tactic| walk_at "z") => `(tactic| first
  | with_reducible refine zs_seq ?_ | with_reducible refine zs_asg ?_ | with_reducible refine zs_setL ?_ | with_reducible refine zs_next ?_ | with_reducible refine zs_ret ?_ | with_reducible refine zs_retN ?_ | with_reducible refine zs_drop ?_ | with_reducible refine zs_if ?_ | with_reducible refine zs_par ?_
  | ((with_reducible refine' zw_var ?zv ?_); (case zv => rfl)) | with_reducible refine zw_int ?_ | with_reducible refine zw_str ?_ | with_reducible refine zw_bl ?_ | with_reducible refine zw_non ?_
  | with_reducible refine zw_op ?_ | with_reducible refine zw_un ?_ | with_reducible refine zw_tup ?_ | with_reducible refine zw_sl ?_ | with_reducible refine zp_none ?_ | with_reducible refine zp_some ?_ | with_reducible refine zw_m1 ?_
  | with_reducible refine zt_test ?_ | with_reducible refine zt_B ?_ | with_reducible refine zt_not ?_ | with_reducible refine zt_and ?_ | with_reducible refine zt_or ?_ | with_reducible refine zw_andV ?_ | with_reducible refine zw_orV ?_ | with_reducible refine zw_notV ?_ | with_reducible refine zw_if ?_
  | with_reducible refine za_cons ?_ | with_reducible refine za_nil ?_
  | with_reducible refine za_i ?_ | with_reducible refine zo_sub ?_ | with_reducible refine zo_lt ?_ | with_reducible refine zo_le ?_ | with_reducible refine zo_gt ?_ | with_reducible refine zo_ge ?_ | with_reducible refine zu_neg ?_
  | with_reducible refine zt_isi rfl ?_ | with_reducible refine zt_isi2 ?_ | with_reducible refine zw_isX rfl ?_ | with_reducible refine zw_cb ?_ | with_reducible refine zc_int ?_
  | ((with_reducible refine' zo_ixC ?za ?zb ?_); (case za => walk_at "zm"); (case zb => first | exact atI0 | exact atI1 | exact atI2 | exact atI3 | assumption)) | ((with_reducible refine' zo_ix ?zb ?_); (case zb => first | rfl | assumption)) | ((with_reducible refine' zc_len ?zb ?_); (case zb => first | rfl | assumption)) | ((with_reducible refine' zc_lenC ?za ?_); (case za => walk_at "zm"))
  | with_reducible refine zt_tru ?_ | with_reducible refine zw_con (by assumption) ?_ | with_reducible refine' zs_raiseO ?_ | with_reducible refine zs_asgG ?_ | with_reducible refine zw_call0 ?_ | with_reducible refine zw_callC0 ?_ | with_reducible refine zw_make0 ?_ | with_reducible refine zw_methO0 ?_ | with_reducible refine zw_callO0 ?_ | with_reducible refine zw_make ?_ | with_reducible refine zw_methO ?_ | with_reducible refine zw_callO ?_ | with_reducible refine zw_callC ?_ | with_reducible refine zw_call ?_ | with_reducible refine zs_forT ?_ | with_reducible refine zs_forL ?_ | with_reducible refine zs_forR1 ?_ | with_reducible refine zs_forR2 ?_ | with_reducible refine zw_lcT ?_ | with_reducible refine zw_lcL ?_ | with_reducible refine zw_lcR1 ?_ | with_reducible refine zw_lcR2 ?_ | with_reducible refine zt_yes ?_ | with_reducible refine zo_eqI ?_ | with_reducible refine zo_eqS ?_ | with_reducible refine zs_par3 ?_ | with_reducible refine zc_min2 ?_ | with_reducible refine zc_max2 ?_ | with_reducible refine zo_isN ?_ | with_reducible refine zo_notN ?_ | with_reducible refine zo_eqB ?_ | with_reducible refine zo_neB ?_ | with_reducible refine zo_neI ?_ | with_reducible refine zo_neS ?_ | with_reducible refine zo_inTS ?_ | with_reducible refine zo_inLS ?_ | with_reducible refine' zs_raiseS ?_ | with_reducible refine zw_js ?_ | with_reducible refine zj_nil ?_ | with_reducible refine zj_cons ?_ | with_reducible refine zw_chain ?_)
local macro_rules | `(tactic| walk_at "zz") => `(tactic| repeat (walk_at "z"))
local macro_rules | `(tactic| walk_at "ze") => `(tactic| first
  | refine ⟨fun _ => ?_, fun z => Bool.noConfusion z⟩ | refine ⟨fun z => Bool.noConfusion z, fun _ => ?_⟩
  | refine ⟨_, _, zg_tup rfl (zgs_cons (zgs_cons zgs_nil)), ?_⟩ | refine ⟨_, _, zg_tup rfl (zgs_cons (zgs_cons (zgs_cons zgs_nil))), ?_⟩ | refine ⟨_, _, zg_name, ?_⟩
  | refine ⟨_, _, _, rfl, rfl, rfl, ?_⟩ | refine ⟨_, _, rfl, rfl, ?_⟩ | refine ⟨_, rfl, ?_⟩ | exact ⟨_, rfl, rfl⟩)
local macro_rules | `(tactic| walk_at "zf") => `(tactic| first | refine ⟨_, _, _, _, rfl, m0, rfl, ?_⟩ | refine ⟨_, _, rfl, ⟨_, _, m0, rfl⟩, ?_⟩ | refine ⟨_, _, _, _, rfl, (by exact Nat.le_of_ble_eq_true rfl), .here, ?_⟩ | with_reducible refine zs_fld (by assumption) (by assumption) ?_ | with_reducible refine zw_fld (by assumption) (by assumption) ?_ | with_reducible refine zs_fldaug (by assumption) (by assumption) ?_)
local macro_rules | `(tactic| walk_at "zfq") => `(tactic| repeat (first | walk_at "zf" | walk_at "z" | walk_at "ze"))
local macro_rules | `(tactic| walk_at "zq") => `(tactic| repeat (first | walk_at "z" | walk_at "ze"))
local macro_rules | `(tactic| walk_at "zt") => `(tactic| first | (refine ⟨_, allD_nil, (by rw [sizeLine_eq]; first | decide | exact Nat.le_of_ble_eq_true rfl), ?_⟩) | (refine ⟨_, (allD_cons allD_nil), (by rw [sizeLine_eq]; first | decide | exact Nat.le_of_ble_eq_true rfl), ?_⟩) | (refine ⟨_, (allD_cons (allD_cons allD_nil)), (by rw [sizeLine_eq]; first | decide | exact Nat.le_of_ble_eq_true rfl), ?_⟩) | (refine ⟨_, (allD_cons (allD_cons (allD_cons allD_nil))), (by rw [sizeLine_eq]; first | decide | exact Nat.le_of_ble_eq_true rfl), ?_⟩) | (refine ⟨_, (allD_cons (allD_cons (allD_cons (allD_cons allD_nil)))), (by rw [sizeLine_eq]; first | decide | exact Nat.le_of_ble_eq_true rfl), ?_⟩) | (refine ⟨_, (allD_cons (allD_cons (allD_cons (allD_cons (allD_cons allD_nil))))), (by rw [sizeLine_eq]; first | decide | exact Nat.le_of_ble_eq_true rfl), ?_⟩) | (refine ⟨_, (allD_cons (allD_cons (allD_cons (allD_cons (allD_cons (allD_cons allD_nil)))))), (by rw [sizeLine_eq]; first | decide | exact Nat.le_of_ble_eq_true rfl), ?_⟩) | (refine ⟨_, (allD_cons (allD_cons (allD_cons (allD_cons (allD_cons (allD_cons (allD_cons allD_nil))))))), (by rw [sizeLine_eq]; first | decide | exact Nat.le_of_ble_eq_true rfl), ?_⟩) | (refine ⟨_, (allD_cons (allD_cons (allD_cons (allD_cons (allD_cons (allD_cons (allD_cons (allD_cons allD_nil)))))))), (by rw [sizeLine_eq]; first | decide | exact Nat.le_of_ble_eq_true rfl), ?_⟩) | (refine ⟨_, (allD_cons (allD_cons (allD_cons (allD_cons (allD_cons (allD_cons (allD_cons (allD_cons (allD_cons allD_nil))))))))), (by rw [sizeLine_eq]; first | decide | exact Nat.le_of_ble_eq_true rfl), ?_⟩) | (refine ⟨_, (allD_cons (allD_cons (allD_cons (allD_cons (allD_cons (allD_cons (allD_cons (allD_cons (allD_cons (allD_cons allD_nil)))))))))), (by rw [sizeLine_eq]; first | decide | exact Nat.le_of_ble_eq_true rfl), ?_⟩) | (refine ⟨_, (allD_cons (allD_cons (allD_cons (allD_cons (allD_cons (allD_cons (allD_cons (allD_cons (allD_cons (allD_cons (allD_cons allD_nil))))))))))), (by rw [sizeLine_eq]; first | decide | exact Nat.le_of_ble_eq_true rfl), ?_⟩) | (refine ⟨_, (allD_cons (allD_cons (allD_cons (allD_cons (allD_cons (allD_cons (allD_cons (allD_cons (allD_cons (allD_cons (allD_cons (allD_cons allD_nil)))))))))))), (by rw [sizeLine_eq]; first | decide | exact Nat.le_of_ble_eq_true rfl), ?_⟩) | (refine ⟨_, (allD_cons (allD_cons (allD_cons (allD_cons (allD_cons (allD_cons (allD_cons (allD_cons (allD_cons (allD_cons (allD_cons (allD_cons (allD_cons allD_nil))))))))))))), (by rw [sizeLine_eq]; first | decide | exact Nat.le_of_ble_eq_true rfl), ?_⟩) | (refine ⟨_, (allD_cons (allD_cons (allD_cons (allD_cons (allD_cons (allD_cons (allD_cons (allD_cons (allD_cons (allD_cons (allD_cons (allD_cons (allD_cons (allD_cons allD_nil)))))))))))))), (by rw [sizeLine_eq]; first | decide | exact Nat.le_of_ble_eq_true rfl), ?_⟩) | (refine ⟨_, (allD_cons (allD_cons (allD_cons (allD_cons (allD_cons (allD_cons (allD_cons (allD_cons (allD_cons (allD_cons (allD_cons (allD_cons (allD_cons (allD_cons (allD_cons allD_nil))))))))))))))), (by rw [sizeLine_eq]; first | decide | exact Nat.le_of_ble_eq_true rfl), ?_⟩) | (refine ⟨_, (allD_cons (allD_cons (allD_cons (allD_cons (allD_cons (allD_cons (allD_cons (allD_cons (allD_cons (allD_cons (allD_cons (allD_cons (allD_cons (allD_cons (allD_cons (allD_cons allD_nil)))))))))))))))), (by rw [sizeLine_eq]; first | decide | exact Nat.le_of_ble_eq_true rfl), ?_⟩) | (refine ⟨_, (allD_cons (allD_cons (allD_cons (allD_cons (allD_cons (allD_cons (allD_cons (allD_cons (allD_cons (allD_cons (allD_cons (allD_cons (allD_cons (allD_cons (allD_cons (allD_cons (allD_cons allD_nil))))))))))))))))), (by rw [sizeLine_eq]; first | decide | exact Nat.le_of_ble_eq_true rfl), ?_⟩) | (refine ⟨_, (allD_cons (allD_cons (allD_cons (allD_cons (allD_cons (allD_cons (allD_cons (allD_cons (allD_cons (allD_cons (allD_cons (allD_cons (allD_cons (allD_cons (allD_cons (allD_cons (allD_cons (allD_cons allD_nil)))))))))))))))))), (by rw [sizeLine_eq]; first | decide | exact Nat.le_of_ble_eq_true rfl), ?_⟩) | (refine ⟨_, (allD_cons (allD_cons (allD_cons (allD_cons (allD_cons (allD_cons (allD_cons (allD_cons (allD_cons (allD_cons (allD_cons (allD_cons (allD_cons (allD_cons (allD_cons (allD_cons (allD_cons (allD_cons (allD_cons allD_nil))))))))))))))))))), (by rw [sizeLine_eq]; first | decide | exact Nat.le_of_ble_eq_true rfl), ?_⟩) | (refine ⟨_, (allD_cons (allD_cons (allD_cons (allD_cons (allD_cons (allD_cons (allD_cons (allD_cons (allD_cons (allD_cons (allD_cons (allD_cons (allD_cons (allD_cons (allD_cons (allD_cons (allD_cons (allD_cons (allD_cons (allD_cons allD_nil)))))))))))))))))))), (by rw [sizeLine_eq]; first | decide | exact Nat.le_of_ble_eq_true rfl), ?_⟩) | (refine ⟨_, (allD_cons (allD_cons (allD_cons (allD_cons (allD_cons (allD_cons (allD_cons (allD_cons (allD_cons (allD_cons (allD_cons (allD_cons (allD_cons (allD_cons (allD_cons (allD_cons (allD_cons (allD_cons (allD_cons (allD_cons (allD_cons allD_nil))))))))))))))))))))), (by rw [sizeLine_eq]; first | decide | exact Nat.le_of_ble_eq_true rfl), ?_⟩) | (refine ⟨_, (allD_cons (allD_cons (allD_cons (allD_cons (allD_cons (allD_cons (allD_cons (allD_cons (allD_cons (allD_cons (allD_cons (allD_cons (allD_cons (allD_cons (allD_cons (allD_cons (allD_cons (allD_cons (allD_cons (allD_cons (allD_cons (allD_cons allD_nil)))))))))))))))))))))), (by rw [sizeLine_eq]; first | decide | exact Nat.le_of_ble_eq_true rfl), ?_⟩) | (refine ⟨_, (allD_cons (allD_cons (allD_cons (allD_cons (allD_cons (allD_cons (allD_cons (allD_cons (allD_cons (allD_cons (allD_cons (allD_cons (allD_cons (allD_cons (allD_cons (allD_cons (allD_cons (allD_cons (allD_cons (allD_cons (allD_cons (allD_cons (allD_cons allD_nil))))))))))))))))))))))), (by rw [sizeLine_eq]; first | decide | exact Nat.le_of_ble_eq_true rfl), ?_⟩))
local macro_rules | `(tactic| walk_at "z") => `(tactic| first | with_reducible refine zw_callB0 ?_ | with_reducible refine zw_makeE ?_ | with_reducible refine zc_abs ?_ | with_reducible refine zc_gcd ?_ | with_reducible refine zo_isB ?_ | with_reducible refine zo_isntB ?_ | with_reducible refine par_go ?_ | with_reducible refine par_go3 ?_)
def topS (i : Nat) : Stmt := PySem.Challenge.pw_fateboards_k07_whole_two_moves.main.body.getD i (.Pass ⟨0, 0, 0, 0⟩)
abbrev s_places_near : Stmt := topS 2
abbrev N_places_near : List Str := ["place", "x", "y", "right", "down"]
theorem sc_places_near : FnScope N_places_near ["place"] (defScope s_places_near) := ⟨rfl, rfl, rfl, by decide +kernel, rfl, by decide +kernel, by decide +kernel⟩
abbrev s_is_between : Stmt := topS 8
abbrev N_is_between : List Str := ["value", "low", "high"]
theorem sc_is_between : FnScope N_is_between ["value", "low", "high"] (defScope s_is_between) := ⟨rfl, rfl, rfl, by decide +kernel, rfl, by decide +kernel, by decide +kernel⟩
abbrev s_check_move : Stmt := topS 10
abbrev N_check_move : List Str := ["move"]
theorem sc_check_move : FnScope N_check_move ["move"] (defScope s_check_move) := ⟨rfl, rfl, rfl, by decide +kernel, rfl, by decide +kernel, by decide +kernel⟩
abbrev s_is_move : Stmt := topS 11
abbrev N_is_move : List Str := ["value"]
theorem sc_is_move : FnScope N_is_move ["value"] (defScope s_is_move) := ⟨rfl, rfl, rfl, by decide +kernel, rfl, by decide +kernel, by decide +kernel⟩
abbrev s_inverse : Stmt := topS 13
abbrev N_inverse : List Str := ["number", "size", "before", "now", "large", "small", "many"]
theorem sc_inverse : FnScope N_inverse ["number", "size"] (defScope s_inverse) := ⟨rfl, rfl, rfl, by decide +kernel, rfl, by decide +kernel, by decide +kernel⟩
abbrev s_minus : Stmt := topS 15
abbrev N_minus : List Str := ["one", "two"]
theorem sc_minus : FnScope N_minus ["one", "two"] (defScope s_minus) := ⟨rfl, rfl, rfl, by decide +kernel, rfl, by decide +kernel, by decide +kernel⟩
abbrev s_times : Stmt := topS 16
abbrev N_times : List Str := ["many", "move"]
theorem sc_times : FnScope N_times ["many", "move"] (defScope s_times) := ⟨rfl, rfl, rfl, by decide +kernel, rfl, by decide +kernel, by decide +kernel⟩
abbrev s_cross : Stmt := topS 17
abbrev N_cross : List Str := ["one", "two"]
theorem sc_cross : FnScope N_cross ["one", "two"] (defScope s_cross) := ⟨rfl, rfl, rfl, by decide +kernel, rfl, by decide +kernel, by decide +kernel⟩
abbrev s_how_often : Stmt := topS 18
abbrev N_how_often : List Str := ["move", "way"]
theorem sc_how_often : FnScope N_how_often ["move", "way"] (defScope s_how_often) := ⟨rfl, rfl, rfl, by decide +kernel, rfl, by decide +kernel, by decide +kernel⟩
abbrev s_first_touch : Stmt := topS 21
abbrev N_first_touch : List Str := ["box", "move", "least", "most", "low", "high", "way", "last"]
theorem sc_first_touch : FnScope N_first_touch ["box", "move"] (defScope s_first_touch) := ⟨rfl, rfl, rfl, by decide +kernel, rfl, by decide +kernel, by decide +kernel⟩
abbrev s_reach_of : Stmt := topS 22
abbrev N_reach_of : List Str := ["one", "two"]
theorem sc_reach_of : FnScope N_reach_of ["one", "two"] (defScope s_reach_of) := ⟨rfl, rfl, rfl, by decide +kernel, rfl, by decide +kernel, by decide +kernel⟩
abbrev s_NoReach_locate : Stmt := inClass (topS 23) 0
abbrev N_NoReach_locate : List Str := ["self", "place"]
theorem sc_NoReach_locate : FnScope N_NoReach_locate ["self", "place"] (defScope s_NoReach_locate) := ⟨rfl, rfl, rfl, by decide +kernel, rfl, by decide +kernel, by decide +kernel⟩
abbrev s_NoReach_leads : Stmt := inClass (topS 23) 1
abbrev N_NoReach_leads : List Str := ["self", "at", "to"]
theorem sc_NoReach_leads : FnScope N_NoReach_leads ["self", "at", "to"] (defScope s_NoReach_leads) := ⟨rfl, rfl, rfl, by decide +kernel, rfl, by decide +kernel, by decide +kernel⟩
abbrev s_PlaneReach_init : Stmt := inClass (topS 24) 0
abbrev N_PlaneReach_init : List Str := ["self", "one", "two"]
theorem sc_PlaneReach_init : FnScope N_PlaneReach_init ["self", "one", "two"] (defScope s_PlaneReach_init) := ⟨rfl, rfl, rfl, by decide +kernel, rfl, by decide +kernel, by decide +kernel⟩
abbrev s_PlaneReach_locate : Stmt := inClass (topS 24) 1
abbrev N_PlaneReach_locate : List Str := ["self", "place", "ones", "twos", "key"]
theorem sc_PlaneReach_locate : FnScope N_PlaneReach_locate ["self", "place"] (defScope s_PlaneReach_locate) := ⟨rfl, rfl, rfl, by decide +kernel, rfl, by decide +kernel, by decide +kernel⟩
abbrev s_PlaneReach_leads : Stmt := inClass (topS 24) 2
abbrev N_PlaneReach_leads : List Str := ["self", "at", "to"]
theorem sc_PlaneReach_leads : FnScope N_PlaneReach_leads ["self", "at", "to"] (defScope s_PlaneReach_leads) := ⟨rfl, rfl, rfl, by decide +kernel, rfl, by decide +kernel, by decide +kernel⟩
abbrev s_line_reach : Stmt := topS 25
abbrev N_line_reach : List Str := ["one", "two", "part", "shortest", "ones", "twos", "common"]
theorem sc_line_reach : FnScope N_line_reach ["one", "two"] (defScope s_line_reach) := ⟨rfl, rfl, rfl, by decide +kernel, rfl, by decide +kernel, by decide +kernel⟩
abbrev s_LineReach_init : Stmt := inClass (topS 26) 0
abbrev N_LineReach_init : List Str := ["self", "unit", "ones", "twos"]
theorem sc_LineReach_init : FnScope N_LineReach_init ["self", "unit", "ones", "twos"] (defScope s_LineReach_init) := ⟨rfl, rfl, rfl, by decide +kernel, rfl, by decide +kernel, by decide +kernel⟩
abbrev s_LineReach_locate : Stmt := inClass (topS 26) 1
abbrev N_LineReach_locate : List Str := ["self", "place", "at"]
theorem sc_LineReach_locate : FnScope N_LineReach_locate ["self", "place"] (defScope s_LineReach_locate) := ⟨rfl, rfl, rfl, by decide +kernel, rfl, by decide +kernel, by decide +kernel⟩
abbrev s_LineReach_leads : Stmt := inClass (topS 26) 2
abbrev N_LineReach_leads : List Str := ["self", "at", "to", "way", "least"]
theorem sc_LineReach_leads : FnScope N_LineReach_leads ["self", "at", "to"] (defScope s_LineReach_leads) := ⟨rfl, rfl, rfl, by decide +kernel, rfl, by decide +kernel, by decide +kernel⟩
abbrev s_first_near_of : Stmt := topS 28
abbrev N_first_near_of : List Str := ["start", "move"]
theorem sc_first_near_of : FnScope N_first_near_of ["start", "move"] (defScope s_first_near_of) := ⟨rfl, rfl, rfl, by decide +kernel, rfl, by decide +kernel, by decide +kernel⟩
abbrev s_comes_near : Stmt := topS 29
abbrev N_comes_near : List Str := ["start", "one", "two", "reach", "key", "at", "place", "other", "to"]
theorem sc_comes_near : FnScope N_comes_near ["start", "one", "two"] (defScope s_comes_near) := ⟨rfl, rfl, rfl, by decide +kernel, rfl, by decide +kernel, by decide +kernel⟩
abbrev s_law_taken : Stmt := topS 31
abbrev N_law_taken : List Str := ["row", "many", "found", "cell"]
theorem sc_law_taken : FnScope N_law_taken ["row", "many"] (defScope s_law_taken) := ⟨rfl, rfl, rfl, by decide +kernel, rfl, by decide +kernel, by decide +kernel⟩
abbrev s_law_signed : Stmt := topS 32
abbrev N_law_signed : List Str := ["row", "most"]
theorem sc_law_signed : FnScope N_law_signed ["row", "most"] (defScope s_law_signed) := ⟨rfl, rfl, rfl, by decide +kernel, rfl, by decide +kernel, by decide +kernel⟩
abbrev s_law_pick : Stmt := topS 33
abbrev N_law_pick : List Str := ["row", "things"]
theorem sc_law_pick : FnScope N_law_pick ["row", "things"] (defScope s_law_pick) := ⟨rfl, rfl, rfl, by decide +kernel, rfl, by decide +kernel, by decide +kernel⟩
abbrev s_law_alike : Stmt := topS 34
abbrev N_law_alike : List Str := ["found", "due", "k"]
theorem sc_law_alike : FnScope N_law_alike ["found", "due"] (defScope s_law_alike) := ⟨rfl, rfl, rfl, by decide +kernel, rfl, by decide +kernel, by decide +kernel⟩
abbrev s_law : Stmt := topS 35
abbrev N_law : List Str := ["script", "row", "one", "two", "start", "many", "due", "both", "a", "here", "b", "great", "goal", "line", "flat", "aside", "back", "rest"]
theorem sc_law : FnScope N_law ["script"] (defScope s_law) := ⟨rfl, rfl, rfl, by decide +kernel, rfl, by decide +kernel, by decide +kernel⟩
/-! ### numbers -/
theorem bez : ∀ (a b : Nat), ∃ u v : Int, u * a + v * b = (Nat.gcd a b : Nat) := by
  intro a
  induction a using Nat.strongRecOn with
  | _ a ih =>
    intro b
    by_cases h : a = 0
    · subst h
      exact ⟨0, 1, by simp⟩
    · obtain ⟨u, v, e⟩ := ih (b % a) (Nat.mod_lt _ (Nat.pos_of_ne_zero h)) a
      refine ⟨v - u * (b / a : Nat), u, ?_⟩
      rw [Nat.gcd_rec, ← e]
      have hb : (b : Int) = (a : Int) * (b / a : Nat) + (b % a : Nat) := by exact_mod_cast (Nat.div_add_mod b a).symm
      rw [hb]
      grind
/-- Bezout over whole numbers -/
theorem bezI (a b : Int) : ∃ u v : Int, u * a + v * b = (Nat.gcd a.natAbs b.natAbs : Nat) := by
  obtain ⟨u, v, e⟩ := bez a.natAbs b.natAbs
  have h1 : (a.natAbs : Int) = a ∨ (a.natAbs : Int) = -a := by omega
  have h2 : (b.natAbs : Int) = b ∨ (b.natAbs : Int) = -b := by omega
  rcases h1 with h1 | h1 <;> rcases h2 with h2 | h2 <;> rw [h1, h2] at e
  · exact ⟨u, v, e⟩
  · exact ⟨u, -v, by grind⟩
  · exact ⟨-u, v, by grind⟩
  · exact ⟨-u, -v, by grind⟩
/-- the loop that finds an inverse -/
def invL : Nat → Int → Int → Int → Int → Int
  | 0, be, _, _, _ => be
  | n + 1, be, nw, la, sm => if sm = 0 then be else invL n nw (be - la / sm * nw) sm (la - la / sm * sm)
theorem invL_z {n : Nat} {be nw la sm : Int} (h : sm = 0) : invL (n + 1) be nw la sm = be := if_pos h
theorem invL_s {n : Nat} {be nw la sm : Int} (h : ¬ sm = 0) : invL (n + 1) be nw la sm = invL n nw (be - la / sm * nw) sm (la - la / sm * sm) := if_neg h
def invS (q p : Int) : Int := invL (p.toNat + 1) 0 1 p (q % p) % p
theorem invS_rng {q p : Int} (hp : 1 ≤ p) : 0 ≤ invS q p ∧ invS q p < p := ⟨Int.emod_nonneg _ (by omega), Int.emod_lt_of_pos _ (by omega)⟩
theorem sub_div (la sm : Int) : la - la / sm * sm = la % sm := by
  have := Int.emod_def la sm
  rw [Int.mul_comm] at this
  omega
theorem invL_ok {q p : Int} : ∀ (n : Nat) (be nw la sm : Int), 0 < la → 0 ≤ sm → sm.toNat < n → (∃ u v : Int, u * la + v * sm = 1) → p ∣ be * q - la → p ∣ nw * q - sm → p ∣ invL n be nw la sm * q - 1 := by
  intro n
  induction n with
  | zero => intro be nw la sm _ _ h; omega
  | succ n ih =>
    intro be nw la sm hl hs hn ⟨u, v, huv⟩ h1 h2
    unfold invL
    by_cases h : sm = 0
    · rw [if_pos h]
      subst h
      have e : u * la = 1 := by simpa using huv
      have e2 : la = 1 := by
        exact Int.eq_one_of_dvd_one (by omega) ⟨u, by rw [Int.mul_comm]; exact e.symm⟩
      rw [e2] at h1
      exact h1
    · rw [if_neg h]
      have hr := sub_div la sm
      have hp : 0 < sm := by omega
      have r0 := Int.emod_nonneg la h
      have r1 := Int.emod_lt_of_pos la hp
      refine ih nw _ sm _ hp (by rw [hr]; exact r0) (by rw [hr]; omega) ⟨u * (la / sm) + v, u, by grind⟩ h2 ?_
      have e : (be - la / sm * nw) * q - (la - la / sm * sm) = (be * q - la) - (la / sm) * (nw * q - sm) := by grind
      rw [e]
      exact Int.dvd_sub h1 (Int.dvd_mul_of_dvd_right h2)
theorem invS_ok {q p : Int} (hp : 1 ≤ p) (h : ∃ u v : Int, u * p + v * q = 1) : p ∣ invS q p * q - 1 := by
  have hq := Int.emod_def q p
  have q0 := Int.emod_nonneg q (show p ≠ 0 by omega)
  have q1 := Int.emod_lt_of_pos q (show 0 < p by omega)
  obtain ⟨u, v, e⟩ := h
  have hL : p ∣ invL (p.toNat + 1) 0 1 p (q % p) * q - 1 := by
    refine invL_ok _ _ _ _ _ (by omega) q0 (by omega) ⟨u + v * (q / p), v, by rw [hq]; grind⟩ ⟨-1, by simp⟩ ⟨q / p, by rw [hq]; grind⟩
  have hd := Int.emod_def (invL (p.toNat + 1) 0 1 p (q % p)) p
  have e2 : invS q p * q - 1 = (invL (p.toNat + 1) 0 1 p (q % p) * q - 1) - p * (invL (p.toNat + 1) 0 1 p (q % p) / p * q) := by
    unfold invS
    rw [hd]
    grind
  rw [e2]
  exact Int.dvd_sub hL (Int.dvd_mul_right _ _)
/-- how often a move is made on a way -/
def often (m0 m1 w0 w1 : Int) : Int := if m0 ≠ 0 then w0.fdiv m0 else w1.fdiv m1
theorem fdiv_add {x m w : Int} (h : m ≠ 0) : (x + w * m).fdiv m = x.fdiv m + w := Int.add_mul_fdiv_right x w h
theorem often_add {m0 m1 x y w : Int} (h : m0 ≠ 0 ∨ m1 ≠ 0) : often m0 m1 (x + w * m0) (y + w * m1) = often m0 m1 x y + w := by
  unfold often
  by_cases h0 : m0 = 0
  · rw [if_neg (fun z => z h0), if_neg (fun z => z h0)]
    exact fdiv_add (h.resolve_left (fun z => z h0))
  · rw [if_pos h0, if_pos h0]
    exact fdiv_add h0
/-- along one line: p and q times the same move -/
def leadsL (p q t u : Int) : Bool := decide (q < 0) || decide ((u - t) * invS q p % p * q ≤ u - t)
theorem leadsL_iff {p q t u : Int} (hp : 1 ≤ p) (h : ∃ u v : Int, u * p + v * q = 1) : leadsL p q t u = true ↔ ∃ k l : Int, 0 ≤ k ∧ 0 ≤ l ∧ k * p + l * q = u - t := by
  unfold leadsL
  generalize u - t = w
  have hi := invS_ok hp h
  obtain ⟨c, hc⟩ := hi
  generalize hI : invS q p = I at hc
  have hd := Int.emod_def (w * I) p
  have n0 := Int.emod_nonneg (w * I) (show p ≠ 0 by omega)
  generalize hB : w * I % p = B at hd n0
  -- w - B q is a multiple of p
  have hdv : p ∣ w - B * q := ⟨w * I / p * q - w * c, by rw [hd]; grind⟩
  obtain ⟨e, he⟩ := hdv
  constructor
  · intro hl
    rw [Bool.or_eq_true, decide_eq_true_eq, decide_eq_true_eq] at hl
    rcases hl with hq | hq
    · -- B + p n second moves
      have hn : ∃ n : Int, 0 ≤ n ∧ 0 ≤ e - n * q := by
        refine ⟨e.natAbs, by omega, ?_⟩
        have h1 : (e.natAbs : Int) * 1 ≤ (e.natAbs : Int) * (-q) := Int.mul_le_mul_of_nonneg_left (by omega) (by omega)
        have h2 : (e.natAbs : Int) * (-q) = -((e.natAbs : Int) * q) := by grind
        omega
      obtain ⟨n, hn0, hn1⟩ := hn
      have hpn : 0 ≤ p * n := Int.mul_nonneg (by omega) hn0
      exact ⟨e - n * q, B + p * n, hn1, by omega, by grind⟩
    · refine ⟨e, B, ?_, n0, by grind⟩
      have : 0 ≤ p * e := by omega
      exact Int.nonneg_of_mul_nonneg_right this (by omega)
  · rintro ⟨k, l, hk, hl, hkl⟩
    rw [Bool.or_eq_true, decide_eq_true_eq, decide_eq_true_eq]
    by_cases hq : q < 0
    · exact .inl hq
    · refine .inr ?_
      -- B is l's rest, so at most l
      have hm : p ∣ l - B := by
        refine ⟨(w * I / p) - k * I - l * c, ?_⟩
        rw [hd]
        have : w = k * p + l * q := hkl.symm
        rw [this]
        grind
      have b1 := Int.emod_lt_of_pos (w * I) (show 0 < p by omega)
      rw [hB] at b1
      have hBl : B ≤ l := by
        obtain ⟨z, hz⟩ := hm
        have hz0 : 0 ≤ z := by
          rcases Int.lt_or_le z 0 with h' | h'
          · have : p * z ≤ p * (-1) := Int.mul_le_mul_of_nonneg_left (by omega) (by omega)
            omega
          · exact h'
        have : 0 ≤ p * z := Int.mul_nonneg (by omega) hz0
        omega
      have h1 : B * q ≤ l * q := Int.mul_le_mul_of_nonneg_right hBl (by omega)
      have h2 : 0 ≤ k * p := Int.mul_nonneg hk (by omega)
      omega
/-- start + k one + l two is at (X, Y) -/
def Way (x y a b c d X Y : Int) : Prop := ∃ k l : Int, 0 ≤ k ∧ 0 ≤ l ∧ X = x + k * a + l * c ∧ Y = y + k * b + l * d
theorem line_iff {ux uy p q x y X Y : Int} (h0 : ux ≠ 0 ∨ uy ≠ 0) (hp : 1 ≤ p) (h : ∃ u v : Int, u * p + v * q = 1) :
    ((X - often ux uy X Y * ux = x - often ux uy x y * ux ∧ Y - often ux uy X Y * uy = y - often ux uy x y * uy) ∧ leadsL p q (often ux uy x y) (often ux uy X Y) = true) ↔ Way x y (p * ux) (p * uy) (q * ux) (q * uy) X Y := by
  constructor
  · rintro ⟨⟨h1, h2⟩, h3⟩
    obtain ⟨k, l, hk, hl, e⟩ := (leadsL_iff hp h).mp h3
    refine ⟨k, l, hk, hl, ?_, ?_⟩
    · have : (k * p + l * q) * ux = (often ux uy X Y - often ux uy x y) * ux := by rw [e]
      grind
    · have : (k * p + l * q) * uy = (often ux uy X Y - often ux uy x y) * uy := by rw [e]
      grind
  · rintro ⟨k, l, hk, hl, hX, hY⟩
    have e1 : X = x + (k * p + l * q) * ux := by rw [hX]; grind
    have e2 : Y = y + (k * p + l * q) * uy := by rw [hY]; grind
    have e3 : often ux uy X Y = often ux uy x y + (k * p + l * q) := by rw [e1, e2]; exact often_add h0
    refine ⟨⟨?_, ?_⟩, (leadsL_iff hp h).mpr ⟨k, l, hk, hl, by rw [e3]; omega⟩⟩
    · rw [e3, e1]; grind
    · rw [e3, e2]; grind
theorem way_swap {x y a b c d X Y : Int} (h : Way x y a b c d X Y) : Way x y c d a b X Y := by
  obtain ⟨k, l, hk, hl, h1, h2⟩ := h
  exact ⟨l, k, hl, hk, by omega, by omega⟩
/-- over the plane -/
theorem plane_iff {a b c d x y X Y : Int} (h0 : a * d - b * c ≠ 0) :
    (((X - (X * d - Y * c).fdiv (a * d - b * c) * a - (a * Y - b * X).fdiv (a * d - b * c) * c = x - (x * d - y * c).fdiv (a * d - b * c) * a - (a * y - b * x).fdiv (a * d - b * c) * c) ∧
      (Y - (X * d - Y * c).fdiv (a * d - b * c) * b - (a * Y - b * X).fdiv (a * d - b * c) * d = y - (x * d - y * c).fdiv (a * d - b * c) * b - (a * y - b * x).fdiv (a * d - b * c) * d)) ∧
      ((x * d - y * c).fdiv (a * d - b * c) ≤ (X * d - Y * c).fdiv (a * d - b * c) ∧ (a * y - b * x).fdiv (a * d - b * c) ≤ (a * Y - b * X).fdiv (a * d - b * c))) ↔ Way x y a b c d X Y := by
  constructor
  · rintro ⟨⟨h1, h2⟩, h3, h4⟩
    exact ⟨_, _, Int.sub_nonneg_of_le h3, Int.sub_nonneg_of_le h4, by grind, by grind⟩
  · rintro ⟨k, l, hk, hl, hX, hY⟩
    have e1 : X * d - Y * c = (x * d - y * c) + k * (a * d - b * c) := by rw [hX, hY]; grind
    have e2 : a * Y - b * X = (a * y - b * x) + l * (a * d - b * c) := by rw [hX, hY]; grind
    rw [e1, e2, fdiv_add h0, fdiv_add h0]
    refine ⟨⟨by rw [hX]; grind, by rw [hY]; grind⟩, by omega, by omega⟩
/-- comes near: k first moves and l second ones lead to within 2 -/
def Near (x y : Int) : Prop := (-2 ≤ x ∧ x ≤ 2) ∧ -2 ≤ y ∧ y ≤ 2
def Comes (x y a b c d : Int) : Prop := ∃ X Y : Int, Near X Y ∧ Way x y a b c d X Y
/-! ### two moves along one line -/
def lPart (a b : Int) : Int := (Nat.gcd a.natAbs b.natAbs : Nat)
def lTw (a b c d : Int) : Int := often (a / lPart a b) (b / lPart a b) c d
def lCm (a b c d : Int) : Int := (Nat.gcd (lPart a b).natAbs (lTw a b c d).natAbs : Nat)
def lUx (a b c d : Int) : Int := lCm a b c d * (a / lPart a b)
def lUy (a b c d : Int) : Int := lCm a b c d * (b / lPart a b)
def lP (a b c d : Int) : Int := lPart a b / lCm a b c d
def lQ (a b c d : Int) : Int := lTw a b c d / lCm a b c d
theorem lPart_ok {a b : Int} (h : a ≠ 0 ∨ b ≠ 0) : 0 < lPart a b ∧ (∃ s, a = lPart a b * s) ∧ (∃ s, b = lPart a b * s) ∧ ∃ u v : Int, u * a + v * b = lPart a b := by
  refine ⟨?_, ?_, ?_, bezI a b⟩
  · unfold lPart
    have : 0 < Nat.gcd a.natAbs b.natAbs := Nat.gcd_pos_iff.mpr (by omega)
    omega
  · exact Int.ofNat_dvd_left.mpr (Nat.gcd_dvd_left _ _)
  · exact Int.ofNat_dvd_left.mpr (Nat.gcd_dvd_right _ _)
theorem ln_ok {a b c d : Int} (h0 : a ≠ 0 ∨ b ≠ 0) (hx : a * d - b * c = 0) :
    (lUx a b c d ≠ 0 ∨ lUy a b c d ≠ 0) ∧ 1 ≤ lP a b c d ∧ (∃ u v : Int, u * lP a b c d + v * lQ a b c d = 1) ∧ (a = lP a b c d * lUx a b c d ∧ b = lP a b c d * lUy a b c d) ∧ (c = lQ a b c d * lUx a b c d ∧ d = lQ a b c d * lUy a b c d) ∧ (a / lPart a b ≠ 0 ∨ b / lPart a b ≠ 0) ∧ 0 < lCm a b c d ∧ lPart a b = lCm a b c d * lP a b c d := by
  obtain ⟨hp, ⟨s0, e0⟩, ⟨s1, e1⟩, u, v, e⟩ := lPart_ok h0
  have f0 : a / lPart a b = s0 := Int.ediv_eq_of_eq_mul_right (by omega) e0
  have f1 : b / lPart a b = s1 := Int.ediv_eq_of_eq_mul_right (by omega) e1
  unfold lUx lUy lP lQ
  have hT : lTw a b c d = often s0 s1 c d := by unfold lTw; rw [f0, f1]
  rw [f0, f1]
  generalize hP : lPart a b = P at *
  have hs : s0 ≠ 0 ∨ s1 ≠ 0 := by
    rcases h0 with h | h
    · exact .inl fun z => h (by rw [e0, z]; simp)
    · exact .inr fun z => h (by rw [e1, z]; simp)
  have huv : u * s0 + v * s1 = 1 := by
    have : P * (u * s0 + v * s1) = P * 1 := by rw [e0, e1] at e; grind
    exact Int.eq_of_mul_eq_mul_left (by omega) this
  have hx2 : s0 * d = s1 * c := by
    have : P * (s0 * d) = P * (s1 * c) := by rw [e0, e1] at hx; grind
    exact Int.eq_of_mul_eq_mul_left (by omega) this
  have hc : c = (u * c + v * d) * s0 := by
    have : c = c * (u * s0 + v * s1) := by rw [huv]; simp
    grind
  have hd : d = (u * c + v * d) * s1 := by
    have : d = d * (u * s0 + v * s1) := by rw [huv]; simp
    grind
  have ht : often s0 s1 c d = u * c + v * d := by
    have := often_add (m0 := s0) (m1 := s1) (x := 0) (y := 0) (w := u * c + v * d) hs
    rw [Int.zero_add, Int.zero_add, ← hc, ← hd] at this
    rw [this]
    unfold often
    simp
  have hC0 : 0 < lCm a b c d := by
    unfold lCm
    rw [hP]
    have : 0 < Nat.gcd P.natAbs (lTw a b c d).natAbs := Nat.gcd_pos_iff.mpr (by omega)
    omega
  have hC1 : ∃ s, P = lCm a b c d * s := by unfold lCm; rw [hP]; exact Int.ofNat_dvd_left.mpr (Nat.gcd_dvd_left _ _)
  have hC2 : ∃ s, lTw a b c d = lCm a b c d * s := by unfold lCm; exact Int.ofNat_dvd_left.mpr (Nat.gcd_dvd_right _ _)
  have hC3 : ∃ u v : Int, u * P + v * lTw a b c d = lCm a b c d := by unfold lCm; rw [hP]; exact bezI _ _
  generalize hCC : lCm a b c d = C at *
  generalize hTT : lTw a b c d = T at *
  obtain ⟨p, hp1⟩ := hC1
  obtain ⟨q, hq1⟩ := hC2
  obtain ⟨g, h, hgh⟩ := hC3
  have fp : P / C = p := Int.ediv_eq_of_eq_mul_right (by omega) hp1
  have fq : T / C = q := Int.ediv_eq_of_eq_mul_right (by omega) hq1
  rw [fp, fq]
  have hpp : 1 ≤ p := by
    rcases Int.lt_or_le p 1 with z | z
    · have : C * p ≤ C * 0 := Int.mul_le_mul_of_nonneg_left (by omega) (by omega)
      omega
    · exact z
  refine ⟨?_, hpp, ⟨g, h, ?_⟩, ⟨by grind, by grind⟩, ⟨by grind, by grind⟩, hs, hC0, hp1⟩
  · rcases hs with z | z
    · exact .inl (Int.mul_ne_zero (by omega) z)
    · exact .inr (Int.mul_ne_zero (by omega) z)
  · have : C * (g * p + h * q) = C * 1 := by grind
    exact Int.eq_of_mul_eq_mul_left (by omega) this
def Sm (x : Int) : Prop := -(2 ^ 64) < x ∧ x < 2 ^ 64
theorem Sm.l {i j : Int} (h : Sm i) : CMul i j := .inl h
theorem Sm.r {i j : Int} (h : Sm j) : CMul i j := .inr h
def Wd (x : Int) : Prop := x.natAbs.log2 < 9000
theorem wd_of {x : Int} (h : x.natAbs < 2 ^ 200) : Wd x := by
  unfold Wd
  by_cases hz : x.natAbs = 0
  · rw [hz]; decide
  · exact Nat.lt_of_lt_of_le ((Nat.log2_lt hz).2 h) (by decide)
theorem Sm.wd {x : Int} (h : Sm x) : Wd x := wd_of (by have := h.1; have := h.2; omega)
/-- a factor of a small number is small -/
theorem Sm.fac {x p y : Int} (h : Sm x) (hp : 1 ≤ p) (e : x = p * y) : Sm y := by
  obtain ⟨h1, h2⟩ := h
  rcases Int.lt_or_le y 0 with z | z
  · have : (p - 1) * y ≤ 0 := Int.mul_nonpos_of_nonneg_of_nonpos (by omega) (by omega)
    have e2 : (p - 1) * y = x - y := by rw [e]; grind
    exact ⟨by omega, by omega⟩
  · have : 0 ≤ (p - 1) * y := Int.mul_nonneg (by omega) z
    have e2 : (p - 1) * y = x - y := by rw [e]; grind
    exact ⟨by omega, by omega⟩
theorem lPart_sm {a b : Int} (ha : Sm a) (hb : Sm b) (h : a ≠ 0 ∨ b ≠ 0) : Sm (lPart a b) := by
  obtain ⟨hp, ⟨s0, e0⟩, ⟨s1, e1⟩, _⟩ := lPart_ok h
  have key : ∀ {x s : Int}, Sm x → x ≠ 0 → x = lPart a b * s → Sm (lPart a b) := fun {x s} hx hne e => by
    have hs : s ≠ 0 := fun z => hne (by rw [e, z]; simp)
    rcases Int.lt_or_le s 0 with z | z
    · exact Sm.fac (x := -x) (p := -s) ⟨by have := hx.1; have := hx.2; omega, by have := hx.1; have := hx.2; omega⟩ (by omega) (by rw [e]; grind)
    · exact Sm.fac hx (p := s) (by omega) (by rw [e]; grind)
  rcases h with z | z
  · exact key ha z e0
  · exact key hb z e1
def dBetween (x : PyData) (lo hi : Int) : Bool := match x with | .int i => decide (lo ≤ i) && decide (i ≤ hi) | _ => false
def R_between (ds : List PyData) (o : DOut) : Prop := ∃ x lo hi, ds = [x, .int lo, .int hi] ∧ o = .ok (.bool (dBetween x lo hi))
theorem ok_is_between {P : Program} {w : World} {K : Fg} {mg : Str → Option Value} {base : Heap} {f : Addr} {fd : FuncData} (F : Fun K "is_between" "is_between" s_is_between f fd)
    (m_isinstance : mg "isinstance" = none)
    (m_int : mg "int" = none)
    (m_bool : mg "bool" = none) :
    FnOk P w K mg base (L2.CX P w) 1 f fd ["value", "low", "high"] (spD K 3 R_between) := by
  refine F.okX sc_is_between (fun vs H Q E h => len_D h) (fun cdv A outer s H vs Q E hr h => ⟨_, (pss_cons (ps_if (PW.pt (pw_or (pt_val (pe_callB call_isi (by rfl) m_isinstance bb_isinstance (pa_cons (pv 0) (pa_cons (pe_bltn (v := .ty "bool") (by rfl) m_bool bt_bool rfl) pa_nil))) (fun _ => rfl)) (pw_or1 (pt_not (pt_val (pe_callB call_isi (by rfl) m_isinstance bb_isinstance (pa_cons (pv 0) (pa_cons (pe_bltn (v := .ty "int") (by rfl) m_int bt_int rfl) pa_nil))) (fun _ => rfl)))))) (pss_one (ps_ret pe_bl)) pss_nil)
      (pss_one (ps_ret (pe_chain op_le op_le (pv 1) (pv 0) (pv 2))))),
    fn_D h fun ds o hk hR => ?_⟩)
  try dsimp only [L2.cxOf]
  obtain ⟨x, lo, hi, rfl, rfl⟩ := hR
  walk_at "zz"
  cases x <;> walk_at "zq"
  all_goals try rfl
  rename_i i _ _
  have hb : dBetween (.int i) lo hi = (decide (lo ≤ i) && decide (i ≤ hi)) := rfl
  refine ⟨fun e => ?_, fun e => ?_⟩
  · exact ⟨_, rfl, by rw [hb, e]; rfl⟩
  · walk_at "zq"
    show _ = _
    rw [hb, e]
    rfl
/-- a place or a move -/
abbrev pr (x y : Int) : PyData := .tuple [.int x, .int y]
def InFar (x : Int) : Prop := -(1000000000000000000000000000000000000000000000000000000000000) ≤ x ∧ x ≤ 1000000000000000000000000000000000000000000000000000000000000
def R_ismove (ds : List PyData) (o : DOut) : Prop := ∃ x y, ds = [pr x y] ∧ InFar x ∧ InFar y ∧ o = .ok (.bool true)
theorem ok_is_move {P : Program} {w : World} {K : Fg} {mg : Str → Option Value} {base : Heap} {f : Addr} {fd : FuncData} (F : Fun K "is_move" "is_move" s_is_move f fd)
    (m_len : mg "len" = none)
    (m_isinstance : mg "isinstance" = none)
    (m_tuple : mg "tuple" = none)
    (g_FAR : ∃ u, mg "FAR" = some u ∧ RelV (.int 1000000000000000000000000000000000000000000000000000000000000) u)
    (c_is_between : Cal P w K mg base 1 "is_between" (spD K 3 R_between)) :
    FnOk P w K mg base (L2.CX P w) 2 f fd ["value"] (spD K 1 R_ismove) := by
  refine F.okX sc_is_move (fun vs H Q E h => len_D h) (fun cdv A outer s H vs Q E hr h => ⟨_, (pss_cons (ps_if (PW.pt (pw_or (pt_not (pt_val (pe_callB call_isi (by rfl) m_isinstance bb_isinstance (pa_cons (pv 0) (pa_cons (pe_bltn (v := .ty "tuple") (by rfl) m_tuple bt_tuple rfl) pa_nil))) (fun _ => rfl))) (pw_or1 (pt_cmpR (op_neA hr.units) (pe_callB call_len (by rfl) m_len bb_len (pa_cons (pv 0) pa_nil)) pe_int (nomark _))))) (pss_one (ps_ret pe_bl)) pss_nil)
      (pss_one (ps_ret (pe_and (pe_cl c_is_between hr (show 1 ≤ 1 by decide) passL (pa_cons (pe_ix ix_seq (pv 0) pe_int (fun _ _ => rfl)) (pa_cons (pe_un un_neg (pe_glob (by rfl) g_FAR.choose_spec.1 g_FAR.choose_spec.2)) (pa_cons (pe_glob (by rfl) g_FAR.choose_spec.1 g_FAR.choose_spec.2) pa_nil)))) (pe_one (pe_cl c_is_between hr (show 1 ≤ 1 by decide) passL (pa_cons (pe_ix ix_seq (pv 0) pe_int (fun _ _ => rfl)) (pa_cons (pe_un un_neg (pe_glob (by rfl) g_FAR.choose_spec.1 g_FAR.choose_spec.2)) (pa_cons (pe_glob (by rfl) g_FAR.choose_spec.1 g_FAR.choose_spec.2) pa_nil))))))))),
    fn_D h fun ds o hk hR => ?_⟩)
  try dsimp only [L2.cxOf]
  obtain ⟨x, y, rfl, hx, hy, rfl⟩ := hR
  have e1 : dBetween (.int x) (-(1000000000000000000000000000000000000000000000000000000000000)) (1000000000000000000000000000000000000000000000000000000000000) = true := by unfold dBetween; simp only [decide_eq_true hx.1, decide_eq_true hx.2]; rfl
  have e2 : dBetween (.int y) (-(1000000000000000000000000000000000000000000000000000000000000)) (1000000000000000000000000000000000000000000000000000000000000) = true := by unfold dBetween; simp only [decide_eq_true hy.1, decide_eq_true hy.2]; rfl
  walk_at "zq"
  refine ⟨_, _, by walk_at "zd", rfl, ⟨.int x, _, _, rfl, rfl⟩, ?_⟩
  rw [e1]
  walk_at "zq"
  refine ⟨_, _, by walk_at "zd", rfl, ⟨.int y, _, _, rfl, rfl⟩, ?_⟩
  rw [e2]
  walk_at "zq"
  rfl
def R_chkmove (ds : List PyData) (o : DOut) : Prop := ∃ x y, ds = [pr x y] ∧ InFar x ∧ InFar y ∧ o = .ok .none
theorem ok_check_move {P : Program} {w : World} {K : Fg} {mg : Str → Option Value} {base : Heap} {f : Addr} {fd : FuncData} (F : Fun K "check_move" "check_move" s_check_move f fd)
    (c_is_move : Cal P w K mg base 2 "is_move" (spD K 1 R_ismove)) :
    FnOk P w K mg base (L2.CX P w) 3 f fd ["move"] (spD K 1 R_chkmove) := by
  refine F.okX sc_check_move (fun vs H Q E h => len_D h) (fun cdv A outer s H vs Q E hr h => ⟨_, (pss_one (ps_if (pt_not (pt_val (pe_cl c_is_move hr (show 2 ≤ 2 by decide) passL (pa_cons (pv 0) pa_nil)) (fun _ => rfl))) (pss_one ps_never) pss_nil)),
    fn_D h fun ds o hk hR => ?_⟩)
  try dsimp only [L2.cxOf]
  obtain ⟨x, y, rfl, hx, hy, rfl⟩ := hR
  walk_at "zq"
  refine ⟨_, _, by walk_at "zd", rfl, ⟨x, y, rfl, hx, hy, rfl⟩, ?_⟩
  walk_at "zq"
  rfl
def R_minus (ds : List PyData) (o : DOut) : Prop := ∃ a b c d, ds = [pr a b, pr c d] ∧ o = .ok (pr (a - c) (b - d))
theorem ok_minus {P : Program} {w : World} {K : Fg} {mg : Str → Option Value} {base : Heap} {f : Addr} {fd : FuncData} (F : Fun K "minus" "minus" s_minus f fd) :
    FnOk P w K mg base (L2.CX P w) 1 f fd ["one", "two"] (spD K 2 R_minus) := by
  refine F.okX sc_minus (fun vs H Q E h => len_D h) (fun cdv A outer s H vs Q E hr h => ⟨_, (pss_one (ps_ret (pe_tup (pa_cons (pe_op op_sub (pe_ix ix_seq (pv 0) pe_int (fun _ _ => rfl)) (pe_ix ix_seq (pv 1) pe_int (fun _ _ => rfl))) (pa_cons (pe_op op_sub (pe_ix ix_seq (pv 0) pe_int (fun _ _ => rfl)) (pe_ix ix_seq (pv 1) pe_int (fun _ _ => rfl))) pa_nil))))),
    fn_D h fun ds o hk hR => ?_⟩)
  try dsimp only [L2.cxOf]
  obtain ⟨a, b, c, d, rfl, rfl⟩ := hR
  walk_at "zq"
  walk_at "zt"
  exact ⟨_, rfl, rfl⟩
def R_times (ds : List PyData) (o : DOut) : Prop := ∃ m a b, ds = [.int m, pr a b] ∧ (Sm m ∨ (Sm a ∧ Sm b)) ∧ o = .ok (pr (m * a) (m * b))
theorem ok_times {P : Program} {w : World} {K : Fg} {mg : Str → Option Value} {base : Heap} {f : Addr} {fd : FuncData} (F : Fun K "times" "times" s_times f fd) :
    FnOk P w K mg base (L2.CX P w) 1 f fd ["many", "move"] (spD K 2 R_times) := by
  refine F.okX sc_times (fun vs H Q E h => len_D h) (fun cdv A outer s H vs Q E hr h => ⟨_, (pss_one (ps_ret (pe_tup (pa_cons (pe_op op_mul (pv 0) (pe_ix ix_seq (pv 1) pe_int (fun _ _ => rfl))) (pa_cons (pe_op op_mul (pv 0) (pe_ix ix_seq (pv 1) pe_int (fun _ _ => rfl))) pa_nil))))),
    fn_D h fun ds o hk hR => ?_⟩)
  try dsimp only [L2.cxOf]
  obtain ⟨m, a, b, rfl, hm, rfl⟩ := hR
  have h1 : CMul m a := hm.elim Sm.l fun h => h.1.r
  have h2 : CMul m b := hm.elim Sm.l fun h => h.2.r
  walk_at "zq"
  refine zo_mul h1 ?_
  walk_at "zq"
  refine zo_mul h2 ?_
  walk_at "zq"
  walk_at "zt"
  exact ⟨_, rfl, rfl⟩
def R_cross (ds : List PyData) (o : DOut) : Prop := ∃ a b c d, ds = [pr a b, pr c d] ∧ ((Sm a ∧ Sm b) ∨ (Sm c ∧ Sm d)) ∧ o = .ok (.int (a * d - b * c))
theorem ok_cross {P : Program} {w : World} {K : Fg} {mg : Str → Option Value} {base : Heap} {f : Addr} {fd : FuncData} (F : Fun K "cross" "cross" s_cross f fd) :
    FnOk P w K mg base (L2.CX P w) 1 f fd ["one", "two"] (spD K 2 R_cross) := by
  refine F.okX sc_cross (fun vs H Q E h => len_D h) (fun cdv A outer s H vs Q E hr h => ⟨_, (pss_one (ps_ret (pe_op op_sub (pe_op op_mul (pe_ix ix_seq (pv 0) pe_int (fun _ _ => rfl)) (pe_ix ix_seq (pv 1) pe_int (fun _ _ => rfl))) (pe_op op_mul (pe_ix ix_seq (pv 0) pe_int (fun _ _ => rfl)) (pe_ix ix_seq (pv 1) pe_int (fun _ _ => rfl)))))),
    fn_D h fun ds o hk hR => ?_⟩)
  try dsimp only [L2.cxOf]
  obtain ⟨a, b, c, d, rfl, hm, rfl⟩ := hR
  have h1 : CMul a d := hm.elim (fun h => h.1.l) fun h => h.2.r
  have h2 : CMul b c := hm.elim (fun h => h.2.l) fun h => h.1.r
  walk_at "zq"
  refine zo_mul h1 ?_
  walk_at "zq"
  refine zo_mul h2 ?_
  walk_at "zq"
  rfl
def R_often (ds : List PyData) (o : DOut) : Prop := ∃ a b c d, ds = [pr a b, pr c d] ∧ Wd a ∧ Wd b ∧ (a ≠ 0 ∨ b ≠ 0) ∧ o = .ok (.int (often a b c d))
theorem ok_how_often {P : Program} {w : World} {K : Fg} {mg : Str → Option Value} {base : Heap} {f : Addr} {fd : FuncData} (F : Fun K "how_often" "how_often" s_how_often f fd) :
    FnOk P w K mg base (L2.CX P w) 1 f fd ["move", "way"] (spD K 2 R_often) := by
  refine F.okX sc_how_often (fun vs H Q E h => len_D h) (fun cdv A outer s H vs Q E hr h => ⟨_, (pss_cons (ps_if (pt_cmpR (op_neA hr.units) (pe_ix ix_seq (pv 0) pe_int (fun _ _ => rfl)) pe_int (nomark _)) (pss_one (ps_ret (pe_op op_fdivG (pe_ix ix_seq (pv 1) pe_int (fun _ _ => rfl)) (pe_ix ix_seq (pv 0) pe_int (fun _ _ => rfl))))) pss_nil)
      (pss_one (ps_ret (pe_op op_fdivG (pe_ix ix_seq (pv 1) pe_int (fun _ _ => rfl)) (pe_ix ix_seq (pv 0) pe_int (fun _ _ => rfl)))))),
    fn_D h fun ds o hk hR => ?_⟩)
  try dsimp only [L2.cxOf]
  obtain ⟨a, b, c, d, rfl, ha, hb, hab, rfl⟩ := hR
  walk_at "zq"
  by_cases h : a = 0
  · rw [decide_eq_true h]
    walk_at "zq"
    refine zo_fdivG ⟨hab.resolve_left (fun z => z h), hb⟩ ?_
    exact ⟨_, rfl, by unfold often; rw [if_neg (fun z => z h)]⟩
  · rw [decide_eq_false h]
    walk_at "zq"
    refine zo_fdivG ⟨h, ha⟩ ?_
    exact ⟨_, rfl, by unfold often; rw [if_pos h]⟩
/-! ### the three reaches: their fields, where a place is, whether one leads to another -/
def R_nLoc (fs : List (Str × ZV)) (ds : List PyData) (o : DOut) (fs' : List (Str × ZV)) : Prop := ∃ x y, fs = [] ∧ fs' = [] ∧ ds = [pr x y] ∧ o = .ok (.tuple [pr x y, .int 0])
theorem ok_NoReach_locate {P : Program} {w : World} {K : Fg} {mg : Str → Option Value} {base : Heap} {f : Addr} {fd : FuncData} {C_NoReach : Addr} (F : Fun K "locate" "NoReach.locate" s_NoReach_locate f fd)
    (cl_NoReach : Cls K C_NoReach) :
    FnOk P w K mg base (L2.CX P w) 1 f fd ["self", "place"] (spO K C_NoReach 1 R_nLoc) := by
  refine F.okX sc_NoReach_locate (fun vs H Q E h => len_O h) (fun cdv A outer s H vs Q E hr h => ⟨_, (pss_one (ps_ret (pe_tup (pa_cons (pv 1) (pa_cons pe_int pa_nil))))),
    fn_O h fun p fs ds o fs2 hk hR => ?_⟩)
  try dsimp only [L2.cxOf]
  obtain ⟨x, y, rfl, rfl, rfl, rfl⟩ := hR
  walk_at "zq"
  walk_at "zt"
  exact ⟨⟨_, rfl, rfl⟩, m0⟩
def R_nLeads (fs : List (Str × ZV)) (ds : List PyData) (o : DOut) (fs' : List (Str × ZV)) : Prop := ∃ a b, fs = [] ∧ fs' = [] ∧ ds = [.int a, .int b] ∧ o = .ok (.bool (decide (a = b)))
theorem ok_NoReach_leads {P : Program} {w : World} {K : Fg} {mg : Str → Option Value} {base : Heap} {f : Addr} {fd : FuncData} {C_NoReach : Addr} (F : Fun K "leads" "NoReach.leads" s_NoReach_leads f fd)
    (cl_NoReach : Cls K C_NoReach) :
    FnOk P w K mg base (L2.CX P w) 1 f fd ["self", "at", "to"] (spO K C_NoReach 2 R_nLeads) := by
  refine F.okX sc_NoReach_leads (fun vs H Q E h => len_O h) (fun cdv A outer s H vs Q E hr h => ⟨_, (pss_one (ps_ret (pe_cmpR (op_eqA hr.units) (pv 1) (pv 2) (nomark _)))),
    fn_O h fun p fs ds o fs2 hk hR => ?_⟩)
  try dsimp only [L2.cxOf]
  obtain ⟨a, b, rfl, rfl, rfl, rfl⟩ := hR
  walk_at "zq"
  exact ⟨⟨_, rfl, rfl⟩, m0⟩
/-- the two moves of a reach of the plane -/
structure Mv where
  a : Int
  b : Int
  c : Int
  d : Int
  ha : Sm a
  hb : Sm b
  hc : Sm c
  hd : Sm d
def Mv.ar (m : Mv) : Int := m.a * m.d - m.b * m.c
def PlF (m : Mv) : List (Str × ZV) := [("one", .d (pr m.a m.b)), ("two", .d (pr m.c m.d)), ("area", .d (.int m.ar))]
def R_pInit (fs : List (Str × ZV)) (ds : List PyData) (o : DOut) (fs' : List (Str × ZV)) : Prop := ∃ m : Mv, fs = [] ∧ ds = [pr m.a m.b, pr m.c m.d] ∧ o = .ok .none ∧ fs' = PlF m
theorem ok_PlaneReach_init {P : Program} {w : World} {K : Fg} {mg : Str → Option Value} {base : Heap} {f : Addr} {fd : FuncData} {C_PlaneReach : Addr} (F : Fun K "__init__" "PlaneReach.__init__" s_PlaneReach_init f fd)
    (na_PlaneReach_one : NoAttr K C_PlaneReach "one")
    (na_PlaneReach_two : NoAttr K C_PlaneReach "two")
    (na_PlaneReach_area : NoAttr K C_PlaneReach "area")
    (c_cross : Cal P w K mg base 1 "cross" (spD K 2 R_cross))
    (cl_PlaneReach : Cls K C_PlaneReach) :
    FnOk P w K mg base (L2.CX P w) 2 f fd ["self", "one", "two"] (spO K C_PlaneReach 2 R_pInit) := by
  refine F.okX sc_PlaneReach_init (fun vs H Q E h => len_O h) (fun cdv A outer s H vs Q E hr h => ⟨_, (pss_cons (ps_fld (pv 0) (pv 1) rfl)
      (pss_cons (ps_fld (pv 0) (pv 2) rfl)
      (pss_one (ps_fld (pv 0) (pe_cl c_cross hr (show 1 ≤ 1 by decide) passL (pa_cons (pv 1) (pa_cons (pv 2) pa_nil))) rfl)))),
    fn_O h fun p fs ds o fs2 hk hR => ?_⟩)
  try dsimp only [L2.cxOf]
  obtain ⟨m, rfl, rfl, rfl, rfl⟩ := hR
  walk_at "zfq"
  refine ⟨_, _, by walk_at "zd", rfl, ⟨_, _, _, _, rfl, .inl ⟨m.ha, m.hb⟩, rfl⟩, ?_⟩
  walk_at "zfq"
  first | exact ⟨rfl, m0⟩ | exact m0
def Mv.ones (m : Mv) (x y : Int) : Int := (x * m.d - y * m.c).fdiv m.ar
def Mv.twos (m : Mv) (x y : Int) : Int := (m.a * y - m.b * x).fdiv m.ar
def Mv.kx (m : Mv) (x y : Int) : Int := x - m.ones x y * m.a - m.twos x y * m.c
def Mv.ky (m : Mv) (x y : Int) : Int := y - m.ones x y * m.b - m.twos x y * m.d
def Mv.loc (m : Mv) (x y : Int) : PyData := .tuple [pr (m.kx x y) (m.ky x y), pr (m.ones x y) (m.twos x y)]
def R_pLoc (fs : List (Str × ZV)) (ds : List PyData) (o : DOut) (fs' : List (Str × ZV)) : Prop := ∃ (m : Mv) (x y : Int), fs = PlF m ∧ fs' = fs ∧ m.ar ≠ 0 ∧ Wd m.ar ∧ ds = [pr x y] ∧ o = .ok (m.loc x y)
theorem ok_PlaneReach_locate {P : Program} {w : World} {K : Fg} {mg : Str → Option Value} {base : Heap} {f : Addr} {fd : FuncData} {C_PlaneReach : Addr} (F : Fun K "locate" "PlaneReach.locate" s_PlaneReach_locate f fd)
    (na_PlaneReach_two : NoAttr K C_PlaneReach "two")
    (na_PlaneReach_area : NoAttr K C_PlaneReach "area")
    (na_PlaneReach_one : NoAttr K C_PlaneReach "one")
    (c_cross : Cal P w K mg base 1 "cross" (spD K 2 R_cross))
    (c_minus : Cal P w K mg base 1 "minus" (spD K 2 R_minus))
    (c_times : Cal P w K mg base 1 "times" (spD K 2 R_times))
    (cl_PlaneReach : Cls K C_PlaneReach) :
    FnOk P w K mg base (L2.CX P w) 2 f fd ["self", "place"] (spO K C_PlaneReach 1 R_pLoc) := by
  refine F.okX sc_PlaneReach_locate (fun vs H Q E h => len_O h) (fun cdv A outer s H vs Q E hr h => ⟨_, (pss_cons (ps_set (i := 2) sc_PlaneReach_locate.nd rfl (by first | exact Or.inl rfl | exact Or.inr rfl) (pe_op op_fdivG (pe_cl c_cross hr (show 1 ≤ 1 by decide) passL (pa_cons (pv 1) (pa_cons (pe_fld (pv 0) rfl) pa_nil))) (pe_fld (pv 0) rfl)))
      (pss_cons (ps_set (i := 3) sc_PlaneReach_locate.nd rfl (by first | exact Or.inl rfl | exact Or.inr rfl) (pe_op op_fdivG (pe_cl c_cross hr (show 1 ≤ 1 by decide) passL (pa_cons (pe_fld (pv 0) rfl) (pa_cons (pv 1) pa_nil))) (pe_fld (pv 0) rfl)))
      (pss_cons (ps_set (i := 4) sc_PlaneReach_locate.nd rfl (by first | exact Or.inl rfl | exact Or.inr rfl) (pe_cl c_minus hr (show 1 ≤ 1 by decide) passL (pa_cons (pe_cl c_minus hr (show 1 ≤ 1 by decide) passL (pa_cons (pv 1) (pa_cons (pe_cl c_times hr (show 1 ≤ 1 by decide) passL (pa_cons (pv 2) (pa_cons (pe_fld (pv 0) rfl) pa_nil))) pa_nil))) (pa_cons (pe_cl c_times hr (show 1 ≤ 1 by decide) passL (pa_cons (pv 3) (pa_cons (pe_fld (pv 0) rfl) pa_nil))) pa_nil))))
      (pss_one (ps_ret (pe_tup (pa_cons (pv 4) (pa_cons (pe_tup (pa_cons (pv 2) (pa_cons (pv 3) pa_nil))) pa_nil)))))))),
    fn_O h fun p fs ds o fs2 hk hR => ?_⟩)
  try dsimp only [L2.cxOf]
  obtain ⟨m, x, y, rfl, rfl, har, hwd, rfl, rfl⟩ := hR
  walk_at "zfq"
  refine ⟨_, _, by walk_at "zd", rfl, ⟨_, _, _, _, rfl, .inr ⟨m.hc, m.hd⟩, rfl⟩, ?_⟩
  walk_at "zfq"
  refine zo_fdivG ⟨har, hwd⟩ ?_
  walk_at "zfq"
  refine ⟨_, _, by walk_at "zd", rfl, ⟨_, _, _, _, rfl, .inl ⟨m.ha, m.hb⟩, rfl⟩, ?_⟩
  walk_at "zfq"
  refine zo_fdivG ⟨har, hwd⟩ ?_
  walk_at "zfq"
  refine ⟨_, _, by walk_at "zd", rfl, ⟨_, _, _, rfl, .inr ⟨m.ha, m.hb⟩, rfl⟩, ?_⟩
  walk_at "zfq"
  refine ⟨_, _, by walk_at "zd", rfl, ⟨_, _, _, _, rfl, rfl⟩, ?_⟩
  walk_at "zfq"
  refine ⟨_, _, by walk_at "zd", rfl, ⟨_, _, _, rfl, .inr ⟨m.hc, m.hd⟩, rfl⟩, ?_⟩
  walk_at "zfq"
  refine ⟨_, _, by walk_at "zd", rfl, ⟨_, _, _, _, rfl, rfl⟩, ?_⟩
  walk_at "zfq"
  walk_at "zt"
  walk_at "zfq"
  walk_at "zt"
  exact ⟨⟨_, rfl, rfl⟩, m0⟩
def R_pLeads (fs : List (Str × ZV)) (ds : List PyData) (o : DOut) (fs' : List (Str × ZV)) : Prop := ∃ a b c d, fs' = fs ∧ ds = [pr a b, pr c d] ∧ o = .ok (.bool (decide (a ≤ c) && decide (b ≤ d)))
theorem ok_PlaneReach_leads {P : Program} {w : World} {K : Fg} {mg : Str → Option Value} {base : Heap} {f : Addr} {fd : FuncData} {C_PlaneReach : Addr} (F : Fun K "leads" "PlaneReach.leads" s_PlaneReach_leads f fd)
    (cl_PlaneReach : Cls K C_PlaneReach) :
    FnOk P w K mg base (L2.CX P w) 1 f fd ["self", "at", "to"] (spO K C_PlaneReach 2 R_pLeads) := by
  refine F.okX sc_PlaneReach_leads (fun vs H Q E h => len_O h) (fun cdv A outer s H vs Q E hr h => ⟨_, (pss_one (ps_ret (pe_and (pe_cmpR op_le (pe_ix ix_seq (pv 1) pe_int (fun _ _ => rfl)) (pe_ix ix_seq (pv 2) pe_int (fun _ _ => rfl)) (nomark _)) (pe_one (pe_cmpR op_le (pe_ix ix_seq (pv 1) pe_int (fun _ _ => rfl)) (pe_ix ix_seq (pv 2) pe_int (fun _ _ => rfl)) (nomark _)))))),
    fn_O h fun p fs ds o fs2 hk hR => ?_⟩)
  try dsimp only [L2.cxOf]
  obtain ⟨a, b, c, d, rfl, rfl, rfl⟩ := hR
  walk_at "zq"
  refine ⟨fun h => ?_, fun h => ?_⟩
  · exact ⟨⟨_, rfl, by rw [h]; rfl⟩, m0⟩
  · walk_at "zq"
    exact ⟨⟨_, rfl, by rw [h]; rfl⟩, m0⟩
def R_inv (ds : List PyData) (o : DOut) : Prop := ∃ q p : Int, ds = [.int q, .int p] ∧ 1 ≤ p ∧ Sm p ∧ o = .ok (.int (invS q p))
theorem ok_inverse {P : Program} {w : World} {K : Fg} {mg : Str → Option Value} {base : Heap} {f : Addr} {fd : FuncData} (F : Fun K "inverse" "inverse" s_inverse f fd) :
    FnOk P w K mg base (L2.CX P w) 1 f fd ["number", "size"] (spD K 2 R_inv) := by
  refine F.okX sc_inverse (fun vs H Q E h => len_D h) (fun cdv A outer s H vs Q E hr h => ⟨_, (pss_cons (ps_asg (pe_tup (pa_cons pe_int (pa_cons pe_int pa_nil))) (pg_tup rfl (pgs_cons (pg_name (i := 2) sc_inverse.nd rfl (by first | exact Or.inl rfl | exact Or.inr rfl)) (pgs_cons (pg_name (i := 3) sc_inverse.nd rfl (by first | exact Or.inl rfl | exact Or.inr rfl)) pgs_nil))))
      (pss_cons (ps_par (i := 4) (j := 5) rfl sc_inverse.nd rfl rfl (by decide) rfl rfl (pa_cons (pv 1) (pa_cons (pe_op op_mod (pv 0) (pv 1)) pa_nil)) (by rfl))
      (pss_cons (ps_while (passes_of rfl) (pt_cmpR (op_neA hr.units) (pv 5) pe_int (nomark _)) (pss_cons (ps_set (i := 6) sc_inverse.nd rfl (by first | exact Or.inl rfl | exact Or.inr rfl) (pe_op op_fdivW (pv 4) (pv 5)))
      (pss_cons (ps_par (i := 4) (j := 5) rfl sc_inverse.nd rfl rfl (by decide) rfl rfl (pa_cons (pv 5) (pa_cons (pe_op op_sub (pv 4) (pe_op op_mul (pv 6) (pv 5))) pa_nil)) (by rfl))
      (pss_one (ps_par (i := 2) (j := 3) rfl sc_inverse.nd rfl rfl (by decide) rfl rfl (pa_cons (pv 3) (pa_cons (pe_op op_sub (pv 2) (pe_op op_mul (pv 6) (pv 3))) pa_nil)) (by rfl))))))
      (pss_one (ps_ret (pe_op op_mod (pv 2) (pv 1))))))),
    fn_D h fun ds o hk hR => ?_⟩)
  try dsimp only [L2.cxOf]
  obtain ⟨q, p, rfl, hp, hsm, rfl⟩ := hR
  have q0 := Int.emod_nonneg q (show p ≠ 0 by omega)
  have q1 := Int.emod_lt_of_pos q (show 0 < p by omega)
  walk_at "zq"
  walk_at "zt"
  walk_at "zq"
  refine zo_mod (j := p) (by omega) ?_
  walk_at "zq"
  refine zs_while (fun m S2 M2 => ∃ (n : Nat) (be nw la sm : Int) (c : Option ZV), S2 = [some (.d (.int q)), some (.d (.int p)), some (.d (.int be)), some (.d (.int nw)), some (.d (.int la)), some (.d (.int sm)), c] ∧ M2 = [] ∧ m = sm.toNat ∧ 0 ≤ sm ∧ sm < p ∧ 0 ≤ la ∧ la ≤ p ∧ sm.toNat < n ∧ invL n be nw la sm = invL (p.toNat + 1) 0 1 p (q % p)) ⟨_, p.toNat + 1, 0, 1, p, q % p, _, rfl, rfl, rfl, q0, q1, by omega, Int.le_refl _, by omega, rfl⟩ ?_
  rintro m S2 M2 ⟨n, be, nw, la, sm, c, rfl, rfl, rfl, hs0, hs1, hl0, hl1, hn, he⟩
  cases n with
  | zero => omega
  | succ n =>
    walk_at "zq"
    by_cases h : sm = 0
    · rw [decide_eq_true h]
      walk_at "zq"
      refine zo_mod (j := p) (by omega) ?_
      rw [invL_z (n := n) (be := be) (nw := nw) (la := la) h] at he
      refine ⟨_, rfl, ?_⟩
      unfold invS
      rw [← he]
    · rw [decide_eq_false h]
      have hpos : 0 < sm := by omega
      have hd0 : 0 ≤ la / sm := Int.ediv_nonneg hl0 (by omega)
      have hd1 : la / sm ≤ la := Int.ediv_le_self _ hl0
      have hdm : Sm (la / sm) := ⟨by omega, by have := hsm.2; omega⟩
      have hr := sub_div la sm
      have r0 := Int.emod_nonneg la h
      have r1 := Int.emod_lt_of_pos la hpos
      walk_at "zq"
      refine zo_fdivW ⟨hpos, (show Sm sm from ⟨by omega, by have := hsm.2; omega⟩).wd⟩ ?_
      walk_at "zq"
      refine zo_mul hdm.l ?_
      walk_at "zq"
      refine zo_mul hdm.l ?_
      walk_at "zq"
      rw [invL_s (n := n) (be := be) (nw := nw) (la := la) h] at he
      refine ⟨(la - la / sm * sm).toNat, by rw [hr]; omega, n, nw, be - la / sm * nw, sm, la - la / sm * sm, _, rfl, rfl, rfl, by rw [hr]; exact r0, by rw [hr]; omega, by omega, by omega, by rw [hr]; omega, he⟩
structure Ln where
  ux : Int
  uy : Int
  p : Int
  q : Int
  hx : Sm ux
  hy : Sm uy
  h0 : ux ≠ 0 ∨ uy ≠ 0
  hp : 1 ≤ p
  hs : Sm p
def LnF (l : Ln) : List (Str × ZV) := [("unit", .d (pr l.ux l.uy)), ("ones", .d (.int l.p)), ("twos", .d (.int l.q)), ("inverse", .d (.int (invS l.q l.p)))]
def R_lInit (fs : List (Str × ZV)) (ds : List PyData) (o : DOut) (fs' : List (Str × ZV)) : Prop := ∃ l : Ln, fs = [] ∧ ds = [pr l.ux l.uy, .int l.p, .int l.q] ∧ o = .ok .none ∧ fs' = LnF l
theorem ok_LineReach_init {P : Program} {w : World} {K : Fg} {mg : Str → Option Value} {base : Heap} {f : Addr} {fd : FuncData} {C_LineReach : Addr} (F : Fun K "__init__" "LineReach.__init__" s_LineReach_init f fd)
    (na_LineReach_unit : NoAttr K C_LineReach "unit")
    (na_LineReach_ones : NoAttr K C_LineReach "ones")
    (na_LineReach_twos : NoAttr K C_LineReach "twos")
    (na_LineReach_inverse : NoAttr K C_LineReach "inverse")
    (c_inverse : Cal P w K mg base 1 "inverse" (spD K 2 R_inv))
    (cl_LineReach : Cls K C_LineReach) :
    FnOk P w K mg base (L2.CX P w) 2 f fd ["self", "unit", "ones", "twos"] (spO K C_LineReach 3 R_lInit) := by
  refine F.okX sc_LineReach_init (fun vs H Q E h => len_O h) (fun cdv A outer s H vs Q E hr h => ⟨_, (pss_cons (ps_fld (pv 0) (pv 1) rfl)
      (pss_cons (ps_fld (pv 0) (pv 2) rfl)
      (pss_cons (ps_fld (pv 0) (pv 3) rfl)
      (pss_one (ps_fld (pv 0) (pe_cl c_inverse hr (show 1 ≤ 1 by decide) passL (pa_cons (pv 3) (pa_cons (pv 2) pa_nil))) rfl))))),
    fn_O h fun p fs ds o fs2 hk hR => ?_⟩)
  try dsimp only [L2.cxOf]
  obtain ⟨l, rfl, rfl, rfl, rfl⟩ := hR
  walk_at "zfq"
  refine ⟨_, _, by walk_at "zd", rfl, ⟨_, _, rfl, l.hp, l.hs, rfl⟩, ?_⟩
  walk_at "zfq"
  first | exact ⟨rfl, m0⟩ | exact m0
def Ln.at (l : Ln) (x y : Int) : Int := often l.ux l.uy x y
def R_lLoc (fs : List (Str × ZV)) (ds : List PyData) (o : DOut) (fs' : List (Str × ZV)) : Prop := ∃ (l : Ln) (x y : Int), fs = LnF l ∧ fs' = fs ∧ ds = [pr x y] ∧ o = .ok (.tuple [pr (x - l.at x y * l.ux) (y - l.at x y * l.uy), .int (l.at x y)])
theorem ok_LineReach_locate {P : Program} {w : World} {K : Fg} {mg : Str → Option Value} {base : Heap} {f : Addr} {fd : FuncData} {C_LineReach : Addr} (F : Fun K "locate" "LineReach.locate" s_LineReach_locate f fd)
    (na_LineReach_unit : NoAttr K C_LineReach "unit")
    (c_how_often : Cal P w K mg base 1 "how_often" (spD K 2 R_often))
    (c_minus : Cal P w K mg base 1 "minus" (spD K 2 R_minus))
    (c_times : Cal P w K mg base 1 "times" (spD K 2 R_times))
    (cl_LineReach : Cls K C_LineReach) :
    FnOk P w K mg base (L2.CX P w) 2 f fd ["self", "place"] (spO K C_LineReach 1 R_lLoc) := by
  refine F.okX sc_LineReach_locate (fun vs H Q E h => len_O h) (fun cdv A outer s H vs Q E hr h => ⟨_, (pss_cons (ps_set (i := 2) sc_LineReach_locate.nd rfl (by first | exact Or.inl rfl | exact Or.inr rfl) (pe_cl c_how_often hr (show 1 ≤ 1 by decide) passL (pa_cons (pe_fld (pv 0) rfl) (pa_cons (pv 1) pa_nil))))
      (pss_one (ps_ret (pe_tup (pa_cons (pe_cl c_minus hr (show 1 ≤ 1 by decide) passL (pa_cons (pv 1) (pa_cons (pe_cl c_times hr (show 1 ≤ 1 by decide) passL (pa_cons (pv 2) (pa_cons (pe_fld (pv 0) rfl) pa_nil))) pa_nil))) (pa_cons (pv 2) pa_nil)))))),
    fn_O h fun p fs ds o fs2 hk hR => ?_⟩)
  try dsimp only [L2.cxOf]
  obtain ⟨l, x, y, rfl, rfl, rfl, rfl⟩ := hR
  walk_at "zfq"
  refine ⟨_, _, by walk_at "zd", rfl, ⟨_, _, _, _, rfl, l.hx.wd, l.hy.wd, l.h0, rfl⟩, ?_⟩
  walk_at "zfq"
  refine ⟨_, _, by walk_at "zd", rfl, ⟨_, _, _, rfl, .inr ⟨l.hx, l.hy⟩, rfl⟩, ?_⟩
  walk_at "zfq"
  refine ⟨_, _, by walk_at "zd", rfl, ⟨_, _, _, _, rfl, rfl⟩, ?_⟩
  walk_at "zfq"
  walk_at "zt"
  exact ⟨⟨_, rfl, rfl⟩, m0⟩
def R_lLeads (fs : List (Str × ZV)) (ds : List PyData) (o : DOut) (fs' : List (Str × ZV)) : Prop := ∃ (l : Ln) (t u : Int), fs = LnF l ∧ fs' = fs ∧ ds = [.int t, .int u] ∧ o = .ok (.bool (leadsL l.p l.q t u))
theorem ok_LineReach_leads {P : Program} {w : World} {K : Fg} {mg : Str → Option Value} {base : Heap} {f : Addr} {fd : FuncData} {C_LineReach : Addr} (F : Fun K "leads" "LineReach.leads" s_LineReach_leads f fd)
    (na_LineReach_twos : NoAttr K C_LineReach "twos")
    (na_LineReach_inverse : NoAttr K C_LineReach "inverse")
    (na_LineReach_ones : NoAttr K C_LineReach "ones")
    (cl_LineReach : Cls K C_LineReach) :
    FnOk P w K mg base (L2.CX P w) 1 f fd ["self", "at", "to"] (spO K C_LineReach 2 R_lLeads) := by
  refine F.okX sc_LineReach_leads (fun vs H Q E h => len_O h) (fun cdv A outer s H vs Q E hr h => ⟨_, (pss_cons (ps_if (pt_cmpR op_lt (pe_fld (pv 0) rfl) pe_int (nomark _)) (pss_one (ps_ret pe_bl)) pss_nil)
      (pss_cons (ps_set (i := 3) sc_LineReach_leads.nd rfl (by first | exact Or.inl rfl | exact Or.inr rfl) (pe_op op_sub (pv 2) (pv 1)))
      (pss_cons (ps_set (i := 4) sc_LineReach_leads.nd rfl (by first | exact Or.inl rfl | exact Or.inr rfl) (pe_op op_mod (pe_op op_mul (pv 3) (pe_fld (pv 0) rfl)) (pe_fld (pv 0) rfl)))
      (pss_one (ps_ret (pe_cmpR op_le (pe_op op_mul (pv 4) (pe_fld (pv 0) rfl)) (pv 3) (nomark _))))))),
    fn_O h fun p fs ds o fs2 hk hR => ?_⟩)
  try dsimp only [L2.cxOf]
  obtain ⟨l, t, u, rfl, rfl, rfl, rfl⟩ := hR
  have hi := invS_rng (q := l.q) l.hp
  have hsI : Sm (invS l.q l.p) := ⟨by omega, by have := l.hs.2; omega⟩
  have b0 := Int.emod_nonneg ((u - t) * invS l.q l.p) (show l.p ≠ 0 by have := l.hp; omega)
  have b1 := Int.emod_lt_of_pos ((u - t) * invS l.q l.p) (show 0 < l.p by have := l.hp; omega)
  have hsB : Sm ((u - t) * invS l.q l.p % l.p) := ⟨by omega, by have := l.hs.2; omega⟩
  walk_at "zfq"
  refine ⟨fun h => ?_, fun h => ?_⟩
  · walk_at "zfq"
    exact ⟨⟨_, rfl, by unfold leadsL; rw [h]; rfl⟩, m0⟩
  · walk_at "zfq"
    refine zo_mul hsI.r ?_
    walk_at "zfq"
    refine zo_mod (j := l.p) (by have := l.hp; omega) ?_
    walk_at "zfq"
    refine zo_mul hsB.l ?_
    walk_at "zfq"
    exact ⟨⟨_, rfl, by unfold leadsL; rw [h]; rfl⟩, m0⟩
theorem eqv_pr (a b c d : Int) : PyData.eqv (pr a b) (pr c d) = (decide (a = c) && decide (b = d)) := by
  simp [PyData.eqv, PyData.eqvAll]
  rfl
theorem shp_pr (a b : Int) : SeqAt.shaped (pr a b) = true := rfl
structure Par where
  a : Int
  b : Int
  c : Int
  d : Int
  ha : Sm a
  hb : Sm b
  hc : Sm c
  hd : Sm d
  h0 : a ≠ 0 ∨ b ≠ 0
  hx : a * d - b * c = 0
theorem Par.sp (P : Par) : Sm (lP P.a P.b P.c P.d) := by
  obtain ⟨_, hp, _, _, _, _, hc, e⟩ := ln_ok P.h0 P.hx
  exact (lPart_sm P.ha P.hb P.h0).fac (p := lCm P.a P.b P.c P.d) (by omega) e
theorem Par.sx (P : Par) : Sm (lUx P.a P.b P.c P.d) := by
  obtain ⟨_, hp, _, ⟨e, _⟩, _⟩ := ln_ok P.h0 P.hx
  exact P.ha.fac hp e
theorem Par.sy (P : Par) : Sm (lUy P.a P.b P.c P.d) := by
  obtain ⟨_, hp, _, ⟨_, e⟩, _⟩ := ln_ok P.h0 P.hx
  exact P.hb.fac hp e
def Par.ln (P : Par) : Ln := ⟨lUx P.a P.b P.c P.d, lUy P.a P.b P.c P.d, lP P.a P.b P.c P.d, lQ P.a P.b P.c P.d, P.sx, P.sy, (ln_ok P.h0 P.hx).1, (ln_ok P.h0 P.hx).2.1, P.sp⟩
def R_line (C0 : Addr) (ds : List PyData) (C : Addr) (fs : List (Str × ZV)) : Prop := ∃ P : Par, C = C0 ∧ fs = LnF P.ln ∧ (ds = [pr P.a P.b, pr P.c P.d] ∨ (P.c = 0 ∧ P.d = 0 ∧ ds = [pr 0 0, pr P.a P.b]))
theorem ok_line_reach {P : Program} {w : World} {K : Fg} {mg : Str → Option Value} {base : Heap} {f : Addr} {fd : FuncData} {C_LineReach : Addr} (F : Fun K "_line_reach" "_line_reach" s_line_reach f fd)
    (g_gcd : mg "gcd" = some (.builtin "math.gcd"))
    (c_how_often : Cal P w K mg base 1 "how_often" (spD K 2 R_often))
    (c_LineReach_init : Mkr P w K mg base 2 "LineReach" C_LineReach (spO K C_LineReach 3 R_lInit))
    (c_times : Cal P w K mg base 1 "times" (spD K 2 R_times)) :
    FnOk P w K mg base (L2.CX P w) 4 f fd ["one", "two"] (spB K 2 (R_line C_LineReach)) := by
  refine F.okX sc_line_reach (fun vs H Q E h => len_B h) (fun cdv A outer s H vs Q E hr h => ⟨_, (pss_cons (ps_if (pt_cmpR (op_eqA hr.units) (pv 0) (pe_tup (pa_cons pe_int (pa_cons pe_int pa_nil))) (nomark _)) (pss_one (ps_par (i := 0) (j := 1) rfl sc_line_reach.nd rfl rfl (by decide) rfl rfl (pa_cons (pv 1) (pa_cons (pv 0) pa_nil)) (by rfl))) pss_nil)
      (pss_cons (ps_set (i := 2) sc_line_reach.nd rfl (by first | exact Or.inl rfl | exact Or.inr rfl) (pe_callBfun cr_gcd (by rfl) g_gcd (pa_cons (pe_ix ix_seq (pv 0) pe_int (fun _ _ => rfl)) (pa_cons (pe_ix ix_seq (pv 0) pe_int (fun _ _ => rfl)) pa_nil))))
      (pss_cons (ps_set (i := 3) sc_line_reach.nd rfl (by first | exact Or.inl rfl | exact Or.inr rfl) (pe_tup (pa_cons (pe_op op_fdivW (pe_ix ix_seq (pv 0) pe_int (fun _ _ => rfl)) (pv 2)) (pa_cons (pe_op op_fdivW (pe_ix ix_seq (pv 0) pe_int (fun _ _ => rfl)) (pv 2)) pa_nil))))
      (pss_cons (ps_par (i := 4) (j := 5) rfl sc_line_reach.nd rfl rfl (by decide) rfl rfl (pa_cons (pv 2) (pa_cons (pe_cl c_how_often hr (show 1 ≤ 3 by decide) passL (pa_cons (pv 3) (pa_cons (pv 1) pa_nil))) pa_nil)) (by rfl))
      (pss_cons (ps_set (i := 6) sc_line_reach.nd rfl (by first | exact Or.inl rfl | exact Or.inr rfl) (pe_callBfun cr_gcd (by rfl) g_gcd (pa_cons (pv 4) (pa_cons (pv 5) pa_nil))))
      (pss_one (ps_ret (pe_mkr (j := 2) c_LineReach_init (hr.mono (by decide)) (by decide) passL (pa_cons (pe_cl c_times hr (show 1 ≤ 3 by decide) passL (pa_cons (pv 6) (pa_cons (pv 3) pa_nil))) (pa_cons (pe_op op_fdivW (pv 4) (pv 6)) (pa_cons (pe_op op_fdivW (pv 5) (pv 6)) pa_nil))))))))))),
    fn_B h fun ds C2 fs hk hR => ?_⟩)
  try dsimp only [L2.cxOf]
  obtain ⟨P, rfl, rfl, hds⟩ := hR
  have hsm := lPart_sm P.ha P.hb P.h0
  obtain ⟨hpos, ⟨s0, e0⟩, ⟨s1, e1⟩, _⟩ := lPart_ok P.h0
  obtain ⟨_, hp1, _, _, _, hs, hc0, hpc⟩ := ln_ok P.h0 P.hx
  have f0 : Sm (P.a / lPart P.a P.b) := by
    rw [show P.a / lPart P.a P.b = s0 from Int.ediv_eq_of_eq_mul_right (by omega) e0]
    exact P.ha.fac (p := lPart P.a P.b) (by omega) e0
  have f1 : Sm (P.b / lPart P.a P.b) := by
    rw [show P.b / lPart P.a P.b = s1 from Int.ediv_eq_of_eq_mul_right (by omega) e1]
    exact P.hb.fac (p := lPart P.a P.b) (by omega) e1
  have hcm : Sm (lCm P.a P.b P.c P.d) := hsm.fac (p := lP P.a P.b P.c P.d) hp1 (by rw [hpc]; exact Int.mul_comm _ _)
  refine zs_seq (zs_nx (N := fun S2 M2 => S2 = [some (.d (pr P.a P.b)), some (.d (pr P.c P.d)), none, none, none, none, none] ∧ M2 = []) ?_ ?_)
  · rcases hds with rfl | ⟨hc, hd, rfl⟩
    · walk_at "zq"
      walk_at "zt"
      refine zo_eqDD (shp_pr _ _) (shp_pr _ _) ?_
      rw [eqv_pr]
      have e : (decide (P.a = 0) && decide (P.b = 0)) = false := by
        rcases P.h0 with h | h
        · rw [decide_eq_false h]; rfl
        · rw [decide_eq_false h, Bool.and_false]
      rw [e]
      walk_at "zq"
      exact ⟨rfl, rfl⟩
    · walk_at "zq"
      walk_at "zt"
      refine zo_eqDD (shp_pr _ _) (shp_pr _ _) ?_
      rw [eqv_pr]
      walk_at "zq"
      exact ⟨by rw [hc, hd]; rfl, rfl⟩
  · rintro S2 M2 ⟨rfl, rfl⟩
    walk_at "zq"
    refine zo_fdivW ⟨hpos, hsm.wd⟩ ?_
    walk_at "zq"
    refine zo_fdivW ⟨hpos, hsm.wd⟩ ?_
    walk_at "zq"
    walk_at "zt"
    walk_at "zq"
    refine ⟨_, _, by walk_at "zd", rfl, ⟨_, _, _, _, rfl, f0.wd, f1.wd, hs, rfl⟩, ?_⟩
    walk_at "zq"
    refine ⟨_, _, by walk_at "zd", rfl, ⟨_, _, _, rfl, .inr ⟨f0, f1⟩, rfl⟩, ?_⟩
    walk_at "zq"
    refine zo_fdivW ⟨hc0, hcm.wd⟩ ?_
    walk_at "zq"
    refine zo_fdivW ⟨hc0, hcm.wd⟩ ?_
    walk_at "zq"
    refine ⟨_, _, by walk_at "zd", rfl, ⟨P.ln, rfl, rfl, rfl, rfl⟩, fun p => ?_⟩
    exact ⟨p, rfl, m0⟩
def R_reach (CP CN CL : Addr) (ds : List PyData) (C : Addr) (fs : List (Str × ZV)) : Prop :=
  (∃ m : Mv, m.ar ≠ 0 ∧ ds = [pr m.a m.b, pr m.c m.d] ∧ C = CP ∧ fs = PlF m) ∨ (ds = [pr 0 0, pr 0 0] ∧ C = CN ∧ fs = []) ∨ R_line CL ds C fs
theorem ok_reach_of {P : Program} {w : World} {K : Fg} {mg : Str → Option Value} {base : Heap} {f : Addr} {fd : FuncData} {C_LineReach C_NoReach C_PlaneReach : Addr} (F : Fun K "reach_of" "reach_of" s_reach_of f fd)
    (e_NoReach : MkE K mg "NoReach" C_NoReach)
    (c_cross : Cal P w K mg base 1 "cross" (spD K 2 R_cross))
    (c_PlaneReach_init : Mkr P w K mg base 2 "PlaneReach" C_PlaneReach (spO K C_PlaneReach 2 R_pInit))
    (c__line_reach : Cal P w K mg base 4 "_line_reach" (spB K 2 (R_line C_LineReach)))
    (cl_NoReach : Cls K C_NoReach) :
    FnOk P w K mg base (L2.CX P w) 5 f fd ["one", "two"] (spB K 2 (R_reach C_PlaneReach C_NoReach C_LineReach)) := by
  refine F.okX sc_reach_of (fun vs H Q E h => len_B h) (fun cdv A outer s H vs Q E hr h => ⟨_, (pss_cons (ps_if (pt_cmpR (op_neA hr.units) (pe_cl c_cross hr (show 1 ≤ 4 by decide) passL (pa_cons (pv 0) (pa_cons (pv 1) pa_nil))) pe_int (nomark _)) (pss_one (ps_ret (pe_mkr (j := 2) c_PlaneReach_init (hr.mono (by decide)) (by decide) passL (pa_cons (pv 0) (pa_cons (pv 1) pa_nil))))) pss_nil)
      (pss_cons (ps_if (PW.pt (pw_and (pt_cmpR (op_eqA hr.units) (pv 0) (pe_tup (pa_cons pe_int (pa_cons pe_int pa_nil))) (nomark _)) (pw_and1 (pt_cmpR (op_eqA hr.units) (pv 1) (pe_tup (pa_cons pe_int (pa_cons pe_int pa_nil))) (nomark _))))) (pss_one (ps_ret (pe_mkE e_NoReach))) pss_nil)
      (pss_one (ps_ret (pe_cl c__line_reach hr (show 4 ≤ 4 by decide) passL (pa_cons (pv 0) (pa_cons (pv 1) pa_nil))))))),
    fn_B h fun ds C2 fs hk hR => ?_⟩)
  try dsimp only [L2.cxOf]
  rcases hR with ⟨m, har, rfl, rfl, rfl⟩ | ⟨rfl, rfl, rfl⟩ | ⟨P, rfl, rfl, hds⟩
  · walk_at "zq"
    refine ⟨_, _, by walk_at "zd", rfl, ⟨_, _, _, _, rfl, .inl ⟨m.ha, m.hb⟩, rfl⟩, ?_⟩
    walk_at "zq"
    rw [decide_eq_false (show ¬ m.a * m.d - m.b * m.c = 0 from har)]
    walk_at "zq"
    refine ⟨_, _, by walk_at "zd", rfl, ⟨m, rfl, rfl, rfl, rfl⟩, fun p => ?_⟩
    exact ⟨p, rfl, m0⟩
  · have s0 : Sm 0 := ⟨by decide, by decide⟩
    walk_at "zq"
    refine ⟨_, _, by walk_at "zd", rfl, ⟨_, _, _, _, rfl, .inl ⟨s0, s0⟩, rfl⟩, ?_⟩
    walk_at "zq"
    walk_at "zt"
    refine zo_eqDD (shp_pr _ _) (shp_pr _ _) ?_
    walk_at "zq"
    walk_at "zt"
    refine zo_eqDD (shp_pr _ _) (shp_pr _ _) ?_
    walk_at "zq"
    exact fun p => ⟨p, rfl, m0⟩
  · have hRL : ∀ ds, (ds = [pr P.a P.b, pr P.c P.d] ∨ (P.c = 0 ∧ P.d = 0 ∧ ds = [pr 0 0, pr P.a P.b])) → R_line C2 ds C2 (LnF P.ln) := fun ds h => ⟨P, rfl, rfl, h⟩
    rcases hds with rfl | ⟨hc, hd, rfl⟩
    · have e : (decide (P.a = 0) && decide (P.b = 0)) = false := by
        rcases P.h0 with h | h
        · rw [decide_eq_false h]; rfl
        · rw [decide_eq_false h, Bool.and_false]
      walk_at "zq"
      refine ⟨_, _, by walk_at "zd", rfl, ⟨_, _, _, _, rfl, .inl ⟨P.ha, P.hb⟩, rfl⟩, ?_⟩
      walk_at "zq"
      rw [decide_eq_true P.hx]
      walk_at "zq"
      walk_at "zt"
      refine zo_eqDD (shp_pr _ _) (shp_pr _ _) ?_
      rw [eqv_pr, e]
      walk_at "zq"
      refine ⟨_, _, _, by walk_at "zd", rfl, hRL _ (.inl rfl), fun p => ?_⟩
      exact ⟨p, rfl, m0⟩
    · have e : (decide (P.a = 0) && decide (P.b = 0)) = false := by
        rcases P.h0 with h | h
        · rw [decide_eq_false h]; rfl
        · rw [decide_eq_false h, Bool.and_false]
      walk_at "zq"
      refine ⟨_, _, by walk_at "zd", rfl, ⟨_, _, _, _, rfl, .inr ⟨P.ha, P.hb⟩, rfl⟩, ?_⟩
      walk_at "zq"
      rw [decide_eq_true (show (0 : Int) * P.b - 0 * P.a = 0 by omega)]
      walk_at "zq"
      walk_at "zt"
      refine zo_eqDD (shp_pr _ _) (shp_pr _ _) ?_
      walk_at "zq"
      walk_at "zt"
      refine zo_eqDD (shp_pr _ _) (shp_pr _ _) ?_
      rw [eqv_pr P.a, e]
      walk_at "zq"
      refine ⟨_, _, _, by walk_at "zd", rfl, hRL _ (.inr ⟨hc, hd, rfl⟩), fun p => ?_⟩
      exact ⟨p, rfl, m0⟩
def R_places (ds : List PyData) (o : DOut) : Prop := ∃ x y : Int, ds = [pr x y] ∧ o = .ok (.list (gridL (fun i j => pr (x + (-2 + (i : Nat))) (y + (-2 + (j : Nat)))) 5 5 0))
theorem ok_places_near {P : Program} {w : World} {K : Fg} {mg : Str → Option Value} {base : Heap} {f : Addr} {fd : FuncData} (F : Fun K "places_near" "places_near" s_places_near f fd)
    (m_range : mg "range" = none) :
    FnOk P w K mg base (L2.CX P w) 1 f fd ["place"] (spD K 1 R_places) := by
  refine F.okX sc_places_near (fun vs H Q E h => len_D h) (fun cdv A outer s H vs Q E hr h => ⟨_, (pss_cons (ps_asg (pv 0) (pg_tup rfl (pgs_cons (pg_name (i := 1) sc_places_near.nd rfl (by first | exact Or.inl rfl | exact Or.inr rfl)) (pgs_cons (pg_name (i := 2) sc_places_near.nd rfl (by first | exact Or.inl rfl | exact Or.inr rfl)) pgs_nil))))
      (pss_one (ps_ret (pe_lc2 (own := [("right", 3), ("down", 4)]) (vs1 := [4]) rfl sc_places_near.nd (pi_range2 (by rfl) m_range (pa_cons (pe_un un_neg pe_int) (pa_cons pe_int pa_nil))) (blkOk_by (N := N_places_near) (sc := defScope s_places_near) (by decide +kernel)) (by decide) (fun _ _ _ _ _ => (pg_name (i := 3) sc_places_near.nd rfl (by first | exact Or.inl rfl | exact Or.inr rfl))) (fun _ _ _ _ _ => pts_nil) (fun _ _ _ _ _ => (pi_range2 (by rfl) m_range (pa_cons (pe_un un_neg pe_int) (pa_cons pe_int pa_nil)))) (fun _ _ _ _ _ => (pg_name (i := 4) sc_places_near.nd rfl (by first | exact Or.inl rfl | exact Or.inr rfl))) (fun _ _ _ _ _ => pts_nil) (fun _ _ _ _ _ => (pe_tup (pa_cons (pe_op (show OpR _ (binaryOp .Add) (rAddA K) from op_addA) (pv 1) (pv 3)) (pa_cons (pe_op (show OpR _ (binaryOp .Add) (rAddA K) from op_addA) (pv 2) (pv 4)) pa_nil)))))))),
    fn_D h fun ds o hk hR => ?_⟩)
  try dsimp only [L2.cxOf]
  obtain ⟨x, y, rfl, rfl⟩ := hR
  walk_at "zq"
  refine zw_lc2R (a := -2) (b := 3) (a1 := -2) (b1 := 3) (r := 3) (d := 4) (fun i j => pr (x + (-2 + (i : Nat))) (y + (-2 + (j : Nat)))) (by decide) (by decide) rfl rfl (by rw [sizeLine_eq]; decide) (by decide) (by decide) ?_ (fun S2 M2 => ?_) (fun i j M2 hi hj => ?_) ?_
  · walk_at "zq"
    exact ⟨rfl, rfl⟩
  · walk_at "zq"
    exact ⟨rfl, rfl⟩
  · walk_at "zq"
    walk_at "zt"
    exact ⟨rfl, rfl⟩
  · exact ⟨_, rfl, rfl⟩
def Ax (p w k : Int) : Prop := -2 ≤ p + k * w ∧ p + k * w ≤ 2
def optD : Option Int → PyData
  | none => .none
  | some i => .int i
/-- the least k from 0 on at which both are near -/
def First (x y u v : Int) (o : DOut) : Prop := (∃ k : Int, 0 ≤ k ∧ (Ax x u k ∧ Ax y v k) ∧ (∀ j : Int, 0 ≤ j → j < k → ¬ (Ax x u j ∧ Ax y v j)) ∧ o = .ok (.int k)) ∨ ((∀ j : Int, 0 ≤ j → ¬ (Ax x u j ∧ Ax y v j)) ∧ o = .ok .none)
def axs (x y u v : Int) : Nat → Int → Prop
  | 0, k => Ax x u k
  | _, k => Ax y v k
theorem ax_pos {p w k : Int} (h : 0 < w) : Ax p w k ↔ -((2 + p) / w) ≤ k ∧ k ≤ (2 - p) / w := by
  unfold Ax
  have h1 := Int.le_ediv_iff_mul_le (a := -k) (b := 2 + p) h
  have h2 := Int.le_ediv_iff_mul_le (a := k) (b := 2 - p) h
  have e : -k * w = -(k * w) := by grind
  rw [e] at h1
  constructor
  · rintro ⟨a, b⟩
    have := h1.mpr (by omega)
    have := h2.mpr (by omega)
    omega
  · rintro ⟨a, b⟩
    have := h1.mp (by omega)
    have := h2.mp (by omega)
    omega
theorem ax_neg {p w k : Int} : Ax p w k ↔ Ax (-p) (-w) k := by
  unfold Ax
  have e : k * -w = -(k * w) := by grind
  rw [e]
  omega
theorem ax_zero {p k : Int} : Ax p 0 k ↔ -2 ≤ p ∧ p ≤ 2 := by
  unfold Ax
  rw [Int.mul_zero]
  omega
/-- least and most tell the generations at which the axes so far are near -/
def Tell (x y u v L : Int) (m : Option Int) (i : Nat) : Prop := 0 ≤ L ∧ ∀ k : Int, 0 ≤ k → ((L ≤ k ∧ ∀ m', m = some m' → k ≤ m') ↔ ∀ j, j < i → axs x y u v j k)
theorem Tell.step {x y u v L : Int} {m : Option Int} {i : Nat} {L' : Int} {m' : Option Int} (h : Tell x y u v L m i) (h0 : 0 ≤ L')
    (hs : ∀ k : Int, 0 ≤ k → ((L' ≤ k ∧ ∀ z, m' = some z → k ≤ z) ↔ ((L ≤ k ∧ ∀ z, m = some z → k ≤ z) ∧ axs x y u v i k))) : Tell x y u v L' m' (i + 1) := by
  refine ⟨h0, fun k hk => ?_⟩
  rw [hs k hk, h.2 k hk]
  constructor
  · rintro ⟨a, b⟩ j hj
    by_cases e : j = i
    · subst e; exact b
    · exact a j (by omega)
  · intro a
    exact ⟨fun j hj => a j (by omega), a i (by omega)⟩
theorem Tell.all {x y u v L : Int} {m : Option Int} (h : Tell x y u v L m 2) {k : Int} (hk : 0 ≤ k) : (L ≤ k ∧ ∀ z, m = some z → k ≤ z) ↔ (Ax x u k ∧ Ax y v k) := by
  rw [h.2 k hk]
  constructor
  · intro a
    exact ⟨a 0 (by omega), a 1 (by omega)⟩
  · rintro ⟨a, b⟩ j hj
    have : j = 0 ∨ j = 1 := by omega
    rcases this with rfl | rfl
    · exact a
    · exact b
theorem first_none {x y u v : Int} {o : DOut} (h : First x y u v o) (hn : ∀ j : Int, 0 ≤ j → ¬ (Ax x u j ∧ Ax y v j)) : o = .ok .none := by
  rcases h with ⟨k, hk, h1, _⟩ | ⟨_, h⟩
  · exact absurd h1 (hn k hk)
  · exact h
theorem first_some {x y u v L : Int} {o : DOut} (h : First x y u v o) (h0 : 0 ≤ L) (h1 : Ax x u L ∧ Ax y v L) (h2 : ∀ j : Int, 0 ≤ j → Ax x u j ∧ Ax y v j → L ≤ j) : o = .ok (.int L) := by
  rcases h with ⟨k, hk, a, b, h⟩ | ⟨a, _⟩
  · have : L ≤ k := h2 k hk a
    have : ¬ L < k := fun z => b L h0 z h1
    rw [h, show k = L by omega]
  · exact absurd h1 (a L h0)
def R_touch (ds : List PyData) (o : DOut) : Prop := ∃ x y u v : Int, ds = [.tuple [.int x, .int y, .int x, .int y], pr u v] ∧ Sm u ∧ Sm v ∧ First x y u v o
theorem ok_first_touch {P : Program} {w : World} {K : Fg} {mg : Str → Option Value} {base : Heap} {f : Addr} {fd : FuncData} (F : Fun K "first_touch" "first_touch" s_first_touch f fd)
    (g_NEAR : ∃ u, mg "NEAR" = some u ∧ RelV (.int 2) u)
    (m_max : mg "max" = none)
    (m_min : mg "min" = none) :
    FnOk P w K mg base (L2.CX P w) 1 f fd ["box", "move"] (spD K 2 R_touch) := by
  refine F.okX sc_first_touch (fun vs H Q E h => len_D h) (fun cdv A outer s H vs Q E hr h => ⟨_, (pss_cons (ps_asg (pe_tup (pa_cons pe_int (pa_cons pe_non pa_nil))) (pg_tup rfl (pgs_cons (pg_name (i := 2) sc_first_touch.nd rfl (by first | exact Or.inl rfl | exact Or.inr rfl)) (pgs_cons (pg_name (i := 3) sc_first_touch.nd rfl (by first | exact Or.inl rfl | exact Or.inr rfl)) pgs_nil))))
      (pss_cons (ps_for (passes_of rfl) rfl (pi_tup (pe_tup (pa_cons (pe_tup (pa_cons (pe_ix ix_seq (pv 0) pe_int (fun _ _ => rfl)) (pa_cons (pe_ix ix_seq (pv 0) pe_int (fun _ _ => rfl)) (pa_cons (pe_ix ix_seq (pv 1) pe_int (fun _ _ => rfl)) pa_nil)))) (pa_cons (pe_tup (pa_cons (pe_ix ix_seq (pv 0) pe_int (fun _ _ => rfl)) (pa_cons (pe_ix ix_seq (pv 0) pe_int (fun _ _ => rfl)) (pa_cons (pe_ix ix_seq (pv 1) pe_int (fun _ _ => rfl)) pa_nil)))) pa_nil)))) (pg_tup rfl (pgs_cons (pg_name (i := 4) sc_first_touch.nd rfl (by first | exact Or.inl rfl | exact Or.inr rfl)) (pgs_cons (pg_name (i := 5) sc_first_touch.nd rfl (by first | exact Or.inl rfl | exact Or.inr rfl)) (pgs_cons (pg_name (i := 6) sc_first_touch.nd rfl (by first | exact Or.inl rfl | exact Or.inr rfl)) pgs_nil)))) (pss_cons (ps_if (pt_cmpR op_lt (pv 6) pe_int (nomark _)) (pss_one (ps_par3 (i := 4) (j := 5) (l := 6) rfl sc_first_touch.nd rfl rfl rfl (by decide) (by decide) (by decide) rfl rfl rfl (pa_cons (pe_un un_neg (pv 5)) (pa_cons (pe_un un_neg (pv 4)) (pa_cons (pe_un un_neg (pv 6)) pa_nil))) (by rfl))) pss_nil)
      (pss_one (ps_if (pt_cmpR (op_eqA hr.units) (pv 6) pe_int (nomark _)) (pss_one (ps_if (PW.pt (pw_or (pt_cmpR op_gt (pv 4) (pe_glob (by rfl) g_NEAR.choose_spec.1 g_NEAR.choose_spec.2) (nomark _)) (pw_or1 (pt_cmpR op_lt (pv 5) (pe_un un_neg (pe_glob (by rfl) g_NEAR.choose_spec.1 g_NEAR.choose_spec.2)) (nomark _))))) (pss_one (ps_ret pe_non)) pss_nil)) (pss_cons (ps_set (i := 2) sc_first_touch.nd rfl (by first | exact Or.inl rfl | exact Or.inr rfl) (pe_callB (call_max2 rfl) (by rfl) m_max bb_max (pa_cons (pv 2) (pa_cons (pe_un un_neg (pe_op op_fdivW (pe_op op_addA (pe_glob (by rfl) g_NEAR.choose_spec.1 g_NEAR.choose_spec.2) (pv 5)) (pv 6))) pa_nil))))
      (pss_cons (ps_set (i := 7) sc_first_touch.nd rfl (by first | exact Or.inl rfl | exact Or.inr rfl) (pe_op op_fdivW (pe_op op_sub (pe_glob (by rfl) g_NEAR.choose_spec.1 g_NEAR.choose_spec.2) (pv 4)) (pv 6)))
      (pss_one (ps_set (i := 3) sc_first_touch.nd rfl (by first | exact Or.inl rfl | exact Or.inr rfl) (pe_ifExp (pt_cmpR op_isN (pv 3) pe_non (nomark _)) (pv 7) (pe_callB (call_min2 rfl) (by rfl) m_min bb_min (pa_cons (pv 3) (pa_cons (pv 7) pa_nil))))))))))))
      (pss_cons (ps_if (PW.pt (pw_and (pt_cmpR op_notN (pv 3) pe_non (nomark _)) (pw_and1 (pt_cmpR op_lt (pv 3) (pv 2) (nomark _))))) (pss_one (ps_ret pe_non)) pss_nil)
      (pss_one (ps_ret (pv 2)))))),
    fn_D h fun ds o hk hR => ?_⟩)
  try dsimp only [L2.cxOf]
  obtain ⟨x, y, u, v, rfl, hu, hv, ho⟩ := hR
  walk_at "zq"
  walk_at "zt"
  walk_at "zq"
  walk_at "zt"
  walk_at "zq"
  walk_at "zt"
  walk_at "zq"
  walk_at "zt"
  refine ⟨_, rfl, fun i S2 M2 => ∃ (L : Int) (m : Option Int) (c1 c2 c3 c4 : Option ZV), S2 = [some (.d (.tuple [.int x, .int y, .int x, .int y])), some (.d (pr u v)), some (.d (.int L)), some (.d (optD m)), c1, c2, c3, c4] ∧ M2 = [] ∧ Tell x y u v L m i, ⟨0, none, _, _, _, _, rfl, rfl, Int.le_refl _, fun k hk => ⟨fun _ j hj => absurd hj (by omega), fun _ => ⟨hk, fun _ h => nomatch h⟩⟩⟩, ?_, ?_⟩
  · rintro i d S2 M2 hx ⟨L, m, c1, c2, c3, c4, rfl, rfl, hT⟩
    have hd : ∃ p w : Int, d = .tuple [.int p, .int p, .int w] ∧ Sm w ∧ ∀ k, axs x y u v i k ↔ Ax p w k := by
      match i, hx with
      | 0, hx => exact ⟨x, u, (Option.some.inj hx).symm, hu, fun k => Iff.rfl⟩
      | 1, hx => exact ⟨y, v, (Option.some.inj hx).symm, hv, fun k => Iff.rfl⟩
      | n + 2, hx => simp at hx
    obtain ⟨p, w, rfl, hw, hax⟩ := hd
    clear hx
    walk_at "ze"
    refine zs_seq (zs_nx (N := fun S3 M3 => ∃ p' w' : Int, S3 = [some (.d (.tuple [.int x, .int y, .int x, .int y])), some (.d (pr u v)), some (.d (.int L)), some (.d (optD m)), some (.d (.int p')), some (.d (.int p')), some (.d (.int w')), c4] ∧ M3 = [] ∧ 0 ≤ w' ∧ Sm w' ∧ ∀ k, axs x y u v i k ↔ Ax p' w' k) ?_ ?_)
    · walk_at "zq"
      refine ⟨fun h => ?_, fun h => ?_⟩
      · have h := of_decide_eq_true h
        walk_at "zq"
        exact ⟨by omega, ⟨by have := hw.2; omega, by have := hw.1; omega⟩, fun k => (hax k).trans ax_neg⟩
      · have h := of_decide_eq_false h
        walk_at "zq"
        exact ⟨by omega, hw, hax⟩
    · rintro S3 M3 ⟨p', w', rfl, rfl, hw0, hw', hax'⟩
      clear hax hw
      walk_at "zq"
      by_cases hz : w' = 0
      · subst hz
        walk_at "zq"
        refine ⟨fun h => ?_, fun h => ?_⟩
        · have h := of_decide_eq_true h
          walk_at "zq"
          refine first_none ho fun j hj hh => ?_
          have h2 : axs x y u v i j := by
            match i with
            | 0 => exact hh.1
            | _ + 1 => exact hh.2
          have := ax_zero.mp ((hax' j).mp h2)
          omega
        · have h := of_decide_eq_false h
          walk_at "zq"
          refine ⟨fun h2 => ?_, fun h2 => ?_⟩
          · have h2 := of_decide_eq_true h2
            walk_at "zq"
            refine first_none ho fun j hj hh => ?_
            have h3 : axs x y u v i j := by
              match i with
              | 0 => exact hh.1
              | _ + 1 => exact hh.2
            have := ax_zero.mp ((hax' j).mp h3)
            omega
          · have h2 := of_decide_eq_false h2
            walk_at "zq"
            refine ⟨L, m, _, _, _, _, rfl, rfl, hT.step hT.1 fun k hk => ⟨fun a => ⟨a, (hax' k).mpr (ax_zero.mpr ⟨by omega, by omega⟩)⟩, fun a => a.1⟩⟩
      · rw [decide_eq_false hz]
        have hpos : 0 < w' := by omega
        walk_at "zq"
        refine zo_fdivW ⟨hpos, hw'.wd⟩ ?_
        walk_at "zq"
        refine zo_fdivW ⟨hpos, hw'.wd⟩ ?_
        walk_at "zq"
        have key := fun k => (hax' k).trans (ax_pos (p := p') (k := k) hpos)
        cases m with
        | none =>
          dsimp only [optD]
          walk_at "zq"
          refine ⟨_, some _, _, _, _, _, rfl, rfl, hT.step (by have := hT.1; split <;> omega) fun k hk => ?_⟩
          rw [key k]
          constructor
          · rintro ⟨a, b⟩
            have := b _ rfl
            split at a <;> exact ⟨⟨by omega, fun _ h => nomatch h⟩, by omega, by omega⟩
          · rintro ⟨⟨a, _⟩, b, c⟩
            refine ⟨by split <;> omega, fun z hz => ?_⟩
            cases hz
            omega
        | some m =>
          dsimp only [optD]
          walk_at "zq"
          refine ⟨_, some _, _, _, _, _, rfl, rfl, hT.step (by have := hT.1; split <;> omega) fun k hk => ?_⟩
          rw [key k]
          constructor
          · rintro ⟨a, b⟩
            have b := b _ rfl
            refine ⟨⟨by split at a <;> omega, fun z hz => ?_⟩, by split at a <;> omega, by split at b <;> omega⟩
            cases hz
            split at b <;> omega
          · rintro ⟨⟨a, e⟩, b, c⟩
            have e := e _ rfl
            refine ⟨by split <;> omega, fun z hz => ?_⟩
            cases hz
            split <;> omega
  · rintro S2 M2 ⟨L, m, c1, c2, c3, c4, rfl, rfl, hT⟩
    have hall := fun {k : Int} (hk : 0 ≤ k) => hT.all hk
    walk_at "zq"
    cases m with
    | none =>
      dsimp only [optD]
      walk_at "zq"
      exact first_some ho hT.1 ((hall hT.1).mp ⟨Int.le_refl _, fun _ h => nomatch h⟩) fun j hj h => ((hall hj).mpr h).1
    | some m =>
      dsimp only [optD]
      walk_at "zq"
      refine ⟨fun h => ?_, fun h => ?_⟩
      · have h := of_decide_eq_true h
        walk_at "zq"
        refine first_none ho fun j hj hh => ?_
        have := (hall hj).mpr hh
        have := this.2 _ rfl
        omega
      · have h := of_decide_eq_false h
        walk_at "zq"
        refine first_some ho hT.1 ((hall hT.1).mp ⟨Int.le_refl _, fun z hz => ?_⟩) fun j hj h => ((hall hj).mpr h).1
        cases hz
        omega
def R_firstnear (ds : List PyData) (o : DOut) : Prop := ∃ x y u v : Int, ds = [pr x y, pr u v] ∧ InFar x ∧ InFar y ∧ InFar u ∧ InFar v ∧ Sm u ∧ Sm v ∧ First x y u v o
theorem ok_first_near_of {P : Program} {w : World} {K : Fg} {mg : Str → Option Value} {base : Heap} {f : Addr} {fd : FuncData} (F : Fun K "first_near_of" "first_near_of" s_first_near_of f fd)
    (c_check_move : Cal P w K mg base 3 "check_move" (spD K 1 R_chkmove))
    (c_first_touch : Cal P w K mg base 1 "first_touch" (spD K 2 R_touch)) :
    FnOk P w K mg base (L2.CX P w) 4 f fd ["start", "move"] (spD K 2 R_firstnear) := by
  refine F.okX sc_first_near_of (fun vs H Q E h => len_D h) (fun cdv A outer s H vs Q E hr h => ⟨_, (pss_cons (ps_expr (pe_cl c_check_move hr (show 3 ≤ 3 by decide) passL (pa_cons (pv 0) pa_nil)))
      (pss_cons (ps_expr (pe_cl c_check_move hr (show 3 ≤ 3 by decide) passL (pa_cons (pv 1) pa_nil)))
      (pss_one (ps_ret (pe_cl c_first_touch hr (show 1 ≤ 3 by decide) passL (pa_cons (pe_op op_addA (pv 0) (pv 0)) (pa_cons (pv 1) pa_nil))))))),
    fn_D h fun ds o hk hR => ?_⟩)
  try dsimp only [L2.cxOf]
  obtain ⟨x, y, u, v, rfl, fx, fy, fu, fv, hu, hv, ho⟩ := hR
  walk_at "zq"
  refine ⟨_, _, by walk_at "zd", rfl, ⟨x, y, rfl, fx, fy, rfl⟩, ?_⟩
  walk_at "zq"
  refine ⟨_, _, by walk_at "zd", rfl, ⟨u, v, rfl, fu, fv, rfl⟩, ?_⟩
  walk_at "zq"
  refine za_t (by rw [sizeLine_eq]; show 2 + 2 ≤ 16777216; decide) ?_
  walk_at "zq"
  have hod : ∃ d, o = .ok d := by
    rcases ho with ⟨k, _, _, _, h⟩ | ⟨_, h⟩
    · exact ⟨_, h⟩
    · exact ⟨_, h⟩
  obtain ⟨d, rfl⟩ := hod
  refine ⟨_, d, by walk_at "zd", rfl, ⟨x, y, u, v, rfl, hu, hv, ho⟩, ?_⟩
  exact ⟨_, rfl, rfl⟩
/-! ### small moves: what 110 tries tell -/
theorem mul_abs {x y : Int} {A B : Int} (hx : -A ≤ x ∧ x ≤ A) (hy : -B ≤ y ∧ y ≤ B) : -(A * B) ≤ x * y ∧ x * y ≤ A * B := by
  have hA : 0 ≤ A := by omega
  have hB : 0 ≤ B := by omega
  have h1 : x * y ≤ A * B ∧ -(A * B) ≤ x * y := by
    rcases Int.le_total 0 x with a | a <;> rcases Int.le_total 0 y with b | b
    · exact ⟨Int.mul_le_mul hx.2 hy.2 b hA, by have := Int.mul_nonneg a b; have := Int.mul_nonneg hA hB; omega⟩
    · have h := Int.mul_le_mul (a := x) (b := -y) (c := A) (d := B) hx.2 (by omega) (by omega) hA
      have e : x * -y = -(x * y) := by grind
      have h2 := Int.mul_nonneg a (show 0 ≤ -y by omega)
      have h3 := Int.mul_nonneg hA hB
      omega
    · have h := Int.mul_le_mul (a := -x) (b := y) (c := A) (d := B) (by omega) hy.2 b hA
      have e : -x * y = -(x * y) := by grind
      have h2 := Int.mul_nonneg (show 0 ≤ -x by omega) b
      have h3 := Int.mul_nonneg hA hB
      omega
    · have h := Int.mul_le_mul (a := -x) (b := -y) (c := A) (d := B) (by omega) (by omega) (by omega) hA
      have e : -x * -y = x * y := by grind
      have h2 := Int.mul_nonneg (show 0 ≤ -x by omega) (show 0 ≤ -y by omega)
      have h3 := Int.mul_nonneg hA hB
      omega
  exact ⟨h1.2, h1.1⟩
/-- a factor that is not 0 makes nothing smaller -/
theorem mul_ge {k p B : Int} (hk : 0 ≤ k) (hp : p ≠ 0) (h : -B ≤ k * p ∧ k * p ≤ B) : k ≤ B := by
  rcases Int.lt_or_le p 0 with a | a
  · have h1 := Int.mul_le_mul_of_nonneg_left (show 1 ≤ -p by omega) hk
    have e : k * -p = -(k * p) := by grind
    omega
  · have h1 := Int.mul_le_mul_of_nonneg_left (show 1 ≤ p by omega) hk
    omega
theorem first_small {x y u v k : Int} (hk : 0 ≤ k) (hx : -14 ≤ x ∧ x ≤ 14) (hy : -9 ≤ y ∧ y ≤ 9) (h : Ax x u k ∧ Ax y v k) : ∃ j : Int, 0 ≤ j ∧ j < 110 ∧ Ax x u j ∧ Ax y v j := by
  obtain ⟨⟨a, b⟩, c, d⟩ := h
  by_cases hu : u = 0
  · by_cases hv : v = 0
    · subst hu hv
      rw [Int.mul_zero] at a b c d
      exact ⟨0, by omega, by omega, ⟨by omega, by omega⟩, by omega, by omega⟩
    · have := mul_ge hk hv (B := 11) ⟨by omega, by omega⟩
      exact ⟨k, hk, by omega, ⟨a, b⟩, c, d⟩
  · have := mul_ge hk hu (B := 16) ⟨by omega, by omega⟩
    exact ⟨k, hk, by omega, ⟨a, b⟩, c, d⟩
theorem red {k l P Q : Int} (hk : 0 ≤ k) (hl : 0 ≤ l) (hP : 0 < P) (hQ : 0 < Q) : ∃ t : Int, 0 ≤ k - t * Q ∧ 0 ≤ l - t * P ∧ (k - t * Q < Q ∨ l - t * P < P) := by
  have k0 := Int.emod_nonneg k (show Q ≠ 0 by omega)
  have k1 := Int.emod_lt_of_pos k hQ
  have l0 := Int.emod_nonneg l (show P ≠ 0 by omega)
  have l1 := Int.emod_lt_of_pos l hP
  have ek := Int.emod_def k Q
  have el := Int.emod_def l P
  rcases Int.le_total (k / Q) (l / P) with h | h
  · refine ⟨k / Q, by rw [Int.mul_comm]; omega, ?_, .inl (by rw [Int.mul_comm]; omega)⟩
    have := Int.mul_le_mul_of_nonneg_right h (show 0 ≤ P by omega)
    have e : l / P * P = P * (l / P) := Int.mul_comm _ _
    omega
  · refine ⟨l / P, ?_, by rw [Int.mul_comm]; omega, .inr (by rw [Int.mul_comm]; omega)⟩
    have := Int.mul_le_mul_of_nonneg_right h (show 0 ≤ Q by omega)
    have e : k / Q * Q = Q * (k / Q) := Int.mul_comm _ _
    omega
def ab (x : Int) : Int := if x < 0 then -x else x
theorem line_small {k l p q : Int} (hk : 0 ≤ k) (hl : 0 ≤ l) (hp : p ≠ 0) (hq : q ≠ 0) (p4 : -4 ≤ p ∧ p ≤ 4) (q12 : -12 ≤ q ∧ q ≤ 12) (h : -16 ≤ k * p + l * q ∧ k * p + l * q ≤ 16) :
    ∃ t : Int, (t = 0 ∨ p * ab q + q * ab p = 0) ∧ (0 ≤ k - t * ab q ∧ k - t * ab q < 110) ∧ 0 ≤ l - t * ab p ∧ l - t * ab p < 110 := by
  have opp : p * ab q + q * ab p = 0 → ∃ t : Int, (t = 0 ∨ p * ab q + q * ab p = 0) ∧ (0 ≤ k - t * ab q ∧ k - t * ab q < 110) ∧ 0 ≤ l - t * ab p ∧ l - t * ab p < 110 := fun ho => by
    have hP : 0 < ab p ∧ ab p ≤ 4 := by unfold ab; split <;> omega
    have hQ : 0 < ab q ∧ ab q ≤ 12 := by unfold ab; split <;> omega
    obtain ⟨t, h1, h2, h3⟩ := red hk hl hP.1 hQ.1
    refine ⟨t, .inr ho, ?_⟩
    have same : (k - t * ab q) * p + (l - t * ab p) * q = k * p + l * q := by
      have : (k - t * ab q) * p + (l - t * ab p) * q = k * p + l * q - t * (p * ab q + q * ab p) := by grind
      rw [this, ho]
      simp
    generalize k - t * ab q = k' at *
    generalize l - t * ab p = l' at *
    rw [← same] at h
    rcases h3 with h3 | h3
    · have b1 := mul_abs (x := k') (y := p) (A := 11) (B := 4) ⟨by omega, by omega⟩ p4
      have b2 := mul_ge h2 hq (B := 60) ⟨by omega, by omega⟩
      exact ⟨⟨h1, by omega⟩, h2, by omega⟩
    · have b1 := mul_abs (x := l') (y := q) (A := 3) (B := 12) ⟨by omega, by omega⟩ q12
      have b2 := mul_ge h1 hp (B := 52) ⟨by omega, by omega⟩
      exact ⟨⟨h1, by omega⟩, h2, by omega⟩
  have plain : (0 ≤ k ∧ k < 110) → (0 ≤ l ∧ l < 110) → ∃ t : Int, (t = 0 ∨ p * ab q + q * ab p = 0) ∧ (0 ≤ k - t * ab q ∧ k - t * ab q < 110) ∧ 0 ≤ l - t * ab p ∧ l - t * ab p < 110 := fun a b => ⟨0, .inl rfl, by simpa using a, by simpa using b⟩
  rcases Int.lt_or_le p 0 with a | a <;> rcases Int.lt_or_le q 0 with b | b
  · have h1 := Int.mul_nonneg hk (show 0 ≤ -p by omega)
    have h2 := Int.mul_nonneg hl (show 0 ≤ -q by omega)
    have e1 : k * -p = -(k * p) := by grind
    have e2 : l * -q = -(l * q) := by grind
    have b1 := mul_ge hk hp (B := 16) ⟨by omega, by omega⟩
    have b2 := mul_ge hl hq (B := 16) ⟨by omega, by omega⟩
    exact plain ⟨hk, by omega⟩ ⟨hl, by omega⟩
  · refine opp ?_
    rw [show ab p = -p from if_pos a, show ab q = q from if_neg (by omega)]
    grind
  · refine opp ?_
    rw [show ab p = p from if_neg (by omega), show ab q = -q from if_pos b]
    grind
  · have h1 := Int.mul_nonneg hk a
    have h2 := Int.mul_nonneg hl b
    have b1 := mul_ge hk hp (B := 16) ⟨by omega, by omega⟩
    have b2 := mul_ge hl hq (B := 16) ⟨by omega, by omega⟩
    exact plain ⟨hk, by omega⟩ ⟨hl, by omega⟩
/-- the moves that the law draws first -/
structure Few (a b c d : Int) : Prop where
  ha : -4 ≤ a ∧ a ≤ 4
  hb : -3 ≤ b ∧ b ≤ 3
  hc : -12 ≤ c ∧ c ≤ 12
  hd : -9 ≤ d ∧ d ≤ 9
  hx : a * d - b * c = 0 ∨ ((-4 ≤ c ∧ c ≤ 4) ∧ -3 ≤ d ∧ d ≤ 3)
def At (x y a b c d k l : Int) : Prop := Near (x + k * a + l * c) (y + k * b + l * d)
theorem comes_at {x y a b c d : Int} : Comes x y a b c d ↔ ∃ k l : Int, 0 ≤ k ∧ 0 ≤ l ∧ At x y a b c d k l := by
  constructor
  · rintro ⟨X, Y, hN, k, l, hk, hl, rfl, rfl⟩
    exact ⟨k, l, hk, hl, hN⟩
  · rintro ⟨k, l, hk, hl, hN⟩
    exact ⟨_, _, hN, k, l, hk, hl, rfl, rfl⟩
theorem at_same {x y a b c d k l k' l' : Int} (h : At x y a b c d k l) (h1 : k' * a + l' * c = k * a + l * c) (h2 : k' * b + l' * d = k * b + l * d) : At x y a b c d k' l' := by
  unfold At at h ⊢
  rw [show x + k' * a + l' * c = x + k * a + l * c by omega, show y + k' * b + l' * d = y + k * b + l * d by omega]
  exact h
theorem few_tries {x y a b c d : Int} (hx : -14 ≤ x ∧ x ≤ 14) (hy : -9 ≤ y ∧ y ≤ 9) (F : Few a b c d) (h : Comes x y a b c d) : ∃ k l : Int, (0 ≤ k ∧ k < 110) ∧ (0 ≤ l ∧ l < 110) ∧ At x y a b c d k l := by
  obtain ⟨k, l, hk, hl, hN⟩ := comes_at.mp h
  have hN' := hN
  obtain ⟨⟨n1, n2⟩, n3, n4⟩ := hN'
  have D0 : -16 ≤ k * a + l * c ∧ k * a + l * c ≤ 16 := by omega
  have D1 : -11 ≤ k * b + l * d ∧ k * b + l * d ≤ 11 := by omega
  by_cases har : a * d - b * c = 0
  · by_cases h1 : a = 0 ∧ b = 0
    · obtain ⟨rfl, rfl⟩ := h1
      by_cases h2 : c = 0 ∧ d = 0
      · obtain ⟨rfl, rfl⟩ := h2
        exact ⟨0, 0, by omega, by omega, at_same hN (by simp) (by simp)⟩
      · rw [Int.mul_zero, Int.zero_add] at D0 D1
        have hl2 : l ≤ 16 := by
          by_cases h3 : c = 0
          · exact Int.le_trans (mul_ge hl (show d ≠ 0 by omega) D1) (by decide)
          · exact mul_ge hl h3 D0
        exact ⟨0, l, by omega, by omega, at_same hN (by simp) (by simp)⟩
    · by_cases h2 : c = 0 ∧ d = 0
      · obtain ⟨rfl, rfl⟩ := h2
        rw [Int.mul_zero, Int.add_zero] at D0 D1
        have hk2 : k ≤ 16 := by
          by_cases h3 : a = 0
          · exact Int.le_trans (mul_ge hk (show b ≠ 0 by omega) D1) (by decide)
          · exact mul_ge hk h3 D0
        exact ⟨k, 0, by omega, by omega, at_same hN (by simp) (by simp)⟩
      · by_cases ha : a = 0
        · subst ha
          have hb : b ≠ 0 := by omega
          have hc : c = 0 := by
            have : b * c = 0 := by omega
            rcases Int.mul_eq_zero.mp this with z | z
            · exact absurd z hb
            · exact z
          subst hc
          obtain ⟨t, ht, hk', hl'⟩ := line_small hk hl hb (show d ≠ 0 by omega) ⟨by have := F.hb; omega, by have := F.hb; omega⟩ ⟨by have := F.hd; omega, by have := F.hd; omega⟩ ⟨by omega, by omega⟩
          refine ⟨_, _, hk', hl', at_same hN (by simp) ?_⟩
          have e : (k - t * ab d) * b + (l - t * ab b) * d = k * b + l * d - t * (b * ab d + d * ab b) := by grind
          rw [e]
          rcases ht with rfl | z
          · simp
          · rw [z]; simp
        · have hc : c ≠ 0 := fun z => by
            subst z
            have : a * d = 0 := by omega
            rcases Int.mul_eq_zero.mp this with z | z
            · exact ha z
            · exact h2 ⟨rfl, z⟩
          obtain ⟨t, ht, hk', hl'⟩ := line_small hk hl ha hc F.ha F.hc D0
          refine ⟨_, _, hk', hl', at_same hN ?_ ?_⟩
          · have e : (k - t * ab c) * a + (l - t * ab a) * c = k * a + l * c - t * (a * ab c + c * ab a) := by grind
            rw [e]
            rcases ht with rfl | z
            · simp
            · rw [z]; simp
          · have e : (k - t * ab c) * b + (l - t * ab a) * d = k * b + l * d - t * (b * ab c + d * ab a) := by grind
            rw [e]
            rcases ht with rfl | z
            · simp
            · have z2 : b * ab c + d * ab a = 0 := by
                have : a * (b * ab c + d * ab a) = a * 0 := by
                  have e3 : a * (b * ab c + d * ab a) = b * (a * ab c + c * ab a) + (a * d - b * c) * ab a := by grind
                  rw [e3, z, har]
                  simp
                exact Int.eq_of_mul_eq_mul_left ha this
              rw [z2]
              simp
  · have hs := F.hx.resolve_left har
    have e1 : k * (a * d - b * c) = (k * a + l * c) * d - (k * b + l * d) * c := by grind
    have e2 : l * (a * d - b * c) = a * (k * b + l * d) - b * (k * a + l * c) := by grind
    have b1 := mul_abs D0 hs.2
    have b2 := mul_abs D1 hs.1
    have b3 := mul_abs F.ha D1
    have b4 := mul_abs F.hb D0
    have c1 := mul_ge hk har (B := 92) ⟨by omega, by omega⟩
    have c2 := mul_ge hl har (B := 92) ⟨by omega, by omega⟩
    exact ⟨k, l, ⟨hk, by omega⟩, ⟨hl, by omega⟩, hN⟩
/-! ### great moves -/
theorem back_iff {g n : Int} (hn : 3 ≤ n) (hg : 0 ≤ g) : ((if 3 * n - g % (3 * n) < g % (3 * n) then 3 * n - g % (3 * n) else g % (3 * n)) < 3) ↔ Comes g 0 (0 - 6 * n) 0 (15 * n) 0 := by
  have r0 := Int.emod_nonneg g (show 3 * n ≠ 0 by omega)
  have r1 := Int.emod_lt_of_pos g (show 0 < 3 * n by omega)
  have ed := Int.emod_def g (3 * n)
  have q0 : 0 ≤ g / (3 * n) := Int.ediv_nonneg hg (by omega)
  generalize hr : g % (3 * n) = r at *
  generalize hq : g / (3 * n) = z at *
  rw [comes_at]
  -- 2 k - 5 l is any number from 0 on
  have reach : ∀ w : Int, 0 ≤ w → ∃ k l : Int, 0 ≤ k ∧ 0 ≤ l ∧ 2 * k - 5 * l = w := fun w hw => by
    have : w % 2 = 0 ∨ w % 2 = 1 := by omega
    rcases this with e | e
    · exact ⟨w / 2, 0, by omega, by omega, by omega⟩
    · exact ⟨(w + 5) / 2, 1, by omega, by omega, by omega⟩
  have place : ∀ k l w : Int, 2 * k - 5 * l = w → g + k * (0 - 6 * n) + l * (15 * n) = g - 3 * n * w := fun k l w e => by rw [← e]; grind
  have zero : ∀ k l : Int, (0 : Int) + k * 0 + l * 0 = 0 := fun k l => by simp
  constructor
  · intro h
    split at h
    · obtain ⟨k, l, hk, hl, e⟩ := reach (z + 1) (by omega)
      refine ⟨k, l, hk, hl, ?_⟩
      unfold At
      rw [place k l _ e, zero]
      have e2 : 3 * n * (z + 1) = 3 * n * z + 3 * n := by grind
      exact ⟨⟨by omega, by omega⟩, by omega, by omega⟩
    · obtain ⟨k, l, hk, hl, e⟩ := reach z q0
      refine ⟨k, l, hk, hl, ?_⟩
      unfold At
      rw [place k l _ e, zero]
      exact ⟨⟨by omega, by omega⟩, by omega, by omega⟩
  · rintro ⟨k, l, hk, hl, ⟨h1, h2⟩, _⟩
    rw [place k l _ rfl] at h1 h2
    generalize 2 * k - 5 * l = w at h1 h2
    -- g - 3 n w is r + 3 n (z - w)
    have e2 : g - 3 * n * w = r + 3 * n * (z - w) := by
      have : g = r + 3 * n * z := by omega
      rw [this]
      grind
    rw [e2] at h1 h2
    rcases Int.lt_or_le (z - w) 0 with a | a
    · rcases Int.lt_or_le (z - w) (-1) with b | b
      · have := Int.mul_le_mul_of_nonneg_left (show z - w ≤ -2 by omega) (show 0 ≤ 3 * n by omega)
        omega
      · have e3 : z - w = -1 := by omega
        rw [e3] at h1 h2
        split <;> omega
    · rcases Int.lt_or_le (z - w) 1 with b | b
      · have e3 : z - w = 0 := by omega
        rw [e3] at h1 h2
        split <;> omega
      · have := Int.mul_le_mul_of_nonneg_left b (show 0 ≤ 3 * n by omega)
        omega
def P25 : List (Int × Int) := (List.range 5).flatMap fun (i : Nat) => (List.range 5).map fun (j : Nat) => (-2 + (i : Int), -2 + (j : Int))
theorem grid25 : gridL (fun i j => pr (0 + (-2 + (i : Nat))) (0 + (-2 + (j : Nat)))) 5 5 0 = P25.map fun q => pr q.1 q.2 := by
  unfold gridL P25
  simp [List.map_flatMap]
  rfl
theorem mem25 {X Y : Int} : (X, Y) ∈ P25 ↔ Near X Y := by
  unfold P25 Near
  simp only [List.mem_flatMap, List.mem_range, List.mem_map, Prod.mk.injEq]
  constructor
  · rintro ⟨i, hi, j, hj, rfl, rfl⟩
    omega
  · rintro ⟨⟨h1, h2⟩, h3, h4⟩
    exact ⟨(X + 2).toNat, by omega, (Y + 2).toNat, by omega, by omega, by omega⟩
theorem ar_wd (m : Mv) : Wd m.ar := by
  have big : ∀ {x y : Int}, Sm x → Sm y → (x * y).natAbs < 2 ^ 128 := fun {x y} hx hy => by
    rw [Int.natAbs_mul]
    have h1 : x.natAbs < 2 ^ 64 := by have := hx.1; have := hx.2; omega
    have h2 : y.natAbs < 2 ^ 64 := by have := hy.1; have := hy.2; omega
    rw [show (2 : Nat) ^ 128 = 2 ^ 64 * 2 ^ 64 by decide]
    exact Nat.mul_lt_mul'' h1 h2
  have h1 := big m.ha m.hd
  have h2 := big m.hb m.hc
  refine wd_of ?_
  unfold Mv.ar
  omega
theorem hitP {m : Mv} {x y X Y : Int} (h0 : m.ar ≠ 0) : ((decide (m.kx X Y = m.kx x y) && decide (m.ky X Y = m.ky x y)) = true ∧ (decide (m.ones x y ≤ m.ones X Y) && decide (m.twos x y ≤ m.twos X Y)) = true) ↔ Way x y m.a m.b m.c m.d X Y := by
  rw [Bool.and_eq_true, Bool.and_eq_true, decide_eq_true_eq, decide_eq_true_eq, decide_eq_true_eq, decide_eq_true_eq]
  exact plane_iff h0
theorem hitN {x y X Y : Int} : ((decide (X = x) && decide (Y = y)) = true ∧ decide ((0 : Int) = 0) = true) ↔ Way x y 0 0 0 0 X Y := by
  rw [Bool.and_eq_true, decide_eq_true_eq, decide_eq_true_eq]
  constructor
  · rintro ⟨⟨rfl, rfl⟩, _⟩
    exact ⟨0, 0, Int.le_refl _, Int.le_refl _, by omega, by omega⟩
  · rintro ⟨k, l, _, _, h1, h2⟩
    exact ⟨⟨by omega, by omega⟩, rfl⟩
theorem hitL {P : Par} {x y X Y : Int} : ((decide (X - P.ln.at X Y * P.ln.ux = x - P.ln.at x y * P.ln.ux) && decide (Y - P.ln.at X Y * P.ln.uy = y - P.ln.at x y * P.ln.uy)) = true ∧ leadsL P.ln.p P.ln.q (P.ln.at x y) (P.ln.at X Y) = true) ↔ Way x y P.a P.b P.c P.d X Y := by
  rw [Bool.and_eq_true, decide_eq_true_eq, decide_eq_true_eq]
  obtain ⟨h0, hp, hb, ⟨e1, e2⟩, ⟨e3, e4⟩, _⟩ := ln_ok P.h0 P.hx
  have := line_iff (x := x) (y := y) (X := X) (Y := Y) h0 hp hb
  rw [← e1, ← e2, ← e3, ← e4] at this
  exact this
def R_comes (ds : List PyData) (o : DOut) : Prop := ∃ (x y a b c d : Int) (r : Bool), ds = [pr x y, pr a b, pr c d] ∧ (InFar x ∧ InFar y) ∧ (InFar a ∧ InFar b) ∧ (InFar c ∧ InFar d) ∧ (Sm a ∧ Sm b) ∧ (Sm c ∧ Sm d) ∧ (r = true ↔ Comes x y a b c d) ∧ o = .ok (.bool r)
theorem ok_comes_near {P : Program} {w : World} {K : Fg} {mg : Str → Option Value} {base : Heap} {f : Addr} {fd : FuncData} {C_LineReach C_NoReach C_PlaneReach : Addr} (F : Fun K "comes_near" "comes_near" s_comes_near f fd)
    (c_check_move : Cal P w K mg base 3 "check_move" (spD K 1 R_chkmove))
    (c_reach_of : Cal P w K mg base 5 "reach_of" (spB K 2 (R_reach C_PlaneReach C_NoReach C_LineReach)))
    (c_LineReach_locate : Mtd P w K mg base 2 C_LineReach "locate" (spO K C_LineReach 1 R_lLoc))
    (c_PlaneReach_locate : Mtd P w K mg base 2 C_PlaneReach "locate" (spO K C_PlaneReach 1 R_pLoc))
    (c_NoReach_locate : Mtd P w K mg base 1 C_NoReach "locate" (spO K C_NoReach 1 R_nLoc))
    (c_places_near : Cal P w K mg base 1 "places_near" (spD K 1 R_places))
    (c_LineReach_leads : Mtd P w K mg base 1 C_LineReach "leads" (spO K C_LineReach 2 R_lLeads))
    (c_PlaneReach_leads : Mtd P w K mg base 1 C_PlaneReach "leads" (spO K C_PlaneReach 2 R_pLeads))
    (c_NoReach_leads : Mtd P w K mg base 1 C_NoReach "leads" (spO K C_NoReach 2 R_nLeads))
    (cl_LineReach : Cls K C_LineReach)
    (cl_NoReach : Cls K C_NoReach)
    (cl_PlaneReach : Cls K C_PlaneReach) :
    FnOk P w K mg base (L2.CX P w) 6 f fd ["start", "one", "two"] (spD K 3 R_comes) := by
  obtain ⟨f_LineReach_locate, fd_LineReach_locate, ps_LineReach_locate, G_LineReach_locate, M_LineReach_locate, B_LineReach_locate⟩ := c_LineReach_locate
  obtain ⟨f_PlaneReach_locate, fd_PlaneReach_locate, ps_PlaneReach_locate, G_PlaneReach_locate, M_PlaneReach_locate, B_PlaneReach_locate⟩ := c_PlaneReach_locate
  obtain ⟨f_NoReach_locate, fd_NoReach_locate, ps_NoReach_locate, G_NoReach_locate, M_NoReach_locate, B_NoReach_locate⟩ := c_NoReach_locate
  obtain ⟨f_LineReach_leads, fd_LineReach_leads, ps_LineReach_leads, G_LineReach_leads, M_LineReach_leads, B_LineReach_leads⟩ := c_LineReach_leads
  obtain ⟨f_PlaneReach_leads, fd_PlaneReach_leads, ps_PlaneReach_leads, G_PlaneReach_leads, M_PlaneReach_leads, B_PlaneReach_leads⟩ := c_PlaneReach_leads
  obtain ⟨f_NoReach_leads, fd_NoReach_leads, ps_NoReach_leads, G_NoReach_leads, M_NoReach_leads, B_NoReach_leads⟩ := c_NoReach_leads
  refine F.okX sc_comes_near (fun vs H Q E h => len_D h) (fun cdv A outer s H vs Q E hr h => ⟨_, (pss_cons (ps_expr (pe_cl c_check_move hr (show 3 ≤ 5 by decide) passL (pa_cons (pv 0) pa_nil)))
      (pss_cons (ps_expr (pe_cl c_check_move hr (show 3 ≤ 5 by decide) passL (pa_cons (pv 1) pa_nil)))
      (pss_cons (ps_expr (pe_cl c_check_move hr (show 3 ≤ 5 by decide) passL (pa_cons (pv 2) pa_nil)))
      (pss_cons (ps_set (i := 3) sc_comes_near.nd rfl (by first | exact Or.inl rfl | exact Or.inr rfl) (pe_cl c_reach_of hr (show 5 ≤ 5 by decide) passL (pa_cons (pv 1) (pa_cons (pv 2) pa_nil))))
      (pss_cons (ps_asg (pe_or2 (pe_meth (pv 3) cl_NoReach M_NoReach_locate G_NoReach_locate (hr.mono (show 1 ≤ 5 by decide)) B_NoReach_locate .nil passL (pa_cons (pv 0) pa_nil))
        (pe_or2 (pe_meth (pv 3) cl_PlaneReach M_PlaneReach_locate G_PlaneReach_locate (hr.mono (show 2 ≤ 5 by decide)) B_PlaneReach_locate .nil passL (pa_cons (pv 0) pa_nil))
        (pe_meth (pv 3) cl_LineReach M_LineReach_locate G_LineReach_locate (hr.mono (show 2 ≤ 5 by decide)) B_LineReach_locate .nil passL (pa_cons (pv 0) pa_nil)))) (pg_tup rfl (pgs_cons (pg_name (i := 4) sc_comes_near.nd rfl (by first | exact Or.inl rfl | exact Or.inr rfl)) (pgs_cons (pg_name (i := 5) sc_comes_near.nd rfl (by first | exact Or.inl rfl | exact Or.inr rfl)) pgs_nil))))
      (pss_cons (ps_for (passes_of rfl) rfl (pi_list (pe_cl c_places_near hr (show 1 ≤ 5 by decide) passL (pa_cons (pe_tup (pa_cons pe_int (pa_cons pe_int pa_nil))) pa_nil))) (pg_name (i := 6) sc_comes_near.nd rfl (by first | exact Or.inl rfl | exact Or.inr rfl)) (pss_cons (ps_asg (pe_or2 (pe_meth (pv 3) cl_NoReach M_NoReach_locate G_NoReach_locate (hr.mono (show 1 ≤ 5 by decide)) B_NoReach_locate .nil passL (pa_cons (pv 6) pa_nil))
        (pe_or2 (pe_meth (pv 3) cl_PlaneReach M_PlaneReach_locate G_PlaneReach_locate (hr.mono (show 2 ≤ 5 by decide)) B_PlaneReach_locate .nil passL (pa_cons (pv 6) pa_nil))
        (pe_meth (pv 3) cl_LineReach M_LineReach_locate G_LineReach_locate (hr.mono (show 2 ≤ 5 by decide)) B_LineReach_locate .nil passL (pa_cons (pv 6) pa_nil)))) (pg_tup rfl (pgs_cons (pg_name (i := 7) sc_comes_near.nd rfl (by first | exact Or.inl rfl | exact Or.inr rfl)) (pgs_cons (pg_name (i := 8) sc_comes_near.nd rfl (by first | exact Or.inl rfl | exact Or.inr rfl)) pgs_nil))))
      (pss_one (ps_if (PW.pt (pw_and (pt_cmpR (op_eqA hr.units) (pv 7) (pv 4) (nomark _)) (pw_and1 (pt_val (pe_or2 (pe_meth (pv 3) cl_NoReach M_NoReach_leads G_NoReach_leads (hr.mono (show 1 ≤ 5 by decide)) B_NoReach_leads .nil passL (pa_cons (pv 5) (pa_cons (pv 8) pa_nil)))
        (pe_or2 (pe_meth (pv 3) cl_PlaneReach M_PlaneReach_leads G_PlaneReach_leads (hr.mono (show 1 ≤ 5 by decide)) B_PlaneReach_leads .nil passL (pa_cons (pv 5) (pa_cons (pv 8) pa_nil)))
        (pe_meth (pv 3) cl_LineReach M_LineReach_leads G_LineReach_leads (hr.mono (show 1 ≤ 5 by decide)) B_LineReach_leads .nil passL (pa_cons (pv 5) (pa_cons (pv 8) pa_nil))))) (fun _ => rfl))))) (pss_one (ps_ret pe_bl)) pss_nil))))
      (pss_one (ps_ret pe_bl)))))))),
    fn_D h fun ds o hk hR => ?_⟩)
  try dsimp only [L2.cxOf]
  obtain ⟨x, y, a, b, c, d, r, rfl, ⟨fx, fy⟩, ⟨fa, fb⟩, ⟨fc, fd⟩, ⟨ha, hb⟩, ⟨hc, hd⟩, hr, rfl⟩ := hR
  have fin : ∀ (hit : Int → Int → Bool × Bool), (∀ X Y, ((hit X Y).1 = true ∧ (hit X Y).2 = true) ↔ Way x y a b c d X Y) → ((∀ (j : Nat) (q : Int × Int), P25[j]? = some q → ¬ ((hit q.1 q.2).1 = true ∧ (hit q.1 q.2).2 = true)) → r = false) ∧ ∀ (i : Nat) (q : Int × Int), P25[i]? = some q → (hit q.1 q.2).1 = true → (hit q.1 q.2).2 = true → r = true := fun hit hh => by
    constructor
    · intro hn
      cases r with
      | false => rfl
      | true =>
        obtain ⟨X, Y, hN, hW⟩ := hr.mp rfl
        obtain ⟨j, hj⟩ := List.getElem?_of_mem (mem25.mpr hN)
        exact absurd ((hh X Y).mpr hW) (hn j (X, Y) hj)
    · intro i q hq h1 h2
      exact hr.mpr ⟨q.1, q.2, mem25.mp (List.mem_of_getElem? hq), (hh q.1 q.2).mp ⟨h1, h2⟩⟩
  walk_at "zq"
  refine ⟨_, _, by walk_at "zd", rfl, ⟨x, y, rfl, fx, fy, rfl⟩, ?_⟩
  walk_at "zq"
  refine ⟨_, _, by walk_at "zd", rfl, ⟨a, b, rfl, fa, fb, rfl⟩, ?_⟩
  walk_at "zq"
  refine ⟨_, _, by walk_at "zd", rfl, ⟨c, d, rfl, fc, fd, rfl⟩, ?_⟩
  walk_at "zq"
  by_cases har : a * d - b * c = 0
  · by_cases hz : (a = 0 ∧ b = 0) ∧ c = 0 ∧ d = 0
    · obtain ⟨⟨rfl, rfl⟩, rfl, rfl⟩ := hz
      obtain ⟨f1, f2⟩ := fin (fun X Y => (decide (X = x) && decide (Y = y), decide ((0 : Int) = 0))) fun X Y => hitN
      refine ⟨_, C_NoReach, [], by walk_at "zd", rfl, .inr (.inl ⟨rfl, rfl, rfl⟩), fun p => ?_⟩
      walk_at "zq"
      refine zw_orl ?_
      walk_at "zq"
      refine ⟨⟨_, _, m0, rfl⟩, ?_⟩
      walk_at "zq"
      refine ⟨_, _, _, _, _, _, allD_cons allD_nil, rfl, ⟨x, y, rfl, rfl, rfl, rfl⟩, .here, ?_⟩
      walk_at "zq"
      walk_at "zt"
      walk_at "zq"
      refine ⟨_, _, by walk_at "zd", rfl, ⟨0, 0, rfl, rfl⟩, ?_⟩
      rw [grid25]
      refine ⟨_, rfl, fun i S2 M2 => ∃ c1 c2 c3, S2 = [some (.d (pr x y)), some (.d (pr 0 0)), some (.d (pr 0 0)), some (.c p), some (.d (pr x y)), some (.d (.int 0)), c1, c2, c3] ∧ M2 = [(p, true, .obj C_NoReach [])] ∧ ∀ (j : Nat) (q : Int × Int), j < i → P25[j]? = some q → ¬ ((decide (q.1 = x) && decide (q.2 = y)) = true ∧ decide ((0 : Int) = 0) = true), ⟨_, _, _, rfl, rfl, fun j q h => absurd h (Nat.not_lt_zero _)⟩, ?_, ?_⟩
      · rintro i v S2 M2 hx ⟨c1, c2, c3, rfl, rfl, hn⟩
        rw [List.getElem?_map] at hx
        obtain ⟨q, hq, rfl⟩ := Option.map_eq_some_iff.mp hx
        walk_at "zq"
        refine zw_orl ?_
        walk_at "zq"
        refine ⟨⟨_, _, m0, rfl⟩, ?_⟩
        walk_at "zq"
        refine ⟨_, _, _, _, _, _, allD_cons allD_nil, rfl, ⟨q.1, q.2, rfl, rfl, rfl, rfl⟩, .here, ?_⟩
        walk_at "zq"
        refine zo_eqDD (shp_pr _ _) (shp_pr _ _) ?_
        rw [eqv_pr]
        refine ⟨_, rfl, fun h => ?_, fun h => ?_⟩
        · walk_at "zq"
          exact ⟨_, _, _, rfl, rfl, fun j q2 hj hq2 hh => by
            rcases Nat.lt_or_eq_of_le (Nat.le_of_lt_succ hj) with z | z
            · exact hn j q2 z hq2 hh
            · subst z
              rw [hq] at hq2
              cases hq2
              rw [h] at hh
              exact Bool.noConfusion hh.1⟩
        · refine zt_B ?_
          refine zw_orl ?_
          walk_at "zq"
          refine ⟨⟨_, _, m0, rfl⟩, ?_⟩
          walk_at "zq"
          refine ⟨_, _, _, _, _, _, allD_cons (allD_cons allD_nil), rfl, ⟨0, 0, rfl, rfl, rfl, rfl⟩, .here, ?_⟩
          walk_at "zq"
          rw [f2 i q hq h rfl]
      · rintro S2 M2 ⟨c1, c2, c3, rfl, rfl, hn⟩
        rw [List.length_map] at hn
        walk_at "zq"
        rw [f1 fun j q hq => hn j q (List.getElem?_eq_some_iff.mp hq).1 hq]
    · have hP : ∃ P : Par, (([pr a b, pr c d] : List PyData) = [pr P.a P.b, pr P.c P.d] ∨ (P.c = 0 ∧ P.d = 0 ∧ ([pr a b, pr c d] : List PyData) = [pr 0 0, pr P.a P.b])) ∧ ∀ X Y, Way x y P.a P.b P.c P.d X Y ↔ Way x y a b c d X Y := by
        by_cases hab : a = 0 ∧ b = 0
        · obtain ⟨rfl, rfl⟩ := hab
          exact ⟨⟨c, d, 0, 0, hc, hd, ha, hb, by omega, by omega⟩, .inr ⟨rfl, rfl, rfl⟩, fun X Y => ⟨way_swap, way_swap⟩⟩
        · exact ⟨⟨a, b, c, d, ha, hb, hc, hd, by omega, har⟩, .inl rfl, fun X Y => Iff.rfl⟩
      obtain ⟨P, hds, hway⟩ := hP
      obtain ⟨f1, f2⟩ := fin (fun X Y => (decide (X - P.ln.at X Y * P.ln.ux = x - P.ln.at x y * P.ln.ux) && decide (Y - P.ln.at X Y * P.ln.uy = y - P.ln.at x y * P.ln.uy), leadsL P.ln.p P.ln.q (P.ln.at x y) (P.ln.at X Y))) fun X Y => hitL.trans (hway X Y)
      refine ⟨_, C_LineReach, LnF P.ln, by walk_at "zd", rfl, .inr (.inr ⟨P, rfl, rfl, hds⟩), fun p => ?_⟩
      walk_at "zq"
      refine zw_orr (zw_orr ?_)
      walk_at "zq"
      refine ⟨⟨_, _, m0, rfl⟩, ?_⟩
      walk_at "zq"
      refine ⟨_, _, _, _, _, _, allD_cons allD_nil, rfl, ⟨P.ln, x, y, rfl, rfl, rfl, rfl⟩, .here, ?_⟩
      walk_at "zq"
      walk_at "zt"
      walk_at "zq"
      refine ⟨_, _, by walk_at "zd", rfl, ⟨0, 0, rfl, rfl⟩, ?_⟩
      rw [grid25]
      refine ⟨_, rfl, fun i S2 M2 => ∃ c1 c2 c3, S2 = [some (.d (pr x y)), some (.d (pr a b)), some (.d (pr c d)), some (.c p), some (.d (pr (x - P.ln.at x y * P.ln.ux) (y - P.ln.at x y * P.ln.uy))), some (.d (.int (P.ln.at x y))), c1, c2, c3] ∧ M2 = [(p, true, .obj C_LineReach (LnF P.ln))] ∧ ∀ (j : Nat) (q : Int × Int), j < i → P25[j]? = some q → ¬ ((decide (q.1 - P.ln.at q.1 q.2 * P.ln.ux = x - P.ln.at x y * P.ln.ux) && decide (q.2 - P.ln.at q.1 q.2 * P.ln.uy = y - P.ln.at x y * P.ln.uy)) = true ∧ (leadsL P.ln.p P.ln.q (P.ln.at x y) (P.ln.at q.1 q.2)) = true), ⟨_, _, _, rfl, rfl, fun j q h => absurd h (Nat.not_lt_zero _)⟩, ?_, ?_⟩
      · rintro i v S2 M2 hx ⟨c1, c2, c3, rfl, rfl, hn⟩
        rw [List.getElem?_map] at hx
        obtain ⟨q, hq, rfl⟩ := Option.map_eq_some_iff.mp hx
        walk_at "zq"
        refine zw_orr (zw_orr ?_)
        walk_at "zq"
        refine ⟨⟨_, _, m0, rfl⟩, ?_⟩
        walk_at "zq"
        refine ⟨_, _, _, _, _, _, allD_cons allD_nil, rfl, ⟨P.ln, q.1, q.2, rfl, rfl, rfl, rfl⟩, .here, ?_⟩
        walk_at "zq"
        refine zo_eqDD (shp_pr _ _) (shp_pr _ _) ?_
        rw [eqv_pr]
        refine ⟨_, rfl, fun h => ?_, fun h => ?_⟩
        · walk_at "zq"
          exact ⟨_, _, _, rfl, rfl, fun j q2 hj hq2 hh => by
            rcases Nat.lt_or_eq_of_le (Nat.le_of_lt_succ hj) with z | z
            · exact hn j q2 z hq2 hh
            · subst z
              rw [hq] at hq2
              cases hq2
              rw [h] at hh
              exact Bool.noConfusion hh.1⟩
        · refine zt_B ?_
          refine zw_orr (zw_orr ?_)
          walk_at "zq"
          refine ⟨⟨_, _, m0, rfl⟩, ?_⟩
          walk_at "zq"
          refine ⟨_, _, _, _, _, _, allD_cons (allD_cons allD_nil), rfl, ⟨P.ln, _, _, rfl, rfl, rfl, rfl⟩, .here, ?_⟩
          refine ⟨_, rfl, ?_⟩
          refine ⟨fun h2 => ?_, fun h2 => ?_⟩
          · walk_at "zq"
            rw [f2 i q hq h h2]
          · walk_at "zq"
            exact ⟨_, _, _, rfl, rfl, fun j q2 hj hq2 hh => by
              rcases Nat.lt_or_eq_of_le (Nat.le_of_lt_succ hj) with z | z
              · exact hn j q2 z hq2 hh
              · subst z
                rw [hq] at hq2
                cases hq2
                rw [h2] at hh
                exact Bool.noConfusion hh.2⟩
      · rintro S2 M2 ⟨c1, c2, c3, rfl, rfl, hn⟩
        rw [List.length_map] at hn
        walk_at "zq"
        rw [f1 fun j q hq => hn j q (List.getElem?_eq_some_iff.mp hq).1 hq]
  · let m : Mv := ⟨a, b, c, d, ha, hb, hc, hd⟩
    have har : m.ar ≠ 0 := har
    obtain ⟨f1, f2⟩ := fin (fun X Y => (decide (m.kx X Y = m.kx x y) && decide (m.ky X Y = m.ky x y), decide (m.ones x y ≤ m.ones X Y) && decide (m.twos x y ≤ m.twos X Y))) fun X Y => hitP har
    refine ⟨_, C_PlaneReach, PlF m, by walk_at "zd", rfl, .inl ⟨m, har, rfl, rfl, rfl⟩, fun p => ?_⟩
    walk_at "zq"
    refine zw_orr (zw_orl ?_)
    walk_at "zq"
    refine ⟨⟨_, _, m0, rfl⟩, ?_⟩
    walk_at "zq"
    refine ⟨_, _, _, _, _, _, allD_cons allD_nil, rfl, ⟨m, x, y, rfl, rfl, har, ar_wd m, rfl, rfl⟩, .here, ?_⟩
    walk_at "zq"
    walk_at "zt"
    walk_at "zq"
    refine ⟨_, _, by walk_at "zd", rfl, ⟨0, 0, rfl, rfl⟩, ?_⟩
    rw [grid25]
    refine ⟨_, rfl, fun i S2 M2 => ∃ c1 c2 c3, S2 = [some (.d (pr x y)), some (.d (pr a b)), some (.d (pr c d)), some (.c p), some (.d (pr (m.kx x y) (m.ky x y))), some (.d (pr (m.ones x y) (m.twos x y))), c1, c2, c3] ∧ M2 = [(p, true, .obj C_PlaneReach (PlF m))] ∧ ∀ (j : Nat) (q : Int × Int), j < i → P25[j]? = some q → ¬ ((decide (m.kx q.1 q.2 = m.kx x y) && decide (m.ky q.1 q.2 = m.ky x y)) = true ∧ (decide (m.ones x y ≤ m.ones q.1 q.2) && decide (m.twos x y ≤ m.twos q.1 q.2)) = true), ⟨_, _, _, rfl, rfl, fun j q h => absurd h (Nat.not_lt_zero _)⟩, ?_, ?_⟩
    · rintro i v S2 M2 hx ⟨c1, c2, c3, rfl, rfl, hn⟩
      rw [List.getElem?_map] at hx
      obtain ⟨q, hq, rfl⟩ := Option.map_eq_some_iff.mp hx
      walk_at "zq"
      refine zw_orr (zw_orl ?_)
      walk_at "zq"
      refine ⟨⟨_, _, m0, rfl⟩, ?_⟩
      walk_at "zq"
      refine ⟨_, _, _, _, _, _, allD_cons allD_nil, rfl, ⟨m, q.1, q.2, rfl, rfl, har, ar_wd m, rfl, rfl⟩, .here, ?_⟩
      walk_at "zq"
      refine zo_eqDD (shp_pr _ _) (shp_pr _ _) ?_
      rw [eqv_pr]
      refine ⟨_, rfl, fun h => ?_, fun h => ?_⟩
      · walk_at "zq"
        exact ⟨_, _, _, rfl, rfl, fun j q2 hj hq2 hh => by
          rcases Nat.lt_or_eq_of_le (Nat.le_of_lt_succ hj) with z | z
          · exact hn j q2 z hq2 hh
          · subst z
            rw [hq] at hq2
            cases hq2
            rw [h] at hh
            exact Bool.noConfusion hh.1⟩
      · refine zt_B ?_
        refine zw_orr (zw_orl ?_)
        walk_at "zq"
        refine ⟨⟨_, _, m0, rfl⟩, ?_⟩
        walk_at "zq"
        refine ⟨_, _, _, _, _, _, allD_cons (allD_cons allD_nil), rfl, ⟨_, _, _, _, rfl, rfl, rfl⟩, .here, ?_⟩
        refine ⟨_, rfl, ?_⟩
        refine ⟨fun h2 => ?_, fun h2 => ?_⟩
        · walk_at "zq"
          rw [f2 i q hq h h2]
        · walk_at "zq"
          exact ⟨_, _, _, rfl, rfl, fun j q2 hj hq2 hh => by
            rcases Nat.lt_or_eq_of_le (Nat.le_of_lt_succ hj) with z | z
            · exact hn j q2 z hq2 hh
            · subst z
              rw [hq] at hq2
              cases hq2
              rw [h2] at hh
              exact Bool.noConfusion hh.2⟩
    · rintro S2 M2 ⟨c1, c2, c3, rfl, rfl, hn⟩
      rw [List.length_map] at hn
      walk_at "zq"
      rw [f1 fun j q hq => hn j q (List.getElem?_eq_some_iff.mp hq).1 hq]
/-- a draw's row: the script, the cell's number, the seed, the rest -/
structure RowS where
  ns : List Int
  i : Int
  s : Int
  r : Int
  hi : 0 ≤ i
  hs : 0 ≤ s
  ht : s < 2147483647
def RowS.d (t : RowS) : List PyData := [.list (t.ns.map .int), .int t.i, .int t.s, .int t.r]
def RowS.cell (t : RowS) : Int := t.ns.getD t.i.toNat 0
def RowS.draw (t : RowS) (many : Int) : Int := if 0 < t.r then t.r % many else if (t.ns.length : Int) < t.i + 1 then (t.s * 48271 + 11) % 2147483647 / 7 % many else t.cell % many
theorem mod_ok (a : Int) : 0 ≤ a % 2147483647 ∧ a % 2147483647 < 2147483647 := ⟨Int.emod_nonneg _ (by decide), Int.emod_lt_of_pos _ (by decide)⟩
def RowS.next (t : RowS) (many : Int) : RowS := if 0 < t.r then { t with r := t.r / many } else if (t.ns.length : Int) < t.i + 1 then ⟨t.ns, t.i + 1, (t.s * 48271 + 11) % 2147483647, t.r, by have := t.hi; omega, (mod_ok _).1, (mod_ok _).2⟩
  else ⟨t.ns, t.i + 1, (t.s * 48271 + t.cell + 11) % 2147483647, if 10 ^ 18 ≤ t.cell then t.cell / many else t.r, by have := t.hi; omega, (mod_ok _).1, (mod_ok _).2⟩
theorem RowS.draw_lt (t : RowS) {many : Int} (h : 0 < many) : 0 ≤ t.draw many ∧ t.draw many < many := by
  unfold RowS.draw
  split
  · exact ⟨Int.emod_nonneg _ (by omega), Int.emod_lt_of_pos _ h⟩
  · split <;> exact ⟨Int.emod_nonneg _ (by omega), Int.emod_lt_of_pos _ h⟩
def R_taken (xs ds : List PyData) (F : DOut → List PyData → Prop) : Prop := ∃ (t : RowS) (many : Int), xs = t.d ∧ ds = [.int many] ∧ 0 < many ∧ many.natAbs.log2 < 9000 ∧ ∀ (v : Int) (t' : RowS), 0 ≤ v → v < many → F (.ok (.int v)) t'.d
theorem ok_law_taken {P : Program} {w : World} {K : Fg} {mg : Str → Option Value} {base : Heap} {f : Addr} {fd : FuncData} (F : Fun K "_law_taken" "_law_taken" s_law_taken f fd)
    (m_int : mg "int" = none)
    (m_len : mg "len" = none) :
    FnOk P w K mg base (L2.CX P w) 1 f fd ["row", "many"] (spC K 1 R_taken) := by
  refine F.okX sc_law_taken (fun vs H Q E h => len_C h) (fun cdv A outer s H vs Q E hr h => ⟨_, (pss_cons (ps_if (pt_cmpR op_gt (pe_ix ix_seq (pv 0) pe_int (fun _ _ => rfl)) pe_int (nomark _)) (pss_cons (ps_set (i := 2) sc_law_taken.nd rfl (by first | exact Or.inl rfl | exact Or.inr rfl) (pe_op op_mod (pe_callTy (call_int1.or call_int_str) (by rfl) m_int bt_int (pa_cons (pe_ix ix_seq (pv 0) pe_int (fun _ _ => rfl)) pa_nil)) (pv 1)))
      (pss_cons (ps_asg (pe_op op_fdivW (pe_ix ix_seq (pv 0) pe_int (fun _ _ => rfl)) (pv 1)) (pg_sub (pv 0) pe_int set_list))
      (pss_one (ps_ret (pv 2))))) pss_nil)
      (pss_cons (ps_asg (pe_op op_addA (pe_ix ix_seq (pv 0) pe_int (fun _ _ => rfl)) pe_int) (pg_sub (pv 0) pe_int set_list))
      (pss_cons (ps_if (pt_cmpR op_gt (pe_ix ix_seq (pv 0) pe_int (fun _ _ => rfl)) (pe_callB call_len (by rfl) m_len bb_len (pa_cons (pe_ix ix_seq (pv 0) pe_int (fun _ _ => rfl)) pa_nil)) (nomark _)) (pss_cons (ps_asg (pe_op op_mod (pe_callTy (call_int1.or call_int_str) (by rfl) m_int bt_int (pa_cons (pe_op op_addA (pe_op op_mul (pe_ix ix_seq (pv 0) pe_int (fun _ _ => rfl)) pe_int) pe_int) pa_nil)) pe_int) (pg_sub (pv 0) pe_int set_list))
      (pss_one (ps_ret (pe_op op_mod (pe_callTy (call_int1.or call_int_str) (by rfl) m_int bt_int (pa_cons (pe_op op_fdivW (pe_ix ix_seq (pv 0) pe_int (fun _ _ => rfl)) pe_int) pa_nil)) (pv 1))))) pss_nil)
      (pss_cons (ps_set (i := 3) sc_law_taken.nd rfl (by first | exact Or.inl rfl | exact Or.inr rfl) (pe_ix ix_seq (pe_ix ix_seq (pv 0) pe_int (fun _ _ => rfl)) (pe_op op_sub (pe_ix ix_seq (pv 0) pe_int (fun _ _ => rfl)) pe_int) (fun _ _ => rfl)))
      (pss_cons (ps_asg (pe_op op_mod (pe_callTy (call_int1.or call_int_str) (by rfl) m_int bt_int (pa_cons (pe_op op_addA (pe_op op_addA (pe_op op_mul (pe_ix ix_seq (pv 0) pe_int (fun _ _ => rfl)) pe_int) (pv 3)) pe_int) pa_nil)) pe_int) (pg_sub (pv 0) pe_int set_list))
      (pss_cons (ps_if (pt_cmpR op_ge (pv 3) (pe_op op_pow pe_int pe_int) (nomark _)) (pss_one (ps_asg (pe_op op_fdivW (pv 3) (pv 1)) (pg_sub (pv 0) pe_int set_list))) pss_nil)
      (pss_one (ps_ret (pe_op op_mod (pe_callTy (call_int1.or call_int_str) (by rfl) m_int bt_int (pa_cons (pv 3) pa_nil)) (pv 1)))))))))),
    fn_C h fun p xs ds F hk hR => ?_⟩)
  try dsimp only [L2.cxOf]
  obtain ⟨t, many, rfl, rfl, hm, hm2, hF⟩ := hR
  have hG := hF _ (t.next many) (t.draw_lt hm).1 (t.draw_lt hm).2
  clear hF
  have hi := t.hi
  have hs := t.hs
  have ht := t.ht
  walk_at "zz"
  refine ⟨_, rfl, fun hb => ?_, fun hb => ?_⟩
  · have hb : 0 < t.r := of_decide_eq_true hb
    have e1 : t.draw many = t.r % many := if_pos hb
    have e2 : (t.next many).d = [.list (t.ns.map .int), .int t.i, .int t.s, .int (t.r / many)] := by unfold RowS.next; rw [if_pos hb]; rfl
    walk_at "zz"
    refine zo_mod hm ?_
    walk_at "zz"
    refine zo_fdivW ⟨hm, hm2⟩ ?_
    refine ⟨_, rfl, ?_⟩
    walk_at "zz"
    refine ⟨p, false, _, 3, 3, _, rfl, rfl, rfl, .here, ?_⟩
    walk_at "zz"
    exact ⟨_, _, rfl, by rw [e1] at hG; exact hG, by rw [e2]; exact m0⟩
  · have hb : ¬ 0 < t.r := of_decide_eq_false hb
    walk_at "zz"
    refine ⟨_, rfl, ?_⟩
    walk_at "zz"
    refine ⟨p, false, _, 1, 1, _, rfl, rfl, rfl, .here, ?_⟩
    walk_at "zz"
    refine ⟨_, rfl, fun hc => ?_, fun hc => ?_⟩
    · have hc : (t.ns.length : Int) < t.i + 1 := by simpa using of_decide_eq_true hc
      have e1 : t.draw many = (t.s * 48271 + 11) % 2147483647 / 7 % many := by unfold RowS.draw; rw [if_neg hb, if_pos hc]
      have e2 : (t.next many).d = [.list (t.ns.map .int), .int (t.i + 1), .int ((t.s * 48271 + 11) % 2147483647), .int t.r] := by unfold RowS.next; rw [if_neg hb, if_pos hc]; rfl
      walk_at "zz"
      refine zo_mul (.inl ⟨by omega, by omega⟩) ?_
      walk_at "zz"
      refine zo_mod (by decide) ?_
      refine ⟨_, rfl, ?_⟩
      walk_at "zz"
      refine ⟨p, false, _, 2, 2, _, rfl, rfl, rfl, .here, ?_⟩
      walk_at "zz"
      refine zo_fdivW ⟨by decide, by decide⟩ ?_
      walk_at "zz"
      refine zo_mod hm ?_
      exact ⟨_, _, rfl, by rw [e1] at hG; exact hG, by rw [e2]; exact m0⟩
    · have hc : ¬ (t.ns.length : Int) < t.i + 1 := fun z => absurd (of_decide_eq_false hc) (by simpa using z)
      have hg : t.ns[t.i.toNat]? = some t.cell := by
        unfold RowS.cell
        rw [List.getD_eq_getElem?_getD]
        rw [List.getElem?_eq_getElem (by omega)]
        rfl
      have hat : atI (t.ns.map PyData.int) (t.i + 1 - 1) = some (.int t.cell) := by
        have e : t.i + 1 - 1 = ((t.i.toNat : Nat) : Int) := by omega
        rw [e]
        exact atI_nat (by rw [List.getElem?_map, hg]; rfl)
      have e1 : t.draw many = t.cell % many := by unfold RowS.draw; rw [if_neg hb, if_neg hc]
      have e2 : (t.next many).d = [.list (t.ns.map .int), .int (t.i + 1), .int ((t.s * 48271 + t.cell + 11) % 2147483647), .int (if 10 ^ 18 ≤ t.cell then t.cell / many else t.r)] := by unfold RowS.next; rw [if_neg hb, if_neg hc]; rfl
      walk_at "zz"
      refine zo_mul (.inl ⟨by omega, by omega⟩) ?_
      walk_at "zz"
      refine zo_mod (by decide) ?_
      refine ⟨_, rfl, ?_⟩
      walk_at "zz"
      refine ⟨p, false, _, 2, 2, _, rfl, rfl, rfl, .here, ?_⟩
      walk_at "zz"
      refine zo_pow ⟨by decide, by decide, by decide⟩ ?_
      walk_at "zz"
      refine ⟨_, rfl, fun hd => ?_, fun hd => ?_⟩
      · have hd : (10 : Int) ^ 18 ≤ t.cell := of_decide_eq_true hd
        rw [if_pos hd] at e2
        walk_at "zz"
        refine zo_fdivW ⟨hm, hm2⟩ ?_
        refine ⟨_, rfl, ?_⟩
        walk_at "zz"
        refine ⟨p, false, _, 3, 3, _, rfl, rfl, rfl, .here, ?_⟩
        walk_at "zz"
        refine zo_mod hm ?_
        exact ⟨_, _, rfl, by rw [e1] at hG; exact hG, by rw [e2]; exact m0⟩
      · have hd : ¬ (10 : Int) ^ 18 ≤ t.cell := of_decide_eq_false hd
        rw [if_neg hd] at e2
        walk_at "zz"
        refine zo_mod hm ?_
        exact ⟨_, _, rfl, by rw [e1] at hG; exact hG, by rw [e2]; exact m0⟩
theorem log_small {n : Nat} (h : n < 2 ^ 100) : ((n : Int)).natAbs.log2 < 9000 := by
  rw [Int.natAbs_natCast]
  by_cases hz : n = 0
  · subst hz; decide
  · exact Nat.lt_of_lt_of_le ((Nat.log2_lt hz).2 h) (by decide)
def R_signed (xs ds : List PyData) (F : DOut → List PyData → Prop) : Prop := ∃ (t : RowS) (most : Int), xs = t.d ∧ ds = [.int most] ∧ 0 ≤ most ∧ most < 2 ^ 90 ∧ ∀ (v : Int) (t' : RowS), -most ≤ v → v ≤ most → F (.ok (.int v)) t'.d
theorem ok_law_signed {P : Program} {w : World} {K : Fg} {mg : Str → Option Value} {base : Heap} {f : Addr} {fd : FuncData} (F : Fun K "_law_signed" "_law_signed" s_law_signed f fd)
    (c__law_taken : Cal P w K mg base 1 "_law_taken" (spC K 1 R_taken)) :
    FnOk P w K mg base (L2.CX P w) 2 f fd ["row", "most"] (spC K 1 R_signed) := by
  refine F.okX sc_law_signed (fun vs H Q E h => len_C h) (fun cdv A outer s H vs Q E hr h => ⟨_, (pss_one (ps_ret (pe_op op_sub (pe_cl c__law_taken hr (show 1 ≤ 1 by decide) passL (pa_cons (pv 0) (pa_cons (pe_op op_addA (pe_op op_mul pe_int (pv 1)) pe_int) pa_nil))) (pv 1)))),
    fn_C h fun p xs ds F hk hR => ?_⟩)
  try dsimp only [L2.cxOf]
  obtain ⟨t, most, rfl, rfl, h0, h1, hF⟩ := hR
  walk_at "zq"
  refine zo_mul (.inl ⟨by decide, by decide⟩) ?_
  walk_at "zq"
  refine ⟨_, _, _, _, _, rfl, m0, allD_cons allD_nil, rfl, ⟨t, 2 * most + 1, rfl, rfl, by omega, wd_of (by omega), fun v t' h2 h3 => ⟨_, _, rfl, .here, ?_⟩⟩⟩
  walk_at "zq"
  exact ⟨_, _, rfl, hF (v - most) t' (by omega) (by omega), m0⟩
def R_pick (xs ds : List PyData) (F : DOut → List PyData → Prop) : Prop := ∃ (t : RowS) (things : List PyData), xs = t.d ∧ ds = [.list things] ∧ things ≠ [] ∧ things.length < 1000 ∧ ∀ (i : Nat) (v : PyData) (t' : RowS), things[i]? = some v → F (.ok v) t'.d
theorem ok_law_pick {P : Program} {w : World} {K : Fg} {mg : Str → Option Value} {base : Heap} {f : Addr} {fd : FuncData} (F : Fun K "_law_pick" "_law_pick" s_law_pick f fd)
    (m_len : mg "len" = none)
    (c__law_taken : Cal P w K mg base 1 "_law_taken" (spC K 1 R_taken)) :
    FnOk P w K mg base (L2.CX P w) 2 f fd ["row", "things"] (spC K 1 R_pick) := by
  refine F.okX sc_law_pick (fun vs H Q E h => len_C h) (fun cdv A outer s H vs Q E hr h => ⟨_, (pss_one (ps_ret (pe_ix ix_seq (pv 1) (pe_cl c__law_taken hr (show 1 ≤ 1 by decide) passL (pa_cons (pv 0) (pa_cons (pe_callB call_len (by rfl) m_len bb_len (pa_cons (pv 1) pa_nil)) pa_nil))) (fun _ _ => rfl)))),
    fn_C h fun p xs ds F hk hR => ?_⟩)
  try dsimp only [L2.cxOf]
  obtain ⟨t, things, rfl, rfl, hne, hl, hF⟩ := hR
  walk_at "zq"
  have hp : 0 < things.length := List.length_pos_iff.mpr hne
  refine ⟨_, _, _, _, _, rfl, m0, allD_cons allD_nil, rfl, ⟨t, things.length, rfl, rfl, by omega, log_small (by omega), fun v t' h0 hv => ⟨_, _, rfl, .here, ?_⟩⟩⟩
  have hi : v.toNat < things.length := by omega
  have hv2 : atI things v = some things[v.toNat] := by
    have e : v = ((v.toNat : Nat) : Int) := by omega
    have h := atI_nat (xs := things) (List.getElem?_eq_getElem hi)
    rw [← e] at h
    exact h
  refine zo_ix hv2 ?_
  exact ⟨_, _, rfl, hF v.toNat _ t' (List.getElem?_eq_getElem hi), m0⟩
/-- None, a truth or a number -/
def al : Nat → PyData → Bool
  | 0, _ => false
  | _ + 1, .int _ => true
  | _ + 1, .bool _ => true
  | _ + 1, .none => true
  | _ + 1, _ => false
def R_alike (n : Nat) (ds : List PyData) (o : DOut) : Prop := ∃ d, ds = [d, d] ∧ al n d = true ∧ o = .ok (.bool true)
theorem alike_vac {P : Program} {w : World} {K : Fg} {mg : Str → Option Value} {base : Heap} {f : Addr} {fd : FuncData} (F : Fun K "_law_alike" "_law_alike" s_law_alike f fd) : FnOk P w K mg base (L2.CX P w) 1 f fd ["found", "due"] (spD K 2 (R_alike 0)) := by
  refine F.okX sc_law_alike (fun vs H Q E h => len_D h) (fun cdv A outer s H vs Q E hr h => ?_)
  obtain ⟨G, ds, o, e, hk, hd, ⟨d, _, h2, _⟩, _⟩ := h
  cases h2
theorem ok_law_alike {P : Program} {w : World} {K : Fg} {mg : Str → Option Value} {base : Heap} {f : Addr} {fd : FuncData} {j : Nat} {n : Nat} (F : Fun K "_law_alike" "_law_alike" s_law_alike f fd)
    (m_isinstance : mg "isinstance" = none)
    (m_list : mg "list" = none)
    (m_tuple : mg "tuple" = none)
    (m_len : mg "len" = none)
    (m_range : mg "range" = none)
    (m_str : mg "str" = none)
    (m_bool : mg "bool" = none)
    (m_int : mg "int" = none)
    (c__law_alike : Cal P w K mg base j "_law_alike" (spD K 2 (R_alike n))) :
    FnOk P w K mg base (L2.CX P w) (j+1) f fd ["found", "due"] (spD K 2 (R_alike (n + 1))) := by
  refine F.okX sc_law_alike (fun vs H Q E h => len_D h) (fun cdv A outer s H vs Q E hr h => ⟨_, (pss_cons (ps_if (pt_val (pe_callB call_isiT (by rfl) m_isinstance bb_isinstance (pa_cons (pv 1) (pa_cons (pe_tup (pa_cons (pe_bltn (v := .ty "tuple") (by rfl) m_tuple bt_tuple rfl) (pa_cons (pe_bltn (v := .ty "list") (by rfl) m_list bt_list rfl) pa_nil))) pa_nil))) (fun _ => rfl)) (pss_cons (ps_if (PW.pt (pw_or (pt_not (pt_val (pe_callB call_isiT (by rfl) m_isinstance bb_isinstance (pa_cons (pv 0) (pa_cons (pe_tup (pa_cons (pe_bltn (v := .ty "tuple") (by rfl) m_tuple bt_tuple rfl) (pa_cons (pe_bltn (v := .ty "list") (by rfl) m_list bt_list rfl) pa_nil))) pa_nil))) (fun _ => rfl))) (pw_or1 (pt_cmpR (op_neA hr.units) (pe_callB call_isi (by rfl) m_isinstance bb_isinstance (pa_cons (pv 0) (pa_cons (pe_bltn (v := .ty "list") (by rfl) m_list bt_list rfl) pa_nil))) (pe_callB call_isi (by rfl) m_isinstance bb_isinstance (pa_cons (pv 1) (pa_cons (pe_bltn (v := .ty "list") (by rfl) m_list bt_list rfl) pa_nil))) (nomark _))))) (pss_one (ps_ret pe_bl)) pss_nil)
      (pss_cons (ps_if (pt_cmpR (op_neA hr.units) (pe_callB call_len (by rfl) m_len bb_len (pa_cons (pv 0) pa_nil)) (pe_callB call_len (by rfl) m_len bb_len (pa_cons (pv 1) pa_nil)) (nomark _)) (pss_one (ps_ret pe_bl)) pss_nil)
      (pss_one (ps_ret (pe_cmpR (op_eqA hr.units) (pe_lc (own := [("k", 2)]) rfl sc_law_alike.nd (pi_range1 (by rfl) m_range (pa_cons (pe_callB call_len (by rfl) m_len bb_len (pa_cons (pv 1) pa_nil)) pa_nil)) (blkOk_by (N := N_law_alike) (sc := defScope s_law_alike) (by decide +kernel)) (fun _ _ _ _ _ => (pg_name (i := 2) sc_law_alike.nd rfl (by first | exact Or.inl rfl | exact Or.inr rfl))) (fun _ _ _ _ _ => (pts_one (pt_not (pt_val (pe_cl c__law_alike hr (Nat.le_refl _) passL (pa_cons (pe_ix (show IxR _ (rIx K) from ix_seq) (pv 0) (pv 2) (fun _ _ => rfl)) (pa_cons (pe_ix (show IxR _ (rIx K) from ix_seq) (pv 1) (pv 2) (fun _ _ => rfl)) pa_nil))) (fun _ => rfl))))) (fun _ _ _ _ _ => (pv 2))) (pe_lst pa_nil) (nomark _)))))) pss_nil)
      (pss_cons (ps_if (PW.pt (pw_or (pt_cmpR op_isN (pv 1) pe_non (nomark _)) (pw_or1 (pt_val (pe_callB call_isi (by rfl) m_isinstance bb_isinstance (pa_cons (pv 1) (pa_cons (pe_bltn (v := .ty "str") (by rfl) m_str bt_str rfl) pa_nil))) (fun _ => rfl))))) (pss_one (ps_ret (pe_and (pe_cmpR (op_eqA hr.units) (pv 0) (pv 1) (nomark _)) (pe_one (pe_cmpR (op_eqA hr.units) (pe_callB call_isi (by rfl) m_isinstance bb_isinstance (pa_cons (pv 0) (pa_cons (pe_bltn (v := .ty "str") (by rfl) m_str bt_str rfl) pa_nil))) (pe_callB call_isi (by rfl) m_isinstance bb_isinstance (pa_cons (pv 1) (pa_cons (pe_bltn (v := .ty "str") (by rfl) m_str bt_str rfl) pa_nil))) (nomark _)))))) pss_nil)
      (pss_one (ps_ret (pe_and (pe_callB call_isi (by rfl) m_isinstance bb_isinstance (pa_cons (pv 0) (pa_cons (pe_bltn (v := .ty "int") (by rfl) m_int bt_int rfl) pa_nil))) (pe_and (pe_cmpR (op_eqA hr.units) (pe_callB call_isi (by rfl) m_isinstance bb_isinstance (pa_cons (pv 0) (pa_cons (pe_bltn (v := .ty "bool") (by rfl) m_bool bt_bool rfl) pa_nil))) (pe_callB call_isi (by rfl) m_isinstance bb_isinstance (pa_cons (pv 1) (pa_cons (pe_bltn (v := .ty "bool") (by rfl) m_bool bt_bool rfl) pa_nil))) (nomark _)) (pe_one (pe_cmpR (op_eqA hr.units) (pv 0) (pv 1) (nomark _))))))))),
    fn_D h fun ds o hk hR => ?_⟩)
  try dsimp only [L2.cxOf]
  obtain ⟨d, rfl, ha, rfl⟩ := hR
  walk_at "zz"
  cases d with
  | int i =>
    walk_at "zq"
    rw [decide_eq_true rfl]
  | bool b =>
    walk_at "zq"
    rw [show (b == b) = true by cases b <;> rfl]
  | none =>
    walk_at "zq"
    refine zo_eqDD rfl rfl ?_
    walk_at "zq"
    rfl
  | _ => cases ha
/-- max(abs(X), abs(Y)) < 3 -/
theorem nr_t {X Y : Int} (h : Near X Y) : decide ((if (if Y < 0 then -Y else Y) > (if X < 0 then -X else X) then (if Y < 0 then -Y else Y) else (if X < 0 then -X else X)) < 3) = true := by
  obtain ⟨⟨a, b⟩, c, d⟩ := h
  rw [decide_eq_true_eq]
  split <;> split <;> split <;> omega
theorem nr_f {X Y : Int} (h : ¬ Near X Y) : decide ((if (if Y < 0 then -Y else Y) > (if X < 0 then -X else X) then (if Y < 0 then -Y else Y) else (if X < 0 then -X else X)) < 3) = false := by
  rw [decide_eq_false_iff_not]
  intro z
  refine h ⟨⟨?_, ?_⟩, ?_, ?_⟩ <;> (split at z <;> split at z <;> split at z <;> omega)
/-- behind i generations: the first near one; whether both moves have come near -/
def DueOk (x y a b : Int) (i : Nat) (due : Option Int) : Prop := (∀ k, due = some k → (0 ≤ k ∧ k < i) ∧ Near (x + k * a) (y + k * b) ∧ ∀ j : Int, 0 ≤ j → j < k → ¬ Near (x + j * a) (y + j * b)) ∧ (due = none → ∀ j : Int, 0 ≤ j → j < i → ¬ Near (x + j * a) (y + j * b))
def BothOk (x y a b c d : Int) (i : Nat) (both : Bool) : Prop := both = true ↔ ∃ k l : Int, (0 ≤ k ∧ k < i) ∧ (0 ≤ l ∧ l < 110) ∧ At x y a b c d k l
theorem due_first {x y a b : Int} {due : Option Int} (hx : -14 ≤ x ∧ x ≤ 14) (hy : -9 ≤ y ∧ y ≤ 9) (h : DueOk x y a b 110 due) : First x y a b (.ok (optD due)) := by
  cases due with
  | some k =>
    obtain ⟨⟨k0, _⟩, hN, hn⟩ := h.1 k rfl
    exact .inl ⟨k, k0, hN, hn, rfl⟩
  | none =>
    refine .inr ⟨fun j hj hN => ?_, rfl⟩
    obtain ⟨j', h0, h1, h2⟩ := first_small hj hx hy hN
    exact h.2 rfl j' h0 h1 h2
theorem both_comes {x y a b c d : Int} {both : Bool} (hx : -14 ≤ x ∧ x ≤ 14) (hy : -9 ≤ y ∧ y ≤ 9) (F : Few a b c d) (h : BothOk x y a b c d 110 both) : both = true ↔ Comes x y a b c d := by
  unfold BothOk at h
  rw [h]
  constructor
  · rintro ⟨k, l, hk, hl, hA⟩
    exact comes_at.mpr ⟨k, l, hk.1, hl.1, hA⟩
  · intro hC
    obtain ⟨k, l, hk, hl, hA⟩ := few_tries hx hy F hC
    exact ⟨k, l, hk, hl, hA⟩
theorem due_step {x y a b : Int} {i : Nat} {k : Int} (h : DueOk x y a b i none) (hk : k = i) (hN : Near (x + k * a) (y + k * b)) : DueOk x y a b (i + 1) (some k) :=
  ⟨fun k' e => by cases e; exact ⟨⟨by omega, by omega⟩, hN, fun j h0 h1 => h.2 rfl j h0 (by omega)⟩, fun e => nomatch e⟩
theorem due_keep {x y a b : Int} {i : Nat} {due : Option Int} (h : DueOk x y a b i due) (hd : due = none → ¬ Near (x + (i : Int) * a) (y + (i : Int) * b)) : DueOk x y a b (i + 1) due :=
  ⟨fun k e => by obtain ⟨⟨a1, a2⟩, a3⟩ := h.1 k e; exact ⟨⟨a1, by omega⟩, a3⟩, fun e j h0 h1 => by
    by_cases z : j = i
    · rw [z]; exact hd e
    · exact h.2 e j h0 (by omega)⟩
def R_law (ds : List PyData) (o : DOut) : Prop := ∃ ns : List Int, ds = [.list (ns.map .int)] ∧ o = .ok (.bool true)
theorem ok_law {P : Program} {w : World} {K : Fg} {mg : Str → Option Value} {base : Heap} {f : Addr} {fd : FuncData} (F : Fun K "law" "law" s_law f fd)
    (m_range : mg "range" = none)
    (m_max : mg "max" = none)
    (m_abs : mg "abs" = none)
    (m_int : mg "int" = none)
    (m_min : mg "min" = none)
    (c__law_signed : Cal P w K mg base 2 "_law_signed" (spC K 1 R_signed))
    (c__law_taken : Cal P w K mg base 1 "_law_taken" (spC K 1 R_taken))
    (c__law_pick : Cal P w K mg base 2 "_law_pick" (spC K 1 R_pick))
    (c__law_alike : Cal P w K mg base 2 "_law_alike" (spD K 2 (R_alike 1)))
    (c_comes_near : Cal P w K mg base 6 "comes_near" (spD K 3 R_comes))
    (c_first_near_of : Cal P w K mg base 4 "first_near_of" (spD K 2 R_firstnear)) :
    FnOk P w K mg base (L2.CX P w) 7 f fd ["script"] (spD K 1 R_law) := by
  refine F.okX sc_law (fun vs H Q E h => len_D h) (fun cdv A outer s H vs Q E hr h => ⟨_, (pss_cons (ps_set (i := 1) sc_law.nd rfl (by first | exact Or.inl rfl | exact Or.inr rfl) (pe_lst (pa_cons (pv 0) (pa_cons pe_int (pa_cons pe_int (pa_cons pe_int pa_nil))))))
      (pss_cons (ps_par (i := 2) (j := 3) rfl sc_law.nd rfl rfl (by decide) rfl rfl (pa_cons (pe_tup (pa_cons (pe_cl c__law_signed hr (show 2 ≤ 6 by decide) passL (pa_cons (pv 1) (pa_cons pe_int pa_nil))) (pa_cons (pe_cl c__law_signed hr (show 2 ≤ 6 by decide) passL (pa_cons (pv 1) (pa_cons pe_int pa_nil))) pa_nil))) (pa_cons (pe_tup (pa_cons (pe_cl c__law_signed hr (show 2 ≤ 6 by decide) passL (pa_cons (pv 1) (pa_cons pe_int pa_nil))) (pa_cons (pe_cl c__law_signed hr (show 2 ≤ 6 by decide) passL (pa_cons (pv 1) (pa_cons pe_int pa_nil))) pa_nil))) pa_nil)) (by rfl))
      (pss_cons (ps_set (i := 4) sc_law.nd rfl (by first | exact Or.inl rfl | exact Or.inr rfl) (pe_tup (pa_cons (pe_cl c__law_signed hr (show 2 ≤ 6 by decide) passL (pa_cons (pv 1) (pa_cons pe_int pa_nil))) (pa_cons (pe_cl c__law_signed hr (show 2 ≤ 6 by decide) passL (pa_cons (pv 1) (pa_cons pe_int pa_nil))) pa_nil))))
      (pss_cons (ps_if (pt_cmpR (op_eqA hr.units) (pe_cl c__law_taken hr (show 1 ≤ 6 by decide) passL (pa_cons (pv 1) (pa_cons pe_int pa_nil))) pe_int (nomark _)) (pss_cons (ps_set (i := 3) sc_law.nd rfl (by first | exact Or.inl rfl | exact Or.inr rfl) (pe_tup (pa_cons (pe_op op_mul (pe_cl c__law_pick hr (show 2 ≤ 6 by decide) passL (pa_cons (pv 1) (pa_cons (pe_lst (pa_cons (pe_un un_neg pe_int) (pa_cons (pe_un un_neg pe_int) (pa_cons pe_int (pa_cons pe_int pa_nil))))) pa_nil))) (pe_ix ix_seq (pv 2) pe_int (fun _ _ => rfl))) (pa_cons (pe_op op_mul (pe_ix ix_seq (pv 2) pe_int (fun _ _ => rfl)) pe_int) pa_nil))))
      (pss_one (ps_set (i := 2) sc_law.nd rfl (by first | exact Or.inl rfl | exact Or.inr rfl) (pe_tup (pa_cons (pe_ix ix_seq (pv 2) pe_int (fun _ _ => rfl)) (pa_cons pe_int pa_nil)))))) pss_nil)
      (pss_cons (ps_if (pt_cmpR (op_eqA hr.units) (pe_cl c__law_taken hr (show 1 ≤ 6 by decide) passL (pa_cons (pv 1) (pa_cons pe_int pa_nil))) pe_int (nomark _)) (pss_cons (ps_set (i := 5) sc_law.nd rfl (by first | exact Or.inl rfl | exact Or.inr rfl) (pe_cl c__law_pick hr (show 2 ≤ 6 by decide) passL (pa_cons (pv 1) (pa_cons (pe_lst (pa_cons (pe_un un_neg pe_int) (pa_cons (pe_un un_neg pe_int) (pa_cons pe_int pa_nil)))) pa_nil))))
      (pss_one (ps_set (i := 3) sc_law.nd rfl (by first | exact Or.inl rfl | exact Or.inr rfl) (pe_tup (pa_cons (pe_op op_mul (pv 5) (pe_ix ix_seq (pv 2) pe_int (fun _ _ => rfl))) (pa_cons (pe_op op_mul (pv 5) (pe_ix ix_seq (pv 2) pe_int (fun _ _ => rfl))) pa_nil)))))) pss_nil)
      (pss_cons (ps_asg (pe_tup (pa_cons pe_non (pa_cons pe_bl pa_nil))) (pg_tup rfl (pgs_cons (pg_name (i := 6) sc_law.nd rfl (by first | exact Or.inl rfl | exact Or.inr rfl)) (pgs_cons (pg_name (i := 7) sc_law.nd rfl (by first | exact Or.inl rfl | exact Or.inr rfl)) pgs_nil))))
      (pss_cons (ps_for (passes_of rfl) rfl (pi_range1 (by rfl) m_range (pa_cons pe_int pa_nil)) (pg_name (i := 8) sc_law.nd rfl (by first | exact Or.inl rfl | exact Or.inr rfl)) (pss_cons (ps_set (i := 9) sc_law.nd rfl (by first | exact Or.inl rfl | exact Or.inr rfl) (pe_tup (pa_cons (pe_op op_addA (pe_ix ix_seq (pv 4) pe_int (fun _ _ => rfl)) (pe_op op_mul (pv 8) (pe_ix ix_seq (pv 2) pe_int (fun _ _ => rfl)))) (pa_cons (pe_op op_addA (pe_ix ix_seq (pv 4) pe_int (fun _ _ => rfl)) (pe_op op_mul (pv 8) (pe_ix ix_seq (pv 2) pe_int (fun _ _ => rfl)))) pa_nil))))
      (pss_cons (ps_if (PW.pt (pw_and (pt_cmpR op_isN (pv 6) pe_non (nomark _)) (pw_and1 (pt_cmpR op_lt (pe_callB (call_max2 rfl) (by rfl) m_max bb_max (pa_cons (pe_callB (show CallR _ (.builtin "abs") rAbs from call_abs) (by rfl) m_abs bb_abs (pa_cons (pe_ix ix_seq (pv 9) pe_int (fun _ _ => rfl)) pa_nil)) (pa_cons (pe_callB (show CallR _ (.builtin "abs") rAbs from call_abs) (by rfl) m_abs bb_abs (pa_cons (pe_ix ix_seq (pv 9) pe_int (fun _ _ => rfl)) pa_nil)) pa_nil))) pe_int (nomark _))))) (pss_one (ps_set (i := 6) sc_law.nd rfl (by first | exact Or.inl rfl | exact Or.inr rfl) (pv 8))) pss_nil)
      (pss_one (ps_for (passes_of rfl) rfl (pi_range1 (by rfl) m_range (pa_cons (pe_ifExp (pt_not (pt_truth (pv 7) (fun _ => rfl))) pe_int pe_int) pa_nil)) (pg_name (i := 10) sc_law.nd rfl (by first | exact Or.inl rfl | exact Or.inr rfl)) (pss_one (ps_set (i := 7) sc_law.nd rfl (by first | exact Or.inl rfl | exact Or.inr rfl) (pe_or (pv 7) (pe_one (pe_cmpR op_lt (pe_callB (call_max2 rfl) (by rfl) m_max bb_max (pa_cons (pe_callB (show CallR _ (.builtin "abs") rAbs from call_abs) (by rfl) m_abs bb_abs (pa_cons (pe_op op_addA (pe_ix ix_seq (pv 9) pe_int (fun _ _ => rfl)) (pe_op op_mul (pv 10) (pe_ix ix_seq (pv 3) pe_int (fun _ _ => rfl)))) pa_nil)) (pa_cons (pe_callB (show CallR _ (.builtin "abs") rAbs from call_abs) (by rfl) m_abs bb_abs (pa_cons (pe_op op_addA (pe_ix ix_seq (pv 9) pe_int (fun _ _ => rfl)) (pe_op op_mul (pv 10) (pe_ix ix_seq (pv 3) pe_int (fun _ _ => rfl)))) pa_nil)) pa_nil))) pe_int (nomark _)))))))))))
      (pss_cons (ps_if (PW.pt (pw_or (pt_not (pt_val (pe_cl c__law_alike hr (show 2 ≤ 6 by decide) passL (pa_cons (pe_cl c_first_near_of hr (show 4 ≤ 6 by decide) passL (pa_cons (pv 4) (pa_cons (pv 2) pa_nil))) (pa_cons (pv 6) pa_nil))) (fun _ => rfl))) (pw_or1 (pt_not (pt_val (pe_cl c__law_alike hr (show 2 ≤ 6 by decide) passL (pa_cons (pe_cl c_comes_near hr (show 6 ≤ 6 by decide) passL (pa_cons (pv 4) (pa_cons (pv 2) (pa_cons (pv 3) pa_nil)))) (pa_cons (pv 7) pa_nil))) (fun _ => rfl)))))) (pss_one (ps_ret pe_bl)) pss_nil)
      (pss_cons (ps_par3 (i := 11) (j := 8) (l := 10) rfl sc_law.nd rfl rfl rfl (by decide) (by decide) (by decide) rfl rfl rfl (pa_cons (pe_op op_shl pe_int pe_int) (pa_cons (pe_cl c__law_taken hr (show 1 ≤ 6 by decide) passL (pa_cons (pv 1) (pa_cons (pe_op op_shl pe_int pe_int) pa_nil))) (pa_cons (pe_cl c__law_taken hr (show 1 ≤ 6 by decide) passL (pa_cons (pv 1) (pa_cons (pe_op op_shl pe_int pe_int) pa_nil))) pa_nil))) (by rfl))
      (pss_cons (ps_par (i := 2) (j := 3) rfl sc_law.nd rfl rfl (by decide) rfl rfl (pa_cons (pe_tup (pa_cons (pe_cl c__law_signed hr (show 2 ≤ 6 by decide) passL (pa_cons (pv 1) (pa_cons (pe_op op_shl pe_int pe_int) pa_nil))) (pa_cons (pe_cl c__law_signed hr (show 2 ≤ 6 by decide) passL (pa_cons (pv 1) (pa_cons (pe_op op_shl pe_int pe_int) pa_nil))) pa_nil))) (pa_cons (pe_tup (pa_cons (pe_cl c__law_signed hr (show 2 ≤ 6 by decide) passL (pa_cons (pv 1) (pa_cons (pe_op op_shl pe_int pe_int) pa_nil))) (pa_cons (pe_cl c__law_signed hr (show 2 ≤ 6 by decide) passL (pa_cons (pv 1) (pa_cons (pe_op op_shl pe_int pe_int) pa_nil))) pa_nil))) pa_nil)) (by rfl))
      (pss_cons (ps_set (i := 12) sc_law.nd rfl (by first | exact Or.inl rfl | exact Or.inr rfl) (pe_tup (pa_cons (pe_cl c__law_signed hr (show 2 ≤ 6 by decide) passL (pa_cons (pv 1) (pa_cons pe_int pa_nil))) (pa_cons (pe_cl c__law_signed hr (show 2 ≤ 6 by decide) passL (pa_cons (pv 1) (pa_cons pe_int pa_nil))) pa_nil))))
      (pss_cons (ps_set (i := 4) sc_law.nd rfl (by first | exact Or.inl rfl | exact Or.inr rfl) (pe_tup (pa_cons (pe_op op_sub (pe_op op_sub (pe_ix ix_seq (pv 12) pe_int (fun _ _ => rfl)) (pe_op op_mul (pv 8) (pe_ix ix_seq (pv 2) pe_int (fun _ _ => rfl)))) (pe_op op_mul (pv 10) (pe_ix ix_seq (pv 3) pe_int (fun _ _ => rfl)))) (pa_cons (pe_op op_sub (pe_op op_sub (pe_ix ix_seq (pv 12) pe_int (fun _ _ => rfl)) (pe_op op_mul (pv 8) (pe_ix ix_seq (pv 2) pe_int (fun _ _ => rfl)))) (pe_op op_mul (pv 10) (pe_ix ix_seq (pv 3) pe_int (fun _ _ => rfl)))) pa_nil))))
      (pss_cons (ps_if (PW.pt (pw_or (pt_cmpR op_isnot_bl (pe_cl c_comes_near hr (show 6 ≤ 6 by decide) passL (pa_cons (pv 4) (pa_cons (pv 2) (pa_cons (pv 3) pa_nil)))) pe_bl (nomark _)) (pw_or1 (pt_cmpR op_isnot_bl (pe_cl c_comes_near hr (show 6 ≤ 6 by decide) passL (pa_cons (pe_tup (pa_cons (pe_ix ix_seq (pv 4) pe_int (fun _ _ => rfl)) (pa_cons (pe_ix ix_seq (pv 4) pe_int (fun _ _ => rfl)) pa_nil))) (pa_cons (pv 3) (pa_cons (pv 2) pa_nil)))) pe_bl (nomark _))))) (pss_one (ps_ret pe_bl)) pss_nil)
      (pss_cons (ps_set (i := 13) sc_law.nd rfl (by first | exact Or.inl rfl | exact Or.inr rfl) (pe_op op_addA pe_int (pe_cl c__law_taken hr (show 1 ≤ 6 by decide) passL (pa_cons (pv 1) (pa_cons (pe_op op_shl pe_int pe_int) pa_nil)))))
      (pss_cons (ps_set (i := 14) sc_law.nd rfl (by first | exact Or.inl rfl | exact Or.inr rfl) (pe_cl c_comes_near hr (show 6 ≤ 6 by decide) passL (pa_cons (pe_tup (pa_cons (pe_op op_sub (pe_op op_sub pe_int (pe_op op_mul (pv 13) (pv 8))) (pe_op op_mul (pe_op op_mul (pv 13) pe_int) (pv 10))) (pa_cons pe_int pa_nil))) (pa_cons (pe_tup (pa_cons (pv 13) (pa_cons pe_int pa_nil))) (pa_cons (pe_tup (pa_cons (pe_op op_mul pe_int (pv 13)) (pa_cons pe_int pa_nil))) pa_nil)))))
      (pss_cons (ps_set (i := 15) sc_law.nd rfl (by first | exact Or.inl rfl | exact Or.inr rfl) (pe_cl c_comes_near hr (show 6 ≤ 6 by decide) passL (pa_cons (pe_tup (pa_cons pe_int (pa_cons pe_int pa_nil))) (pa_cons (pe_tup (pa_cons (pe_op op_mul pe_int (pv 13)) (pa_cons pe_int pa_nil))) (pa_cons (pe_tup (pa_cons (pe_op op_mul pe_int (pv 13)) (pa_cons pe_int pa_nil))) pa_nil)))))
      (pss_cons (ps_set (i := 16) sc_law.nd rfl (by first | exact Or.inl rfl | exact Or.inr rfl) (pe_cl c_comes_near hr (show 6 ≤ 6 by decide) passL (pa_cons (pe_tup (pa_cons (pv 11) (pa_cons pe_int pa_nil))) (pa_cons (pe_tup (pa_cons (pe_op op_sub pe_int (pe_op op_mul pe_int (pv 13))) (pa_cons pe_int pa_nil))) (pa_cons (pe_tup (pa_cons (pe_op op_mul pe_int (pv 13)) (pa_cons pe_int pa_nil))) pa_nil)))))
      (pss_cons (ps_set (i := 17) sc_law.nd rfl (by first | exact Or.inl rfl | exact Or.inr rfl) (pe_op op_mod (pe_callTy (call_int1.or call_int_str) (by rfl) m_int bt_int (pa_cons (pv 11) pa_nil)) (pe_op op_mul pe_int (pv 13))))
      (pss_one (ps_ret (pe_and (pe_cmpR op_is_bl (pv 14) pe_bl (nomark _)) (pe_and (pe_cmpR op_is_bl (pv 15) pe_bl (nomark _)) (pe_one (pe_cmpR (op_eqA hr.units) (pv 16) (pe_cmpR op_lt (pe_callB (call_min2 rfl) (by rfl) m_min bb_min (pa_cons (pv 17) (pa_cons (pe_op op_sub (pe_op op_mul pe_int (pv 13)) (pv 17)) pa_nil))) pe_int (nomark _)) (nomark _))))))))))))))))))))))))),
    fn_D h fun ds o hk hR => ?_⟩)
  try dsimp only [L2.cxOf]
  obtain ⟨ns, rfl, rfl⟩ := hR
  let t0 : RowS := ⟨ns, 0, 10807, 0, by decide, by decide, by decide⟩
  walk_at "zq"
  refine zw_lstC ?_
  walk_at "zq"
  walk_at "zt"
  intro p
  walk_at "zq"
  refine ⟨p, _, _, _, _, rfl, m0, allD_cons allD_nil, rfl, ⟨t0, 4, rfl, rfl, by decide, by decide, fun p0 t1 l1 h1 => ⟨_, _, rfl, .here, ?_⟩⟩⟩
  clear t0
  walk_at "zq"
  refine ⟨p, _, _, _, _, rfl, m0, allD_cons allD_nil, rfl, ⟨t1, 3, rfl, rfl, by decide, by decide, fun p1 t2 l2 h2 => ⟨_, _, rfl, .here, ?_⟩⟩⟩
  clear t1
  walk_at "zq"
  walk_at "zt"
  walk_at "zq"
  refine ⟨p, _, _, _, _, rfl, m0, allD_cons allD_nil, rfl, ⟨t2, 4, rfl, rfl, by decide, by decide, fun q0 t1 l3 h3 => ⟨_, _, rfl, .here, ?_⟩⟩⟩
  clear t2
  walk_at "zq"
  refine ⟨p, _, _, _, _, rfl, m0, allD_cons allD_nil, rfl, ⟨t1, 3, rfl, rfl, by decide, by decide, fun q1 t2 l4 h4 => ⟨_, _, rfl, .here, ?_⟩⟩⟩
  clear t1
  walk_at "zq"
  walk_at "zt"
  walk_at "zq"
  refine ⟨p, _, _, _, _, rfl, m0, allD_cons allD_nil, rfl, ⟨t2, 14, rfl, rfl, by decide, by decide, fun x t1 l5 h5 => ⟨_, _, rfl, .here, ?_⟩⟩⟩
  clear t2
  walk_at "zq"
  refine ⟨p, _, _, _, _, rfl, m0, allD_cons allD_nil, rfl, ⟨t1, 9, rfl, rfl, by decide, by decide, fun y t2 l6 h6 => ⟨_, _, rfl, .here, ?_⟩⟩⟩
  clear t1
  walk_at "zq"
  walk_at "zt"
  have F0 : Few p0 p1 q0 q1 := ⟨⟨l1, h1⟩, ⟨l2, h2⟩, by omega, by omega, .inr ⟨⟨l3, h3⟩, l4, h4⟩⟩
  clear l1 h1 l2 h2 l3 h3 l4 h4
  refine zs_seq (zs_nx (N := fun S2 M2 => ∃ (t : RowS) (p0 p1 q0 q1 : Int), S2 = [some (.d (.list (ns.map .int))), some (.c p), some (.d (pr p0 p1)), some (.d (pr q0 q1)), some (.d (pr x y)), none, none, none, none, none, none, none, none, none, none, none, none, none] ∧ M2 = [(p, true, .lst t.d)] ∧ Few p0 p1 q0 q1) ?_ ?_)
  · walk_at "zq"
    refine ⟨p, _, _, _, _, rfl, m0, allD_cons allD_nil, rfl, ⟨t2, 3, rfl, rfl, by decide, by decide, fun v t1 h0 hv => ⟨_, _, rfl, .here, ?_⟩⟩⟩
    walk_at "zq"
    refine ⟨fun h => ?_, fun h => ?_⟩
    · walk_at "zq"
      refine zw_lstD ?_
      walk_at "zq"
      walk_at "zt"
      walk_at "zq"
      refine ⟨p, _, _, _, _, rfl, m0, allD_cons allD_nil, rfl, ⟨t1, _, rfl, rfl, by simp, by simp, fun k sg t3 hk => ⟨_, _, rfl, .here, ?_⟩⟩⟩
      have hsg : ∃ z : Int, sg = .int z ∧ -3 ≤ z ∧ z ≤ 3 := by
        have hm := List.mem_of_getElem? hk
        simp only [List.mem_cons, List.not_mem_nil, or_false] at hm
        rcases hm with rfl | rfl | rfl | rfl <;> exact ⟨_, rfl, by decide, by decide⟩
      obtain ⟨z, rfl, z1, z2⟩ := hsg
      have hm := mul_abs ⟨z1, z2⟩ F0.ha
      walk_at "zq"
      refine zo_mul (.inl ⟨by omega, by omega⟩) ?_
      walk_at "zq"
      refine zo_mul (.inr ⟨by decide, by decide⟩) ?_
      walk_at "zq"
      walk_at "zt"
      walk_at "zq"
      walk_at "zt"
      rw [Int.mul_zero]
      exact ⟨t3, p0, 0, z * p0, 0, rfl, rfl, ⟨F0.ha, by decide, by omega, by decide, .inl (by grind)⟩⟩
    · walk_at "zq"
      exact ⟨t1, p0, p1, q0, q1, rfl, rfl, F0⟩
  rintro S2 M2 ⟨t3, p0, p1, q0, q1, rfl, rfl, F1⟩
  clear F0
  refine zs_seq (zs_nx (N := fun S2 M2 => ∃ (t : RowS) (p0 p1 q0 q1 : Int) (c5 : Option ZV), S2 = [some (.d (.list (ns.map .int))), some (.c p), some (.d (pr p0 p1)), some (.d (pr q0 q1)), some (.d (pr x y)), c5, none, none, none, none, none, none, none, none, none, none, none, none] ∧ M2 = [(p, true, .lst t.d)] ∧ Few p0 p1 q0 q1) ?_ ?_)
  · walk_at "zq"
    refine ⟨p, _, _, _, _, rfl, m0, allD_cons allD_nil, rfl, ⟨t3, 4, rfl, rfl, by decide, by decide, fun v t1 h0 hv => ⟨_, _, rfl, .here, ?_⟩⟩⟩
    walk_at "zq"
    refine ⟨fun h => ?_, fun h => ?_⟩
    · walk_at "zq"
      refine zw_lstD ?_
      walk_at "zq"
      walk_at "zt"
      walk_at "zq"
      refine ⟨p, _, _, _, _, rfl, m0, allD_cons allD_nil, rfl, ⟨t1, _, rfl, rfl, by simp, by simp, fun k sg t3 hk => ⟨_, _, rfl, .here, ?_⟩⟩⟩
      have hsg : ∃ z : Int, sg = .int z ∧ -3 ≤ z ∧ z ≤ 3 := by
        have hm := List.mem_of_getElem? hk
        simp only [List.mem_cons, List.not_mem_nil, or_false] at hm
        rcases hm with rfl | rfl | rfl <;> exact ⟨_, rfl, by decide, by decide⟩
      obtain ⟨z, rfl, z1, z2⟩ := hsg
      have hm := mul_abs ⟨z1, z2⟩ F1.ha
      have hm2 := mul_abs ⟨z1, z2⟩ F1.hb
      walk_at "zq"
      refine zo_mul (.inl ⟨by omega, by omega⟩) ?_
      walk_at "zq"
      refine zo_mul (.inl ⟨by omega, by omega⟩) ?_
      walk_at "zq"
      walk_at "zt"
      exact ⟨t3, p0, p1, z * p0, z * p1, _, rfl, rfl, ⟨F1.ha, F1.hb, by omega, by omega, .inl (by grind)⟩⟩
    · walk_at "zq"
      exact ⟨t1, p0, p1, q0, q1, _, rfl, rfl, F1⟩
  clear F1 p0 p1 q0 q1
  rintro S2 M2 ⟨t, p0, p1, q0, q1, c5, rfl, rfl, F⟩
  have hx : -14 ≤ x ∧ x ≤ 14 := ⟨l5, h5⟩
  have hy : -9 ≤ y ∧ y ≤ 9 := ⟨l6, h6⟩
  walk_at "zq"
  walk_at "zt"
  walk_at "zq"
  refine ⟨by decide, by decide, fun i S2 M2 => ∃ (due : Option Int) (both : Bool) (c8 c9 c10 : Option ZV), S2 = [some (.d (.list (ns.map .int))), some (.c p), some (.d (pr p0 p1)), some (.d (pr q0 q1)), some (.d (pr x y)), c5, some (.d (optD due)), some (.d (.bool both)), c8, c9, c10, none, none, none, none, none, none, none] ∧ M2 = [(p, true, .lst t.d)] ∧ DueOk x y p0 p1 i due ∧ BothOk x y p0 p1 q0 q1 i both, ⟨none, false, _, _, _, rfl, rfl, ⟨fun _ e => (nomatch e), fun _ j h0 h1 => by omega⟩, ⟨fun e => (nomatch e), fun ⟨k, l, hk, _⟩ => by omega⟩⟩, ?_, ?_⟩
  · rintro i S2 M2 hi ⟨due, both, c8, c9, c10, rfl, rfl, hD, hB⟩
    have hi2 : i < 110 := by omega
    generalize hA : (0 + (i : Int)) = A
    have hA2 : A = i := by omega
    have hAs : Sm A := ⟨by omega, by omega⟩
    walk_at "zq"
    refine zo_mul hAs.l ?_
    walk_at "zq"
    refine zo_mul hAs.l ?_
    walk_at "zq"
    walk_at "zt"
    refine zs_seq (zs_nx (N := fun S3 M3 => ∃ (due' : Option Int), S3 = [some (.d (.list (ns.map .int))), some (.c p), some (.d (pr p0 p1)), some (.d (pr q0 q1)), some (.d (pr x y)), c5, some (.d (optD due')), some (.d (.bool both)), some (.d (.int A)), some (.d (pr (x + A * p0) (y + A * p1))), c10, none, none, none, none, none, none, none] ∧ M3 = [(p, true, .lst t.d)] ∧ DueOk x y p0 p1 (i + 1) due') ?_ ?_)
    · cases due with
      | some k =>
        dsimp only [optD]
        walk_at "zq"
        exact ⟨some k, rfl, rfl, due_keep hD fun e => nomatch e⟩
      | none =>
        dsimp only [optD]
        walk_at "zq"
        by_cases hN : Near (x + A * p0) (y + A * p1)
        · rw [nr_t hN]
          walk_at "zq"
          exact ⟨some A, rfl, rfl, due_step hD hA2 hN⟩
        · rw [nr_f hN]
          walk_at "zq"
          exact ⟨none, rfl, rfl, due_keep hD fun _ => by rw [← hA2]; exact hN⟩
    rintro S3 M3 ⟨due', rfl, rfl, hD'⟩
    clear hD
    cases both with
    | true =>
      walk_at "zq"
      refine ⟨by decide, by decide, fun j S4 M4 => ∃ c10, S4 = [some (.d (.list (ns.map .int))), some (.c p), some (.d (pr p0 p1)), some (.d (pr q0 q1)), some (.d (pr x y)), c5, some (.d (optD due')), some (.d (.bool true)), some (.d (.int A)), some (.d (pr (x + A * p0) (y + A * p1))), c10, none, none, none, none, none, none, none] ∧ M4 = [(p, true, .lst t.d)], ⟨_, rfl, rfl⟩, fun j S4 M4 hj => absurd hj (Nat.not_lt_zero _), ?_⟩
      rintro S4 M4 ⟨c10, rfl, rfl⟩
      exact ⟨due', true, _, _, _, rfl, rfl, hD', ⟨fun _ => by obtain ⟨k, l, hk, hl, h⟩ := hB.mp rfl; exact ⟨k, l, ⟨hk.1, by omega⟩, hl, h⟩, fun _ => rfl⟩⟩
    | false =>
      walk_at "zq"
      refine ⟨by decide, by decide, fun j S4 M4 => ∃ (bb : Bool) (c10 : Option ZV), S4 = [some (.d (.list (ns.map .int))), some (.c p), some (.d (pr p0 p1)), some (.d (pr q0 q1)), some (.d (pr x y)), c5, some (.d (optD due')), some (.d (.bool bb)), some (.d (.int A)), some (.d (pr (x + A * p0) (y + A * p1))), c10, none, none, none, none, none, none, none] ∧ M4 = [(p, true, .lst t.d)] ∧ (bb = true ↔ ∃ l : Int, 0 ≤ l ∧ l < j ∧ At x y p0 p1 q0 q1 A l), ⟨false, _, rfl, rfl, ⟨fun e => (nomatch e), fun ⟨l, h0, h1, _⟩ => by omega⟩⟩, ?_, ?_⟩
      · rintro j S4 M4 hj ⟨bb, c10, rfl, rfl, hbb⟩
        have hj2 : j < 110 := hj
        generalize hL : (0 + (j : Int)) = L
        have hL2 : L = j := by omega
        have hLs : Sm L := ⟨by omega, by omega⟩
        walk_at "zq"
        refine ⟨fun h => ?_, fun h => ?_⟩
        · subst h
          exact ⟨true, _, rfl, rfl, ⟨fun _ => by obtain ⟨l, h0, h1, h2⟩ := hbb.mp rfl; exact ⟨l, h0, by omega, h2⟩, fun _ => rfl⟩⟩
        · subst h
          walk_at "zq"
          refine zo_mul hLs.l ?_
          walk_at "zq"
          refine zo_mul hLs.l ?_
          walk_at "zq"
          by_cases hN : Near (x + A * p0 + L * q0) (y + A * p1 + L * q1)
          · rw [nr_t hN]
            exact ⟨fun _ => ⟨L, by omega, by omega, hN⟩, fun _ => rfl⟩
          · rw [nr_f hN]
            refine ⟨fun e => (nomatch e), fun ⟨l, h0, h1, h2⟩ => ?_⟩
            by_cases z : l = L
            · rw [z] at h2
              exact absurd h2 hN
            · exact hbb.mpr ⟨l, h0, by omega, h2⟩
      · rintro S4 M4 ⟨bb, c10, rfl, rfl, hbb⟩
        refine ⟨due', bb, _, _, _, rfl, rfl, hD', ?_⟩
        unfold BothOk at hB ⊢
        rw [hbb]
        constructor
        · rintro ⟨l, h0, h1, h2⟩
          exact ⟨A, l, ⟨by omega, by omega⟩, ⟨h0, h1⟩, h2⟩
        · rintro ⟨k, l, ⟨k0, k1⟩, ⟨h0, h1⟩, h2⟩
          by_cases z : k = A
          · subst z
            exact ⟨l, h0, h1, h2⟩
          · have := hB.mpr ⟨k, l, ⟨k0, by omega⟩, ⟨h0, h1⟩, h2⟩
            cases this
  · rintro S2 M2 ⟨due, both, c8, c9, c10, rfl, rfl, hD, hB⟩
    have hfirst := due_first hx hy hD
    have hcomes := both_comes hx hy F hB
    obtain ⟨fa, fb, fc, fd, _⟩ := F
    clear hD hB
    walk_at "zq"
    refine ⟨_, _, by walk_at "zd", rfl, ⟨x, y, p0, p1, rfl, ⟨by omega, by omega⟩, ⟨by omega, by omega⟩, ⟨by omega, by omega⟩, ⟨by omega, by omega⟩, ⟨by omega, by omega⟩, ⟨by omega, by omega⟩, hfirst⟩, ?_⟩
    walk_at "zq"
    refine ⟨_, _, by walk_at "zd", rfl, ⟨optD due, rfl, by cases due <;> rfl, rfl⟩, ?_⟩
    walk_at "zq"
    refine ⟨_, _, by walk_at "zd", rfl, ⟨x, y, p0, p1, q0, q1, both, rfl, ⟨⟨by omega, by omega⟩, by omega, by omega⟩, ⟨⟨by omega, by omega⟩, by omega, by omega⟩, ⟨⟨by omega, by omega⟩, by omega, by omega⟩, ⟨⟨by omega, by omega⟩, by omega, by omega⟩, ⟨⟨by omega, by omega⟩, by omega, by omega⟩, hcomes, rfl⟩, ?_⟩
    walk_at "zq"
    refine ⟨_, _, by walk_at "zd", rfl, ⟨.bool both, rfl, rfl, rfl⟩, ?_⟩
    clear hfirst hcomes fa fb fc fd hx hy l5 h5 l6 h6
    refine ⟨true, rfl, fun h => Bool.noConfusion h, fun _ => zs_next ?_⟩
    refine zs_weak (S' := [some (.d (.list (ns.map .int))), some (.c p), none, none, none, none, none, none, none, none, none, none, none, none, none, none, none, none]) (M' := [(p, true, .lst t.d)]) ?_ rfl (fun i z h => ?_) (List.Sublist.refl _)
    case refine_2 =>
      match i, h with
      | 0, h => exact h
      | 1, h => exact h
      | n + 18, h => simp at h
    walk_at "zq"
    refine zo_shl ⟨by decide, by decide, by decide⟩ ?_
    walk_at "zq"
    refine zo_shl ⟨by decide, by decide, by decide⟩ ?_
    walk_at "zq"
    refine ⟨p, _, _, _, _, rfl, m0, allD_cons allD_nil, rfl, ⟨t, _, rfl, rfl, by decide, by decide, fun a t1 a0 a1 => ⟨_, _, rfl, .here, ?_⟩⟩⟩
    walk_at "zq"
    refine zo_shl ⟨by decide, by decide, by decide⟩ ?_
    walk_at "zq"
    refine ⟨p, _, _, _, _, rfl, m0, allD_cons allD_nil, rfl, ⟨t1, _, rfl, rfl, by decide, by decide, fun b t2 b0 b1 => ⟨_, _, rfl, .here, ?_⟩⟩⟩
    walk_at "zq"
    refine zo_shl ⟨by decide, by decide, by decide⟩ ?_
    walk_at "zq"
    refine ⟨p, _, _, _, _, rfl, m0, allD_cons allD_nil, rfl, ⟨t2, _, rfl, rfl, by decide, by decide, fun p0 t3 l1 h1 => ⟨_, _, rfl, .here, ?_⟩⟩⟩
    walk_at "zq"
    refine zo_shl ⟨by decide, by decide, by decide⟩ ?_
    walk_at "zq"
    refine ⟨p, _, _, _, _, rfl, m0, allD_cons allD_nil, rfl, ⟨t3, _, rfl, rfl, by decide, by decide, fun p1 t4 l2 h2 => ⟨_, _, rfl, .here, ?_⟩⟩⟩
    walk_at "zq"
    walk_at "zt"
    walk_at "zq"
    refine zo_shl ⟨by decide, by decide, by decide⟩ ?_
    walk_at "zq"
    refine ⟨p, _, _, _, _, rfl, m0, allD_cons allD_nil, rfl, ⟨t4, _, rfl, rfl, by decide, by decide, fun q0 t5 l3 h3 => ⟨_, _, rfl, .here, ?_⟩⟩⟩
    walk_at "zq"
    refine zo_shl ⟨by decide, by decide, by decide⟩ ?_
    walk_at "zq"
    refine ⟨p, _, _, _, _, rfl, m0, allD_cons allD_nil, rfl, ⟨t5, _, rfl, rfl, by decide, by decide, fun q1 t6 l4 h4 => ⟨_, _, rfl, .here, ?_⟩⟩⟩
    walk_at "zq"
    walk_at "zt"
    walk_at "zq"
    refine ⟨p, _, _, _, _, rfl, m0, allD_cons allD_nil, rfl, ⟨t6, 2, rfl, rfl, by decide, by decide, fun g0 t7 g1 g2 => ⟨_, _, rfl, .here, ?_⟩⟩⟩
    walk_at "zq"
    refine ⟨p, _, _, _, _, rfl, m0, allD_cons allD_nil, rfl, ⟨t7, 2, rfl, rfl, by decide, by decide, fun g3 t8 g4 g5 => ⟨_, _, rfl, .here, ?_⟩⟩⟩
    walk_at "zq"
    walk_at "zt"
    have e40 : (1 : Int) * 2 ^ (40 : Int).toNat = 1099511627776 := by decide
    have e50 : (1 : Int) * 2 ^ (50 : Int).toNat = 1125899906842624 := by decide
    rw [e40] at a1 b1
    rw [e50] at l1 h1 l2 h2 l3 h3 l4 h4
    have sa : Sm a := ⟨by omega, by omega⟩
    have sb : Sm b := ⟨by omega, by omega⟩
    walk_at "zq"
    refine zo_mul sa.l ?_
    walk_at "zq"
    refine zo_mul sb.l ?_
    walk_at "zq"
    refine zo_mul sa.l ?_
    walk_at "zq"
    refine zo_mul sb.l ?_
    walk_at "zq"
    walk_at "zt"
    have m1' := mul_abs (x := a) (y := p0) (A := 1099511627776) (B := 1125899906842624) ⟨by omega, by omega⟩ ⟨l1, h1⟩
    have m2' := mul_abs (x := a) (y := p1) (A := 1099511627776) (B := 1125899906842624) ⟨by omega, by omega⟩ ⟨l2, h2⟩
    have m3' := mul_abs (x := b) (y := q0) (A := 1099511627776) (B := 1125899906842624) ⟨by omega, by omega⟩ ⟨l3, h3⟩
    have m4' := mul_abs (x := b) (y := q1) (A := 1099511627776) (B := 1125899906842624) ⟨by omega, by omega⟩ ⟨l4, h4⟩
    have c1 : Comes (g0 - a * p0 - b * q0) (g3 - a * p1 - b * q1) p0 p1 q0 q1 := comes_at.mpr ⟨a, b, a0, b0, ⟨by omega, by omega⟩, by omega, by omega⟩
    have c2 : Comes (g0 - a * p0 - b * q0) (g3 - a * p1 - b * q1) q0 q1 p0 p1 := comes_at.mpr ⟨b, a, b0, a0, ⟨by omega, by omega⟩, by omega, by omega⟩
    have i1 : InFar (g0 - a * p0 - b * q0) := ⟨by omega, by omega⟩
    have i2 : InFar (g3 - a * p1 - b * q1) := ⟨by omega, by omega⟩
    have ip : (InFar p0 ∧ InFar p1) ∧ InFar q0 ∧ InFar q1 := ⟨⟨⟨by omega, by omega⟩, by omega, by omega⟩, ⟨by omega, by omega⟩, by omega, by omega⟩
    have sp : (Sm p0 ∧ Sm p1) ∧ Sm q0 ∧ Sm q1 := ⟨⟨⟨by omega, by omega⟩, by omega, by omega⟩, ⟨by omega, by omega⟩, by omega, by omega⟩
    clear m1' m2' m3' m4' l1 h1 l2 h2 l3 h3 l4 h4 g1 g2 g4 g5
    walk_at "zq"
    refine ⟨_, _, by walk_at "zd", rfl, ⟨_, _, _, _, _, _, true, rfl, ⟨i1, i2⟩, ip.1, ip.2, sp.1, sp.2, ⟨fun _ => c1, fun _ => rfl⟩, rfl⟩, ?_⟩
    walk_at "zq"
    walk_at "zt"
    walk_at "zq"
    refine ⟨_, _, by walk_at "zd", rfl, ⟨_, _, _, _, _, _, true, rfl, ⟨i1, i2⟩, ip.2, ip.1, sp.2, sp.1, ⟨fun _ => c2, fun _ => rfl⟩, rfl⟩, ?_⟩
    walk_at "zq"
    refine zo_shl ⟨by decide, by decide, by decide⟩ ?_
    walk_at "zq"
    refine ⟨p, _, _, _, _, rfl, m0, allD_cons allD_nil, rfl, ⟨t8, _, rfl, rfl, by decide, by decide, fun v t9 n0 n1 => ⟨_, _, rfl, .here, ?_⟩⟩⟩
    have e60 : (1 : Int) * 2 ^ (60 : Int).toNat = 1152921504606846976 := by decide
    have e150 : (0 : Int) ≤ 1 * 2 ^ (150 : Int).toNat ∧ (1 : Int) * 2 ^ (150 : Int).toNat ≤ 1427247692705959881058285969449495136382746624 := by decide
    rw [e60] at n1
    generalize (1 : Int) * 2 ^ (150 : Int).toNat = G at e150 ⊢
    obtain ⟨G0, G1⟩ := e150
    walk_at "zq"
    generalize hn : 3 + v = n
    have hn3 : 3 ≤ n := by omega
    have hnb : n < 1152921504606846979 := by omega
    have sn : Sm n := ⟨by omega, by omega⟩
    clear i1 i2 ip sp c1 c2
    refine zo_mul sn.l ?_
    walk_at "zq"
    refine zo_mul sn.l ?_
    walk_at "zq"
    refine zo_mul sb.r ?_
    walk_at "zq"
    walk_at "zt"
    walk_at "zq"
    walk_at "zt"
    walk_at "zq"
    refine zo_mul sn.r ?_
    walk_at "zq"
    walk_at "zt"
    walk_at "zq"
    have m1' := mul_abs (x := n) (y := a) (A := 1152921504606846979) (B := 1099511627776) ⟨by omega, by omega⟩ ⟨by omega, by omega⟩
    have m2' := mul_abs (x := n * 2) (y := b) (A := 2305843009213693958) (B := 1099511627776) ⟨by omega, by omega⟩ ⟨by omega, by omega⟩
    have s0 : InFar 0 ∧ Sm 0 := ⟨⟨by decide, by decide⟩, by decide, by decide⟩
    have c1 : Comes (0 - n * a - n * 2 * b) 0 n 0 (2 * n) 0 := comes_at.mpr ⟨a, b, a0, b0, by
      have e : 0 - n * a - n * 2 * b + a * n + b * (2 * n) = 0 := by grind
      unfold At
      rw [e, Int.mul_zero, Int.mul_zero]
      exact ⟨⟨by decide, by decide⟩, by decide, by decide⟩⟩
    refine ⟨_, _, by walk_at "zd", rfl, ⟨_, _, _, _, _, _, true, rfl, ⟨⟨by omega, by omega⟩, s0.1⟩, ⟨⟨by omega, by omega⟩, s0.1⟩, ⟨⟨by omega, by omega⟩, s0.1⟩, ⟨sn, s0.2⟩, ⟨⟨by omega, by omega⟩, s0.2⟩, ⟨fun _ => c1, fun _ => rfl⟩, rfl⟩, ?_⟩
    clear m1' m2' c1
    walk_at "zq"
    walk_at "zt"
    walk_at "zq"
    refine zo_mul sn.r ?_
    walk_at "zq"
    walk_at "zt"
    walk_at "zq"
    refine zo_mul sn.r ?_
    walk_at "zq"
    walk_at "zt"
    walk_at "zq"
    have c2 : ¬ Comes 5 3 (7 * n) 0 (5 * n) 0 := fun h => by
      obtain ⟨k, l, _, _, _, h3, h4⟩ := comes_at.mp h
      rw [Int.mul_zero, Int.mul_zero] at h4
      omega
    refine ⟨_, _, by walk_at "zd", rfl, ⟨_, _, _, _, _, _, false, rfl, ⟨⟨by decide, by decide⟩, by decide, by decide⟩, ⟨⟨by omega, by omega⟩, s0.1⟩, ⟨⟨by omega, by omega⟩, s0.1⟩, ⟨⟨by omega, by omega⟩, s0.2⟩, ⟨⟨by omega, by omega⟩, s0.2⟩, ⟨fun h => (nomatch h), fun h => absurd h c2⟩, rfl⟩, ?_⟩
    clear c2
    walk_at "zq"
    walk_at "zt"
    walk_at "zq"
    refine zo_mul sn.r ?_
    walk_at "zq"
    walk_at "zt"
    walk_at "zq"
    refine zo_mul sn.r ?_
    walk_at "zq"
    walk_at "zt"
    walk_at "zq"
    refine ⟨_, _, by walk_at "zd", rfl, ⟨_, _, _, _, _, _, decide ((if 3 * n - G % (3 * n) < G % (3 * n) then 3 * n - G % (3 * n) else G % (3 * n)) < 3), rfl, ⟨⟨by omega, by omega⟩, s0.1⟩, ⟨⟨by omega, by omega⟩, s0.1⟩, ⟨⟨by omega, by omega⟩, s0.1⟩, ⟨⟨by omega, by omega⟩, s0.2⟩, ⟨⟨by omega, by omega⟩, s0.2⟩, ?_, rfl⟩, ?_⟩
    · rw [decide_eq_true_eq]
      exact back_iff hn3 G0
    walk_at "zq"
    refine zo_mul sn.r ?_
    walk_at "zq"
    refine zo_mod (j := 3 * n) (by omega) ?_
    walk_at "zq"
    refine zo_mul sn.r ?_
    walk_at "zq"
    rw [beq_self_eq_true]
end K07
namespace K07
open PySem PySem.Spec PyProof.Rows L2 Z
end K07
namespace K07
open PySem PySem.Spec PyProof.Rows L2 Z
theorem all_mk {l : PySem.W.OpenLaw} {w : World} {K : Fg} {h : Heap} {mg : Str → Option Value} {fa C_LineReach C_NoReach C_PlaneReach f_is_between f_is_move f_check_move f_minus f_times f_cross f_how_often f_NoReach_locate f_NoReach_leads f_PlaneReach_init f_PlaneReach_locate f_PlaneReach_leads f_inverse f_LineReach_init f_LineReach_locate f_LineReach_leads f_line_reach f_reach_of f_places_near f_first_touch f_first_near_of f_comes_near f_law_taken f_law_signed f_law_pick f_law_alike f_law : Addr} (X : K.In h) (G : h.Ns mainGlobals mg) (hfa : mg "law" = some (.ref fa))
    {t_FAR : Tok}
    {t_NEAR : Tok}
    {od_is_between an_is_between : Option Addr} {sl_is_between : Array (Option Value)} {oc_is_between kV_is_between dc_is_between pm_is_between cd_is_between ct_is_between : Value}
    {od_is_move an_is_move : Option Addr} {sl_is_move : Array (Option Value)} {oc_is_move kV_is_move dc_is_move pm_is_move cd_is_move ct_is_move : Value}
    {od_check_move an_check_move : Option Addr} {sl_check_move : Array (Option Value)} {oc_check_move kV_check_move dc_check_move pm_check_move cd_check_move ct_check_move : Value}
    {od_minus an_minus : Option Addr} {sl_minus : Array (Option Value)} {oc_minus kV_minus dc_minus pm_minus cd_minus ct_minus : Value}
    {od_times an_times : Option Addr} {sl_times : Array (Option Value)} {oc_times kV_times dc_times pm_times cd_times ct_times : Value}
    {od_cross an_cross : Option Addr} {sl_cross : Array (Option Value)} {oc_cross kV_cross dc_cross pm_cross cd_cross ct_cross : Value}
    {od_how_often an_how_often : Option Addr} {sl_how_often : Array (Option Value)} {oc_how_often kV_how_often dc_how_often pm_how_often cd_how_often ct_how_often : Value}
    {od_NoReach_locate an_NoReach_locate : Option Addr} {sl_NoReach_locate : Array (Option Value)} {oc_NoReach_locate kV_NoReach_locate dc_NoReach_locate pm_NoReach_locate cd_NoReach_locate ct_NoReach_locate : Value}
    {od_NoReach_leads an_NoReach_leads : Option Addr} {sl_NoReach_leads : Array (Option Value)} {oc_NoReach_leads kV_NoReach_leads dc_NoReach_leads pm_NoReach_leads cd_NoReach_leads ct_NoReach_leads : Value}
    {od_PlaneReach_init an_PlaneReach_init : Option Addr} {sl_PlaneReach_init : Array (Option Value)} {oc_PlaneReach_init kV_PlaneReach_init dc_PlaneReach_init pm_PlaneReach_init cd_PlaneReach_init ct_PlaneReach_init : Value}
    {od_PlaneReach_locate an_PlaneReach_locate : Option Addr} {sl_PlaneReach_locate : Array (Option Value)} {oc_PlaneReach_locate kV_PlaneReach_locate dc_PlaneReach_locate pm_PlaneReach_locate cd_PlaneReach_locate ct_PlaneReach_locate : Value}
    {od_PlaneReach_leads an_PlaneReach_leads : Option Addr} {sl_PlaneReach_leads : Array (Option Value)} {oc_PlaneReach_leads kV_PlaneReach_leads dc_PlaneReach_leads pm_PlaneReach_leads cd_PlaneReach_leads ct_PlaneReach_leads : Value}
    {od_inverse an_inverse : Option Addr} {sl_inverse : Array (Option Value)} {oc_inverse kV_inverse dc_inverse pm_inverse cd_inverse ct_inverse : Value}
    {od_LineReach_init an_LineReach_init : Option Addr} {sl_LineReach_init : Array (Option Value)} {oc_LineReach_init kV_LineReach_init dc_LineReach_init pm_LineReach_init cd_LineReach_init ct_LineReach_init : Value}
    {od_LineReach_locate an_LineReach_locate : Option Addr} {sl_LineReach_locate : Array (Option Value)} {oc_LineReach_locate kV_LineReach_locate dc_LineReach_locate pm_LineReach_locate cd_LineReach_locate ct_LineReach_locate : Value}
    {od_LineReach_leads an_LineReach_leads : Option Addr} {sl_LineReach_leads : Array (Option Value)} {oc_LineReach_leads kV_LineReach_leads dc_LineReach_leads pm_LineReach_leads cd_LineReach_leads ct_LineReach_leads : Value}
    {od_line_reach an_line_reach : Option Addr} {sl_line_reach : Array (Option Value)} {oc_line_reach kV_line_reach dc_line_reach pm_line_reach cd_line_reach ct_line_reach : Value}
    {od_reach_of an_reach_of : Option Addr} {sl_reach_of : Array (Option Value)} {oc_reach_of kV_reach_of dc_reach_of pm_reach_of cd_reach_of ct_reach_of : Value}
    {od_places_near an_places_near : Option Addr} {sl_places_near : Array (Option Value)} {oc_places_near kV_places_near dc_places_near pm_places_near cd_places_near ct_places_near : Value}
    {od_first_touch an_first_touch : Option Addr} {sl_first_touch : Array (Option Value)} {oc_first_touch kV_first_touch dc_first_touch pm_first_touch cd_first_touch ct_first_touch : Value}
    {od_first_near_of an_first_near_of : Option Addr} {sl_first_near_of : Array (Option Value)} {oc_first_near_of kV_first_near_of dc_first_near_of pm_first_near_of cd_first_near_of ct_first_near_of : Value}
    {od_comes_near an_comes_near : Option Addr} {sl_comes_near : Array (Option Value)} {oc_comes_near kV_comes_near dc_comes_near pm_comes_near cd_comes_near ct_comes_near : Value}
    {od_law_taken an_law_taken : Option Addr} {sl_law_taken : Array (Option Value)} {oc_law_taken kV_law_taken dc_law_taken pm_law_taken cd_law_taken ct_law_taken : Value}
    {od_law_signed an_law_signed : Option Addr} {sl_law_signed : Array (Option Value)} {oc_law_signed kV_law_signed dc_law_signed pm_law_signed cd_law_signed ct_law_signed : Value}
    {od_law_pick an_law_pick : Option Addr} {sl_law_pick : Array (Option Value)} {oc_law_pick kV_law_pick dc_law_pick pm_law_pick cd_law_pick ct_law_pick : Value}
    {od_law_alike an_law_alike : Option Addr} {sl_law_alike : Array (Option Value)} {oc_law_alike kV_law_alike dc_law_alike pm_law_alike cd_law_alike ct_law_alike : Value}
    {od_law an_law : Option Addr} {sl_law : Array (Option Value)} {oc_law kV_law dc_law pm_law cd_law ct_law : Value}
    (a_LineReach : PySem.W.nsIn K mainGlobals "LineReach" = some (some (.ref C_LineReach)))
    (pg_LineReach : PySem.W.plainGet K C_LineReach Str.empty = true)
    (hd_LineReach : PySem.W.hasDictIn K C_LineReach = true)
    (po_LineReach : PySem.W.plainOver K C_LineReach = true)
    (sa_LineReach : PySem.W.findIn K (.ref C_LineReach) "__setattr__" = some (some (.builtin "object.__setattr__")))
    (mk_LineReach : PySem.W.makesIn K C_LineReach = true)
    (kc_LineReach : PySem.W.keepIn K (.ref C_LineReach) = true)
    (a_NoReach : PySem.W.nsIn K mainGlobals "NoReach" = some (some (.ref C_NoReach)))
    (pg_NoReach : PySem.W.plainGet K C_NoReach Str.empty = true)
    (hd_NoReach : PySem.W.hasDictIn K C_NoReach = true)
    (po_NoReach : PySem.W.plainOver K C_NoReach = true)
    (sa_NoReach : PySem.W.findIn K (.ref C_NoReach) "__setattr__" = some (some (.builtin "object.__setattr__")))
    (mk_NoReach : PySem.W.makesIn K C_NoReach = true)
    (kc_NoReach : PySem.W.keepIn K (.ref C_NoReach) = true)
    (a_PlaneReach : PySem.W.nsIn K mainGlobals "PlaneReach" = some (some (.ref C_PlaneReach)))
    (pg_PlaneReach : PySem.W.plainGet K C_PlaneReach Str.empty = true)
    (hd_PlaneReach : PySem.W.hasDictIn K C_PlaneReach = true)
    (po_PlaneReach : PySem.W.plainOver K C_PlaneReach = true)
    (sa_PlaneReach : PySem.W.findIn K (.ref C_PlaneReach) "__setattr__" = some (some (.builtin "object.__setattr__")))
    (mk_PlaneReach : PySem.W.makesIn K C_PlaneReach = true)
    (kc_PlaneReach : PySem.W.keepIn K (.ref C_PlaneReach) = true)
    (z_isinstance : PySem.W.nsIn K mainGlobals "isinstance" = some none)
    (z_int : PySem.W.nsIn K mainGlobals "int" = some none)
    (z_bool : PySem.W.nsIn K mainGlobals "bool" = some none)
    (z_len : PySem.W.nsIn K mainGlobals "len" = some none)
    (z_tuple : PySem.W.nsIn K mainGlobals "tuple" = some none)
    (z_FAR : PySem.W.nsIn K mainGlobals "FAR" = some (some (.int 1000000000000000000000000000000000000000000000000000000000000 t_FAR)))
    (na_PlaneReach_one : PySem.W.findIn K (.ref C_PlaneReach) "one" = some none)
    (na_PlaneReach_two : PySem.W.findIn K (.ref C_PlaneReach) "two" = some none)
    (na_PlaneReach_area : PySem.W.findIn K (.ref C_PlaneReach) "area" = some none)
    (na_LineReach_unit : PySem.W.findIn K (.ref C_LineReach) "unit" = some none)
    (na_LineReach_ones : PySem.W.findIn K (.ref C_LineReach) "ones" = some none)
    (na_LineReach_twos : PySem.W.findIn K (.ref C_LineReach) "twos" = some none)
    (na_LineReach_inverse : PySem.W.findIn K (.ref C_LineReach) "inverse" = some none)
    (z_gcd : PySem.W.nsIn K mainGlobals "gcd" = some (some (.builtin "math.gcd")))
    (in_NoReach : PySem.W.findIn K (.ref C_NoReach) "__init__" = some (some (.builtin "object.__init__")))
    (z_range : PySem.W.nsIn K mainGlobals "range" = some none)
    (z_NEAR : PySem.W.nsIn K mainGlobals "NEAR" = some (some (.int 2 t_NEAR)))
    (z_max : PySem.W.nsIn K mainGlobals "max" = some none)
    (z_min : PySem.W.nsIn K mainGlobals "min" = some none)
    (z_list : PySem.W.nsIn K mainGlobals "list" = some none)
    (z_str : PySem.W.nsIn K mainGlobals "str" = some none)
    (z_abs : PySem.W.nsIn K mainGlobals "abs" = some none)
    (a_is_between : PySem.W.nsIn K mainGlobals "is_between" = some (some (.ref f_is_between)))
    (l_is_between : K.lookup f_is_between = some ⟨oc_is_between, od_is_between, .func (PySem.W.fnOf "is_between" "is_between" (defArgs s_is_between) (defBody s_is_between) (defScope s_is_between) .none kV_is_between dc_is_between pm_is_between an_is_between cd_is_between ct_is_between), sl_is_between⟩)
    (c_is_between : PySem.W.codeIn K cd_is_between "is_between" = true)
    (k_is_between : PySem.W.keepIn K (.ref f_is_between) = true)
    (a_is_move : PySem.W.nsIn K mainGlobals "is_move" = some (some (.ref f_is_move)))
    (l_is_move : K.lookup f_is_move = some ⟨oc_is_move, od_is_move, .func (PySem.W.fnOf "is_move" "is_move" (defArgs s_is_move) (defBody s_is_move) (defScope s_is_move) .none kV_is_move dc_is_move pm_is_move an_is_move cd_is_move ct_is_move), sl_is_move⟩)
    (c_is_move : PySem.W.codeIn K cd_is_move "is_move" = true)
    (k_is_move : PySem.W.keepIn K (.ref f_is_move) = true)
    (a_check_move : PySem.W.nsIn K mainGlobals "check_move" = some (some (.ref f_check_move)))
    (l_check_move : K.lookup f_check_move = some ⟨oc_check_move, od_check_move, .func (PySem.W.fnOf "check_move" "check_move" (defArgs s_check_move) (defBody s_check_move) (defScope s_check_move) .none kV_check_move dc_check_move pm_check_move an_check_move cd_check_move ct_check_move), sl_check_move⟩)
    (c_check_move : PySem.W.codeIn K cd_check_move "check_move" = true)
    (k_check_move : PySem.W.keepIn K (.ref f_check_move) = true)
    (a_minus : PySem.W.nsIn K mainGlobals "minus" = some (some (.ref f_minus)))
    (l_minus : K.lookup f_minus = some ⟨oc_minus, od_minus, .func (PySem.W.fnOf "minus" "minus" (defArgs s_minus) (defBody s_minus) (defScope s_minus) .none kV_minus dc_minus pm_minus an_minus cd_minus ct_minus), sl_minus⟩)
    (c_minus : PySem.W.codeIn K cd_minus "minus" = true)
    (k_minus : PySem.W.keepIn K (.ref f_minus) = true)
    (a_times : PySem.W.nsIn K mainGlobals "times" = some (some (.ref f_times)))
    (l_times : K.lookup f_times = some ⟨oc_times, od_times, .func (PySem.W.fnOf "times" "times" (defArgs s_times) (defBody s_times) (defScope s_times) .none kV_times dc_times pm_times an_times cd_times ct_times), sl_times⟩)
    (c_times : PySem.W.codeIn K cd_times "times" = true)
    (k_times : PySem.W.keepIn K (.ref f_times) = true)
    (a_cross : PySem.W.nsIn K mainGlobals "cross" = some (some (.ref f_cross)))
    (l_cross : K.lookup f_cross = some ⟨oc_cross, od_cross, .func (PySem.W.fnOf "cross" "cross" (defArgs s_cross) (defBody s_cross) (defScope s_cross) .none kV_cross dc_cross pm_cross an_cross cd_cross ct_cross), sl_cross⟩)
    (c_cross : PySem.W.codeIn K cd_cross "cross" = true)
    (k_cross : PySem.W.keepIn K (.ref f_cross) = true)
    (a_how_often : PySem.W.nsIn K mainGlobals "how_often" = some (some (.ref f_how_often)))
    (l_how_often : K.lookup f_how_often = some ⟨oc_how_often, od_how_often, .func (PySem.W.fnOf "how_often" "how_often" (defArgs s_how_often) (defBody s_how_often) (defScope s_how_often) .none kV_how_often dc_how_often pm_how_often an_how_often cd_how_often ct_how_often), sl_how_often⟩)
    (c_how_often : PySem.W.codeIn K cd_how_often "how_often" = true)
    (k_how_often : PySem.W.keepIn K (.ref f_how_often) = true)
    (a_NoReach_locate : PySem.W.findIn K (.ref C_NoReach) "locate" = some (some (.ref f_NoReach_locate)))
    (i_NoReach_locate : PySem.W.isFn K (.ref f_NoReach_locate) = true)
    (l_NoReach_locate : K.lookup f_NoReach_locate = some ⟨oc_NoReach_locate, od_NoReach_locate, .func (PySem.W.fnOf "locate" "NoReach.locate" (defArgs s_NoReach_locate) (defBody s_NoReach_locate) (defScope s_NoReach_locate) .none kV_NoReach_locate dc_NoReach_locate pm_NoReach_locate an_NoReach_locate cd_NoReach_locate ct_NoReach_locate), sl_NoReach_locate⟩)
    (c_NoReach_locate : PySem.W.codeIn K cd_NoReach_locate "NoReach.locate" = true)
    (k_NoReach_locate : PySem.W.keepIn K (.ref f_NoReach_locate) = true)
    (a_NoReach_leads : PySem.W.findIn K (.ref C_NoReach) "leads" = some (some (.ref f_NoReach_leads)))
    (i_NoReach_leads : PySem.W.isFn K (.ref f_NoReach_leads) = true)
    (l_NoReach_leads : K.lookup f_NoReach_leads = some ⟨oc_NoReach_leads, od_NoReach_leads, .func (PySem.W.fnOf "leads" "NoReach.leads" (defArgs s_NoReach_leads) (defBody s_NoReach_leads) (defScope s_NoReach_leads) .none kV_NoReach_leads dc_NoReach_leads pm_NoReach_leads an_NoReach_leads cd_NoReach_leads ct_NoReach_leads), sl_NoReach_leads⟩)
    (c_NoReach_leads : PySem.W.codeIn K cd_NoReach_leads "NoReach.leads" = true)
    (k_NoReach_leads : PySem.W.keepIn K (.ref f_NoReach_leads) = true)
    (a_PlaneReach_init : PySem.W.findIn K (.ref C_PlaneReach) "__init__" = some (some (.ref f_PlaneReach_init)))
    (i_PlaneReach_init : PySem.W.isFn K (.ref f_PlaneReach_init) = true)
    (l_PlaneReach_init : K.lookup f_PlaneReach_init = some ⟨oc_PlaneReach_init, od_PlaneReach_init, .func (PySem.W.fnOf "__init__" "PlaneReach.__init__" (defArgs s_PlaneReach_init) (defBody s_PlaneReach_init) (defScope s_PlaneReach_init) .none kV_PlaneReach_init dc_PlaneReach_init pm_PlaneReach_init an_PlaneReach_init cd_PlaneReach_init ct_PlaneReach_init), sl_PlaneReach_init⟩)
    (c_PlaneReach_init : PySem.W.codeIn K cd_PlaneReach_init "PlaneReach.__init__" = true)
    (k_PlaneReach_init : PySem.W.keepIn K (.ref f_PlaneReach_init) = true)
    (a_PlaneReach_locate : PySem.W.findIn K (.ref C_PlaneReach) "locate" = some (some (.ref f_PlaneReach_locate)))
    (i_PlaneReach_locate : PySem.W.isFn K (.ref f_PlaneReach_locate) = true)
    (l_PlaneReach_locate : K.lookup f_PlaneReach_locate = some ⟨oc_PlaneReach_locate, od_PlaneReach_locate, .func (PySem.W.fnOf "locate" "PlaneReach.locate" (defArgs s_PlaneReach_locate) (defBody s_PlaneReach_locate) (defScope s_PlaneReach_locate) .none kV_PlaneReach_locate dc_PlaneReach_locate pm_PlaneReach_locate an_PlaneReach_locate cd_PlaneReach_locate ct_PlaneReach_locate), sl_PlaneReach_locate⟩)
    (c_PlaneReach_locate : PySem.W.codeIn K cd_PlaneReach_locate "PlaneReach.locate" = true)
    (k_PlaneReach_locate : PySem.W.keepIn K (.ref f_PlaneReach_locate) = true)
    (a_PlaneReach_leads : PySem.W.findIn K (.ref C_PlaneReach) "leads" = some (some (.ref f_PlaneReach_leads)))
    (i_PlaneReach_leads : PySem.W.isFn K (.ref f_PlaneReach_leads) = true)
    (l_PlaneReach_leads : K.lookup f_PlaneReach_leads = some ⟨oc_PlaneReach_leads, od_PlaneReach_leads, .func (PySem.W.fnOf "leads" "PlaneReach.leads" (defArgs s_PlaneReach_leads) (defBody s_PlaneReach_leads) (defScope s_PlaneReach_leads) .none kV_PlaneReach_leads dc_PlaneReach_leads pm_PlaneReach_leads an_PlaneReach_leads cd_PlaneReach_leads ct_PlaneReach_leads), sl_PlaneReach_leads⟩)
    (c_PlaneReach_leads : PySem.W.codeIn K cd_PlaneReach_leads "PlaneReach.leads" = true)
    (k_PlaneReach_leads : PySem.W.keepIn K (.ref f_PlaneReach_leads) = true)
    (a_inverse : PySem.W.nsIn K mainGlobals "inverse" = some (some (.ref f_inverse)))
    (l_inverse : K.lookup f_inverse = some ⟨oc_inverse, od_inverse, .func (PySem.W.fnOf "inverse" "inverse" (defArgs s_inverse) (defBody s_inverse) (defScope s_inverse) .none kV_inverse dc_inverse pm_inverse an_inverse cd_inverse ct_inverse), sl_inverse⟩)
    (c_inverse : PySem.W.codeIn K cd_inverse "inverse" = true)
    (k_inverse : PySem.W.keepIn K (.ref f_inverse) = true)
    (a_LineReach_init : PySem.W.findIn K (.ref C_LineReach) "__init__" = some (some (.ref f_LineReach_init)))
    (i_LineReach_init : PySem.W.isFn K (.ref f_LineReach_init) = true)
    (l_LineReach_init : K.lookup f_LineReach_init = some ⟨oc_LineReach_init, od_LineReach_init, .func (PySem.W.fnOf "__init__" "LineReach.__init__" (defArgs s_LineReach_init) (defBody s_LineReach_init) (defScope s_LineReach_init) .none kV_LineReach_init dc_LineReach_init pm_LineReach_init an_LineReach_init cd_LineReach_init ct_LineReach_init), sl_LineReach_init⟩)
    (c_LineReach_init : PySem.W.codeIn K cd_LineReach_init "LineReach.__init__" = true)
    (k_LineReach_init : PySem.W.keepIn K (.ref f_LineReach_init) = true)
    (a_LineReach_locate : PySem.W.findIn K (.ref C_LineReach) "locate" = some (some (.ref f_LineReach_locate)))
    (i_LineReach_locate : PySem.W.isFn K (.ref f_LineReach_locate) = true)
    (l_LineReach_locate : K.lookup f_LineReach_locate = some ⟨oc_LineReach_locate, od_LineReach_locate, .func (PySem.W.fnOf "locate" "LineReach.locate" (defArgs s_LineReach_locate) (defBody s_LineReach_locate) (defScope s_LineReach_locate) .none kV_LineReach_locate dc_LineReach_locate pm_LineReach_locate an_LineReach_locate cd_LineReach_locate ct_LineReach_locate), sl_LineReach_locate⟩)
    (c_LineReach_locate : PySem.W.codeIn K cd_LineReach_locate "LineReach.locate" = true)
    (k_LineReach_locate : PySem.W.keepIn K (.ref f_LineReach_locate) = true)
    (a_LineReach_leads : PySem.W.findIn K (.ref C_LineReach) "leads" = some (some (.ref f_LineReach_leads)))
    (i_LineReach_leads : PySem.W.isFn K (.ref f_LineReach_leads) = true)
    (l_LineReach_leads : K.lookup f_LineReach_leads = some ⟨oc_LineReach_leads, od_LineReach_leads, .func (PySem.W.fnOf "leads" "LineReach.leads" (defArgs s_LineReach_leads) (defBody s_LineReach_leads) (defScope s_LineReach_leads) .none kV_LineReach_leads dc_LineReach_leads pm_LineReach_leads an_LineReach_leads cd_LineReach_leads ct_LineReach_leads), sl_LineReach_leads⟩)
    (c_LineReach_leads : PySem.W.codeIn K cd_LineReach_leads "LineReach.leads" = true)
    (k_LineReach_leads : PySem.W.keepIn K (.ref f_LineReach_leads) = true)
    (a_line_reach : PySem.W.nsIn K mainGlobals "_line_reach" = some (some (.ref f_line_reach)))
    (l_line_reach : K.lookup f_line_reach = some ⟨oc_line_reach, od_line_reach, .func (PySem.W.fnOf "_line_reach" "_line_reach" (defArgs s_line_reach) (defBody s_line_reach) (defScope s_line_reach) .none kV_line_reach dc_line_reach pm_line_reach an_line_reach cd_line_reach ct_line_reach), sl_line_reach⟩)
    (c_line_reach : PySem.W.codeIn K cd_line_reach "_line_reach" = true)
    (k_line_reach : PySem.W.keepIn K (.ref f_line_reach) = true)
    (a_reach_of : PySem.W.nsIn K mainGlobals "reach_of" = some (some (.ref f_reach_of)))
    (l_reach_of : K.lookup f_reach_of = some ⟨oc_reach_of, od_reach_of, .func (PySem.W.fnOf "reach_of" "reach_of" (defArgs s_reach_of) (defBody s_reach_of) (defScope s_reach_of) .none kV_reach_of dc_reach_of pm_reach_of an_reach_of cd_reach_of ct_reach_of), sl_reach_of⟩)
    (c_reach_of : PySem.W.codeIn K cd_reach_of "reach_of" = true)
    (k_reach_of : PySem.W.keepIn K (.ref f_reach_of) = true)
    (a_places_near : PySem.W.nsIn K mainGlobals "places_near" = some (some (.ref f_places_near)))
    (l_places_near : K.lookup f_places_near = some ⟨oc_places_near, od_places_near, .func (PySem.W.fnOf "places_near" "places_near" (defArgs s_places_near) (defBody s_places_near) (defScope s_places_near) .none kV_places_near dc_places_near pm_places_near an_places_near cd_places_near ct_places_near), sl_places_near⟩)
    (c_places_near : PySem.W.codeIn K cd_places_near "places_near" = true)
    (k_places_near : PySem.W.keepIn K (.ref f_places_near) = true)
    (a_first_touch : PySem.W.nsIn K mainGlobals "first_touch" = some (some (.ref f_first_touch)))
    (l_first_touch : K.lookup f_first_touch = some ⟨oc_first_touch, od_first_touch, .func (PySem.W.fnOf "first_touch" "first_touch" (defArgs s_first_touch) (defBody s_first_touch) (defScope s_first_touch) .none kV_first_touch dc_first_touch pm_first_touch an_first_touch cd_first_touch ct_first_touch), sl_first_touch⟩)
    (c_first_touch : PySem.W.codeIn K cd_first_touch "first_touch" = true)
    (k_first_touch : PySem.W.keepIn K (.ref f_first_touch) = true)
    (a_first_near_of : PySem.W.nsIn K mainGlobals "first_near_of" = some (some (.ref f_first_near_of)))
    (l_first_near_of : K.lookup f_first_near_of = some ⟨oc_first_near_of, od_first_near_of, .func (PySem.W.fnOf "first_near_of" "first_near_of" (defArgs s_first_near_of) (defBody s_first_near_of) (defScope s_first_near_of) .none kV_first_near_of dc_first_near_of pm_first_near_of an_first_near_of cd_first_near_of ct_first_near_of), sl_first_near_of⟩)
    (c_first_near_of : PySem.W.codeIn K cd_first_near_of "first_near_of" = true)
    (k_first_near_of : PySem.W.keepIn K (.ref f_first_near_of) = true)
    (a_comes_near : PySem.W.nsIn K mainGlobals "comes_near" = some (some (.ref f_comes_near)))
    (l_comes_near : K.lookup f_comes_near = some ⟨oc_comes_near, od_comes_near, .func (PySem.W.fnOf "comes_near" "comes_near" (defArgs s_comes_near) (defBody s_comes_near) (defScope s_comes_near) .none kV_comes_near dc_comes_near pm_comes_near an_comes_near cd_comes_near ct_comes_near), sl_comes_near⟩)
    (c_comes_near : PySem.W.codeIn K cd_comes_near "comes_near" = true)
    (k_comes_near : PySem.W.keepIn K (.ref f_comes_near) = true)
    (a_law_taken : PySem.W.nsIn K mainGlobals "_law_taken" = some (some (.ref f_law_taken)))
    (l_law_taken : K.lookup f_law_taken = some ⟨oc_law_taken, od_law_taken, .func (PySem.W.fnOf "_law_taken" "_law_taken" (defArgs s_law_taken) (defBody s_law_taken) (defScope s_law_taken) .none kV_law_taken dc_law_taken pm_law_taken an_law_taken cd_law_taken ct_law_taken), sl_law_taken⟩)
    (c_law_taken : PySem.W.codeIn K cd_law_taken "_law_taken" = true)
    (k_law_taken : PySem.W.keepIn K (.ref f_law_taken) = true)
    (a_law_signed : PySem.W.nsIn K mainGlobals "_law_signed" = some (some (.ref f_law_signed)))
    (l_law_signed : K.lookup f_law_signed = some ⟨oc_law_signed, od_law_signed, .func (PySem.W.fnOf "_law_signed" "_law_signed" (defArgs s_law_signed) (defBody s_law_signed) (defScope s_law_signed) .none kV_law_signed dc_law_signed pm_law_signed an_law_signed cd_law_signed ct_law_signed), sl_law_signed⟩)
    (c_law_signed : PySem.W.codeIn K cd_law_signed "_law_signed" = true)
    (k_law_signed : PySem.W.keepIn K (.ref f_law_signed) = true)
    (a_law_pick : PySem.W.nsIn K mainGlobals "_law_pick" = some (some (.ref f_law_pick)))
    (l_law_pick : K.lookup f_law_pick = some ⟨oc_law_pick, od_law_pick, .func (PySem.W.fnOf "_law_pick" "_law_pick" (defArgs s_law_pick) (defBody s_law_pick) (defScope s_law_pick) .none kV_law_pick dc_law_pick pm_law_pick an_law_pick cd_law_pick ct_law_pick), sl_law_pick⟩)
    (c_law_pick : PySem.W.codeIn K cd_law_pick "_law_pick" = true)
    (k_law_pick : PySem.W.keepIn K (.ref f_law_pick) = true)
    (a_law_alike : PySem.W.nsIn K mainGlobals "_law_alike" = some (some (.ref f_law_alike)))
    (l_law_alike : K.lookup f_law_alike = some ⟨oc_law_alike, od_law_alike, .func (PySem.W.fnOf "_law_alike" "_law_alike" (defArgs s_law_alike) (defBody s_law_alike) (defScope s_law_alike) .none kV_law_alike dc_law_alike pm_law_alike an_law_alike cd_law_alike ct_law_alike), sl_law_alike⟩)
    (c_law_alike : PySem.W.codeIn K cd_law_alike "_law_alike" = true)
    (k_law_alike : PySem.W.keepIn K (.ref f_law_alike) = true)
    (a_law : PySem.W.nsIn K mainGlobals "law" = some (some (.ref f_law)))
    (l_law : K.lookup f_law = some ⟨oc_law, od_law, .func (PySem.W.fnOf "law" "law" (defArgs s_law) (defBody s_law) (defScope s_law) .none kV_law dc_law pm_law an_law cd_law ct_law), sl_law⟩)
    (c_law : PySem.W.codeIn K cd_law "law" = true)
    (k_law : PySem.W.keepIn K (.ref f_law) = true) :
    ∃ fd : FuncData, (∀ (s : Shared) (v : Value), BindsTo s fd ⟨[v], []⟩ [("script", v)]) ∧ ∀ base : Heap, K.In base → base.Ns mainGlobals mg → FnOk l.prog w K mg base (L2.CX l.prog w) 7 fa fd ["script"] (spD K 1 R_law) := by
  have e := hfa.symm.trans (PySem.W.mg_of X G a_law)
  cases e
  have g_LineReach := PySem.W.mg_of X G a_LineReach
  have cl_LineReach : Cls K C_LineReach := ⟨pg_LineReach, hd_LineReach, po_LineReach, sa_LineReach⟩
  have g_NoReach := PySem.W.mg_of X G a_NoReach
  have cl_NoReach : Cls K C_NoReach := ⟨pg_NoReach, hd_NoReach, po_NoReach, sa_NoReach⟩
  have g_PlaneReach := PySem.W.mg_of X G a_PlaneReach
  have cl_PlaneReach : Cls K C_PlaneReach := ⟨pg_PlaneReach, hd_PlaneReach, po_PlaneReach, sa_PlaneReach⟩
  have m_isinstance := PySem.W.mg_none_of X G z_isinstance
  have m_int := PySem.W.mg_none_of X G z_int
  have m_bool := PySem.W.mg_none_of X G z_bool
  have m_len := PySem.W.mg_none_of X G z_len
  have m_tuple := PySem.W.mg_none_of X G z_tuple
  have g_FAR : ∃ u, mg "FAR" = some u ∧ RelV (.int 1000000000000000000000000000000000000000000000000000000000000) u := ⟨_, PySem.W.mg_of X G z_FAR, _, rfl⟩
  have g_gcd := PySem.W.mg_of X G z_gcd
  have e_NoReach : MkE K mg "NoReach" C_NoReach := ⟨mk_NoReach, in_NoReach, kc_NoReach, g_NoReach⟩
  have m_range := PySem.W.mg_none_of X G z_range
  have g_NEAR : ∃ u, mg "NEAR" = some u ∧ RelV (.int 2) u := ⟨_, PySem.W.mg_of X G z_NEAR, _, rfl⟩
  have m_max := PySem.W.mg_none_of X G z_max
  have m_min := PySem.W.mg_none_of X G z_min
  have m_list := PySem.W.mg_none_of X G z_list
  have m_str := PySem.W.mg_none_of X G z_str
  have m_abs := PySem.W.mg_none_of X G z_abs
  have F_is_between := fun_mk (st := s_is_between) l_is_between c_is_between k_is_between
  have b_is_between := F_is_between.binds (ps := ["value", "low", "high"]) fun _ _ _ _ _ _ us hl => match us, hl with | [_, _, _], _ => rfl
  have F_is_move := fun_mk (st := s_is_move) l_is_move c_is_move k_is_move
  have b_is_move := F_is_move.binds (ps := ["value"]) fun _ _ _ _ _ _ us hl => match us, hl with | [_], _ => rfl
  have F_check_move := fun_mk (st := s_check_move) l_check_move c_check_move k_check_move
  have b_check_move := F_check_move.binds (ps := ["move"]) fun _ _ _ _ _ _ us hl => match us, hl with | [_], _ => rfl
  have F_minus := fun_mk (st := s_minus) l_minus c_minus k_minus
  have b_minus := F_minus.binds (ps := ["one", "two"]) fun _ _ _ _ _ _ us hl => match us, hl with | [_, _], _ => rfl
  have F_times := fun_mk (st := s_times) l_times c_times k_times
  have b_times := F_times.binds (ps := ["many", "move"]) fun _ _ _ _ _ _ us hl => match us, hl with | [_, _], _ => rfl
  have F_cross := fun_mk (st := s_cross) l_cross c_cross k_cross
  have b_cross := F_cross.binds (ps := ["one", "two"]) fun _ _ _ _ _ _ us hl => match us, hl with | [_, _], _ => rfl
  have F_how_often := fun_mk (st := s_how_often) l_how_often c_how_often k_how_often
  have b_how_often := F_how_often.binds (ps := ["move", "way"]) fun _ _ _ _ _ _ us hl => match us, hl with | [_, _], _ => rfl
  have F_NoReach_locate := fun_mk (st := s_NoReach_locate) l_NoReach_locate c_NoReach_locate k_NoReach_locate
  have b_NoReach_locate := F_NoReach_locate.binds (ps := ["self", "place"]) fun _ _ _ _ _ _ us hl => match us, hl with | [_, _], _ => rfl
  have F_NoReach_leads := fun_mk (st := s_NoReach_leads) l_NoReach_leads c_NoReach_leads k_NoReach_leads
  have b_NoReach_leads := F_NoReach_leads.binds (ps := ["self", "at", "to"]) fun _ _ _ _ _ _ us hl => match us, hl with | [_, _, _], _ => rfl
  have F_PlaneReach_init := fun_mk (st := s_PlaneReach_init) l_PlaneReach_init c_PlaneReach_init k_PlaneReach_init
  have b_PlaneReach_init := F_PlaneReach_init.binds (ps := ["self", "one", "two"]) fun _ _ _ _ _ _ us hl => match us, hl with | [_, _, _], _ => rfl
  have F_PlaneReach_locate := fun_mk (st := s_PlaneReach_locate) l_PlaneReach_locate c_PlaneReach_locate k_PlaneReach_locate
  have b_PlaneReach_locate := F_PlaneReach_locate.binds (ps := ["self", "place"]) fun _ _ _ _ _ _ us hl => match us, hl with | [_, _], _ => rfl
  have F_PlaneReach_leads := fun_mk (st := s_PlaneReach_leads) l_PlaneReach_leads c_PlaneReach_leads k_PlaneReach_leads
  have b_PlaneReach_leads := F_PlaneReach_leads.binds (ps := ["self", "at", "to"]) fun _ _ _ _ _ _ us hl => match us, hl with | [_, _, _], _ => rfl
  have F_inverse := fun_mk (st := s_inverse) l_inverse c_inverse k_inverse
  have b_inverse := F_inverse.binds (ps := ["number", "size"]) fun _ _ _ _ _ _ us hl => match us, hl with | [_, _], _ => rfl
  have F_LineReach_init := fun_mk (st := s_LineReach_init) l_LineReach_init c_LineReach_init k_LineReach_init
  have b_LineReach_init := F_LineReach_init.binds (ps := ["self", "unit", "ones", "twos"]) fun _ _ _ _ _ _ us hl => match us, hl with | [_, _, _, _], _ => rfl
  have F_LineReach_locate := fun_mk (st := s_LineReach_locate) l_LineReach_locate c_LineReach_locate k_LineReach_locate
  have b_LineReach_locate := F_LineReach_locate.binds (ps := ["self", "place"]) fun _ _ _ _ _ _ us hl => match us, hl with | [_, _], _ => rfl
  have F_LineReach_leads := fun_mk (st := s_LineReach_leads) l_LineReach_leads c_LineReach_leads k_LineReach_leads
  have b_LineReach_leads := F_LineReach_leads.binds (ps := ["self", "at", "to"]) fun _ _ _ _ _ _ us hl => match us, hl with | [_, _, _], _ => rfl
  have F_line_reach := fun_mk (st := s_line_reach) l_line_reach c_line_reach k_line_reach
  have b_line_reach := F_line_reach.binds (ps := ["one", "two"]) fun _ _ _ _ _ _ us hl => match us, hl with | [_, _], _ => rfl
  have F_reach_of := fun_mk (st := s_reach_of) l_reach_of c_reach_of k_reach_of
  have b_reach_of := F_reach_of.binds (ps := ["one", "two"]) fun _ _ _ _ _ _ us hl => match us, hl with | [_, _], _ => rfl
  have F_places_near := fun_mk (st := s_places_near) l_places_near c_places_near k_places_near
  have b_places_near := F_places_near.binds (ps := ["place"]) fun _ _ _ _ _ _ us hl => match us, hl with | [_], _ => rfl
  have F_first_touch := fun_mk (st := s_first_touch) l_first_touch c_first_touch k_first_touch
  have b_first_touch := F_first_touch.binds (ps := ["box", "move"]) fun _ _ _ _ _ _ us hl => match us, hl with | [_, _], _ => rfl
  have F_first_near_of := fun_mk (st := s_first_near_of) l_first_near_of c_first_near_of k_first_near_of
  have b_first_near_of := F_first_near_of.binds (ps := ["start", "move"]) fun _ _ _ _ _ _ us hl => match us, hl with | [_, _], _ => rfl
  have F_comes_near := fun_mk (st := s_comes_near) l_comes_near c_comes_near k_comes_near
  have b_comes_near := F_comes_near.binds (ps := ["start", "one", "two"]) fun _ _ _ _ _ _ us hl => match us, hl with | [_, _, _], _ => rfl
  have F_law_taken := fun_mk (st := s_law_taken) l_law_taken c_law_taken k_law_taken
  have b_law_taken := F_law_taken.binds (ps := ["row", "many"]) fun _ _ _ _ _ _ us hl => match us, hl with | [_, _], _ => rfl
  have F_law_signed := fun_mk (st := s_law_signed) l_law_signed c_law_signed k_law_signed
  have b_law_signed := F_law_signed.binds (ps := ["row", "most"]) fun _ _ _ _ _ _ us hl => match us, hl with | [_, _], _ => rfl
  have F_law_pick := fun_mk (st := s_law_pick) l_law_pick c_law_pick k_law_pick
  have b_law_pick := F_law_pick.binds (ps := ["row", "things"]) fun _ _ _ _ _ _ us hl => match us, hl with | [_, _], _ => rfl
  have F_law_alike := fun_mk (st := s_law_alike) l_law_alike c_law_alike k_law_alike
  have b_law_alike := F_law_alike.binds (ps := ["found", "due"]) fun _ _ _ _ _ _ us hl => match us, hl with | [_, _], _ => rfl
  have F_law := fun_mk (st := s_law) l_law c_law k_law
  refine ⟨PySem.W.fnOf "law" "law" (defArgs s_law) (defBody s_law) (defScope s_law) .none kV_law dc_law pm_law an_law cd_law ct_law, fun s v => .of_eq rfl, fun base _ _ => ?_⟩
  have c_is_between : Cal l.prog w K mg base 1 "is_between" (spD K 3 R_between) := ⟨_, _, _, ok_is_between F_is_between (m_isinstance := m_isinstance) (m_int := m_int) (m_bool := m_bool), PySem.W.mg_of X G a_is_between, k_is_between, b_is_between⟩
  have c_is_move : Cal l.prog w K mg base 2 "is_move" (spD K 1 R_ismove) := ⟨_, _, _, ok_is_move F_is_move (m_len := m_len) (m_isinstance := m_isinstance) (m_tuple := m_tuple) (g_FAR := g_FAR) (c_is_between := c_is_between), PySem.W.mg_of X G a_is_move, k_is_move, b_is_move⟩
  have c_check_move : Cal l.prog w K mg base 3 "check_move" (spD K 1 R_chkmove) := ⟨_, _, _, ok_check_move F_check_move (c_is_move := c_is_move), PySem.W.mg_of X G a_check_move, k_check_move, b_check_move⟩
  have c_minus : Cal l.prog w K mg base 1 "minus" (spD K 2 R_minus) := ⟨_, _, _, ok_minus F_minus , PySem.W.mg_of X G a_minus, k_minus, b_minus⟩
  have c_times : Cal l.prog w K mg base 1 "times" (spD K 2 R_times) := ⟨_, _, _, ok_times F_times , PySem.W.mg_of X G a_times, k_times, b_times⟩
  have c_cross : Cal l.prog w K mg base 1 "cross" (spD K 2 R_cross) := ⟨_, _, _, ok_cross F_cross , PySem.W.mg_of X G a_cross, k_cross, b_cross⟩
  have c_how_often : Cal l.prog w K mg base 1 "how_often" (spD K 2 R_often) := ⟨_, _, _, ok_how_often F_how_often , PySem.W.mg_of X G a_how_often, k_how_often, b_how_often⟩
  have c_NoReach_locate : Mtd l.prog w K mg base 1 C_NoReach "locate" (spO K C_NoReach 1 R_nLoc) := ⟨_, _, _, ok_NoReach_locate F_NoReach_locate (cl_NoReach := cl_NoReach), ⟨a_NoReach_locate, i_NoReach_locate, k_NoReach_locate⟩, b_NoReach_locate⟩
  have c_NoReach_leads : Mtd l.prog w K mg base 1 C_NoReach "leads" (spO K C_NoReach 2 R_nLeads) := ⟨_, _, _, ok_NoReach_leads F_NoReach_leads (cl_NoReach := cl_NoReach), ⟨a_NoReach_leads, i_NoReach_leads, k_NoReach_leads⟩, b_NoReach_leads⟩
  have c_PlaneReach_init : Mkr l.prog w K mg base 2 "PlaneReach" C_PlaneReach (spO K C_PlaneReach 2 R_pInit) := ⟨_, _, _, ok_PlaneReach_init F_PlaneReach_init (na_PlaneReach_one := na_PlaneReach_one) (na_PlaneReach_two := na_PlaneReach_two) (na_PlaneReach_area := na_PlaneReach_area) (c_cross := c_cross) (cl_PlaneReach := cl_PlaneReach), ⟨mk_PlaneReach, a_PlaneReach_init, i_PlaneReach_init, kc_PlaneReach⟩, g_PlaneReach, b_PlaneReach_init⟩
  have c_PlaneReach_locate : Mtd l.prog w K mg base 2 C_PlaneReach "locate" (spO K C_PlaneReach 1 R_pLoc) := ⟨_, _, _, ok_PlaneReach_locate F_PlaneReach_locate (na_PlaneReach_two := na_PlaneReach_two) (na_PlaneReach_area := na_PlaneReach_area) (na_PlaneReach_one := na_PlaneReach_one) (c_cross := c_cross) (c_minus := c_minus) (c_times := c_times) (cl_PlaneReach := cl_PlaneReach), ⟨a_PlaneReach_locate, i_PlaneReach_locate, k_PlaneReach_locate⟩, b_PlaneReach_locate⟩
  have c_PlaneReach_leads : Mtd l.prog w K mg base 1 C_PlaneReach "leads" (spO K C_PlaneReach 2 R_pLeads) := ⟨_, _, _, ok_PlaneReach_leads F_PlaneReach_leads (cl_PlaneReach := cl_PlaneReach), ⟨a_PlaneReach_leads, i_PlaneReach_leads, k_PlaneReach_leads⟩, b_PlaneReach_leads⟩
  have c_inverse : Cal l.prog w K mg base 1 "inverse" (spD K 2 R_inv) := ⟨_, _, _, ok_inverse F_inverse , PySem.W.mg_of X G a_inverse, k_inverse, b_inverse⟩
  have c_LineReach_init : Mkr l.prog w K mg base 2 "LineReach" C_LineReach (spO K C_LineReach 3 R_lInit) := ⟨_, _, _, ok_LineReach_init F_LineReach_init (na_LineReach_unit := na_LineReach_unit) (na_LineReach_ones := na_LineReach_ones) (na_LineReach_twos := na_LineReach_twos) (na_LineReach_inverse := na_LineReach_inverse) (c_inverse := c_inverse) (cl_LineReach := cl_LineReach), ⟨mk_LineReach, a_LineReach_init, i_LineReach_init, kc_LineReach⟩, g_LineReach, b_LineReach_init⟩
  have c_LineReach_locate : Mtd l.prog w K mg base 2 C_LineReach "locate" (spO K C_LineReach 1 R_lLoc) := ⟨_, _, _, ok_LineReach_locate F_LineReach_locate (na_LineReach_unit := na_LineReach_unit) (c_how_often := c_how_often) (c_minus := c_minus) (c_times := c_times) (cl_LineReach := cl_LineReach), ⟨a_LineReach_locate, i_LineReach_locate, k_LineReach_locate⟩, b_LineReach_locate⟩
  have c_LineReach_leads : Mtd l.prog w K mg base 1 C_LineReach "leads" (spO K C_LineReach 2 R_lLeads) := ⟨_, _, _, ok_LineReach_leads F_LineReach_leads (na_LineReach_twos := na_LineReach_twos) (na_LineReach_inverse := na_LineReach_inverse) (na_LineReach_ones := na_LineReach_ones) (cl_LineReach := cl_LineReach), ⟨a_LineReach_leads, i_LineReach_leads, k_LineReach_leads⟩, b_LineReach_leads⟩
  have c__line_reach : Cal l.prog w K mg base 4 "_line_reach" (spB K 2 (R_line C_LineReach)) := ⟨_, _, _, ok_line_reach F_line_reach (g_gcd := g_gcd) (c_how_often := c_how_often) (c_LineReach_init := c_LineReach_init) (c_times := c_times), PySem.W.mg_of X G a_line_reach, k_line_reach, b_line_reach⟩
  have c_reach_of : Cal l.prog w K mg base 5 "reach_of" (spB K 2 (R_reach C_PlaneReach C_NoReach C_LineReach)) := ⟨_, _, _, ok_reach_of F_reach_of (e_NoReach := e_NoReach) (c_cross := c_cross) (c_PlaneReach_init := c_PlaneReach_init) (c__line_reach := c__line_reach) (cl_NoReach := cl_NoReach), PySem.W.mg_of X G a_reach_of, k_reach_of, b_reach_of⟩
  have c_places_near : Cal l.prog w K mg base 1 "places_near" (spD K 1 R_places) := ⟨_, _, _, ok_places_near F_places_near (m_range := m_range), PySem.W.mg_of X G a_places_near, k_places_near, b_places_near⟩
  have c_first_touch : Cal l.prog w K mg base 1 "first_touch" (spD K 2 R_touch) := ⟨_, _, _, ok_first_touch F_first_touch (g_NEAR := g_NEAR) (m_max := m_max) (m_min := m_min), PySem.W.mg_of X G a_first_touch, k_first_touch, b_first_touch⟩
  have c_first_near_of : Cal l.prog w K mg base 4 "first_near_of" (spD K 2 R_firstnear) := ⟨_, _, _, ok_first_near_of F_first_near_of (c_check_move := c_check_move) (c_first_touch := c_first_touch), PySem.W.mg_of X G a_first_near_of, k_first_near_of, b_first_near_of⟩
  have c_comes_near : Cal l.prog w K mg base 6 "comes_near" (spD K 3 R_comes) := ⟨_, _, _, ok_comes_near F_comes_near (c_check_move := c_check_move) (c_reach_of := c_reach_of) (c_LineReach_locate := c_LineReach_locate) (c_PlaneReach_locate := c_PlaneReach_locate) (c_NoReach_locate := c_NoReach_locate) (c_places_near := c_places_near) (c_LineReach_leads := c_LineReach_leads) (c_PlaneReach_leads := c_PlaneReach_leads) (c_NoReach_leads := c_NoReach_leads) (cl_LineReach := cl_LineReach) (cl_NoReach := cl_NoReach) (cl_PlaneReach := cl_PlaneReach), PySem.W.mg_of X G a_comes_near, k_comes_near, b_comes_near⟩
  have c__law_taken : Cal l.prog w K mg base 1 "_law_taken" (spC K 1 R_taken) := ⟨_, _, _, ok_law_taken F_law_taken (m_int := m_int) (m_len := m_len), PySem.W.mg_of X G a_law_taken, k_law_taken, b_law_taken⟩
  have c__law_signed : Cal l.prog w K mg base 2 "_law_signed" (spC K 1 R_signed) := ⟨_, _, _, ok_law_signed F_law_signed (c__law_taken := c__law_taken), PySem.W.mg_of X G a_law_signed, k_law_signed, b_law_signed⟩
  have c__law_pick : Cal l.prog w K mg base 2 "_law_pick" (spC K 1 R_pick) := ⟨_, _, _, ok_law_pick F_law_pick (m_len := m_len) (c__law_taken := c__law_taken), PySem.W.mg_of X G a_law_pick, k_law_pick, b_law_pick⟩
  have z0_law_alike : Cal l.prog w K mg base 1 "_law_alike" (spD K 2 (R_alike 0)) := ⟨_, _, _, alike_vac F_law_alike, PySem.W.mg_of X G a_law_alike, k_law_alike, b_law_alike⟩
  have z1_law_alike : Cal l.prog w K mg base 2 "_law_alike" (spD K 2 (R_alike 1)) := ⟨_, _, _, ok_law_alike (j := 1) (n := 0) F_law_alike (m_isinstance := m_isinstance) (m_list := m_list) (m_tuple := m_tuple) (m_len := m_len) (m_range := m_range) (m_str := m_str) (m_bool := m_bool) (m_int := m_int) (c__law_alike := z0_law_alike), PySem.W.mg_of X G a_law_alike, k_law_alike, b_law_alike⟩
  have c__law_alike := z1_law_alike
  exact ok_law F_law (m_range := m_range) (m_max := m_max) (m_abs := m_abs) (m_int := m_int) (m_min := m_min) (c__law_signed := c__law_signed) (c__law_taken := c__law_taken) (c__law_pick := c__law_pick) (c__law_alike := c__law_alike) (c_comes_near := c_comes_near) (c_first_near_of := c_first_near_of)
theorem dpa_ints {K : Fg} {G : Hp} : ∀ ns : List Int, DzAll K G (ns.map V.int) (ns.map PyData.int)
  | [] => .nil
  | n :: ns => .cons (Dz.int n) (dpa_ints ns)
theorem walk {l : PySem.W.OpenLaw} {q : Program} {loose : List Str} {XP : (Str → Option Value) → Heap → Prop} {YP : World → Heap → Prop} {d : DefRec} {K : Params → PySem.W.Frag} (hn : l.most = some 63) (hdf : d.params.defaults = [])
    (hY : ∀ (w : World) (h : Heap), YP w h → (K w.params).In h)
    (F : ∀ (w : World) (mg : Str → Option Value) (fa : Addr) (h : Heap), (K w.params).In h → h.Ns mainGlobals mg → mg d.name = some (.ref fa) →
      ∃ fd : FuncData, (∀ (s : Shared) (u : Value), BindsTo s fd ⟨[u], []⟩ [("script", u)]) ∧ ∀ base : Heap, (K w.params).In base → base.Ns mainGlobals mg → FnOk l.prog w (K w.params) mg base (L2.CX l.prog w) 7 fa fd ["script"] (spD (K w.params) 1 R_law)) :
    PySem.W.WalkO q loose XP YP l.row.toRowW d [] (fun f vs => PySem.call f vs) :=
  L2.walk_of (n := 63) (k := 7) (x := "script") (CX := fun w => L2.CX l.prog w) (sp := fun w => spD (K w.params) 1 R_law) hn (by decide) hdf ⟨rfl, by decide, by decide⟩ hY F
    (fun w H a ns hl _ hS => ⟨H, [.list (ns.map .int)], .ok (.bool true), fun _ _ z => z, rfl, .cons (.lst hS (dpa_ints ns)) .nil, ⟨ns, rfl, rfl⟩, fun d hd v G' H' _ av => by cases hd; exact dp_bl av, fun x hx => (nomatch hx)⟩)
    fun w H s e s' z => by obtain ⟨_, _, _, _, _, _, _, _, _, _, _, _, z⟩ := z; exact z
end K07
open PySem PySem.W PyProof.Rows in
set_option maxRecDepth 100000 in
set_option maxHeartbeats 0 in
theorem PySem.Challenge.cw_fateboards_k07_whole_two_moves_holds : PySem.Challenge.rw_fateboards_k07_whole_two_moves.Holds := by
  w_on; o_law; k_head; (case hw => w_witness2)
  k_fill
  refine K07.walk (l := PySem.Challenge.rw_fateboards_k07_whole_two_moves) rfl rfl (fun w h Y => PySem.W.kIn_of Y) ?F
  case F =>
    intro w mg fa h KX G hmg
    refine' K07.all_mk KX G hmg ?a_LineReach ?pg_LineReach ?hd_LineReach ?po_LineReach ?sa_LineReach ?mk_LineReach ?kc_LineReach ?a_NoReach ?pg_NoReach ?hd_NoReach ?po_NoReach ?sa_NoReach ?mk_NoReach ?kc_NoReach ?a_PlaneReach ?pg_PlaneReach ?hd_PlaneReach ?po_PlaneReach ?sa_PlaneReach ?mk_PlaneReach ?kc_PlaneReach ?z_isinstance ?z_int ?z_bool ?z_len ?z_tuple ?z_FAR ?na_PlaneReach_one ?na_PlaneReach_two ?na_PlaneReach_area ?na_LineReach_unit ?na_LineReach_ones ?na_LineReach_twos ?na_LineReach_inverse ?z_gcd ?in_NoReach ?z_range ?z_NEAR ?z_max ?z_min ?z_list ?z_str ?z_abs ?a_is_between ?l_is_between ?c_is_between ?k_is_between ?a_is_move ?l_is_move ?c_is_move ?k_is_move ?a_check_move ?l_check_move ?c_check_move ?k_check_move ?a_minus ?l_minus ?c_minus ?k_minus ?a_times ?l_times ?c_times ?k_times ?a_cross ?l_cross ?c_cross ?k_cross ?a_how_often ?l_how_often ?c_how_often ?k_how_often ?a_NoReach_locate ?i_NoReach_locate ?l_NoReach_locate ?c_NoReach_locate ?k_NoReach_locate ?a_NoReach_leads ?i_NoReach_leads ?l_NoReach_leads ?c_NoReach_leads ?k_NoReach_leads ?a_PlaneReach_init ?i_PlaneReach_init ?l_PlaneReach_init ?c_PlaneReach_init ?k_PlaneReach_init ?a_PlaneReach_locate ?i_PlaneReach_locate ?l_PlaneReach_locate ?c_PlaneReach_locate ?k_PlaneReach_locate ?a_PlaneReach_leads ?i_PlaneReach_leads ?l_PlaneReach_leads ?c_PlaneReach_leads ?k_PlaneReach_leads ?a_inverse ?l_inverse ?c_inverse ?k_inverse ?a_LineReach_init ?i_LineReach_init ?l_LineReach_init ?c_LineReach_init ?k_LineReach_init ?a_LineReach_locate ?i_LineReach_locate ?l_LineReach_locate ?c_LineReach_locate ?k_LineReach_locate ?a_LineReach_leads ?i_LineReach_leads ?l_LineReach_leads ?c_LineReach_leads ?k_LineReach_leads ?a_line_reach ?l_line_reach ?c_line_reach ?k_line_reach ?a_reach_of ?l_reach_of ?c_reach_of ?k_reach_of ?a_places_near ?l_places_near ?c_places_near ?k_places_near ?a_first_touch ?l_first_touch ?c_first_touch ?k_first_touch ?a_first_near_of ?l_first_near_of ?c_first_near_of ?k_first_near_of ?a_comes_near ?l_comes_near ?c_comes_near ?k_comes_near ?a_law_taken ?l_law_taken ?c_law_taken ?k_law_taken ?a_law_signed ?l_law_signed ?c_law_signed ?k_law_signed ?a_law_pick ?l_law_pick ?c_law_pick ?k_law_pick ?a_law_alike ?l_law_alike ?c_law_alike ?k_law_alike ?a_law ?l_law ?c_law ?k_law
    (case a_LineReach => k_is)
    (case pg_LineReach => k_is)
    (case hd_LineReach => k_is)
    (case po_LineReach => k_is)
    (case sa_LineReach => k_is)
    (case mk_LineReach => k_is)
    (case kc_LineReach => k_is)
    (case a_NoReach => k_is)
    (case pg_NoReach => k_is)
    (case hd_NoReach => k_is)
    (case po_NoReach => k_is)
    (case sa_NoReach => k_is)
    (case mk_NoReach => k_is)
    (case kc_NoReach => k_is)
    (case a_PlaneReach => k_is)
    (case pg_PlaneReach => k_is)
    (case hd_PlaneReach => k_is)
    (case po_PlaneReach => k_is)
    (case sa_PlaneReach => k_is)
    (case mk_PlaneReach => k_is)
    (case kc_PlaneReach => k_is)
    (case z_isinstance => k_is)
    (case z_int => k_is)
    (case z_bool => k_is)
    (case z_len => k_is)
    (case z_tuple => k_is)
    (case z_FAR => k_is)
    (case na_PlaneReach_one => k_is)
    (case na_PlaneReach_two => k_is)
    (case na_PlaneReach_area => k_is)
    (case na_LineReach_unit => k_is)
    (case na_LineReach_ones => k_is)
    (case na_LineReach_twos => k_is)
    (case na_LineReach_inverse => k_is)
    (case z_gcd => k_is)
    (case in_NoReach => k_is)
    (case z_range => k_is)
    (case z_NEAR => k_is)
    (case z_max => k_is)
    (case z_min => k_is)
    (case z_list => k_is)
    (case z_str => k_is)
    (case z_abs => k_is)
    (case a_is_between => k_is)
    (case l_is_between => k_is)
    (case c_is_between => k_is)
    (case k_is_between => k_is)
    (case a_is_move => k_is)
    (case l_is_move => k_is)
    (case c_is_move => k_is)
    (case k_is_move => k_is)
    (case a_check_move => k_is)
    (case l_check_move => k_is)
    (case c_check_move => k_is)
    (case k_check_move => k_is)
    (case a_minus => k_is)
    (case l_minus => k_is)
    (case c_minus => k_is)
    (case k_minus => k_is)
    (case a_times => k_is)
    (case l_times => k_is)
    (case c_times => k_is)
    (case k_times => k_is)
    (case a_cross => k_is)
    (case l_cross => k_is)
    (case c_cross => k_is)
    (case k_cross => k_is)
    (case a_how_often => k_is)
    (case l_how_often => k_is)
    (case c_how_often => k_is)
    (case k_how_often => k_is)
    (case a_NoReach_locate => k_is)
    (case i_NoReach_locate => k_is)
    (case l_NoReach_locate => k_is)
    (case c_NoReach_locate => k_is)
    (case k_NoReach_locate => k_is)
    (case a_NoReach_leads => k_is)
    (case i_NoReach_leads => k_is)
    (case l_NoReach_leads => k_is)
    (case c_NoReach_leads => k_is)
    (case k_NoReach_leads => k_is)
    (case a_PlaneReach_init => k_is)
    (case i_PlaneReach_init => k_is)
    (case l_PlaneReach_init => k_is)
    (case c_PlaneReach_init => k_is)
    (case k_PlaneReach_init => k_is)
    (case a_PlaneReach_locate => k_is)
    (case i_PlaneReach_locate => k_is)
    (case l_PlaneReach_locate => k_is)
    (case c_PlaneReach_locate => k_is)
    (case k_PlaneReach_locate => k_is)
    (case a_PlaneReach_leads => k_is)
    (case i_PlaneReach_leads => k_is)
    (case l_PlaneReach_leads => k_is)
    (case c_PlaneReach_leads => k_is)
    (case k_PlaneReach_leads => k_is)
    (case a_inverse => k_is)
    (case l_inverse => k_is)
    (case c_inverse => k_is)
    (case k_inverse => k_is)
    (case a_LineReach_init => k_is)
    (case i_LineReach_init => k_is)
    (case l_LineReach_init => k_is)
    (case c_LineReach_init => k_is)
    (case k_LineReach_init => k_is)
    (case a_LineReach_locate => k_is)
    (case i_LineReach_locate => k_is)
    (case l_LineReach_locate => k_is)
    (case c_LineReach_locate => k_is)
    (case k_LineReach_locate => k_is)
    (case a_LineReach_leads => k_is)
    (case i_LineReach_leads => k_is)
    (case l_LineReach_leads => k_is)
    (case c_LineReach_leads => k_is)
    (case k_LineReach_leads => k_is)
    (case a_line_reach => k_is)
    (case l_line_reach => k_is)
    (case c_line_reach => k_is)
    (case k_line_reach => k_is)
    (case a_reach_of => k_is)
    (case l_reach_of => k_is)
    (case c_reach_of => k_is)
    (case k_reach_of => k_is)
    (case a_places_near => k_is)
    (case l_places_near => k_is)
    (case c_places_near => k_is)
    (case k_places_near => k_is)
    (case a_first_touch => k_is)
    (case l_first_touch => k_is)
    (case c_first_touch => k_is)
    (case k_first_touch => k_is)
    (case a_first_near_of => k_is)
    (case l_first_near_of => k_is)
    (case c_first_near_of => k_is)
    (case k_first_near_of => k_is)
    (case a_comes_near => k_is)
    (case l_comes_near => k_is)
    (case c_comes_near => k_is)
    (case k_comes_near => k_is)
    (case a_law_taken => k_is)
    (case l_law_taken => k_is)
    (case c_law_taken => k_is)
    (case k_law_taken => k_is)
    (case a_law_signed => k_is)
    (case l_law_signed => k_is)
    (case c_law_signed => k_is)
    (case k_law_signed => k_is)
    (case a_law_pick => k_is)
    (case l_law_pick => k_is)
    (case c_law_pick => k_is)
    (case k_law_pick => k_is)
    (case a_law_alike => k_is)
    (case l_law_alike => k_is)
    (case c_law_alike => k_is)
    (case k_law_alike => k_is)
    (case a_law => k_is)
    (case l_law => k_is)
    (case c_law => k_is)
    (case k_law => k_is)
