import PyProof.Rows.All
import Wide.All
import OpenK.AllK
import Wide.FinOn
import HandS.ForMost
import HandS.Deep
import HandS.Evl
import HandS.IsInst
import HandS.TupAny
import HandS.FStr
import HandS.Codes
import HandS.WordsExc
import HandS.ExcOwn
import HandS.TupLe
import HandS.Wide
import HandS.RaiseMore
import HandS.Style
import KE.KExcSuper
import HandS.ForExc
import KE.KExcIs
import HandS.ExcIs
import HandS.ExcField
import HandS.Gcd
import KE.GoesEnum
import HandS.DictComp
import KE.KDictPairs
import KE.KSortTupUse
import PySem.Challenge.RW_fateboards_k01_whole_boards
set_option Elab.async false
set_option linter.all false
set_option maxRecDepth 100000
set_option maxHeartbeats 4000000
set_option autoImplicit false
namespace Z
open PySem PySem.Spec PyProof.Rows L2
open Evl (Ex)

/-! ### data in a growing frozen part G of the heap H; own cells beside it -/
/-- a tuple that is told: as it was made, or a constant row that begins with a text -/
def TupR (K : PySem.W.Frag) (G : Hp) (a : Addr) (xs : List V) : Prop := G a = some (.tup xs) ∨ (SqT K G a xs ∧ ∃ s r, xs = V.str s :: r)
/-! data that stands in G: of its tuples it is known how they were made (so they can be keys) -/
mutual
inductive Dz (K : PySem.W.Frag) (G : Hp) : V → PyData → Prop
  | int (i : Int) : Dz K G (.int i) (.int i)
  | str (x : Str) : Dz K G (.str x) (.str x)
  | bl (b : Bool) : Dz K G (.bl b) (.bool b)
  | non : Dz K G .non .none
  | tup {p : Addr} {vs : List V} {zs : List PyData} (at_ : TupR K G p vs) (all : DzAll K G vs zs) : Dz K G (.ref p) (.tuple zs)
  | lst {p : Addr} {vs : List V} {zs : List PyData} (at_ : SqL K G p vs) (all : DzAll K G vs zs) : Dz K G (.ref p) (.list zs)
inductive DzAll (K : PySem.W.Frag) (G : Hp) : List V → List PyData → Prop
  | nil : DzAll K G [] []
  | cons {u : V} {us : List V} {z : PyData} {zs : List PyData} (hd : Dz K G u z) (tl : DzAll K G us zs) : DzAll K G (u :: us) (z :: zs)
end
theorem TupR.sq {K : PySem.W.Frag} {G : Hp} {a : Addr} {xs : List V} (h : TupR K G a xs) : SqT K G a xs := h.elim Evl.st_of And.left
theorem TupR.mono {K : PySem.W.Frag} {G G' : Hp} {a : Addr} {xs : List V} (e : Ex G G') (h : TupR K G a xs) : TupR K G' a xs := h.elim (fun q => .inl (e _ _ q)) fun q => .inr ⟨Evl.ex_t e q.1, q.2⟩
/-- what is raised, as data: its class, its fields -/
structure XD where
  cls : Addr
  fs : List (Str × PyData)
/-- d | c an own cell | e a caught exception, its class, its dict, what it is -/
inductive ZV where
  | d (x : PyData)
  | c (p : Addr)
  | e (a : Addr) (cls : Value) (dd : Option Addr) (x : XD)
abbrev Fg := PySem.W.Frag
abbrev Zs : Type := List (Option ZV)
def XAt (K : Fg) (G : Hp) (cls : Value) (d : Option Addr) (x : XD) : Prop := cls = .ref x.cls ∧ match x.fs with
  | [] => d = none
  | f :: fs => ∃ dd fv, d = some dd ∧ G dd = some (.xd fv) ∧ Paired (fun (a : Str × V) (b : Str × PyData) => a.1 = b.1 ∧ Dz K G a.2 b.2) fv (f :: fs)
def ZV.at (K : Fg) (G : Hp) (v : V) : ZV → Prop
  | .d x => Dz K G v x
  | .c p => v = .ref p
  | .e a cls dd x => v = .ref a ∧ XAt K G cls dd x
abbrev ZAll (K : Fg) (G : Hp) : List V → List ZV → Prop := Paired (fun v z => ZV.at K G v z)
inductive CD where
  | lst (xs : List PyData)
  | obj (C : Addr) (fs : List (Str × ZV))
  | dT (kvs : List (List Key × PyData))
def CD.at (K : Fg) (G H : Hp) (p : Addr) : CD → Prop
  | .lst xs => ∃ ws, H p = some (.lst ws) ∧ DzAll K G ws xs
  | .obj C fs => ∃ dx fv, H p = some (.ins C dx fv) ∧ H dx = some (.own p) ∧ G dx = none ∧ Paired (fun (a : Str × V) (b : Str × ZV) => a.1 = b.1 ∧ ZV.at K G a.2 b.2) fv fs
  | .dT kvs => ∃ ws, H p = some (.dT ws) ∧ Paired (fun (a : List Key × V) (b : List Key × PyData) => a.1 = b.1 ∧ Dz K G a.2 b.2) ws kvs
abbrev Ms : Type := List (Addr × Bool × CD)

mutual
theorem dp_mono {K : Fg} {G G' : Hp} (e : Ex G G') : ∀ {d : PyData} {v : V}, Dz K G v d → Dz K G' v d
  | _, _, .non => .non
  | _, _, .bl b => .bl b
  | _, _, .int i => .int i
  | _, _, .str s => .str s
  | _, _, .lst s a => .lst (Evl.ex_l e s) (dpAll_mono e a)
  | _, _, .tup s a => .tup (s.mono e) (dpAll_mono e a)
theorem dpAll_mono {K : Fg} {G G' : Hp} (e : Ex G G') : ∀ {ds : List PyData} {vs : List V}, DzAll K G vs ds → DzAll K G' vs ds
  | _, _, .nil => .nil
  | _, _, .cons a b => .cons (dp_mono e a) (dpAll_mono e b)
end
mutual
theorem dz_dp {K : Fg} {G : Hp} : ∀ {d : PyData} {v : V}, Dz K G v d → L2.Dp K G v d
  | _, _, .non => .non
  | _, _, .bl b => .bl b
  | _, _, .int i => .int i
  | _, _, .str s => .str s
  | _, _, .lst s a => .lst s (dzAll_dp a)
  | _, _, .tup s a => .tup s.sq (dzAll_dp a)
theorem dzAll_dp {K : Fg} {G : Hp} : ∀ {ds : List PyData} {vs : List V}, DzAll K G vs ds → L2.DpAll K G vs ds
  | _, _, .nil => .nil
  | _, _, .cons a b => .cons (dz_dp a) (dzAll_dp b)
end
theorem paired_mono {α β : Type} {F F' : α → β → Prop} (h : ∀ a b, F a b → F' a b) : ∀ {l : List α} {m : List β}, Paired F l m → Paired F' l m
  | _, _, .nil => .nil
  | _, _, .cons a b => .cons (h _ _ a) (paired_mono h b)
theorem xat_mono {K : Fg} {G G' : Hp} (e : Ex G G') {cls : Value} {d : Option Addr} {x : XD} (h : XAt K G cls d x) : XAt K G' cls d x := by
  obtain ⟨h1, h2⟩ := h
  refine ⟨h1, ?_⟩
  split at h2
  · exact h2
  · obtain ⟨dd, fv, q1, q2, q3⟩ := h2
    exact ⟨dd, fv, q1, e _ _ q2, paired_mono (fun a b q => ⟨q.1, dp_mono e q.2⟩) q3⟩
theorem ZV.mono {K : Fg} {G G' : Hp} (e : Ex G G') {v : V} : ∀ {z : ZV}, ZV.at K G v z → ZV.at K G' v z
  | .d _, h => dp_mono e h
  | .c _, h => h
  | .e _ _ _ _, h => ⟨h.1, xat_mono e h.2⟩
theorem zall_mono {K : Fg} {G G' : Hp} (e : Ex G G') : ∀ {zs : List ZV} {vs : List V}, ZAll K G vs zs → ZAll K G' vs zs
  | _, _, .nil => .nil
  | _, _, .cons a b => .cons (ZV.mono e a) (zall_mono e b)
/-- a cell's content stands, where its own addresses do -/
theorem CD.stay {K : Fg} {G G' H H' : Hp} {p : Addr} {c : CD} (h : CD.at K G H p c) (e : Ex G G') (hp : ∀ o, H p = some o → H' p = some o) (hd : ∀ a x, H a = some (.own x) → H' a = some (.own x) ∧ (G a = none → G' a = none)) : CD.at K G' H' p c := by
  cases c with
  | lst xs => obtain ⟨ws, h1, h2⟩ := h; exact ⟨ws, hp _ h1, dpAll_mono e h2⟩
  | obj C fs =>
    obtain ⟨dx, fv, h1, h2, h3, h4⟩ := h
    exact ⟨dx, fv, hp _ h1, (hd _ _ h2).1, (hd _ _ h2).2 h3, paired_mono (fun a b q => ⟨q.1, ZV.mono e q.2⟩) h4⟩
  | dT kvs => obtain ⟨ws, h1, h2⟩ := h; exact ⟨ws, hp _ h1, paired_mono (fun a b q => ⟨q.1, dp_mono e q.2⟩) h2⟩
theorem CD.there {K : Fg} {G H : Hp} {p : Addr} {c : CD} (h : CD.at K G H p c) : ∃ o, H p = some o ∧ ∀ x, o ≠ .own x := by
  cases c with
  | lst xs => obtain ⟨ws, h1, _⟩ := h; exact ⟨_, h1, fun _ q => nomatch q⟩
  | obj C fs => obtain ⟨dx, fv, h1, _⟩ := h; exact ⟨_, h1, fun _ q => nomatch q⟩
  | dT kvs => obtain ⟨ws, h1, _⟩ := h; exact ⟨_, h1, fun _ q => nomatch q⟩

/-! ### the state, seen from the entry n of the def -/
structure Sn where
  G : Hp
  H : Hp
  A : List Addr
structure Rel (K : Fg) (n : Sn) (S : Zs) (M : Ms) (σ : L2.St) (G H : Hp) : Prop where
  ex : Ex G H
  len : σ.length = S.length
  sl : ∀ (i : Nat) (z : ZV), S[i]? = some (some z) → ∃ v, σ[i]? = some (some v) ∧ ZV.at K G v z
  nd : (M.map (·.1)).Nodup
  ce : ∀ p b c, (p, b, c) ∈ M → G p = none ∧ CD.at K G H p c
  g0 : Ex n.G G
  h0 : ∀ a o, n.H a = some o → a ∉ n.A → H a = some o
  lv : ∀ a o, n.H a = some o → ∃ o', H a = some o'
  f0 : ∀ a o, n.H a = some o → n.G a = none → G a = none
  a0 : ∀ p c, (p, false, c) ∈ M → p ∈ n.A
  o0 : ∀ p c, (p, true, c) ∈ M → n.H p = none
section
variable {K : Fg} {n : Sn} {S S' : Zs} {M M' : Ms} {σ σ' : L2.St} {G G' H H' : Hp} {p : Addr} {o : HO}
theorem ex_upd (e : Ex G H) (hp : G p = none) : Ex G (upd H p o) := fun a u h => by
  rw [upd_ne (ne_of_none h hp)]
  exact e a u h
theorem ex_both (e : Ex G H) : Ex (upd G p o) (upd H p o) := fun a u h => by
  by_cases q : a = p
  · subst q
    rw [upd_same] at h ⊢
    exact h
  · rw [upd_ne q] at h ⊢
    exact e a u h
theorem ex_gnone (e : Ex G H) (h : H p = none) : G p = none := Evl.fresh_back e h
/-- a new frozen thing -/
theorem Rel.new (R : Rel K n S M σ G H) (hp : H p = none) (hno : ∀ x, o ≠ .own x) : Rel K n S M σ (upd G p o) (upd H p o) where
  ex := ex_both R.ex
  len := R.len
  sl := fun i z e => by
    obtain ⟨v, h1, h2⟩ := R.sl i z e
    exact ⟨v, h1, ZV.mono (Ex.new (ex_gnone R.ex hp)) h2⟩
  nd := R.nd
  ce := fun q b c hm => by
    obtain ⟨h1, h2⟩ := R.ce q b c hm
    obtain ⟨u, hu, _⟩ := CD.there h2
    have qp : q ≠ p := ne_of_none hu hp
    refine ⟨by rw [upd_ne qp]; exact h1, CD.stay h2 (Ex.new (ex_gnone R.ex hp)) (fun o' h => by rw [upd_ne qp]; exact h) fun a x h => ?_⟩
    have ap : a ≠ p := ne_of_none h hp
    exact ⟨by rw [upd_ne ap]; exact h, fun g => by rw [upd_ne ap]; exact g⟩
  g0 := R.g0.trans (Ex.new (ex_gnone R.ex hp))
  h0 := fun a u h1 h2 => by
    have q := R.h0 a u h1 h2
    rw [upd_ne (ne_of_none q hp)]
    exact q
  lv := fun a u h1 => by
    obtain ⟨o', q⟩ := R.lv a u h1
    exact ⟨o', by rw [upd_ne (ne_of_none q hp)]; exact q⟩
  f0 := fun a u h1 h2 => by
    obtain ⟨o', q⟩ := R.lv a u h1
    rw [upd_ne (ne_of_none q hp)]
    exact R.f0 a u h1 h2
  a0 := R.a0
  o0 := R.o0
theorem Rel.fresh (R : Rel K n S M σ G H) (hp : H p = none) : n.H p = none := by
  cases e : n.H p with
  | none => rfl
  | some u =>
    obtain ⟨o', q⟩ := R.lv p u e
    rw [hp] at q
    cases q
theorem Rel.notin (R : Rel K n S M σ G H) (hp : H p = none) : p ∉ M.map (·.1) := fun hm => by
  obtain ⟨⟨q, b, c⟩, h1, h2⟩ := List.mem_map.mp hm
  obtain ⟨u, hu, _⟩ := CD.there (R.ce q b c h1).2
  have e : q = p := h2
  rw [e, hp] at hu
  cases hu
/-- an object laid beside (its own dict ..): neither frozen nor a cell -/
theorem Rel.lay (R : Rel K n S M σ G H) (hp : H p = none) : Rel K n S M σ G (upd H p o) where
  ex := ex_upd R.ex (ex_gnone R.ex hp)
  len := R.len
  sl := R.sl
  nd := R.nd
  ce := fun q b c hm => by
    obtain ⟨h1, h2⟩ := R.ce q b c hm
    obtain ⟨u, hu, _⟩ := CD.there h2
    have qp : q ≠ p := ne_of_none hu hp
    refine ⟨h1, CD.stay h2 (Ex.refl G) (fun o' h => by rw [upd_ne qp]; exact h) fun a x h => ?_⟩
    exact ⟨by rw [upd_ne (ne_of_none h hp)]; exact h, fun g => g⟩
  g0 := R.g0
  h0 := fun a u h1 h2 => by
    have q := R.h0 a u h1 h2
    rw [upd_ne (ne_of_none q hp)]
    exact q
  lv := fun a u h1 => by
    obtain ⟨o', q⟩ := R.lv a u h1
    exact ⟨o', by rw [upd_ne (ne_of_none q hp)]; exact q⟩
  f0 := R.f0
  a0 := R.a0
  o0 := R.o0
/-- what was laid beside becomes a cell -/
theorem Rel.cell {c : CD} (R : Rel K n S M σ G H) (hn : n.H p = none) (hm : p ∉ M.map (·.1)) (hg : G p = none) (hc : CD.at K G H p c) : Rel K n S ((p, true, c) :: M) σ G H where
  ex := R.ex
  len := R.len
  sl := R.sl
  nd := List.nodup_cons.mpr ⟨hm, R.nd⟩
  ce := fun q b c' h => by
    rcases List.mem_cons.mp h with e | h
    · cases e
      exact ⟨hg, hc⟩
    · exact R.ce q b c' h
  g0 := R.g0
  h0 := R.h0
  lv := R.lv
  f0 := R.f0
  a0 := fun q c' h => by
    rcases List.mem_cons.mp h with e | h
    · cases e
    · exact R.a0 q c' h
  o0 := fun q c' h => by
    rcases List.mem_cons.mp h with e | h
    · cases e
      exact hn
    · exact R.o0 q c' h
theorem Rel.newLst {ws : List V} {xs : List PyData} (R : Rel K n S M σ G H) (hp : H p = none) (h : DzAll K G ws xs) : Rel K n S ((p, true, .lst xs) :: M) σ G (upd H p (.lst ws)) :=
  (R.lay hp).cell (R.fresh hp) (R.notin hp) (ex_gnone R.ex hp) ⟨ws, upd_same, h⟩
/-- one entry of the cells is changed, is taken out -/
inductive Upd1 (p : Addr) (b : Bool) (c c' : CD) : Ms → Ms → Prop
  | here {M : Ms} : Upd1 p b c c' ((p, b, c) :: M) ((p, b, c') :: M)
  | there {q : Addr × Bool × CD} {M M' : Ms} : Upd1 p b c c' M M' → Upd1 p b c c' (q :: M) (q :: M')
inductive Rem1 (p : Addr) (b : Bool) (c : CD) : Ms → Ms → Prop
  | here {M : Ms} : Rem1 p b c ((p, b, c) :: M) M
  | there {q : Addr × Bool × CD} {M M' : Ms} : Rem1 p b c M M' → Rem1 p b c (q :: M) (q :: M')
theorem Upd1.mem {b : Bool} {c c' : CD} (u : Upd1 p b c c' M M') : (p, b, c) ∈ M := by
  induction u with
  | here => exact List.mem_cons_self
  | there _ ih => exact List.mem_cons_of_mem _ ih
theorem Upd1.fst {b : Bool} {c c' : CD} (u : Upd1 p b c c' M M') : M'.map (·.1) = M.map (·.1) := by
  induction u with
  | here => rfl
  | there _ ih => simp only [List.map_cons, ih]
theorem Upd1.of {b : Bool} {c c' : CD} (u : Upd1 p b c c' M M') (nd : (M.map (·.1)).Nodup) : ∀ q b' e, (q, b', e) ∈ M' → (q = p ∧ b' = b ∧ e = c') ∨ (q ≠ p ∧ (q, b', e) ∈ M) := by
  induction u with
  | here =>
    intro q b' e h
    rcases List.mem_cons.mp h with z | h
    · cases z
      exact .inl ⟨rfl, rfl, rfl⟩
    · refine .inr ⟨fun z => ?_, List.mem_cons_of_mem _ h⟩
      have hp := List.mem_map_of_mem (f := (·.1)) h
      have hp : q ∈ _ := hp
      rw [z] at hp
      exact (List.nodup_cons.mp nd).1 hp
  | @there r M M' v ih =>
    intro q b' e h
    rcases List.mem_cons.mp h with z | h
    · subst z
      refine .inr ⟨fun z => ?_, List.mem_cons_self⟩
      have z : q = p := z
      have hp := List.mem_map_of_mem (f := (·.1)) v.mem
      rw [← z] at hp
      exact (List.nodup_cons.mp nd).1 hp
    · rcases ih (List.nodup_cons.mp nd).2 q b' e h with z | ⟨z1, z2⟩
      · exact .inl z
      · exact .inr ⟨z1, List.mem_cons_of_mem _ z2⟩
theorem Rem1.mem {b : Bool} {c : CD} (u : Rem1 p b c M M') : (p, b, c) ∈ M := by
  induction u with
  | here => exact List.mem_cons_self
  | there _ ih => exact List.mem_cons_of_mem _ ih
theorem Rem1.sub {b : Bool} {c : CD} (u : Rem1 p b c M M') : M'.Sublist M := by
  induction u with
  | here => exact List.sublist_cons_self _ _
  | there _ ih => exact ih.cons₂ _
theorem Rem1.ne {b : Bool} {c : CD} (u : Rem1 p b c M M') (nd : (M.map (·.1)).Nodup) : ∀ q ∈ M', q.1 ≠ p := by
  induction u with
  | here =>
    intro q h z
    rw [← z] at nd
    exact (List.nodup_cons.mp nd).1 (List.mem_map_of_mem (f := (·.1)) h)
  | @there r M M' v ih =>
    intro q h
    rcases List.mem_cons.mp h with z | h
    · intro e
      have hp := List.mem_map_of_mem (f := (·.1)) v.mem
      rw [z] at e
      rw [← e] at hp
      exact (List.nodup_cons.mp nd).1 hp
    · exact ih (List.nodup_cons.mp nd).2 q h
/-- a cell is written -/
theorem Rel.put {b : Bool} {c c' : CD} (R : Rel K n S M σ G H) (u : Upd1 p b c c' M M') (hno : ∀ x, H p ≠ some (.own x)) (hc : CD.at K G (upd H p o) p c') : Rel K n S M' σ G (upd H p o) := by
  have hm := u.mem
  obtain ⟨hg, hcd⟩ := R.ce p b c hm
  obtain ⟨u0, hu0, _⟩ := CD.there hcd
  have np : ∀ a o', n.H a = some o' → a ∉ n.A → a ≠ p := fun a o' h1 h2 z => by
    subst z
    cases b with
    | false => exact h2 (R.a0 _ _ hm)
    | true => rw [R.o0 _ _ hm] at h1; cases h1
  refine ⟨ex_upd R.ex hg, R.len, R.sl, by rw [u.fst]; exact R.nd, fun q b' e h => ?_, R.g0, fun a o' h1 h2 => ?_, fun a o' h1 => ?_, R.f0, fun q e h => ?_, fun q e h => ?_⟩
  · rcases u.of R.nd q b' e h with ⟨rfl, rfl, rfl⟩ | ⟨z1, z2⟩
    · exact ⟨hg, hc⟩
    · obtain ⟨h1, h2⟩ := R.ce q b' e z2
      refine ⟨h1, CD.stay h2 (Ex.refl G) (fun o' h => by rw [upd_ne z1]; exact h) fun a x h => ⟨?_, fun g => g⟩⟩
      rw [upd_ne (fun z => hno x (by rw [← z]; exact h))]
      exact h
  · rw [upd_ne (np a o' h1 h2)]
    exact R.h0 a o' h1 h2
  · by_cases z : a = p
    · subst z
      exact ⟨_, upd_same⟩
    · obtain ⟨o2, q⟩ := R.lv a o' h1
      exact ⟨o2, by rw [upd_ne z]; exact q⟩
  · rcases u.of R.nd q false e h with ⟨rfl, z, _⟩ | ⟨_, z⟩
    · subst z
      exact R.a0 _ _ hm
    · exact R.a0 q e z
  · rcases u.of R.nd q true e h with ⟨rfl, z, _⟩ | ⟨_, z⟩
    · subst z
      exact R.o0 _ _ hm
    · exact R.o0 q e z
theorem Rel.putLst {b : Bool} {xs ys : List PyData} {ws : List V} (R : Rel K n S M σ G H) (u : Upd1 p b (.lst xs) (.lst ys) M M') (h : DzAll K G ws ys) : Rel K n S M' σ G (upd H p (.lst ws)) := by
  obtain ⟨_, vs, h1, _⟩ := R.ce p b _ u.mem
  exact R.put u (fun x z => by rw [h1] at z; cases z) ⟨ws, upd_same, h⟩
/-- an own list that nobody will change any more -/
theorem Rel.frz {xs : List PyData} (R : Rel K n S M σ G H) (u : Rem1 p true (.lst xs) M M') : ∃ G', Ex G G' ∧ Rel K n S M' σ G' H ∧ Dz K G' (.ref p) (.list xs) := by
  obtain ⟨hg, ws, h1, h2⟩ := R.ce p true _ u.mem
  refine ⟨upd G p (.lst ws), Ex.new hg, ⟨fun a o' h => ?_, R.len, fun i z e => ?_, R.nd.sublist (u.sub.map _), fun q b c h => ?_, R.g0.trans (Ex.new hg), R.h0, R.lv, fun a o' q1 q2 => ?_, fun q c h => R.a0 q c (u.sub.subset h), fun q c h => R.o0 q c (u.sub.subset h)⟩, ?_⟩
  · by_cases z : a = p
    · subst z
      rw [upd_same] at h
      rw [h1]; exact h
    · rw [upd_ne z] at h
      exact R.ex a o' h
  · obtain ⟨v, q1, q2⟩ := R.sl i z e
    exact ⟨v, q1, ZV.mono (Ex.new hg) q2⟩
  · obtain ⟨q1, q2⟩ := R.ce q b c (u.sub.subset h)
    have z := u.ne R.nd _ h
    refine ⟨by rw [upd_ne z]; exact q1, CD.stay q2 (Ex.new hg) (fun o' h => h) fun a x h => ⟨h, fun g => ?_⟩⟩
    rw [upd_ne (fun z => by rw [z, h1] at h; cases h)]
    exact g
  · have z : a ≠ p := fun z => by rw [z, R.o0 _ _ u.mem] at q1; cases q1
    rw [upd_ne z]
    exact R.f0 a o' q1 q2
  · exact .lst (Evl.sq_of upd_same) (dpAll_mono (Ex.new hg) h2)
/-- slots -/
theorem Rel.set {i : Nat} {v : V} {z : ZV} (R : Rel K n S M σ G H) (h : ZV.at K G v z) : Rel K n (S.set i (some z)) M (σ.set i (some v)) G H := by
  refine ⟨R.ex, by simp [R.len], fun j z' e => ?_, R.nd, R.ce, R.g0, R.h0, R.lv, R.f0, R.a0, R.o0⟩
  by_cases q : i = j
  · subst q
    rw [List.getElem?_set] at e
    simp only [if_true] at e
    split at e
    · rename_i hl
      cases e
      exact ⟨v, by rw [List.getElem?_set]; simp [R.len, hl], h⟩
    · cases e
  · rw [List.getElem?_set_ne q] at e
    obtain ⟨u, h1, h2⟩ := R.sl j z' e
    exact ⟨u, by rw [List.getElem?_set_ne q]; exact h1, h2⟩
theorem Rel.unset {i : Nat} (R : Rel K n S M σ G H) : Rel K n (S.set i none) M (σ.set i none) G H := by
  refine ⟨R.ex, by simp [R.len], fun j z' e => ?_, R.nd, R.ce, R.g0, R.h0, R.lv, R.f0, R.a0, R.o0⟩
  by_cases q : i = j
  · subst q
    rw [List.getElem?_set] at e
    simp only [if_true] at e
    split at e <;> cases e
  · rw [List.getElem?_set_ne q] at e
    obtain ⟨u, h1, h2⟩ := R.sl j z' e
    exact ⟨u, by rw [List.getElem?_set_ne q]; exact h1, h2⟩
/-- what is known of slots may be forgotten -/
theorem Rel.weak (R : Rel K n S M σ G H) (hl : S'.length = S.length) (h : ∀ (i : Nat) (z : ZV), S'[i]? = some (some z) → S[i]? = some (some z)) : Rel K n S' M σ G H :=
  ⟨R.ex, R.len.trans hl.symm, fun i z e => R.sl i z (h i z e), R.nd, R.ce, R.g0, R.h0, R.lv, R.f0, R.a0, R.o0⟩
/-- cells may be forgotten -/
theorem Rel.drop (R : Rel K n S M σ G H) (h : M'.Sublist M) : Rel K n S M' σ G H :=
  ⟨R.ex, R.len, R.sl, R.nd.sublist (h.map _), fun p b c q => R.ce p b c (h.subset q), R.g0, R.h0, R.lv, R.f0, fun p c q => R.a0 p c (h.subset q), fun p c q => R.o0 p c (h.subset q)⟩
end

/-! ### what a call leaves: A the cells it may write -/
structure Ext (A : List Addr) (G H G' H' : Hp) : Prop where
  g : Ex G G'
  h : ∀ a o, H a = some o → a ∉ A → H' a = some o
  l : ∀ a o, H a = some o → ∃ o', H' a = some o'
  x : Ex G' H'
  f : ∀ a o, H a = some o → G a = none → G' a = none
section
variable {K : Fg} {n : Sn} {S S' : Zs} {M M' : Ms} {σ σ' : L2.St} {G G' H H' : Hp} {p : Addr}
theorem Rel.ext (R : Rel K n S M σ G H) : Ext n.A n.G n.H G H := ⟨R.g0, R.h0, R.lv, R.ex, R.f0⟩
/-- behind a call that writes no cell -/
theorem Rel.call (R : Rel K n S M σ G H) (e : Ext [] G H G' H') : Rel K n S M σ G' H' := by
  have hh : Ex H H' := fun a o h => e.h a o h (by simp)
  refine ⟨e.x, R.len, fun i z q => ?_, R.nd, fun q b c hm => ?_, R.g0.trans e.g, fun a o h1 h2 => hh a o (R.h0 a o h1 h2), fun a o h1 => ?_, fun a o h1 h2 => ?_, R.a0, R.o0⟩
  · obtain ⟨v, h1, h2⟩ := R.sl i z q
    exact ⟨v, h1, ZV.mono e.g h2⟩
  · obtain ⟨h1, h2⟩ := R.ce q b c hm
    obtain ⟨u, hu, _⟩ := CD.there h2
    exact ⟨e.f q u hu h1, CD.stay h2 e.g (fun o h => hh _ _ h) fun a x h => ⟨hh _ _ h, fun g => e.f a _ h g⟩⟩
  · obtain ⟨o', q⟩ := R.lv a o h1
    exact e.l a o' q
  · obtain ⟨o', q⟩ := R.lv a o h1
    exact e.f a o' q (R.f0 a o h1 h2)
/-- behind a call that writes one cell -/
theorem Rel.call1 {b : Bool} {c c' : CD} (R : Rel K n S M σ G H) (e : Ext [p] G H G' H') (u : Upd1 p b c c' M M') (hd : ∀ a x, H a = some (.own x) → H' a = some (.own x)) (hc : CD.at K G' H' p c') : Rel K n S M' σ G' H' := by
  have hm := u.mem
  obtain ⟨hg, hcd⟩ := R.ce p b c hm
  obtain ⟨u0, hu0, _⟩ := CD.there hcd
  refine ⟨e.x, R.len, fun i z q => ?_, by rw [u.fst]; exact R.nd, fun q b' e' h => ?_, R.g0.trans e.g, fun a o h1 h2 => ?_, fun a o h1 => ?_, fun a o h1 h2 => ?_, fun q e' h => ?_, fun q e' h => ?_⟩
  · obtain ⟨v, h1, h2⟩ := R.sl i z q
    exact ⟨v, h1, ZV.mono e.g h2⟩
  · rcases u.of R.nd q b' e' h with ⟨rfl, rfl, rfl⟩ | ⟨z1, z2⟩
    · exact ⟨e.f q _ hu0 hg, hc⟩
    · obtain ⟨h1, h2⟩ := R.ce q b' e' z2
      obtain ⟨u1, hu1, _⟩ := CD.there h2
      exact ⟨e.f q u1 hu1 h1, CD.stay h2 e.g (fun o h => e.h _ _ h (by simpa using z1)) fun a x h => ⟨hd a x h, fun g => e.f a _ h g⟩⟩
  · have np : a ∉ [p] := by
      intro z
      have z : a = p := by simpa using z
      subst z
      cases b with
      | false => exact h2 (R.a0 _ _ hm)
      | true => rw [R.o0 _ _ hm] at h1; cases h1
    exact e.h a o (R.h0 a o h1 h2) np
  · obtain ⟨o', q⟩ := R.lv a o h1
    exact e.l a o' q
  · obtain ⟨o', q⟩ := R.lv a o h1
    exact e.f a o' q (R.f0 a o h1 h2)
  · rcases u.of R.nd q false e' h with ⟨rfl, z, _⟩ | ⟨_, z⟩
    · subst z
      exact R.a0 _ _ hm
    · exact R.a0 q e' z
  · rcases u.of R.nd q true e' h with ⟨rfl, z, _⟩ | ⟨_, z⟩
    · subst z
      exact R.o0 _ _ hm
    · exact R.o0 q e' z
end
end Z
namespace Z
open PySem PySem.Spec PyProof.Rows L2
open Evl (Ex)

/-! ### the judgements: readings over data -/
abbrev QZ := ZV → Ms → Prop
abbrev XZ := XD → Zs → Ms → Prop
def XOk (K : Fg) (E : XK) (n : Sn) (σ : L2.St) (G : Hp) (X : XZ) : Prop := ∀ cls d G' H' x S' M', Ex G G' → Rel K n S' M' σ G' H' → XAt K G' cls d x → X x S' M' → E cls d H'
def ZW (K : Fg) (E : L2.St → XK) (te : TE) (S : Zs) (M : Ms) (Q : QZ) (X : XZ) : Prop := ∀ (n : Sn) (σ : L2.St) (G H : Hp), Rel K n S M σ G H → ∀ Qv : VK,
  (∀ v G' H' z M', Ex G G' → Rel K n S M' σ G' H' → ZV.at K G' v z → Q z M' → Qv v H') → XOk K (E σ) n σ G X → te σ H Qv
def ZA (K : Fg) (E : L2.St → XK) (ta : TA) (S : Zs) (M : Ms) (Q : List ZV → Ms → Prop) (X : XZ) : Prop := ∀ (n : Sn) (σ : L2.St) (G H : Hp), Rel K n S M σ G H → ∀ Qv : List V → Hp → Prop,
  (∀ vs G' H' zs M', Ex G G' → Rel K n S M' σ G' H' → ZAll K G' vs zs → Q zs M' → Qv vs H') → XOk K (E σ) n σ G X → ta σ H Qv
def ZT (K : Fg) (E : L2.St → XK) (tt : TT) (S : Zs) (M : Ms) (Q : Bool → Ms → Prop) (X : XZ) : Prop := ∀ (n : Sn) (σ : L2.St) (G H : Hp), Rel K n S M σ G H → ∀ Qv : Bool → Hp → Prop,
  (∀ b G' H' M', Ex G G' → Rel K n S M' σ G' H' → Q b M' → Qv b H') → XOk K (E σ) n σ G X → tt σ H Qv
structure ZP where
  nx : Zs → Ms → Prop
  rt : QZ
  bk : Zs → Ms → Prop
  ct : Zs → Ms → Prop
  ex : XZ
structure DOk (K : Fg) (E : L2.St → XK) (n : Sn) (G : Hp) (P : ZP) (D : Ends) : Prop where
  nx : ∀ σ' G' H' S' M', Ex G G' → Rel K n S' M' σ' G' H' → P.nx S' M' → D.nx σ' H'
  rt : ∀ v σ' G' H' z S' M', Ex G G' → Rel K n S' M' σ' G' H' → ZV.at K G' v z → P.rt z M' → D.rt v H'
  bk : ∀ σ' G' H' S' M', Ex G G' → Rel K n S' M' σ' G' H' → P.bk S' M' → D.bk σ' H'
  ct : ∀ σ' G' H' S' M', Ex G G' → Rel K n S' M' σ' G' H' → P.ct S' M' → D.ct σ' H'
  ex : ∀ cls d σ' G' H' x S' M', Ex G G' → Rel K n S' M' σ' G' H' → XAt K G' cls d x → P.ex x S' M' → E σ' cls d H'
theorem DOk.mono {K : Fg} {E : L2.St → XK} {n : Sn} {G G' : Hp} {P : ZP} {D : Ends} (k : DOk K E n G P D) (e : Ex G G') : DOk K E n G' P D :=
  ⟨fun a b c d f g => k.nx a b c d f (e.trans g), fun a b c d f h i g => k.rt a b c d f h i (e.trans g), fun a b c d f g => k.bk a b c d f (e.trans g), fun a b c d f g => k.ct a b c d f (e.trans g), fun a b c d f h i j g => k.ex a b c d f h i j (e.trans g)⟩
def ZS (K : Fg) (E : L2.St → XK) (t : TS) (S : Zs) (M : Ms) (P : ZP) : Prop := ∀ (n : Sn) (σ : L2.St) (G H : Hp), Rel K n S M σ G H → ∀ D, DOk K E n G P D → t D σ H
section
variable {K : Fg} {E : L2.St → XK} {e0 : XK} {te ta tb tc : TE} {tA : TA} {t u : TT} {S S' : Zs} {M M' : Ms} {Q : QZ} {X : XZ} {n : Sn} {σ : L2.St} {G G' H H' : Hp}
theorem XOk.mono (h : XOk K e0 n σ G X) (e : Ex G G') : XOk K e0 n σ G' X := fun cls d G2 H2 x S2 M2 e2 => h cls d G2 H2 x S2 M2 (e.trans e2)
theorem ZW.imp {Q' : QZ} (h : ZW K E te S M Q X) (i : ∀ z M', Q z M' → Q' z M') : ZW K E te S M Q' X := fun n σ G H R Qv q x => h n σ G H R Qv (fun v G' H' z M' e R' a b => q v G' H' z M' e R' a (i _ _ b)) x

/-! ### expressions -/
theorem zw_var {i : Nat} {z : ZV} (h : S[i]? = some (some z)) (q : Q z M) : ZW K E (tVar i) S M Q X := fun n σ G H R Qv k _ => by
  obtain ⟨v, h1, h2⟩ := R.sl i z h
  exact ⟨v, h1, k v G H z M (Ex.refl G) R h2 q⟩
theorem zw_c {v : V} {d : PyData} (h : ∀ H, Dz K H v d) (q : Q (.d d) M) : ZW K E (tC v) S M Q X := fun n σ G H R Qv k _ => k v G H (.d d) M (Ex.refl G) R (h G) q
theorem zw_int {i : Int} (q : Q (.d (.int i)) M) : ZW K E (tC (.int i)) S M Q X := zw_c (fun _ => .int i) q
theorem zw_str {x : Str} (q : Q (.d (.str x)) M) : ZW K E (tC (.str x)) S M Q X := zw_c (fun _ => .str x) q
theorem zw_bl {b : Bool} (q : Q (.d (.bool b)) M) : ZW K E (tC (.bl b)) S M Q X := zw_c (fun _ => .bl b) q
theorem zw_non (q : Q (.d .none) M) : ZW K E (tC .non) S M Q X := zw_c (fun _ => .non) q
/-- an operation on values, over data -/
def ZO (K : Fg) (r : R2) (x y : ZV) (M : Ms) (Q : QZ) : Prop := ∀ (n : Sn) (S : Zs) (σ : L2.St) (G H : Hp), Rel K n S M σ G H → ∀ v u, ZV.at K G v x → ZV.at K G u y → ∀ Qv : VK,
  (∀ w G' H' z M', Ex G G' → Rel K n S M' σ G' H' → ZV.at K G' w z → Q z M' → Qv w H') → r v u H Qv
theorem zw_op {r : R2} (h : ZW K E ta S M (fun x M1 => ZW K E tb S M1 (fun y M2 => ZO K r x y M2 Q) X) X) : ZW K E (tOp r ta tb) S M Q X := fun n σ G H R Qv k kx =>
  h n σ G H R _ (fun v G1 H1 x M1 e1 R1 a1 h1 => h1 n σ G1 H1 R1 _ (fun u G2 H2 y M2 e2 R2 a2 h2 => h2 n S σ G2 H2 R2 v u (ZV.mono e2 a1) a2 Qv
    fun w G3 H3 z M3 e3 R3 a3 q => k w G3 H3 z M3 ((e1.trans e2).trans e3) R3 a3 q) (kx.mono e1)) kx
def ZU (K : Fg) (r : V → Hp → VK → Prop) (x : ZV) (M : Ms) (Q : QZ) : Prop := ∀ (n : Sn) (S : Zs) (σ : L2.St) (G H : Hp), Rel K n S M σ G H → ∀ v, ZV.at K G v x → ∀ Qv : VK,
  (∀ w G' H' z M', Ex G G' → Rel K n S M' σ G' H' → ZV.at K G' w z → Q z M' → Qv w H') → r v H Qv
theorem zw_un {r : V → Hp → VK → Prop} (h : ZW K E ta S M (fun x M1 => ZU K r x M1 Q) X) : ZW K E (tUn r ta) S M Q X := fun n σ G H R Qv k kx =>
  h n σ G H R _ (fun v G1 H1 x M1 e1 R1 a1 h1 => h1 n S σ G1 H1 R1 v a1 Qv fun w G3 H3 z M3 e3 R3 a3 q => k w G3 H3 z M3 (e1.trans e3) R3 a3 q) kx
/-- the plain ones: a value that is there already, nothing made -/
theorem zo_val {r : R2} {x y : ZV} {z : ZV} (h : ∀ G H v u, Ex G H → ZV.at K G v x → ZV.at K G u y → ∃ w, ZV.at K G w z ∧ ∀ Qv : VK, Qv w H → r v u H Qv) (q : Q z M) : ZO K r x y M Q := fun n S σ G H R v u a b Qv k => by
  obtain ⟨w, h1, h2⟩ := h G H v u R.ex a b
  exact h2 Qv (k w G H z M (Ex.refl G) R h1 q)
theorem dp_int {G : Hp} {v : V} {i : Int} (h : Dz K G v (.int i)) : v = .int i := by cases h; rfl
theorem dp_str {G : Hp} {v : V} {i : Str} (h : Dz K G v (.str i)) : v = .str i := by cases h; rfl
theorem dp_bl {G : Hp} {v : V} {i : Bool} (h : Dz K G v (.bool i)) : v = .bl i := by cases h; rfl
theorem dp_non {G : Hp} {v : V} (h : Dz K G v .none) : v = .non := by cases h; rfl
theorem dp_tup {G : Hp} {v : V} {ds : List PyData} (h : Dz K G v (.tuple ds)) : ∃ a xs, v = .ref a ∧ SqT K G a xs ∧ DzAll K G xs ds := by cases h with | tup s a => exact ⟨_, _, rfl, s.sq, a⟩
theorem dp_lst {G : Hp} {v : V} {ds : List PyData} (h : Dz K G v (.list ds)) : ∃ a xs, v = .ref a ∧ SqL K G a xs ∧ DzAll K G xs ds := by cases h with | lst s a => exact ⟨_, _, rfl, s, a⟩
theorem dpa_len {G : Hp} : ∀ {vs : List V} {ds : List PyData}, DzAll K G vs ds → vs.length = ds.length
  | _, _, .nil => rfl
  | _, _, .cons _ b => by simp [dpa_len b]
theorem dpa_get {G : Hp} : ∀ {vs : List V} {ds : List PyData} {i : Nat} {d : PyData}, DzAll K G vs ds → ds[i]? = some d → ∃ v, vs[i]? = some v ∧ Dz K G v d
  | _, _, _, _, .nil, h => by simp at h
  | _, _, 0, _, .cons a _, h => by simp at h; subst h; exact ⟨_, rfl, a⟩
  | _, _, i + 1, _, .cons _ b, h => by
    obtain ⟨v, h1, h2⟩ := dpa_get (i := i) b (by simpa using h)
    exact ⟨v, by simpa using h1, h2⟩
theorem dpa_app {G : Hp} : ∀ {vs ws : List V} {ds es : List PyData}, DzAll K G vs ds → DzAll K G ws es → DzAll K G (vs ++ ws) (ds ++ es)
  | _, _, _, _, .nil, h => h
  | _, _, _, _, .cons a b, h => .cons a (dpa_app b h)
theorem dpa_take {G : Hp} : ∀ {vs : List V} {ds : List PyData} (k : Nat), DzAll K G vs ds → DzAll K G (vs.take k) (ds.take k)
  | _, _, 0, _ => .nil
  | _, _, _ + 1, .nil => .nil
  | _, _, k + 1, .cons a b => .cons a (dpa_take k b)
theorem dpa_drop {G : Hp} : ∀ {vs : List V} {ds : List PyData} (k : Nat), DzAll K G vs ds → DzAll K G (vs.drop k) (ds.drop k)
  | _, _, 0, h => h
  | _, _, _ + 1, .nil => .nil
  | _, _, k + 1, .cons _ b => dpa_drop k b
theorem dpa_one {G : Hp} {v : V} {d : PyData} (h : Dz K G v d) : DzAll K G [v] [d] := .cons h .nil
theorem dpa_set {G : Hp} {v : V} {d : PyData} (h : Dz K G v d) : ∀ {vs : List V} {ds : List PyData} (k : Nat), DzAll K G vs ds → DzAll K G (vs.set k v) (ds.set k d)
  | _, _, _, .nil => .nil
  | _, _, 0, .cons _ b => .cons h b
  | _, _, k + 1, .cons a b => .cons a (dpa_set h k b)
theorem zall_d {G : Hp} : ∀ {vs : List V} {ds : List PyData}, ZAll K G vs (ds.map .d) → DzAll K G vs ds
  | [], [], .nil => .nil
  | _ :: _, _ :: _, .cons a b => .cons a (zall_d b)

theorem zo_I0 {g : Int → Int → V} {gd : Int → Int → PyData} {i j : Int} (hg : ∀ H, Dz K H (g i j) (gd i j)) (q : Q (.d (gd i j)) M) : ZO K (rI0 g) (.d (.int i)) (.d (.int j)) M Q :=
  zo_val (z := .d (gd i j)) (fun G H v u _ a b => ⟨g i j, hg G, fun Qv h => ⟨i, j, dp_int a, dp_int b, h⟩⟩) q
theorem zo_I {C : Int → Int → Prop} {g : Int → Int → V} {gd : Int → Int → PyData} {i j : Int} (hg : ∀ H, Dz K H (g i j) (gd i j)) (hc : C i j) (q : Q (.d (gd i j)) M) : ZO K (rI C g) (.d (.int i)) (.d (.int j)) M Q :=
  zo_val (z := .d (gd i j)) (fun G H v u _ a b => ⟨g i j, hg G, fun Qv h => ⟨i, j, dp_int a, dp_int b, hc, h⟩⟩) q
theorem zo_add {i j : Int} (q : Q (.d (.int (i + j))) M) : ZO K (rI0 fun i j => .int (i + j)) (.d (.int i)) (.d (.int j)) M Q := zo_I0 (gd := fun i j => .int (i + j)) (fun _ => .int _) q
theorem zo_sub {i j : Int} (q : Q (.d (.int (i - j))) M) : ZO K (rI0 fun i j => .int (i - j)) (.d (.int i)) (.d (.int j)) M Q := zo_I0 (gd := fun i j => .int (i - j)) (fun _ => .int _) q
theorem zo_mul {i j : Int} (hc : CMul i j) (q : Q (.d (.int (i * j))) M) : ZO K (rI CMul fun i j => .int (i * j)) (.d (.int i)) (.d (.int j)) M Q := zo_I (gd := fun i j => .int (i * j)) (fun _ => .int _) hc q
theorem zo_mod {i j : Int} (hc : 0 < j) (q : Q (.d (.int (i % j))) M) : ZO K (rI (fun _ j => 0 < j) fun i j => .int (i % j)) (.d (.int i)) (.d (.int j)) M Q := zo_I (C := fun _ j => 0 < j) (gd := fun i j => .int (i % j)) (fun _ => .int _) hc q
theorem zo_fdiv {i j : Int} (hc : CDiv i j) (q : Q (.d (.int (i / j))) M) : ZO K (rI CDiv fun i j => .int (i / j)) (.d (.int i)) (.d (.int j)) M Q := zo_I (gd := fun i j => .int (i / j)) (fun _ => .int _) hc q
theorem zo_pow {i j : Int} (hc : CPow i j) (q : Q (.d (.int (i ^ j.toNat))) M) : ZO K (rI CPow fun i j => .int (i ^ j.toNat)) (.d (.int i)) (.d (.int j)) M Q := zo_I (gd := fun i j => .int (i ^ j.toNat)) (fun _ => .int _) hc q
theorem zo_shl {i j : Int} (hc : CPow i j) (q : Q (.d (.int (i * 2 ^ j.toNat))) M) : ZO K (rI CPow fun i j => .int (i * 2 ^ j.toNat)) (.d (.int i)) (.d (.int j)) M Q := zo_I (gd := fun i j => .int (i * 2 ^ j.toNat)) (fun _ => .int _) hc q
theorem zo_lt {i j : Int} (q : Q (.d (.bool (decide (i < j)))) M) : ZO K (rI0 fun i j => .bl (decide (i < j))) (.d (.int i)) (.d (.int j)) M Q := zo_I0 (gd := fun i j => .bool (decide (i < j))) (fun _ => .bl _) q
theorem zo_le {i j : Int} (q : Q (.d (.bool (decide (i ≤ j)))) M) : ZO K (rI0 fun i j => .bl (decide (i ≤ j))) (.d (.int i)) (.d (.int j)) M Q := zo_I0 (gd := fun i j => .bool (decide (i ≤ j))) (fun _ => .bl _) q
theorem zo_gt {i j : Int} (q : Q (.d (.bool (decide (j < i)))) M) : ZO K (rI0 fun i j => .bl (decide (j < i))) (.d (.int i)) (.d (.int j)) M Q := zo_I0 (gd := fun i j => .bool (decide (j < i))) (fun _ => .bl _) q
theorem zo_ge {i j : Int} (q : Q (.d (.bool (decide (j ≤ i)))) M) : ZO K (rI0 fun i j => .bl (decide (j ≤ i))) (.d (.int i)) (.d (.int j)) M Q := zo_I0 (gd := fun i j => .bool (decide (j ≤ i))) (fun _ => .bl _) q
theorem zu_neg {i : Int} (q : Q (.d (.int (-i))) M) : ZU K (rU fun i => .int (-i)) (.d (.int i)) M Q := fun n S σ G H R v a Qv k => ⟨i, dp_int a, k _ G H (.d (.int (-i))) M (Ex.refl G) R (.int _) q⟩
/-- == over data -/
theorem zo_eq {x y : PyData} (hx : SeqAt.shaped x = true) (hy : SeqAt.shaped y = true) (q : Q (.d (.bool (PyData.eqv x y))) M) : ZO K (rEqD K) (.d x) (.d y) M Q :=
  zo_val (z := .d (.bool (PyData.eqv x y))) (fun G H v u e a b => ⟨_, .bl _, fun Qv h => ⟨x, y, dz_dp (dp_mono e a), dz_dp (dp_mono e b), hx, hy, h⟩⟩) q
theorem zo_ne {x y : PyData} (hx : SeqAt.shaped x = true) (hy : SeqAt.shaped y = true) (q : Q (.d (.bool (!PyData.eqv x y))) M) : ZO K (rNeD K) (.d x) (.d y) M Q :=
  zo_val (z := .d (.bool (!PyData.eqv x y))) (fun G H v u e a b => ⟨_, .bl _, fun Qv h => ⟨x, y, dz_dp (dp_mono e a), dz_dp (dp_mono e b), hx, hy, h⟩⟩) q
abbrev rAddS1 : R2 := fun x y H Q => ∃ i j, x = .str i ∧ y = .str j ∧ i.length + j.length ≤ sizeLine ∧ Q (.str (i ++ j)) H
theorem zo_addS {x y : Str} (hl : x.length + y.length ≤ sizeLine) (q : Q (.d (.str (x ++ y))) M) : ZO K rAddS1 (.d (.str x)) (.d (.str y)) M Q :=
  zo_val (z := .d (.str (x ++ y))) (fun G H v u e a b => ⟨_, .str _, fun Qv h => ⟨x, y, dp_str a, dp_str b, hl, h⟩⟩) q

/-! ### arguments, displays -/
theorem za_nil {Q : List ZV → Ms → Prop} (q : Q [] M) : ZA K E tNil S M Q X := fun n σ G H R Qv k _ => k [] G H [] M (Ex.refl G) R .nil q
theorem za_cons {Q : List ZV → Ms → Prop} (h : ZW K E te S M (fun x M1 => ZA K E tA S M1 (fun zs M2 => Q (x :: zs) M2) X) X) : ZA K E (tCons te tA) S M Q X := fun n σ G H R Qv k kx =>
  h n σ G H R _ (fun v G1 H1 x M1 e1 R1 a1 h1 => h1 n σ G1 H1 R1 _ (fun vs G2 H2 zs M2 e2 R2 a2 q => k (v :: vs) G2 H2 (x :: zs) M2 (e1.trans e2) R2 (.cons (ZV.mono e2 a1) a2) q) (kx.mono e1)) kx
/-- all plain data -/
def AllD (zs : List ZV) (ds : List PyData) : Prop := zs = ds.map .d
theorem allD_nil : AllD [] [] := rfl
theorem allD_cons {d : PyData} {zs : List ZV} {ds : List PyData} (h : AllD zs ds) : AllD (.d d :: zs) (d :: ds) := by unfold AllD at *; rw [h]; rfl
theorem zw_tup (h : ZA K E tA S M (fun zs M1 => ∃ ds, AllD zs ds ∧ ds.length ≤ sizeLine ∧ Q (.d (.tuple ds)) M1) X) : ZW K E (tTup tA) S M Q X := fun n σ G H R Qv k kx =>
  h n σ G H R _ (fun vs G1 H1 zs M1 e1 R1 a1 ⟨ds, hd, hl, q⟩ => by
    have a2 : DzAll K G1 vs ds := zall_d (by rw [← hd]; exact a1)
    refine ⟨by rw [dpa_len a2]; exact hl, fun p hp => ?_⟩
    have g := ex_gnone R1.ex hp
    exact k (.ref p) _ _ (.d (.tuple ds)) M1 (e1.trans (Ex.new g)) (R1.new hp (fun _ z => nomatch z)) (.tup (.inl upd_same) (dpAll_mono (Ex.new g) a2)) q) kx
/-- a list: frozen at once | a cell -/
theorem zw_lstD (h : ZA K E tA S M (fun zs M1 => ∃ ds, AllD zs ds ∧ ds.length ≤ sizeLine ∧ Q (.d (.list ds)) M1) X) : ZW K E (tLst tA) S M Q X := fun n σ G H R Qv k kx =>
  h n σ G H R _ (fun vs G1 H1 zs M1 e1 R1 a1 ⟨ds, hd, hl, q⟩ => by
    have a2 : DzAll K G1 vs ds := zall_d (by rw [← hd]; exact a1)
    refine ⟨by rw [dpa_len a2]; exact hl, fun p hp => ?_⟩
    have g := ex_gnone R1.ex hp
    exact k (.ref p) _ _ (.d (.list ds)) M1 (e1.trans (Ex.new g)) (R1.new hp (fun _ z => nomatch z)) (.lst (Evl.sq_of upd_same) (dpAll_mono (Ex.new g) a2)) q) kx
theorem zw_lstC (h : ZA K E tA S M (fun zs M1 => ∃ ds, AllD zs ds ∧ ds.length ≤ sizeLine ∧ ∀ p, Q (.c p) ((p, true, .lst ds) :: M1)) X) : ZW K E (tLst tA) S M Q X := fun n σ G H R Qv k kx =>
  h n σ G H R _ (fun vs G1 H1 zs M1 e1 R1 a1 ⟨ds, hd, hl, q⟩ => by
    have a2 : DzAll K G1 vs ds := zall_d (by rw [← hd]; exact a1)
    exact ⟨by rw [dpa_len a2]; exact hl, fun p hp => k (.ref p) _ _ (.c p) _ e1 (R1.newLst hp a2) rfl (q p)⟩) kx
/-- an own list is taken as data from here on -/
theorem zw_frz (h : ZW K E te S M (fun z M1 => ∃ p xs M2, z = .c p ∧ Rem1 p true (.lst xs) M1 M2 ∧ Q (.d (.list xs)) M2) X) : ZW K E te S M Q X := fun n σ G H R Qv k kx =>
  h n σ G H R _ (fun v G1 H1 z M1 e1 R1 a1 ⟨p, xs, M2, hz, hr, q⟩ => by
    subst hz
    obtain ⟨G2, e2, R2, d2⟩ := R1.frz hr
    have ev : v = .ref p := a1
    subst ev
    exact k _ G2 H1 (.d (.list xs)) M2 (e1.trans e2) R2 d2 q) kx

/-! ### tests, and, or, not, if .. else -/
theorem zt_test {Q : Bool → Ms → Prop} (h : ZW K E te S M (fun z M1 => ∃ b, z = .d (.bool b) ∧ Q b M1) X) : ZT K E (tTest te) S M Q X := fun n σ G H R Qv k kx =>
  h n σ G H R _ (fun v G1 H1 z M1 e1 R1 a1 ⟨b, hz, q⟩ => by subst hz; exact ⟨b, dp_bl a1, k b G1 H1 M1 e1 R1 q⟩) kx
theorem zt_B {Q : Bool → Ms → Prop} (h : ZW K E te S M (fun z M1 => ∃ b, z = .d (.bool b) ∧ Q b M1) X) : ZT K E (tB te) S M Q X := fun n σ G H R Qv k kx =>
  h n σ G H R _ (fun v G1 H1 z M1 e1 R1 a1 ⟨b, hz, q⟩ => by subst hz; exact ⟨b, dp_bl a1, k b G1 H1 M1 e1 R1 q⟩) kx
/-- a value's truth -/
def dTru : PyData → Option Bool
  | .none => some false
  | .bool b => some b
  | .int i => some (i != 0)
  | .str y => if y.length ≤ sizeLine then some ((y.length : Int) != 0) else none
  | .list xs => some (!xs.isEmpty)
  | .tuple xs => some (!xs.isEmpty)
  | .dict _ => none
theorem dTru_ok {K : Fg} {G : Hp} {v : V} {d : PyData} {b : Bool} (h : Dz K G v d) (e : dTru d = some b) : TruV K v G b := by
  cases h with
  | non => exact (Option.some.inj e).symm
  | bl x => exact (Option.some.inj e).symm
  | int i => exact (Option.some.inj e).symm
  | str y =>
    simp only [dTru] at e
    split at e
    · rename_i hl; exact ⟨hl, (Option.some.inj e).symm⟩
    · cases e
  | lst s a =>
    refine .inl ⟨_, s, ?_⟩
    have := dpa_len a
    have e := Option.some.inj e
    rw [← e]
    cases a <;> rfl
  | tup s a =>
    refine .inr (.inl ⟨_, s.sq, ?_⟩)
    have e := Option.some.inj e
    rw [← e]
    cases a <;> rfl
theorem truV_mono {K : Fg} {G H : Hp} (e : Ex G H) {v : V} {b : Bool} (h : TruV K v G b) : TruV K v H b := by
  cases v with
  | ref p =>
    rcases h with ⟨xs, s, z⟩ | ⟨xs, s, z⟩ | ⟨kvs, s, z⟩
    · exact .inl ⟨xs, Evl.ex_l e s, z⟩
    · exact .inr (.inl ⟨xs, Evl.ex_t e s, z⟩)
    · exact .inr (.inr ⟨kvs, e _ _ s, z⟩)
  | _ => exact h
theorem zt_tru {Q : Bool → Ms → Prop} (h : ZW K E te S M (fun z M1 => ∃ d b, z = .d d ∧ dTru d = some b ∧ Q b M1) X) : ZT K E (fun σ H Q => te σ H fun x H' => ∃ k, TruV K x H' k ∧ Q k H') S M Q X := fun n σ G H R Qv k kx =>
  h n σ G H R _ (fun v G1 H1 z M1 e1 R1 a1 ⟨d, b, hz, hb, q⟩ => by subst hz; exact ⟨b, truV_mono R1.ex (dTru_ok a1 hb), k b G1 H1 M1 e1 R1 q⟩) kx
/-- an own list's truth -/
theorem zt_truC {Q : Bool → Ms → Prop} (h : ZW K E te S M (fun z M1 => ∃ p b xs, z = .c p ∧ (p, b, CD.lst xs) ∈ M1 ∧ Q (!xs.isEmpty) M1) X) : ZT K E (fun σ H Q => te σ H fun x H' => ∃ k, TruV K x H' k ∧ Q k H') S M Q X := fun n σ G H R Qv k kx =>
  h n σ G H R _ (fun v G1 H1 z M1 e1 R1 a1 ⟨p, b, xs, hz, hm, q⟩ => by
    subst hz
    obtain ⟨_, ws, hw, hd⟩ := R1.ce p b _ hm
    have ev : v = .ref p := a1
    subst ev
    refine ⟨!xs.isEmpty, .inl ⟨ws, Evl.sq_of hw, ?_⟩, k _ G1 H1 M1 e1 R1 q⟩
    cases hd <;> rfl) kx
theorem zt_not {Q : Bool → Ms → Prop} (h : ZT K E t S M (fun b M1 => Q (!b) M1) X) : ZT K E (tNot t) S M Q X := fun n σ G H R Qv k kx =>
  h n σ G H R _ (fun b G1 H1 M1 e1 R1 q => k (!b) G1 H1 M1 e1 R1 q) kx
theorem zt_and {Q : Bool → Ms → Prop} (h : ZT K E t S M (fun b M1 => (b = false → Q false M1) ∧ (b = true → ZT K E u S M1 Q X)) X) : ZT K E (tAnd t u) S M Q X := fun n σ G H R Qv k kx =>
  h n σ G H R _ (fun b G1 H1 M1 e1 R1 q => by
    cases b with
    | true =>
      show u σ H1 Qv
      exact q.2 rfl n σ G1 H1 R1 Qv (fun b G2 H2 M2 e2 R2 q2 => k b G2 H2 M2 (e1.trans e2) R2 q2) (kx.mono e1)
    | false =>
      show Qv false H1
      exact k false G1 H1 M1 e1 R1 (q.1 rfl)) kx
theorem zt_or {Q : Bool → Ms → Prop} (h : ZT K E t S M (fun b M1 => (b = true → Q true M1) ∧ (b = false → ZT K E u S M1 Q X)) X) : ZT K E (tOr t u) S M Q X := fun n σ G H R Qv k kx =>
  h n σ G H R _ (fun b G1 H1 M1 e1 R1 q => by
    cases b with
    | true =>
      show Qv true H1
      exact k true G1 H1 M1 e1 R1 (q.1 rfl)
    | false =>
      show u σ H1 Qv
      exact q.2 rfl n σ G1 H1 R1 Qv (fun b G2 H2 M2 e2 R2 q2 => k b G2 H2 M2 (e1.trans e2) R2 q2) (kx.mono e1)) kx
theorem zw_andV (h : ZW K E ta S M (fun z M1 => ∃ b, z = .d (.bool b) ∧ (b = false → Q (.d (.bool false)) M1) ∧ (b = true → ZW K E tb S M1 Q X)) X) : ZW K E (tAndV ta tb) S M Q X := fun n σ G H R Qv k kx =>
  h n σ G H R _ (fun v G1 H1 z M1 e1 R1 a1 ⟨b, hz, q⟩ => by
    subst hz
    refine ⟨b, dp_bl a1, ?_⟩
    cases b with
    | true =>
      show tb σ H1 Qv
      exact q.2 rfl n σ G1 H1 R1 Qv (fun w G2 H2 z M2 e2 R2 a2 q2 => k w G2 H2 z M2 (e1.trans e2) R2 a2 q2) (kx.mono e1)
    | false =>
      show Qv (.bl false) H1
      exact k _ G1 H1 (.d (.bool false)) M1 e1 R1 (Dz.bl false) (q.1 rfl)) kx
theorem zw_orV (h : ZW K E ta S M (fun z M1 => ∃ b, z = .d (.bool b) ∧ (b = true → Q (.d (.bool true)) M1) ∧ (b = false → ZW K E tb S M1 Q X)) X) : ZW K E (tOrV ta tb) S M Q X := fun n σ G H R Qv k kx =>
  h n σ G H R _ (fun v G1 H1 z M1 e1 R1 a1 ⟨b, hz, q⟩ => by
    subst hz
    refine ⟨b, dp_bl a1, ?_⟩
    cases b with
    | true =>
      show Qv (.bl true) H1
      exact k _ G1 H1 (.d (.bool true)) M1 e1 R1 (Dz.bl true) (q.1 rfl)
    | false =>
      show tb σ H1 Qv
      exact q.2 rfl n σ G1 H1 R1 Qv (fun w G2 H2 z M2 e2 R2 a2 q2 => k w G2 H2 z M2 (e1.trans e2) R2 a2 q2) (kx.mono e1)) kx
theorem zw_notV (h : ZW K E ta S M (fun z M1 => ∃ b, z = .d (.bool b) ∧ Q (.d (.bool (!b))) M1) X) : ZW K E (tNotV ta) S M Q X := fun n σ G H R Qv k kx =>
  h n σ G H R _ (fun v G1 H1 z M1 e1 R1 a1 ⟨b, hz, q⟩ => by subst hz; exact ⟨b, dp_bl a1, k _ G1 H1 (.d (.bool (!b))) M1 e1 R1 (Dz.bl (!b)) q⟩) kx
theorem zw_if (h : ZT K E t S M (fun b M1 => (b = true → ZW K E ta S M1 Q X) ∧ (b = false → ZW K E tb S M1 Q X)) X) : ZW K E (tIf t ta tb) S M Q X := fun n σ G H R Qv k kx =>
  h n σ G H R _ (fun b G1 H1 M1 e1 R1 q => by
    cases b with
    | true =>
      show ta σ H1 Qv
      exact q.1 rfl n σ G1 H1 R1 Qv (fun w G2 H2 z M2 e2 R2 a2 q2 => k w G2 H2 z M2 (e1.trans e2) R2 a2 q2) (kx.mono e1)
    | false =>
      show tb σ H1 Qv
      exact q.2 rfl n σ G1 H1 R1 Qv (fun w G2 H2 z M2 e2 R2 a2 q2 => k w G2 H2 z M2 (e1.trans e2) R2 a2 q2) (kx.mono e1)) kx
end
end Z
namespace Z
open PySem PySem.Spec PyProof.Rows L2
open Evl (Ex)
section
variable {K : Fg} {E : L2.St → XK} {e0 : XK} {te ta tb tc : TE} {tA : TA} {tt : TT} {t u : TS} {S S' : Zs} {M M' : Ms} {P : ZP} {Q : QZ} {X : XZ} {n : Sn} {σ : L2.St} {G G' H H' : Hp}
/-! ### statements -/
theorem DOk.xok {D : Ends} (k : DOk K E n G P D) : XOk K (E σ) n σ G P.ex := fun cls d G' H' x S' M' e R a b => k.ex cls d σ G' H' x S' M' e R a b
theorem zs_never (h : False) : ZS K E t S M P := h.elim
theorem zs_next (h : P.nx S M) : ZS K E tNext S M P := fun n σ G H R D k => k.nx σ G H S M (Ex.refl G) R h
theorem zs_seq (h : ZS K E t S M { P with nx := fun S' M' => ZS K E u S' M' P }) : ZS K E (tSeq t u) S M P := fun n σ G H R D k =>
  h n σ G H R _ ⟨fun σ' G' H' S' M' e R' z => z n σ' G' H' R' D (k.mono e), k.rt, k.bk, k.ct, k.ex⟩
theorem zs_asg {i : Nat} (h : ZW K E te S M (fun z M1 => P.nx (S.set i (some z)) M1) P.ex) : ZS K E (tAsg te (gName i)) S M P := fun n σ G H R D k =>
  h n σ G H R _ (fun v G1 H1 z M1 e1 R1 a1 q => k.nx _ G1 H1 _ M1 e1 (R1.set a1) q) k.xok
theorem zs_drop (h : ZW K E te S M (fun _ M1 => P.nx S M1) P.ex) : ZS K E (tDrop te) S M P := fun n σ G H R D k =>
  h n σ G H R _ (fun v G1 H1 z M1 e1 R1 a1 q => k.nx _ G1 H1 S M1 e1 R1 q) k.xok
theorem zs_ret (h : ZW K E te S M P.rt P.ex) : ZS K E (tRet te) S M P := fun n σ G H R D k =>
  h n σ G H R _ (fun v G1 H1 z M1 e1 R1 a1 q => k.rt v σ G1 H1 z S M1 e1 R1 a1 q) k.xok
theorem zs_retN (h : P.rt (.d .none) M) : ZS K E tRetN S M P := fun n σ G H R D k => k.rt .non σ G H (.d .none) S M (Ex.refl G) R Dz.non h
theorem zs_if (h : ZT K E tt S M (fun b M1 => (b = true → ZS K E t S M1 P) ∧ (b = false → ZS K E u S M1 P)) P.ex) : ZS K E (tIfS tt t u) S M P := fun n σ G H R D k =>
  h n σ G H R _ (fun b G1 H1 M1 e1 R1 q => by
    cases b with
    | true =>
      show t D σ H1
      exact q.1 rfl n σ G1 H1 R1 D (k.mono e1)
    | false =>
      show u D σ H1
      exact q.2 rfl n σ G1 H1 R1 D (k.mono e1)) k.xok
theorem zs_aug {i : Nat} {f : Int → Int → Int} {a : Int} (hs : S[i]? = some (some (.d (.int a)))) (h : ZW K E te S M (fun z M1 => ∃ b, z = .d (.int b) ∧ P.nx (S.set i (some (.d (.int (f a b))))) M1) P.ex) : ZS K E (tAug i te (ipI f)) S M P := fun n σ G H R D k => by
  obtain ⟨v, h1, h2⟩ := R.sl i _ hs
  have e := dp_int h2
  subst e
  refine ⟨_, h1, h n σ G H R _ (fun v G1 H1 z M1 e1 R1 a1 ⟨b, hz, q⟩ => ?_) k.xok⟩
  subst hz
  exact ⟨a, b, rfl, dp_int a1, k.nx _ G1 H1 _ M1 e1 (R1.set (v := .int (f a b)) (z := .d (.int (f a b))) (Dz.int _)) q⟩
/-- what holds of the state may be weakened ahead of a statement -/
theorem zs_weak (h : ZS K E t S' M' P) (hl : S'.length = S.length) (hs : ∀ (i : Nat) (z : ZV), S'[i]? = some (some z) → S[i]? = some (some z)) (hm : M'.Sublist M) : ZS K E t S M P := fun n σ G H R D k =>
  h n σ G H ((R.weak hl hs).drop hm) D k
/-- a row[i] = e over an own list -/
theorem zs_setL {to ti : TE} (h : ZW K E te S M (fun z M1 => ∃ d, z = .d d ∧ ZW K E to S M1 (fun o M2 => ZW K E ti S M2 (fun y M3 => ∃ p b xs k j M4, o = .c p ∧ y = .d (.int k) ∧ ixN xs.length k = some j ∧ Upd1 p b (.lst xs) (.lst (xs.set j d)) M3 M4 ∧ P.nx S M4) P.ex) P.ex) P.ex) :
    ZS K E (tAsg te (gSub to ti rSetL)) S M P := fun n σ G H R D k =>
  h n σ G H R _ (fun v G1 H1 z M1 e1 R1 a1 ⟨d, hz, h2⟩ => by
    subst hz
    refine h2 n σ G1 H1 R1 _ (fun o G2 H2 zo M2 e2 R2 a2 h3 => h3 n σ G2 H2 R2 _ (fun y G3 H3 zi M3 e3 R3 a3 ⟨p, b, xs, kk, j, M4, ho, hy, hj, hu, q⟩ => ?_) (XOk.mono k.xok ((e1.trans e2)))) (XOk.mono k.xok e1)
    subst ho hy
    have ev : o = .ref p := a2
    subst ev
    obtain ⟨_, ws, h4, h5⟩ := R3.ce p b _ hu.mem
    exact ⟨p, ws, kk, j, rfl, dp_int a3, h4, by rw [dpa_len h5]; exact hj, k.nx _ G3 _ S M4 ((e1.trans e2).trans e3) (R3.putLst hu (dpa_set (dp_mono (e2.trans e3) a1) j h5)) q⟩) k.xok

theorem zs_par {i j : Nat} (h : ZA K E tA S M (fun zs M1 => ∃ z w, zs = [z, w] ∧ P.nx ((S.set i (some z)).set j (some w)) M1) P.ex) : ZS K E (tPar i j tA) S M P := fun n σ G H R D k =>
  h n σ G H R _ (fun vs G1 H1 zs M1 e1 R1 a1 ⟨z, w, hz, q⟩ => by
    subst hz
    cases a1 with
    | cons a b => cases b with | cons b c => cases c; exact ⟨_, _, rfl, k.nx _ G1 H1 _ M1 e1 ((R1.set a).set b) q⟩) k.xok
def SuiteP (P : ZP) (i : Nat) : ZP := { P with nx := fun S2 M2 => P.nx (S2.set i none) M2, bk := fun S2 M2 => P.bk (S2.set i none) M2, ct := fun S2 M2 => P.ct (S2.set i none) M2 }
/-- try: .. except C as n: suite, the suite's slot i -/
theorem zs_try {tb : WX → TS} {c : Value} {i : Nat} {ts : Addr → Value → Option Addr → TS} {Wout : WX}
    (h : ∀ W : WX, ZS K (fun σ cls d H => W cls d σ H) (tb W) S M { P with ex := fun x S' M' => PySem.W.exmOne K (.ref x.cls) c = some true ∧ ∀ a d, ZS K E (ts a (.ref x.cls) d) (S'.set i (some (.e a (.ref x.cls) d x))) M' (SuiteP P i) }) :
    ZS K E (fun D σ H => tb (wAs K c i ts Wout D) D σ H) S M P := fun n σ G H R D k =>
  h (wAs K c i ts Wout D) n σ G H R D ⟨k.nx, k.rt, k.bk, k.ct, fun cls d σ' G' H' x S' M' e R' a ⟨he, hs⟩ => by
    have ec : cls = .ref x.cls := a.1
    subst ec
    refine ⟨true, he, fun _ ad _ => ?_, fun z => nomatch z⟩
    exact hs ad d n _ G' H' (R'.set (v := .ref ad) (z := .e ad (.ref x.cls) d x) ⟨rfl, a⟩) _
      ⟨fun σ2 G2 H2 S2 M2 e2 R2 q => k.nx _ G2 H2 _ M2 (e.trans e2) R2.unset q, fun v σ2 G2 H2 z S2 M2 e2 => k.rt v σ2 G2 H2 z S2 M2 (e.trans e2), fun σ2 G2 H2 S2 M2 e2 R2 q => k.bk _ G2 H2 _ M2 (e.trans e2) R2.unset q,
       fun σ2 G2 H2 S2 M2 e2 R2 q => k.ct _ G2 H2 _ M2 (e.trans e2) R2.unset q, fun cls' d' σ2 G2 H2 x' S2 M2 e2 => k.ex cls' d' σ2 G2 H2 x' S2 M2 (e.trans e2)⟩⟩

/-! ### the defs' promises -/
inductive DOut where
  | ok (d : PyData)
  | ex (x : XD)
/-- a def over data: R its graph -/
def spD (K : Fg) (k : Nat) (R : List PyData → DOut → Prop) : Sp := fun vs H Q E => ∃ (G : Hp) (ds : List PyData) (o : DOut), Ex G H ∧ ds.length = k ∧ DzAll K G vs ds ∧ R ds o ∧
  (∀ d, o = .ok d → ∀ v G' H', Ext [] G H G' H' → Dz K G' v d → Q v H') ∧ (∀ x, o = .ex x → ∀ cls dd G' H', Ext [] G H G' H' → XAt K G' cls dd x → E cls dd H')
/-- a def whose first argument is an own list, which it may write -/
def spC (K : Fg) (k : Nat) (R : List PyData → List PyData → (DOut → List PyData → Prop) → Prop) : Sp := fun vs H Q E => ∃ (G : Hp) (p : Addr) (xs : List PyData) (us : List V) (ds : List PyData) (F : DOut → List PyData → Prop), vs = .ref p :: us ∧ ds.length = k ∧ Ex G H ∧ G p = none ∧ CD.at K G H p (.lst xs) ∧ DzAll K G us ds ∧ R xs ds F ∧
  (∀ o ys, F o ys → (∀ d, o = .ok d → ∀ v G' H', Ext [p] G H G' H' → (∀ a x, H a = some (.own x) → H' a = some (.own x)) → CD.at K G' H' p (.lst ys) → Dz K G' v d → Q v H') ∧
  (∀ x, o = .ex x → ∀ cls dd G' H', Ext [p] G H G' H' → (∀ a x, H a = some (.own x) → H' a = some (.own x)) → CD.at K G' H' p (.lst ys) → XAt K G' cls dd x → E cls dd H'))
/-- a method of an own object: fields before and behind -/
def spO (K : Fg) (C : Addr) (k : Nat) (R : List (Str × ZV) → List PyData → DOut → List (Str × ZV) → Prop) : Sp := fun vs H Q E => ∃ (G : Hp) (p : Addr) (fs : List (Str × ZV)) (us : List V) (ds : List PyData) (o : DOut) (fs' : List (Str × ZV)), vs = .ref p :: us ∧ ds.length = k ∧ Ex G H ∧ G p = none ∧ CD.at K G H p (.obj C fs) ∧ DzAll K G us ds ∧ R fs ds o fs' ∧
  (∀ d, o = .ok d → ∀ v G' H', Ext [p] G H G' H' → (∀ a x, H a = some (.own x) → H' a = some (.own x)) → CD.at K G' H' p (.obj C fs') → Dz K G' v d → Q v H') ∧
  (∀ x, o = .ex x → ∀ cls dd G' H', Ext [p] G H G' H' → (∀ a x, H a = some (.own x) → H' a = some (.own x)) → CD.at K G' H' p (.obj C fs') → XAt K G' cls dd x → E cls dd H')
def PFn (o : DOut) : ZP := ⟨fun _ _ => o = .ok .none, fun z _ => ∃ d, z = .d d ∧ o = .ok d, fun _ _ => False, fun _ _ => False, fun x _ _ => o = .ex x⟩
def PFc (p : Addr) (o : DOut) (c : CD) : ZP := ⟨fun _ M => o = .ok .none ∧ (p, false, c) ∈ M, fun z M => (∃ d, z = .d d ∧ o = .ok d) ∧ (p, false, c) ∈ M, fun _ _ => False, fun _ _ => False, fun x _ M => o = .ex x ∧ (p, false, c) ∈ M⟩
def PFl (p : Addr) (F : DOut → List PyData → Prop) : ZP := ⟨fun _ M => ∃ ys, F (.ok .none) ys ∧ (p, false, .lst ys) ∈ M, fun z M => ∃ d ys, z = .d d ∧ F (.ok d) ys ∧ (p, false, .lst ys) ∈ M, fun _ _ => False, fun _ _ => False, fun x _ M => ∃ ys, F (.ex x) ys ∧ (p, false, .lst ys) ∈ M⟩
def stS (ds : List PyData) : Zs := ds.map fun d => some (.d d)
theorem stS_get {vs : List V} {ds : List PyData} (h : DzAll K G vs ds) (k : Nat) : ∀ (i : Nat) (z : ZV), (stS ds ++ List.replicate k none)[i]? = some (some z) → ∃ v, (vs.map some ++ List.replicate k none)[i]? = some (some v) ∧ ZV.at K G v z := fun i z e => by
  have hl := dpa_len h
  by_cases hi : i < ds.length
  · rw [List.getElem?_append_left (by simpa [stS] using hi)] at e
    simp only [stS, List.getElem?_map] at e
    cases q : ds[i]? with
    | none => rw [q] at e; cases e
    | some d =>
      rw [q] at e
      simp only [Option.map_some, Option.some.injEq] at e
      subst e
      obtain ⟨v, h1, h2⟩ := dpa_get h q
      refine ⟨v, ?_, h2⟩
      rw [List.getElem?_append_left (by simpa [hl] using hi), List.getElem?_map, h1]
      rfl
  · rw [List.getElem?_append_right (by simpa [stS] using hi), List.getElem?_replicate] at e
    split at e <;> cases e
theorem rel_start {N : List Str} {vs : List V} {ds : List PyData} (e : Ex G H) (h : DzAll K G vs ds) : Rel K ⟨G, H, []⟩ (stS ds ++ List.replicate (N.length - ds.length) none) [] (L2.start N vs) G H where
  ex := e
  len := by unfold L2.start; simp [stS, dpa_len h]
  sl := fun i z q => by
    unfold L2.start
    rw [dpa_len h]
    exact stS_get h _ i z q
  nd := List.nodup_nil
  ce := fun _ _ _ q => by simp at q
  g0 := Ex.refl G
  h0 := fun _ _ q _ => q
  lv := fun _ o q => ⟨o, q⟩
  f0 := fun _ _ _ q => q
  a0 := fun _ _ q => by simp at q
  o0 := fun _ _ q => by simp at q
theorem rel_startC {N : List Str} {p : Addr} {c : CD} {vs : List V} {ds : List PyData} (e : Ex G H) (hp : G p = none) (hc : CD.at K G H p c) (h : DzAll K G vs ds) :
    Rel K ⟨G, H, [p]⟩ (some (.c p) :: (stS ds ++ List.replicate (N.length - (ds.length + 1)) none)) [(p, false, c)] (L2.start N (.ref p :: vs)) G H where
  ex := e
  len := by unfold L2.start; simp [stS, dpa_len h]
  sl := fun i z q => by
    unfold L2.start
    cases i with
    | zero => simp at q; subst q; exact ⟨.ref p, rfl, rfl⟩
    | succ i =>
      simp only [List.getElem?_cons_succ] at q
      obtain ⟨v, h1, h2⟩ := stS_get h _ i z q
      exact ⟨v, by simpa [dpa_len h] using h1, h2⟩
  nd := by simp
  ce := fun q b c' hm => by
    simp at hm
    obtain ⟨rfl, rfl, rfl⟩ := hm
    exact ⟨hp, hc⟩
  g0 := Ex.refl G
  h0 := fun _ _ q _ => q
  lv := fun _ o q => ⟨o, q⟩
  f0 := fun _ _ _ q => q
  a0 := fun q c' hm => by simp at hm; simp [hm.1]
  o0 := fun q c' hm => by simp at hm
theorem fn_D {R : List PyData → DOut → Prop} {k : Nat} {N : List Str} {vs : List V} {Qv : VK} (h : spD K k R vs H Qv e0) (b : ∀ ds o, ds.length = k → R ds o → ZS K (fun _ => e0) t (stS ds ++ List.replicate (N.length - ds.length) none) [] (PFn o)) : t { nx := fun _ H' => Qv .non H', rt := Qv } (L2.start N vs) H := by
  obtain ⟨G, ds, o, e, hk, hd, hR, q1, q2⟩ := h
  refine b ds o hk hR ⟨G, H, []⟩ _ G H (rel_start e hd) _ ⟨fun σ' G' H' S' M' _ R z => ?_, fun v σ' G' H' z S' M' _ R a z' => ?_, fun _ _ _ _ _ _ _ z => z.elim, fun _ _ _ _ _ _ _ z => z.elim, fun cls d σ' G' H' x S' M' _ R a z => ?_⟩
  · exact q1 _ z .non G' H' R.ext .non
  · obtain ⟨d, rfl, z'⟩ := z'
    exact q1 _ z' v G' H' R.ext a
  · exact q2 _ z cls d G' H' R.ext a
theorem Rel.own (R : Rel K n S M σ G H) (hk : ∀ a x, n.H a = some (.own x) → a ∉ n.A) : ∀ a x, n.H a = some (.own x) → H a = some (.own x) := fun a x h => R.h0 a _ h (hk a x h)
theorem fn_C {R : List PyData → List PyData → (DOut → List PyData → Prop) → Prop} {kk : Nat} {N : List Str} {vs : List V} {Qv : VK} (h : spC K kk R vs H Qv e0)
    (b : ∀ p xs ds F, ds.length = kk → R xs ds F → ZS K (fun _ => e0) t (some (.c p) :: (stS ds ++ List.replicate (N.length - (ds.length + 1)) none)) [(p, false, .lst xs)] (PFl p F)) : t { nx := fun _ H' => Qv .non H', rt := Qv } (L2.start N vs) H := by
  obtain ⟨G, p, xs, us, ds, F, rfl, hkk, e, hp, hc, hd, hR, qq⟩ := h
  have hk : ∀ a x, H a = some (.own x) → a ∉ [p] := fun a x h1 z => by
    have z : a = p := by simpa using z
    obtain ⟨ws, h2, _⟩ := hc
    rw [z, h2] at h1
    cases h1
  refine b p xs ds F hkk hR ⟨G, H, [p]⟩ _ G H (rel_startC e hp hc hd) _ ⟨fun σ' G' H' S' M' _ R z => ?_, fun v σ' G' H' z S' M' _ R a z' => ?_, fun _ _ _ _ _ _ _ z => z.elim, fun _ _ _ _ _ _ _ z => z.elim, fun cls d σ' G' H' x S' M' _ R a z => ?_⟩
  · obtain ⟨ys, z1, z2⟩ := z
    exact (qq _ ys z1).1 _ rfl .non G' H' R.ext (R.own hk) (R.ce _ _ _ z2).2 .non
  · obtain ⟨d, ys, rfl, z1, z2⟩ := z'
    exact (qq _ ys z1).1 _ rfl v G' H' R.ext (R.own hk) (R.ce _ _ _ z2).2 a
  · obtain ⟨ys, z1, z2⟩ := z
    exact (qq _ ys z1).2 _ rfl cls d G' H' R.ext (R.own hk) (R.ce _ _ _ z2).2 a
theorem fn_O {C : Addr} {R : List (Str × ZV) → List PyData → DOut → List (Str × ZV) → Prop} {kk : Nat} {N : List Str} {vs : List V} {Qv : VK} (h : spO K C kk R vs H Qv e0)
    (b : ∀ p fs ds o fs', ds.length = kk → R fs ds o fs' → ZS K (fun _ => e0) t (some (.c p) :: (stS ds ++ List.replicate (N.length - (ds.length + 1)) none)) [(p, false, .obj C fs)] (PFc p o (.obj C fs'))) : t { nx := fun _ H' => Qv .non H', rt := Qv } (L2.start N vs) H := by
  obtain ⟨G, p, xs, us, ds, o, ys, rfl, hkk, e, hp, hc, hd, hR, q1, q2⟩ := h
  have hk : ∀ a x, H a = some (.own x) → a ∉ [p] := fun a x h1 z => by
    have z : a = p := by simpa using z
    obtain ⟨dx, ws, h2, _⟩ := hc
    rw [z, h2] at h1
    cases h1
  refine b p xs ds o ys hkk hR ⟨G, H, [p]⟩ _ G H (rel_startC e hp hc hd) _ ⟨fun σ' G' H' S' M' _ R z => ?_, fun v σ' G' H' z S' M' _ R a z' => ?_, fun _ _ _ _ _ _ _ z => z.elim, fun _ _ _ _ _ _ _ z => z.elim, fun cls d σ' G' H' x S' M' _ R a z => ?_⟩
  · exact q1 _ z.1 .non G' H' R.ext (R.own hk) (R.ce _ _ _ z.2).2 .non
  · obtain ⟨⟨d, rfl, z'⟩, zm⟩ := z'
    exact q1 _ z' v G' H' R.ext (R.own hk) (R.ce _ _ _ zm).2 a
  · exact q2 _ z.1 cls d G' H' R.ext (R.own hk) (R.ce _ _ _ z.2).2 a
theorem len_D {R : List PyData → DOut → Prop} {k : Nat} {vs : List V} {Qv : VK} (h : spD K k R vs H Qv e0) : vs.length = k := by
  obtain ⟨G, ds, o, e, hk, hd, h1, _⟩ := h
  rw [dpa_len hd, hk]
theorem len_C {R : List PyData → List PyData → (DOut → List PyData → Prop) → Prop} {k : Nat} {vs : List V} {Qv : VK} (h : spC K k R vs H Qv e0) : vs.length = k + 1 := by
  obtain ⟨G, p, xs, us, ds, F, rfl, hk, e, hp, hc, hd, h1, _⟩ := h
  rw [List.length_cons, dpa_len hd, hk]
theorem len_O {C : Addr} {R : List (Str × ZV) → List PyData → DOut → List (Str × ZV) → Prop} {k : Nat} {vs : List V} {Qv : VK} (h : spO K C k R vs H Qv e0) : vs.length = k + 1 := by
  obtain ⟨G, p, xs, us, ds, o, ys, rfl, hk, e, hp, hc, hd, h1, _⟩ := h
  rw [List.length_cons, dpa_len hd, hk]

/-! ### calls: e0 what is wanted of an exception; E0 nothing (none is raised here) -/
theorem zw_call {ar : Nat} {R : List PyData → DOut → Prop} (h : ZA K (fun _ => e0) tA S M (fun zs M1 => ∃ ds o, AllD zs ds ∧ ds.length = ar ∧ R ds o ∧ (∀ d, o = .ok d → Q (.d d) M1) ∧ (∀ x, o = .ex x → X x S M1)) X) : ZW K (fun _ => e0) (tCall (spD K ar R) [] e0 tA) S M Q X := fun n σ G H Rl Qv k kx =>
  h n σ G H Rl _ (fun vs G1 H1 zs M1 e1 R1 a1 ⟨ds, o, hd, hk, hR, q1, q2⟩ => by
    refine ⟨G1, ds, o, R1.ex, hk, ?_, hR, fun d ho v G' H' e a => k v G' H' (.d d) M1 (e1.trans e.g) (R1.call e) a (q1 d ho), fun x ho cls dd G' H' e a => kx cls dd G' H' x S M1 (e1.trans e.g) (R1.call e) a (q2 x ho)⟩
    rw [List.append_nil]
    exact zall_d (by rw [← hd]; exact a1)) kx
theorem zw_callS {ar : Nat} {R : List PyData → DOut → Prop} (h : ZA K E tA S M (fun zs M1 => ∃ ds o, AllD zs ds ∧ ds.length = ar ∧ R ds o ∧ (∀ d, o = .ok d → Q (.d d) M1) ∧ (∀ x, o = .ex x → X x S M1)) X) : ZW K E (tCallS (spD K ar R) E tA) S M Q X := fun n σ G H Rl Qv k kx =>
  h n σ G H Rl _ (fun vs G1 H1 zs M1 e1 R1 a1 ⟨ds, o, hd, hk, hR, q1, q2⟩ =>
    ⟨G1, ds, o, R1.ex, hk, zall_d (by rw [← hd]; exact a1), hR, fun d ho v G' H' e a => k v G' H' (.d d) M1 (e1.trans e.g) (R1.call e) a (q1 d ho), fun x ho cls dd G' H' e a => kx cls dd G' H' x S M1 (e1.trans e.g) (R1.call e) a (q2 x ho)⟩) kx
theorem zw_call0 {ar : Nat} {R : List PyData → DOut → Prop} (h : ZA K E tA S M (fun zs M1 => ∃ ds d, AllD zs ds ∧ ds.length = ar ∧ R ds (.ok d) ∧ Q (.d d) M1) X) : ZW K E (tCall (spD K ar R) [] E0 tA) S M Q X := fun n σ G H Rl Qv k kx =>
  h n σ G H Rl _ (fun vs G1 H1 zs M1 e1 R1 a1 ⟨ds, d, hd, hk, hR, q1⟩ => by
    refine ⟨G1, ds, .ok d, R1.ex, hk, ?_, hR, fun d' ho v G' H' e a => k v G' H' (.d d') M1 (e1.trans e.g) (R1.call e) a (by cases ho; exact q1), fun x ho => nomatch ho⟩
    rw [List.append_nil]
    exact zall_d (by rw [← hd]; exact a1)) kx
def FC (p : Addr) (b : Bool) (xs : List PyData) (S : Zs) (M1 : Ms) (Q : QZ) (X : XZ) : DOut → List PyData → Prop := fun o ys => ∃ M2, Upd1 p b (.lst xs) (.lst ys) M1 M2 ∧ (∀ d, o = .ok d → Q (.d d) M2) ∧ (∀ x, o = .ex x → X x S M2)
theorem zw_callC {ar : Nat} {R : List PyData → List PyData → (DOut → List PyData → Prop) → Prop} (h : ZA K (fun _ => e0) tA S M (fun zs M1 => ∃ p b xs zs' ds, zs = .c p :: zs' ∧ (p, b, CD.lst xs) ∈ M1 ∧ AllD zs' ds ∧ ds.length = ar ∧ R xs ds (FC p b xs S M1 Q X)) X) : ZW K (fun _ => e0) (tCall (spC K ar R) [] e0 tA) S M Q X := fun n σ G H Rl Qv k kx =>
  h n σ G H Rl _ (fun vs G1 H1 zs M1 e1 R1 a1 ⟨p, b, xs, zs', ds, hz, hm, hd, hk, hR⟩ => by
    subst hz
    cases a1 with
    | cons a1 a2 =>
      have ev := a1
      obtain ⟨hp, hc⟩ := R1.ce p b _ hm
      subst ev
      refine ⟨G1, p, xs, _, ds, _, by rw [List.append_nil], hk, R1.ex, hp, hc, zall_d (by rw [← hd]; exact a2), hR, fun o ys ⟨M2, hu, q1, q2⟩ => ⟨fun d ho v G' H' e own hc' a => k v G' H' (.d d) M2 (e1.trans e.g) (R1.call1 e hu own hc') a (q1 d ho), fun x ho cls dd G' H' e own hc' a => kx cls dd G' H' x S M2 (e1.trans e.g) (R1.call1 e hu own hc') a (q2 x ho)⟩⟩) kx
def FC0 (p : Addr) (b : Bool) (xs : List PyData) (M1 : Ms) (Q : QZ) : DOut → List PyData → Prop := fun o ys => ∃ d M2, o = .ok d ∧ Upd1 p b (.lst xs) (.lst ys) M1 M2 ∧ Q (.d d) M2
theorem zw_callC0 {ar : Nat} {R : List PyData → List PyData → (DOut → List PyData → Prop) → Prop} (h : ZA K E tA S M (fun zs M1 => ∃ p b xs zs' ds, zs = .c p :: zs' ∧ (p, b, CD.lst xs) ∈ M1 ∧ AllD zs' ds ∧ ds.length = ar ∧ R xs ds (FC0 p b xs M1 Q)) X) : ZW K E (tCall (spC K ar R) [] E0 tA) S M Q X := fun n σ G H Rl Qv k kx =>
  h n σ G H Rl _ (fun vs G1 H1 zs M1 e1 R1 a1 ⟨p, b, xs, zs', ds, hz, hm, hd, hk, hR⟩ => by
    subst hz
    cases a1 with
    | cons a1 a2 =>
      have ev := a1
      obtain ⟨hp, hc⟩ := R1.ce p b _ hm
      subst ev
      refine ⟨G1, p, xs, _, ds, _, by rw [List.append_nil], hk, R1.ex, hp, hc, zall_d (by rw [← hd]; exact a2), hR, fun o ys ⟨d, M2, ho, hu, q⟩ => ?_⟩
      subst ho
      refine ⟨fun d' ho v G' H' e own hc' a => ?_, fun x ho => nomatch ho⟩
      cases ho
      exact k v G' H' (.d d) M2 (e1.trans e.g) (R1.call1 e hu own hc') a q) kx
/-- o.m(..), o an own object of the class C -/
theorem lookup_paired {fv : List (Str × V)} {fs : List (Str × ZV)} (h : Paired (fun (a : Str × V) (b : Str × ZV) => a.1 = b.1 ∧ ZV.at K G a.2 b.2) fv fs) (m : Str) : (fs.lookup m = none → fv.lookup m = none) ∧ (∀ z, fs.lookup m = some z → ∃ v, fv.lookup m = some v ∧ ZV.at K G v z) := by
  induction h with
  | nil => exact ⟨fun _ => rfl, fun z e => by cases e⟩
  | @cons a b l1 l2 q t ih =>
    obtain ⟨a1, a2⟩ := a
    obtain ⟨b1, b2⟩ := b
    obtain ⟨q1, q2⟩ := q
    dsimp only at q1 q2
    subst q1
    rw [List.lookup_cons, List.lookup_cons]
    split
    · refine ⟨fun e => (nomatch e), fun z e => ?_⟩
      have e := Option.some.inj e
      subst e
      exact ⟨_, rfl, q2⟩
    · exact ih
theorem zw_methO {ar : Nat} {C : Addr} {m : Str} {R : List (Str × ZV) → List PyData → DOut → List (Str × ZV) → Prop} (h : ZW K (fun _ => e0) te S M (fun z M0 => ∃ p, z = .c p ∧ (∃ b fs0, (p, b, CD.obj C fs0) ∈ M0 ∧ fs0.lookup m = none) ∧ ZA K (fun _ => e0) tA S M0 (fun zs M1 => ∃ b fs ds o fs' M2, AllD zs ds ∧ ds.length = ar ∧ R fs ds o fs' ∧ Upd1 p b (.obj C fs) (.obj C fs') M1 M2 ∧ (∀ d, o = .ok d → Q (.d d) M2) ∧ (∀ x, o = .ex x → X x S M2)) X) X) :
    ZW K (fun _ => e0) (tMeth C m (spO K C ar R) [] e0 te tA) S M Q X := fun n σ G H Rl Qv k kx =>
  h n σ G H Rl _ (fun v G0 H0 z M0 e0' R0 a0 ⟨p, hz, ⟨b0, fs0, hm0, hl0⟩, h2⟩ => by
    subst hz
    have ev : v = .ref p := a0
    subst ev
    obtain ⟨_, dx, fv, h3, h4, h5, h6⟩ := R0.ce p b0 _ hm0
    refine ⟨p, dx, fv, rfl, h3, (lookup_paired h6 m).1 hl0, h2 n σ G0 H0 R0 _ (fun vs G1 H1 zs M1 e1 R1 a1 ⟨b, fs, ds, o, fs', M2, hd, hk, hR, hu, q1, q2⟩ => ?_) (kx.mono e0')⟩
    obtain ⟨hp, hc⟩ := R1.ce p b _ hu.mem
    refine ⟨G1, p, fs, _, ds, o, fs', by rw [List.append_nil], hk, R1.ex, hp, hc, zall_d (by rw [← hd]; exact a1), hR, fun d ho v G' H' e own hc' a => k v G' H' (.d d) M2 ((e0'.trans e1).trans e.g) (R1.call1 e hu own hc') a (q1 d ho), fun x ho cls dd G' H' e own hc' a => kx cls dd G' H' x S M2 ((e0'.trans e1).trans e.g) (R1.call1 e hu own hc') a (q2 x ho)⟩) kx
end
end Z
namespace Z
open PySem PySem.Spec PyProof.Rows L2
open Evl (Ex)
section
variable {K : Fg} {E : L2.St → XK} {e0 : XK} {te ta tb tc : TE} {tA : TA} {tt : TT} {t u : TS} {S S' : Zs} {M M' : Ms} {P : ZP} {Q : QZ} {X : XZ} {n : Sn} {σ : L2.St} {G G' H H' : Hp}
/-! ### membership of cells -/
theorem m0 {q : Addr × Bool × CD} {M : Ms} : q ∈ q :: M := List.mem_cons_self
theorem m1 {q r : Addr × Bool × CD} {M : Ms} (h : q ∈ M) : q ∈ r :: M := List.mem_cons_of_mem _ h

/-! ### subscripts -/
def dIx : PyData → Int → Option PyData
  | .list ds, i => atI ds i
  | .tuple ds, i => atI ds i
  | .str z, i => if z.length ≤ sizeLine then (atI z.cps.toList i).map fun c => .str ⟨#[c]⟩ else none
  | _, _ => none
theorem dpa_at {vs : List V} {ds : List PyData} {i : Int} {d : PyData} (h : DzAll K G vs ds) (e : atI ds i = some d) : ∃ v, atI vs i = some v ∧ Dz K G v d := by
  unfold atI at e ⊢
  rw [← dpa_len h] at e
  cases q : ixN vs.length i with
  | none => rw [q] at e; cases e
  | some j =>
    rw [q] at e
    exact dpa_get h e
theorem zo_ix {x d : PyData} {i : Int} (h : dIx x i = some d) (q : Q (.d d) M) : ZO K (rIx K) (.d x) (.d (.int i)) M Q :=
  zo_val (z := .d d) (fun G H v u e a b => by
    have eu := dp_int b
    subst eu
    cases x with
    | list ds =>
      obtain ⟨p, xs, rfl, h1, h2⟩ := dp_lst a
      obtain ⟨w, h3, h4⟩ := dpa_at h2 h
      exact ⟨w, h4, fun Qv k => .inl ⟨p, xs, i, w, rfl, rfl, Evl.ex_l e h1, h3, k⟩⟩
    | tuple ds =>
      obtain ⟨p, xs, rfl, h1, h2⟩ := dp_tup a
      obtain ⟨w, h3, h4⟩ := dpa_at h2 h
      exact ⟨w, h4, fun Qv k => .inr (.inl ⟨p, xs, i, w, rfl, rfl, Evl.ex_t e h1, h3, k⟩)⟩
    | str z =>
      have ev := dp_str a
      subst ev
      simp only [dIx] at h
      split at h
      · rename_i hl
        cases q2 : atI z.cps.toList i with
        | none => rw [q2] at h; cases h
        | some c =>
          rw [q2] at h
          cases h
          exact ⟨.str ⟨#[c]⟩, Dz.str _, fun Qv k => .inr (.inr ⟨z, i, c, rfl, rfl, hl, q2, k⟩)⟩
      · cases h
    | none => cases h
    | bool _ => cases h
    | int _ => cases h
    | dict _ => cases h) q
theorem zo_ixC {p : Addr} {b : Bool} {xs : List PyData} {i : Int} {d : PyData} (hm : (p, b, CD.lst xs) ∈ M) (h : atI xs i = some d) (q : Q (.d d) M) : ZO K (rIx K) (.c p) (.d (.int i)) M Q := fun n S σ G H R v u a b' Qv k => by
  have eu := dp_int b'
  have ev : v = .ref p := a
  subst eu ev
  obtain ⟨_, ws, h1, h2⟩ := R.ce p b _ hm
  obtain ⟨w, h3, h4⟩ := dpa_at h2 h
  exact .inl ⟨p, ws, i, w, rfl, rfl, Evl.sq_of h1, h3, k w G H (.d d) M (Ex.refl G) R h4 q⟩
theorem atI0 {α : Type} {x : α} {r : List α} : atI (x :: r) 0 = some x := atI_nat (j := 0) rfl
theorem atI1 {α : Type} {x y : α} {r : List α} : atI (x :: y :: r) 1 = some y := atI_nat (j := 1) rfl
theorem atI2 {α : Type} {x y z : α} {r : List α} : atI (x :: y :: z :: r) 2 = some z := atI_nat (j := 2) rfl
theorem atI3 {α : Type} {x y z w : α} {r : List α} : atI (x :: y :: z :: w :: r) 3 = some w := atI_nat (j := 3) rfl

/-! ### built-in functions over data -/
/-- a call on values, over data -/
def ZC (K : Fg) (r : List V → Hp → VK → Prop) (zs : List ZV) (M : Ms) (Q : QZ) : Prop := ∀ (n : Sn) (S : Zs) (σ : L2.St) (G H : Hp), Rel K n S M σ G H → ∀ vs, ZAll K G vs zs → ∀ Qv : VK,
  (∀ w G' H' z M', Ex G G' → Rel K n S M' σ G' H' → ZV.at K G' w z → Q z M' → Qv w H') → r vs H Qv
theorem zw_cb {r : List V → Hp → VK → Prop} (h : ZA K E tA S M (fun zs M1 => ZC K r zs M1 Q) X) : ZW K E (tCB r tA) S M Q X := fun n σ G H R Qv k kx =>
  h n σ G H R _ (fun vs G1 H1 zs M1 e1 R1 a1 h1 => h1 n S σ G1 H1 R1 vs a1 Qv fun w G3 H3 z M3 e3 R3 a3 q => k w G3 H3 z M3 (e1.trans e3) R3 a3 q) kx
theorem zc_val {r : List V → Hp → VK → Prop} {zs : List ZV} {z : ZV} (h : ∀ G H vs, Ex G H → ZAll K G vs zs → ∃ w, ZV.at K G w z ∧ ∀ Qv : VK, Qv w H → r vs H Qv) (q : Q z M) : ZC K r zs M Q := fun n S σ G H R vs a Qv k => by
  obtain ⟨w, h1, h2⟩ := h G H vs R.ex a
  exact h2 Qv (k w G H z M (Ex.refl G) R h1 q)
theorem zall1 {vs : List V} {z : ZV} (h : ZAll K G vs [z]) : ∃ v, vs = [v] ∧ ZV.at K G v z := by
  cases h with
  | cons a b => cases b; exact ⟨_, rfl, a⟩
theorem zall2 {vs : List V} {z y : ZV} (h : ZAll K G vs [z, y]) : ∃ v u, vs = [v, u] ∧ ZV.at K G v z ∧ ZV.at K G u y := by
  cases h with
  | cons a b => cases b with | cons b c => cases c; exact ⟨_, _, rfl, a, b⟩
def dLen : PyData → Option Nat
  | .list ds => some ds.length
  | .tuple ds => some ds.length
  | .str z => if z.length ≤ sizeLine then some z.length else none
  | _ => none
abbrev rLenA (K : Fg) : List V → Hp → VK → Prop := fun xs H Q => ∃ x n, xs = [x] ∧ LenV K x H n ∧ Q (.int (n : Nat)) H
theorem zc_len {x : PyData} {k : Nat} (h : dLen x = some k) (q : Q (.d (.int (k : Nat))) M) : ZC K (rLenA K) [.d x] M Q := zc_val (z := .d (.int (k : Nat))) (fun G H vs e a => by
  obtain ⟨v, rfl, av⟩ := zall1 a
  refine ⟨.int (k : Nat), Dz.int _, fun Qv hq => ⟨v, k, rfl, ?_, hq⟩⟩
  cases x with
  | list ds => obtain ⟨p, xs, rfl, h1, h2⟩ := dp_lst av; cases h; exact .inl ⟨xs, Evl.ex_l e h1, (dpa_len h2).symm⟩
  | tuple ds => obtain ⟨p, xs, rfl, h1, h2⟩ := dp_tup av; cases h; exact .inr ⟨xs, Evl.ex_t e h1, (dpa_len h2).symm⟩
  | str z =>
    have ev := dp_str av
    subst ev
    simp only [dLen] at h
    split at h
    · rename_i hl; cases h; exact ⟨hl, rfl⟩
    · cases h
  | none => cases h
  | bool _ => cases h
  | int _ => cases h
  | dict _ => cases h) q
theorem zc_lenC {p : Addr} {b : Bool} {xs : List PyData} (hm : (p, b, CD.lst xs) ∈ M) (q : Q (.d (.int (xs.length : Nat))) M) : ZC K (rLenA K) [.c p] M Q := fun n S σ G H R vs a Qv k => by
  obtain ⟨v, rfl, av⟩ := zall1 a
  have ev : v = .ref p := av
  subst ev
  obtain ⟨_, ws, h1, h2⟩ := R.ce p b _ hm
  exact ⟨_, xs.length, rfl, .inl ⟨ws, Evl.sq_of h1, (dpa_len h2).symm⟩, k (.int (xs.length : Nat)) G H (.d (.int (xs.length : Nat))) M (Ex.refl G) R (Dz.int _) q⟩
/-- int(an int) -/
abbrev rInt1 : List V → Hp → VK → Prop := fun xs H Q => (∃ i, xs = [.int i] ∧ Q (.int i) H) ∨ ∃ k, xs = [.bl k] ∧ Q (.int (if k then 1 else 0)) H
abbrev rIntS : List V → Hp → VK → Prop := fun xs H Q => ∃ a n, xs = [.str a] ∧ PySem.intText? a = some n ∧ a.length ≤ 640 ∧ Q (.int n) H
abbrev rIntA : List V → Hp → VK → Prop := fun xs H Q => rInt1 xs H Q ∨ rIntS xs H Q
theorem zc_int {i : Int} (q : Q (.d (.int i)) M) : ZC K rIntA [.d (.int i)] M Q := zc_val (z := .d (.int i)) (fun G H vs e a => by
  obtain ⟨v, rfl, av⟩ := zall1 a
  exact ⟨v, av, fun Qv hq => .inl (.inl ⟨i, by rw [dp_int av], by rw [← dp_int av]; exact hq⟩)⟩) q
theorem zc_intS {x : Str} {i : Int} (h : PySem.intText? x = some i) (hl : x.length ≤ 640) (q : Q (.d (.int i)) M) : ZC K rIntA [.d (.str x)] M Q := zc_val (z := .d (.int i)) (fun G H vs e a => by
  obtain ⟨v, rfl, av⟩ := zall1 a
  exact ⟨.int i, Dz.int _, fun Qv hq => .inr ⟨x, i, by rw [dp_str av], h, hl, hq⟩⟩) q
abbrev rStrI : List V → Hp → VK → Prop := fun xs H Q => ∃ i, xs = [.int i] ∧ i.natAbs.log2 < 1920 ∧ Q (.str (toString i)) H
theorem zc_strI {i : Int} (h : i.natAbs.log2 < 1920) (q : Q (.d (.str (toString i))) M) : ZC K rStrI [.d (.int i)] M Q := zc_val (z := .d (.str (toString i))) (fun G H vs e a => by
  obtain ⟨v, rfl, av⟩ := zall1 a
  exact ⟨.str (toString i), Dz.str _, fun Qv hq => ⟨i, by rw [dp_int av], h, hq⟩⟩) q
/-- tuple(a list), tuple(a tuple) -/
abbrev rTupOf (K : Fg) : List V → Hp → VK → Prop := fun xs H Q => ∃ p ys, xs = [.ref p] ∧ ((SqL K H p ys ∧ ∀ l, H l = none → Q (.ref l) (upd H l (.tup ys))) ∨ (SqT K H p ys ∧ Q (.ref p) H))
theorem zc_tupL {xs : List PyData} (q : Q (.d (.tuple xs)) M) : ZC K (rTupOf K) [.d (.list xs)] M Q := fun n S σ G H R vs a Qv k => by
  obtain ⟨v, rfl, av⟩ := zall1 a
  obtain ⟨p, ys, rfl, h1, h2⟩ := dp_lst av
  refine ⟨p, ys, rfl, .inl ⟨Evl.ex_l R.ex h1, fun l hl => ?_⟩⟩
  have g := ex_gnone R.ex hl
  exact k (.ref l) _ _ (.d (.tuple xs)) M (Ex.new g) (R.new hl (fun _ z => nomatch z)) (Dz.tup (.inl upd_same) (dpAll_mono (Ex.new g) h2)) q
theorem zc_tupT {xs : List PyData} (q : Q (.d (.tuple xs)) M) : ZC K (rTupOf K) [.d (.tuple xs)] M Q := zc_val (z := .d (.tuple xs)) (fun G H vs e a => by
  obtain ⟨v, rfl, av⟩ := zall1 a
  obtain ⟨p, ys, rfl, h1, h2⟩ := dp_tup av
  exact ⟨.ref p, av, fun Qv hq => ⟨p, ys, rfl, .inr ⟨Evl.ex_t e h1, hq⟩⟩⟩) q
theorem zc_tupC {p : Addr} {b : Bool} {xs : List PyData} (hm : (p, b, CD.lst xs) ∈ M) (q : Q (.d (.tuple xs)) M) : ZC K (rTupOf K) [.c p] M Q := fun n S σ G H R vs a Qv k => by
  obtain ⟨v, rfl, av⟩ := zall1 a
  have ev : v = .ref p := av
  subst ev
  obtain ⟨_, ys, h1, h2⟩ := R.ce p b _ hm
  refine ⟨p, ys, rfl, .inl ⟨Evl.sq_of h1, fun l hl => ?_⟩⟩
  have g := ex_gnone R.ex hl
  exact k (.ref l) _ _ (.d (.tuple xs)) M (Ex.new g) (R.new hl (fun _ z => nomatch z)) (Dz.tup (.inl upd_same) (dpAll_mono (Ex.new g) h2)) q
/-- isinstance(x, a built-in class) -/
def dTy : PyData → String
  | .none => "NoneType"
  | .bool _ => "bool"
  | .int _ => "int"
  | .str _ => "str"
  | .list _ => "list"
  | .tuple _ => "tuple"
  | .dict _ => "dict"
theorem rd_tyL {a : Addr} {xs : List V} (h : SqL K H a xs) : TyX K H (.ref a) (.type "list") := by
  rcases h with (h | ⟨o, h⟩) | ⟨o, its, k, h1, h2, _⟩
  · exact .base (.lst h)
  · exact .base (.frz h)
  · exact .kList h1 h2
theorem rd_tyT {a : Addr} {xs : List V} (h : SqT K H a xs) : TyX K H (.ref a) (.type "tuple") := by
  rcases h with (h | ⟨o, h⟩) | ⟨o, its, k, h1, h2, _⟩
  · exact .base (.tup h)
  · exact .fTuple h
  · exact .kTuple h1 h2
theorem dp_ty {x : PyData} {v : V} (e : Ex G H) (h : Dz K G v x) : TyX K H v (.type (dTy x)) := by
  cases h with
  | non => exact .base .non
  | bl b => exact .base (.bl b)
  | int i => exact .base (.int i)
  | str s => exact .base (.str s)
  | lst s a => exact rd_tyL (Evl.ex_l e s)
  | tup s a => exact rd_tyT (Evl.ex_t e s.sq)
theorem zt_isi {T : String} {tcl : TE} (hcl : tcl = tC (.ty T)) (h : ZW K E te S M (fun z M1 => ∃ x b, z = .d x ∧ kitB (dTy x) T = some b ∧ Q (.d (.bool b)) M1) X) : ZW K E (tCB (rIsi K) (tCons te (tCons tcl tNil))) S M Q X := fun n σ G H R Qv k kx =>
  h n σ G H R _ (fun v G1 H1 z M1 e1 R1 a1 ⟨x, b, hz, hb, q⟩ => by
    subst hz hcl
    exact ⟨v, .ty T, .type (dTy x), .type T, b, rfl, .ty T, dp_ty R1.ex a1, kit_ty hb, k _ G1 H1 (.d (.bool b)) M1 e1 R1 (Dz.bl b) q⟩) kx
/-- isinstance(x, (T1, T2)) -/
theorem kitAny2 {a T1 T2 : String} {b1 b2 : Bool} (h1 : kitB a T1 = some b1) (h2 : kitB a T2 = some b2) : PySem.W.kitAny K (.type a) [.type T1, .type T2] = some (b1 || b2) := by
  refine kitAny_cons (kit_ty h1) (fun e => ?_) (fun e => by rw [e]; rfl)
  refine kitAny_cons (kit_ty h2) (fun e2 => ?_) (fun e2 => by rw [e2, Bool.or_true])
  rw [e, e2]
  rfl
theorem zt_isi2 {T1 T2 : String} (h : ZW K E te S M (fun z M1 => ∃ x b1 b2, z = .d x ∧ kitB (dTy x) T1 = some b1 ∧ kitB (dTy x) T2 = some b2 ∧ Q (.d (.bool (b1 || b2))) M1) X) :
    ZW K E (tCB (rIsiT K) (tCons te (tCons (tTup (tCons (tC (.ty T1)) (tCons (tC (.ty T2)) tNil))) tNil))) S M Q X := fun n σ G H R Qv k kx =>
  h n σ G H R _ (fun v G1 H1 z M1 e1 R1 a1 ⟨x, b1, b2, hz, hb1, hb2, q⟩ => by
    subst hz
    refine ⟨by show 2 ≤ sizeLine; decide, fun p hp => ?_⟩
    have g := ex_gnone R1.ex hp
    exact ⟨v, p, [.ty T1, .ty T2], .type (dTy x), [.type T1, .type T2], b1 || b2, rfl, upd_same, .cons (.ty T1) (.cons (.ty T2) .nil), dp_ty (R1.ex.trans (Ex.new hp)) a1, kitAny2 hb1 hb2,
      k _ _ _ (.d (.bool (b1 || b2))) M1 (e1.trans (Ex.new g)) (R1.new hp (o := .tup [.ty T1, .ty T2]) (fun _ z => nomatch z)) (Dz.bl _) q⟩) kx

/-! ### lists and tuples glued; x in flat ones -/
theorem zo_catT {xs ys : List PyData} (hl : xs.length + ys.length ≤ sizeLine) (q : Q (.d (.tuple (xs ++ ys))) M) : ZO K (rCatA K) (.d (.tuple xs)) (.d (.tuple ys)) M Q := fun n S σ G H R v u a b Qv k => by
  obtain ⟨p, vs, rfl, h1, h2⟩ := dp_tup a
  obtain ⟨p2, ws, rfl, h3, h4⟩ := dp_tup b
  have l1 := dpa_len h2
  have l2 := dpa_len h4
  refine ⟨p, p2, vs, ws, rfl, rfl, Evl.ex_t R.ex h1, Evl.ex_t R.ex h3, by rw [l1, l2]; exact hl, fun e => ?_, fun _ e => ?_, fun _ _ r hr => ?_⟩
  · subst e
    have e : xs = [] := by cases xs with | nil => rfl | cons _ _ => cases l1
    subst e
    exact k (.ref p2) G H (.d (.tuple ys)) M (Ex.refl G) R b q
  · subst e
    have e : ys = [] := by cases ys with | nil => rfl | cons _ _ => cases l2
    subst e
    rw [List.append_nil] at q
    exact k (.ref p) G H (.d (.tuple xs)) M (Ex.refl G) R a q
  · have g := ex_gnone R.ex hr
    exact k (.ref r) _ _ (.d (.tuple (xs ++ ys))) M (Ex.new g) (R.new hr (fun _ z => nomatch z)) (Dz.tup (.inl upd_same) (dpAll_mono (Ex.new g) (dpa_app h2 h4))) q
theorem zo_catL {p p2 : Addr} {b b2 : Bool} {xs ys : List PyData} (hm : (p, b, CD.lst xs) ∈ M) (hm2 : (p2, b2, CD.lst ys) ∈ M) (hl : xs.length + ys.length ≤ sizeLine) (q : ∀ r, Q (.c r) ((r, true, .lst (xs ++ ys)) :: M)) : ZO K rCat (.c p) (.c p2) M Q := fun n S σ G H R v u a b Qv k => by
  have ev : v = .ref p := a
  have eu : u = .ref p2 := b
  subst ev eu
  obtain ⟨_, vs, h1, h2⟩ := R.ce p _ _ hm
  obtain ⟨_, ws, h3, h4⟩ := R.ce p2 _ _ hm2
  exact ⟨p, p2, vs, ws, rfl, rfl, h1, h3, by rw [dpa_len h2, dpa_len h4]; exact hl, fun r hr => k (.ref r) G _ (.c r) _ (Ex.refl G) (R.newLst hr (dpa_app h2 h4)) rfl (q r)⟩
def flatD : PyData → Bool
  | .none => true
  | .bool _ => true
  | .int _ => true
  | .str _ => true
  | _ => false
def vOf : PyData → V
  | .none => .non
  | .bool b => .bl b
  | .int i => .int i
  | .str s => .str s
  | _ => .non
theorem dp_flat {x : PyData} {v : V} (h : Dz K G v x) (f : flatD x = true) : v = vOf x := by
  cases h with
  | lst => cases f
  | tup => cases f
  | _ => rfl
theorem dpa_flat {vs : List V} {ds : List PyData} (h : DzAll K G vs ds) (f : ds.all flatD = true) : vs = ds.map vOf := by
  induction ds generalizing vs with
  | nil => cases h; rfl
  | cons d ds ih =>
    cases h with
    | cons a b =>
      simp only [List.all_cons, Bool.and_eq_true] at f
      rw [dp_flat a f.1, ih b f.2]
      rfl
theorem zo_inT {neg : Bool} {x : PyData} {ds : List PyData} (hx : flatV (vOf x) = true ∧ flatD x = true) (hd : (ds.map vOf).all flatV = true ∧ ds.all flatD = true) (q : Q (.d (.bool (if neg then !inV (vOf x) (ds.map vOf) else inV (vOf x) (ds.map vOf)))) M) : ZO K (rIn K neg) (.d x) (.d (.tuple ds)) M Q :=
  zo_val (z := .d (.bool (if neg then !inV (vOf x) (ds.map vOf) else inV (vOf x) (ds.map vOf)))) (fun G H v u e a b => by
    obtain ⟨p, vs, rfl, h1, h2⟩ := dp_tup b
    have e1 := dp_flat a hx.2
    have e2 := dpa_flat h2 hd.2
    subst e1 e2
    exact ⟨_, Dz.bl _, fun Qv hq => ⟨p, _, rfl, .inr (Evl.ex_t e h1), hx.1, hd.1, hq⟩⟩) q
theorem zo_inL {neg : Bool} {x : PyData} {ds : List PyData} (hx : flatV (vOf x) = true ∧ flatD x = true) (hd : (ds.map vOf).all flatV = true ∧ ds.all flatD = true) (q : Q (.d (.bool (if neg then !inV (vOf x) (ds.map vOf) else inV (vOf x) (ds.map vOf)))) M) : ZO K (rIn K neg) (.d x) (.d (.list ds)) M Q :=
  zo_val (z := .d (.bool (if neg then !inV (vOf x) (ds.map vOf) else inV (vOf x) (ds.map vOf)))) (fun G H v u e a b => by
    obtain ⟨p, vs, rfl, h1, h2⟩ := dp_lst b
    have e1 := dp_flat a hx.2
    have e2 := dpa_flat h2 hd.2
    subst e1 e2
    exact ⟨_, Dz.bl _, fun Qv hq => ⟨p, _, rfl, .inl (Evl.ex_l e h1), hx.1, hd.1, hq⟩⟩) q

/-! ### slices -/
abbrev rSlAny (K : Fg) : V → Option Int → Option Int → Hp → VK → Prop := fun x lo hi H Q => rSlL K x lo hi H Q ∨ (rSlA K x lo hi H Q ∨ C8.rSlX x lo hi H Q)
theorem sl_any {X : Cx} : SlR X (rSlAny X.K) := sl_list.or (sl_tupA.or C8.sl_txt)
def ZPt (K : Fg) (E : L2.St → XK) (to : TO) (S : Zs) (M : Ms) (Q : Option Int → Ms → Prop) (X : XZ) : Prop := ∀ (n : Sn) (σ : L2.St) (G H : Hp), Rel K n S M σ G H → ∀ Qv : Option Int → Hp → Prop,
  (∀ o G' H' M', Ex G G' → Rel K n S M' σ G' H' → Q o M' → Qv o H') → XOk K (E σ) n σ G X → to σ H Qv
theorem zp_none {Q : Option Int → Ms → Prop} (q : Q none M) : ZPt K E tNoPart S M Q X := fun n σ G H R Qv k _ => k none G H M (Ex.refl G) R q
theorem zp_some {Q : Option Int → Ms → Prop} (h : ZW K E te S M (fun z M1 => ∃ i, z = .d (.int i) ∧ Q (some i) M1) X) : ZPt K E (tPart te) S M Q X := fun n σ G H R Qv k kx =>
  h n σ G H R _ (fun v G1 H1 z M1 e1 R1 a1 ⟨i, hz, q⟩ => by subst hz; exact ⟨i, dp_int a1, k (some i) G1 H1 M1 e1 R1 q⟩) kx
def cutD (xs : List PyData) (lo hi : Option Int) : List PyData := (xs.drop (HT.sIx xs.length 0 lo)).take (HT.sIx xs.length xs.length hi - HT.sIx xs.length 0 lo)
def dSl : PyData → Option Int → Option Int → Option PyData
  | .tuple ds, lo, hi => some (.tuple (cutD ds lo hi))
  | .list ds, lo, hi => some (.list (cutD ds lo hi))
  | .str z, lo, hi => if z.length ≤ sizeLine then some (.str (Txt.slice z lo hi)) else none
  | _, _, _ => none
theorem cut_whole {ds : List PyData} {lo hi : Option Int} (h : HT.sIx ds.length 0 lo = 0 ∧ HT.sIx ds.length ds.length hi = ds.length) : cutD ds lo hi = ds := by
  unfold cutD
  rw [h.1, h.2]
  simp
theorem dpa_cut {vs : List V} {ds : List PyData} (lo hi : Option Int) (h : DzAll K G vs ds) : DzAll K G (cutV vs lo hi) (cutD ds lo hi) := by
  unfold cutV cutD
  rw [dpa_len h]
  exact dpa_take _ (dpa_drop _ h)
theorem zw_sl {tl th : TO} (h : ZW K E te S M (fun z M1 => ZPt K E tl S M1 (fun lo M2 => ZPt K E th S M2 (fun hi M3 => ∃ x y, z = .d x ∧ dSl x lo hi = some y ∧ Q (.d y) M3) X) X) X) : ZW K E (tSl (rSlAny K) te tl th) S M Q X := fun n σ G H R Qv k kx =>
  h n σ G H R _ (fun v G1 H1 z M1 e1 R1 a1 h1 => h1 n σ G1 H1 R1 _ (fun lo G2 H2 M2 e2 R2 h2 => h2 n σ G2 H2 R2 _ (fun hi G3 H3 M3 e3 R3 ⟨x, y, hz, hy, q⟩ => by
    subst hz
    have a3 : Dz K G3 v x := dp_mono (e2.trans e3) a1
    have e13 := (e1.trans e2).trans e3
    cases x with
    | tuple ds =>
      obtain ⟨p, vs, rfl, h1, h2⟩ := dp_tup a3
      cases hy
      refine .inr (.inl ⟨p, vs, rfl, Evl.ex_t R3.ex h1, fun c => ?_, fun _ r hr => ?_⟩)
      · rw [dpa_len h2] at c
        rw [cut_whole c] at q
        exact k (.ref p) G3 H3 (.d (.tuple ds)) M3 e13 R3 a3 q
      · have g := ex_gnone R3.ex hr
        exact k (.ref r) _ _ (.d (.tuple (cutD ds lo hi))) M3 (e13.trans (Ex.new g)) (R3.new hr (fun _ z => nomatch z)) (Dz.tup (.inl upd_same) (dpAll_mono (Ex.new g) (dpa_cut lo hi h2))) q
    | list ds =>
      obtain ⟨p, vs, rfl, h1, h2⟩ := dp_lst a3
      cases hy
      refine .inl ⟨p, vs, rfl, Evl.ex_l R3.ex h1, fun r hr => ?_⟩
      have g := ex_gnone R3.ex hr
      exact k (.ref r) _ _ (.d (.list (cutD ds lo hi))) M3 (e13.trans (Ex.new g)) (R3.new hr (fun _ z => nomatch z)) (Dz.lst (Evl.sq_of upd_same) (dpAll_mono (Ex.new g) (dpa_cut lo hi h2))) q
    | str z =>
      have ev := dp_str a3
      subst ev
      simp only [dSl] at hy
      split at hy
      · rename_i hl
        cases hy
        exact .inr (.inr ⟨z, rfl, hl, k _ G3 H3 (.d (.str (Txt.slice z lo hi))) M3 e13 R3 (Dz.str _) q⟩)
      · cases hy
    | none => cases hy
    | bool _ => cases hy
    | int _ => cases hy
    | dict _ => cases hy) (kx.mono (e1.trans e2))) (kx.mono e1)) kx

/-! ### methods of built-in things -/
/-- o.append(e), o an own list -/
theorem zw_append {to : TE} (h : ZW K E to S M (fun z M0 => ∃ p, z = .c p ∧ (∃ b xs, (p, b, CD.lst xs) ∈ M0) ∧ ZW K E te S M0 (fun y M1 => ∃ d b xs M2, y = .d d ∧ Upd1 p b (.lst xs) (.lst (xs ++ [d])) M1 M2 ∧ xs.length < sizeLine ∧ Q (.d .none) M2) X) X) :
    ZW K E (tBM K "list" rAppend to (tCons te tNil)) S M Q X := fun n σ G H R Qv k kx =>
  h n σ G H R _ (fun v G0 H0 z M0 e0 R0 a0 ⟨p, hz, ⟨b0, xs0, hm0⟩, h2⟩ => by
    subst hz
    have ev : v = .ref p := a0
    subst ev
    obtain ⟨_, ws0, h3, _⟩ := R0.ce p b0 _ hm0
    refine ⟨.inl ⟨rfl, ws0, Evl.sq_of h3⟩, h2 n σ G0 H0 R0 _ (fun u G1 H1 y M1 e1 R1 a1 ⟨d, b, xs, M2, hy, hu, hl, q⟩ => ?_) (kx.mono e0)⟩
    subst hy
    obtain ⟨_, ws, h4, h5⟩ := R1.ce p b _ hu.mem
    exact ⟨p, ws, u, rfl, rfl, h4, by rw [dpa_len h5]; exact hl, k .non G1 _ (.d .none) M2 (e0.trans e1) (R1.putLst hu (dpa_app h5 (dpa_one a1))) Dz.non q⟩) kx
/-- a text's method with one argument; without -/
def ZM (K : Fg) (r : V → List V → Hp → VK → Prop) (x : ZV) (zs : List ZV) (M : Ms) (Q : QZ) : Prop := ∀ (n : Sn) (S : Zs) (σ : L2.St) (G H : Hp), Rel K n S M σ G H → ∀ v vs, ZV.at K G v x → ZAll K G vs zs → ∀ Qv : VK,
  (∀ w G' H' z M', Ex G G' → Rel K n S M' σ G' H' → ZV.at K G' w z → Q z M' → Qv w H') → r v vs H Qv
theorem zw_m1 {r : V → List V → Hp → VK → Prop} {to : TE} (h : ZW K E to S M (fun x M0 => ∃ a, x = .d (.str a) ∧ ZW K E te S M0 (fun y M1 => ZM K r x [y] M1 Q) X) X) : ZW K E (tM1 r to te) S M Q X := fun n σ G H R Qv k kx =>
  h n σ G H R _ (fun v G0 H0 x M0 e0 R0 a0 ⟨a, hx, h2⟩ => by
    subst hx
    refine ⟨⟨a, dp_str a0⟩, h2 n σ G0 H0 R0 _ (fun u G1 H1 y M1 e1 R1 a1 h3 => ?_) (kx.mono e0)⟩
    exact h3 n S σ G1 H1 R1 v [u] (dp_mono e1 a0) (.cons a1 .nil) Qv fun w G' H' z M' e' R' a' q => k w G' H' z M' ((e0.trans e1).trans e') R' a' q) kx
abbrev rSplit1 : V → List V → Hp → VK → Prop := fun x xs H Q => ∃ a b, x = .str a ∧ xs = [.str b] ∧ (b.length == 0) = false ∧ a.length + 2 ≤ sizeLine ∧ rNewStrs (Txt.split a b) H Q
theorem dpa_strs : ∀ {ys : List Str}, DzAll K G (ys.map V.str) (ys.map PyData.str)
  | [] => .nil
  | _ :: _ => .cons (.str _) dpa_strs
theorem dpa_strs_eq : ∀ {ys : List Str} {vs : List V}, DzAll K G vs (ys.map PyData.str) → vs = ys.map V.str
  | [], _, .nil => rfl
  | _ :: _, _, .cons a b => by rw [dp_str a, dpa_strs_eq b]; rfl
theorem zm_split {x b : Str} (hb : (b.length == 0) = false) (hl : x.length + 2 ≤ sizeLine) (q : Q (.d (.list ((Txt.split x b).map .str))) M) : ZM K rSplit1 (.d (.str x)) [.d (.str b)] M Q := fun n S σ G H R v vs a av Qv k => by
  obtain ⟨u, rfl, au⟩ := zall1 av
  refine ⟨x, b, dp_str a, by rw [dp_str au], hb, hl, fun p hp => ?_⟩
  have g := ex_gnone R.ex hp
  exact k (.ref p) _ _ (.d (.list ((Txt.split x b).map .str))) M (Ex.new g) (R.new hp (fun _ z => nomatch z)) (Dz.lst (Evl.sq_of upd_same) dpa_strs) q
abbrev rJoin1 (K : Fg) : V → List V → Hp → VK → Prop := fun x xs H Q => ∃ a p, ∃ ys : List Str, x = .str a ∧ xs = [.ref p] ∧ (SqL K H p (ys.map V.str) ∨ SqT K H p (ys.map V.str)) ∧ (ys.map (·.length)).sum + ys.length * a.length ≤ 16777216 ∧ Q (.str (Txt.join a ys)) H
theorem zm_join {a : Str} {ys : List Str} (hl : (ys.map (·.length)).sum + ys.length * a.length ≤ 16777216) (q : Q (.d (.str (Txt.join a ys))) M) : ZM K (rJoin1 K) (.d (.str a)) [.d (.list (ys.map .str))] M Q := fun n S σ G H R v vs av au Qv k => by
  obtain ⟨u, rfl, au2⟩ := zall1 au
  obtain ⟨p, ws, rfl, h1, h2⟩ := dp_lst au2
  have e := dpa_strs_eq h2
  subst e
  exact ⟨a, p, ys, dp_str av, rfl, .inl (Evl.ex_l R.ex h1), hl, k _ G H (.d (.str (Txt.join a ys))) M (Ex.refl G) R (Dz.str _) q⟩
end
end Z
namespace Z
open PySem PySem.Spec PyProof.Rows L2
open Evl (Ex)
section
variable {K : Fg} {E : L2.St → XK} {e0 : XK} {te ta tb tc : TE} {tA : TA} {tt : TT} {t u : TS} {S S' : Zs} {M M' : Ms} {P : ZP} {Q : QZ} {X : XZ} {n : Sn} {σ σ' : L2.St} {G G' H H' : Hp} {g : TG}
/-! ### targets -/
def ZG (K : Fg) (g : TG) (x : ZV) (S : Zs) (is : List Nat) (S' : Zs) : Prop := ∀ (n : Sn) (M : Ms) (σ : L2.St) (G H : Hp) (v : V), Rel K n S M σ G H → ZV.at K G v x → ∀ Qv : L2.St → Hp → Prop,
  (∀ σ', σ'.length = σ.length → (∀ j : Nat, j ∉ is → σ'[j]? = σ[j]?) → Rel K n S' M σ' G H → Qv σ' H) → g v σ H Qv
def ZGs (K : Fg) (g : TGs) (xs : List PyData) (S : Zs) (is : List Nat) (S' : Zs) : Prop := ∀ (n : Sn) (M : Ms) (σ : L2.St) (G H : Hp) (vs : List V), Rel K n S M σ G H → DzAll K G vs xs → ∀ Qv : L2.St → Hp → Prop,
  (∀ σ', σ'.length = σ.length → (∀ j : Nat, j ∉ is → σ'[j]? = σ[j]?) → Rel K n S' M σ' G H → Qv σ' H) → g vs σ H Qv
theorem zg_name {i : Nat} {z : ZV} : ZG K (gName i) z S [i] (S.set i (some z)) := fun n M σ G H v R a Qv k =>
  k _ (by simp) (fun j hj => by rw [List.getElem?_set_ne (by simpa using fun e => hj (by simp [e]))]) (R.set a)
theorem zgs_nil : ZGs K gNil [] S [] S := fun n M σ G H vs R a Qv k => by
  cases a
  exact ⟨rfl, k σ rfl (fun _ _ => rfl) R⟩
theorem zgs_cons {i : Nat} {us : TGs} {x : PyData} {xs : List PyData} {is : List Nat} (h : ZGs K us xs (S.set i (some (.d x))) is S') : ZGs K (gCons (gName i) us) (x :: xs) S (i :: is) S' := fun n M σ G H vs R a Qv k => by
  cases a with
  | cons a b =>
    refine ⟨_, _, rfl, h n M _ G H _ (R.set (z := .d x) a) b Qv fun σ' hl hj R' => k σ' (by simpa using hl) (fun j q => ?_) R'⟩
    rw [hj j (fun z => q (List.mem_cons_of_mem _ z)), List.getElem?_set_ne (fun z => q (by simp [z]))]
theorem zg_tup {us : TGs} {k : Nat} {xs : List PyData} {is : List Nat} (hk : xs.length = k) (h : ZGs K us xs S is S') : ZG K (gTup K k us) (.d (.tuple xs)) S is S' := fun n M σ G H v R a Qv q => by
  obtain ⟨p, vs, rfl, h1, h2⟩ := dp_tup a
  exact ⟨p, vs, rfl, Evl.ex_t R.ex h1, by rw [dpa_len h2, hk], h n M σ G H vs R h2 Qv q⟩
theorem zs_asgG (h : ZW K E te S M (fun z M1 => ∃ is S2, ZG K g z S is S2 ∧ P.nx S2 M1) P.ex) : ZS K E (tAsg te g) S M P := fun n σ G H R D k =>
  h n σ G H R _ (fun v G1 H1 z M1 e1 R1 a1 ⟨is, S2, hg, q⟩ => hg n M1 σ G1 H1 v R1 a1 _ fun σ' _ _ R2 => k.nx σ' G1 H1 S2 M1 e1 R2 q) k.xok

/-! ### for -/
def LoopP (P : ZP) (I : Zs → Ms → Prop) : ZP := { P with nx := I, ct := I, bk := P.nx }
theorem DOk.loop {D : Ends} {I : Zs → Ms → Prop} {N : L2.St → Hp → Prop} (k : DOk K E n G P D) (h : ∀ σ' G' H' S' M', Ex G G' → Rel K n S' M' σ' G' H' → I S' M' → N σ' H') : DOk K E n G (LoopP P I) { D with nx := N, ct := N, bk := D.nx } :=
  ⟨h, k.rt, k.nx, h, k.ex⟩
/-- the invariant of a loop over what is data of the frozen part -/
def FI (K : Fg) (n : Sn) (G0 : Hp) (I : Nat → Zs → Ms → Prop) (i : Nat) (σ : L2.St) (H : Hp) : Prop := ∃ G S M, Rel K n S M σ G H ∧ Ex G0 G ∧ I i S M
theorem dpa_at_v {vs : List V} {ds : List PyData} (h : DzAll K G vs ds) {i : Nat} {v : V} (e : vs[i]? = some v) : ∃ d, ds[i]? = some d ∧ Dz K G v d := by
  have hi : i < ds.length := by rw [← dpa_len h]; exact (List.getElem?_eq_some_iff.mp e).1
  obtain ⟨w, h1, h2⟩ := dpa_get h (List.getElem?_eq_getElem hi)
  rw [e] at h1
  cases h1
  exact ⟨_, List.getElem?_eq_getElem hi, h2⟩
theorem zs_forT (h : ZW K E te S M (fun z M1 => ∃ xs, z = .d (.tuple xs) ∧ ∃ I : Nat → Zs → Ms → Prop, I 0 S M1 ∧
      (∀ i x S' M', xs[i]? = some x → I i S' M' → ∃ is S2, ZG K g (.d x) S' is S2 ∧ ZS K E t S2 M' (LoopP P (I (i + 1)))) ∧ (∀ S' M', I xs.length S' M' → P.nx S' M')) P.ex) : ZS K E (tFor (iTup K te) g t) S M P := fun n σ G H R D k =>
  h n σ G H R _ (fun v G1 H1 z M1 e1 R1 a1 ⟨xs, hz, I, i0, is, id⟩ => by
    subst hz
    obtain ⟨p, vs, rfl, h1, h2⟩ := dp_tup a1
    refine ⟨p, rfl, ⟨vs, Evl.ex_t R1.ex h1⟩, for_tup (xs := vs) (FI K n G1 I) ⟨G1, S, M1, R1, Ex.refl _, i0⟩ (fun i σ' H' _ ⟨G', S', M', R', e', _⟩ => Evl.ex_t (e'.trans R'.ex) h1) (fun i x σ' H' hx ⟨G', S', M', R', e', hi⟩ => ?_) (fun σ' H' ⟨G', S', M', R', e', hi⟩ => k.nx σ' G' H' S' M' (e1.trans e') R' (id S' M' (by rw [← dpa_len h2]; exact hi)))⟩
    obtain ⟨d, hd, ax⟩ := dpa_at_v h2 hx
    obtain ⟨js, S2, hg, hb⟩ := is i d S' M' hd hi
    exact hg n M' σ' G' H' x R' (dp_mono e' ax) _ fun σ2 _ _ R2 => hb n σ2 G' H' R2 _ ((k.mono (e1.trans e')).loop fun σ3 G3 H3 S3 M3 e3 R3 i3 => ⟨G3, S3, M3, R3, e'.trans e3, i3⟩)) k.xok
theorem zs_forL (h : ZW K E te S M (fun z M1 => ∃ xs, z = .d (.list xs) ∧ ∃ I : Nat → Zs → Ms → Prop, I 0 S M1 ∧
      (∀ i x S' M', xs[i]? = some x → I i S' M' → ∃ is S2, ZG K g (.d x) S' is S2 ∧ ZS K E t S2 M' (LoopP P (I (i + 1)))) ∧ (∀ S' M', I xs.length S' M' → P.nx S' M')) P.ex) : ZS K E (tFor (iList K te) g t) S M P := fun n σ G H R D k =>
  h n σ G H R _ (fun v G1 H1 z M1 e1 R1 a1 ⟨xs, hz, I, i0, is, id⟩ => by
    subst hz
    obtain ⟨p, vs, rfl, h1, h2⟩ := dp_lst a1
    refine ⟨p, rfl, ⟨vs, Evl.ex_l R1.ex h1⟩, for_list (xs := vs) (FI K n G1 I) ⟨G1, S, M1, R1, Ex.refl _, i0⟩ (fun i σ' H' _ ⟨G', S', M', R', e', _⟩ => Evl.ex_l (e'.trans R'.ex) h1) (fun i x σ' H' hx ⟨G', S', M', R', e', hi⟩ => ?_) (fun σ' H' ⟨G', S', M', R', e', hi⟩ => k.nx σ' G' H' S' M' (e1.trans e') R' (id S' M' (by rw [← dpa_len h2]; exact hi)))⟩
    obtain ⟨d, hd, ax⟩ := dpa_at_v h2 hx
    obtain ⟨js, S2, hg, hb⟩ := is i d S' M' hd hi
    exact hg n M' σ' G' H' x R' (dp_mono e' ax) _ fun σ2 _ _ R2 => hb n σ2 G' H' R2 _ ((k.mono (e1.trans e')).loop fun σ3 G3 H3 S3 M3 e3 R3 i3 => ⟨G3, S3, M3, R3, e'.trans e3, i3⟩)) k.xok
theorem zs_forR1 (h : ZA K E tA S M (fun zs M1 => ∃ j : Int, zs = [.d (.int j)] ∧ -(2 ^ 62) ≤ j ∧ j < 2 ^ 62 ∧ ∃ I : Nat → Zs → Ms → Prop, I 0 S M1 ∧
      (∀ i S' M', i < j.toNat → I i S' M' → ∃ is S2, ZG K g (.d (.int (0 + (i : Nat)))) S' is S2 ∧ ZS K E t S2 M' (LoopP P (I (i + 1)))) ∧ (∀ S' M', I j.toNat S' M' → P.nx S' M')) P.ex) : ZS K E (tFor (iRng1 tA) g t) S M P := fun n σ G H R D k =>
  h n σ G H R _ (fun vs G1 H1 zs M1 e1 R1 a1 ⟨j, hz, l1, l2, I, i0, is, id⟩ => by
    subst hz
    obtain ⟨v, rfl, av⟩ := zall1 a1
    have ev := dp_int av
    subst ev
    refine ⟨j, rfl, l1, l2, for_range (n := j.toNat) (FI K n G1 I) ⟨G1, S, M1, R1, Ex.refl _, i0⟩ (fun i σ' H' hx ⟨G', S', M', R', e', hi⟩ => ?_) (fun σ' H' ⟨G', S', M', R', e', hi⟩ => k.nx σ' G' H' S' M' (e1.trans e') R' (id S' M' hi))⟩
    obtain ⟨js, S2, hg, hb⟩ := is i S' M' hx hi
    exact hg n M' σ' G' H' _ R' (Dz.int _) _ fun σ2 _ _ R2 => hb n σ2 G' H' R2 _ ((k.mono (e1.trans e')).loop fun σ3 G3 H3 S3 M3 e3 R3 i3 => ⟨G3, S3, M3, R3, e'.trans e3, i3⟩)) k.xok
theorem zs_forR2 (h : ZA K E tA S M (fun zs M1 => ∃ a j : Int, zs = [.d (.int a), .d (.int j)] ∧ (-(2 ^ 62) ≤ a ∧ a < 2 ^ 62 ∧ -(2 ^ 62) ≤ j ∧ j < 2 ^ 62) ∧ ∃ I : Nat → Zs → Ms → Prop, I 0 S M1 ∧
      (∀ i S' M', i < (j - a).toNat → I i S' M' → ∃ is S2, ZG K g (.d (.int (a + (i : Nat)))) S' is S2 ∧ ZS K E t S2 M' (LoopP P (I (i + 1)))) ∧ (∀ S' M', I (j - a).toNat S' M' → P.nx S' M')) P.ex) : ZS K E (tFor (iRng2 tA) g t) S M P := fun n σ G H R D k =>
  h n σ G H R _ (fun vs G1 H1 zs M1 e1 R1 a1 ⟨a, j, hz, l1, I, i0, is, id⟩ => by
    subst hz
    obtain ⟨v, u, rfl, av, au⟩ := zall2 a1
    have ev := dp_int av
    have eu := dp_int au
    subst ev eu
    refine ⟨a, j, rfl, l1, for_range (n := (j - a).toNat) (FI K n G1 I) ⟨G1, S, M1, R1, Ex.refl _, i0⟩ (fun i σ' H' hx ⟨G', S', M', R', e', hi⟩ => ?_) (fun σ' H' ⟨G', S', M', R', e', hi⟩ => k.nx σ' G' H' S' M' (e1.trans e') R' (id S' M' hi))⟩
    obtain ⟨js, S2, hg, hb⟩ := is i S' M' hx hi
    exact hg n M' σ' G' H' _ R' (Dz.int _) _ fun σ2 _ _ R2 => hb n σ2 G' H' R2 _ ((k.mono (e1.trans e')).loop fun σ3 G3 H3 S3 M3 e3 R3 i3 => ⟨G3, S3, M3, R3, e'.trans e3, i3⟩)) k.xok
/-- while: I by a measure -/
theorem zs_while (I : Nat → Zs → Ms → Prop) (h0 : ∃ m, I m S M)
    (hs : ∀ m S' M', I m S' M' → ZT K E tt S' M' (fun b M1 => (b = true → ZS K E t S' M1 (LoopP P fun S2 M2 => ∃ m', m' < m ∧ I m' S2 M2)) ∧ (b = false → P.nx S' M1)) P.ex) : ZS K E (tWhile tt t) S M P := fun n σ G H R D k => by
  obtain ⟨m0, i0⟩ := h0
  refine ⟨fun m σ' H' => ∃ G' S' M', Rel K n S' M' σ' G' H' ∧ Ex G G' ∧ I m S' M', ⟨m0, G, S, M, R, Ex.refl G, i0⟩, ?_⟩
  rintro m σ' H' ⟨G', S', M', R', e', hi⟩
  refine hs m S' M' hi n σ' G' H' R' _ (fun b G1 H1 M1 e1 R1 q => ?_) (XOk.mono k.xok e')
  cases b with
  | true =>
    show ∃ N : L2.St → Hp → Prop, _ ∧ _
    exact ⟨fun σ2 H2 => ∃ G2 S2 M2, Rel K n S2 M2 σ2 G2 H2 ∧ Ex G G2 ∧ ∃ m', m' < m ∧ I m' S2 M2, fun σ2 H2 ⟨G2, S2, M2, R2, e2, m', hm, i2⟩ => ⟨m', hm, G2, S2, M2, R2, e2, i2⟩,
      q.1 rfl n σ' G1 H1 R1 _ ((k.mono (e'.trans e1)).loop fun σ3 G3 H3 S3 M3 e3 R3 i3 => ⟨G3, S3, M3, R3, (e'.trans e1).trans e3, i3⟩)⟩
  | false =>
    show D.nx σ' H1
    exact k.nx σ' G1 H1 S' M1 (e'.trans e1) R1 (q.2 rfl)

/-! ### comprehensions -/
def wipeZ (S : Zs) : List Nat → Zs
  | [] => S
  | v :: vs => (wipeZ S vs).set v none
theorem Rel.wipe (R : Rel K n S M σ G H) : ∀ vs : List Nat, Rel K n (wipeZ S vs) M (L2.wipe σ vs) G H
  | [] => R
  | v :: vs => (R.wipe vs).unset
theorem wipe_get (σ : L2.St) (j : Nat) : ∀ vs : List Nat, j ∉ vs → (L2.wipe σ vs)[j]? = σ[j]?
  | [], _ => rfl
  | v :: vs, h => by
    show ((L2.wipe σ vs).set v none)[j]? = _
    rw [List.getElem?_set_ne (fun e => h (by simp [e])), wipe_get σ j vs (fun z => h (List.mem_cons_of_mem _ z))]
theorem wipe_in (σ : L2.St) (j : Nat) : ∀ vs : List Nat, j ∈ vs → j < σ.length → (L2.wipe σ vs)[j]? = some none
  | v :: vs, h, hl => by
    show ((L2.wipe σ vs).set v none)[j]? = _
    by_cases e : v = j
    · subst e
      rw [List.getElem?_set]
      simp [L2.wipe_length, hl]
    · rw [List.getElem?_set_ne e]
      rcases List.mem_cons.mp h with z | z
      · exact absurd z.symm e
      · exact wipe_in σ j vs z hl
theorem wipe_eq {σ2 : L2.St} {vs : List Nat} (hl : σ2.length = (L2.wipe σ vs).length) (h : ∀ j : Nat, j ∉ vs → σ2[j]? = (L2.wipe σ vs)[j]?) : L2.wipe σ2 vs = L2.wipe σ vs := by
  refine List.ext_getElem? fun j => ?_
  by_cases hj : j ∈ vs
  · by_cases hb : j < σ.length
    · rw [wipe_in σ j vs hj hb, wipe_in σ2 j vs hj (by rw [hl, L2.wipe_length]; exact hb)]
    · have hb := Nat.le_of_not_lt hb
      have l1 : (L2.wipe σ2 vs).length ≤ j := by rw [L2.wipe_length, hl, L2.wipe_length]; exact hb
      have l2 : (L2.wipe σ vs).length ≤ j := by rw [L2.wipe_length]; exact hb
      rw [List.getElem?_eq_none l1, List.getElem?_eq_none l2]
  · rw [wipe_get σ2 j vs hj, h j hj]
/-- the slots of the entry over the rest of a later state -/
theorem Rel.reslot (R0 : Rel K n S M σ G H) (R : Rel K n S' M' σ' G' H') (e : Ex G G') : Rel K n S M' σ G' H' :=
  ⟨R.ex, R0.len, fun i z q => by obtain ⟨v, h1, h2⟩ := R0.sl i z q; exact ⟨v, h1, ZV.mono e h2⟩, R.nd, R.ce, R.g0, R.h0, R.lv, R.f0, R.a0, R.o0⟩
/-- one turn of a comprehension; I: behind i turns, the list so far, the cells -/
def LcTurn (K : Fg) (E : L2.St → XK) (g : TG) (tt : TT) (te : TE) (S : Zs) (vs : List Nat) (I : Nat → List PyData → Ms → Prop) (i : Nat) (x : PyData) : Prop := ∀ acc M' D, I i acc M' → ∃ is S2, (∀ j ∈ is, j ∈ vs) ∧ ZG K g (.d x) (wipeZ S vs) is S2 ∧
  ZT K E tt S2 ((D, true, .lst acc) :: M') (fun b Mb => (b = false → ∃ M2, Mb = (D, true, .lst acc) :: M2 ∧ I (i + 1) acc M2) ∧
    (b = true → ZW K E te S2 Mb (fun y Mc => ∃ d M2, y = .d d ∧ Mc = (D, true, .lst acc) :: M2 ∧ I (i + 1) (acc ++ [d]) M2) fun _ _ _ => False)) fun _ _ _ => False
def LcI (K : Fg) (n : Sn) (G0 : Hp) (S : Zs) (σ : L2.St) (vs : List Nat) (D : Addr) (I : Nat → List PyData → Ms → Prop) (i : Nat) (H : Hp) : Prop :=
  ∃ G M acc, Rel K n (wipeZ S vs) ((D, true, .lst acc) :: M) (L2.wipe σ vs) G H ∧ Ex G0 G ∧ acc.length ≤ i ∧ I i acc M
theorem lc_turn {vs : List Nat} {I : Nat → List PyData → Ms → Prop} {G0 : Hp} {D : Addr} {i : Nat} {v : V} {x : PyData} (ht : LcTurn K E g tt te S vs I i x) (hi : LcI K n G0 S σ vs D I i H) (hv : Dz K G0 v x) (hz : i < sizeLine) :
    g v (L2.wipe σ vs) H fun σ2 H2 => L2.wipe σ2 vs = L2.wipe σ vs ∧ tt σ2 H2 fun b H3 => if b = true then te σ2 H3 fun y H4 => ∃ acc, H4 D = some (.lst acc) ∧ acc.length < sizeLine ∧ LcI K n G0 S σ vs D I (i + 1) (upd H4 D (.lst (acc ++ [y]))) else LcI K n G0 S σ vs D I (i + 1) H3 := by
  obtain ⟨G, M, acc, R, e, hl, hI⟩ := hi
  obtain ⟨is, S2, hs, hg, hb⟩ := ht acc M D hI
  refine hg n _ _ G H v R (dp_mono e hv) _ fun σ2 l2 g2 R2 => ?_
  have ew : L2.wipe σ2 vs = L2.wipe σ vs := wipe_eq l2 fun j hj => g2 j fun z => hj (hs j z)
  have back : ∀ {G' H' : Hp} {M' : Ms}, Rel K n S2 M' σ2 G' H' → Ex G G' → Rel K n (wipeZ S vs) M' (L2.wipe σ vs) G' H' := fun R' e' => R.reslot R' e'
  refine ⟨ew, hb n σ2 G H R2 _ (fun b G3 H3 Mb e3 R3 q => ?_) ?_⟩
  · cases b with
    | true =>
      show te σ2 H3 _
      refine q.2 rfl n σ2 G3 H3 R3 _ (fun y G4 H4 z Mc e4 R4 a4 ⟨d, M2, hz2, hM, hI2⟩ => ?_) ?_
      · subst hz2 hM
        obtain ⟨_, ws, h1, h2⟩ := R4.ce D true _ m0
        refine ⟨ws, h1, by rw [dpa_len h2]; omega, G4, M2, acc ++ [d], ?_, (e.trans e3).trans e4, by simp; omega, hI2⟩
        exact (back R4 (e3.trans e4)).putLst .here (dpa_app h2 (dpa_one a4))
      · exact fun _ _ _ _ _ _ _ _ _ _ q => q.elim
    | false =>
      show LcI K n G0 S σ vs D I (i + 1) H3
      obtain ⟨M2, hM, hI2⟩ := q.1 rfl
      subst hM
      exact ⟨G3, M2, acc, back R3 e3, e.trans e3, by omega, hI2⟩
  · exact fun _ _ _ _ _ _ _ _ _ _ q => q.elim
/-- behind the last turn: the list is data -/
theorem lc_done {vs : List Nat} {I : Nat → List PyData → Ms → Prop} {G0 H0 : Hp} {D : Addr} {i : Nat} {Qv : VK} (R0 : Rel K n S M σ G0 H0) (hi : LcI K n G0 S σ vs D I i H) (hd : ∀ acc M', I i acc M' → Q (.d (.list acc)) M')
    (k : ∀ v G' H' z M', Ex G0 G' → Rel K n S M' σ G' H' → ZV.at K G' v z → Q z M' → Qv v H') : Qv (.ref D) H := by
  obtain ⟨G, M', acc, R, e, hl, hI⟩ := hi
  obtain ⟨G2, e2, R2, d2⟩ := R.frz .here
  exact k (.ref D) G2 H (.d (.list acc)) M' (e.trans e2) (R0.reslot R2 (e.trans e2)) d2 (hd acc M' hI)
/-- .. as an own list -/
theorem lc_doneC {vs : List Nat} {I : Nat → List PyData → Ms → Prop} {G0 H0 : Hp} {D : Addr} {i : Nat} {Qv : VK} (R0 : Rel K n S M σ G0 H0) (hi : LcI K n G0 S σ vs D I i H) (hd : ∀ acc M', I i acc M' → Q (.c D) ((D, true, .lst acc) :: M'))
    (k : ∀ v G' H' z M', Ex G0 G' → Rel K n S M' σ G' H' → ZV.at K G' v z → Q z M' → Qv v H') : Qv (.ref D) H := by
  obtain ⟨G, M', acc, R, e, hl, hI⟩ := hi
  exact k (.ref D) G H (.c D) _ e (R0.reslot R e) rfl (hd acc M' hI)
theorem lc_start {vs : List Nat} {I : Nat → List PyData → Ms → Prop} {D : Addr} (R : Rel K n S M σ G H) (hD : H D = none) (h0 : I 0 [] M) : LcI K n G S σ vs D I 0 (upd H D (.lst [])) :=
  ⟨G, M, [], (R.newLst hD .nil).wipe vs, Ex.refl G, Nat.le_refl _, h0⟩
theorem zw_lcT {vs : List Nat} (h : ZW K E ta S M (fun z M1 => ∃ xs, z = .d (.tuple xs) ∧ xs.length ≤ sizeLine ∧ ∃ I : Nat → List PyData → Ms → Prop, I 0 [] M1 ∧ (∀ i x, xs[i]? = some x → LcTurn K E g tt te S vs I i x) ∧ (∀ acc M', I xs.length acc M' → Q (.d (.list acc)) M')) X) :
    ZW K E (tLc (iTup K ta) g tt te vs) S M Q X := fun n σ G H R Qv k kx =>
  h n σ G H R _ (fun v G1 H1 z M1 e1 R1 a1 ⟨xs, hz, hl, I, i0, is, id⟩ => by
    subst hz
    obtain ⟨p, ws, rfl, h1, h2⟩ := dp_tup a1
    refine ⟨p, rfl, ⟨ws, Evl.ex_t R1.ex h1⟩, fun D hD => lc_tup (xs := ws) (LcI K n G1 S σ vs D I) (lc_start R1 hD i0) (fun i H' _ ⟨G', _, _, R', e', _⟩ => Evl.ex_t (e'.trans R'.ex) h1) (fun i x H' hx hi => ?_) (fun H' hi => lc_done R1 hi (fun acc M' q => id acc M' (by rw [← dpa_len h2]; exact q)) fun v G' H' z M' e' => k v G' H' z M' (e1.trans e'))⟩
    obtain ⟨d, hd, ax⟩ := dpa_at_v h2 hx
    have hi2 : i < xs.length := (List.getElem?_eq_some_iff.mp hd).1
    exact lc_turn (is i d hd) hi ax (Nat.lt_of_lt_of_le hi2 hl)) kx
theorem zw_lcL {vs : List Nat} (h : ZW K E ta S M (fun z M1 => ∃ xs, z = .d (.list xs) ∧ xs.length ≤ sizeLine ∧ ∃ I : Nat → List PyData → Ms → Prop, I 0 [] M1 ∧ (∀ i x, xs[i]? = some x → LcTurn K E g tt te S vs I i x) ∧ (∀ acc M', I xs.length acc M' → Q (.d (.list acc)) M')) X) :
    ZW K E (tLc (iList K ta) g tt te vs) S M Q X := fun n σ G H R Qv k kx =>
  h n σ G H R _ (fun v G1 H1 z M1 e1 R1 a1 ⟨xs, hz, hl, I, i0, is, id⟩ => by
    subst hz
    obtain ⟨p, ws, rfl, h1, h2⟩ := dp_lst a1
    refine ⟨p, rfl, ⟨ws, Evl.ex_l R1.ex h1⟩, fun D hD => lc_list (xs := ws) (LcI K n G1 S σ vs D I) (lc_start R1 hD i0) (fun i H' _ ⟨G', _, _, R', e', _⟩ => Evl.ex_l (e'.trans R'.ex) h1) (fun i x H' hx hi => ?_) (fun H' hi => lc_done R1 hi (fun acc M' q => id acc M' (by rw [← dpa_len h2]; exact q)) fun v G' H' z M' e' => k v G' H' z M' (e1.trans e'))⟩
    obtain ⟨d, hd, ax⟩ := dpa_at_v h2 hx
    have hi2 : i < xs.length := (List.getElem?_eq_some_iff.mp hd).1
    exact lc_turn (is i d hd) hi ax (Nat.lt_of_lt_of_le hi2 hl)) kx
theorem zw_lcR1 {vs : List Nat} (h : ZA K E tA S M (fun zs M1 => ∃ j : Int, zs = [.d (.int j)] ∧ 0 ≤ j ∧ j.toNat ≤ sizeLine ∧ ∃ I : Nat → List PyData → Ms → Prop, I 0 [] M1 ∧ (∀ i, i < j.toNat → LcTurn K E g tt te S vs I i (.int (0 + (i : Nat)))) ∧ (∀ acc M', I j.toNat acc M' → Q (.d (.list acc)) M')) X) :
    ZW K E (tLc (iRng1 tA) g tt te vs) S M Q X := fun n σ G H R Qv k kx =>
  h n σ G H R _ (fun us G1 H1 zs M1 e1 R1 a1 ⟨j, hz, l0, l1, I, i0, is, id⟩ => by
    subst hz
    obtain ⟨v, rfl, av⟩ := zall1 a1
    have ev := dp_int av
    subst ev
    have hs : (sizeLine : Nat) < 2 ^ 62 := by rw [sizeLine_eq]; decide
    exact ⟨j, rfl, by omega, by omega, fun D hD => lc_range (n := j.toNat) (LcI K n G1 S σ vs D I) (lc_start R1 hD i0) (fun i H' hx hi => lc_turn (is i hx) hi (Dz.int _) (Nat.lt_of_lt_of_le hx l1)) (fun H' hi => lc_done R1 hi id fun v G' H' z M' e' => k v G' H' z M' (e1.trans e'))⟩) kx
theorem zw_lcR2 {vs : List Nat} (h : ZA K E tA S M (fun zs M1 => ∃ a j : Int, zs = [.d (.int a), .d (.int j)] ∧ (-(2 ^ 62) ≤ a ∧ a < 2 ^ 62 ∧ -(2 ^ 62) ≤ j ∧ j < 2 ^ 62) ∧ (j - a).toNat ≤ sizeLine ∧ ∃ I : Nat → List PyData → Ms → Prop, I 0 [] M1 ∧ (∀ i, i < (j - a).toNat → LcTurn K E g tt te S vs I i (.int (a + (i : Nat)))) ∧ (∀ acc M', I (j - a).toNat acc M' → Q (.d (.list acc)) M')) X) :
    ZW K E (tLc (iRng2 tA) g tt te vs) S M Q X := fun n σ G H R Qv k kx =>
  h n σ G H R _ (fun us G1 H1 zs M1 e1 R1 a1 ⟨a, j, hz, l0, l1, I, i0, is, id⟩ => by
    subst hz
    obtain ⟨v, u, rfl, av, au⟩ := zall2 a1
    have ev := dp_int av
    have eu := dp_int au
    subst ev eu
    exact ⟨a, j, rfl, l0, fun D hD => lc_range (n := (j - a).toNat) (LcI K n G1 S σ vs D I) (lc_start R1 hD i0) (fun i H' hx hi => lc_turn (is i hx) hi (Dz.int _) (Nat.lt_of_lt_of_le hx l1)) (fun H' hi => lc_done R1 hi id fun v G' H' z M' e' => k v G' H' z M' (e1.trans e'))⟩) kx
theorem zt_yes {Q : Bool → Ms → Prop} (q : Q true M) : ZT K E tYes S M Q X := fun n σ G H R Qv k _ => k true G H M (Ex.refl G) R q

/-! ### objects of the program's own classes -/
theorem zw_fld {C : Addr} {f : Str} (cl : Cls K C) (na : NoAttr K C f) (h : ZW K E te S M (fun z M1 => ∃ p b fs y, z = .c p ∧ (p, b, CD.obj C fs) ∈ M1 ∧ fs.lookup f = some y ∧ Q y M1) X) : ZW K E (tFld K te f) S M Q X := fun n σ G H R Qv k kx =>
  h n σ G H R _ (fun v G1 H1 z M1 e1 R1 a1 ⟨p, b, fs, y, hz, hm, hl, q⟩ => by
    subst hz
    have ev : v = .ref p := a1
    subst ev
    obtain ⟨_, dx, fv, h1, h2, h3, h4⟩ := R1.ce p b _ hm
    obtain ⟨w, l1, l2⟩ := (lookup_paired h4 f).2 y hl
    exact ⟨p, C, dx, fv, w, rfl, h1, cl, na, l1, k w G1 H1 y M1 e1 R1 l2 q⟩) kx
def putZ (f : Str) (z : ZV) : List (Str × ZV) → List (Str × ZV)
  | [] => [(f, z)]
  | (g, y) :: r => if g = f then (g, z) :: r else (g, y) :: putZ f z r
theorem putF_paired {f : Str} {v : V} {z : ZV} (a : ZV.at K G v z) : ∀ {fv : List (Str × V)} {fs : List (Str × ZV)}, Paired (fun (a : Str × V) (b : Str × ZV) => a.1 = b.1 ∧ ZV.at K G a.2 b.2) fv fs → Paired (fun (a : Str × V) (b : Str × ZV) => a.1 = b.1 ∧ ZV.at K G a.2 b.2) (putF f v fv) (putZ f z fs)
  | [], [], .nil => .cons ⟨rfl, a⟩ .nil
  | (g, x) :: fv, (g2, y) :: fs, .cons q t => by
    obtain ⟨q1, q2⟩ := q
    dsimp only at q1 q2
    subst q1
    unfold putF putZ
    by_cases e : g = f
    · rw [if_pos e, if_pos e]; exact .cons ⟨rfl, a⟩ t
    · rw [if_neg e, if_neg e]; exact .cons ⟨rfl, q2⟩ (putF_paired a t)
theorem paired_len {α β : Type} {F : α → β → Prop} : ∀ {l : List α} {m : List β}, Paired F l m → l.length = m.length
  | _, _, .nil => rfl
  | _, _, .cons _ t => by simp [paired_len t]
theorem Rel.putObj {p C : Addr} {b : Bool} {fs : List (Str × ZV)} {f : Str} {v : V} {z : ZV} {dx : Addr} {fv : List (Str × V)} (R : Rel K n S M σ G H) (u : Upd1 p b (.obj C fs) (.obj C (putZ f z fs)) M M') (h1 : H p = some (.ins C dx fv)) (h2 : H dx = some (.own p)) (h3 : G dx = none) (h4 : Paired (fun (a : Str × V) (b : Str × ZV) => a.1 = b.1 ∧ ZV.at K G a.2 b.2) fv fs) (a : ZV.at K G v z) :
    Rel K n S M' σ G (upd H p (.ins C dx (putF f v fv))) := by
  refine R.put u (fun x q => by rw [h1] at q; cases q) ⟨dx, putF f v fv, upd_same, ?_, h3, putF_paired a h4⟩
  rw [upd_ne (fun e => by rw [e, h1] at h2; cases h2)]
  exact h2
theorem zs_fld {C : Addr} {f : Str} {to tv : TE} (cl : Cls K C) (na : NoAttr K C f) (h : ZW K E tv S M (fun y M1 => ZW K E to S M1 (fun z M2 => ∃ p b fs M3, z = .c p ∧ fs.length < 1000 ∧ Upd1 p b (.obj C fs) (.obj C (putZ f y fs)) M2 M3 ∧ P.nx S M3) P.ex) P.ex) : ZS K E (sFld K to tv f) S M P := fun n σ G H R D k =>
  h n σ G H R _ (fun v G1 H1 y M1 e1 R1 a1 h2 => h2 n σ G1 H1 R1 _ (fun w G2 H2 z M2 e2 R2 a2 ⟨p, b, fs, M3, hz, hl, hu, q⟩ => by
    subst hz
    have ev : w = .ref p := a2
    subst ev
    obtain ⟨_, dx, fv, h1, h3, h4, h5⟩ := R2.ce p b _ hu.mem
    exact ⟨p, C, dx, fv, rfl, h1, cl, na, by rw [paired_len h5]; exact hl, k.nx σ G2 _ S M3 (e1.trans e2) (R2.putObj hu h1 h3 h4 h5 (ZV.mono e2 a1)) q⟩) (XOk.mono k.xok e1)) k.xok
/-- o.f += an int -/
theorem zs_fldaug {C : Addr} {f : Str} {to tv : TE} (cl : Cls K C) (na : NoAttr K C f) (h : ZW K E to S M (fun z M1 => ∃ p a, z = .c p ∧ (∃ b0 fs0, (p, b0, CD.obj C fs0) ∈ M1 ∧ fs0.lookup f = some (.d (.int a))) ∧ ZW K E tv S M1 (fun y M2 => ∃ j b fs M3, y = .d (.int j) ∧ fs.length < 1000 ∧ Upd1 p b (.obj C fs) (.obj C (putZ f (.d (.int (a + j))) fs)) M2 M3 ∧ P.nx S M3) P.ex) P.ex) :
    ZS K E (sFldAug K to tv rAdd f) S M P := fun n σ G H R D k =>
  h n σ G H R _ (fun w G1 H1 z M1 e1 R1 a1 ⟨p, a, hz, ⟨b0, fs0, hm0, hl0⟩, h2⟩ => by
    subst hz
    have ev : w = .ref p := a1
    subst ev
    obtain ⟨_, dx, fv, h1, h3, h4, h5⟩ := R1.ce p b0 _ hm0
    obtain ⟨x, l1, l2⟩ := (lookup_paired h5 f).2 _ hl0
    refine ⟨p, C, dx, fv, x, rfl, h1, cl, na, l1, h2 n σ G1 H1 R1 _ (fun y G2 H2 zy M2 e2 R2 a2 ⟨j, b, fs, M3, hy, hl, hu, q⟩ => ?_) (XOk.mono k.xok e1)⟩
    subst hy
    obtain ⟨_, dx', fv', h1', h3', h4', h5'⟩ := R2.ce p b _ hu.mem
    exact ⟨a, j, dp_int l2, dp_int a2, dx', fv', h1', by rw [paired_len h5']; exact hl, k.nx σ G2 _ S M3 (e1.trans e2) (R2.putObj hu h1' h3' h4' h5' (v := .int (a + j)) (Dz.int _)) q⟩) k.xok
/-- C(..): a new own object -/
theorem zw_make {ar : Nat} {C : Addr} {R : List (Str × ZV) → List PyData → DOut → List (Str × ZV) → Prop} (h : ZA K (fun _ => e0) tA S M (fun zs M1 => ∃ ds o fs', AllD zs ds ∧ ds.length = ar ∧ R [] ds o fs' ∧ (∀ d, o = .ok d → d = .none ∧ ∀ p, Q (.c p) ((p, true, .obj C fs') :: M1)) ∧ (∀ x, o = .ex x → ∀ p, X x S ((p, true, .obj C fs') :: M1))) X) : ZW K (fun _ => e0) (tMake C (spO K C ar R) [] e0 tA) S M Q X := fun n σ G H Rl Qv k kx =>
  h n σ G H Rl _ (fun vs G1 H1 zs M1 e1 R1 a1 ⟨ds, o, fs', hd, hk, hR, q1, q2⟩ x dx hx hdx hne => by
    have R2 := R1.lay (p := dx) (o := .own x) hdx
    have hx2 : (upd H1 dx (.own x)) x = none := by rw [upd_ne (Ne.symm hne)]; exact hx
    have R3 := R2.lay (p := x) (o := .ins C dx []) hx2
    have gdx := ex_gnone R1.ex hdx
    have hown : (upd (upd H1 dx (.own x)) x (.ins C dx [])) dx = some (.own x) := by rw [upd_ne hne, upd_same]
    have hc : CD.at K G1 (upd (upd H1 dx (.own x)) x (.ins C dx [])) x (.obj C []) := ⟨dx, [], upd_same, hown, gdx, .nil⟩
    have R4 := R3.cell (R1.fresh hx) (R1.notin hx) (ex_gnone R1.ex hx) hc
    refine ⟨G1, x, [], vs, ds, o, fs', by rw [List.append_nil], hk, R4.ex, ex_gnone R1.ex hx, hc, zall_d (by rw [← hd]; exact a1), hR, fun d ho v G' H' e own hc' a => ?_, fun y ho cls dd G' H' e own hc' a => ?_⟩
    · obtain ⟨hd2, q⟩ := q1 d ho
      subst hd2
      exact ⟨dp_non a, k (.ref x) G' H' (.c x) _ (e1.trans e.g) (R4.call1 e .here own hc') rfl (q x)⟩
    · exact kx cls dd G' H' y S _ (e1.trans e.g) (R4.call1 e .here own hc') a (q2 y ho x)) kx

/-! ### texts with fields -/
def ZJ (K : Fg) (E : L2.St → XK) (ts : List TE) (acc : Str) (S : Zs) (M : Ms) (Q : Str → Ms → Prop) (X : XZ) : Prop := ∀ (n : Sn) (σ : L2.St) (G H : Hp), Rel K n S M σ G H → ∀ Qv : Str → Hp → Prop,
  (∀ o G' H' M', Ex G G' → Rel K n S M' σ G' H' → Q o M' → Qv o H') → XOk K (E σ) n σ G X → tJs ts acc σ H Qv
theorem zj_nil {acc : Str} {Q : Str → Ms → Prop} (q : Q acc M) : ZJ K E [] acc S M Q X := fun n σ G H R Qv k _ => k acc G H M (Ex.refl G) R q
theorem zj_cons {acc : Str} {ts : List TE} {Q : Str → Ms → Prop} (h : ZW K E te S M (fun z M1 => ∃ y, z = .d (.str y) ∧ (acc ++ y).length ≤ sizeLine ∧ ZJ K E ts (acc ++ y) S M1 Q X) X) : ZJ K E (te :: ts) acc S M Q X := fun n σ G H R Qv k kx =>
  h n σ G H R _ (fun v G1 H1 z M1 e1 R1 a1 ⟨y, hz, hl, q⟩ => by
    subst hz
    exact ⟨y, dp_str a1, hl, q n σ G1 H1 R1 Qv (fun o G2 H2 M2 e2 R2 q2 => k o G2 H2 M2 (e1.trans e2) R2 q2) (kx.mono e1)⟩) kx
theorem zw_js {ts : List TE} (h : ZJ K E ts Str.empty S M (fun o M1 => Q (.d (.str o)) M1) X) : ZW K E (fun σ H Q => tJs ts Str.empty σ H fun out H1 => Q (.str out) H1) S M Q X := fun n σ G H R Qv k kx =>
  h n σ G H R _ (fun o G1 H1 M1 e1 R1 q => k (.str o) G1 H1 (.d (.str o)) M1 e1 R1 (Dz.str _) q) kx
theorem zw_fmtS (h : ZW K E te S M (fun z M1 => ∃ y, z = .d (.str y) ∧ y.length ≤ sizeLine ∧ Q (.d (.str y)) M1) X) : ZW K E (tFmt te) S M Q X := fun n σ G H R Qv k kx =>
  h n σ G H R _ (fun v G1 H1 z M1 e1 R1 a1 ⟨y, hz, hl, q⟩ => by subst hz; exact .inl ⟨y, dp_str a1, hl, k (.str y) G1 H1 (.d (.str y)) M1 e1 R1 (Dz.str _) q⟩) kx
theorem zw_fmtI (h : ZW K E te S M (fun z M1 => ∃ i, z = .d (.int i) ∧ i.natAbs.log2 < 1920 ∧ Q (.d (.str (toString i))) M1) X) : ZW K E (tFmt te) S M Q X := fun n σ G H R Qv k kx =>
  h n σ G H R _ (fun v G1 H1 z M1 e1 R1 a1 ⟨i, hz, hl, q⟩ => by subst hz; exact .inr ⟨i, dp_int a1, hl, k (.str (toString i)) G1 H1 (.d (.str (toString i))) M1 e1 R1 (Dz.str _) q⟩) kx
/-- a < b <= c -/
theorem zw_chain {r r' : R2} (h : ZW K E ta S M (fun x M1 => ZW K E tb S M1 (fun y M2 => ZO K r x y M2 (fun z M3 => ∃ b, z = .d (.bool b) ∧ (b = false → Q (.d (.bool false)) M3) ∧ (b = true → ZW K E tc S M3 (fun w M4 => ZO K r' y w M4 Q) X))) X) X) : ZW K E (tChain r r' ta tb tc) S M Q X := fun n σ G H R Qv k kx =>
  h n σ G H R _ (fun v G1 H1 x M1 e1 R1 a1 h1 => h1 n σ G1 H1 R1 _ (fun u G2 H2 y M2 e2 R2 a2 h2 => h2 n S σ G2 H2 R2 v u (ZV.mono e2 a1) a2 _ (fun w G3 H3 z M3 e3 R3 a3 ⟨b, hz, q⟩ => by
    subst hz
    refine ⟨b, dp_bl a3, ?_⟩
    cases b with
    | true =>
      show tc σ H3 _
      exact q.2 rfl n σ G3 H3 R3 _ (fun w' G4 H4 z4 M4 e4 R4 a4 h4 => h4 n S σ G4 H4 R4 u w' (ZV.mono (e3.trans e4) a2) a4 Qv fun w5 G5 H5 z5 M5 e5 R5 a5 q5 => k w5 G5 H5 z5 M5 ((((e1.trans e2).trans e3).trans e4).trans e5) R5 a5 q5) (kx.mono ((e1.trans e2).trans e3))
    | false =>
      show Qv (.bl false) H3
      exact k (.bl false) G3 H3 (.d (.bool false)) M3 ((e1.trans e2).trans e3) R3 (Dz.bl false) (q.1 rfl))) (kx.mono e1)) kx
end
end Z
namespace Z
open PySem PySem.Spec PyProof.Rows L2
open Evl (Ex)
section
variable {X : Cx} {j k : Nat} {x : Str} {sp : Sp} {E : XK} {e o : Expr} {es : List Expr} {t : TA} {ta : TE} {p pos apos : Pos}
/-- a def of the module: what it promises, at level k -/
def Cal (P : Program) (w : World) (K : Fg) (mg : Str → Option Value) (base : Heap) (k : Nat) (x : Str) (sp : Sp) : Prop :=
  ∃ f fd ps, FnOk P w K mg base (L2.CX P w) k f fd ps sp ∧ mg x = some (.ref f) ∧ PySem.W.keepIn K (.ref f) = true ∧ Binds K fd ps []
theorem pe_cl (c : Cal X.prog X.w X.K X.mg X.base k x sp) (hr : Room j X.A) (hk : k ≤ j) (hx : Passes (L2.CX X.prog X.w) X E) (ha : PA X (e :: es) t) (hg : Gl X x := by rfl) (hdb : (x == ("__debug__" : Str)) = false := by decide)
    (he : starEach (e :: es) X.env = (false, eval e X.env) :: starEach es X.env := by rfl) (hpl : (backTo pos (starEach es X.env)).any (·.1) = false := by rfl) : PE X (.Call (.Name x p) (e :: es) [] pos) (tCall sp [] E t) := by
  obtain ⟨f, fd, ps, F, hm, hkp, hb⟩ := c
  exact pe_call F (hr.mono hk) hg hm hkp hb .nil hx ha hdb he hpl
theorem pe_clS {W : WX} (c : Cal X.prog X.w X.K X.mg X.base k x sp) (hr : Room j X.A) (hk : k ≤ j) (tk : Takes X W) (ha : PA X (e :: es) t) (hg : Gl X x := by rfl) (hdb : (x == ("__debug__" : Str)) = false := by decide)
    (he : starEach (e :: es) X.env = (false, eval e X.env) :: starEach es X.env := by rfl) (hpl : (backTo pos (starEach es X.env)).any (·.1) = false := by rfl) : PE X (.Call (.Name x p) (e :: es) [] pos) (tCallS sp (WE W) t) := by
  obtain ⟨f, fd, ps, F, hm, hkp, hb⟩ := c
  exact pe_callS F (hr.mono hk) hg hm hkp hb (fun σ => passAt tk σ) ha hdb he hpl
/-- a method of an own class -/
def Mtd (P : Program) (w : World) (K : Fg) (mg : Str → Option Value) (base : Heap) (k : Nat) (C : Addr) (m : Str) (sp : Sp) : Prop :=
  ∃ f fd ps, FnOk P w K mg base (L2.CX P w) k f fd ps sp ∧ Meth K C m f ∧ Binds K fd ps []
def Mkr (P : Program) (w : World) (K : Fg) (mg : Str → Option Value) (base : Heap) (k : Nat) (x : Str) (C : Addr) (sp : Sp) : Prop :=
  ∃ f fd ps, FnOk P w K mg base (L2.CX P w) k f fd ps sp ∧ Mk K C f ∧ mg x = some (.ref C) ∧ Binds K fd ps []
theorem pe_mkr {C : Addr} (c : Mkr X.prog X.w X.K X.mg X.base k x C sp) (hr : Room (j + 1) X.A) (hk : k ≤ j) (hx : Passes (L2.CX X.prog X.w) X E) (ha : PA X (e :: es) t) (hg : Gl X x := by rfl)
    (he : starEach (e :: es) X.env = (false, eval e X.env) :: starEach es X.env := by rfl) (hpl : (backTo pos (starEach es X.env)).any (·.1) = false := by rfl) (hdb : (x == ("__debug__" : Str)) = false := by decide) : PE X (.Call (.Name x p) (e :: es) [] pos) (tMake C sp [] E t) := by
  obtain ⟨f, fd, ps, F, M, hm, hb⟩ := c
  exact pe_make M F (hr.mono (by omega)) hg hm hb .nil hx ha hdb he hpl
end
/-! ### an operator on several kinds -/
section
variable {K : Fg} {r r' : R2} {x y : ZV} {M : Ms} {Q : QZ}
theorem zo_l (h : ZO K r x y M Q) : ZO K (fun x y H Q => r x y H Q ∨ r' x y H Q) x y M Q := fun n S σ G H R v u a b Qv k => .inl (h n S σ G H R v u a b Qv k)
theorem zo_r (h : ZO K r' x y M Q) : ZO K (fun x y H Q => r x y H Q ∨ r' x y H Q) x y M Q := fun n S σ G H R v u a b Qv k => .inr (h n S σ G H R v u a b Qv k)
end
abbrev rAddA (K : Fg) : R2 := fun x y H Q => rI0 (fun i j => .int (i + j)) x y H Q ∨ (rAddS1 x y H Q ∨ (rCatA K x y H Q ∨ rCat x y H Q))
theorem op_addA {X : Cx} : OpR X (binaryOp .Add) (rAddA X.K) := op_add.or (op_add_str.or (op_catA.or op_cat))
section
variable {K : Fg} {M : Ms} {Q : QZ}
theorem za_i {i j : Int} (q : Q (.d (.int (i + j))) M) : ZO K (rAddA K) (.d (.int i)) (.d (.int j)) M Q := zo_l (zo_add q)
theorem za_s {i j : Str} (hl : i.length + j.length ≤ sizeLine) (q : Q (.d (.str (i ++ j))) M) : ZO K (rAddA K) (.d (.str i)) (.d (.str j)) M Q := zo_r (zo_l (zo_addS hl q))
theorem za_t {xs ys : List PyData} (hl : xs.length + ys.length ≤ sizeLine) (q : Q (.d (.tuple (xs ++ ys))) M) : ZO K (rAddA K) (.d (.tuple xs)) (.d (.tuple ys)) M Q := zo_r (zo_r (zo_l (zo_catT hl q)))
theorem za_l {p p2 : Addr} {b b2 : Bool} {xs ys : List PyData} (hm : (p, b, CD.lst xs) ∈ M) (hm2 : (p2, b2, CD.lst ys) ∈ M) (hl : xs.length + ys.length ≤ sizeLine) (q : ∀ r, Q (.c r) ((r, true, .lst (xs ++ ys)) :: M)) : ZO K (rAddA K) (.c p) (.c p2) M Q := zo_r (zo_r (zo_r (zo_catL hm hm2 hl q)))
end
section
variable {K : Fg} {M : Ms} {Q : QZ}
theorem zo_fdivW {i j : Int} (hc : CDivW i j) (q : Q (.d (.int (i / j))) M) : ZO K (rI CDivW fun i j => .int (i / j)) (.d (.int i)) (.d (.int j)) M Q := zo_I (gd := fun i j => .int (i / j)) (fun _ => .int _) hc q
theorem zo_mulW {i j : Int} (hc : CMulW i j) (q : Q (.d (.int (i * j))) M) : ZO K (rI CMulW fun i j => .int (i * j)) (.d (.int i)) (.d (.int j)) M Q := zo_I (gd := fun i j => .int (i * j)) (fun _ => .int _) hc q
end
/-! ### built-in names as values -/
theorem bt_tuple : bootBuiltins "tuple" = some (.type "tuple") := by decide +kernel
theorem bt_list : bootBuiltins "list" = some (.type "list") := by decide +kernel
theorem bt_str : bootBuiltins "str" = some (.type "str") := by decide +kernel
theorem bt_int : bootBuiltins "int" = some (.type "int") := by decide +kernel
theorem bt_bool : bootBuiltins "bool" = some (.type "bool") := by decide +kernel
theorem bt_dict : bootBuiltins "dict" = some (.type "dict") := by decide +kernel
theorem bt_set : bootBuiltins "set" = some (.type "set") := by decide +kernel
theorem bb_len : bootBuiltins "len" = some (.builtin "len") := by decide +kernel
theorem bb_isinstance : bootBuiltins "isinstance" = some (.builtin "isinstance") := by decide +kernel
theorem bb_min : bootBuiltins "min" = some (.builtin "min") := by decide +kernel
theorem bb_max : bootBuiltins "max" = some (.builtin "max") := by decide +kernel
theorem bb_sorted : bootBuiltins "sorted" = some (.builtin "sorted") := by decide +kernel
theorem bb_abs : bootBuiltins "abs" = some (.builtin "abs") := by decide +kernel
theorem bb_any : bootBuiltins "any" = some (.builtin "any") := by decide +kernel
theorem bb_all : bootBuiltins "all" = some (.builtin "all") := by decide +kernel
theorem bb_sum : bootBuiltins "sum" = some (.builtin "sum") := by decide +kernel
end Z
namespace Z
open PySem PySem.Spec PyProof.Rows L2
open Evl (Ex)
section
variable {K : Fg} {E : L2.St → XK} {S : Zs} {M : Ms}
theorem zs_raiseO {C : Addr} {P : ZP} (h : P.ex ⟨C, []⟩ S M) : ZS K E (fun _ σ H => E σ (.ref C) none H) S M P := fun n σ G H R D k => k.ex (.ref C) none σ G H ⟨C, []⟩ S M (Ex.refl G) R ⟨rfl, rfl⟩ h
end
/-- what an own error class without own __init__ must have to be raised with a text -/
structure Rsr (K : Fg) (mg : Str → Option Value) (x : Str) (C : Addr) : Prop where
  xi : PySem.W.excIn K C [Value.type "ValueError", Value.type "Exception", Value.type "BaseException", Value.type "object"] "ValueError.__new__" = true
  g : mg x = some (.ref C)
  k : PySem.W.keepIn K (.ref C) = true
  ex : PySem.W.subIn K (.ref C) (.type "BaseException") = some true
  ty : PySem.W.typeIn K (.ref C) = some (.type "type")
section
variable {K : Fg} {E : L2.St → XK} {e0 : XK} {te ta : TE} {tA : TA} {S : Zs} {M : Ms} {Q : QZ} {X : XZ}
/-- f(o, ..), f a def whose first argument is an own object of the class C -/
theorem zw_callO {ar : Nat} {C : Addr} {R : List (Str × ZV) → List PyData → DOut → List (Str × ZV) → Prop} (h : ZA K (fun _ => e0) tA S M (fun zs M1 => ∃ p b fs zs' ds o fs' M2, zs = .c p :: zs' ∧ AllD zs' ds ∧ ds.length = ar ∧ R fs ds o fs' ∧ Upd1 p b (.obj C fs) (.obj C fs') M1 M2 ∧ (∀ d, o = .ok d → Q (.d d) M2) ∧ (∀ x, o = .ex x → X x S M2)) X) :
    ZW K (fun _ => e0) (tCall (spO K C ar R) [] e0 tA) S M Q X := fun n σ G H Rl Qv k kx =>
  h n σ G H Rl _ (fun vs G1 H1 zs M1 e1 R1 a1 ⟨p, b, fs, zs', ds, o, fs', M2, hz, hd, hk, hR, hu, q1, q2⟩ => by
    subst hz
    cases a1 with
    | cons a1 a2 =>
      have ev := a1
      obtain ⟨hp, hc⟩ := R1.ce p b _ hu.mem
      subst ev
      exact ⟨G1, p, fs, _, ds, o, fs', by rw [List.append_nil], hk, R1.ex, hp, hc, zall_d (by rw [← hd]; exact a2), hR, fun d ho v G' H' e own hc' a => k v G' H' (.d d) M2 (e1.trans e.g) (R1.call1 e hu own hc') a (q1 d ho), fun x ho cls dd G' H' e own hc' a => kx cls dd G' H' x S M2 (e1.trans e.g) (R1.call1 e hu own hc') a (q2 x ho)⟩) kx
theorem flat_strs (al : List Str) : ((al.map PyData.str).map vOf).all flatV = true ∧ (al.map PyData.str).all flatD = true := by
  constructor <;> (induction al with
  | nil => rfl
  | cons a l ih => simpa [vOf, flatV, flatD] using ih)
theorem inV_strs (w : Str) (al : List Str) : inV (vOf (.str w)) ((al.map PyData.str).map vOf) = decide (w ∈ al) := by
  induction al with
  | nil => rfl
  | cons a l ih =>
    have e : inV (vOf (.str w)) (((a :: l).map PyData.str).map vOf) = (eqV (.str a) (.str w) || inV (vOf (.str w)) ((l.map PyData.str).map vOf)) := rfl
    rw [e, ih]
    have e2 : eqV (.str a) (.str w) = decide (w = a) := by
      show (a == w) = decide (w = a)
      by_cases h : w = a
      · subst h; simp
      · simp [h, Ne.symm h]
    rw [e2]
    simp
theorem zo_inTS {M : Ms} {Q : QZ} {neg : Bool} {w : Str} {al : List Str} (q : Q (.d (.bool (if neg then !decide (w ∈ al) else decide (w ∈ al)))) M) : ZO K (rIn K neg) (.d (.str w)) (.d (.tuple (al.map .str))) M Q :=
  zo_inT ⟨rfl, rfl⟩ (flat_strs al) (by rw [inV_strs]; exact q)
theorem zo_inLS {M : Ms} {Q : QZ} {neg : Bool} {w : Str} {al : List Str} (q : Q (.d (.bool (if neg then !decide (w ∈ al) else decide (w ∈ al)))) M) : ZO K (rIn K neg) (.d (.str w)) (.d (.list (al.map .str))) M Q :=
  zo_inL ⟨rfl, rfl⟩ (flat_strs al) (by rw [inV_strs]; exact q)
abbrev rEqA (K : Fg) : R2 := fun x y H Q => rEq x y H Q ∨ rEqD K x y H Q
abbrev rNeA (K : Fg) : R2 := fun x y H Q => rNe x y H Q ∨ rNeD K x y H Q
theorem op_eqA {X : Cx} (hu : X.A.units + 64 < cLine) : OpR X (compareOp .Eq) (rEqA X.K) := op_eq.or (op_eqD hu)
theorem op_neA {X : Cx} (hu : X.A.units + 64 < cLine) : OpR X (compareOp .NotEq) (rNeA X.K) := op_ne.or (op_neD hu)
theorem zo_eqV {M : Ms} {Q : QZ} {x y : PyData} (hx : flatD x = true) (hy : flatD y = true) (hs : scal (vOf x) (vOf y) = true) {c : Bool} (hc : c = decide (vOf x = vOf y)) (q : Q (.d (.bool c)) M) : ZO K rEq (.d x) (.d y) M Q :=
  zo_val (z := .d (.bool c)) (fun G H v u e a b => by
    have ev := dp_flat a hx
    have eu := dp_flat b hy
    subst ev eu
    exact ⟨_, .bl _, fun Qv h => ⟨hs, by rw [← hc]; exact h⟩⟩) q
theorem zo_neV {M : Ms} {Q : QZ} {x y : PyData} (hx : flatD x = true) (hy : flatD y = true) (hs : scal (vOf x) (vOf y) = true) {c : Bool} (hc : c = !decide (vOf x = vOf y)) (q : Q (.d (.bool c)) M) : ZO K rNe (.d x) (.d y) M Q :=
  zo_val (z := .d (.bool c)) (fun G H v u e a b => by
    have ev := dp_flat a hx
    have eu := dp_flat b hy
    subst ev eu
    exact ⟨_, .bl _, fun Qv h => ⟨hs, by rw [← hc]; exact h⟩⟩) q
theorem vint_eq (a b : Int) : decide (a = b) = decide (vOf (.int a) = vOf (.int b)) := by
  simp [vOf]
theorem vstr_eq (a b : Str) : decide (a = b) = decide (vOf (.str a) = vOf (.str b)) := by
  simp [vOf]
theorem zo_eqI {M : Ms} {Q : QZ} {a b : Int} (q : Q (.d (.bool (decide (a = b)))) M) : ZO K (rEqA K) (.d (.int a)) (.d (.int b)) M Q := zo_l (zo_eqV rfl rfl rfl (vint_eq a b) q)
theorem zo_eqS {M : Ms} {Q : QZ} {a b : Str} (q : Q (.d (.bool (decide (a = b)))) M) : ZO K (rEqA K) (.d (.str a)) (.d (.str b)) M Q := zo_l (zo_eqV rfl rfl rfl (vstr_eq a b) q)
theorem zo_neI {M : Ms} {Q : QZ} {a b : Int} (q : Q (.d (.bool (!decide (a = b)))) M) : ZO K (rNeA K) (.d (.int a)) (.d (.int b)) M Q := zo_l (zo_neV rfl rfl rfl (by rw [vint_eq]) q)
theorem zo_neS {M : Ms} {Q : QZ} {a b : Str} (q : Q (.d (.bool (!decide (a = b)))) M) : ZO K (rNeA K) (.d (.str a)) (.d (.str b)) M Q := zo_l (zo_neV rfl rfl rfl (by rw [vstr_eq]) q)
theorem zo_eqDD {M : Ms} {Q : QZ} {x y : PyData} (hx : SeqAt.shaped x = true) (hy : SeqAt.shaped y = true) (q : Q (.d (.bool (PyData.eqv x y))) M) : ZO K (rEqA K) (.d x) (.d y) M Q := zo_r (zo_eq hx hy q)
theorem zo_neDD {M : Ms} {Q : QZ} {x y : PyData} (hx : SeqAt.shaped x = true) (hy : SeqAt.shaped y = true) (q : Q (.d (.bool (!PyData.eqv x y))) M) : ZO K (rNeA K) (.d x) (.d y) M Q := zo_r (zo_ne hx hy q)
theorem dLen_str {s : Str} (h : s.length ≤ sizeLine) : dLen (.str s) = some s.length := if_pos h
theorem dLen_strs (ws : List Str) : dLen (.list (ws.map .str)) = some ws.length := by show some _ = _; rw [List.length_map]
theorem atI_str {ws : List Str} {k : Nat} {w : Str} (h : ws[k]? = some w) : atI (ws.map PyData.str) (k : Nat) = some (.str w) := atI_nat (by rw [List.getElem?_map, h]; rfl)
/-- a constant of the module: data that the classes' part holds -/
theorem zw_con {v : V} {d : PyData} (hd : ∀ G, Dz K G v d) (q : Q (.d d) M) : ZW K E (tC v) S M Q X := fun n σ G H R Qv k kx => k v G H (.d d) M (Ex.refl G) R (hd G) q
theorem zw_make0 {ar : Nat} {C : Addr} {R : List (Str × ZV) → List PyData → DOut → List (Str × ZV) → Prop} (h : ZA K E tA S M (fun zs M1 => ∃ ds fs', AllD zs ds ∧ ds.length = ar ∧ R [] ds (.ok .none) fs' ∧ ∀ p, Q (.c p) ((p, true, .obj C fs') :: M1)) X) : ZW K E (tMake C (spO K C ar R) [] E0 tA) S M Q X := fun n σ G H Rl Qv k kx =>
  h n σ G H Rl _ (fun vs G1 H1 zs M1 e1 R1 a1 ⟨ds, fs', hd, hk, hR, q1⟩ x dx hx hdx hne => by
    have R2 := R1.lay (p := dx) (o := .own x) hdx
    have hx2 : (upd H1 dx (.own x)) x = none := by rw [upd_ne (Ne.symm hne)]; exact hx
    have R3 := R2.lay (p := x) (o := .ins C dx []) hx2
    have gdx := ex_gnone R1.ex hdx
    have hown : (upd (upd H1 dx (.own x)) x (.ins C dx [])) dx = some (.own x) := by rw [upd_ne hne, upd_same]
    have hc : CD.at K G1 (upd (upd H1 dx (.own x)) x (.ins C dx [])) x (.obj C []) := ⟨dx, [], upd_same, hown, gdx, .nil⟩
    have R4 := R3.cell (R1.fresh hx) (R1.notin hx) (ex_gnone R1.ex hx) hc
    refine ⟨G1, x, [], vs, ds, .ok .none, fs', by rw [List.append_nil], hk, R4.ex, ex_gnone R1.ex hx, hc, zall_d (by rw [← hd]; exact a1), hR, fun d ho v G' H' e own hc' a => ?_, fun y ho => nomatch ho⟩
    have ho := DOut.ok.inj ho
    subst ho
    exact ⟨dp_non a, k (.ref x) G' H' (.c x) _ (e1.trans e.g) (R4.call1 e .here own hc') rfl (q1 x)⟩) kx
theorem zw_methO0 {ar : Nat} {C : Addr} {m : Str} {R : List (Str × ZV) → List PyData → DOut → List (Str × ZV) → Prop} (h : ZW K E te S M (fun z M0 => ∃ p, z = .c p ∧ (∃ b fs0, (p, b, CD.obj C fs0) ∈ M0 ∧ fs0.lookup m = none) ∧ ZA K E tA S M0 (fun zs M1 => ∃ b fs ds d fs' M2, AllD zs ds ∧ ds.length = ar ∧ R fs ds (.ok d) fs' ∧ Upd1 p b (.obj C fs) (.obj C fs') M1 M2 ∧ Q (.d d) M2) X) X) :
    ZW K E (tMeth C m (spO K C ar R) [] E0 te tA) S M Q X := fun n σ G H Rl Qv k kx =>
  h n σ G H Rl _ (fun v G0 H0 z M0 e0' R0 a0 ⟨p, hz, ⟨b0, fs0, hm0, hl0⟩, h2⟩ => by
    subst hz
    have ev : v = .ref p := a0
    subst ev
    obtain ⟨_, dx, fv, h3, h4, h5, h6⟩ := R0.ce p b0 _ hm0
    refine ⟨p, dx, fv, rfl, h3, (lookup_paired h6 m).1 hl0, h2 n σ G0 H0 R0 _ (fun vs G1 H1 zs M1 e1 R1 a1 ⟨b, fs, ds, d, fs', M2, hd, hk, hR, hu, q1⟩ => ?_) (kx.mono e0')⟩
    obtain ⟨hp, hc⟩ := R1.ce p b _ hu.mem
    refine ⟨G1, p, fs, _, ds, .ok d, fs', by rw [List.append_nil], hk, R1.ex, hp, hc, zall_d (by rw [← hd]; exact a1), hR, fun d' ho v G' H' e own hc' a => ?_, fun x ho => nomatch ho⟩
    have ho := DOut.ok.inj ho
    subst ho
    exact k v G' H' (.d d) M2 ((e0'.trans e1).trans e.g) (R1.call1 e hu own hc') a q1) kx
theorem zw_callO0 {ar : Nat} {C : Addr} {R : List (Str × ZV) → List PyData → DOut → List (Str × ZV) → Prop} (h : ZA K E tA S M (fun zs M1 => ∃ p b fs zs' ds d fs' M2, zs = .c p :: zs' ∧ AllD zs' ds ∧ ds.length = ar ∧ R fs ds (.ok d) fs' ∧ Upd1 p b (.obj C fs) (.obj C fs') M1 M2 ∧ Q (.d d) M2) X) :
    ZW K E (tCall (spO K C ar R) [] E0 tA) S M Q X := fun n σ G H Rl Qv k kx =>
  h n σ G H Rl _ (fun vs G1 H1 zs M1 e1 R1 a1 ⟨p, b, fs, zs', ds, d, fs', M2, hz, hd, hk, hR, hu, q1⟩ => by
    subst hz
    cases a1 with
    | cons a1 a2 =>
      have ev := a1
      obtain ⟨hp, hc⟩ := R1.ce p b _ hu.mem
      subst ev
      refine ⟨G1, p, fs, _, ds, .ok d, fs', by rw [List.append_nil], hk, R1.ex, hp, hc, zall_d (by rw [← hd]; exact a2), hR, fun d' ho v G' H' e own hc' a => ?_, fun x ho => nomatch ho⟩
      have ho := DOut.ok.inj ho
      subst ho
      exact k v G' H' (.d d) M2 (e1.trans e.g) (R1.call1 e hu own hc') a q1) kx
theorem canLay_ints : ∀ l : List Int, PyData.canLayAll0 (l.map PyData.int) = true
  | [] => rfl
  | _ :: r => by simp [PyData.canLayAll0, PyData.canLay0, canLay_ints r]
theorem depth_ints : ∀ l : List Int, PyData.depthAll (l.map PyData.int) = 0
  | [] => rfl
  | _ :: r => by simp [PyData.depthAll, PyData.depth, depth_ints r]
theorem shp_ints (l : List Int) : SeqAt.shaped (.tuple (l.map .int)) = true := by
  simp [SeqAt.shaped, PyData.canLay0, PyData.depth, canLay_ints, depth_ints]
theorem eqv_nilT (l : List Int) : PyData.eqv (.tuple (l.map .int)) (.tuple []) = l.isEmpty := by cases l <;> rfl
theorem vbl_eq (a b : Bool) : (a == b) = decide (vOf (.bool a) = vOf (.bool b)) := by
  cases a <;> cases b <;> rfl
theorem zo_eqB {M : Ms} {Q : QZ} {a b : Bool} (q : Q (.d (.bool (a == b))) M) : ZO K (rEqA K) (.d (.bool a)) (.d (.bool b)) M Q := zo_l (zo_eqV rfl rfl rfl (vbl_eq a b) q)
theorem zo_neB {M : Ms} {Q : QZ} {a b : Bool} (q : Q (.d (.bool (!(a == b)))) M) : ZO K (rNeA K) (.d (.bool a)) (.d (.bool b)) M Q := zo_l (zo_neV rfl rfl rfl (by rw [vbl_eq]) q)
def dNone : PyData → Bool
  | .none => true
  | _ => false
theorem dp_isN {G : Hp} {v : V} {x : PyData} (h : Dz K G v x) : decide (v = V.non) = dNone x := by
  cases h <;> simp [dNone]
theorem zo_isN {M : Ms} {Q : QZ} {x : PyData} (q : Q (.d (.bool (dNone x))) M) : ZO K (fun x y H Q => y = V.non ∧ Q (.bl (decide (x = V.non))) H) (.d x) (.d .none) M Q := fun n S σ G H R v u a b Qv k =>
  ⟨dp_non b, by rw [dp_isN a]; exact k (.bl (dNone x)) G H (.d (.bool (dNone x))) M (Ex.refl G) R (Dz.bl _) q⟩
theorem zo_notN {M : Ms} {Q : QZ} {x : PyData} (q : Q (.d (.bool (!dNone x))) M) : ZO K (fun x y H Q => y = V.non ∧ Q (.bl (!decide (x = V.non))) H) (.d x) (.d .none) M Q := fun n S σ G H R v u a b Qv k =>
  ⟨dp_non b, by rw [dp_isN a]; exact k (.bl (!dNone x)) G H (.d (.bool (!dNone x))) M (Ex.refl G) R (Dz.bl _) q⟩
theorem zw_mono {Q' : QZ} (h : ZW K E te S M Q' X) (hi : ∀ z M', Q' z M' → Q z M') : ZW K E te S M Q X := fun n σ G H R Qv k kx => h n σ G H R Qv (fun v G' H' z M' e R' a q => k v G' H' z M' e R' a (hi z M' q)) kx
theorem zs_par3 {i j l : Nat} {P : ZP} (h : ZA K E tA S M (fun zs M1 => ∃ z w y, zs = [z, w, y] ∧ P.nx (((S.set i (some z)).set j (some w)).set l (some y)) M1) P.ex) : ZS K E (tPar3 i j l tA) S M P := fun n σ G H R D k =>
  h n σ G H R _ (fun vs G1 H1 zs M1 e1 R1 a1 ⟨z, w, y, hz, q⟩ => by
    subst hz
    cases a1 with
    | cons a b => cases b with | cons b c => cases c with | cons c d => cases d; exact ⟨_, _, _, rfl, k.nx _ G1 H1 _ M1 e1 (((R1.set a).set b).set c) q⟩) k.xok
theorem zc_min2 {M : Ms} {Q : QZ} {i j : Int} (q : Q (.d (.int (if j < i then j else i))) M) : ZC K (fun xs H Q => ∃ i j, xs = [.int i, .int j] ∧ Q (.int (if j < i then j else i)) H) [.d (.int i), .d (.int j)] M Q :=
  zc_val (z := .d (.int (if j < i then j else i))) (fun G H vs e a => by
    obtain ⟨v, u, rfl, av, au⟩ := zall2 a
    exact ⟨.int _, Dz.int _, fun Qv hq => ⟨i, j, by rw [dp_int av, dp_int au], hq⟩⟩) q
theorem zc_max2 {M : Ms} {Q : QZ} {i j : Int} (q : Q (.d (.int (if j > i then j else i))) M) : ZC K (fun xs H Q => ∃ i j, xs = [.int i, .int j] ∧ Q (.int (if j > i then j else i)) H) [.d (.int i), .d (.int j)] M Q :=
  zc_val (z := .d (.int (if j > i then j else i))) (fun G H vs e a => by
    obtain ⟨v, u, rfl, av, au⟩ := zall2 a
    exact ⟨.int _, Dz.int _, fun Qv hq => ⟨i, j, by rw [dp_int av, dp_int au], hq⟩⟩) q
/-- a statement's own end, ahead of what follows -/
theorem zs_nx {t : TS} {P : ZP} {N : Zs → Ms → Prop} (h : ZS K E t S M { P with nx := N }) (hi : ∀ S' M', N S' M' → P.nx S' M') : ZS K E t S M P := fun n σ G H R D k =>
  h n σ G H R D ⟨fun σ' G' H' S' M' e R' q => k.nx σ' G' H' S' M' e R' (hi S' M' q), k.rt, k.bk, k.ct, k.ex⟩
theorem dSl_str {s : Str} {lo hi : Option Int} (h : s.length ≤ sizeLine) : dSl (.str s) lo hi = some (.str (Txt.slice s lo hi)) := if_pos h
def tTry (K : Fg) (tb : WX → TS) (c : Value) (i : Nat) (ts : Addr → Value → Option Addr → TS) (Wout : WX) : TS := fun D σ H => tb (wAs K c i ts Wout D) D σ H
theorem zs_tryZ {tb : WX → TS} {c : Value} {i : Nat} {ts : Addr → Value → Option Addr → TS} {Wout : WX} {P : ZP}
    (h : ∀ W : WX, ZS K (fun σ cls d H => W cls d σ H) (tb W) S M { P with ex := fun x S' M' => PySem.W.exmOne K (.ref x.cls) c = some true ∧ ∀ a d, ZS K E (ts a (.ref x.cls) d) (S'.set i (some (.e a (.ref x.cls) d x))) M' (SuiteP P i) }) :
    ZS K E (tTry K tb c i ts Wout) S M P := zs_try h
end
end Z
/-! raise C(e), C an own exception class over ValueError whose __init__ says super().__init__(f'text{f}') and self.f = f -/
namespace PySem
namespace SupX
open PySem.W PySem.Calls PyProof.Rows PySem.HandSPX
def sA (f : Str) (p1 p2 : Pos) : Arguments := { posonlyargs := [], args := [{ arg := "self", annotation := none, pos := p1 }, { arg := f, annotation := none, pos := p2 }], vararg := none, kwonlyargs := [], kw_defaults := [], kwarg := none, defaults := [] }
structure Ps where
  (a b c d e g h i k l m n o : Pos)
def sE (f pre : Str) (j : Nat) (q : Ps) : Expr := .JoinedStr [.Constant (.str pre) j q.a, .FormattedValue (.Name f q.b) (-1) none q.c] q.d
def sB (f pre : Str) (j : Nat) (q : Ps) : List Stmt :=
  [.Expr (.Call (.Attribute (.Call (.Name "super" q.e) [] [] q.g) "__init__" q.h) [sE f pre j q] [] q.i) q.k, .Assign [.Attribute (.Name "self" q.l) f q.m] (.Name f q.n) q.o]
def sS (f : Str) : Scope := { kind := .function, names := [("self", .local), (f, .local), ("__class__", .free), ("super", .globalImplicit)], isGenerator := false, isCoroutine := false, more := [] }
/-- the field's name is none of the others -/
structure Nm (f : Str) : Prop where
  sup : (sS f).names.lookup ("super" : Str) = some .globalImplicit
  cls : (sS f).names.lookup ("__class__" : Str) = some .free
  self : (sS f).names.lookup ("self" : Str) = some .local
  fld : (sS f).names.lookup f = some .local
  bs : ∀ u v : Value, ([("self", u), (f, v)] : List (Str × Value)).reverse.lookup ("self" : Str) = some u
  bf : ∀ u v : Value, ([("self", u), (f, v)] : List (Str × Value)).reverse.lookup f = some v
  dbg : (f == ("__debug__" : Str)) = false
  cell : ∀ x ∈ (sS f).names, x.2 ≠ .cell
  bind : ∀ (qn pre : Str) (j : Nat) (q : Ps) (p1 p2 : Pos) (doc pm : Value) (an : Option Addr) (cd ct : Value) (cc : Addr) (u v : Value), bindArgs (ksFn "__init__" qn (sA f p1 p2) (sB f pre j q) (sS f) .none .none doc pm an cd ct cc) ⟨[u, v], []⟩ = pure [(("self" : Str), u), (f, v)]
/-- how the call of super().__init__ is evaluated (by rfl where the places are written) -/
def EvOk (f pre : Str) (j : Nat) (q : Ps) : Prop := ∃ pl : Sem Bool, ∀ env : Env, eval (.Call (.Attribute (.Call (.Name "super" q.e) [] [] q.g) "__init__" q.h) [sE f pre j q] [] q.i) env = (do
  let ov ← attributeBase (.Call (.Name "super" q.e) [] [] q.g) "__init__" env (eval (.Call (.Name "super" q.e) [] [] q.g) env)
  standAt q.h.atName
  let (fn, first) ← holding [ov] (getMethod ov "__init__" pl)
  callWith q.i fn first (backTo q.i (starEach [sE f pre j q] env)) [])
structure SupTxt (prog : Program) (K : Frag) (mg : Str → Option Value) (x qn f pre : Str) (C fI : Addr) : Prop where
  nm : Nm f
  gC : mg x = some (.ref C)
  cls : ∃ nm q N bs bm sn sub ab col dd k0 k1 k2 k3 k5, K.lookup C = some (excClassObj nm q C N bs bm true sn sub ab col dd k0 k1 k2 k3 k5 "ValueError.__new__") ∧ refsVE bm = true
  q : excInitIn K C [.type "ValueError", .type "Exception", .type "BaseException", .type "object"] "ValueError.__new__" = true
  sa : findIn K (.ref C) "__setattr__" = some (some (.builtin "object.__setattr__"))
  noN : findIn K (.ref C) f = some none
  iC : findIn K (.ref C) "__init__" = some (some (.ref fI))
  tC : typeIn K (.ref fI) = some (.type "function")
  kC : keepIn K (.ref C) = true
  exC : subIn K (.ref C) (.type "BaseException") = some true
  veC : subIn K (.ref C) (.type "ValueError") = some true
  tyC : typeIn K (.ref C) = some (.type "type")
  hdC : hasDictIn K C = true
  ms : mroIn K C (.ref C) = some true
  si : ks_superIn K C C "__init__" = some (some (.builtin "ValueError.__init__"))
  op : nsIn K cStatics "thirdparty.any" = some none
  su : nsIn K mainGlobals "super" = some none
  fn : ∃ (oc : Value) (od : Option Addr) (doc pm : Value) (an : Option Addr) (cda cc : Addr) (ct : Value) (osl : Array (Option Value)) (p1 p2 : Pos) (j : Nat) (ps : Ps),
    K.lookup fI = some ⟨oc, od, .func (ksFn "__init__" qn (sA f p1 p2) (sB f pre j ps) (sS f) .none .none doc pm an (.ref cda) ct cc), osl⟩ ∧ codeIn K (.ref cda) qn = true ∧
    (∃ ccl cdd vs ccs file tf, K.lookup cda = some ⟨ccl, cdd, .fields vs, ccs⟩ ∧ vs[2]? = some (.str file tf) ∧ ((prog.main.file : Str) == file) = true) ∧ (∃ cl cld csl, K.lookup cc = some ⟨cl, cld, .cell (some (.ref C)), csl⟩) ∧ EvOk f pre j ps
  top : (prog.main.scope.names.lookup ("super" : Str)).isSome = false
  pz : pre.length ≤ 1000
/-- what the text's field may be -/
def Fld (v : Value) : Prop := v = .none ∨ ∃ i t, v = .int i t ∧ i.natAbs.log2 < 1920
structure InitEnd (h h' : Heap) (x C dx : Addr) (f : Str) (v : Value) : Prop where
  keep : ∀ b o, b ≠ x → h.get? b = some o → h'.get? b = some o
  obj : ∃ t1 : Addr, h'.get? x = some { cls := .ref C, dict := some dx, data := .fields #[.ref t1, .none, .none, .none, .bool false, .none] }
  dbig : h.objs.size ≤ dx
  dne : dx ≠ x
  ns : h'.Ns1 dx (fun y => if y = f then some v else none)
section
variable {prog : Program} {w : World} {A : Around} {E : Value → Shared → Prop} {R : Result → Shared → Prop} {s : Shared} {K : Frag} {mg : Str → Option Value} {x qn f pre : Str} {C fI : Addr}
/-- the text, by an environment that knows the field -/
theorem sup_text {env : Env} {j : Nat} {q : Ps} {m : Str → Option Value} {v : Value} {Q : Value → Shared → Prop} (hn : s.heap.Ns env.locals m) (hk : env.scope.kind = .function) (hl : env.kindOf f = some .local) (hd : (f == ("__debug__" : Str)) = false) (hv : m f = some v) (hf : Fld v) (hp : pre.length ≤ 1000)
    (h : ∀ z tk tk', Q (.str z tk) { s with toks := tk' }) : wpAny (model prog w) A (eval (sE f pre j q) env) Q E s := by
  unfold sE
  refine wpAny_JoinedStr ?_
  have e0 : evalEach [Expr.Constant (.str pre) j q.a, .FormattedValue (.Name f q.b) (-1) none q.c] env = [eval (Expr.Constant (.str pre) j q.a) env, eval (.FormattedValue (.Name f q.b) (-1) none q.c) env] := by simp [evalEach]
  rw [e0]
  have h1000 : (1000 : Nat) ≤ sizeLine := by rw [sizeLine_eq]; decide
  have hl0 : (Str.empty ++ pre).length ≤ 1000 := by
    rw [Str.length_append]
    show 0 + pre.length ≤ 1000
    omega
  refine Calls.Constant_str ⟨pre, _, rfl, Nat.le_trans hl0 h1000, ?_⟩
  refine wpAny_FormattedValue_plain (wpAny_Name (wpAny_loadName_local hk hl hn hv ?_) hd)
  rcases hf with rfl | ⟨i, t, rfl, hi⟩
  · have hz : (Str.empty ++ pre ++ ("None" : Str)).length ≤ sizeLine := by
      rw [Str.length_append, sizeLine_eq]
      have e4 : ("None" : Str).length = 4 := by decide +kernel
      omega
    exact wpAny_formatField_none ⟨"None", _, rfl, hz, hz, h _ _ _⟩
  · have hz : (Str.empty ++ pre ++ (Str.ofString (toString i))).length ≤ sizeLine := by
      rw [Str.length_append, sizeLine_eq, ofString_length]
      have e4 := int_text_length_le (k := 1920) (by decide) hi
      omega
    exact wpAny_formatField_int hi ⟨toString i, _, rfl, hz, hz, h _ _ _⟩
/-- the bound __init__ of ValueError called -/
theorem call_mw {u e t0 : Addr} {rest : List Value} {hp : Heap} {g : Array GenState} {d : Drawn} {t : Nat} {os : OsState} {Q : Value → Shared → Prop} (X : K.In hp) (q : excInitIn K C [.type "ValueError", .type "Exception", .type "BaseException", .type "object"] "ValueError.__new__" = true)
    (he : hp.get? e = some (excO C t0)) (hu : hp.get? u = some (kxs_mw "ValueError.__init__" e)) (hz : rest.length ≤ sizeLine)
    (hq : ∀ h' t1, (∀ b o, b ≠ e → hp.get? b = some o → h'.get? b = some o) → h'.get? e = some (excO C t1) → Q .none ⟨h', g, d, t, os⟩) : wpAny (model prog w) A (call (.ref u) rest) Q E ⟨hp, g, d, t, os⟩ := by
  obtain ⟨nm, N', qn, bs, bm, hdct, sn, sub, ab, col, dd, k0, k1, k2, k3, k5, hC, hT⟩ := excInit_of X q
  have FB := F.excBase_ValueError
  refine wpAny_call (codeAny_of_tree ?_)
  show wpAny _ A.in1 (callAny (.ref u) ⟨rest, []⟩) _ _ _
  simp only [callAny]
  refine wpAny_bind (wpAny_load hu ?_)
  simp only [kxs_mw, show (Value.type "method-wrapper" == Value.type "method" || Value.type "method-wrapper" == Value.type "builtin_function_or_method" || Value.type "method-wrapper" == Value.type "method-wrapper") = true by decide, if_true]
  refine KFB.if_so (by decide) ?_
  refine wpAny_bind (check_bound_init FB.toExcCallFacts hC he rfl ?_)
  refine wpAny_bind (wpAny_pure (wpAny_pure ?_))
  refine ⟨plainId_quiet FB.init.plain _, codeAny_builtin FB.initEntry ?_⟩
  exact exc_init_tree (cls := .ref C) (t0 := t0) (dv := none) (c2 := .none) (c3 := .none) (b4 := .bool false) he hz fun h' k e' _ => hq h' _ k e'
/-- the __init__ of such a class, upon a fresh exception at x -/
theorem sup_init (T : SupTxt prog K mg x qn f pre C fI) {e t0 : Addr} {v : Value} {mb : Str → Option Value} (X : K.In s.heap) (hlim : s.heap.NoLimit) (hG : s.heap.Ns mainGlobals mg) (hB : s.heap.Ns builtinsNs mb) (hmb : mb "super" = some (.type "super"))
    (hx : s.heap.get? e = some (excO C t0)) (hnx : K.lookup e = none) (hroom : A.depth < recursionLimit) (hf : Fld v)
    (hq : ∀ h' tk dx, InitEnd s.heap h' e C dx f v → R (.ok (.ret .none)) { s with heap := h', toks := tk }) :
    codeAny (model prog w) A (.call (.ref fI) ⟨[.ref e, v], []⟩) R s := by
  obtain ⟨oc, od, doc, pm, an, cda, cc, ct, osl, p1, p2, j, ps, ho, hcd, ⟨ccl, cdd, vs, ccs, file, tf, hcode, hvs, hfile⟩, ⟨cl, cld, csl, hcell⟩, ⟨pl, hev⟩⟩ := T.fn
  obtain ⟨nm, q, N, bs, bm, sn, sub, ab, col, dd, k0, k1, k2, k3, k5, hC, hbm⟩ := T.cls
  have hcl : clsIn K C = some { name := nm, bases := bs, mro := .ref C :: bm, ns := N, qualname := q, hasDict := true, slotNames := sn, subclasses := sub, abstract := ab, collection := col, hasDel := false } := by unfold clsIn; rw [hC] <;> rfl
  refine ks_codeAny_call_defAt (fd := ksFn "__init__" qn (sA f p1 p2) (sB f pre j ps) (sS f) .none .none doc pm an (.ref cda) ct cc) (body := sB f pre j ps) (binds := [("self", .ref e), (f, v)])
    hroom (X _ _ ho) rfl hlim (codeRec_of X hcd) rfl (BindsTo.of_eq (T.nm.bind _ _ _ _ _ _ _ _ _ _ _ _ _ _)) T.nm.cell (fun y hy => ?_) (fun h₁ hn k => ?_)
  · rcases List.mem_cons.mp hy with rfl | hy
    · exact T.nm.self
    · have hy := List.mem_singleton.mp hy
      subst hy
      exact T.nm.fld
  have X₁ : K.In h₁ := X.keeps k
  have hx₁ := k _ _ hx
  refine ks_wpAt_execs_cons (ks_wpAt_Expr_any (ks_wpAt_MethodCall (pl := pl) ?_ (hev _)))
  refine ks_wpAt_super_base (f := fI) (cc := cda) (ar := { arg := "self", annotation := none, pos := p1 }) T.nm.sup T.nm.cls (by decide) rfl (X₁ _ _ ho) rfl rfl rfl (X₁ _ _ hcode) rfl hvs hfile T.top ?_
  refine ks_loadName_global rfl T.nm.sup (loadGlobal_builtin (hG.keeps k) (mg_none_of X hG T.su) (hB.keeps k) hmb ⟨rfl, ?_⟩)
  refine wpAny_loadName_free rfl T.nm.cls rfl ⟨_, X₁ _ _ hcell, rfl⟩ ?_
  refine wpAny_loadName_local rfl T.nm.self hn (T.nm.bs _ _) ?_
  refine ks_wpAny_isType_cls (X₁ _ _ hC) rfl ⟨rfl, ?_⟩
  refine ks_wpAny_call_super (X₁ _ _ hC) rfl hx₁ rfl (fun c z => nomatch z) (looks_mroIn X₁ T.ms) (fun h₂ hso k₂ => ?_)
  have X₂ : K.In h₂ := X₁.keeps k₂
  have hx₂ := k₂ _ _ hx₁
  have I₂ : InstAt h₂ e (excO C t0) C none := ⟨hx₂, rfl, rfl, trivial⟩
  have hI : Looks (model prog w) h₂ (isInstance (.ref e) (.type "ValueError")) true := I₂.type.andThen (looks_subIn X₂ T.veC)
  have hsi := T.si
  unfold ks_superIn at hsi
  rw [hcl] at hsi
  refine kxs_getMethod kxs_ValueError hso (looks_opaque X₂ T.op) (l₀ := .ref C :: bm) (fun A Q E s k q => wpAny_bind ((looks_clsIn X₂ hcl) A _ E s k (wpAny_pure q))) rfl X₂ hsi hI (ks_ne X₂ I₂ hcl) (by decide) ?_
  show wpAny _ _ (callWith ps.i (.ref h₂.objs.size) [] (backTo ps.i ((false, eval (sE f pre j ps) (ksEnv qn (sS f) s.heap.objs.size fI (.ref cda) cc)) :: starEach [] (ksEnv qn (sS f) s.heap.objs.size fI (.ref cda) cc))) []) _ _ _
  have hnL : (h₂.push (kxs_mw "ValueError.__init__" e)).Ns s.heap.objs.size (fun y => ([("self", .ref e), (f, v)] : List (Str × Value)).reverse.lookup y) := by
    obtain ⟨oL, es, ep, hL, r⟩ := hn
    exact ⟨oL, es, ep, Heap.get?_push_of_some _ (k₂ _ _ hL), r⟩
  refine kxs_callWith (i := "ValueError.__init__") (x := e) rfl (evalArgs_plain (spliced_cons ?_))
  refine sup_text (w := w) hnL rfl T.nm.fld T.nm.dbg (T.nm.bf _ _) hf T.pz fun z tk tk' => ?_
  refine spliced_nil ⟨Heap.get?_push_at rfl rfl, ?_⟩
  have k₃ : ∀ b o, h₂.get? b = some o → (h₂.push (kxs_mw "ValueError.__init__" e)).get? b = some o := fun b o q => Heap.get?_push_of_some _ q
  refine call_mw (X₂.keeps k₃) T.q (k₃ _ _ hx₂) (Heap.get?_push_at rfl rfl) (by show 1 ≤ sizeLine; decide) (fun h₄ t1 k₄ hx₄ => ?_)
  have X₄ : K.In h₄ := fun a o q => k₄ a o (fun z => by rw [z, hnx] at q; cases q) (k₃ _ _ (X₂ a o q))
  have eL : s.heap.objs.size ≠ e := Nat.ne_of_gt (Heap.lt_size hx)
  have hn4 : h₄.Ns s.heap.objs.size (fun y => ([("self", .ref e), (f, v)] : List (Str × Value)).reverse.lookup y) := by
    obtain ⟨oL, es, ep, hL, r⟩ := hnL
    exact ⟨oL, es, ep, k₄ _ _ eL hL, r⟩
  show wpAt _ _ _ (execs _ _) _ _ _
  refine wpAt_of_wpAny (wpAny_execs_cons (plainObj_wpAny_Assign_Attribute ?_))
  refine wpAny_Name (wpAny_loadName_local rfl T.nm.fld hn4 (T.nm.bf _ _) ?_) T.nm.dbg
  refine wpAny_Name (wpAny_loadName_local rfl T.nm.self hn4 (T.nm.bs _ _) ?_) (by decide)
  refine set_plain X₄ (ox := excO C t1) (od := none) ⟨hx₄, rfl, rfl, trivial⟩ T.sa ?_
  refine exc_osa X₄ hx₄ hcl (show refsVE (.ref C :: bm) = true from hbm) rfl T.noN (fun h₅ tk₅ dx k₅ dn dne hx₅ hn₅ => ?_)
  show wpAny _ _ (execs _ _) _ _ _
  refine wpAny_execs_nil (hq h₅ tk₅ dx ⟨fun b o hb q => k₅ b o hb (k₄ b o hb (k₃ _ _ (k₂ _ _ (k _ _ q)))), ⟨t1, hx₅⟩, ?_, dne, hn₅⟩)
  have z1 : s.heap.objs.size < h₄.objs.size := hn4.lt
  exact Nat.le_trans (Nat.le_of_lt z1) dn
theorem one_size (v : Value) : [v].length ≤ sizeLine := by rw [sizeLine_eq]; exact (by decide : 1 ≤ 16777216)
structure OwnMade (h h' : Heap) (e C d : Addr) (f : Str) (v : Value) : Prop where
  keep : ∀ b o, h.get? b = some o → h'.get? b = some o
  new : h.objs.size ≤ e
  obj : ∃ oe vs, h'.get? e = some oe ∧ oe.cls = .ref C ∧ oe.dict = some d ∧ oe.data = .fields vs ∧ vs[1]? = some .none
  dbig : h.objs.size ≤ d
  dne : d ≠ e
  ns : h'.Ns1 d (fun y => if y = f then some v else none)
theorem sup_made (T : SupTxt prog K mg x qn f pre C fI) {v : Value} {mb : Str → Option Value} (X : K.In s.heap) (hlim : s.heap.NoLimit) (hG : s.heap.Ns mainGlobals mg) (hB : s.heap.Ns builtinsNs mb) (hmb : mb "super" = some (.type "super")) (hroom : A.depth + 1 < recursionLimit) (hf : Fld v)
    (hq : ∀ h' tk e d, OwnMade s.heap h' e C d f v → R (.ok (.ret (.ref e))) { s with heap := h', toks := tk }) : codeAny (model prog w) A (.call (.ref C) ⟨[v], []⟩) R s := by
  obtain ⟨nm, q, N, bs, bm, sn, sub, ab, col, dd, k0, k1, k2, k3, k5, hC, hbm⟩ := T.cls
  obtain ⟨hp, g, dr, tk, os⟩ := s
  have k : ∀ b o, hp.get? b = some o → ((hp.push (kdv_tup [v])).push (excO C hp.objs.size)).get? b = some o := fun b o e => Heap.get?_push_of_some _ (Heap.get?_push_of_some _ e)
  have hget : ((hp.push (kdv_tup [v])).push (excO C hp.objs.size)).get? (hp.objs.size + 1) = some (excO C hp.objs.size) := by heap_get
  have hnx : K.lookup (hp.objs.size + 1) = none := by
    cases e : K.lookup (hp.objs.size + 1) with
    | none => rfl
    | some o =>
      have z : hp.get? (hp.objs.size + 1) = some o := X _ _ e
      exact absurd (Nat.lt_of_succ_lt (Heap.lt_size z)) (Nat.lt_irrefl _)
  refine call_own F.excBase_ValueError (fun X => refsVE_contains X bm hbm) (X _ _ hC) (looks_findIn X T.iC) (fun self => bind_fn X self T.tC) (one_size v) ?_
  refine sup_init (s := ⟨(hp.push (kdv_tup [v])).push (excO C hp.objs.size), g, dr, tk, os⟩) T (X.keeps k) (hlim.keeps k) (hG.keeps k) (hB.keeps k) hmb hget hnx ?_ hf fun h' tk' dx ⟨k', ⟨t1, hx⟩, dn, dne, hns⟩ => ?_
  · show A.depth + 1 < recursionLimit
    exact hroom
  · have old : ∀ b o, hp.get? b = some o → h'.get? b = some o := fun b o e => k' b o (Nat.ne_of_lt (Nat.lt_succ_of_lt (Heap.lt_size e))) (k b o e)
    have z : hp.objs.size + 1 + 1 ≤ dx := by
      have q := dn
      rw [Heap.size_push, Heap.size_push] at q
      exact q
    exact ⟨rfl, hq h' tk' (hp.objs.size + 1) dx ⟨old, Nat.le_succ _, ⟨_, _, hx, rfl, rfl, rfl, rfl⟩, Nat.le_trans (Nat.le_trans (Nat.le_succ _) (Nat.le_succ _)) z, dne, hns⟩⟩
end
end SupX
end PySem
namespace L2
open PySem PySem.Spec PyProof.Rows
theorem relO_one {f g : Str} {v : V} {v' : Value} (r : RelV v v') : RelO (List.lookup g [(f, v)]) (if g = f then some v' else none) := by
  by_cases hw : g = f
  · subst hw
    rw [if_pos rfl]
    have q : List.lookup g [(g, v)] = some v := by simp [List.lookup]
    rw [q]
    exact r
  · rw [if_neg hw]
    have qw : (g == f) = false := by simpa using hw
    have q2 : List.lookup g [(f, v)] = none := by simp [List.lookup, qw]
    rw [q2]
    trivial
def FldV (v : V) : Prop := v = .non ∨ ∃ i : Int, v = .int i ∧ i.natAbs.log2 < 1920
theorem fld_of {v : V} {u : Value} (h : FldV v) (r : RelV v u) : PySem.SupX.Fld u := by
  rcases h with rfl | ⟨i, rfl, hi⟩
  · exact .inl r
  · obtain ⟨t, rfl⟩ := r
    exact .inr ⟨i, t, rfl, hi⟩
/-- C(e): the error's own dict d, new, holds the field -/
def tMkS (C : Addr) (f : Str) (ta : TA) : L2.St → Hp → XK → Prop := fun σ H Q => ta σ H fun vs H1 => ∃ v, vs = [v] ∧ FldV v ∧ ∀ d, H1 d = none → Q (.ref C) (some d) (upd H1 d (.xd [(f, v)]))
section
variable {X : Cx} {x qn f pre : Str} {C fI : Addr}
theorem pmk_sup {a : Expr} {ta : TA} {p pos : Pos} {k : Nat} (T : PySem.SupX.SupTxt X.prog X.K X.mg x qn f pre C fI) (hr : Room k X.A) (ha : PA X [a] ta) (hg : Gl X x := by rfl) (hdb : (x == ("__debug__" : Str)) = false := by decide)
    (he : starEach (a :: []) X.env = (false, eval a X.env) :: starEach [] X.env := by rfl) (hpl : (backTo pos (starEach [] X.env)).any (·.1) = false := by rfl) :
    PMk X (.Call (.Name x p) [a] [] pos) (tMkS C f ta) := by
  intro pins s σ H Q I h
  refine wpAny_Call_Name_kw (ld_glob I hg T.gC ?_ hdb)
  refine PySem.W.callWith_K (h₀ := X.base) I.ok.mod.kin T.kC (thn (ha.run pos pins s σ H _ I h) fun us s1 hh => ?_) he hpl
  obtain ⟨vs, H1, I1, r1, v, ev, hf, q1⟩ := hh
  subst ev
  refine ⟨I1.kIn, ?_⟩
  cases r1 with
  | cons rv rn =>
    rename_i v' us'
    cases rn
    show wpAny _ _ (call (.ref C) [v']) _ _ _
    have hlim := I1.nolimit
    have hG : s1.heap.Ns mainGlobals X.mg := I1.mod.glob.keeps I1.bk
    obtain ⟨mb, hb1, hb2⟩ := I1.mod.blt
    have hB : s1.heap.Ns builtinsNs mb := hb1.keeps I1.bk
    have hmb : mb "super" = some (.type "super") := (hb2 "super" (by decide)).trans (by decide +kernel)
    have kI := I1.kIn
    obtain ⟨hp, g, dr, tk, os⟩ := s1
    refine wpAny_call (PySem.SupX.sup_made T kI hlim hG hB hmb (by have := hr.dp; omega) (fld_of hf rv) fun h' tk' e d M => ?_)
    show MkP X pins σ Q (.ref e) ⟨h', g, dr, tk', os⟩
    obtain ⟨oe, fv, hoe, hc, hd, hdat, h1⟩ := M.obj
    have hns := M.ns
    obtain ⟨G', g1, g2⟩ := restrict h' fun b => decide (b ≠ e)
    have gk : ∀ b, b ≠ e → G'.get? b = h'.get? b := fun b hb => g1 b (decide_eq_true hb)
    have ge : G'.get? e = none := g2 e (by simp)
    have old : ∀ b o, hp.get? b = some o → G'.get? b = some o := fun b o q => (gk b (Nat.ne_of_lt (Nat.lt_of_lt_of_le (Heap.lt_size q) M.new))).trans (M.keep b o q)
    have ob : ObjOk X.prog X.w (upd H1 d (.xd [(f, v)])) G' d (.xd [(f, v)]) :=
      ⟨_, hns.at (fun o q => (gk d M.dne).trans q), fun y => relO_one rv⟩
    have J : Inv X pins σ (upd H1 d (.xd [(f, v)])) ⟨G', g, dr, tk', os⟩ := I1.laid (t' := tk') old M.dbig ob
    refine ⟨e, oe, fv, ⟨G', g, dr, tk', os⟩, _, .ref C, some d, rfl, J, fun b o q => ?_, ge, hoe, ⟨hc, hd⟩, hdat, h1, ?_, rfl, I1.bare, raises_own T.exC T.tyC, q1 d (I1.hok.fresh M.dbig)⟩
    · by_cases hb : b = e
      · have q' : G'.get? b = some o := q
        rw [hb, ge] at q'; cases q'
      · exact (gk b hb).symm.trans q
    · rw [upd_ne (Ne.symm M.dne)]
      exact I1.hok.fresh M.new
end
end L2
/-! in an except suite: isinstance(e, C) and e.f, whatever e's dict -/
namespace Z
open PySem PySem.Spec PyProof.Rows L2
open Evl (Ex)
def rIsX (K : Fg) (cls : Value) (a : Addr) (d : Option Addr) : List V → Hp → VK → Prop := fun xs H Q => ∃ (c : V) (cv : Value) (b : Bool) (D : Addr), xs = [.ref a, c] ∧ cls = .ref D ∧ ExcC K D ∧ (∀ dd, d = some dd → ∃ fs, H dd = some (.xd fs)) ∧ (∀ u, RelV c u → u = cv) ∧ PySem.W.kitOne K (.ref D) cv = some b ∧ Q (.bl b) H
theorem call_isX {X : Cx} {a : Addr} {cls : Value} {d : Option Addr} {oe : Obj} {pn : List (Addr × Obj)} (hz : Zc cls d oe) (hf : ∃ vs, oe.data = .fields vs) : CallR (X.suite a ((a, oe) :: pn)) (.builtin "isinstance") (rIsX X.K cls a d) := by
  intro pins s σ H xs us Q I r h
  obtain ⟨c, cv, b, D, rfl, hD, C, hx, hcv, e, q⟩ := h
  subst hD
  cases r with
  | cons rx rr =>
    cases rr with
    | cons rt rr =>
      cases rr
      cases rx
      have ec := hcv _ rt
      subst ec
      obtain ⟨hget, _⟩ := I.pin (a, oe) (List.mem_append.mpr (.inl List.mem_cons_self))
      obtain ⟨vs, hv⟩ := hf
      have J : ∃ od, PySem.W.InstAt s.heap a oe D od := by
        have hn : PySem.W.notCls oe = true := by unfold PySem.W.notCls; rw [hv] <;> rfl
        cases d with
        | none => exact ⟨none, hget, hz.1, hn, by rw [hz.2]; trivial⟩
        | some dd =>
          obtain ⟨fs, hd⟩ := hx dd rfl
          have ho : ObjOk X.prog X.w H s.heap dd (.xd fs) := I.hok dd _ hd
          obtain ⟨mA, hns, hr⟩ := ho
          obtain ⟨od, hg, hl⟩ := lookIn_ns hns
          exact ⟨some od, hget, hz.1, hn, by rw [hz.2]; exact hg⟩
      obtain ⟨od, J⟩ := J
      obtain ⟨cd, hcd, _⟩ := PySem.W.any_some C.hd
      exact PySem.W.kia_one (PySem.W.kitx_exc (by rw [hcd]; rfl) C.hg C.hk C.hs C.ha C.hn C.ht C.hm) I.kIn J e (fun z => nomatch z) fun tk => ⟨.bl b, H, I.kept (t' := tk) fun _ _ z => z, rfl, q⟩
def tXfE (K : Fg) (a : Addr) (cls : Value) (d : Option Addr) (f : Str) (te : TE) : TE := fun σ H Q => ∃ C, XfC K C ∧ PySem.W.findIn K (.ref C) f = some none ∧ tXf a cls d C f te σ H Q
theorem pe_xfE {X : Cx} {a : Addr} {oe : Obj} {cls : Value} {d : Option Addr} {pn : List (Addr × Obj)} {e : Expr} {te : TE} {pos : Pos} {n : Str}
    (hz : Zc cls d oe) (hf : ∃ vs, oe.data = .fields vs) (he : PE (X.suite a ((a, oe) :: pn)) e te) (hb : attributeBase e n X.env (eval e X.env) = eval e X.env := by rfl) :
    PE (X.suite a ((a, oe) :: pn)) (.Attribute e n pos) (tXfE X.K a cls d n te) :=
  ⟨fun pins s σ H Q I ⟨C, T, hno, h⟩ => (pe_xf T hno hz hf he hb).run pins s σ H Q I h⟩
section
variable {K : Fg} {E : L2.St → XK} {te ta : TE} {S : Zs} {M : Ms} {Q : QZ} {X : XZ}
theorem zw_isX {a : Addr} {cls : Value} {d : Option Addr} {C : Addr} {tcl : TE} (hcl : tcl = tC (.ref C)) (h : ZW K E te S M (fun z M1 => ∃ x b, z = .e a cls d x ∧ ExcC K x.cls ∧ PySem.W.kitOne K (.ref x.cls) (.ref C) = some b ∧ Q (.d (.bool b)) M1) X) :
    ZW K E (tCB (rIsX K cls a d) (tCons te (tCons tcl tNil))) S M Q X := fun n σ G H R Qv k kx =>
  h n σ G H R _ (fun v G1 H1 z M1 e1 R1 a1 ⟨x, b, hz, hE, hb, q⟩ => by
    subst hz hcl
    obtain ⟨rfl, hc, hx⟩ := a1
    refine ⟨.ref C, .ref C, b, x.cls, rfl, hc, hE, fun dd hd => ?_, fun u r => r, hb, k _ G1 H1 (.d (.bool b)) M1 e1 R1 (Dz.bl b) q⟩
    subst hd
    split at hx
    · cases hx
    · obtain ⟨dd', fv, h1, h2, _⟩ := hx
      cases h1
      exact ⟨fv, R1.ex _ _ h2⟩) kx
theorem paired_lookup {G : Hp} {f : Str} {fv : List (Str × V)} {fs : List (Str × PyData)} (h : Paired (fun (a : Str × V) (b : Str × PyData) => a.1 = b.1 ∧ Dz K G a.2 b.2) fv fs) {y : PyData} (e : fs.lookup f = some y) : ∃ v, fv.lookup f = some v ∧ Dz K G v y := by
  induction h with
  | nil => cases e
  | @cons a b l1 l2 q t ih =>
    obtain ⟨a1, a2⟩ := a
    obtain ⟨b1, b2⟩ := b
    obtain ⟨q1, q2⟩ := q
    dsimp only at q1 q2
    subst q1
    rw [List.lookup_cons] at e ⊢
    split at e
    · cases e
      exact ⟨_, rfl, q2⟩
    · exact ih e
theorem zw_xf {a C : Addr} {d : Option Addr} {f : Str} (hC : XfC K C ∧ PySem.W.findIn K (.ref C) f = some none) (h : ZW K E te S M (fun z M1 => ∃ x y, z = .e a (.ref C) d x ∧ x.fs.lookup f = some y ∧ Q (.d y) M1) X) :
    ZW K E (tXfE K a (.ref C) d f te) S M Q X := fun n σ G H R Qv k kx => by
  obtain ⟨T, hn⟩ := hC
  refine ⟨C, T, hn, h n σ G H R _ (fun v G1 H1 z M1 e1 R1 a1 ⟨x, y, hz, hl, q⟩ => ?_) kx⟩
  subst hz
  obtain ⟨rfl, hc, hx⟩ := a1
  split at hx
  · rename_i e
    rw [e] at hl
    cases hl
  · rename_i f0 fs0 e
    obtain ⟨dd', fv, h1, h2, h3⟩ := hx
    rw [e] at hl
    obtain ⟨v, hv1, hv2⟩ := paired_lookup h3 hl
    exact ⟨rfl, rfl, dd', fv, v, h1, R1.ex _ _ h2, hv1, k v G1 H1 (.d y) M1 e1 R1 hv2 q⟩
def FldD (x : PyData) : Prop := x = .none ∨ ∃ i : Int, x = .int i ∧ i.natAbs.log2 < 1920
theorem zs_raiseS {C : Addr} {f : Str} {tA : TA} {P : ZP} (h : ZA K E tA S M (fun zs M1 => ∃ x, zs = [.d x] ∧ FldD x ∧ P.ex ⟨C, [(f, x)]⟩ S M1) P.ex) : ZS K E (fun _ σ H => tMkS C f tA σ H fun cls d H' => E σ cls d H') S M P := fun n σ G H R D k =>
  h n σ G H R _ (fun vs G1 H1 zs M1 e1 R1 a1 ⟨x, hz, hx, q⟩ => by
    subst hz
    obtain ⟨v, rfl, av⟩ := zall1 a1
    have av' : Dz K G1 v x := av
    refine ⟨v, rfl, ?_, fun d hd => ?_⟩
    · rcases hx with rfl | ⟨i, rfl, hi⟩
      · cases av'
        exact .inl rfl
      · exact .inr ⟨i, dp_int av', hi⟩
    · have g := ex_gnone R1.ex hd
      refine k.ex (.ref C) (some d) σ _ _ ⟨C, [(f, x)]⟩ S M1 (e1.trans (Ex.new g)) (R1.new hd (fun _ z => nomatch z)) ⟨rfl, d, [(f, v)], rfl, upd_same, .cons ⟨rfl, dp_mono (Ex.new g) av'⟩ .nil⟩ q) k.xok
end
end Z
/-! a def that hands back a new own object; an object of a class without __init__; one of several readings; //, gcd, abs of great numbers; x is True -/
namespace Z
open PySem PySem.Spec PyProof.Rows L2
open Evl (Ex)
/-! ### one of several readings of an expression -/
def tOr2 (a b : TE) : TE := fun σ H Q => a σ H Q ∨ b σ H Q
theorem pe_or2 {X : Cx} {e : Expr} {a b : TE} (ha : PE X e a) (hb : PE X e b) : PE X e (tOr2 a b) :=
  ⟨fun pins s σ H Q I h => h.elim (fun q => ha.run pins s σ H Q I q) (fun q => hb.run pins s σ H Q I q)⟩
section
variable {K : Fg} {E : L2.St → XK} {e0 : XK} {te ta tb : TE} {tA : TA} {t : TS} {S : Zs} {M : Ms} {P : ZP} {Q : QZ} {X : XZ} {n : Sn} {σ : L2.St} {G G' H H' : Hp}
theorem zw_orl (h : ZW K E ta S M Q X) : ZW K E (tOr2 ta tb) S M Q X := fun n σ G H R Qv k kx => .inl (h n σ G H R Qv k kx)
theorem zw_orr (h : ZW K E tb S M Q X) : ZW K E (tOr2 ta tb) S M Q X := fun n σ G H R Qv k kx => .inr (h n σ G H R Qv k kx)
/-! ### a def over data that hands back a new own object -/
def spB (K : Fg) (k : Nat) (R : List PyData → Addr → List (Str × ZV) → Prop) : Sp := fun vs H Q E => ∃ (G : Hp) (ds : List PyData) (C : Addr) (fs : List (Str × ZV)), Ex G H ∧ ds.length = k ∧ DzAll K G vs ds ∧ R ds C fs ∧
  ∀ p G' H', Ext [] G H G' H' → H p = none → G' p = none → CD.at K G' H' p (.obj C fs) → Q (.ref p) H'
def PFb (C : Addr) (fs : List (Str × ZV)) : ZP := ⟨fun _ _ => False, fun z M => ∃ p, z = .c p ∧ (p, true, .obj C fs) ∈ M, fun _ _ => False, fun _ _ => False, fun _ _ _ => False⟩
theorem fn_B {R : List PyData → Addr → List (Str × ZV) → Prop} {k : Nat} {N : List Str} {vs : List V} {Qv : VK} (h : spB K k R vs H Qv e0) (b : ∀ ds C fs, ds.length = k → R ds C fs → ZS K (fun _ => e0) t (stS ds ++ List.replicate (N.length - ds.length) none) [] (PFb C fs)) : t { nx := fun _ H' => Qv .non H', rt := Qv } (L2.start N vs) H := by
  obtain ⟨G, ds, C, fs, e, hk, hd, hR, q⟩ := h
  refine b ds C fs hk hR ⟨G, H, []⟩ _ G H (rel_start e hd) _ ⟨fun _ _ _ _ _ _ _ z => z.elim, fun v σ' G' H' z S' M' _ R a z' => ?_, fun _ _ _ _ _ _ _ z => z.elim, fun _ _ _ _ _ _ _ z => z.elim, fun _ _ _ _ _ _ _ _ _ _ _ z => z.elim⟩
  obtain ⟨p, hz, hm⟩ := z'
  subst hz
  have ev : v = .ref p := a
  subst ev
  obtain ⟨h1, h2⟩ := R.ce p true _ hm
  exact q p G' H' R.ext (R.o0 p _ hm) h1 h2
theorem len_B {R : List PyData → Addr → List (Str × ZV) → Prop} {k : Nat} {vs : List V} {Qv : VK} (h : spB K k R vs H Qv e0) : vs.length = k := by
  obtain ⟨G, ds, C, fs, e, hk, hd, _⟩ := h
  rw [dpa_len hd, hk]
theorem zw_callB0 {ar : Nat} {R : List PyData → Addr → List (Str × ZV) → Prop} (h : ZA K E tA S M (fun zs M1 => ∃ ds C fs, AllD zs ds ∧ ds.length = ar ∧ R ds C fs ∧ ∀ p, Q (.c p) ((p, true, .obj C fs) :: M1)) X) : ZW K E (tCall (spB K ar R) [] E0 tA) S M Q X := fun n σ G H Rl Qv k kx =>
  h n σ G H Rl _ (fun vs G1 H1 zs M1 e1 R1 a1 ⟨ds, C, fs, hd, hk, hR, q⟩ => by
    refine ⟨G1, ds, C, fs, R1.ex, hk, ?_, hR, fun p G' H' e hp hg hc => ?_⟩
    · rw [List.append_nil]
      exact zall_d (by rw [← hd]; exact a1)
    · exact k (.ref p) G' H' (.c p) _ (e1.trans e.g) ((R1.call e).cell (R1.fresh hp) (R1.notin hp) hg hc) rfl (q p)) kx
/-! ### C(), C a class without __init__ -/
def tMakeE (C : Addr) : TE := fun _ H Q => ∀ x dx, H x = none → H dx = none → dx ≠ x → Q (.ref x) (upd (upd H dx (.own x)) x (.ins C dx []))
theorem zw_makeE {C : Addr} (q : ∀ p, Q (.c p) ((p, true, .obj C []) :: M)) : ZW K E (tMakeE C) S M Q X := fun n σ G H Rl Qv k kx x dx hx hdx hne => by
  have R2 := Rl.lay (p := dx) (o := .own x) hdx
  have hx2 : (upd H dx (.own x)) x = none := by rw [upd_ne (Ne.symm hne)]; exact hx
  have R3 := R2.lay (p := x) (o := .ins C dx []) hx2
  have hown : (upd (upd H dx (.own x)) x (.ins C dx [])) dx = some (.own x) := by rw [upd_ne hne, upd_same]
  have hc : CD.at K G (upd (upd H dx (.own x)) x (.ins C dx [])) x (.obj C []) := ⟨dx, [], upd_same, hown, ex_gnone Rl.ex hdx, .nil⟩
  exact k (.ref x) G _ (.c x) _ (Ex.refl G) (R3.cell (Rl.fresh hx) (Rl.notin hx) (ex_gnone Rl.ex hx) hc) rfl (q x)
end
section
variable {X : Cx} {C : Addr} {x : Str} {p pos : Pos}
/-- what such a class must have -/
structure MkE (K : Fg) (mg : Str → Option Value) (x : Str) (C : Addr) : Prop where
  m : PySem.W.makesIn K C = true
  i : PySem.W.findIn K (.ref C) "__init__" = some (some (.builtin "object.__init__"))
  k : PySem.W.keepIn K (.ref C) = true
  g : mg x = some (.ref C)
theorem pe_mkE (T : MkE X.K X.mg x C) (hg : Gl X x := by rfl) (hdb : (x == ("__debug__" : Str)) = false := by decide) : PE X (.Call (.Name x p) [] [] pos) (tMakeE C) := by
  refine ⟨fun pins s σ H Q I h => wpAny_Call_Name_kw (ld_glob I hg T.g (PySem.W.callWith_K0 I.kIn T.k (wpAny_call ?_)) hdb)⟩
  have J := Inv.made (C := C) I
  have q := h (s.heap.objs.size + 1) s.heap.objs.size (I.hok.fresh (Nat.le_succ _)) (I.hok.fresh (Nat.le_refl _)) (Nat.ne_of_lt (Nat.lt_succ_self _))
  have Y := PySem.W.makes_of (M := model X.prog X.w) I.kIn T.m
  have old : ∀ b o, s.heap.get? b = some o → ((s.heap.push PySem.W.emptyDict).push (PySem.W.instObj C s.heap.objs.size)).get? b = some o := fun b o e => Heap.get?_push_of_some _ (Heap.get?_push_of_some _ e)
  have new : ((s.heap.push PySem.W.emptyDict).push (PySem.W.instObj C s.heap.objs.size)).get? (s.heap.objs.size + 1) = some (PySem.W.instObj C s.heap.objs.size) := by
    rw [← Heap.size_push s.heap PySem.W.emptyDict]
    exact Heap.get?_push_size _ rfl
  have ty : PySem.W.Looks (model X.prog X.w) ((s.heap.push PySem.W.emptyDict).push (PySem.W.instObj C s.heap.objs.size)) (typeOf (.ref (s.heap.objs.size + 1))) (.ref C) := (PySem.W.Looks.ld new).andThen .now
  have obj : PySem.W.Looks (model X.prog X.w) ((s.heap.push PySem.W.emptyDict).push (PySem.W.instObj C s.heap.objs.size)) (isInstance (.ref (s.heap.objs.size + 1)) (.type "object")) true := ty.andThen (Y.top.keeps old)
  refine PySem.W.make_core Y (PySem.W.looks_findIn I.kIn T.i) (fun self => .of_pure (PySem.W.oi_bind self)) (.inr ⟨rfl, rfl⟩) (codeAny_call_builtin PySem.W.oi_plain PySem.W.entry_oi (PySem.W.check_slot PySem.W.oi_kind PySem.W.oi_split obj (PySem.W.oi_args _) ?_))
  show wpAny _ _ (Builtin.«object.__init__» ⟨[.ref (s.heap.objs.size + 1)], []⟩) _ _ _
  rw [PySem.W.oi_run]
  exact wpAny_pure ⟨rfl, V.ref (s.heap.objs.size + 1), _, J, rfl, q⟩
/-! ### great numbers -/
def CDivG (_ j : Int) : Prop := j ≠ 0 ∧ j.natAbs.log2 < 9000
theorem op_fdivG : OpR X (binaryOp .FloorDiv) (rI CDivG fun i j => .int (i.fdiv j)) := opI fun i j t u s Q E hc q => floordiv_int hc.1 q (.inl (PyProof.noPylong_of_log2 hc.2))
end
section
variable {K : Fg} {M : Ms} {Q : QZ}
theorem zo_fdivG {i j : Int} (hc : CDivG i j) (q : Q (.d (.int (i.fdiv j))) M) : ZO K (rI CDivG fun i j => .int (i.fdiv j)) (.d (.int i)) (.d (.int j)) M Q := zo_I (gd := fun i j => .int (i.fdiv j)) (fun _ => .int _) hc q
abbrev rAbs : List V → Hp → VK → Prop := fun xs H Q => ∃ i, xs = [.int i] ∧ Q (.int (if i < 0 then -i else i)) H
theorem zc_abs {i : Int} (q : Q (.d (.int (if i < 0 then -i else i))) M) : ZC K rAbs [.d (.int i)] M Q := zc_val (z := .d (.int (if i < 0 then -i else i))) (fun G H vs e a => by
  obtain ⟨v, rfl, av⟩ := zall1 a
  exact ⟨_, Dz.int _, fun Qv hq => ⟨i, by rw [dp_int av], hq⟩⟩) q
theorem zc_gcd {i j : Int} (q : Q (.d (.int ((Nat.gcd i.natAbs j.natAbs : Nat) : Int))) M) : ZC K rGcd [.d (.int i), .d (.int j)] M Q := zc_val (z := .d (.int ((Nat.gcd i.natAbs j.natAbs : Nat) : Int))) (fun G H vs e a => by
  obtain ⟨v, u, rfl, av, au⟩ := zall2 a
  exact ⟨_, Dz.int _, fun Qv hq => ⟨i, j, by rw [dp_int av, dp_int au], hq⟩⟩) q
abbrev rIsB : R2 := fun x y H Q => ∃ a b, x = .bl a ∧ y = .bl b ∧ Q (.bl (decide (a = b))) H
abbrev rIsntB : R2 := fun x y H Q => ∃ a b, x = .bl a ∧ y = .bl b ∧ Q (.bl (!decide (a = b))) H
theorem zo_isB {a b : Bool} (q : Q (.d (.bool (decide (a = b)))) M) : ZO K rIsB (.d (.bool a)) (.d (.bool b)) M Q :=
  zo_val (z := .d (.bool (decide (a = b)))) (fun G H v u e x y => ⟨_, .bl _, fun Qv h => ⟨a, b, dp_bl x, dp_bl y, h⟩⟩) q
theorem zo_isntB {a b : Bool} (q : Q (.d (.bool (!decide (a = b)))) M) : ZO K rIsntB (.d (.bool a)) (.d (.bool b)) M Q :=
  zo_val (z := .d (.bool (!decide (a = b)))) (fun G H v u e x y => ⟨_, .bl _, fun Qv h => ⟨a, b, dp_bl x, dp_bl y, h⟩⟩) q
end
end Z
/-! [e for x in range(a, b) for y in range(c, d)] -/
namespace Z
open PySem PySem.Spec PyProof.Rows L2
open Evl (Ex)
/-- what stands in the list ahead of the turn (i, j) -/
def gridL (f : Nat → Nat → PyData) (m i j : Nat) : List PyData := ((List.range i).flatMap fun a => (List.range m).map (f a)) ++ (List.range j).map (f i)
theorem gridL_zero (f : Nat → Nat → PyData) (m : Nat) : gridL f m 0 0 = [] := rfl
theorem gridL_row (f : Nat → Nat → PyData) (m i : Nat) : gridL f m i m = gridL f m (i + 1) 0 := by
  unfold gridL
  rw [List.range_succ, List.flatMap_append]
  simp
theorem gridL_cell (f : Nat → Nat → PyData) (m i j : Nat) : gridL f m i (j + 1) = gridL f m i j ++ [f i j] := by
  unfold gridL
  rw [List.range_succ, List.map_append, List.append_assoc]
  rfl
theorem gridL_len (f : Nat → Nat → PyData) (m i j : Nat) : (gridL f m i j).length = i * m + j := by
  induction i with
  | zero => unfold gridL; simp
  | succ i ih =>
    have e : gridL f m (i + 1) j = (gridL f m i m) ++ (List.range j).map (f (i + 1)) := by
      rw [gridL_row]
      unfold gridL
      simp
    have e2 : (gridL f m i m).length = i * m + m := by
      have h := ih
      unfold gridL at h ⊢
      simp at h ⊢
      omega
    rw [e, List.length_append, e2, List.length_map, List.length_range, Nat.succ_mul]
theorem par_go {F : ZV → ZV → Prop} {z w : ZV} (h : F z w) : ∃ a b, [z, w] = [a, b] ∧ F a b := ⟨z, w, rfl, h⟩
theorem par_go3 {F : ZV → ZV → ZV → Prop} {z w y : ZV} (h : F z w y) : ∃ a b c, [z, w, y] = [a, b, c] ∧ F a b c := ⟨z, w, y, rfl, h⟩
section
variable {K : Fg} {E : L2.St → XK} {tA tB : TA} {g g1 : TG} {te : TE} {S : Zs} {M : Ms} {Q : QZ} {X : XZ}
theorem zw_lc2R {vs vs1 : List Nat} {a b a1 b1 : Int} {r d : Nat} (f : Nat → Nat → PyData) (hr : r ∈ vs) (hd : d ∈ vs1) (hg : g = gName r) (hg1 : g1 = gName d)
    (hz : (b - a).toNat * (b1 - a1).toNat ≤ sizeLine)
    (la : -(2 ^ 62) ≤ a ∧ a < 2 ^ 62 ∧ -(2 ^ 62) ≤ b ∧ b < 2 ^ 62) (lb : -(2 ^ 62) ≤ a1 ∧ a1 < 2 ^ 62 ∧ -(2 ^ 62) ≤ b1 ∧ b1 < 2 ^ 62)
    (hA : ZA K E tA S M (fun zs M1 => zs = [.d (.int a), .d (.int b)] ∧ M1 = M) X)
    (hB : ∀ S2 M2, ZA K E tB S2 M2 (fun zs M1 => zs = [.d (.int a1), .d (.int b1)] ∧ M1 = M2) fun _ _ _ => False)
    (hE : ∀ (i j : Nat) (M2 : Ms), i < (b - a).toNat → j < (b1 - a1).toNat → ZW K E te ((wipeZ ((wipeZ S vs).set r (some (.d (.int (a + (i : Nat)))))) vs1).set d (some (.d (.int (a1 + (j : Nat)))))) M2 (fun z M3 => z = .d (f i j) ∧ M3 = M2) fun _ _ _ => False)
    (q : Q (.d (.list (gridL f (b1 - a1).toNat (b - a).toNat 0))) M) : ZW K E (tLc2 (iRng2 tA) g tYes (iRng2 tB) g1 tYes te vs vs1) S M Q X := fun n σ G H R Qv k kx => by
  subst hg hg1
  refine hA n σ G H R _ (fun us G1 H1 zs M1 e1 R1 a1' ⟨hzs, hM⟩ => ?_) kx
  subst hzs hM
  obtain ⟨v, u, rfl, av, au⟩ := zall2 a1'
  have ev := dp_int av
  have eu := dp_int au
  subst ev eu
  refine ⟨a, b, rfl, la, fun D hD => ?_⟩
  let N := (b - a).toNat
  let L := (b1 - a1).toNat
  -- ahead of a row
  let A : Nat → Hp → Prop := fun i H' => ∃ G', Rel K n (wipeZ S vs) ((D, true, .lst (gridL f L i 0)) :: M1) (L2.wipe σ vs) G' H' ∧ Ex G1 G'
  refine ⟨fun i m H' => m = N - i ∧ i ≤ N ∧ A i H', ⟨N, rfl, Nat.zero_le _, G1, (R1.newLst hD .nil).wipe vs, Ex.refl G1⟩, ?_⟩
  rintro i m H2 ⟨rfl, hi, G2, R2, e2⟩
  by_cases hlt : i < N
  · refine .inr ⟨hlt, A (i + 1), fun H' h' => ⟨N - (i + 1), by omega, rfl, hlt, h'⟩, fun x H' hy => ?_⟩
    obtain ⟨hH, hx⟩ := hy
    subst hH hx
    show _ ∧ _
    have R3 := R2.set (i := r) (v := .int (a + (i : Nat))) (z := .d (.int (a + (i : Nat)))) (Dz.int _)
    refine ⟨wipe_eq (by simp) fun j hj => by rw [List.getElem?_set_ne (fun e => hj (by rw [← e]; exact hr))], ?_⟩
    show tYes _ _ _
    refine hB _ _ n _ G2 _ R3 _ (fun us G3 H3 zs M3 e3 R3' a3 ⟨hzs, hM⟩ => ?_) (fun _ _ _ _ _ _ _ _ _ _ z => z.elim)
    subst hzs hM
    obtain ⟨v, u, rfl, av, au⟩ := zall2 a3
    have ev := dp_int av
    have eu := dp_int au
    subst ev eu
    refine ⟨a1, b1, rfl, lb, ?_⟩
    generalize hS2 : (wipeZ S vs).set r (some (.d (.int (a + (i : Nat))))) = S2 at R3'
    generalize hσ2 : (L2.wipe σ vs).set r (some (.int (a + (i : Nat)))) = σ2 at R3'
    -- ahead of a cell of the row
    let B : Nat → Hp → Prop := fun j H' => ∃ G', Rel K n S2 ((D, true, .lst (gridL f L i j)) :: M1) σ2 G' H' ∧ Ex G3 G'
    refine ⟨fun j k H' => k = L - j ∧ j ≤ L ∧ B j H', ⟨L, rfl, Nat.zero_le _, G3, R3', Ex.refl G3⟩, ?_⟩
    rintro j k' H4 ⟨rfl, hj, G4, R4, e4⟩
    by_cases hjl : j < L
    · refine .inr ⟨hjl, B (j + 1), fun H' h' => ⟨L - (j + 1), by omega, rfl, hjl, h'⟩, fun y H' hy => ?_⟩
      obtain ⟨hH, hx⟩ := hy
      subst hH hx
      show _ ∧ _
      have R5 := (R4.wipe vs1).set (i := d) (v := .int (a1 + (j : Nat))) (z := .d (.int (a1 + (j : Nat)))) (Dz.int _)
      refine ⟨wipe_eq (by simp) fun l hl => by rw [List.getElem?_set_ne (fun e => hl (by rw [← e]; exact hd))], ?_⟩
      show tYes _ _ _
      rw [← hS2] at R5
      refine hE i j _ hlt hjl n _ G4 _ R5 _ (fun w G6 H6 z M6 e6 R6 a6 ⟨hz6, hM6⟩ => ?_) (fun _ _ _ _ _ _ _ _ _ _ z => z.elim)
      subst hz6 hM6
      obtain ⟨_, ws, h1, h2⟩ := R6.ce D true _ m0
      have hlen := gridL_len f L i j
      have hb : i * L + j < sizeLine := by
        have h1 : (i + 1) * L ≤ N * L := Nat.mul_le_mul_right L hlt
        rw [Nat.succ_mul] at h1
        have h2 : N * L ≤ sizeLine := hz
        omega
      refine ⟨ws, h1, by rw [dpa_len h2, hlen]; exact hb, G6, ?_, e4.trans e6⟩
      rw [gridL_cell]
      exact (R4.reslot R6 e6).putLst .here (dpa_app h2 (dpa_one a6))
    · have e : j = L := by omega
      subst e
      refine .inl ⟨Nat.le_refl _, G4, ?_, (e2.trans e3).trans e4⟩
      rw [← gridL_row]
      exact R2.reslot R4 (e3.trans e4)
  · have e : i = N := by omega
    subst e
    refine .inl ⟨Nat.le_refl _, ?_⟩
    obtain ⟨G5, e5, R5, d5⟩ := R2.frz .here
    exact k (.ref D) G5 H2 (.d (.list (gridL f L N 0))) M1 ((e1.trans e2).trans e5) (R1.reslot R5 (e2.trans e5)) d5 q
end
end Z
/-! for i, x in enumerate(t), t a tuple: the turn of an iterator that hands out pairs (PySem.WalksT) as a turn of HandS; enumerate's one-argument call over whatever begins an iterator -/
namespace Z
open PySem PySem.Spec PyProof.Rows L2
open Evl (Ex)
/-- a: the tuple; each turn a new pair -/
def ItN (K : Fg) (a : Addr) : It where
  go i H := ∃ xs x, SqT K H a xs ∧ xs[i]? = some x
  yld i H v H' := ∃ T x, (H T = none ∧ v = .ref T ∧ H' = upd H T (.tup [.int (i : Nat), x])) ∧ ∀ xs, SqT K H a xs → xs[i]? = some x
  stop i H := ∃ xs, SqT K H a xs ∧ xs.length = i
/-- what lies behind a walk's turn is in order: pair, iterators, all else -/
theorem turnN {P : Program} {w : World} {K : Fg} {elts : List Expr} {kk : Nat} {tpos : Pos} {a e it : Addr} (h1 : e ≠ it) (h2 : e ≠ a) (h3 : a ≠ it) :
    Turn P w K (.Tuple elts kk tpos) (ItN K a) [e, it] e (fun i h => (∃ old, IsEnum h e it (i : Nat) old) ∧ h.IsTupleIter it a i) := by
  have D : ∀ (A : Around), A.handled = none → ∀ vals : Array Value, WalksT P w A e [e, it, a] [e, it] vals.size _ (fun i h => (∃ old, IsEnum h e it (i : Nat) old) ∧ h.IsTupleIter it a i ∧ h.IsTuple a vals) _ := fun A hA vals =>
    WalksT.enumerateD (Draws.tuple (prog := P) (w := w) (A := A.in1) hA it a h3 vals) e h1 (by simp [h1, h2]) (by simp)
  constructor
  case mem => exact List.mem_cons_self
  case obj =>
    rintro i h ⟨⟨old, he⟩, o, ho, hc, hd⟩ b hb
    rcases List.mem_cons.mp hb with rfl | hb
    · exact ⟨_, he, by intro v z; cases z⟩
    · rw [List.mem_singleton.mp hb]
      exact ⟨o, ho, by intro v z; rw [hd] at z; cases z⟩
  case keep =>
    rintro i h h' ⟨⟨old, he⟩, hi⟩ k
    exact ⟨⟨old, k _ List.mem_cons_self _ he⟩, hi.at fun o q => k _ (List.mem_cons_of_mem _ List.mem_cons_self) o q⟩
  case item =>
    rintro X rfl rfl rfl hc i pins s σ H E I hf ⟨he, hi⟩ ⟨xs, x, hq, hx⟩
    obtain ⟨vals, rv, ht, _⟩ := I.tuple hq
    obtain ⟨u, hu, ru⟩ := rv.get hx
    have W := D X.A (I.ok.hd hc) vals.toArray
    have hlt : i < vals.toArray.size := by simpa using (List.getElem?_eq_some_iff.mp hu).1
    refine W.item i s _ _ hlt ⟨he, hi, ht⟩ fun T ws g tk hP hT hg hm hk => ?_
    obtain ⟨t, y, hy, rfl⟩ := hP
    have hyu : y = u := by
      have hy' : vals[i]? = some y := by simpa using hy
      rw [hu] at hy'
      exact (Option.some.inj hy').symm
    subst hyu
    refine ⟨_, rfl, W.go _ _ _ i T { s with heap := g, toks := tk } _ _ hm fun g' hm' hk' => ?_⟩
    have hTn : H T = none := I.hok.fresh hT
    obtain ⟨oT, hoT, hcT, nT, hdT⟩ := hg
    have pair : ObjOk X.prog X.w (upd H T (.tup [.int (i : Nat), x])) g' T (.tup [.int (i : Nat), x]) :=
      ⟨by rw [sizeLine_eq]; show 2 ≤ 16777216; decide, [.int (i : Nat) t, y], .cons ⟨t, rfl⟩ (.cons ru .nil), oT, hk' T oT (W.apart i T g hm) hoT, hcT, nT, hdT⟩
    have J := I.turnedNew (t' := tk) (ch := [e, it]) (h' := g') (fun b o hb q => hk' b o hb (hk b o hb q)) hf hT pair
    refine ⟨V.ref T, _, J, rfl, ⟨T, x, ⟨hTn, rfl, rfl⟩, fun ys hy => by rw [I.tuple_inj hy hq]; exact hx⟩, ⟨hm'.1, hm'.2.1⟩, fun b hb => ?_⟩
    have hbT : b ≠ T := fun z => W.apart i T g hm (z ▸ hb)
    rw [upd_ne hbT]
    exact (hf b hb).1
  case done =>
    rintro X rfl rfl rfl hc i pins s σ H E I hf ⟨he, hi⟩ ⟨xs, hq, hl⟩
    obtain ⟨vals, rv, ht, _⟩ := I.tuple hq
    have W := D X.A (I.ok.hd hc) vals.toArray
    have hn : vals.toArray.size = i := by rw [List.size_toArray, ← rv.length, hl]
    refine W.done s _ _ (by rw [hn]; exact ⟨he, hi, ht⟩) fun g tk hk => ⟨rfl, ?_⟩
    exact I.turnedL (t' := tk) hk hf
  case self =>
    rintro A i s Q E ⟨⟨old, he⟩, _⟩ hQ
    exact wpAny_pyIter_enum he hQ
/-- the one-argument call: a new iterator, and the enumerate over it -/
theorem meets_enum1 {v : Value} {o : Obj} {F : Heap → Prop} (B : Begins v o F) :
    Meets (Builtin.«enumerate.__new__» ⟨[.type "enumerate", v], []⟩) (fun _ R s => F s.heap ∧ R (.ok (.ret (.ref (s.heap.objs.size + 1))))
      { s with heap := (s.heap.push o).push { cls := .type "enumerate", data := .fields #[.none, .bool false, .ref s.heap.objs.size, rawInt 0, .none, .none] } }) := by
  refine .of_wp fun prog w A R ⟨h, gs, dr, tk, os⟩ ⟨hF, hR⟩ => ?_
  have st := sub_enumerate
  have begin_ := fun {A' : Around} {E Q : Value → Shared → Prop} (q : Q (.ref h.objs.size) ⟨h.push o, gs, dr, tk, os⟩) => B.iter prog w A' E ⟨h, gs, dr, tk, os⟩ Q hF q
  have hR : R (.ok (.ret (.ref (h.push o).objs.size))) ⟨(h.push o).push { cls := .type "enumerate", data := .fields #[.none, .bool false, .ref h.objs.size, rawInt 0, .none, .none] }, gs, dr, tk, os⟩ := by rw [Heap.size_push]; exact hR
  wp_walk using begin_
  refine wpAny_stack_any fun fr => wpAny_pure ?_
  split
  case h_1 c _ _ _ _ _ =>
    rcases Bool.eq_false_or_eq_true (c == Value.type "enumerate") with hb | hb <;> rw [hb] <;> (wp_walk using begin_) <;> exact ⟨_, rfl, hR⟩
  case h_2 =>
    wp_walk using begin_
    exact ⟨_, rfl, hR⟩
/-- enumerate(t) as what a loop walks -/
def iEnumT (K : Fg) (ta : TA) : TI := fun σ H R => ta σ H fun vs H1 => ∃ a, vs = [.ref a] ∧ (∃ xs, SqT K H1 a xs) ∧ R (ItN K a) H1
theorem pi_enumT {X : Cx} {e : Expr} {ta : TA} {p pos tpos : Pos} {elts : List Expr} {kk : Nat} (hg : Gl X "enumerate") (hm : X.mg "enumerate" = none) (ha : PA X [e] ta) (hs : starEach [e] X.env = [(false, eval e X.env)] := by rfl) :
    PI X (.Tuple elts kk tpos) (.Call (.Name "enumerate" p) [e] [] pos) (iEnumT X.K ta) := by
  constructor
  intro pins s σ H R I h
  refine Call_ (ld_blt I hg hm boot_enumerate (PyProof.Rows.callWith_type1 (thn (ha.run pos pins s σ H _ I h) fun us s1 ⟨vs, H1, I1, r1, a, hv, ⟨xs, hq⟩, q⟩ => ?_) hs rfl))
  subst hv
  rw [Vals.ref1 r1]
  obtain ⟨its, rv, ht, _⟩ := I1.tuple hq
  have hT : s1.heap.IsTuple a its.toArray := ht
  have ha1 : a < s1.heap.objs.size := by obtain ⟨o, q, _⟩ := hT; exact Heap.lt_size q
  refine callType_new F.called_enumerate (by decide) (F.typeCall_enumerate_1 _) (F.newCall_enumerate_1 _) (fun obj => F.args_object_init_2 obj _) F.entry_enumerate_new (meets_enum1 (begins_tuple a its.toArray)) ⟨hT, ?_⟩
  have e1 : ((s1.heap.push { cls := .type "tuple_iterator", data := .fields #[.ref a, .int 0 0] }).push { cls := .type "enumerate", data := .fields #[.none, .bool false, .ref s1.heap.objs.size, rawInt 0, .none, .none] }).get? (s1.heap.objs.size + 1) = some { cls := .type "enumerate", data := .fields #[.none, .bool false, .ref s1.heap.objs.size, rawInt 0, .none, .none] } := by
    rw [← Heap.size_push s1.heap { cls := .type "tuple_iterator", data := .fields #[.ref a, .int 0 0] }]
    exact Heap.get?_push_size _ rfl
  have e2 : ((s1.heap.push { cls := .type "tuple_iterator", data := .fields #[.ref a, .int 0 0] }).push { cls := .type "enumerate", data := .fields #[.none, .bool false, .ref s1.heap.objs.size, rawInt 0, .none, .none] }).get? s1.heap.objs.size = some { cls := .type "tuple_iterator", data := .fields #[.ref a, .int 0 0] } := Heap.get?_push_of_some _ (Heap.get?_push_size _ rfl)
  generalize hh : (s1.heap.push { cls := .type "tuple_iterator", data := .fields #[.ref a, .int 0 0] }).push { cls := .type "enumerate", data := .fields #[.none, .bool false, .ref s1.heap.objs.size, rawInt 0, .none, .none] } = h2 at e1 e2 ⊢
  have old : ∀ b o, s1.heap.get? b = some o → h2.get? b = some o := fun b o q => by rw [← hh]; exact Heap.get?_push_of_some _ (Heap.get?_push_of_some _ q)
  refine ⟨⟨_, e1, rfl⟩, wpAny_pyIter_enum e1 ⟨s1.heap.objs.size + 1, [s1.heap.objs.size + 1, s1.heap.objs.size], _, _, H1, rfl, I1.kept (t' := s1.toks) old, turnN (a := a) (Nat.ne_of_gt (Nat.lt_succ_self _)) (Nat.ne_of_gt (Nat.lt_succ_of_lt ha1)) (Nat.ne_of_lt ha1), ⟨⟨.none, e1⟩, _, e2, rfl, rfl⟩, fun b hb => ?_, q⟩⟩
  have hle : s1.heap.objs.size ≤ b := by
    rcases List.mem_cons.mp hb with rfl | hb
    · exact Nat.le_succ _
    · rw [List.mem_singleton.mp hb]; exact Nat.le_refl _
  exact I1.fpOk hle (I1.hok.fresh hle)
section
variable {K : Fg} {E : L2.St → XK} {tA : TA} {g : TG} {t : TS} {S : Zs} {M : Ms} {P : ZP}
theorem zs_forN (h : ZA K E tA S M (fun zs M1 => ∃ xs, zs = [.d (.tuple xs)] ∧ ∃ I : Nat → Zs → Ms → Prop, I 0 S M1 ∧
      (∀ i x S' M', xs[i]? = some x → I i S' M' → ∃ is S2, ZG K g (.d (.tuple [.int (i : Nat), x])) S' is S2 ∧ ZS K E t S2 M' (LoopP P (I (i + 1)))) ∧ (∀ S' M', I xs.length S' M' → P.nx S' M')) P.ex) : ZS K E (tFor (iEnumT K tA) g t) S M P := by
  intro n σ G H R D k
  refine h n σ G H R _ (fun vs G1 H1 zs M1 e1 R1 a1 ⟨xs, hz, I, i0, is, id⟩ => ?_) k.xok
  subst hz
  obtain ⟨v, rfl, av⟩ := zall1 a1
  obtain ⟨p, ws, rfl, h1, h2⟩ := dp_tup av
  have hl := dpa_len h2
  have stays : ∀ {G' H' : Hp} {S' M' σ'}, Rel K n S' M' σ' G' H' → Ex G1 G' → SqT K H' p ws := fun R' e' => Evl.ex_t (e'.trans R'.ex) h1
  refine ⟨p, rfl, ⟨ws, Evl.ex_t R1.ex h1⟩, fun i m σ' H' => m = ws.length - i ∧ i ≤ ws.length ∧ FI K n G1 I i σ' H', ⟨_, rfl, Nat.zero_le _, G1, S, M1, R1, Ex.refl _, i0⟩, ?_⟩
  rintro i m σ' H' ⟨rfl, hi, G', S', M', R', e', hI⟩
  by_cases hlt : i < ws.length
  · have hw : ws[i]? = some ws[i] := List.getElem?_eq_getElem hlt
    obtain ⟨d, hd, ad⟩ := dpa_at_v h2 hw
    refine .inr ⟨⟨ws, _, stays R' e', hw⟩, FI K n G1 I (i + 1), fun σ2 H2 q => ⟨_, by omega, rfl, hlt, q⟩, fun y H2 hy => ?_⟩
    obtain ⟨T, x, ⟨hT, rfl, rfl⟩, hx⟩ := hy
    have ex : x = ws[i] := Option.some.inj ((hx ws (stays R' e')).symm.trans hw)
    subst ex
    have gT := ex_gnone R'.ex hT
    have R2 := R'.new (o := .tup [.int (i : Nat), ws[i]]) hT (fun _ z => nomatch z)
    obtain ⟨js, S2, hg, hb⟩ := is i d S' M' hd hI
    have pair : Dz K (upd G' T (.tup [.int (i : Nat), ws[i]])) (.ref T) (.tuple [.int (i : Nat), d]) := .tup (.inl upd_same) (.cons (.int _) (.cons (dp_mono (e'.trans (Ex.new gT)) ad) .nil))
    refine hg n M' σ' _ _ _ R2 pair _ fun σ2 _ _ R3 => hb n σ2 _ _ R3 _ ((k.mono ((e1.trans e').trans (Ex.new gT))).loop fun σ3 G3 H3 S3 M3 e3 R4 i3 => ⟨G3, S3, M3, R4, (e'.trans (Ex.new gT)).trans e3, i3⟩)
  · have e : i = ws.length := by omega
    subst e
    exact .inl ⟨⟨ws, stays R' e', rfl⟩, k.nx σ' G' H' S' M' (e1.trans e') R' (id S' M' (by rw [← hl]; exact hI))⟩
end
end Z
/-! dicts whose keys are tuples: {(..): e for .. in ..}, dict([..]), .get, in -/
namespace Z
open PySem PySem.Spec PyProof.Rows L2
open Evl (Ex)
/-- what a block of a comprehension keeps: its frame, the iterator's own objects -/
theorem fp_in {X : Cx} {s : Shared} {H0 : Hp} {scope : Scope} {ce : Env} {fp : List Addr} {σ : L2.St} {H : Hp} {t : Shared} (I : Inv (X.blk s H0 scope ce fp) [] σ H t) (h : ∀ b ∈ fp, H b = none) : ∀ b ∈ fp, FpOk (X.blk s H0 scope ce fp) [] H b := by
  intro b hb
  have k := I.ok.exf b hb
  refine ⟨h b hb, k.1, I.ok.exfs b hb, Or.inl hb, fun x c e => k.2 x c e, fun p hp => ?_⟩
  exact absurd hp (by show p ∉ ([] : List (Addr × Obj)) ++ []; simp)
/-- the dict at D takes v at the key -/
theorem d_take {X : Cx} {pins : List (Addr × Obj)} {σ : L2.St} {H : Hp} {s : Shared} {A : Around} {E : Value → Shared → Prop} {D b : Addr} {kvs : List (List Key × V)} {k : List Key} {v : V} {r : Value} {Q : Unit → Shared → Prop} (hu : A.units < cLine) (I : Inv X pins σ H s)
    (hD : H D = some (.dT kvs)) (hb : H b = some (.tup (k.map kV))) (hl : kvs.length < sizeLine) (rv : RelV v r) (q : ∀ t, Inv X pins σ (upd H D (.dT (putK kvs k v))) t → Q () t) : wpAny (model X.prog X.w) A (dictSet D (.ref b) r) Q E s := by
  obtain ⟨_, hm, xs, rel, dd⟩ := dt_of I.hok hD
  have hx : xs.length ≤ sizeLine := by rw [← Paired.length rel]; omega
  refine wpAny_dictSet_heap (knd := tupleKind (mixKind X.prog X.w)) hu (key_of I.hok hb) dd (fun g hg sb => q _ ?_) hx
  obtain ⟨o, es, ep, p1, p2, p3, p4, _, p5⟩ := hg
  have old : ∀ c ys, H c = some (.tup ys) → upd H D (.dT (putK kvs k v)) c = some (.tup ys) := fun c ys e => by
    rw [upd_ne (fun z => by rw [z, hD] at e; cases e)]
    exact e
  refine d_write I (by rw [hD]; exact trivial) sb ⟨o, p1⟩ ⟨?_, hm, _, (rel.put k hb rv).keeps old, o, es, ep, p1, p2, p3, p4, p5⟩
  have := length_putK kvs k v
  omega
/-- {key: value for target in iter if ..}, the keys tuples of ints and texts -/
def tDcT (wi : TI) (g : TG) (tt : TT) (tk tv : TE) (vs : List Nat) : TE := fun σ H Q => wi σ H fun J H1 => ∀ D, H1 D = none → ∃ W : Nat → Nat → Hp → Prop, (∃ m, W 0 m (upd H1 D (.dT []))) ∧ ∀ i m H, W i m H →
  (J.stop i H ∧ Q (.ref D) H) ∨ (J.go i H ∧ ∃ N : Hp → Prop, (∀ H', N H' → ∃ m', m' < m ∧ W (i + 1) m' H') ∧ ∀ x H', J.yld i H x H' → g x (wipe σ vs) H' fun σ2 H2 => wipe σ2 vs = wipe σ vs ∧ tt σ2 H2 fun b H3 => (b = false → N H3) ∧
    (b = true → tk σ2 H3 fun y H4 => tv σ2 H4 fun z H5 => ∃ kvs k c, y = .ref c ∧ H5 c = some (.tup (k.map kV)) ∧ H5 D = some (.dT kvs) ∧ kvs.length < sizeLine ∧ N (upd H5 D (.dT (putK kvs k z)))))
theorem pe_dcT {X : Cx} {kx vx tg iter : Expr} {ifs : List Expr} {scope : Scope} {own : List (Str × Nat)} {pos : Pos} {wi : TI} {g : TG} {tt : TT} {tk tv : TE} (hc : X.calm = true) (hu : X.A.units < cLine) (hN : X.N.Nodup) (hi : PI X tg iter wi) (ok : BlkOk X.N X.env.scope scope own)
    (hg : ∀ (s : Shared) (H : Hp) (C : Addr) (cl : List (Str × Addr)) (fp : List Addr), PG (X.blk s H scope (compEnvC scope cl C X.env) fp) tg g) (ht : ∀ (s : Shared) (H : Hp) (C : Addr) (cl : List (Str × Addr)) (fp : List Addr), PTs (X.blk s H scope (compEnvC scope cl C X.env) fp) ifs tt)
    (hk : ∀ (s : Shared) (H : Hp) (C : Addr) (cl : List (Str × Addr)) (fp : List Addr), PE (X.blk s H scope (compEnvC scope cl C X.env) fp) kx tk) (hv : ∀ (s : Shared) (H : Hp) (C : Addr) (cl : List (Str × Addr)) (fp : List Addr), PE (X.blk s H scope (compEnvC scope cl C X.env) fp) vx tv)
    (hs : ∀ x, foldedSetIterable iter X.env x = pure x := by intro _; rfl) : PE X (.DictComp kx vx [⟨tg, iter, ifs, 0⟩] scope pos) (tDcT wi g tt tk tv (own.map (·.2))) := by
  constructor
  intro pins s σ H Q I h
  rw [arm_eval_DictComp]
  generalize hvs : own.map (·.2) = vs at h
  have clo := closure_ok (env := X.env) (scope := scope) fun y hy e => (ok.free y hy e).elim (fun k => I.ok.has _ (.inl k)) fun k => I.ok.has _ (.inr k)
  refine wpAny_comprehension_free rfl hs clo ok.kind (fun y hy e => by rw [ok.uniq y hy, e]) (thn (hi.run pins s σ H _ I h) fun _ _ hx => thn hx fun itv s2 ⟨it, fp, tn, J, H2, hit, I2, T, t2, f2, q⟩ => ?_)
  subst hit
  refine wpAny_newObj_type (newEnv_comp ?_)
  have hD := I2.hok.fresh (Nat.le_refl s2.heap.objs.size)
  obtain ⟨W, ⟨m0, w0⟩, turn⟩ := q _ hD
  have hlt : ∀ b ∈ fp, b < s2.heap.objs.size := fun b hb => by obtain ⟨o, e, _⟩ := T.obj _ _ t2 b hb; exact Heap.lt_size e
  -- the dict is laid
  let h3 := s2.heap.push { cls := .type "dict", data := .dict #[] }
  let H3 := upd H2 s2.heap.objs.size (.dT [])
  have old3 : ∀ b o, s2.heap.get? b = some o → h3.get? b = some o := fun b o e => Heap.get?_push_of_some _ e
  have I3 : Inv X pins σ H3 { s2 with heap := h3 } := I2.laid (t' := s2.toks) old3 (Nat.le_refl _) (dt_empty s2.heap I2.big)
  have f3 : ∀ b ∈ fp, FpOk X pins H3 b := fun b hb => ⟨by show upd H2 _ _ b = none; rw [upd_ne (Nat.ne_of_lt (hlt b hb))]; exact (f2 b hb).1, (f2 b hb).2⟩
  have z3 : h3.objs.size = s2.heap.objs.size + 1 := Heap.size_push ..
  -- the block
  have I4 := block_start I3 ok hN (fp := fp) fun b hb => ⟨f3 b hb, by show b < h3.objs.size; rw [z3]; exact Nat.lt_succ_of_lt (hlt b hb)⟩
  have t4 : tn 0 (pushCells (h3.push { cls := .type "dict", data := .dict #[] }) scope.names) := T.keep _ _ _ t2 fun b _ o e => pushCells_keeps _ _ _ _ (Heap.get?_push_of_some _ (old3 b o e))
  generalize hcl : cellsFrom (h3.objs.size + 1) scope.names (cloFrom X.env.cells scope.names []) = cl at I4
  have pg := hg { s2 with heap := h3 } H3 h3.objs.size cl fp
  have pt := ht { s2 with heap := h3 } H3 h3.objs.size cl fp
  have pk := hk { s2 with heap := h3 } H3 h3.objs.size cl fp
  have pv := hv { s2 with heap := h3 } H3 h3.objs.size cl fp
  show codeAny _ _ (.compStart _ 0 (.ref it) (.ref s2.heap.objs.size) (compEnvC scope cl h3.objs.size X.env)) (compPost _ _ _ _ _ (.ref s2.heap.objs.size) h3.objs.size) { s2 with heap := pushCells (h3.push { cls := .type "dict", data := .dict #[] }) scope.names }
  generalize hce : compEnvC scope cl h3.objs.size X.env = ce at I4 pg pt pk pv ⊢
  have hL : ce.locals = h3.objs.size := by rw [← hce]; rfl
  rw [hvs] at I4
  have loop : codeAny (model X.prog X.w) X.A (.compLoop (.DictComp kx vx [⟨tg, iter, ifs, 0⟩] scope pos) 0 (.ref it) (.ref s2.heap.objs.size) ce) (compPost (model X.prog X.w) X.A X.xe none (EP X pins σ Q) (.ref s2.heap.objs.size) h3.objs.size) { s2 with heap := pushCells (h3.push { cls := .type "dict", data := .dict #[] }) scope.names } := by
    refine compLoop_anyD (fun m t => ∃ i H', W i m H' ∧ Inv (X.blk { s2 with heap := h3 } H3 scope ce fp) [] (wipe σ vs) H' t ∧ tn i t.heap ∧ ∀ b ∈ fp, H' b = none) ?_ m0 ⟨0, H3, w0, I4, t4, fun b hb => (f3 b hb).1⟩
    rintro m t ⟨i, H', w, I5, t5, n5⟩
    rcases turn i m H' w with ⟨stop, done⟩ | ⟨go, N, hNx, step⟩
    · refine thnF (T.done (X.blk { s2 with heap := h3 } H3 scope ce fp) rfl rfl rfl hc i [] t _ H' (fun _ _ => False) I5 (fp_in I5 n5) t5 stop) fun r t6 ⟨hr, I6⟩ => ?_
      subst hr
      have back : Inv X pins σ H' t6 := I3.call' (ch := fp) I6.os I6.base I6.hok I6.bare fun b hb => ⟨(f3 b hb).2.2.2.1, (f3 b hb).2.1, (f3 b hb).2.2.2.2.1, (f3 b hb).2.2.2.2.2⟩
      obtain ⟨ns, hns, _⟩ := I6.loc
      have free := I6.free
      have hns : t6.heap.Ns ce.locals ns := hns
      have free : H' ce.locals = none := free
      rw [hL] at hns free
      refine ⟨ns, hns, fun g sb => ?_⟩
      have fr := I3.fpOk (H' := H') (Nat.le_refl _) free
      exact ⟨.ref s2.heap.objs.size, H', back.turned (t' := t6.toks) (fun b o hb e => (sb.2 b hb).trans e) fr.1 fr.2.1 fr.2.2.2.1 fr.2.2.2.2.1 fr.2.2.2.2.2, rfl, done⟩
    · refine thnF (T.item (X.blk { s2 with heap := h3 } H3 scope ce fp) rfl rfl rfl hc i [] t _ H' (fun _ _ => False) I5 (fp_in I5 n5) t5 go) fun r t6 ⟨u, hr, h6⟩ => ?_
      subst hr
      refine thnF h6 fun _ t7 ⟨x, H7, I7, r7, y7, tn7, n7⟩ => ?_
      have there := T.obj _ _ tn7
      refine thnF (pg.run _ t7 _ H7 x u _ (I7.pinned (fp_in I7 n7) there) r7 (step x H7 y7)) fun _ t8 ⟨σ8, H8, I8, w8, q8⟩ => ?_
      -- the turn is over where the iterator's objects are as they were
      have over : ∀ {t' : Shared} {H' : Hp}, Inv (X.blk { s2 with heap := h3 } H3 scope ce fp) ([] ++ pinsAt fp t7.heap) σ8 H' t' → N H' → ∃ m', m' < m ∧ ∃ i H', W i m' H' ∧ Inv (X.blk { s2 with heap := h3 } H3 scope ce fp) [] (wipe σ vs) H' t' ∧ tn i t'.heap ∧ ∀ b ∈ fp, H' b = none := by
        intro t' H'' J n
        obtain ⟨m', hm, w'⟩ := hNx H'' n
        have same : ∀ b ∈ fp, ∀ o, t7.heap.get? b = some o → t'.heap.get? b = some o ∧ H'' b = none := fun b hb o e => by
          have p := J.pin (b, o) (List.mem_append_right _ (List.mem_append_right _ (mem_pinsAt hb e)))
          exact ⟨p.1, p.2.1⟩
        refine ⟨m', hm, i + 1, H'', w', (J.unpinned (pins := [])).weak (by rw [← w8, wipe_length]) (fun j v e => ?_), T.keep _ _ _ tn7 fun b hb o e => (same b hb o e).1, fun b hb => ?_⟩
        · rw [← w8] at e
          exact (wipe_some e).1
        · obtain ⟨o, e, _⟩ := there b hb
          exact (same b hb o e).2
      refine thnF (pt.run _ t8 σ8 H8 _ I8 q8) fun b t9 ⟨H9, I9, q9⟩ => ?_
      cases b with
      | false => exact over I9 (q9.1 rfl)
      | true =>
        refine thnF (pk.run _ t9 σ8 H9 _ I9 (q9.2 rfl)) fun _ t10 ⟨yk, H10, I10, r10, q10⟩ => thnF (pv.run _ t10 σ8 H10 _ I10 q10) fun _ t11 ⟨yv, H11, I11, r11, kvs, k, c, ek, hk', hD', hl, n⟩ => ?_
        subst ek
        cases r10
        exact d_take (X := X.blk { s2 with heap := h3 } H3 scope ce fp) hu I11 hD' hk' hl r11 fun t12 J => over J n
  exact codeAny_compStart_dict loop (T.self X.A 0 _ _ _ t4 loop)
/-! ### dict([(key, value), ..]) -/
/-- the rows stored one behind the other -/
def storeAll (rows : List (List Key × Addr × V)) : List (List Key × V) := rows.foldl (fun acc r => putK acc r.1 r.2.2) []
theorem storeAll_len : ∀ (rows : List (List Key × Addr × V)) (acc : List (List Key × V)), (rows.foldl (fun acc r => putK acc r.1 r.2.2) acc).length ≤ acc.length + rows.length
  | [], acc => Nat.le_refl _
  | r :: rows, acc => by
    have h1 := storeAll_len rows (putK acc r.1 r.2.2)
    have h2 := length_putK acc r.1 r.2.2
    rw [List.foldl_cons, List.length_cons]
    omega
theorem kt_all {H : Hp} : ∀ {rows : List (List Key × Addr × V)} {us : List Value} {acc : List (List Key × V)} {xs : List (List Key × Addr × Value)}, Paired (fun r u => H r.2.1 = some (.tup (r.1.map kV)) ∧ RelV r.2.2 u) rows us → KT H acc xs →
    KT H (rows.foldl (fun acc r => putK acc r.1 r.2.2) acc) (storedAllH xs (List.zipWith (fun r u => (r.1, r.2.1, u)) rows us))
  | [], [], _, _, .nil, k => k
  | r :: rows, u :: us, acc, xs, .cons h t, k => kt_all (rows := rows) (us := us) t (KT.put k r.1 h.1 h.2)
def rDictT (K : Fg) : List V → Hp → VK → Prop := fun vs H Q => ∃ (a : Addr) (ts : List Addr) (rows : List (List Key × Addr × V)), vs = [.ref a] ∧ SqL K H a (ts.map V.ref) ∧
  Paired (fun t r => SqT K H t [.ref r.2.1, r.2.2] ∧ H r.2.1 = some (.tup (r.1.map kV))) ts rows ∧ ∀ p, H p = none → Q (.ref p) (upd H p (.dT (storeAll rows)))
theorem pair_raw {X : Cx} {pins : List (Addr × Obj)} {σ : L2.St} {H : Hp} {s : Shared} (I : Inv X pins σ H s) {t b : Addr} {v : V} (h : SqT X.K H t [.ref b, v]) : ∃ u, s.heap.IsTuple t #[.ref b, u] ∧ RelV v u := by
  obtain ⟨its, rv, ht, _⟩ := I.tuple h
  cases rv with
  | cons rx r2 =>
    cases r2 with
    | cons ru r3 =>
      cases r3
      cases rx
      exact ⟨_, ht, ru⟩
theorem rows_raw {X : Cx} {pins : List (Addr × Obj)} {σ : L2.St} {H : Hp} {s : Shared} (I : Inv X pins σ H s) {ts : List Addr} {rows : List (List Key × Addr × V)} (hp : Paired (fun t r => SqT X.K H t [.ref r.2.1, r.2.2] ∧ H r.2.1 = some (.tup (r.1.map kV))) ts rows) :
    ∃ us, Paired (fun r u => H r.2.1 = some (.tup (r.1.map kV)) ∧ RelV r.2.2 u) rows us ∧ ∀ (j : Nat) (t : Addr), ts[j]? = some t → ∃ r u, rows[j]? = some r ∧ us[j]? = some u ∧ s.heap.IsTuple t #[.ref r.2.1, u] := by
  induction hp with
  | nil => exact ⟨[], .nil, fun j t h => by simp at h⟩
  | cons h _ ih =>
    obtain ⟨us, p, k⟩ := ih
    obtain ⟨u, ht, ru⟩ := pair_raw I h.1
    refine ⟨u :: us, .cons ⟨h.2, ru⟩ p, fun j t' hj => ?_⟩
    cases j with
    | zero =>
      cases hj
      exact ⟨_, u, rfl, rfl, ht⟩
    | succ j => exact k j t' hj
theorem paired_lens {α β : Type} {F : α → β → Prop} : ∀ {l : List α} {m : List β}, Paired F l m → l.length = m.length
  | _, _, .nil => rfl
  | _, _, .cons _ t => congrArg (· + 1) (paired_lens t)
theorem call_dictT {X : Cx} (hc : X.calm = true) (hu : X.A.units + 64 < cLine) : CallR X (.type "dict") (rDictT X.K) := by
  rintro pins s σ H vs us Q I r ⟨a, ts, rows, rfl, hq, hp, q⟩
  rw [Vals.ref1 r]
  obtain ⟨its, rv, pl, hz⟩ := I.list hq
  have hi := refs_at rv
  subst hi
  obtain ⟨ws, pw, each⟩ := rows_raw I hp
  have l1 := paired_lens hp
  have l2 := paired_lens pw
  rw [List.length_map] at hz
  have hm : (s.heap.objs.size == sysModules) = false := beq_eq_false_iff_ne.mpr (Nat.ne_of_gt I.big)
  let prs := List.zipWith (fun (r : List Key × Addr × V) (u : Value) => ((Value.ref r.2.1, u) : Value × Value)) rows ws
  let ps := List.zipWith (fun (r : List Key × Addr × V) (u : Value) => (r.1, r.2.1, u)) rows ws
  have lp : prs.length = rows.length := by simp [prs, l2]
  have lq : ps.length = rows.length := by simp [ps, l2]
  have plain : PlainSeq "list" s.heap a (ts.map Value.ref).toArray := by
    obtain ⟨o, n, ho, h1, h2, h3⟩ := pl
    exact ⟨o, n, ho, h1, h2, h3⟩
  have items : PairItems s.heap (ts.map Value.ref).toArray (fun j => ts.getD j 0) prs := by
    refine ⟨by simp [lp, l1], fun j k v hj => ?_⟩
    have hlt : j < ts.length := by have := (List.getElem?_eq_some_iff.mp hj).1; omega
    obtain ⟨r, u, h1, h2, h3⟩ := each j ts[j] (List.getElem?_eq_getElem hlt)
    have e : prs[j]? = some (.ref r.2.1, u) := by simp only [prs, List.getElem?_zipWith, h1, h2]
    rw [e] at hj
    cases hj
    have et : ts.getD j 0 = ts[j] := by simp [List.getD_eq_getElem?_getD, hlt]
    show _ = some (Value.ref (ts.getD j 0)) ∧ PairAt s.heap (ts.getD j 0) (.ref r.2.1) v
    rw [et]
    exact ⟨by simp [hlt], .inl h3⟩
  have keys : ∀ x ∈ ps, H x.2.1 = some (.tup (x.1.map kV)) := by
    have go : ∀ {rows : List (List Key × Addr × V)} {ws : List Value}, Paired (fun r u => H r.2.1 = some (.tup (r.1.map kV)) ∧ RelV r.2.2 u) rows ws → ∀ x ∈ List.zipWith (fun (r : List Key × Addr × V) (u : Value) => (r.1, r.2.1, u)) rows ws, H x.2.1 = some (.tup (x.1.map kV)) := by
      intro rows ws h
      induction h with
      | nil => intro x hx; simp at hx
      | cons h _ ih =>
        intro x hx
        rw [List.zipWith_cons_cons] at hx
        rcases List.mem_cons.mp hx with rfl | hx
        · exact h.1
        · exact ih x hx
    exact go pw
  refine call_dict_pairsH (knd := tupleKind (mixKind X.prog X.w)) (ps := ps) (PairArg.list a (ts.map Value.ref).toArray (fun j => ts.getD j 0) prs) (I.ok.hd hc) (show X.A.in1.in1.units < cLine from (show X.A.units + 2 < cLine by omega)) ⟨plain, items⟩ ⟨by rw [lq, lp], fun i k v hk => ?_⟩ (fun g old x hx => ?_) (by rw [lp, ← l1]; exact hz) fun g tk hd old => ?_
  · have hlt : i < rows.length := by have := (List.getElem?_eq_some_iff.mp hk).1; omega
    obtain ⟨r, u, h1, h2, _⟩ := each i ts[i] (List.getElem?_eq_getElem (by omega))
    have e : prs[i]? = some (.ref r.2.1, u) := by simp only [prs, List.getElem?_zipWith, h1, h2]
    have hk : prs[i]? = some (k, v) := hk
    rw [e] at hk
    cases hk
    exact ⟨r.1, r.2.1, by simp only [ps, List.getElem?_zipWith, h1, h2], rfl⟩
  · obtain ⟨o, its, n, g1, g2, g3, g4⟩ := key_of (P := X.prog) (w := X.w) I.hok (keys x hx)
    exact ⟨o, its, n, old _ o (Nat.ne_of_lt (Heap.lt_size g1)) (by simp) g1, g2, g3, g4⟩
  · obtain ⟨o, es, ep, p1, p2, p3, p4, _, p5⟩ := hd
    have hf := I.hok.fresh (Nat.le_refl s.heap.objs.size)
    have hl : (storeAll rows).length ≤ sizeLine := Nat.le_trans (storeAll_len rows []) (by rw [List.length_nil, Nat.zero_add, ← l1]; exact hz)
    refine ⟨.ref s.heap.objs.size, upd H s.heap.objs.size (.dT (storeAll rows)), I.laid (t' := tk) (fun b u e => old b u (by simp) e) (Nat.le_refl _) ⟨hl, hm, _, (kt_all pw .nil).keeps fun b ys e => ?_, o, es, ep, p1, p2, p3, p4, p5⟩, rfl, q _ hf⟩
    rw [upd_ne (ne_of_none e hf)]
    exact e
end Z
/-! sorted(rows), rows a list or a tuple of tuples of ints of any size -/
namespace Z
open PySem PySem.Spec PyProof.Rows L2
open Evl (Ex)
/-- row a does not stand behind row b -/
def leI (a b : List Int) : Bool := !lexLt itemOrd (b.map Sum.inl) (a.map Sum.inl)
theorem leI_iff {a b : List Int} : leI a b = true ↔ (listOrd itemOrd).kle (a.map Sum.inl) (b.map Sum.inl) := by
  unfold leI KeyOrd.kle
  rw [Bool.not_eq_true']
theorem leI_trans (a b c : List Int) (h1 : leI a b = true) (h2 : leI b c = true) : leI a c = true := leI_iff.mpr (KeyOrd.kle_trans (leI_iff.mp h1) (leI_iff.mp h2))
theorem leI_total (a b : List Int) : (leI a b || leI b a) = true := by
  rw [Bool.or_eq_true]
  by_cases h : (listOrd itemOrd).klt (a.map Sum.inl) (b.map Sum.inl)
  · exact .inl (leI_iff.mpr (KeyOrd.kle_of_klt h))
  · exact .inr (leI_iff.mpr (KeyOrd.kle_of_not_klt h))
theorem inl_inj {a b : List Int} (h : a.map (Sum.inl (β := List Nat)) = b.map Sum.inl) : a = b := by
  induction a generalizing b with
  | nil => cases b with
    | nil => rfl
    | cons y b => cases h
  | cons x a ih => cases b with
    | nil => cases h
    | cons y b =>
      rw [List.map_cons, List.map_cons] at h
      injection h with h1 h2
      injection h1 with h1
      rw [h1, ih h2]
theorem leI_anti (a b : List Int) (h1 : leI a b = true) (h2 : leI b a = true) : a = b := inl_inj (KeyOrd.kle_antisymm (leI_iff.mp h1) (leI_iff.mp h2))
/-- the rows in order -/
def sortI (rows : List (List Int)) : List (List Int) := rows.mergeSort leI
theorem sortI_perm (rows : List (List Int)) : (sortI rows).Perm rows := List.mergeSort_perm _ _
theorem sortI_pw (rows : List (List Int)) : (sortI rows).Pairwise (fun a b => leI a b = true) := List.pairwise_mergeSort leI_trans leI_total rows
theorem sortI_uniq {rows l : List (List Int)} (hp : l.Perm rows) (hw : l.Pairwise (fun a b => leI a b = true)) : l = sortI rows :=
  List.Perm.eq_of_pairwise (fun a b _ _ => leI_anti a b) hw (sortI_pw rows) (hp.trans (sortI_perm rows).symm)
section
variable {prog : Program} {w : World} {A : Around} {E : Value → Shared → Prop} {s : Shared}
/-- a tuple's items taken into a new list -/
theorem collect_tup {t : Addr} {vs : List Value} {Q : List Value → Shared → Prop} (ht : s.heap.IsTuple t vs.toArray) (hl : vs.length ≤ sizeLine)
    (h : Q vs { s with heap := (s.heap.push (seqObj "list" #[] 0)).update s.heap.objs.size (Obj.mapSeq (· ++ vs.toArray)) }) : wpAny (model prog w) A (collect (.ref t)) Q E s := by
  obtain ⟨o, ho, hc, n, hd⟩ := ht
  have new : (s.heap.push (seqObj "list" #[] 0)).get? s.heap.objs.size = some (seqObj "list" #[] 0) := Heap.get?_push_size _ rfl
  have old : (s.heap.push (seqObj "list" #[] 0)).get? t = some o := Heap.get?_push_of_some _ ho
  have fits : (#[] ++ vs.toArray : Array Value).size ≤ sizeLine + 1 := by simp; omega
  unfold collect
  refine wpAny_bind (wpAny_runValue (codeAny_builtin entry_proto_collect' ?_))
  show wpAny _ _ (newList [] >>= fun l => again (.builtin "list.__iadd__" ⟨[l, .ref t], []⟩)) _ _ s
  refine wpAny_bind (wpAny_newList (wpAny_pure ⟨Code.quiet_builtin _ (by decide +kernel), codeAny_builtin entry_list_iadd' ?_⟩))
  show wpAny _ _ (Builtin.List.listExtendWith (.ref s.heap.objs.size) (.ref t) (.ref s.heap.objs.size)) _ _ { s with heap := s.heap.push (seqObj "list" #[] 0) }
  unfold Builtin.List.listExtendWith
  refine wpAny_bind (wpAny_typeOf (T := "tuple") ⟨o, old, hc⟩ ?_)
  have isT : (Value.type "tuple" == Value.type "tuple") = true := by rfl
  simp only [isT, Bool.or_true, if_true]
  refine wpAny_bind (listItems_at old hd (wpAny_bind (listItems_at (xs := #[]) (n := 0) new rfl ?_)))
  simp only [Array.isEmpty_empty, Bool.not_true, Bool.false_and, Bool.false_eq_true, if_false]
  refine wpAny_bind (listUpdate_at (xs := #[]) (n := 0) new rfl ?_ (Nat.zero_le _) fits)
  refine wpAny_pure ?_
  have made : ((s.heap.push (seqObj "list" #[] 0)).update s.heap.objs.size (Obj.mapSeq (· ++ vs.toArray))).get? s.heap.objs.size = _ := get?_update_seq new _
  refine wpAny_bind (wpAny_load made ?_)
  show wpAny _ _ (pure ((#[] : Array Value) ++ vs.toArray).toList) Q E _
  rw [Array.toList_append, List.nil_append]
  exact wpAny_pure h
open G in
/-- sorted(t), t a tuple -/
theorem sorted_tup {κ : KeyKind} {kd : SortKind} {t : Addr} {vs : List Value} {Q : Value → Shared → Prop} (ht : s.heap.IsTuple t vs.toArray) (hl : vs.length ≤ sizeLine) (hk : KeysOf κ (pairsOf vs)) (hO : ∀ s2 : Shared, KeepsTups s.heap s2.heap → LtAt prog w s2 κ kd)
    (hkk : 2 ≤ vs.length → ∀ (A : Around) (E : Value → Shared → Prop) (s2 : Shared) {Q : SortKind → Shared → Prop}, KeepsTups s.heap s2.heap → Q kd s2 → wpAny (model prog w) A (keyKind' vs.toArray) Q E s2)
    (h : ∀ st : SortSt, (arrOf st).Perm (pairsOf vs) → SortedToK κ (arrOf st) (pairsOf vs).size → Q (.ref (s.heap.objs.size + 1)) { s with heap := sortedAll s.heap vs ((arrOf st).map (·.2)) }) :
    wpAny (model prog w) A (call (.builtin "sorted") [.ref t]) Q E s := by
  have n0 : (s.heap.push (seqObj "list" #[] 0)).get? s.heap.objs.size = some (seqObj "list" #[] 0) := Heap.get?_push_size _ rfl
  generalize hm : (s.heap.push (seqObj "list" #[] 0)).update s.heap.objs.size (Obj.mapSeq (· ++ vs.toArray)) = m
  have mz : m.objs.size = s.heap.objs.size + 1 := by rw [← hm, Heap.size_update, Heap.size_push]
  have k1 : KeepsTups s.heap m := by rw [← hm]; exact (KeepsTups.push _ _).trans (KeepsTups.update _ n0 not_tuple_list)
  have nl : (m.push (seqObj "list" vs.toArray 0)).get? (s.heap.objs.size + 1) = some (seqObj "list" vs.toArray 0) := by rw [← mz]; exact Heap.get?_push_size _ rfl
  have k2 := (k1.trans (KeepsTups.push m (seqObj "list" vs.toArray 0))).trans (keeps_sort6 (vs := vs) nl)
  refine Calls.call_function_entry kind_sorted plain_sorted entry_sorted (args_sorted1 _) ?_
  unfold Builtin.«sorted»
  refine wpAny_bind (m := checkCount "sorted" 1 1 _) (wpAny_pure (wpAny_bind (collect_tup ht hl ?_)))
  rw [hm]
  refine wpAny_bind (wpAny_newList ?_)
  show wpAny _ _ _ _ _ { s with heap := m.push (seqObj "list" vs.toArray 0) }
  rw [mz]
  refine wpAny_bind (wpAny_holding (wpAny_call_entry slot_list_sort ⟨_, nl, rfl⟩ entry_list_sort (list_sort_treeG nl hk (hO _ k2) (fun h2 R q => hkk h2 _ _ _ k2 q) hl fun st p1 p2 _ => ⟨_, rfl, wpAny_pure ⟨_, rfl, ?_⟩⟩) (args_list_sort _)))
  have q := h st p1 p2
  unfold sortedAll at q
  rw [hm] at q
  exact q
end
/-- x is a row of these ints -/
def RowI (K : Fg) (H : Hp) (x : V) (ns : List Int) : Prop := ∃ t, x = .ref t ∧ SqT K H t (ns.map V.int)
def rSortC (K : Fg) : List V → Hp → VK → Prop := fun vs H Q => ∃ (a : Addr) (xs : List V), vs = [.ref a] ∧ (SqL K H a xs ∨ SqT K H a xs) ∧ (∀ x ∈ xs, ∃ ns, RowI K H x ns ∧ ns ≠ []) ∧
  ∀ (ys : List V) (p : Addr), ys.Perm xs → ys.Pairwise (fun x y => ∀ n m, RowI K H x n → RowI K H y m → leI n m = true) → H p = none → Q (.ref p) (upd H p (.lst ys))
def refV : Value → V
  | .ref a => .ref a
  | _ => .non
theorem items_ints {ns : List Int} : ∀ {us : List Value} (i : Nat), Vals (ns.map V.int) us → tupItems (fun _ => false) i us = some (ns.map Sum.inl) := by
  induction ns with
  | nil => intro us i h; cases h; rfl
  | cons n ns ih =>
    intro us i h
    cases h with
    | cons a b =>
      obtain ⟨t, rfl⟩ := a
      show Option.map _ (tupItems _ (i + 1) _) = _
      rw [ih (i + 1) b]
      rfl
theorem vals_refs {xs : List V} {us : List Value} (h : Vals xs us) (hr : ∀ x ∈ xs, ∃ a, x = V.ref a) : xs = us.map refV ∧ us = (us.map refV).map (fun v => match v with | .ref a => Value.ref a | _ => .none) := by
  induction h with
  | nil => exact ⟨rfl, rfl⟩
  | @cons x u xs us a b ih =>
    obtain ⟨t, rfl⟩ := hr _ List.mem_cons_self
    cases a
    obtain ⟨h1, h2⟩ := ih fun y hy => hr y (List.mem_cons_of_mem _ hy)
    rw [List.map_cons, List.map_cons, ← h2, ← h1]
    exact ⟨rfl, rfl⟩
section
variable {X : Cx} {pins : List (Addr × Obj)} {σ : L2.St} {H : Hp} {s : Shared}
theorem row_key (I : Inv X pins σ H s) {x : V} {ns : List Int} (h : RowI X.K H x ns) : ∃ t, x = .ref t ∧ G.tupKeyC s.heap (fun _ => false) (.ref t) = some (ns.map Sum.inl) := by
  obtain ⟨t, rfl, hq⟩ := h
  obtain ⟨us, rv, ⟨o, ho, hc, n, hd⟩, _⟩ := I.tuple hq
  refine ⟨t, rfl, ?_⟩
  exact G.tupKeyC_of ho hc hd (items_ints 0 rv)
theorem row_first (I : Inv X pins σ H s) {x : V} {ns : List Int} (h : RowI X.K H x ns) (h0 : ns ≠ []) : ∃ t f, x = .ref t ∧ TupOf s.heap (fun _ => false) (.ref t) f := by
  obtain ⟨t, rfl, hq⟩ := h
  obtain ⟨us, rv, ⟨o, ho, hc, n, hd⟩, _⟩ := I.tuple hq
  cases ns with
  | nil => exact absurd rfl h0
  | cons m ns =>
    cases rv with
    | cons a b =>
      obtain ⟨k, rfl⟩ := a
      exact ⟨t, _, rfl, t, o, _, n, rfl, ho, hc, hd, rfl, fun _ => ⟨_, _, rfl⟩, fun z => nomatch z⟩
theorem cr_sortC : CallR X (.builtin "sorted") (rSortC X.K) := by
  rintro pins s σ H vs us Q I r ⟨a, xs, rfl, hs, hx, q⟩
  rw [Vals.ref1 r]
  have refs : ∀ x ∈ xs, ∃ a, x = V.ref a := fun x m => by obtain ⟨ns, ⟨t, e, _⟩, _⟩ := hx x m; exact ⟨t, e⟩
  -- the items as they stand, their keys
  have main : ∀ its : List Value, Vals xs its → xs.length ≤ sizeLine → (∀ w', (s.heap.IsList a its.toArray → w') ∧ (s.heap.IsTuple a its.toArray → w') → w') → wpAny (model X.prog X.w) X.A (call (.builtin "sorted") [.ref a]) (EP X pins σ Q) X.xe s := by
    intro its rv hz kind
    obtain ⟨e1, e2⟩ := vals_refs rv refs
    have hl : its.length ≤ sizeLine := by rw [← rv.length]; exact hz
    have each : ∀ u ∈ its, ∃ ns, RowI X.K H (refV u) ns ∧ ns ≠ [] := fun u hu => hx _ (by rw [e1]; exact List.mem_map_of_mem hu)
    have ref : ∀ u ∈ its, ∀ t, refV u = .ref t → u = .ref t := fun u _ t e => by
      cases u <;> first | (injection e with e; rw [e]) | (exact nomatch (show V.non = V.ref t from e))
    have keys : ∀ u, u ∈ its → ∃ l, G.tupKeyC s.heap (fun _ => false) u = some l := fun u hu => by
      obtain ⟨ns, h1, _⟩ := each u hu
      obtain ⟨t, e, k⟩ := row_key I h1
      rw [ref u hu t e]
      exact ⟨_, k⟩
    have firsts : ∃ fs, TupsOf s.heap (fun _ => false) its fs := by
      have go : ∀ l : List Value, (∀ u ∈ l, u ∈ its) → ∃ fs, TupsOf s.heap (fun _ => false) l fs := by
        intro l
        induction l with
        | nil => exact fun _ => ⟨[], .nil⟩
        | cons u l ih =>
          intro h
          obtain ⟨fs, hfs⟩ := ih fun v hv => h v (List.mem_cons_of_mem _ hv)
          have hu := h u List.mem_cons_self
          obtain ⟨ns, h1, h0⟩ := each u hu
          obtain ⟨t, f, e, k⟩ := row_first I h1 h0
          rw [ref u hu t e]
          exact ⟨f :: fs, .cons k hfs⟩
      exact go its fun _ h => h
    obtain ⟨fs, tf⟩ := firsts
    have out : ∀ st : SortSt, (arrOf st).Perm (pairsOf its) → SortedToK (G.tupKindC s.heap (fun _ => false)) (arrOf st) (pairsOf its).size → EP X pins σ Q (.ref (s.heap.objs.size + 1)) { s with heap := sortedAll s.heap its ((arrOf st).map (·.2)) } := by
      intro st hp hst
      generalize arrOf st = arr at hp hst ⊢
      have hpl : arr.toList.Perm (its.zip its) := by rw [← pairsOf_toList]; exact Array.perm_iff_toList_perm.mp hp
      have twin : ∀ p ∈ arr.toList, p.1 = p.2 ∧ p.1 ∈ its := fun p hp => mem_zip_self (hpl.mem_iff.mp hp)
      have po : (arr.map (·.2)).toList.Perm its := by
        rw [Array.toList_map]
        have z := hpl.map Prod.snd
        rw [List.map_snd_zip (Nat.le_refl _)] at z
        exact z
      obtain ⟨ep, at_⟩ := sortedAll_at s.heap its (arr.map (·.2))
      have py : ((arr.map (·.2)).toList.map refV).Perm xs := by rw [e1]; exact po.map refV
      have vals : Vals ((arr.map (·.2)).toList.map refV) (arr.map (·.2)).toList := by
        have go : ∀ l : List Value, (∀ u ∈ l, u ∈ its) → Vals (l.map refV) l := by
          intro l
          induction l with
          | nil => exact fun _ => .nil
          | cons u l ih =>
            intro h
            have hu := h u List.mem_cons_self
            obtain ⟨ns, ⟨t, e, _⟩, _⟩ := each u hu
            refine .cons ?_ (ih fun v hv => h v (List.mem_cons_of_mem _ hv))
            rw [e, ref u hu t e]
            rfl
        exact go _ fun u hu => po.mem_iff.mp hu
      have fresh := I.hok.fresh (Nat.le_succ s.heap.objs.size)
      refine ⟨.ref (s.heap.objs.size + 1), upd H (s.heap.objs.size + 1) (.lst ((arr.map (·.2)).toList.map refV)), I.laid (t' := s.toks) (fun b o e => sortedAll_old e) (Nat.le_succ _) ⟨by rw [py.length_eq]; exact hz, _, ep, vals, at_⟩, rfl, q _ _ py ?_ fresh⟩
      rw [List.pairwise_map, List.pairwise_iff_getElem]
      intro i j hi hj hij n m hn hm
      have hi' : i < arr.size := by simpa using hi
      have hj' : j < arr.size := by simpa using hj
      have hsz : (pairsOf its).size = arr.size := hp.size_eq.symm
      have le := hst i j (Nat.le_of_lt hij) (by rw [hsz]; exact hj')
      have kk : ∀ (k : Nat) (hk : k < arr.size) (l : List Int), RowI X.K H (refV ((arr.map (·.2)).toList[k]'(by simpa using hk))) l → KK (G.tupKindC s.heap (fun _ => false)) arr k = l.map Sum.inl := by
        intro k hk l hl
        have e3 : (arr.map (·.2)).toList[k]'(by simpa using hk) = arr[k].2 := by simp
        rw [e3] at hl
        have mem : arr[k] ∈ arr.toList := by simp
        obtain ⟨t1, t2⟩ := twin _ mem
        obtain ⟨t, e4, k4⟩ := row_key I hl
        have e5 : arr[k].1 = .ref t := by
          have : arr[k].2 ∈ its := by rw [← t1]; exact t2
          rw [t1]
          exact ref _ this t e4
        unfold KK
        rw [Array.getElem?_eq_getElem hk]
        show (G.tupKeyC s.heap (fun _ => false) arr[k].1).getD [] = _
        rw [e5, k4]
        rfl
      rw [kk i hi' n hn, kk j hj' m hm] at le
      exact leI_iff.mpr le
    refine kind _ ⟨fun hL => ?_, fun hT => ?_⟩
    · exact G.sortedG hL (G.tupKeys keys) (fun s2 k => G.tupC_ltAt (s := s2) true k) (fun h2 _ _ s2 _ k hq => tup_kind (s := s2) (by rw [G.TupsOf.length tf]; omega) (G.TupsOf.keep k tf) hq) hl fun st p1 p2 _ => out st p1 p2
    · exact sorted_tup hT hl (G.tupKeys keys) (fun s2 k => G.tupC_ltAt (s := s2) true k) (fun h2 _ _ s2 _ k hq => tup_kind (s := s2) (by rw [G.TupsOf.length tf]; omega) (G.TupsOf.keep k tf) hq) out
  rcases hs with hs | hs
  · obtain ⟨its, rv, pl, hz⟩ := I.list hs
    exact main its rv hz fun w' h => h.1 pl.isList
  · obtain ⟨its, rv, pt, hz⟩ := I.tuple hs
    exact main its rv hz fun w' h => h.2 pt
end
end Z
/-! rows sorted, compared; min, max, any, list(..) over data; dicts as own cells; defs that hand back a dict -/
namespace Z
open PySem PySem.Spec PyProof.Rows L2
open Evl (Ex)
abbrev rowD (r : List Int) : PyData := .tuple (r.map .int)
theorem paired_perm {α β : Type} {F : α → β → Prop} {xs ys : List α} (hp : ys.Perm xs) : ∀ {rs : List β}, Paired F xs rs → ∃ rs', rs'.Perm rs ∧ Paired F ys rs' := by
  induction hp with
  | nil => intro rs h; exact ⟨rs, .refl _, h⟩
  | cons x _ ih =>
    intro rs h
    cases h with
    | cons a b =>
      obtain ⟨rs', p, q⟩ := ih b
      exact ⟨_ :: rs', p.cons _, .cons a q⟩
  | swap x y l =>
    intro rs h
    cases h with
    | cons a b => cases b with
      | cons c d => exact ⟨_, .swap _ _ _, .cons c (.cons a d)⟩
  | trans _ _ ih1 ih2 =>
    intro rs h
    obtain ⟨r1, p1, q1⟩ := ih2 h
    obtain ⟨r2, p2, q2⟩ := ih1 q1
    exact ⟨r2, p2.trans p1, q2⟩
section
variable {K : Fg} {E : L2.St → XK} {e0 : XK} {te ta tb tk tv td : TE} {tA : TA} {t : TS} {g : TG} {S : Zs} {M M' : Ms} {P : ZP} {Q : QZ} {X : XZ} {n : Sn} {σ : L2.St} {G G' H H' : Hp}
theorem dza_rows {rows : List (List Int)} : ∀ {vs : List V}, DzAll K G vs (rows.map rowD) → Paired (fun v r => Dz K G v (rowD r)) vs rows := by
  induction rows with
  | nil => intro vs h; cases h; exact .nil
  | cons r rows ih => intro vs h; cases h with | cons a b => exact .cons a (ih b)
theorem rows_dza {rows : List (List Int)} {vs : List V} (h : Paired (fun v r => Dz K G v (rowD r)) vs rows) : DzAll K G vs (rows.map rowD) := by
  induction h with
  | nil => exact .nil
  | cons a _ ih => exact .cons a ih
theorem dza_ints {ns : List Int} : ∀ {vs : List V}, DzAll K G vs (ns.map .int) → vs = ns.map V.int := by
  induction ns with
  | nil => intro vs h; cases h; rfl
  | cons i ns ih => intro vs h; cases h with | cons a b => rw [dp_int a, ih b]; rfl
theorem dza_bools {bs : List Bool} : ∀ {vs : List V}, DzAll K G vs (bs.map .bool) → vs = bs.map V.bl := by
  induction bs with
  | nil => intro vs h; cases h; rfl
  | cons i bs ih => intro vs h; cases h with | cons a b => rw [dp_bl a, ih b]; rfl
theorem dz_row {v : V} {r : List Int} (e : Ex G H) (h : Dz K G v (rowD r)) : RowI K H v r := by
  obtain ⟨p, ws, rfl, h1, h2⟩ := dp_tup h
  rw [dza_ints h2] at h1
  exact ⟨p, rfl, Evl.ex_t e h1⟩
theorem sorted_fin {rows : List (List Int)} {vs ys : List V} (e : Ex G H) (h : DzAll K G vs (rows.map rowD)) (hp : ys.Perm vs) (hw : ys.Pairwise (fun x y => ∀ n m, RowI K H x n → RowI K H y m → leI n m = true)) : DzAll K G ys ((sortI rows).map rowD) := by
  obtain ⟨rs, p, q⟩ := paired_perm hp (dza_rows h)
  have pw : rs.Pairwise (fun a b => leI a b = true) := by
    clear p hp h
    induction q with
    | nil => exact .nil
    | @cons y r ys rs a b ih =>
      obtain ⟨w1, w2⟩ := List.pairwise_cons.mp hw
      refine List.pairwise_cons.mpr ⟨fun r' hr' => ?_, ih w2⟩
      obtain ⟨i, hi, rfl⟩ := List.getElem_of_mem hr'
      have go : ∀ {ys : List V} {rs : List (List Int)}, Paired (fun v r => Dz K G v (rowD r)) ys rs → ∀ (i : Nat) (hi : i < rs.length), ∃ y, y ∈ ys ∧ Dz K G y (rowD rs[i]) := by
        intro ys rs q
        induction q with
        | nil => intro i hi; simp at hi
        | cons a _ ih =>
          intro i hi
          cases i with
          | zero => exact ⟨_, List.mem_cons_self, a⟩
          | succ i =>
            obtain ⟨y, m, d⟩ := ih i (by simpa using hi)
            exact ⟨y, List.mem_cons_of_mem _ m, d⟩
      obtain ⟨y', m, d⟩ := go b i hi
      exact w1 y' m _ _ (dz_row e a) (dz_row e d)
  rw [← sortI_uniq p pw]
  exact rows_dza q
theorem zc_sortL {rows : List (List Int)} (h0 : ∀ r ∈ rows, r ≠ []) (q : Q (.d (.list ((sortI rows).map rowD))) M) : ZC K (rSortC K) [.d (.list (rows.map rowD))] M Q := fun n S σ G H R vs a Qv k => by
  obtain ⟨v, rfl, av⟩ := zall1 a
  obtain ⟨p, ws, rfl, h1, h2⟩ := dp_lst av
  refine ⟨p, ws, rfl, .inl (Evl.ex_l R.ex h1), fun x hx => ?_, fun ys r hp hw hr => ?_⟩
  · obtain ⟨rs, _, q'⟩ := paired_perm (.refl _) (dza_rows h2)
    have go : ∀ {ws : List V} {rows : List (List Int)}, Paired (fun v r => Dz K G v (rowD r)) ws rows → (∀ r ∈ rows, r ≠ []) → ∀ x ∈ ws, ∃ ns, RowI K H x ns ∧ ns ≠ [] := by
      intro ws rows q
      induction q with
      | nil => intro _ x hx; simp at hx
      | cons a _ ih =>
        intro h x hx
        rcases List.mem_cons.mp hx with rfl | hx
        · exact ⟨_, dz_row R.ex a, h _ List.mem_cons_self⟩
        · exact ih (fun r hr => h r (List.mem_cons_of_mem _ hr)) x hx
    exact go (dza_rows h2) h0 x hx
  · have gr := ex_gnone R.ex hr
    exact k (.ref r) _ _ (.d (.list ((sortI rows).map rowD))) M (Ex.new gr) (R.new hr (fun _ z => nomatch z)) (Dz.lst (Evl.sq_of upd_same) (dpAll_mono (Ex.new gr) (sorted_fin R.ex h2 hp hw))) q
theorem zc_sortT {rows : List (List Int)} (h0 : ∀ r ∈ rows, r ≠ []) (q : Q (.d (.list ((sortI rows).map rowD))) M) : ZC K (rSortC K) [.d (.tuple (rows.map rowD))] M Q := fun n S σ G H R vs a Qv k => by
  obtain ⟨v, rfl, av⟩ := zall1 a
  obtain ⟨p, ws, rfl, h1, h2⟩ := dp_tup av
  refine ⟨p, ws, rfl, .inr (Evl.ex_t R.ex h1), fun x hx => ?_, fun ys r hp hw hr => ?_⟩
  · have go : ∀ {ws : List V} {rows : List (List Int)}, Paired (fun v r => Dz K G v (rowD r)) ws rows → (∀ r ∈ rows, r ≠ []) → ∀ x ∈ ws, ∃ ns, RowI K H x ns ∧ ns ≠ [] := by
      intro ws rows q
      induction q with
      | nil => intro _ x hx; simp at hx
      | cons a _ ih =>
        intro h x hx
        rcases List.mem_cons.mp hx with rfl | hx
        · exact ⟨_, dz_row R.ex a, h _ List.mem_cons_self⟩
        · exact ih (fun r hr => h r (List.mem_cons_of_mem _ hr)) x hx
    exact go (dza_rows h2) h0 x hx
  · have gr := ex_gnone R.ex hr
    exact k (.ref r) _ _ (.d (.list ((sortI rows).map rowD))) M (Ex.new gr) (R.new hr (fun _ z => nomatch z)) (Dz.lst (Evl.sq_of upd_same) (dpAll_mono (Ex.new gr) (sorted_fin R.ex h2 hp hw))) q
/-- rows compared -/
def leQ (a b : List Int) : Bool := Ob.lexAt (fun j => decide (a.getD j 0 = b.getD j 0)) (fun j => decide (a.getD j 0 ≤ b.getD j 0)) (decide (a.length ≤ b.length)) 0 (min a.length b.length)
theorem leQ_two (a b c d : Int) : leQ [a, b] [c, d] = (decide (a < c) || (decide (a = c) && decide (b ≤ d))) := by
  unfold leQ
  simp only [List.length_cons, List.length_nil, Nat.min_self, Ob.lexAt_succ, Ob.lexAt_zero, List.getD_cons_zero, List.getD_cons_succ]
  by_cases h1 : a = c
  · subst h1
    by_cases h2 : b = d
    · subst h2; simp
    · simp [h2]
  · simp only [h1, decide_false, Bool.false_eq_true, if_false, Bool.false_and, Bool.or_false]
    by_cases h3 : a < c
    · simp [h3, Int.le_of_lt h3]
    · simp [h3]; omega
theorem op_leR {X : Cx} (hu : X.A.units + 64 < cLine) : OpR X (compareOp .LtE) (rLeT X.K) := op_leT (Nat.lt_of_le_of_lt (Nat.le_add_right _ _) hu)
theorem zo_leR {a b : List Int} (q : Q (.d (.bool (leQ a b))) M) : ZO K (rLeT K) (.d (rowD a)) (.d (rowD b)) M Q :=
  zo_val (z := .d (.bool (leQ a b))) (fun G H v u e x y => by
    obtain ⟨p, rfl, h1⟩ := dz_row e x
    obtain ⟨p2, rfl, h2⟩ := dz_row e y
    exact ⟨_, .bl _, fun Qv h => ⟨p, p2, a, b, rfl, rfl, h1, h2, h⟩⟩) q
/-! ### min, max, any, list -/
def IsMin (m : Int) (ns : List Int) : Prop := m ∈ ns ∧ ∀ y ∈ ns, m ≤ y
def IsMax (m : Int) (ns : List Int) : Prop := m ∈ ns ∧ ∀ y ∈ ns, y ≤ m
theorem zc_min {ns : List Int} {m : Int} (hm : IsMin m ns) (q : Q (.d (.int m)) M) : ZC K (rMin K) [.d (.list (ns.map .int))] M Q := zc_val (z := .d (.int m)) (fun G H vs e a => by
  obtain ⟨v, rfl, av⟩ := zall1 a
  obtain ⟨p, ws, rfl, h1, h2⟩ := dp_lst av
  rw [dza_ints h2] at h1
  refine ⟨.int m, Dz.int _, fun Qv hq => ⟨p, ns, rfl, Evl.ex_l e h1, List.length_pos_of_mem hm.1, fun m' a1 a2 => ?_⟩⟩
  rw [show m' = m by have := a2 m hm.1; have := hm.2 m' a1; omega]
  exact hq) q
theorem zc_max {ns : List Int} {m : Int} (hm : IsMax m ns) (q : Q (.d (.int m)) M) : ZC K (rMax K) [.d (.list (ns.map .int))] M Q := zc_val (z := .d (.int m)) (fun G H vs e a => by
  obtain ⟨v, rfl, av⟩ := zall1 a
  obtain ⟨p, ws, rfl, h1, h2⟩ := dp_lst av
  rw [dza_ints h2] at h1
  refine ⟨.int m, Dz.int _, fun Qv hq => ⟨p, ns, rfl, Evl.ex_l e h1, List.length_pos_of_mem hm.1, fun m' a1 a2 => ?_⟩⟩
  rw [show m' = m by have := a2 m hm.1; have := hm.2 m' a1; omega]
  exact hq) q
theorem zc_any {bs : List Bool} (q : Q (.d (.bool (bs.any id))) M) : ZC K (rAny K) [.d (.list (bs.map .bool))] M Q := zc_val (z := .d (.bool (bs.any id))) (fun G H vs e a => by
  obtain ⟨v, rfl, av⟩ := zall1 a
  obtain ⟨p, ws, rfl, h1, h2⟩ := dp_lst av
  rw [dza_bools h2] at h1
  exact ⟨.bl _, Dz.bl _, fun Qv hq => ⟨p, bs, rfl, Evl.ex_l e h1, hq⟩⟩) q
abbrev rListOf (K : Fg) : List V → Hp → VK → Prop := fun xs H Q => ∃ p ys, xs = [.ref p] ∧ (SqL K H p ys ∨ SqT K H p ys) ∧ ∀ l, H l = none → Q (.ref l) (upd H l (.lst ys))
theorem zc_listC {xs : List PyData} (q : ∀ p, Q (.c p) ((p, true, .lst xs) :: M)) : ZC K (rListOf K) [.d (.tuple xs)] M Q := fun n S σ G H R vs a Qv k => by
  obtain ⟨v, rfl, av⟩ := zall1 a
  obtain ⟨p, ys, rfl, h1, h2⟩ := dp_tup av
  exact ⟨p, ys, rfl, .inr (Evl.ex_t R.ex h1), fun l hl => k (.ref l) G _ (.c l) _ (Ex.refl G) (R.newLst hl h2) rfl (q l)⟩
theorem zc_listD {xs : List PyData} (q : Q (.d (.list xs)) M) : ZC K (rListOf K) [.d (.tuple xs)] M Q := fun n S σ G H R vs a Qv k => by
  obtain ⟨v, rfl, av⟩ := zall1 a
  obtain ⟨p, ys, rfl, h1, h2⟩ := dp_tup av
  refine ⟨p, ys, rfl, .inr (Evl.ex_t R.ex h1), fun l hl => ?_⟩
  have gl := ex_gnone R.ex hl
  exact k (.ref l) _ _ (.d (.list xs)) M (Ex.new gl) (R.new hl (fun _ z => nomatch z)) (Dz.lst (Evl.sq_of upd_same) (dpAll_mono (Ex.new gl) h2)) q
/-! ### dicts whose keys are rows -/
abbrev keyI (r : List Int) : List Key := r.map Sum.inl
theorem keyI_v (r : List Int) : (keyI r).map kV = r.map V.int := by
  rw [List.map_map]
  rfl
/-- what is held at a row -/
def heldP (kvs : List (List Key × PyData)) (k : List Key) : Option PyData := (kvs.find? fun kv => decide (kv.1 = k)).map (·.2)
def putP (kvs : List (List Key × PyData)) (k : List Key) (d : PyData) : List (List Key × PyData) := if (kvs.any fun kv => decide (kv.1 = k)) = true then kvs.map fun kv => if kv.1 = k then (kv.1, d) else kv else kvs ++ [(k, d)]
abbrev DPr (K : Fg) (G : Hp) : List (List Key × V) → List (List Key × PyData) → Prop := Paired (fun a b => a.1 = b.1 ∧ Dz K G a.2 b.2)
theorem held_rel {ws : List (List Key × V)} {kvs : List (List Key × PyData)} (h : DPr K G ws kvs) (k : List Key) : (heldP kvs k = none ∧ valV ws k = none) ∨ ∃ d v, heldP kvs k = some d ∧ valV ws k = some v ∧ Dz K G v d := by
  induction h with
  | nil => exact .inl ⟨rfl, rfl⟩
  | @cons a b ws kvs q _ ih =>
    unfold heldP valV at ih ⊢
    rw [List.find?_cons, List.find?_cons, ← q.1]
    by_cases e : a.1 = k
    · rw [decide_eq_true e]
      exact .inr ⟨_, _, rfl, rfl, q.2⟩
    · rw [decide_eq_false e]
      exact ih
theorem put_rel {ws : List (List Key × V)} {kvs : List (List Key × PyData)} (h : DPr K G ws kvs) (k : List Key) {v : V} {d : PyData} (a : Dz K G v d) : DPr K G (putK ws k v) (putP kvs k d) := by
  have an : (ws.any fun kv => decide (kv.1 = k)) = kvs.any fun kv => decide (kv.1 = k) := by
    induction h with
    | nil => rfl
    | cons q _ ih => rw [List.any_cons, List.any_cons, ih, q.1]
  unfold putK putP
  rw [an]
  split
  · rename_i hh
    clear an hh
    induction h with
    | nil => exact .nil
    | @cons x y ws kvs q _ ih =>
      rw [List.map_cons, List.map_cons]
      refine .cons ?_ ih
      rw [← q.1]
      split
      · exact ⟨rfl, a⟩
      · exact q
  · rename_i hh
    clear an hh
    induction h with
    | nil => exact .cons ⟨rfl, a⟩ .nil
    | cons q _ ih => exact .cons q ih
theorem dpr_len {ws : List (List Key × V)} {kvs : List (List Key × PyData)} (h : DPr K G ws kvs) : ws.length = kvs.length := paired_lens h
theorem dz_key {v : V} {i : Int} {r : List Int} (h : Dz K G v (rowD (i :: r))) : ∃ p, v = .ref p ∧ G p = some (.tup ((keyI (i :: r)).map kV)) := by
  cases h with
  | tup s a =>
    have e := dza_ints (ns := i :: r) a
    rcases s with s | ⟨_, x, l, s⟩
    · exact ⟨_, rfl, by rw [keyI_v, s, e]⟩
    · rw [e] at s
      cases s
/-- d.get(key, other) -/
theorem zw_dget2 (h : ZW K E td S M (fun z M1 => ∃ p, z = .c p ∧ (∃ b kvs, (p, b, CD.dT kvs) ∈ M1) ∧ ZW K E tk S M1 (fun y M2 => ∃ i r, y = .d (rowD (i :: r)) ∧ ZW K E tv S M2 (fun w M3 => ∃ b kvs o, w = .d o ∧ (p, b, CD.dT kvs) ∈ M3 ∧ Q (.d ((heldP kvs (keyI (i :: r))).getD o)) M3) X) X) X) :
    ZW K E (tDGet2 td tk tv) S M Q X := fun n σ G H R Qv k kx =>
  h n σ G H R _ (fun v G1 H1 z M1 e1 R1 a1 ⟨p, hz, ⟨b, kvs, hm⟩, h2⟩ => by
    subst hz
    have ev : v = .ref p := a1
    subst ev
    obtain ⟨_, ws, hw, _⟩ := R1.ce p b _ hm
    refine ⟨p, rfl, .inr ⟨ws, .inl hw⟩, h2 n σ G1 H1 R1 _ (fun y G2 H2 zy M2 e2 R2 a2 ⟨i, r, hy, h3⟩ => h3 n σ G2 H2 R2 _ (fun w G3 H3 zw M3 e3 R3 a3 ⟨b', kvs', o, hw3, hm3, q⟩ => ?_) ((kx.mono e1).mono e2)) (kx.mono e1)⟩
    subst hy hw3
    obtain ⟨c, rfl, hc⟩ := dz_key a2
    obtain ⟨_, ws', hw', rel⟩ := R3.ce p b' _ hm3
    refine ⟨_, DGet.t hw' (R3.ex _ _ (e3 _ _ hc)), ?_⟩
    have e123 := (e1.trans e2).trans e3
    rcases held_rel rel (keyI (i :: r)) with ⟨x1, x2⟩ | ⟨d, v, x1, x2, x3⟩
    · rw [x2]
      rw [x1] at q
      exact k w G3 H3 (.d o) M3 e123 R3 a3 q
    · rw [x2]
      rw [x1] at q
      exact k v G3 H3 (.d d) M3 e123 R3 x3 q) kx
/-- key in d -/
theorem zw_din (h : ZW K E tk S M (fun y M1 => ∃ i r, y = .d (rowD (i :: r)) ∧ ZW K E td S M1 (fun z M2 => ∃ p b kvs, z = .c p ∧ (p, b, CD.dT kvs) ∈ M2 ∧ Q (.d (.bool (heldP kvs (keyI (i :: r))).isSome)) M2) X) X) : ZW K E (tDIn tk td) S M Q X := fun n σ G H R Qv k kx =>
  h n σ G H R _ (fun y G1 H1 zy M1 e1 R1 a1 ⟨i, r, hy, h2⟩ => h2 n σ G1 H1 R1 _ (fun v G2 H2 z M2 e2 R2 a2 ⟨p, b, kvs, hz, hm, q⟩ => by
    subst hy hz
    have ev : v = .ref p := a2
    subst ev
    obtain ⟨c, rfl, hc⟩ := dz_key a1
    obtain ⟨_, ws, hw, rel⟩ := R2.ce p b _ hm
    refine ⟨p, _, rfl, DGet.t hw (R2.ex _ _ (e2 _ _ hc)), ?_⟩
    have same : (valV ws (keyI (i :: r))).isSome = (heldP kvs (keyI (i :: r))).isSome := by
      rcases held_rel rel (keyI (i :: r)) with ⟨x1, x2⟩ | ⟨d, v, x1, x2, _⟩ <;> rw [x1, x2] <;> rfl
    rw [same]
    exact k _ G2 H2 (.d (.bool (heldP kvs (keyI (i :: r))).isSome)) M2 (e1.trans e2) R2 (Dz.bl _) q) (kx.mono e1)) kx
theorem Rel.putD {p : Addr} {b : Bool} {xs ys : List (List Key × PyData)} {ws : List (List Key × V)} (R : Rel K n S M σ G H) (u : Upd1 p b (.dT xs) (.dT ys) M M') (h : DPr K G ws ys) : Rel K n S M' σ G (upd H p (.dT ws)) := by
  obtain ⟨_, vs, h1, _⟩ := R.ce p b _ u.mem
  exact R.put u (fun x z => by rw [h1] at z; cases z) ⟨ws, upd_same, h⟩
theorem Rel.newD {p : Addr} {ws : List (List Key × V)} {xs : List (List Key × PyData)} (R : Rel K n S M σ G H) (hp : H p = none) (h : DPr K G ws xs) : Rel K n S ((p, true, .dT xs) :: M) σ G (upd H p (.dT ws)) :=
  (R.lay hp).cell (R.fresh hp) (R.notin hp) (ex_gnone R.ex hp) ⟨ws, upd_same, h⟩
/-- dict([..]) of rows and what they hold -/
def rowsP (rows : List (List Int × PyData)) : List (List Key × PyData) := rows.foldl (fun acc r => putP acc (keyI r.1) r.2) []
theorem zc_dict {rows : List (List Int × PyData)} (h0 : ∀ r ∈ rows, r.1 ≠ []) (q : ∀ p, Q (.c p) ((p, true, .dT (rowsP rows)) :: M)) : ZC K (rDictT K) [.d (.list (rows.map fun r => .tuple [rowD r.1, r.2]))] M Q := fun n S σ G H R vs a Qv k => by
  obtain ⟨v, rfl, av⟩ := zall1 a
  obtain ⟨p, ws, rfl, h1, h2⟩ := dp_lst av
  have go : ∀ {rows : List (List Int × PyData)} {ws : List V}, (∀ r ∈ rows, r.1 ≠ []) → DzAll K G ws (rows.map fun r => .tuple [rowD r.1, r.2]) → ∃ (ts : List Addr) (rs : List (List Key × Addr × V)), ws = ts.map V.ref ∧
      Paired (fun t r => SqT K H t [.ref r.2.1, r.2.2] ∧ H r.2.1 = some (.tup (r.1.map kV))) ts rs ∧ Paired (fun (a : List Key × Addr × V) (b : List Int × PyData) => a.1 = keyI b.1 ∧ Dz K G a.2.2 b.2) rs rows := by
    intro rows
    induction rows with
    | nil => intro ws _ h; cases h; exact ⟨[], [], rfl, .nil, .nil⟩
    | cons r rows ih =>
      intro ws h0 h
      cases h with
      | cons a b =>
        obtain ⟨ts, rs, e1, e2, e3⟩ := ih (fun r hr => h0 r (List.mem_cons_of_mem _ hr)) b
        obtain ⟨t, us, rfl, u1, u2⟩ := dp_tup a
        cases u2 with
        | cons x y => cases y with
          | cons y z =>
            cases z
            obtain ⟨k, d⟩ := r
            cases k with
            | nil => exact absurd rfl (h0 _ List.mem_cons_self)
            | cons i k =>
              obtain ⟨c, rfl, hc⟩ := dz_key x
              exact ⟨t :: ts, (keyI (i :: k), c, _) :: rs, by rw [e1]; rfl, .cons ⟨Evl.ex_t R.ex u1, R.ex _ _ hc⟩ e2, .cons ⟨rfl, y⟩ e3⟩
  obtain ⟨ts, rs, e1, e2, e3⟩ := go h0 h2
  rw [e1] at h1
  refine ⟨p, ts, rs, rfl, Evl.ex_l R.ex h1, e2, fun l hl => ?_⟩
  have fold : ∀ {rs : List (List Key × Addr × V)} {rows : List (List Int × PyData)}, Paired (fun (a : List Key × Addr × V) (b : List Int × PyData) => a.1 = keyI b.1 ∧ Dz K G a.2.2 b.2) rs rows → ∀ {ws : List (List Key × V)} {kvs : List (List Key × PyData)}, DPr K G ws kvs →
      DPr K G (rs.foldl (fun acc r => putK acc r.1 r.2.2) ws) (rows.foldl (fun acc r => putP acc (keyI r.1) r.2) kvs) := by
    intro rs rows q
    induction q with
    | nil => intro ws kvs h; exact h
    | cons a _ ih =>
      intro ws kvs h
      rw [List.foldl_cons, List.foldl_cons]
      refine ih ?_
      rw [a.1]
      exact put_rel h _ a.2
  exact k (.ref l) G _ (.c l) _ (Ex.refl G) (R.newD hl (fold e3 .nil)) rfl (q l)
theorem putP_len (kvs : List (List Key × PyData)) (k : List Key) (d : PyData) : (putP kvs k d).length ≤ kvs.length + 1 := by
  unfold putP
  split <;> simp
theorem rowsP_len (rows : List (List Int × PyData)) : ∀ acc : List (List Key × PyData), (rows.foldl (fun acc r => putP acc (keyI r.1) r.2) acc).length ≤ acc.length + rows.length := by
  induction rows with
  | nil => intro acc; exact Nat.le_refl _
  | cons r rows ih =>
    intro acc
    have h1 := ih (putP acc (keyI r.1) r.2)
    have h2 := putP_len acc (keyI r.1) r.2
    rw [List.foldl_cons, List.length_cons]
    omega
theorem rowsP_snoc {rows : List (List Int × PyData)} {i : Nat} {r : List Int × PyData} (h : rows[i]? = some r) : rowsP (rows.take (i + 1)) = putP (rowsP (rows.take i)) (keyI r.1) r.2 := by
  unfold rowsP
  rw [List.take_add_one, h, List.foldl_append]
  rfl
/-- {row: e for .. in a tuple} -/
theorem zw_dcT {vs : List Nat} (h : ZW K E ta S M (fun z M1 => ∃ (xs : List PyData) (rows : List (List Int × PyData)), z = .d (.tuple xs) ∧ xs.length ≤ sizeLine ∧ rows.length = xs.length ∧
      (∀ (i : Nat) (x : PyData) (r : List Int × PyData), xs[i]? = some x → rows[i]? = some r → ∃ is S2, (∀ j ∈ is, j ∈ vs) ∧ ZG K g (.d x) (wipeZ S vs) is S2 ∧ ∀ M2, ZW K E tk S2 M2 (fun y M3 => (y = .d (rowD r.1) ∧ r.1 ≠ []) ∧ M3 = M2) (fun _ _ _ => False) ∧ ZW K E tv S2 M2 (fun y M3 => y = .d r.2 ∧ M3 = M2) fun _ _ _ => False) ∧
      ∀ p, Q (.c p) ((p, true, .dT (rowsP rows)) :: M1)) X) : ZW K E (tDcT (iTup K ta) g tYes tk tv vs) S M Q X := fun n σ G H R Qv k kx =>
  h n σ G H R _ (fun v G1 H1 z M1 e1 R1 a1 ⟨xs, rows, hz, hs, hl, each, q⟩ => by
    subst hz
    obtain ⟨p, ws, rfl, h1, h2⟩ := dp_tup a1
    have hw := dpa_len h2
    refine ⟨p, rfl, ⟨ws, Evl.ex_t R1.ex h1⟩, fun D hD => ?_⟩
    refine ⟨fun i m H' => m = ws.length - i ∧ i ≤ ws.length ∧ ∃ G', Rel K n (wipeZ S vs) ((D, true, .dT (rowsP (rows.take i))) :: M1) (L2.wipe σ vs) G' H' ∧ Ex G1 G', ⟨_, rfl, Nat.zero_le _, G1, (R1.newD hD .nil).wipe vs, Ex.refl _⟩, ?_⟩
    rintro i m H2 ⟨rfl, hi, G2, R2, e2⟩
    have stay := Evl.ex_t (e2.trans R2.ex) h1
    by_cases hlt : i < ws.length
    · have hwi := List.getElem?_eq_getElem hlt
      obtain ⟨x, hx, ax⟩ := dpa_at_v h2 hwi
      have hri : i < rows.length := by omega
      have hr := List.getElem?_eq_getElem hri
      obtain ⟨is, S2, hsub, hg, hb⟩ := each i x _ hx hr
      refine .inr ⟨⟨ws, _, stay, hwi⟩, fun H' => ∃ G', Rel K n (wipeZ S vs) ((D, true, .dT (rowsP (rows.take (i + 1)))) :: M1) (L2.wipe σ vs) G' H' ∧ Ex G1 G', fun H' q' => ⟨_, by omega, rfl, hlt, q'⟩, fun y H' hy => ?_⟩
      obtain ⟨hH, hy⟩ := hy
      subst hH
      have ey := Option.some.inj ((hy ws stay).symm.trans hwi)
      subst ey
      refine hg n _ _ G2 _ _ R2 (dp_mono e2 ax) _ fun σ2 l2 g2 R3 => ?_
      refine ⟨wipe_eq l2 fun j hj => g2 j fun z => hj (hsub j z), ?_⟩
      show tYes _ _ _
      refine ⟨fun z => (nomatch z), fun _ => ?_⟩
      refine (hb _).1 n _ G2 _ R3 _ (fun w G4 H4 z M4 e4 R4 a4 ⟨⟨hz, h0⟩, hM⟩ => ?_) (fun _ _ _ _ _ _ _ _ _ _ z => z.elim)
      subst hz hM
      refine (hb _).2 n _ G4 _ R4 _ (fun w5 G5 H5 z M5 e5 R5 a5 ⟨hz, hM⟩ => ?_) (fun _ _ _ _ _ _ _ _ _ _ z => z.elim)
      subst hz hM
      have hk : ∃ c, w = .ref c ∧ H5 c = some (.tup ((keyI rows[i].1).map kV)) := by
        cases hr1 : rows[i].1 with
        | nil => exact absurd hr1 h0
        | cons a r =>
          rw [hr1] at a4
          obtain ⟨c, hc1, hc2⟩ := dz_key a4
          exact ⟨c, hc1, R5.ex _ _ (e5 _ _ hc2)⟩
      obtain ⟨c, rfl, hc⟩ := hk
      obtain ⟨_, kvs, hkv, rel⟩ := R5.ce D true _ m0
      have hlen : kvs.length < sizeLine := by
        have := rowsP_len (rows.take i) []
        rw [paired_lens rel]
        rw [List.length_take, List.length_nil] at this
        unfold rowsP
        omega
      refine ⟨kvs, _, c, rfl, hc, hkv, hlen, G5, ?_, (e2.trans e4).trans e5⟩
      rw [rowsP_snoc hr]
      exact (R2.reslot R5 (e4.trans e5)).putD .here (put_rel rel _ a5)
    · have e : i = ws.length := by omega
      subst e
      refine .inl ⟨⟨ws, stay, Nat.le_refl _⟩, ?_⟩
      rw [List.take_of_length_le (by omega)] at R2
      exact k (.ref D) G2 H2 (.c D) _ (e1.trans e2) (R1.reslot R2 e2) rfl (q D)) kx
/-! ### a def over data that hands back an own thing -/
def spE (K : Fg) (k : Nat) (R : List PyData → CD → Prop) : Sp := fun vs H Q E => ∃ (G : Hp) (ds : List PyData) (c : CD), Ex G H ∧ ds.length = k ∧ DzAll K G vs ds ∧ R ds c ∧
  ∀ p G' H', Ext [] G H G' H' → H p = none → G' p = none → CD.at K G' H' p c → Q (.ref p) H'
def PFe (c : CD) : ZP := ⟨fun _ _ => False, fun z M => ∃ p, z = .c p ∧ (p, true, c) ∈ M, fun _ _ => False, fun _ _ => False, fun _ _ _ => False⟩
theorem fn_E {R : List PyData → CD → Prop} {k : Nat} {N : List Str} {vs : List V} {Qv : VK} (h : spE K k R vs H Qv e0) (b : ∀ ds c, ds.length = k → R ds c → ZS K (fun _ => e0) t (stS ds ++ List.replicate (N.length - ds.length) none) [] (PFe c)) : t { nx := fun _ H' => Qv .non H', rt := Qv } (L2.start N vs) H := by
  obtain ⟨G, ds, c, e, hk, hd, hR, q⟩ := h
  refine b ds c hk hR ⟨G, H, []⟩ _ G H (rel_start e hd) _ ⟨fun _ _ _ _ _ _ _ z => z.elim, fun v σ' G' H' z S' M' _ R a z' => ?_, fun _ _ _ _ _ _ _ z => z.elim, fun _ _ _ _ _ _ _ z => z.elim, fun _ _ _ _ _ _ _ _ _ _ _ z => z.elim⟩
  obtain ⟨p, hz, hm⟩ := z'
  subst hz
  have ev : v = .ref p := a
  subst ev
  obtain ⟨h1, h2⟩ := R.ce p true _ hm
  exact q p G' H' R.ext (R.o0 p _ hm) h1 h2
theorem len_E {R : List PyData → CD → Prop} {k : Nat} {vs : List V} {Qv : VK} (h : spE K k R vs H Qv e0) : vs.length = k := by
  obtain ⟨G, ds, c, e, hk, hd, _⟩ := h
  rw [dpa_len hd, hk]
theorem zw_callE0 {ar : Nat} {R : List PyData → CD → Prop} (h : ZA K E tA S M (fun zs M1 => ∃ ds c, AllD zs ds ∧ ds.length = ar ∧ R ds c ∧ ∀ p, Q (.c p) ((p, true, c) :: M1)) X) : ZW K E (tCall (spE K ar R) [] E0 tA) S M Q X := fun n σ G H Rl Qv k kx =>
  h n σ G H Rl _ (fun vs G1 H1 zs M1 e1 R1 a1 ⟨ds, c, hd, hk, hR, q⟩ => by
    refine ⟨G1, ds, c, R1.ex, hk, ?_, hR, fun p G' H' e hp hg hc => ?_⟩
    · rw [List.append_nil]
      exact zall_d (by rw [← hd]; exact a1)
    · exact k (.ref p) G' H' (.c p) _ (e1.trans e.g) ((R1.call e).cell (R1.fresh hp) (R1.notin hp) hg hc) rfl (q p)) kx
end
end Z
/-! [e for .. in a tuple if test] as filter and map -/
namespace Z
open PySem PySem.Spec PyProof.Rows L2
open Evl (Ex)
section
variable {K : Fg} {E : L2.St → XK} {te ta tb : TE} {tt : TT} {g : TG} {S : Zs} {M : Ms} {Q : QZ} {X : XZ}
theorem ZT.imp {Q Q' : Bool → Ms → Prop} (h : ZT K E tt S M Q X) (i : ∀ z M', Q z M' → Q' z M') : ZT K E tt S M Q' X := fun n σ G H R Qv q x => h n σ G H R Qv (fun v G' H' M' e R' b => q v G' H' M' e R' (i _ _ b)) x
theorem take_filter {α : Type} (p : α → Bool) {l : List α} {i : Nat} {c : α} (h : l[i]? = some c) : (l.take (i + 1)).filter p = (l.take i).filter p ++ if p c then [c] else [] := by
  rw [List.take_add_one, h, List.filter_append]
  congr 1
  show List.filter p [c] = _
  rw [List.filter_cons]
  rfl
theorem lcT_fm {α : Type} {vs : List Nat} (items : List α) (enc f : α → PyData) (p : α → Bool) (h : ZW K E ta S M (fun z M1 => z = .d (.tuple (items.map enc)) ∧ items.length ≤ sizeLine ∧
      (∀ c ∈ items, ∃ is S2, (∀ j ∈ is, j ∈ vs) ∧ ZG K g (.d (enc c)) (wipeZ S vs) is S2 ∧ ∀ D acc, ZT K E tt S2 ((D, true, .lst acc) :: M1) (fun b Mb => b = p c ∧ Mb = (D, true, .lst acc) :: M1) (fun _ _ _ => False) ∧
        (p c = true → ZW K E te S2 ((D, true, .lst acc) :: M1) (fun y Mc => y = .d (f c) ∧ Mc = (D, true, .lst acc) :: M1) fun _ _ _ => False)) ∧ Q (.d (.list ((items.filter p).map f))) M1) X) : ZW K E (tLc (iTup K ta) g tt te vs) S M Q X := by
  refine zw_lcT (h.imp ?_)
  rintro z M1 ⟨hz, hl, each, q⟩
  refine ⟨_, hz, by rw [List.length_map]; exact hl, fun i acc M' => acc = ((items.take i).filter p).map f ∧ M' = M1, ⟨by simp, rfl⟩, ?_, ?_⟩
  · intro i x hx acc M' D hI
    rw [List.getElem?_map] at hx
    obtain ⟨c, hc, rfl⟩ := Option.map_eq_some_iff.mp hx
    obtain ⟨is, S2, h1, h2, h3⟩ := each c (List.mem_of_getElem? hc)
    obtain ⟨ha, hM⟩ := hI
    subst hM
    obtain ⟨h4, h5⟩ := h3 D acc
    refine ⟨is, S2, h1, h2, ZT.imp h4 ?_⟩
    rintro b Mb ⟨rfl, rfl⟩
    refine ⟨fun hb => ⟨_, rfl, ?_, rfl⟩, fun hb => (h5 hb).imp ?_⟩
    · rw [take_filter p hc, hb, ha]
      simp
    · rintro y Mc ⟨rfl, rfl⟩
      refine ⟨_, _, rfl, rfl, ?_, rfl⟩
      rw [take_filter p hc, hb, ha]
      simp
  · rintro acc M' ⟨ha, rfl⟩
    rw [List.length_map, List.take_length] at ha
    rw [ha]
    exact q
theorem lcT_map {α : Type} {vs : List Nat} (items : List α) (enc f : α → PyData) (h : ZW K E ta S M (fun z M1 => z = .d (.tuple (items.map enc)) ∧ items.length ≤ sizeLine ∧
      (∀ c ∈ items, ∃ is S2, (∀ j ∈ is, j ∈ vs) ∧ ZG K g (.d (enc c)) (wipeZ S vs) is S2 ∧ ∀ D acc, ZW K E te S2 ((D, true, .lst acc) :: M1) (fun y Mc => y = .d (f c) ∧ Mc = (D, true, .lst acc) :: M1) fun _ _ _ => False) ∧ Q (.d (.list (items.map f))) M1) X) : ZW K E (tLc (iTup K ta) g tYes te vs) S M Q X := by
  refine lcT_fm items enc f (fun _ => true) (h.imp ?_)
  rintro z M1 ⟨hz, hl, each, q⟩
  refine ⟨hz, hl, fun c hc => ?_, by rw [List.filter_eq_self.mpr (fun _ _ => rfl)]; exact q⟩
  obtain ⟨is, S2, h1, h2, h3⟩ := each c hc
  exact ⟨is, S2, h1, h2, fun D acc => ⟨zt_yes ⟨rfl, rfl⟩, fun _ => h3 D acc⟩⟩
theorem dcT_map {α : Type} {vs : List Nat} {tk tv : TE} (items : List α) (enc : α → PyData) (key : α → List Int) (val : α → PyData) (h : ZW K E ta S M (fun z M1 => z = .d (.tuple (items.map enc)) ∧ items.length ≤ sizeLine ∧
      (∀ c ∈ items, ∃ is S2, (∀ j ∈ is, j ∈ vs) ∧ ZG K g (.d (enc c)) (wipeZ S vs) is S2 ∧ ∀ M2, ZW K E tk S2 M2 (fun y M3 => (y = .d (rowD (key c)) ∧ key c ≠ []) ∧ M3 = M2) (fun _ _ _ => False) ∧ ZW K E tv S2 M2 (fun y M3 => y = .d (val c) ∧ M3 = M2) fun _ _ _ => False) ∧
      ∀ p, Q (.c p) ((p, true, .dT (rowsP (items.map fun c => (key c, val c)))) :: M1)) X) : ZW K E (tDcT (iTup K ta) g tYes tk tv vs) S M Q X := by
  refine zw_dcT (h.imp ?_)
  rintro z M1 ⟨hz, hl, each, q⟩
  refine ⟨_, items.map fun c => (key c, val c), hz, by rw [List.length_map]; exact hl, by rw [List.length_map, List.length_map], ?_, q⟩
  intro i x r hx hr
  rw [List.getElem?_map] at hx hr
  obtain ⟨c, hc, rfl⟩ := Option.map_eq_some_iff.mp hx
  rw [hc] at hr
  cases hr
  exact each c (List.mem_of_getElem? hc)
end
end Z
set_option autoImplicit true
namespace K01
open PySem PySem.Spec PyProof.Rows L2 Z
local macro_rules | `(tactic| walk_at "zd") => `(tactic| repeat (first | exact allD_nil | refine allD_cons ?_))
local macro_rules | `(tactic| walk_at "zm") => `(tactic| first | exact m0 | exact m1 m0 | exact m1 (m1 m0) | exact m1 (m1 (m1 m0)) | exact m1 (m1 (m1 (m1 m0))))
local macro_rules | `(tactic| walk_at "zu") => `(tactic| first | exact .here | exact .there .here | exact .there (.there .here) | exact .there (.there (.there .here)) | exact .there (.there (.there (.there .here))))
local macro_rules | `(tactic| walk_at "z") => `(tactic| first
  | with_reducible refine zs_seq ?_ | with_reducible refine zs_asg ?_ | with_reducible refine zs_setL ?_ | with_reducible refine zs_next ?_ | with_reducible refine zs_ret ?_ | with_reducible refine zs_retN ?_ | with_reducible refine zs_drop ?_ | with_reducible refine zs_if ?_ | with_reducible refine zs_par ?_
  | ((with_reducible refine' zw_var ?zv ?_); (case zv => rfl)) | with_reducible refine zw_int ?_ | with_reducible refine zw_str ?_ | with_reducible refine zw_bl ?_ | with_reducible refine zw_non ?_
  | with_reducible refine zw_op ?_ | with_reducible refine zw_un ?_ | with_reducible refine zw_tup ?_ | with_reducible refine zw_sl ?_ | with_reducible refine zp_none ?_ | with_reducible refine zp_some ?_ | with_reducible refine zw_m1 ?_
  | with_reducible refine zt_test ?_ | with_reducible refine zt_B ?_ | with_reducible refine zt_not ?_ | with_reducible refine zt_and ?_ | with_reducible refine zt_or ?_ | with_reducible refine zw_andV ?_ | with_reducible refine zw_orV ?_ | with_reducible refine zw_notV ?_ | with_reducible refine zw_if ?_
  | with_reducible refine za_cons ?_ | with_reducible refine za_nil ?_
  | with_reducible refine za_i ?_ | with_reducible refine zo_sub ?_ | with_reducible refine zo_lt ?_ | with_reducible refine zo_le ?_ | with_reducible refine zo_gt ?_ | with_reducible refine zo_ge ?_ | with_reducible refine zu_neg ?_
  | with_reducible refine zt_isi rfl ?_ | with_reducible refine zt_isi2 ?_ | with_reducible refine zw_isX rfl ?_ | with_reducible refine zw_cb ?_ | with_reducible refine zc_int ?_
  | ((with_reducible refine' zo_ixC ?za ?zb ?_); (case za => walk_at "zm"); (case zb => first | exact atI0 | exact atI1 | exact atI2 | exact atI3 | assumption)) | ((with_reducible refine' zo_ix ?zb ?_); (case zb => first | rfl | assumption)) | ((with_reducible refine' zc_len ?zb ?_); (case zb => first | rfl | assumption)) | ((with_reducible refine' zc_lenC ?za ?_); (case za => walk_at "zm"))
  | with_reducible refine zt_tru ?_ | with_reducible refine zw_con (by assumption) ?_ | with_reducible refine' zs_raiseO ?_ | with_reducible refine zs_asgG ?_ | with_reducible refine zw_call0 ?_ | with_reducible refine zw_callC0 ?_ | with_reducible refine zw_make0 ?_ | with_reducible refine zw_methO0 ?_ | with_reducible refine zw_callO0 ?_ | with_reducible refine zw_make ?_ | with_reducible refine zw_methO ?_ | with_reducible refine zw_callO ?_ | with_reducible refine zw_callC ?_ | with_reducible refine zw_call ?_ | with_reducible refine zs_forT ?_ | with_reducible refine zs_forL ?_ | with_reducible refine zs_forR1 ?_ | with_reducible refine zs_forR2 ?_ | with_reducible refine zw_lcL ?_ | with_reducible refine zw_lcR1 ?_ | with_reducible refine zw_lcR2 ?_ | with_reducible refine zt_yes ?_ | with_reducible refine zo_eqI ?_ | with_reducible refine zo_eqS ?_ | with_reducible refine zs_par3 ?_ | with_reducible refine zc_min2 ?_ | with_reducible refine zc_max2 ?_ | with_reducible refine zo_isN ?_ | with_reducible refine zo_notN ?_ | with_reducible refine zo_eqB ?_ | with_reducible refine zo_neB ?_ | with_reducible refine zo_neI ?_ | with_reducible refine zo_neS ?_ | with_reducible refine zo_inTS ?_ | with_reducible refine zo_inLS ?_ | with_reducible refine' zs_raiseS ?_ | with_reducible refine zw_js ?_ | with_reducible refine zj_nil ?_ | with_reducible refine zj_cons ?_ | with_reducible refine zw_chain ?_)
local macro_rules | `(tactic| walk_at "zz") => `(tactic| repeat (walk_at "z"))
local macro_rules | `(tactic| walk_at "ze") => `(tactic| first
  | refine ⟨fun _ => ?_, fun z => Bool.noConfusion z⟩ | refine ⟨fun z => Bool.noConfusion z, fun _ => ?_⟩
  | refine ⟨_, _, zg_tup rfl (zgs_cons (zgs_cons zgs_nil)), ?_⟩ | refine ⟨_, _, zg_tup rfl (zgs_cons (zgs_cons (zgs_cons zgs_nil))), ?_⟩ | refine ⟨_, _, zg_name, ?_⟩
  | refine ⟨_, _, _, rfl, rfl, rfl, ?_⟩ | refine ⟨_, _, rfl, rfl, ?_⟩ | refine ⟨_, rfl, ?_⟩ | exact ⟨_, rfl, rfl⟩)
local macro_rules | `(tactic| walk_at "zf") => `(tactic| first | refine ⟨_, _, _, _, rfl, m0, rfl, ?_⟩ | refine ⟨_, _, rfl, ⟨_, _, m0, rfl⟩, ?_⟩ | refine ⟨_, _, _, _, rfl, (by exact Nat.le_of_ble_eq_true rfl), .here, ?_⟩ | with_reducible refine zs_fld (by assumption) (by assumption) ?_ | with_reducible refine zw_fld (by assumption) (by assumption) ?_ | with_reducible refine zs_fldaug (by assumption) (by assumption) ?_)
local macro_rules | `(tactic| walk_at "zfq") => `(tactic| repeat (first | walk_at "zf" | walk_at "z" | walk_at "ze"))
local macro_rules | `(tactic| walk_at "zq") => `(tactic| repeat (first | walk_at "z" | walk_at "ze"))
local macro_rules | `(tactic| walk_at "zt") => `(tactic| first | (refine ⟨_, allD_nil, (by rw [sizeLine_eq]; first | decide | exact Nat.le_of_ble_eq_true rfl), ?_⟩) | (refine ⟨_, (allD_cons allD_nil), (by rw [sizeLine_eq]; first | decide | exact Nat.le_of_ble_eq_true rfl), ?_⟩) | (refine ⟨_, (allD_cons (allD_cons allD_nil)), (by rw [sizeLine_eq]; first | decide | exact Nat.le_of_ble_eq_true rfl), ?_⟩) | (refine ⟨_, (allD_cons (allD_cons (allD_cons allD_nil))), (by rw [sizeLine_eq]; first | decide | exact Nat.le_of_ble_eq_true rfl), ?_⟩) | (refine ⟨_, (allD_cons (allD_cons (allD_cons (allD_cons allD_nil)))), (by rw [sizeLine_eq]; first | decide | exact Nat.le_of_ble_eq_true rfl), ?_⟩) | (refine ⟨_, (allD_cons (allD_cons (allD_cons (allD_cons (allD_cons allD_nil))))), (by rw [sizeLine_eq]; first | decide | exact Nat.le_of_ble_eq_true rfl), ?_⟩) | (refine ⟨_, (allD_cons (allD_cons (allD_cons (allD_cons (allD_cons (allD_cons allD_nil)))))), (by rw [sizeLine_eq]; first | decide | exact Nat.le_of_ble_eq_true rfl), ?_⟩) | (refine ⟨_, (allD_cons (allD_cons (allD_cons (allD_cons (allD_cons (allD_cons (allD_cons allD_nil))))))), (by rw [sizeLine_eq]; first | decide | exact Nat.le_of_ble_eq_true rfl), ?_⟩) | (refine ⟨_, (allD_cons (allD_cons (allD_cons (allD_cons (allD_cons (allD_cons (allD_cons (allD_cons allD_nil)))))))), (by rw [sizeLine_eq]; first | decide | exact Nat.le_of_ble_eq_true rfl), ?_⟩) | (refine ⟨_, (allD_cons (allD_cons (allD_cons (allD_cons (allD_cons (allD_cons (allD_cons (allD_cons (allD_cons allD_nil))))))))), (by rw [sizeLine_eq]; first | decide | exact Nat.le_of_ble_eq_true rfl), ?_⟩) | (refine ⟨_, (allD_cons (allD_cons (allD_cons (allD_cons (allD_cons (allD_cons (allD_cons (allD_cons (allD_cons (allD_cons allD_nil)))))))))), (by rw [sizeLine_eq]; first | decide | exact Nat.le_of_ble_eq_true rfl), ?_⟩) | (refine ⟨_, (allD_cons (allD_cons (allD_cons (allD_cons (allD_cons (allD_cons (allD_cons (allD_cons (allD_cons (allD_cons (allD_cons allD_nil))))))))))), (by rw [sizeLine_eq]; first | decide | exact Nat.le_of_ble_eq_true rfl), ?_⟩) | (refine ⟨_, (allD_cons (allD_cons (allD_cons (allD_cons (allD_cons (allD_cons (allD_cons (allD_cons (allD_cons (allD_cons (allD_cons (allD_cons allD_nil)))))))))))), (by rw [sizeLine_eq]; first | decide | exact Nat.le_of_ble_eq_true rfl), ?_⟩) | (refine ⟨_, (allD_cons (allD_cons (allD_cons (allD_cons (allD_cons (allD_cons (allD_cons (allD_cons (allD_cons (allD_cons (allD_cons (allD_cons (allD_cons allD_nil))))))))))))), (by rw [sizeLine_eq]; first | decide | exact Nat.le_of_ble_eq_true rfl), ?_⟩) | (refine ⟨_, (allD_cons (allD_cons (allD_cons (allD_cons (allD_cons (allD_cons (allD_cons (allD_cons (allD_cons (allD_cons (allD_cons (allD_cons (allD_cons (allD_cons allD_nil)))))))))))))), (by rw [sizeLine_eq]; first | decide | exact Nat.le_of_ble_eq_true rfl), ?_⟩) | (refine ⟨_, (allD_cons (allD_cons (allD_cons (allD_cons (allD_cons (allD_cons (allD_cons (allD_cons (allD_cons (allD_cons (allD_cons (allD_cons (allD_cons (allD_cons (allD_cons allD_nil))))))))))))))), (by rw [sizeLine_eq]; first | decide | exact Nat.le_of_ble_eq_true rfl), ?_⟩) | (refine ⟨_, (allD_cons (allD_cons (allD_cons (allD_cons (allD_cons (allD_cons (allD_cons (allD_cons (allD_cons (allD_cons (allD_cons (allD_cons (allD_cons (allD_cons (allD_cons (allD_cons allD_nil)))))))))))))))), (by rw [sizeLine_eq]; first | decide | exact Nat.le_of_ble_eq_true rfl), ?_⟩) | (refine ⟨_, (allD_cons (allD_cons (allD_cons (allD_cons (allD_cons (allD_cons (allD_cons (allD_cons (allD_cons (allD_cons (allD_cons (allD_cons (allD_cons (allD_cons (allD_cons (allD_cons (allD_cons allD_nil))))))))))))))))), (by rw [sizeLine_eq]; first | decide | exact Nat.le_of_ble_eq_true rfl), ?_⟩) | (refine ⟨_, (allD_cons (allD_cons (allD_cons (allD_cons (allD_cons (allD_cons (allD_cons (allD_cons (allD_cons (allD_cons (allD_cons (allD_cons (allD_cons (allD_cons (allD_cons (allD_cons (allD_cons (allD_cons allD_nil)))))))))))))))))), (by rw [sizeLine_eq]; first | decide | exact Nat.le_of_ble_eq_true rfl), ?_⟩) | (refine ⟨_, (allD_cons (allD_cons (allD_cons (allD_cons (allD_cons (allD_cons (allD_cons (allD_cons (allD_cons (allD_cons (allD_cons (allD_cons (allD_cons (allD_cons (allD_cons (allD_cons (allD_cons (allD_cons (allD_cons allD_nil))))))))))))))))))), (by rw [sizeLine_eq]; first | decide | exact Nat.le_of_ble_eq_true rfl), ?_⟩) | (refine ⟨_, (allD_cons (allD_cons (allD_cons (allD_cons (allD_cons (allD_cons (allD_cons (allD_cons (allD_cons (allD_cons (allD_cons (allD_cons (allD_cons (allD_cons (allD_cons (allD_cons (allD_cons (allD_cons (allD_cons (allD_cons allD_nil)))))))))))))))))))), (by rw [sizeLine_eq]; first | decide | exact Nat.le_of_ble_eq_true rfl), ?_⟩) | (refine ⟨_, (allD_cons (allD_cons (allD_cons (allD_cons (allD_cons (allD_cons (allD_cons (allD_cons (allD_cons (allD_cons (allD_cons (allD_cons (allD_cons (allD_cons (allD_cons (allD_cons (allD_cons (allD_cons (allD_cons (allD_cons (allD_cons allD_nil))))))))))))))))))))), (by rw [sizeLine_eq]; first | decide | exact Nat.le_of_ble_eq_true rfl), ?_⟩) | (refine ⟨_, (allD_cons (allD_cons (allD_cons (allD_cons (allD_cons (allD_cons (allD_cons (allD_cons (allD_cons (allD_cons (allD_cons (allD_cons (allD_cons (allD_cons (allD_cons (allD_cons (allD_cons (allD_cons (allD_cons (allD_cons (allD_cons (allD_cons allD_nil)))))))))))))))))))))), (by rw [sizeLine_eq]; first | decide | exact Nat.le_of_ble_eq_true rfl), ?_⟩) | (refine ⟨_, (allD_cons (allD_cons (allD_cons (allD_cons (allD_cons (allD_cons (allD_cons (allD_cons (allD_cons (allD_cons (allD_cons (allD_cons (allD_cons (allD_cons (allD_cons (allD_cons (allD_cons (allD_cons (allD_cons (allD_cons (allD_cons (allD_cons (allD_cons allD_nil))))))))))))))))))))))), (by rw [sizeLine_eq]; first | decide | exact Nat.le_of_ble_eq_true rfl), ?_⟩))
local macro_rules | `(tactic| walk_at "z") => `(tactic| first | with_reducible refine zw_callB0 ?_ | with_reducible refine zw_makeE ?_ | with_reducible refine zc_abs ?_ | with_reducible refine zc_gcd ?_ | with_reducible refine zo_isB ?_ | with_reducible refine zo_isntB ?_ | with_reducible refine par_go ?_ | with_reducible refine par_go3 ?_)
local macro_rules | `(tactic| walk_at "z") => `(tactic| first | with_reducible refine zs_forN ?_ | with_reducible refine zw_callE0 ?_ | with_reducible refine zo_leR ?_ | with_reducible refine zw_din ?_ | with_reducible refine zw_dget2 ?_ | with_reducible refine zc_any ?_)
def topS (i : Nat) : Stmt := PySem.Challenge.pw_fateboards_k01_whole_boards.main.body.getD i (.Pass ⟨0, 0, 0, 0⟩)
abbrev s_states_by_place : Stmt := topS 1
abbrev N_states_by_place : List Str := ["board", "x", "y", "state"]
theorem sc_states_by_place : FnScope N_states_by_place ["board"] (defScope s_states_by_place) := ⟨rfl, rfl, rfl, by decide +kernel, rfl, by decide +kernel, by decide +kernel⟩
abbrev s_moved : Stmt := topS 2
abbrev N_moved : List Str := ["board", "move", "right", "down", "x", "y", "state"]
theorem sc_moved : FnScope N_moved ["board", "move"] (defScope s_moved) := ⟨rfl, rfl, rfl, by decide +kernel, rfl, by decide +kernel, by decide +kernel⟩
abbrev s_turned_board : Stmt := topS 3
abbrev N_turned_board : List Str := ["board", "turn", "cell"]
theorem sc_turned_board : FnScope N_turned_board ["board", "turn"] (defScope s_turned_board) := ⟨rfl, rfl, rfl, by decide +kernel, rfl, by decide +kernel, by decide +kernel⟩
abbrev s_turned_cell : Stmt := topS 4
abbrev N_turned_cell : List Str := ["cell", "turn", "x", "y", "state", "_"]
theorem sc_turned_cell : FnScope N_turned_cell ["cell", "turn"] (defScope s_turned_cell) := ⟨rfl, rfl, rfl, by decide +kernel, rfl, by decide +kernel, by decide +kernel⟩
abbrev s_corners : Stmt := topS 5
abbrev N_corners : List Str := ["board", "ys", "cell"]
theorem sc_corners : FnScope N_corners ["board"] (defScope s_corners) := ⟨rfl, rfl, rfl, by decide +kernel, rfl, by decide +kernel, by decide +kernel⟩
abbrev s_made_normal : Stmt := topS 6
abbrev N_made_normal : List Str := ["board", "left", "top"]
theorem sc_made_normal : FnScope N_made_normal ["board"] (defScope s_made_normal) := ⟨rfl, rfl, rfl, by decide +kernel, rfl, by decide +kernel, by decide +kernel⟩
abbrev s_is_between : Stmt := topS 15
abbrev N_is_between : List Str := ["value", "low", "high"]
theorem sc_is_between : FnScope N_is_between ["value", "low", "high"] (defScope s_is_between) := ⟨rfl, rfl, rfl, by decide +kernel, rfl, by decide +kernel, by decide +kernel⟩
abbrev s_check_number : Stmt := topS 16
abbrev N_check_number : List Str := ["value", "low", "high"]
theorem sc_check_number : FnScope N_check_number ["value", "low", "high"] (defScope s_check_number) := ⟨rfl, rfl, rfl, by decide +kernel, rfl, by decide +kernel, by decide +kernel⟩
abbrev s_check_board : Stmt := topS 18
abbrev N_check_board : List Str := ["board", "index", "cell"]
theorem sc_check_board : FnScope N_check_board ["board"] (defScope s_check_board) := ⟨rfl, rfl, rfl, by decide +kernel, rfl, by decide +kernel, by decide +kernel⟩
abbrev s_is_cell : Stmt := topS 19
abbrev N_is_cell : List Str := ["value"]
theorem sc_is_cell : FnScope N_is_cell ["value"] (defScope s_is_cell) := ⟨rfl, rfl, rfl, by decide +kernel, rfl, by decide +kernel, by decide +kernel⟩
abbrev s_check_move : Stmt := topS 20
abbrev N_check_move : List Str := ["move"]
theorem sc_check_move : FnScope N_check_move ["move"] (defScope s_check_move) := ⟨rfl, rfl, rfl, by decide +kernel, rfl, by decide +kernel, by decide +kernel⟩
abbrev s_is_move : Stmt := topS 21
abbrev N_is_move : List Str := ["value"]
theorem sc_is_move : FnScope N_is_move ["value"] (defScope s_is_move) := ⟨rfl, rfl, rfl, by decide +kernel, rfl, by decide +kernel, by decide +kernel⟩
abbrev s_state_at : Stmt := topS 22
abbrev N_state_at : List Str := ["board", "place"]
theorem sc_state_at : FnScope N_state_at ["board", "place"] (defScope s_state_at) := ⟨rfl, rfl, rfl, by decide +kernel, rfl, by decide +kernel, by decide +kernel⟩
abbrev s_shifted : Stmt := topS 23
abbrev N_shifted : List Str := ["board", "move"]
theorem sc_shifted : FnScope N_shifted ["board", "move"] (defScope s_shifted) := ⟨rfl, rfl, rfl, by decide +kernel, rfl, by decide +kernel, by decide +kernel⟩
abbrev s_turned : Stmt := topS 24
abbrev N_turned : List Str := ["board", "turn"]
theorem sc_turned : FnScope N_turned ["board", "turn"] (defScope s_turned) := ⟨rfl, rfl, rfl, by decide +kernel, rfl, by decide +kernel, by decide +kernel⟩
abbrev s_joined : Stmt := topS 25
abbrev N_joined : List Str := ["board", "other", "taken", "x", "y", "_"]
theorem sc_joined : FnScope N_joined ["board", "other"] (defScope s_joined) := ⟨rfl, rfl, rfl, by decide +kernel, rfl, by decide +kernel, by decide +kernel⟩
abbrev s_box : Stmt := topS 26
abbrev N_box : List Str := ["board"]
theorem sc_box : FnScope N_box ["board"] (defScope s_box) := ⟨rfl, rfl, rfl, by decide +kernel, rfl, by decide +kernel, by decide +kernel⟩
abbrev s_living : Stmt := topS 27
abbrev N_living : List Str := ["board", "cell"]
theorem sc_living : FnScope N_living ["board"] (defScope s_living) := ⟨rfl, rfl, rfl, by decide +kernel, rfl, by decide +kernel, by decide +kernel⟩
abbrev s_normal : Stmt := topS 28
abbrev N_normal : List Str := ["board"]
theorem sc_normal : FnScope N_normal ["board"] (defScope s_normal) := ⟨rfl, rfl, rfl, by decide +kernel, rfl, by decide +kernel, by decide +kernel⟩
abbrev s_law_taken : Stmt := topS 30
abbrev N_law_taken : List Str := ["row", "many", "found", "cell"]
theorem sc_law_taken : FnScope N_law_taken ["row", "many"] (defScope s_law_taken) := ⟨rfl, rfl, rfl, by decide +kernel, rfl, by decide +kernel, by decide +kernel⟩
abbrev s_law_signed : Stmt := topS 31
abbrev N_law_signed : List Str := ["row", "most"]
theorem sc_law_signed : FnScope N_law_signed ["row", "most"] (defScope s_law_signed) := ⟨rfl, rfl, rfl, by decide +kernel, rfl, by decide +kernel, by decide +kernel⟩
abbrev s_law_pick : Stmt := topS 32
abbrev N_law_pick : List Str := ["row", "things"]
theorem sc_law_pick : FnScope N_law_pick ["row", "things"] (defScope s_law_pick) := ⟨rfl, rfl, rfl, by decide +kernel, rfl, by decide +kernel, by decide +kernel⟩
abbrev s_law_moved : Stmt := topS 33
abbrev N_law_moved : List Str := ["board", "x", "y", "cell"]
theorem sc_law_moved : FnScope N_law_moved ["board", "x", "y"] (defScope s_law_moved) := ⟨rfl, rfl, rfl, by decide +kernel, rfl, by decide +kernel, by decide +kernel⟩
abbrev s_law_cells : Stmt := topS 34
abbrev N_law_cells : List Str := ["row", "wide", "high", "states", "found", "x", "y"]
theorem sc_law_cells : FnScope N_law_cells ["row", "wide", "high", "states"] (defScope s_law_cells) := ⟨rfl, rfl, rfl, by decide +kernel, rfl, by decide +kernel, by decide +kernel⟩
abbrev s_law_alike : Stmt := topS 35
abbrev N_law_alike : List Str := ["found", "due", "k"]
theorem sc_law_alike : FnScope N_law_alike ["found", "due"] (defScope s_law_alike) := ⟨rfl, rfl, rfl, by decide +kernel, rfl, by decide +kernel, by decide +kernel⟩
abbrev s_law_box : Stmt := topS 36
abbrev N_law_box : List Str := ["board", "lines", "rows", "cell"]
theorem sc_law_box : FnScope N_law_box ["board"] (defScope s_law_box) := ⟨rfl, rfl, rfl, by decide +kernel, rfl, by decide +kernel, by decide +kernel⟩
abbrev s_law_normal : Stmt := topS 37
abbrev N_law_normal : List Str := ["board", "ends"]
theorem sc_law_normal : FnScope N_law_normal ["board"] (defScope s_law_normal) := ⟨rfl, rfl, rfl, by decide +kernel, rfl, by decide +kernel, by decide +kernel⟩
abbrev s_law_turned_piece : Stmt := topS 38
abbrev N_law_turned_piece : List Str := ["piece", "turn", "board", "period", "move", "moves", "cell", "quarter"]
theorem sc_law_turned_piece : FnScope N_law_turned_piece ["piece", "turn"] (defScope s_law_turned_piece) := ⟨rfl, rfl, rfl, by decide +kernel, rfl, by decide +kernel, by decide +kernel⟩
abbrev s_law_is_vector : Stmt := topS 39
abbrev N_law_is_vector : List Str := ["value", "size", "x"]
theorem sc_law_is_vector : FnScope N_law_is_vector ["value", "size"] (defScope s_law_is_vector) := ⟨rfl, rfl, rfl, by decide +kernel, rfl, by decide +kernel, by decide +kernel⟩
abbrev s_law : Stmt := topS 40
abbrev N_law : List Str := ["script", "row", "x", "y", "board", "other", "cells", "cell", "place", "turn", "told", "both", "error", "rows", "at", "wild", "due", "k", "good"]
theorem sc_law : FnScope N_law ["script"] (defScope s_law) := ⟨rfl, rfl, rfl, by decide +kernel, rfl, by decide +kernel, by decide +kernel⟩
def dBetween (x : PyData) (lo hi : Int) : Bool := match x with | .int i => decide (lo ≤ i) && decide (i ≤ hi) | _ => false
def R_between (ds : List PyData) (o : DOut) : Prop := ∃ x lo hi, ds = [x, .int lo, .int hi] ∧ o = .ok (.bool (dBetween x lo hi))
theorem ok_is_between {P : Program} {w : World} {K : Fg} {mg : Str → Option Value} {base : Heap} {f : Addr} {fd : FuncData} (F : Fun K "is_between" "is_between" s_is_between f fd)
    (m_isinstance : mg "isinstance" = none)
    (m_int : mg "int" = none)
    (m_bool : mg "bool" = none) :
    FnOk P w K mg base (L2.CX P w) 1 f fd ["value", "low", "high"] (spD K 3 R_between) := by
  refine F.okX sc_is_between (fun vs H Q E h => len_D h) (fun cdv A outer s H vs Q E hr h => ⟨_, (pss_cons (ps_if (PW.pt (pw_or (pt_val (pe_callB call_isi (by rfl) m_isinstance bb_isinstance (pa_cons (pv 0) (pa_cons (pe_bltn (v := .ty "bool") (by rfl) m_bool bt_bool rfl) pa_nil))) (fun _ => rfl)) (pw_or1 (pt_not (pt_val (pe_callB call_isi (by rfl) m_isinstance bb_isinstance (pa_cons (pv 0) (pa_cons (pe_bltn (v := .ty "int") (by rfl) m_int bt_int rfl) pa_nil))) (fun _ => rfl)))))) (pss_one (ps_ret pe_bl)) pss_nil)
      (pss_one (ps_ret (pe_chain op_le op_le (pv 1) (pv 0) (pv 2))))),
    fn_D h fun ds o hk hR => ?_⟩)
  try dsimp only [L2.cxOf]
  obtain ⟨x, lo, hi, rfl, rfl⟩ := hR
  walk_at "zz"
  cases x <;> walk_at "zq"
  all_goals try rfl
  rename_i i _ _
  have hb : dBetween (.int i) lo hi = (decide (lo ≤ i) && decide (i ≤ hi)) := rfl
  refine ⟨fun e => ?_, fun e => ?_⟩
  · exact ⟨_, rfl, by rw [hb, e]; rfl⟩
  · walk_at "zq"
    show _ = _
    rw [hb, e]
    rfl
def R_chknum (ds : List PyData) (o : DOut) : Prop := ∃ x lo hi, ds = [.int x, .int lo, .int hi] ∧ lo ≤ x ∧ x ≤ hi ∧ o = .ok .none
theorem ok_check_number {P : Program} {w : World} {K : Fg} {mg : Str → Option Value} {base : Heap} {f : Addr} {fd : FuncData} (F : Fun K "check_number" "check_number" s_check_number f fd)
    (c_is_between : Cal P w K mg base 1 "is_between" (spD K 3 R_between)) :
    FnOk P w K mg base (L2.CX P w) 2 f fd ["value", "low", "high"] (spD K 3 R_chknum) := by
  refine F.okX sc_check_number (fun vs H Q E h => len_D h) (fun cdv A outer s H vs Q E hr h => ⟨_, (pss_one (ps_if (pt_not (pt_val (pe_cl c_is_between hr (show 1 ≤ 1 by decide) passL (pa_cons (pv 0) (pa_cons (pv 1) (pa_cons (pv 2) pa_nil)))) (fun _ => rfl))) (pss_one ps_never) pss_nil)),
    fn_D h fun ds o hk hR => ?_⟩)
  try dsimp only [L2.cxOf]
  obtain ⟨x, lo, hi, rfl, h1, h2, rfl⟩ := hR
  walk_at "zq"
  refine ⟨_, _, by walk_at "zd", rfl, ⟨_, _, _, rfl, rfl⟩, ?_⟩
  rw [show dBetween (.int x) lo hi = true by unfold dBetween; simp only [decide_eq_true h1, decide_eq_true h2]; rfl]
  walk_at "zq"
  rfl
abbrev FAR : Int := 1000000000000000000000000000000000000000000000000000000000000
/-- a place or a move -/
abbrev pr (x y : Int) : PyData := .tuple [.int x, .int y]
def InFar (x : Int) : Prop := -FAR ≤ x ∧ x ≤ FAR
def farB (v : PyData) : Bool := dBetween v (-FAR) FAR
def moveB : PyData → Bool
  | .tuple [a, b] => farB a && farB b
  | _ => false
/-- pairs of numbers of any kind -/
def R_ismove (ds : List PyData) (o : DOut) : Prop := ∃ a b, ds = [.tuple [a, b]] ∧ o = .ok (.bool (farB a && farB b))
theorem ok_is_move {P : Program} {w : World} {K : Fg} {mg : Str → Option Value} {base : Heap} {f : Addr} {fd : FuncData} (F : Fun K "is_move" "is_move" s_is_move f fd)
    (m_len : mg "len" = none)
    (m_isinstance : mg "isinstance" = none)
    (m_tuple : mg "tuple" = none)
    (g_FAR : ∃ u, mg "FAR" = some u ∧ RelV (.int 1000000000000000000000000000000000000000000000000000000000000) u)
    (c_is_between : Cal P w K mg base 1 "is_between" (spD K 3 R_between)) :
    FnOk P w K mg base (L2.CX P w) 2 f fd ["value"] (spD K 1 R_ismove) := by
  refine F.okX sc_is_move (fun vs H Q E h => len_D h) (fun cdv A outer s H vs Q E hr h => ⟨_, (pss_cons (ps_if (PW.pt (pw_or (pt_not (pt_val (pe_callB call_isi (by rfl) m_isinstance bb_isinstance (pa_cons (pv 0) (pa_cons (pe_bltn (v := .ty "tuple") (by rfl) m_tuple bt_tuple rfl) pa_nil))) (fun _ => rfl))) (pw_or1 (pt_cmpR (op_neA hr.units) (pe_callB call_len (by rfl) m_len bb_len (pa_cons (pv 0) pa_nil)) pe_int (nomark _))))) (pss_one (ps_ret pe_bl)) pss_nil)
      (pss_one (ps_ret (pe_and (pe_cl c_is_between hr (show 1 ≤ 1 by decide) passL (pa_cons (pe_ix ix_seq (pv 0) pe_int (fun _ _ => rfl)) (pa_cons (pe_un un_neg (pe_glob (by rfl) g_FAR.choose_spec.1 g_FAR.choose_spec.2)) (pa_cons (pe_glob (by rfl) g_FAR.choose_spec.1 g_FAR.choose_spec.2) pa_nil)))) (pe_one (pe_cl c_is_between hr (show 1 ≤ 1 by decide) passL (pa_cons (pe_ix ix_seq (pv 0) pe_int (fun _ _ => rfl)) (pa_cons (pe_un un_neg (pe_glob (by rfl) g_FAR.choose_spec.1 g_FAR.choose_spec.2)) (pa_cons (pe_glob (by rfl) g_FAR.choose_spec.1 g_FAR.choose_spec.2) pa_nil))))))))),
    fn_D h fun ds o hk hR => ?_⟩)
  try dsimp only [L2.cxOf]
  obtain ⟨a, b, rfl, rfl⟩ := hR
  walk_at "zq"
  refine ⟨_, _, by walk_at "zd", rfl, ⟨a, _, _, rfl, rfl⟩, ?_⟩
  rw [show dBetween a (-(1000000000000000000000000000000000000000000000000000000000000)) (1000000000000000000000000000000000000000000000000000000000000) = farB a from rfl]
  cases farB a with
  | false =>
    walk_at "zq"
    try rfl
  | true =>
    walk_at "zq"
    refine ⟨_, _, by walk_at "zd", rfl, ⟨b, _, _, rfl, rfl⟩, ?_⟩
    walk_at "zq"
    try rfl
def R_chkmove (ds : List PyData) (o : DOut) : Prop := ∃ x y, ds = [pr x y] ∧ InFar x ∧ InFar y ∧ o = .ok .none
theorem far_t {x : Int} (h : InFar x) : farB (.int x) = true := by unfold farB dBetween; simp only [decide_eq_true h.1, decide_eq_true h.2]; rfl
theorem far_f {x : Int} (h : ¬ InFar x) : farB (.int x) = false := by
  show (decide (-FAR ≤ x) && decide (x ≤ FAR)) = false
  by_cases h1 : -FAR ≤ x
  · rw [decide_eq_false (fun z => h ⟨h1, z⟩)]; simp
  · rw [decide_eq_false h1]; rfl
theorem ok_check_move {P : Program} {w : World} {K : Fg} {mg : Str → Option Value} {base : Heap} {f : Addr} {fd : FuncData} (F : Fun K "check_move" "check_move" s_check_move f fd)
    (c_is_move : Cal P w K mg base 2 "is_move" (spD K 1 R_ismove)) :
    FnOk P w K mg base (L2.CX P w) 3 f fd ["move"] (spD K 1 R_chkmove) := by
  refine F.okX sc_check_move (fun vs H Q E h => len_D h) (fun cdv A outer s H vs Q E hr h => ⟨_, (pss_one (ps_if (pt_not (pt_val (pe_cl c_is_move hr (show 2 ≤ 2 by decide) passL (pa_cons (pv 0) pa_nil)) (fun _ => rfl))) (pss_one ps_never) pss_nil)),
    fn_D h fun ds o hk hR => ?_⟩)
  try dsimp only [L2.cxOf]
  obtain ⟨x, y, rfl, hx, hy, rfl⟩ := hR
  walk_at "zq"
  refine ⟨_, _, by walk_at "zd", rfl, ⟨_, _, rfl, rfl⟩, ?_⟩
  rw [far_t hx, far_t hy]
  walk_at "zq"
  rfl
/-! ### cells -/
structure Cell where
  x : Int
  y : Int
  s : Int
def Cell.r (c : Cell) : List Int := [c.x, c.y, c.s]
abbrev Cell.d (c : Cell) : PyData := .tuple [.int c.x, .int c.y, .int c.s]
/-- what may stand among a board's rows -/
inductive Wild : PyData → Prop
  | cell (c : Cell) : Wild c.d
  | two (x y : Int) : Wild (pr x y)
  | odd : Wild (.tuple [.bool true, .int 0, .int 1])
  | non : Wild .none
  | lst (l : List Int) : l.length ≤ 10 → Wild (.list (l.map .int))
def okB : PyData → Bool
  | .tuple [a, b, c] => (farB a && farB b) && dBetween c 1 5
  | _ => false
def R_isCell (ds : List PyData) (o : DOut) : Prop := ∃ v, ds = [v] ∧ Wild v ∧ o = .ok (.bool (okB v))
theorem ok_is_cell {P : Program} {w : World} {K : Fg} {mg : Str → Option Value} {base : Heap} {f : Addr} {fd : FuncData} (F : Fun K "_is_cell" "_is_cell" s_is_cell f fd)
    (m_len : mg "len" = none)
    (m_isinstance : mg "isinstance" = none)
    (m_tuple : mg "tuple" = none)
    (c_is_between : Cal P w K mg base 1 "is_between" (spD K 3 R_between))
    (c_is_move : Cal P w K mg base 2 "is_move" (spD K 1 R_ismove)) :
    FnOk P w K mg base (L2.CX P w) 3 f fd ["value"] (spD K 1 R_isCell) := by
  refine F.okX sc_is_cell (fun vs H Q E h => len_D h) (fun cdv A outer s H vs Q E hr h => ⟨_, (pss_cons (ps_if (PW.pt (pw_or (pt_not (pt_val (pe_callB call_isi (by rfl) m_isinstance bb_isinstance (pa_cons (pv 0) (pa_cons (pe_bltn (v := .ty "tuple") (by rfl) m_tuple bt_tuple rfl) pa_nil))) (fun _ => rfl))) (pw_or1 (pt_cmpR (op_neA hr.units) (pe_callB call_len (by rfl) m_len bb_len (pa_cons (pv 0) pa_nil)) pe_int (nomark _))))) (pss_one (ps_ret pe_bl)) pss_nil)
      (pss_one (ps_ret (pe_and (pe_cl c_is_move hr (show 2 ≤ 2 by decide) passL (pa_cons (pe_slice sl_any (pv 0) po_none (po_some pe_int)) pa_nil)) (pe_one (pe_cl c_is_between hr (show 1 ≤ 2 by decide) passL (pa_cons (pe_ix ix_seq (pv 0) pe_int (fun _ _ => rfl)) (pa_cons pe_int (pa_cons pe_int pa_nil))))))))),
    fn_D h fun ds o hk hR => ?_⟩)
  try dsimp only [L2.cxOf]
  obtain ⟨v, rfl, hw, rfl⟩ := hR
  cases hw with
  | cell c =>
    walk_at "zq"
    refine ⟨_, _, by walk_at "zd", rfl, ⟨_, _, rfl, rfl⟩, ?_⟩
    rw [show okB c.d = ((farB (.int c.x) && farB (.int c.y)) && dBetween (.int c.s) 1 5) from rfl]
    cases (farB (.int c.x) && farB (.int c.y)) with
    | false =>
      walk_at "zq"
      try rfl
    | true =>
      walk_at "zq"
      refine ⟨_, _, by walk_at "zd", rfl, ⟨_, _, _, rfl, rfl⟩, ?_⟩
      walk_at "zq"
      try rfl
  | two x y =>
    walk_at "zq"
    try rfl
  | odd =>
    walk_at "zq"
    refine ⟨_, _, by walk_at "zd", rfl, ⟨_, _, rfl, rfl⟩, ?_⟩
    walk_at "zq"
    try rfl
  | non =>
    walk_at "zq"
    try rfl
  | lst l hl =>
    walk_at "zq"
    try rfl
/-- a row's place -/
def xy : PyData → List Int
  | .tuple (.int x :: .int y :: _) => [x, y]
  | _ => []
/-- row i can't stand there -/
def Bad (vs : List PyData) (i : Nat) : Prop := ∃ v, vs[i]? = some v ∧ (okB v = false ∨ (0 < i ∧ ∃ u, vs[i - 1]? = some u ∧ leQ (xy v) (xy u) = true))
def FirstBad (vs : List PyData) (i : Nat) : Prop := Bad vs i ∧ ∀ j, j < i → ¬ Bad vs j
theorem firstBad_uniq {vs : List PyData} {i j : Nat} (h : FirstBad vs i) (hj : Bad vs j) (hb : ∀ k, k < j → ¬ Bad vs k) : i = j := by
  rcases Nat.lt_trichotomy i j with z | z | z
  · exact absurd h.1 (hb _ z)
  · exact z
  · exact absurd hj (h.2 _ z)
theorem bad_lt {vs : List PyData} {i : Nat} (h : Bad vs i) : i < vs.length := by
  obtain ⟨v, hv, _⟩ := h
  exact (List.getElem?_eq_some_iff.mp hv).1
theorem wild_cell {v : PyData} (h : Wild v) (ho : okB v = true) : ∃ c : Cell, v = c.d := by
  cases h with
  | cell c => exact ⟨c, rfl⟩
  | odd => cases ho
  | two x y => cases ho
  | non => cases ho
  | lst l hl => cases ho
theorem leXY (c e : Cell) : leQ (xy c.d) (xy e.d) = leQ [c.x, c.y] [e.x, e.y] := rfl
theorem log_few {n : Nat} (h : n < 1000) : ((n : Int)).natAbs.log2 < 1920 := by
  rw [Int.natAbs_natCast]
  by_cases hz : n = 0
  · subst hz; decide
  · exact Nat.lt_of_lt_of_le ((Nat.log2_lt (n := n) (k := 10) hz).2 (by omega)) (by decide)
def R_chk (C : Addr) (ds : List PyData) (o : DOut) : Prop := ∃ vs, ds = [.tuple vs] ∧ (∀ v ∈ vs, Wild v) ∧ vs.length ≤ 1000 ∧ ((∃ i, FirstBad vs i ∧ o = .ex ⟨C, [("index", .int (i : Nat))]⟩) ∨ ((∀ i, ¬ Bad vs i) ∧ o = .ok .none))
theorem ok_check_board {P : Program} {w : World} {K : Fg} {mg : Str → Option Value} {base : Heap} {f : Addr} {fd : FuncData} {C_BadBoard fI_BadBoard : Addr} (F : Fun K "check_board" "check_board" s_check_board f fd)
    (m_isinstance : mg "isinstance" = none)
    (m_tuple : mg "tuple" = none)
    (m_enumerate : mg "enumerate" = none)
    (r_BadBoard : PySem.SupX.SupTxt P K mg "BadBoard" "BadBoard.__init__" "index" "not a board, first wrong item: " C_BadBoard fI_BadBoard)
    (c__is_cell : Cal P w K mg base 3 "_is_cell" (spD K 1 R_isCell)) :
    FnOk P w K mg base (L2.CX P w) 4 f fd ["board"] (spD K 1 (R_chk C_BadBoard)) := by
  refine F.okX sc_check_board (fun vs H Q E h => len_D h) (fun cdv A outer s H vs Q E hr h => ⟨_, (pss_cons (ps_if (pt_not (pt_val (pe_callB call_isi (by rfl) m_isinstance bb_isinstance (pa_cons (pv 0) (pa_cons (pe_bltn (v := .ty "tuple") (by rfl) m_tuple bt_tuple rfl) pa_nil))) (fun _ => rfl))) (pss_one ps_never) pss_nil)
      (pss_one (ps_for (passes_of rfl) rfl (pi_enumT (by rfl) m_enumerate (pa_cons (pv 0) pa_nil)) (pg_tup rfl (pgs_cons (pg_name (i := 1) sc_check_board.nd rfl (by first | exact Or.inl rfl | exact Or.inr rfl)) (pgs_cons (pg_name (i := 2) sc_check_board.nd rfl (by first | exact Or.inl rfl | exact Or.inr rfl)) pgs_nil))) (pss_cons (ps_if (pt_not (pt_val (pe_cl c__is_cell hr (show 3 ≤ 3 by decide) passL (pa_cons (pv 2) pa_nil)) (fun _ => rfl))) (pss_one (ps_raise rfl (takes_of rfl rfl rfl rfl) (pmk_sup r_BadBoard hr (pa_cons (pv 1) pa_nil)))) pss_nil)
      (pss_one (ps_if (PW.pt (pw_and (pt_cmpR op_gt (pv 1) pe_int (nomark _)) (pw_and1 (pt_cmpR (op_leR hr.units) (pe_slice sl_any (pv 2) po_none (po_some pe_int)) (pe_slice sl_any (pe_ix ix_seq (pv 0) (pe_op op_sub (pv 1) pe_int) (fun _ _ => rfl)) po_none (po_some pe_int)) (nomark _))))) (pss_one (ps_raise rfl (takes_of rfl rfl rfl rfl) (pmk_sup r_BadBoard hr (pa_cons (pv 1) pa_nil)))) pss_nil)))))),
    fn_D h fun ds o hk hR => ?_⟩)
  try dsimp only [L2.cxOf]
  obtain ⟨vs, rfl, hw, hvl, ho⟩ := hR
  walk_at "zq"
  refine ⟨fun i S2 M2 => ∃ c1 c2, S2 = [some (.d (.tuple vs)), c1, c2] ∧ M2 = [] ∧ ∀ j, j < i → ¬ Bad vs j, ⟨_, _, rfl, rfl, fun j h => absurd h (Nat.not_lt_zero _)⟩, ?_, ?_⟩
  · rintro i v S2 M2 hv ⟨c1, c2, rfl, rfl, hn⟩
    have hwv := hw v (List.mem_of_getElem? hv)
    have hex : Bad vs i → o = .ex ⟨C_BadBoard, [("index", .int (i : Nat))]⟩ := fun hb => by
      rcases ho with ⟨k, hk, e⟩ | ⟨hk, e⟩
      · rw [e, firstBad_uniq hk hb hn]
      · exact absurd hb (hk i)
    have hnx : ¬ Bad vs i → ∀ j, j < i + 1 → ¬ Bad vs j := fun hb j hj => by
      rcases Nat.lt_or_eq_of_le (Nat.le_of_lt_succ hj) with z | z
      · exact hn j z
      · rw [z]; exact hb
    walk_at "zq"
    refine ⟨_, _, by walk_at "zd", rfl, ⟨v, rfl, hwv, rfl⟩, ?_⟩
    cases hok : okB v with
    | false =>
      walk_at "zq"
      exact ⟨.inr ⟨_, rfl, log_few (by have := (List.getElem?_eq_some_iff.mp hv).1; omega)⟩, hex ⟨v, hv, .inl hok⟩⟩
    | true =>
      obtain ⟨c, rfl⟩ := wild_cell hwv hok
      walk_at "zq"
      refine ⟨fun h => ?_, fun h => ?_⟩
      · have h : ¬ 0 < i := by simpa using of_decide_eq_false h
        walk_at "zq"
        refine hnx ?_
        rintro ⟨v, hv2, hb⟩
        rw [hv] at hv2
        cases hv2
        rcases hb with z | ⟨z, _⟩
        · rw [hok] at z; cases z
        · exact h z
      · have h : 0 < i := by simpa using of_decide_eq_true h
        have hl := (List.getElem?_eq_some_iff.mp hv).1
        have hu := List.getElem?_eq_getElem (l := vs) (i := i - 1) (by omega)
        generalize vs[i - 1] = u at hu
        have huo : okB u = true := by
          cases z : okB u with
          | true => rfl
          | false => exact absurd ⟨u, hu, .inl z⟩ (hn (i - 1) (by omega))
        obtain ⟨e, rfl⟩ := wild_cell (hw u (List.mem_of_getElem? hu)) huo
        walk_at "zq"
        refine zo_ix (x := .tuple vs) (i := (i : Int) - 1) (d := e.d) (by
          have e2 : (i : Int) - 1 = ((i - 1 : Nat) : Int) := by omega
          rw [e2]
          exact atI_nat hu) ?_
        walk_at "zq"
        refine zo_leR (a := [c.x, c.y]) (b := [e.x, e.y]) ?_
        walk_at "zq"
        cases hq : leQ [c.x, c.y] [e.x, e.y] with
        | true =>
          walk_at "zq"
          exact ⟨.inr ⟨_, rfl, log_few (by have := (List.getElem?_eq_some_iff.mp hv).1; omega)⟩, hex ⟨c.d, hv, .inr ⟨h, e.d, hu, hq⟩⟩⟩
        | false =>
          walk_at "zq"
          refine hnx ?_
          rintro ⟨v, hv2, hb⟩
          rw [hv] at hv2
          cases hv2
          rcases hb with z | ⟨_, u, hu2, z⟩
          · rw [hok] at z; cases z
          · rw [hu] at hu2
            cases hu2
            rw [leXY, hq] at z
            cases z
  · rintro S2 M2 ⟨c1, c2, rfl, rfl, hn⟩
    walk_at "zq"
    rcases ho with ⟨k, hk, e⟩ | ⟨hk, e⟩
    · exact absurd hk.1 (hn k (bad_lt hk.1))
    · exact e
abbrev bD (b : List Cell) : PyData := .tuple (b.map Cell.d)
structure Board (b : List Cell) : Prop where
  len : b.length ≤ 40
  ok : ∀ c ∈ b, InFar c.x ∧ InFar c.y ∧ 1 ≤ c.s ∧ c.s ≤ 5
  up : b.Pairwise fun c e => c.x < e.x ∨ (c.x = e.x ∧ c.y < e.y)
theorem okB_cell {c : Cell} (h : InFar c.x ∧ InFar c.y ∧ 1 ≤ c.s ∧ c.s ≤ 5) : okB c.d = true := by
  show ((farB (.int c.x) && farB (.int c.y)) && (decide (1 ≤ c.s) && decide (c.s ≤ 5))) = true
  rw [far_t h.1, far_t h.2.1, decide_eq_true h.2.2.1, decide_eq_true h.2.2.2]
  rfl
theorem le_cells (c e : Cell) : leQ (xy e.d) (xy c.d) = true ↔ ¬ (c.x < e.x ∨ (c.x = e.x ∧ c.y < e.y)) := by
  show leQ [e.x, e.y] [c.x, c.y] = true ↔ _
  rw [leQ_two, Bool.or_eq_true, Bool.and_eq_true, decide_eq_true_eq, decide_eq_true_eq, decide_eq_true_eq]
  omega
theorem pw_at {α : Type} {R : α → α → Prop} {l : List α} (h : l.Pairwise R) {i j : Nat} {a b : α} (hij : i < j) (ha : l[i]? = some a) (hb : l[j]? = some b) : R a b := by
  obtain ⟨h1, e1⟩ := List.getElem?_eq_some_iff.mp ha
  obtain ⟨h2, e2⟩ := List.getElem?_eq_some_iff.mp hb
  rw [← e1, ← e2]
  exact List.pairwise_iff_getElem.mp h i j h1 h2 hij
theorem Board.fine {b : List Cell} (h : Board b) (i : Nat) : ¬ Bad (b.map Cell.d) i := by
  rintro ⟨v, hv, hb⟩
  rw [List.getElem?_map] at hv
  obtain ⟨c, hc, rfl⟩ := Option.map_eq_some_iff.mp hv
  rcases hb with z | ⟨hi, u, hu, z⟩
  · rw [okB_cell (h.ok c (List.mem_of_getElem? hc))] at z
    cases z
  · rw [List.getElem?_map] at hu
    obtain ⟨e, he, rfl⟩ := Option.map_eq_some_iff.mp hu
    exact (le_cells e c).mp z (pw_at h.up (by omega) he hc)
theorem Board.wild {b : List Cell} {v : PyData} (h : v ∈ b.map Cell.d) : Wild v := by
  obtain ⟨c, _, rfl⟩ := List.mem_map.mp h
  exact .cell c
theorem Board.chk {b : List Cell} (h : Board b) {C : Addr} : R_chk C [bD b] (.ok .none) := ⟨_, rfl, fun _ hv => Board.wild hv, by rw [List.length_map]; have := h.len; omega, .inr ⟨h.fine, rfl⟩⟩
/-- what stands at which place -/
def plcs (b : List Cell) : List (List Key × PyData) := rowsP (b.map fun c => ([c.x, c.y], PyData.int c.s))
def R_sbp (ds : List PyData) (c : CD) : Prop := ∃ b, ds = [bD b] ∧ b.length ≤ 100 ∧ c = .dT (plcs b)
theorem ok_states_by_place {P : Program} {w : World} {K : Fg} {mg : Str → Option Value} {base : Heap} {f : Addr} {fd : FuncData} (F : Fun K "states_by_place" "states_by_place" s_states_by_place f fd) :
    FnOk P w K mg base (L2.CX P w) 1 f fd ["board"] (spE K 1 R_sbp) := by
  refine F.okX sc_states_by_place (fun vs H Q E h => len_E h) (fun cdv A outer s H vs Q E hr h => ⟨_, (pss_one (ps_ret (pe_dcT (own := [("x", 1), ("y", 2), ("state", 3)]) rfl (Nat.lt_of_le_of_lt (Nat.le_add_right _ _) hr.units) sc_states_by_place.nd (pi_tup (pv 0)) (blkOk_by (N := N_states_by_place) (sc := defScope s_states_by_place) (by decide +kernel)) (fun _ _ _ _ _ => (show PG _ _ (gTup K 3 _) from (pg_tup rfl (pgs_cons (pg_name (i := 1) sc_states_by_place.nd rfl (by first | exact Or.inl rfl | exact Or.inr rfl)) (pgs_cons (pg_name (i := 2) sc_states_by_place.nd rfl (by first | exact Or.inl rfl | exact Or.inr rfl)) (pgs_cons (pg_name (i := 3) sc_states_by_place.nd rfl (by first | exact Or.inl rfl | exact Or.inr rfl)) pgs_nil)))))) (fun _ _ _ _ _ => pts_nil) (fun _ _ _ _ _ => (pe_tup (pa_cons (pv 1) (pa_cons (pv 2) pa_nil)))) (fun _ _ _ _ _ => (pv 3))))),
    fn_E h fun ds c hk hR => ?_⟩)
  try dsimp only [L2.cxOf]
  obtain ⟨b, rfl, hb, rfl⟩ := hR
  have hsz : (sizeLine : Nat) = 16777216 := sizeLine_eq
  walk_at "zz"
  refine dcT_map b Cell.d (fun c => [c.x, c.y]) (fun c => .int c.s) ?_
  walk_at "zz"
  refine ⟨rfl, by omega, fun c hc => ⟨_, _, ?_, zg_tup rfl (zgs_cons (zgs_cons (zgs_cons zgs_nil))), fun M2 => ⟨?_, ?_⟩⟩, fun p => ?_⟩
  · simp
  · walk_at "zq"
    walk_at "zt"
    exact ⟨⟨rfl, by simp⟩, rfl⟩
  · walk_at "zq"
    try exact ⟨rfl, rfl⟩
  · exact ⟨p, rfl, m0⟩
def Cell.mv (x y : Int) (c : Cell) : Cell := ⟨c.x + x, c.y + y, c.s⟩
def R_moved (ds : List PyData) (o : DOut) : Prop := ∃ b x y, ds = [bD b, pr x y] ∧ b.length ≤ 100 ∧ o = .ok (bD (b.map (Cell.mv x y)))
theorem ok_moved {P : Program} {w : World} {K : Fg} {mg : Str → Option Value} {base : Heap} {f : Addr} {fd : FuncData} (F : Fun K "moved" "moved" s_moved f fd)
    (m_tuple : mg "tuple" = none) :
    FnOk P w K mg base (L2.CX P w) 1 f fd ["board", "move"] (spD K 2 R_moved) := by
  refine F.okX sc_moved (fun vs H Q E h => len_D h) (fun cdv A outer s H vs Q E hr h => ⟨_, (pss_cons (ps_asg (pv 1) (pg_tup rfl (pgs_cons (pg_name (i := 2) sc_moved.nd rfl (by first | exact Or.inl rfl | exact Or.inr rfl)) (pgs_cons (pg_name (i := 3) sc_moved.nd rfl (by first | exact Or.inl rfl | exact Or.inr rfl)) pgs_nil))))
      (pss_one (ps_ret (pe_callTy call_tuple_of (by rfl) m_tuple bt_tuple (pa_cons (pe_lc (own := [("x", 4), ("y", 5), ("state", 6)]) rfl sc_moved.nd (pi_tup (pv 0)) (blkOk_by (N := N_moved) (sc := defScope s_moved) (by decide +kernel)) (fun _ _ _ _ _ => (show PG _ _ (gTup K 3 _) from (pg_tup rfl (pgs_cons (pg_name (i := 4) sc_moved.nd rfl (by first | exact Or.inl rfl | exact Or.inr rfl)) (pgs_cons (pg_name (i := 5) sc_moved.nd rfl (by first | exact Or.inl rfl | exact Or.inr rfl)) (pgs_cons (pg_name (i := 6) sc_moved.nd rfl (by first | exact Or.inl rfl | exact Or.inr rfl)) pgs_nil)))))) (fun _ _ _ _ _ => pts_nil) (fun _ _ _ _ _ => (pe_tup (pa_cons (pe_op (show OpR _ (binaryOp .Add) (rAddA K) from op_addA) (pv 4) (pv 2)) (pa_cons (pe_op (show OpR _ (binaryOp .Add) (rAddA K) from op_addA) (pv 5) (pv 3)) (pa_cons (pv 6) pa_nil)))))) pa_nil))))),
    fn_D h fun ds o hk hR => ?_⟩)
  try dsimp only [L2.cxOf]
  obtain ⟨b, x, y, rfl, hb, rfl⟩ := hR
  have hsz : (sizeLine : Nat) = 16777216 := sizeLine_eq
  walk_at "zq"
  refine lcT_map b Cell.d (fun c => (c.mv x y).d) ?_
  walk_at "zz"
  refine ⟨rfl, by omega, fun c hc => ⟨_, _, ?_, zg_tup rfl (zgs_cons (zgs_cons (zgs_cons zgs_nil))), fun D acc => ?_⟩, ?_⟩
  · simp
  · walk_at "zq"
    walk_at "zt"
    exact ⟨rfl, rfl⟩
  · walk_at "zq"
    refine zc_tupL ?_
    exact ⟨_, rfl, by unfold bD; rw [List.map_map]; rfl⟩
/-- a quarter -/
def Cell.q (c : Cell) : Cell := ⟨-c.y, c.x, c.s⟩
def Cell.fl (c : Cell) : Cell := ⟨-c.x, c.y, c.s⟩
def Cell.qs : Nat → Cell → Cell
  | 0, c => c
  | n + 1, c => (Cell.qs n c).q
def Cell.turn (t : Int) (c : Cell) : Cell := Cell.qs (t % 4).toNat (if t ≥ 4 then c.fl else c)
def R_turnedC (ds : List PyData) (o : DOut) : Prop := ∃ (c : Cell) (t : Int), ds = [c.d, .int t] ∧ 0 ≤ t ∧ t ≤ 7 ∧ o = .ok (c.turn t).d
theorem ok_turned_cell {P : Program} {w : World} {K : Fg} {mg : Str → Option Value} {base : Heap} {f : Addr} {fd : FuncData} (F : Fun K "_turned_cell" "_turned_cell" s_turned_cell f fd)
    (m_range : mg "range" = none) :
    FnOk P w K mg base (L2.CX P w) 1 f fd ["cell", "turn"] (spD K 2 R_turnedC) := by
  refine F.okX sc_turned_cell (fun vs H Q E h => len_D h) (fun cdv A outer s H vs Q E hr h => ⟨_, (pss_cons (ps_asg (pv 0) (pg_tup rfl (pgs_cons (pg_name (i := 2) sc_turned_cell.nd rfl (by first | exact Or.inl rfl | exact Or.inr rfl)) (pgs_cons (pg_name (i := 3) sc_turned_cell.nd rfl (by first | exact Or.inl rfl | exact Or.inr rfl)) (pgs_cons (pg_name (i := 4) sc_turned_cell.nd rfl (by first | exact Or.inl rfl | exact Or.inr rfl)) pgs_nil)))))
      (pss_cons (ps_if (pt_cmpR op_ge (pv 1) pe_int (nomark _)) (pss_one (ps_set (i := 2) sc_turned_cell.nd rfl (by first | exact Or.inl rfl | exact Or.inr rfl) (pe_un un_neg (pv 2)))) pss_nil)
      (pss_cons (ps_for (passes_of rfl) rfl (pi_range1 (by rfl) m_range (pa_cons (pe_op op_mod (pv 1) pe_int) pa_nil)) (pg_name (i := 5) sc_turned_cell.nd rfl (by first | exact Or.inl rfl | exact Or.inr rfl)) (pss_one (ps_par (i := 2) (j := 3) rfl sc_turned_cell.nd rfl rfl (by decide) rfl rfl (pa_cons (pe_un un_neg (pv 3)) (pa_cons (pv 2) pa_nil)) (by rfl))))
      (pss_one (ps_ret (pe_tup (pa_cons (pv 2) (pa_cons (pv 3) (pa_cons (pv 4) pa_nil))))))))),
    fn_D h fun ds o hk hR => ?_⟩)
  try dsimp only [L2.cxOf]
  obtain ⟨c, t, rfl, h0, h7, rfl⟩ := hR
  have hm0 := Int.emod_nonneg t (show (4 : Int) ≠ 0 by decide)
  have hm1 := Int.emod_lt_of_pos t (show (0 : Int) < 4 by decide)
  walk_at "zq"
  refine ⟨fun h => ?_, fun h => ?_⟩
  · have h4 : (if t ≥ 4 then c.fl else c) = c.fl := if_pos (of_decide_eq_true h)
    walk_at "zq"
    refine zo_mod (j := 4) (by decide) ?_
    walk_at "zz"
    refine ⟨_, rfl, by omega, by omega, fun i S2 M2 => ∃ x : Option ZV, S2 = [some (.d c.d), some (.d (.int t)), some (.d (.int (Cell.qs i (c.fl)).x)), some (.d (.int (Cell.qs i (c.fl)).y)), some (.d (.int (Cell.qs i (c.fl)).s)), x] ∧ M2 = [], ⟨_, rfl, rfl⟩, ?_, ?_⟩
    · rintro i S2 M2 hi ⟨x, rfl, rfl⟩
      walk_at "zq"
      first | exact ⟨_, rfl, rfl⟩ | rfl
    · rintro S2 M2 ⟨x, rfl, rfl⟩
      walk_at "zq"
      walk_at "zt"
      refine ⟨_, rfl, ?_⟩
      unfold Cell.turn
      rw [h4]
  · have h4 : (if t ≥ 4 then c.fl else c) = c := if_neg (of_decide_eq_false h)
    walk_at "zq"
    refine zo_mod (j := 4) (by decide) ?_
    walk_at "zz"
    refine ⟨_, rfl, by omega, by omega, fun i S2 M2 => ∃ x : Option ZV, S2 = [some (.d c.d), some (.d (.int t)), some (.d (.int (Cell.qs i (c)).x)), some (.d (.int (Cell.qs i (c)).y)), some (.d (.int (Cell.qs i (c)).s)), x] ∧ M2 = [], ⟨_, rfl, rfl⟩, ?_, ?_⟩
    · rintro i S2 M2 hi ⟨x, rfl, rfl⟩
      walk_at "zq"
      first | exact ⟨_, rfl, rfl⟩ | rfl
    · rintro S2 M2 ⟨x, rfl, rfl⟩
      walk_at "zq"
      walk_at "zt"
      refine ⟨_, rfl, ?_⟩
      unfold Cell.turn
      rw [h4]
def R_turnedB (ds : List PyData) (o : DOut) : Prop := ∃ (b : List Cell) (t : Int), ds = [bD b, .int t] ∧ b.length ≤ 100 ∧ 0 ≤ t ∧ t ≤ 7 ∧ o = .ok (.tuple ((sortI ((b.map (Cell.turn t)).map Cell.r)).map rowD))
theorem rows_d (b : List Cell) : (b.map Cell.r).map rowD = b.map Cell.d := by rw [List.map_map]; rfl
theorem rows_ne {b : List Cell} {r : List Int} (h : r ∈ b.map Cell.r) : r ≠ [] := by
  obtain ⟨c, _, rfl⟩ := List.mem_map.mp h
  intro z
  cases z
theorem ok_turned_board {P : Program} {w : World} {K : Fg} {mg : Str → Option Value} {base : Heap} {f : Addr} {fd : FuncData} (F : Fun K "turned_board" "turned_board" s_turned_board f fd)
    (m_tuple : mg "tuple" = none)
    (m_sorted : mg "sorted" = none)
    (c__turned_cell : Cal P w K mg base 1 "_turned_cell" (spD K 2 R_turnedC)) :
    FnOk P w K mg base (L2.CX P w) 2 f fd ["board", "turn"] (spD K 2 R_turnedB) := by
  refine F.okX sc_turned_board (fun vs H Q E h => len_D h) (fun cdv A outer s H vs Q E hr h => ⟨_, (pss_one (ps_ret (pe_callTy call_tuple_of (by rfl) m_tuple bt_tuple (pa_cons (pe_callB cr_sortC (by rfl) m_sorted bb_sorted (pa_cons (pe_lc (own := [("cell", 2)]) rfl sc_turned_board.nd (pi_tup (pv 0)) (blkOk_by (N := N_turned_board) (sc := defScope s_turned_board) (by decide +kernel)) (fun _ _ _ _ _ => (pg_name (i := 2) sc_turned_board.nd rfl (by first | exact Or.inl rfl | exact Or.inr rfl))) (fun _ _ _ _ _ => pts_nil) (fun _ _ _ _ _ => (pe_cl c__turned_cell hr (show 1 ≤ 1 by decide) passL (pa_cons (pv 2) (pa_cons (pv 1) pa_nil))))) pa_nil)) pa_nil)))),
    fn_D h fun ds o hk hR => ?_⟩)
  try dsimp only [L2.cxOf]
  obtain ⟨b, t, rfl, hb, h0, h7, rfl⟩ := hR
  have hsz : (sizeLine : Nat) = 16777216 := sizeLine_eq
  walk_at "zq"
  refine lcT_map b Cell.d (fun c => (c.turn t).d) ?_
  walk_at "zz"
  refine ⟨rfl, by omega, fun c hc => ⟨_, _, ?_, zg_name, fun D acc => ?_⟩, ?_⟩
  · simp
  · walk_at "zq"
    refine ⟨_, _, by walk_at "zd", rfl, ⟨c, t, rfl, h0, h7, rfl⟩, ?_⟩
    exact ⟨rfl, rfl⟩
  · walk_at "zq"
    rw [show (b.map fun c => (c.turn t).d) = ((b.map (Cell.turn t)).map Cell.r).map rowD by rw [rows_d, List.map_map]; rfl]
    refine zc_sortL (fun r hr => rows_ne hr) ?_
    walk_at "zq"
    refine zc_tupL ?_
    exact ⟨_, rfl, rfl⟩
/-- the box of a board -/
structure BoxOf (b : List Cell) (x0 y0 x1 y1 : Int) : Prop where
  x0 : ∃ c, b[0]? = some c ∧ c.x = x0
  y0 : IsMin y0 (b.map Cell.y)
  x1 : ∃ c, b[b.length - 1]? = some c ∧ c.x = x1
  y1 : IsMax y1 (b.map Cell.y)
def R_corners (ds : List PyData) (o : DOut) : Prop := ∃ b x0 y0 x1 y1, ds = [bD b] ∧ b.length ≤ 100 ∧ BoxOf b x0 y0 x1 y1 ∧ o = .ok (.tuple [.int x0, .int y0, .int x1, .int y1])
theorem atI_neg1 {b : List Cell} {c : Cell} (h : b[b.length - 1]? = some c) : atI (b.map Cell.d) (-1) = some c.d := by
  rcases List.eq_nil_or_concat b with rfl | ⟨l, x, rfl⟩
  · cases h
  · rw [List.concat_eq_append] at h ⊢
    simp only [List.length_append, List.length_cons, List.length_nil, Nat.add_sub_cancel, Nat.zero_add] at h
    rw [List.getElem?_append_right (Nat.le_refl _), Nat.sub_self] at h
    cases h
    rw [List.map_append]
    exact atI_last _ _
theorem atI_zero {b : List Cell} {c : Cell} (h : b[0]? = some c) : atI (b.map Cell.d) 0 = some c.d := atI_nat (j := 0) (by rw [List.getElem?_map, h]; rfl)
theorem ok_corners {P : Program} {w : World} {K : Fg} {mg : Str → Option Value} {base : Heap} {f : Addr} {fd : FuncData} (F : Fun K "corners" "corners" s_corners f fd)
    (m_max : mg "max" = none)
    (m_min : mg "min" = none) :
    FnOk P w K mg base (L2.CX P w) 1 f fd ["board"] (spD K 1 R_corners) := by
  refine F.okX sc_corners (fun vs H Q E h => len_D h) (fun cdv A outer s H vs Q E hr h => ⟨_, (pss_cons (ps_setLc (own := [("cell", 2)]) (i := 1) rfl sc_corners.nd rfl rfl (sw_true rfl rfl rfl (by decide +kernel)) (pi_tup (pv 0)) (blkOk_by (N := N_corners) (sc := defScope s_corners) (by decide +kernel)) (fun _ _ _ _ _ => (pg_name (i := 2) sc_corners.nd rfl (by first | exact Or.inl rfl | exact Or.inr rfl))) (fun _ _ _ _ _ => pts_nil) (fun _ _ _ _ _ => (pe_ix (show IxR _ (rIx K) from ix_seq) (pv 2) pe_int (fun _ _ => rfl))))
      (pss_one (ps_ret (pe_tup (pa_cons (pe_ix ix_seq (pe_ix ix_seq (pv 0) pe_int (fun _ _ => rfl)) pe_int (fun _ _ => rfl)) (pa_cons (pe_callB (cr_min rfl) (by rfl) m_min bb_min (pa_cons (pv 1) pa_nil)) (pa_cons (pe_ix ix_seq (pe_ix ix_seq (pv 0) (pe_un un_neg pe_int) (fun _ _ => rfl)) pe_int (fun _ _ => rfl)) (pa_cons (pe_callB (cr_max rfl) (by rfl) m_max bb_max (pa_cons (pv 1) pa_nil)) pa_nil)))))))),
    fn_D h fun ds o hk hR => ?_⟩)
  try dsimp only [L2.cxOf]
  obtain ⟨b, x0, y0, x1, y1, rfl, hb, ⟨⟨c0, h0, rfl⟩, hy0, ⟨c1, h1, rfl⟩, hy1⟩, rfl⟩ := hR
  have hsz : (sizeLine : Nat) = 16777216 := sizeLine_eq
  walk_at "zz"
  refine lcT_map b Cell.d (fun c => .int c.y) ?_
  walk_at "zz"
  refine ⟨rfl, by omega, fun c hc => ⟨_, _, ?_, zg_name, fun D acc => ?_⟩, ?_⟩
  · simp
  · walk_at "zq"
    exact ⟨rfl, rfl⟩
  · rw [show (b.map fun c => PyData.int c.y) = (b.map Cell.y).map .int by rw [List.map_map]; rfl]
    walk_at "zq"
    refine zo_ix (d := c0.d) (atI_zero h0) ?_
    walk_at "zq"
    refine zc_min hy0 ?_
    walk_at "zq"
    refine zo_ix (d := c1.d) (atI_neg1 h1) ?_
    walk_at "zq"
    refine zc_max hy1 ?_
    walk_at "zq"
    walk_at "zt"
    exact ⟨_, rfl, rfl⟩
def normD (b : List Cell) (x0 y0 : Int) : PyData := .tuple [bD (b.map (Cell.mv (-x0) (-y0))), pr x0 y0]
def R_norm (ds : List PyData) (o : DOut) : Prop := ∃ b, ds = [bD b] ∧ b.length ≤ 100 ∧ ((b = [] ∧ o = .ok (.tuple [.tuple [], pr 0 0])) ∨ ∃ x0 y0 x1 y1, BoxOf b x0 y0 x1 y1 ∧ o = .ok (normD b x0 y0))
theorem ok_made_normal {P : Program} {w : World} {K : Fg} {mg : Str → Option Value} {base : Heap} {f : Addr} {fd : FuncData} (F : Fun K "made_normal" "made_normal" s_made_normal f fd)
    (c_corners : Cal P w K mg base 1 "corners" (spD K 1 R_corners))
    (c_moved : Cal P w K mg base 1 "moved" (spD K 2 R_moved)) :
    FnOk P w K mg base (L2.CX P w) 2 f fd ["board"] (spD K 1 R_norm) := by
  refine F.okX sc_made_normal (fun vs H Q E h => len_D h) (fun cdv A outer s H vs Q E hr h => ⟨_, (pss_cons (ps_if (pt_not (pt_truth (pv 0) (fun _ => rfl))) (pss_one (ps_ret (pe_tup (pa_cons (pe_tup pa_nil) (pa_cons (pe_tup (pa_cons pe_int (pa_cons pe_int pa_nil))) pa_nil))))) pss_nil)
      (pss_cons (ps_asg (pe_slice sl_any (pe_cl c_corners hr (show 1 ≤ 1 by decide) passL (pa_cons (pv 0) pa_nil)) po_none (po_some pe_int)) (pg_tup rfl (pgs_cons (pg_name (i := 1) sc_made_normal.nd rfl (by first | exact Or.inl rfl | exact Or.inr rfl)) (pgs_cons (pg_name (i := 2) sc_made_normal.nd rfl (by first | exact Or.inl rfl | exact Or.inr rfl)) pgs_nil))))
      (pss_one (ps_ret (pe_tup (pa_cons (pe_cl c_moved hr (show 1 ≤ 1 by decide) passL (pa_cons (pv 0) (pa_cons (pe_tup (pa_cons (pe_un un_neg (pv 1)) (pa_cons (pe_un un_neg (pv 2)) pa_nil))) pa_nil))) (pa_cons (pe_tup (pa_cons (pv 1) (pa_cons (pv 2) pa_nil))) pa_nil))))))),
    fn_D h fun ds o hk hR => ?_⟩)
  try dsimp only [L2.cxOf]
  obtain ⟨b, rfl, hb, h⟩ := hR
  rcases h with ⟨rfl, rfl⟩ | ⟨x0, y0, x1, y1, hB, rfl⟩
  · walk_at "zq"
    walk_at "zt"
    walk_at "zq"
    walk_at "zt"
    walk_at "zq"
    walk_at "zt"
    exact ⟨_, rfl, rfl⟩
  · obtain ⟨c, l, rfl⟩ : ∃ c l, b = c :: l := by
      cases b with
      | nil => obtain ⟨c, h, _⟩ := hB.x0; cases h
      | cons c l => exact ⟨c, l, rfl⟩
    walk_at "zq"
    refine ⟨_, _, by walk_at "zd", rfl, ⟨c :: l, _, _, _, _, rfl, hb, hB, rfl⟩, ?_⟩
    walk_at "zq"
    walk_at "zt"
    walk_at "zq"
    refine ⟨_, _, by walk_at "zd", rfl, ⟨c :: l, _, _, rfl, hb, rfl⟩, ?_⟩
    walk_at "zq"
    walk_at "zt"
    walk_at "zq"
    walk_at "zt"
    exact ⟨_, rfl, rfl⟩
def heldB (b : List Cell) (x y : Int) : Option PyData := heldP (plcs b) (keyI [x, y])
def R_stateAt (ds : List PyData) (o : DOut) : Prop := ∃ b x y, ds = [bD b, pr x y] ∧ Board b ∧ InFar x ∧ InFar y ∧ o = .ok ((heldB b x y).getD (.int 0))
theorem ok_state_at {P : Program} {w : World} {K : Fg} {mg : Str → Option Value} {base : Heap} {f : Addr} {fd : FuncData} {C_BadBoard : Addr} (F : Fun K "state_at" "state_at" s_state_at f fd)
    (c_check_board : Cal P w K mg base 4 "check_board" (spD K 1 (R_chk C_BadBoard)))
    (c_check_move : Cal P w K mg base 3 "check_move" (spD K 1 R_chkmove))
    (c_states_by_place : Cal P w K mg base 1 "states_by_place" (spE K 1 R_sbp)) :
    FnOk P w K mg base (L2.CX P w) 5 f fd ["board", "place"] (spD K 2 R_stateAt) := by
  refine F.okX sc_state_at (fun vs H Q E h => len_D h) (fun cdv A outer s H vs Q E hr h => ⟨_, (pss_cons (ps_expr (pe_cl c_check_board hr (show 4 ≤ 4 by decide) passL (pa_cons (pv 0) pa_nil)))
      (pss_cons (ps_expr (pe_cl c_check_move hr (show 3 ≤ 4 by decide) passL (pa_cons (pv 1) pa_nil)))
      (pss_one (ps_ret (pe_dget2 (hu_of hr) (pe_cl c_states_by_place hr (show 1 ≤ 4 by decide) passL (pa_cons (pv 0) pa_nil)) (pv 1) pe_int ⟨rfl, rfl, rfl, rfl⟩))))),
    fn_D h fun ds o hk hR => ?_⟩)
  try dsimp only [L2.cxOf]
  obtain ⟨b, x, y, rfl, hb, hx, hy, rfl⟩ := hR
  walk_at "zq"
  refine ⟨_, _, by walk_at "zd", rfl, hb.chk, ?_⟩
  walk_at "zq"
  refine ⟨_, _, by walk_at "zd", rfl, ⟨x, y, rfl, hx, hy, rfl⟩, ?_⟩
  walk_at "zq"
  refine ⟨_, _, by walk_at "zd", rfl, ⟨b, rfl, by have := hb.len; omega, rfl⟩, fun p => ?_⟩
  refine ⟨p, rfl, ⟨_, _, m0⟩, ?_⟩
  walk_at "zq"
  refine ⟨x, [y], rfl, ?_⟩
  walk_at "zq"
  refine ⟨_, _, _, rfl, m0, ?_⟩
  exact ⟨_, rfl, rfl⟩
def R_shifted (ds : List PyData) (o : DOut) : Prop := ∃ b x y, ds = [bD b, pr x y] ∧ Board b ∧ InFar x ∧ InFar y ∧ o = .ok (bD (b.map (Cell.mv x y)))
theorem ok_shifted {P : Program} {w : World} {K : Fg} {mg : Str → Option Value} {base : Heap} {f : Addr} {fd : FuncData} {C_BadBoard : Addr} (F : Fun K "shifted" "shifted" s_shifted f fd)
    (c_check_board : Cal P w K mg base 4 "check_board" (spD K 1 (R_chk C_BadBoard)))
    (c_check_move : Cal P w K mg base 3 "check_move" (spD K 1 R_chkmove))
    (c_moved : Cal P w K mg base 1 "moved" (spD K 2 R_moved)) :
    FnOk P w K mg base (L2.CX P w) 5 f fd ["board", "move"] (spD K 2 R_shifted) := by
  refine F.okX sc_shifted (fun vs H Q E h => len_D h) (fun cdv A outer s H vs Q E hr h => ⟨_, (pss_cons (ps_expr (pe_cl c_check_board hr (show 4 ≤ 4 by decide) passL (pa_cons (pv 0) pa_nil)))
      (pss_cons (ps_expr (pe_cl c_check_move hr (show 3 ≤ 4 by decide) passL (pa_cons (pv 1) pa_nil)))
      (pss_one (ps_ret (pe_cl c_moved hr (show 1 ≤ 4 by decide) passL (pa_cons (pv 0) (pa_cons (pv 1) pa_nil))))))),
    fn_D h fun ds o hk hR => ?_⟩)
  try dsimp only [L2.cxOf]
  obtain ⟨b, x, y, rfl, hb, hx, hy, rfl⟩ := hR
  walk_at "zq"
  refine ⟨_, _, by walk_at "zd", rfl, hb.chk, ?_⟩
  walk_at "zq"
  refine ⟨_, _, by walk_at "zd", rfl, ⟨x, y, rfl, hx, hy, rfl⟩, ?_⟩
  walk_at "zq"
  refine ⟨_, _, by walk_at "zd", rfl, ⟨b, x, y, rfl, by have := hb.len; omega, rfl⟩, ?_⟩
  exact ⟨_, rfl, rfl⟩
def R_turned (ds : List PyData) (o : DOut) : Prop := ∃ (b : List Cell) (t : Int), ds = [bD b, .int t] ∧ Board b ∧ 0 ≤ t ∧ t ≤ 7 ∧ o = .ok (.tuple ((sortI ((b.map (Cell.turn t)).map Cell.r)).map rowD))
theorem ok_turned {P : Program} {w : World} {K : Fg} {mg : Str → Option Value} {base : Heap} {f : Addr} {fd : FuncData} {C_BadBoard : Addr} (F : Fun K "turned" "turned" s_turned f fd)
    (c_check_board : Cal P w K mg base 4 "check_board" (spD K 1 (R_chk C_BadBoard)))
    (c_check_number : Cal P w K mg base 2 "check_number" (spD K 3 R_chknum))
    (c_turned_board : Cal P w K mg base 2 "turned_board" (spD K 2 R_turnedB)) :
    FnOk P w K mg base (L2.CX P w) 5 f fd ["board", "turn"] (spD K 2 R_turned) := by
  refine F.okX sc_turned (fun vs H Q E h => len_D h) (fun cdv A outer s H vs Q E hr h => ⟨_, (pss_cons (ps_expr (pe_cl c_check_board hr (show 4 ≤ 4 by decide) passL (pa_cons (pv 0) pa_nil)))
      (pss_cons (ps_expr (pe_cl c_check_number hr (show 2 ≤ 4 by decide) passL (pa_cons (pv 1) (pa_cons pe_int (pa_cons pe_int pa_nil)))))
      (pss_one (ps_ret (pe_cl c_turned_board hr (show 2 ≤ 4 by decide) passL (pa_cons (pv 0) (pa_cons (pv 1) pa_nil))))))),
    fn_D h fun ds o hk hR => ?_⟩)
  try dsimp only [L2.cxOf]
  obtain ⟨b, t, rfl, hb, h0, h7, rfl⟩ := hR
  walk_at "zq"
  refine ⟨_, _, by walk_at "zd", rfl, hb.chk, ?_⟩
  walk_at "zq"
  refine ⟨_, _, by walk_at "zd", rfl, ⟨t, 0, 7, rfl, h0, h7, rfl⟩, ?_⟩
  walk_at "zq"
  refine ⟨_, _, by walk_at "zd", rfl, ⟨b, t, rfl, by have := hb.len; omega, h0, h7, rfl⟩, ?_⟩
  exact ⟨_, rfl, rfl⟩
def meet (b e : List Cell) : Bool := e.any fun c => (heldB b c.x c.y).isSome
def bothD (b e : List Cell) : PyData := .tuple ((sortI ((b ++ e).map Cell.r)).map rowD)
def R_joined (C : Addr) (ds : List PyData) (o : DOut) : Prop := ∃ b e, ds = [bD b, bD e] ∧ Board b ∧ Board e ∧ o = if meet b e = true then .ex ⟨C, []⟩ else .ok (bothD b e)
theorem ok_joined {P : Program} {w : World} {K : Fg} {mg : Str → Option Value} {base : Heap} {f : Addr} {fd : FuncData} {C_BadBoard C_Clash : Addr} (F : Fun K "joined" "joined" s_joined f fd)
    (m_any : mg "any" = none)
    (r_Clash : Rsr K mg "Clash" C_Clash)
    (m_tuple : mg "tuple" = none)
    (m_sorted : mg "sorted" = none)
    (c_check_board : Cal P w K mg base 4 "check_board" (spD K 1 (R_chk C_BadBoard)))
    (c_states_by_place : Cal P w K mg base 1 "states_by_place" (spE K 1 R_sbp)) :
    FnOk P w K mg base (L2.CX P w) 5 f fd ["board", "other"] (spD K 2 (R_joined C_Clash)) := by
  refine F.okX sc_joined (fun vs H Q E h => len_D h) (fun cdv A outer s H vs Q E hr h => ⟨_, (pss_cons (ps_expr (pe_cl c_check_board hr (show 4 ≤ 4 by decide) passL (pa_cons (pv 0) pa_nil)))
      (pss_cons (ps_expr (pe_cl c_check_board hr (show 4 ≤ 4 by decide) passL (pa_cons (pv 1) pa_nil)))
      (pss_cons (ps_set (i := 2) sc_joined.nd rfl (by first | exact Or.inl rfl | exact Or.inr rfl) (pe_cl c_states_by_place hr (show 1 ≤ 4 by decide) passL (pa_cons (pv 0) pa_nil)))
      (pss_cons (ps_if (pt_val (pe_callB (cr_any rfl) (by rfl) m_any bb_any (pa_cons (pe_lc (own := [("x", 3), ("y", 4), ("_", 5)]) rfl sc_joined.nd (pi_tup (pv 1)) (blkOk_by (N := N_joined) (sc := defScope s_joined) (by decide +kernel)) (fun _ _ _ _ _ => (show PG _ _ (gTup K 3 _) from (pg_tup rfl (pgs_cons (pg_name (i := 3) sc_joined.nd rfl (by first | exact Or.inl rfl | exact Or.inr rfl)) (pgs_cons (pg_name (i := 4) sc_joined.nd rfl (by first | exact Or.inl rfl | exact Or.inr rfl)) (pgs_cons (pg_name (i := 5) sc_joined.nd rfl (by first | exact Or.inl rfl | exact Or.inr rfl)) pgs_nil)))))) (fun _ _ _ _ _ => pts_nil) (fun _ _ _ _ _ => (pe_cmp (pc_din (hu_of hr) (pe_tup (pa_cons (pv 3) (pa_cons (pv 4) pa_nil))) (pv 2))))) pa_nil)) (fun _ => rfl)) (pss_one (ps_raise rfl (takes_of rfl rfl rfl rfl) (pmk_own PySem.F.excBase_ValueError r_Clash.xi r_Clash.g r_Clash.k (raises_own r_Clash.ex r_Clash.ty) rfl))) pss_nil)
      (pss_one (ps_ret (pe_callTy call_tuple_of (by rfl) m_tuple bt_tuple (pa_cons (pe_callB cr_sortC (by rfl) m_sorted bb_sorted (pa_cons (pe_op op_addA (pv 0) (pv 1)) pa_nil)) pa_nil)))))))),
    fn_D h fun ds o hk hR => ?_⟩)
  try dsimp only [L2.cxOf]
  obtain ⟨b, e, rfl, hb, he, rfl⟩ := hR
  have hsz : (sizeLine : Nat) = 16777216 := sizeLine_eq
  have l1 := hb.len
  have l2 := he.len
  walk_at "zq"
  refine ⟨_, _, by walk_at "zd", rfl, hb.chk, ?_⟩
  walk_at "zq"
  refine ⟨_, _, by walk_at "zd", rfl, he.chk, ?_⟩
  walk_at "zq"
  refine ⟨_, _, by walk_at "zd", rfl, ⟨b, rfl, by omega, rfl⟩, fun p => ?_⟩
  walk_at "zq"
  refine lcT_map e Cell.d (fun c => .bool (heldB b c.x c.y).isSome) ?_
  walk_at "zz"
  refine ⟨rfl, by omega, fun c hc => ⟨_, _, ?_, zg_tup rfl (zgs_cons (zgs_cons (zgs_cons zgs_nil))), fun D acc => ?_⟩, ?_⟩
  · simp
  · walk_at "zq"
    walk_at "zt"
    refine ⟨c.x, [c.y], rfl, ?_⟩
    walk_at "zq"
    refine ⟨_, _, _, rfl, m1 m0, ?_⟩
    exact ⟨rfl, rfl⟩
  · rw [show (e.map fun c => PyData.bool (heldB b c.x c.y).isSome) = (e.map fun c => (heldB b c.x c.y).isSome).map .bool by rw [List.map_map]; rfl]
    walk_at "zq"
    rw [show (e.map fun c => (heldB b c.x c.y).isSome).any id = meet b e by rw [List.any_map]; rfl]
    cases hm : meet b e with
    | true =>
      walk_at "zq"
      rfl
    | false =>
      walk_at "zq"
      refine za_t (by rw [List.length_map, List.length_map]; omega) ?_
      walk_at "zq"
      rw [← List.map_append, ← rows_d]
      refine zc_sortT (fun r hr => rows_ne hr) ?_
      walk_at "zq"
      refine zc_tupL ?_
      exact ⟨_, rfl, rfl⟩
def R_box (C : Addr) (ds : List PyData) (o : DOut) : Prop := ∃ vs, ds = [.tuple vs] ∧ (∀ v ∈ vs, Wild v) ∧ vs.length ≤ 100 ∧ ((∃ i, FirstBad vs i ∧ o = .ex ⟨C, [("index", .int (i : Nat))]⟩) ∨ ((∀ i, ¬ Bad vs i) ∧ ∃ b, vs = b.map Cell.d ∧ ((b = [] ∧ o = .ok .none) ∨ ∃ x0 y0 x1 y1, BoxOf b x0 y0 x1 y1 ∧ o = .ok (.tuple [.int x0, .int y0, .int x1, .int y1]))))
theorem ok_box {P : Program} {w : World} {K : Fg} {mg : Str → Option Value} {base : Heap} {f : Addr} {fd : FuncData} {C_BadBoard : Addr} (F : Fun K "box" "box" s_box f fd)
    (c_check_board : Cal P w K mg base 4 "check_board" (spD K 1 (R_chk C_BadBoard)))
    (c_corners : Cal P w K mg base 1 "corners" (spD K 1 R_corners)) :
    FnOk P w K mg base (L2.CX P w) 5 f fd ["board"] (spD K 1 (R_box C_BadBoard)) := by
  refine F.okX sc_box (fun vs H Q E h => len_D h) (fun cdv A outer s H vs Q E hr h => ⟨_, (pss_cons (ps_expr (pe_cl c_check_board hr (show 4 ≤ 4 by decide) (passes_call (takes_of rfl rfl rfl rfl) fun _ _ _ _ h => h) (pa_cons (pv 0) pa_nil)))
      (pss_cons (ps_if (pt_not (pt_truth (pv 0) (fun _ => rfl))) (pss_one (ps_ret pe_non)) pss_nil)
      (pss_one (ps_ret (pe_cl c_corners hr (show 1 ≤ 4 by decide) passL (pa_cons (pv 0) pa_nil)))))),
    fn_D h fun ds o hk hR => ?_⟩)
  try dsimp only [L2.cxOf]
  obtain ⟨vs, rfl, hw, hl, h⟩ := hR
  walk_at "zq"
  rcases h with ⟨i, hi, rfl⟩ | ⟨hn, b, rfl, h⟩
  · refine ⟨_, _, by walk_at "zd", rfl, ⟨vs, rfl, hw, by omega, .inl ⟨i, hi, rfl⟩⟩, fun d h => (nomatch h), fun x h => ?_⟩
    cases h
    rfl
  · refine ⟨_, _, by walk_at "zd", rfl, ⟨_, rfl, hw, by omega, .inr ⟨hn, rfl⟩⟩, fun d h => ?_, fun x h => (nomatch h)⟩
    cases h
    rw [List.length_map] at hl
    rcases h with ⟨rfl, rfl⟩ | ⟨x0, y0, x1, y1, hB, rfl⟩
    · walk_at "zq"
      rfl
    · obtain ⟨c, l, rfl⟩ : ∃ c l, b = c :: l := by
        cases b with
        | nil => obtain ⟨c, h, _⟩ := hB.x0; cases h
        | cons c l => exact ⟨c, l, rfl⟩
      walk_at "zq"
      refine ⟨_, _, by walk_at "zd", rfl, ⟨c :: l, _, _, _, _, rfl, hl, hB, rfl⟩, ?_⟩
      exact ⟨_, rfl, rfl⟩
def R_living (ds : List PyData) (o : DOut) : Prop := ∃ b, ds = [bD b] ∧ Board b ∧ o = .ok (.int ((b.filter fun c => decide (c.s = 1)).length : Nat))
theorem ok_living {P : Program} {w : World} {K : Fg} {mg : Str → Option Value} {base : Heap} {f : Addr} {fd : FuncData} {C_BadBoard : Addr} (F : Fun K "living" "living" s_living f fd)
    (m_len : mg "len" = none)
    (c_check_board : Cal P w K mg base 4 "check_board" (spD K 1 (R_chk C_BadBoard))) :
    FnOk P w K mg base (L2.CX P w) 5 f fd ["board"] (spD K 1 R_living) := by
  refine F.okX sc_living (fun vs H Q E h => len_D h) (fun cdv A outer s H vs Q E hr h => ⟨_, (pss_cons (ps_expr (pe_cl c_check_board hr (show 4 ≤ 4 by decide) passL (pa_cons (pv 0) pa_nil)))
      (pss_one (ps_ret (pe_callB call_len (by rfl) m_len bb_len (pa_cons (pe_lc (own := [("cell", 1)]) rfl sc_living.nd (pi_tup (pv 0)) (blkOk_by (N := N_living) (sc := defScope s_living) (by decide +kernel)) (fun _ _ _ _ _ => (pg_name (i := 1) sc_living.nd rfl (by first | exact Or.inl rfl | exact Or.inr rfl))) (fun _ _ _ _ _ => (pts_one (pt_cmpR (show OpR _ (compareOp .Eq) (rEqA K) from (op_eqA hr.units)) (pe_ix (show IxR _ (rIx K) from ix_seq) (pv 1) pe_int (fun _ _ => rfl)) pe_int (nomark _)))) (fun _ _ _ _ _ => (pv 1))) pa_nil))))),
    fn_D h fun ds o hk hR => ?_⟩)
  try dsimp only [L2.cxOf]
  obtain ⟨b, rfl, hb, rfl⟩ := hR
  have hsz : (sizeLine : Nat) = 16777216 := sizeLine_eq
  have l1 := hb.len
  walk_at "zq"
  refine ⟨_, _, by walk_at "zd", rfl, hb.chk, ?_⟩
  walk_at "zq"
  refine lcT_fm b Cell.d Cell.d (fun c => decide (c.s = 1)) ?_
  walk_at "zz"
  refine ⟨rfl, by omega, fun c hc => ⟨_, _, ?_, zg_name, fun D acc => ⟨?_, fun _ => ?_⟩⟩, ?_⟩
  · simp
  · walk_at "zq"
    try exact ⟨rfl, rfl⟩
  · walk_at "zq"
    try exact ⟨rfl, rfl⟩
  · walk_at "zq"
    rw [List.length_map]
    try exact ⟨_, rfl, rfl⟩
def R_normal (ds : List PyData) (o : DOut) : Prop := ∃ b, ds = [bD b] ∧ Board b ∧ ((b = [] ∧ o = .ok (.tuple [.tuple [], pr 0 0])) ∨ ∃ x0 y0 x1 y1, BoxOf b x0 y0 x1 y1 ∧ o = .ok (normD b x0 y0))
theorem ok_normal {P : Program} {w : World} {K : Fg} {mg : Str → Option Value} {base : Heap} {f : Addr} {fd : FuncData} {C_BadBoard : Addr} (F : Fun K "normal" "normal" s_normal f fd)
    (c_check_board : Cal P w K mg base 4 "check_board" (spD K 1 (R_chk C_BadBoard)))
    (c_made_normal : Cal P w K mg base 2 "made_normal" (spD K 1 R_norm)) :
    FnOk P w K mg base (L2.CX P w) 5 f fd ["board"] (spD K 1 R_normal) := by
  refine F.okX sc_normal (fun vs H Q E h => len_D h) (fun cdv A outer s H vs Q E hr h => ⟨_, (pss_cons (ps_expr (pe_cl c_check_board hr (show 4 ≤ 4 by decide) passL (pa_cons (pv 0) pa_nil)))
      (pss_one (ps_ret (pe_cl c_made_normal hr (show 2 ≤ 4 by decide) passL (pa_cons (pv 0) pa_nil))))),
    fn_D h fun ds o hk hR => ?_⟩)
  try dsimp only [L2.cxOf]
  obtain ⟨b, rfl, hb, h⟩ := hR
  walk_at "zq"
  refine ⟨_, _, by walk_at "zd", rfl, hb.chk, ?_⟩
  walk_at "zq"
  rcases h with ⟨h0, rfl⟩ | h
  · refine ⟨_, _, by walk_at "zd", rfl, ⟨b, rfl, by have := hb.len; omega, .inl ⟨h0, rfl⟩⟩, ?_⟩
    exact ⟨_, rfl, rfl⟩
  · obtain ⟨x0, y0, x1, y1, hB, rfl⟩ := h
    refine ⟨_, _, by walk_at "zd", rfl, ⟨b, rfl, by have := hb.len; omega, .inr ⟨x0, y0, x1, y1, hB, rfl⟩⟩, ?_⟩
    exact ⟨_, rfl, rfl⟩
/-- numbers, texts, None, and tuples and lists of such -/
def al : Nat → PyData → Bool
  | 0, _ => false
  | _ + 1, .int _ => true
  | _ + 1, .str _ => true
  | _ + 1, .none => true
  | n + 1, .tuple xs => decide (xs.length ≤ 1000) && xs.all (al n)
  | n + 1, .list xs => decide (xs.length ≤ 1000) && xs.all (al n)
  | _ + 1, _ => false
def R_alike (n : Nat) (ds : List PyData) (o : DOut) : Prop := ∃ d, ds = [d, d] ∧ al n d = true ∧ o = .ok (.bool true)
theorem alike_vac {P : Program} {w : World} {K : Fg} {mg : Str → Option Value} {base : Heap} {f : Addr} {fd : FuncData} (F : Fun K "_law_alike" "_law_alike" s_law_alike f fd) : FnOk P w K mg base (L2.CX P w) 1 f fd ["found", "due"] (spD K 2 (R_alike 0)) := by
  refine F.okX sc_law_alike (fun vs H Q E h => len_D h) (fun cdv A outer s H vs Q E hr h => ?_)
  obtain ⟨G, ds, o, e, hk, hd, ⟨d, _, h2, _⟩, _⟩ := h
  cases h2
theorem ok_law_alike {P : Program} {w : World} {K : Fg} {mg : Str → Option Value} {base : Heap} {f : Addr} {fd : FuncData} {j : Nat} {n : Nat} (F : Fun K "_law_alike" "_law_alike" s_law_alike f fd)
    (m_isinstance : mg "isinstance" = none)
    (m_list : mg "list" = none)
    (m_tuple : mg "tuple" = none)
    (m_len : mg "len" = none)
    (m_range : mg "range" = none)
    (m_str : mg "str" = none)
    (m_bool : mg "bool" = none)
    (m_int : mg "int" = none)
    (c__law_alike : Cal P w K mg base j "_law_alike" (spD K 2 (R_alike n))) :
    FnOk P w K mg base (L2.CX P w) (j+1) f fd ["found", "due"] (spD K 2 (R_alike (n + 1))) := by
  refine F.okX sc_law_alike (fun vs H Q E h => len_D h) (fun cdv A outer s H vs Q E hr h => ⟨_, (pss_cons (ps_if (pt_val (pe_callB call_isiT (by rfl) m_isinstance bb_isinstance (pa_cons (pv 1) (pa_cons (pe_tup (pa_cons (pe_bltn (v := .ty "tuple") (by rfl) m_tuple bt_tuple rfl) (pa_cons (pe_bltn (v := .ty "list") (by rfl) m_list bt_list rfl) pa_nil))) pa_nil))) (fun _ => rfl)) (pss_cons (ps_if (PW.pt (pw_or (pt_not (pt_val (pe_callB call_isiT (by rfl) m_isinstance bb_isinstance (pa_cons (pv 0) (pa_cons (pe_tup (pa_cons (pe_bltn (v := .ty "tuple") (by rfl) m_tuple bt_tuple rfl) (pa_cons (pe_bltn (v := .ty "list") (by rfl) m_list bt_list rfl) pa_nil))) pa_nil))) (fun _ => rfl))) (pw_or1 (pt_cmpR (op_neA hr.units) (pe_callB call_isi (by rfl) m_isinstance bb_isinstance (pa_cons (pv 0) (pa_cons (pe_bltn (v := .ty "list") (by rfl) m_list bt_list rfl) pa_nil))) (pe_callB call_isi (by rfl) m_isinstance bb_isinstance (pa_cons (pv 1) (pa_cons (pe_bltn (v := .ty "list") (by rfl) m_list bt_list rfl) pa_nil))) (nomark _))))) (pss_one (ps_ret pe_bl)) pss_nil)
      (pss_cons (ps_if (pt_cmpR (op_neA hr.units) (pe_callB call_len (by rfl) m_len bb_len (pa_cons (pv 0) pa_nil)) (pe_callB call_len (by rfl) m_len bb_len (pa_cons (pv 1) pa_nil)) (nomark _)) (pss_one (ps_ret pe_bl)) pss_nil)
      (pss_one (ps_ret (pe_cmpR (op_eqA hr.units) (pe_lc (own := [("k", 2)]) rfl sc_law_alike.nd (pi_range1 (by rfl) m_range (pa_cons (pe_callB call_len (by rfl) m_len bb_len (pa_cons (pv 1) pa_nil)) pa_nil)) (blkOk_by (N := N_law_alike) (sc := defScope s_law_alike) (by decide +kernel)) (fun _ _ _ _ _ => (pg_name (i := 2) sc_law_alike.nd rfl (by first | exact Or.inl rfl | exact Or.inr rfl))) (fun _ _ _ _ _ => (pts_one (pt_not (pt_val (pe_cl c__law_alike hr (Nat.le_refl _) passL (pa_cons (pe_ix (show IxR _ (rIx K) from ix_seq) (pv 0) (pv 2) (fun _ _ => rfl)) (pa_cons (pe_ix (show IxR _ (rIx K) from ix_seq) (pv 1) (pv 2) (fun _ _ => rfl)) pa_nil))) (fun _ => rfl))))) (fun _ _ _ _ _ => (pv 2))) (pe_lst pa_nil) (nomark _)))))) pss_nil)
      (pss_cons (ps_if (PW.pt (pw_or (pt_cmpR op_isN (pv 1) pe_non (nomark _)) (pw_or1 (pt_val (pe_callB call_isi (by rfl) m_isinstance bb_isinstance (pa_cons (pv 1) (pa_cons (pe_bltn (v := .ty "str") (by rfl) m_str bt_str rfl) pa_nil))) (fun _ => rfl))))) (pss_one (ps_ret (pe_and (pe_cmpR (op_eqA hr.units) (pv 0) (pv 1) (nomark _)) (pe_one (pe_cmpR (op_eqA hr.units) (pe_callB call_isi (by rfl) m_isinstance bb_isinstance (pa_cons (pv 0) (pa_cons (pe_bltn (v := .ty "str") (by rfl) m_str bt_str rfl) pa_nil))) (pe_callB call_isi (by rfl) m_isinstance bb_isinstance (pa_cons (pv 1) (pa_cons (pe_bltn (v := .ty "str") (by rfl) m_str bt_str rfl) pa_nil))) (nomark _)))))) pss_nil)
      (pss_one (ps_ret (pe_and (pe_callB call_isi (by rfl) m_isinstance bb_isinstance (pa_cons (pv 0) (pa_cons (pe_bltn (v := .ty "int") (by rfl) m_int bt_int rfl) pa_nil))) (pe_and (pe_cmpR (op_eqA hr.units) (pe_callB call_isi (by rfl) m_isinstance bb_isinstance (pa_cons (pv 0) (pa_cons (pe_bltn (v := .ty "bool") (by rfl) m_bool bt_bool rfl) pa_nil))) (pe_callB call_isi (by rfl) m_isinstance bb_isinstance (pa_cons (pv 1) (pa_cons (pe_bltn (v := .ty "bool") (by rfl) m_bool bt_bool rfl) pa_nil))) (nomark _)) (pe_one (pe_cmpR (op_eqA hr.units) (pv 0) (pv 1) (nomark _))))))))),
    fn_D h fun ds o hk hR => ?_⟩)
  try dsimp only [L2.cxOf]
  obtain ⟨d, rfl, ha, rfl⟩ := hR
  walk_at "zz"
  cases d with
  | tuple xs =>
    have ha2 : xs.length ≤ 1000 ∧ ∀ x ∈ xs, al n x = true := by
      have h : (decide (xs.length ≤ 1000) && xs.all (al n)) = true := ha
      rw [Bool.and_eq_true, List.all_eq_true] at h
      exact ⟨of_decide_eq_true h.1, h.2⟩
    walk_at "zq"
    rw [decide_eq_true rfl]
    walk_at "zq"
    refine ⟨by omega, by rw [sizeLine_eq]; omega, fun i acc M' => acc = [] ∧ M' = [], ⟨rfl, rfl⟩, ?_, ?_⟩
    · rintro i hi acc M2 D ⟨rfl, rfl⟩
      have hi2 : i < xs.length := by omega
      have hat : atI xs (0 + (i : Int)) = some xs[i] := by rw [Int.zero_add]; exact atI_nat (List.getElem?_eq_getElem hi2)
      refine ⟨_, _, ?_, zg_name, ?_⟩
      · simp
      · walk_at "zq"
        refine ⟨_, _, allD_cons (allD_cons allD_nil), rfl, ⟨_, rfl, ha2.2 _ (List.getElem_mem hi2), rfl⟩, ?_⟩
        walk_at "zq"
        exact ⟨rfl, rfl⟩
    · rintro acc M2 ⟨rfl, rfl⟩
      walk_at "zq"
      refine zw_lstD ?_
      walk_at "zq"
      walk_at "zt"
      refine zo_eqDD rfl rfl ?_
      exact ⟨_, rfl, rfl⟩
  | list xs =>
    have ha2 : xs.length ≤ 1000 ∧ ∀ x ∈ xs, al n x = true := by
      have h : (decide (xs.length ≤ 1000) && xs.all (al n)) = true := ha
      rw [Bool.and_eq_true, List.all_eq_true] at h
      exact ⟨of_decide_eq_true h.1, h.2⟩
    walk_at "zq"
    rw [decide_eq_true rfl]
    walk_at "zq"
    refine ⟨by omega, by rw [sizeLine_eq]; omega, fun i acc M' => acc = [] ∧ M' = [], ⟨rfl, rfl⟩, ?_, ?_⟩
    · rintro i hi acc M2 D ⟨rfl, rfl⟩
      have hi2 : i < xs.length := by omega
      have hat : atI xs (0 + (i : Int)) = some xs[i] := by rw [Int.zero_add]; exact atI_nat (List.getElem?_eq_getElem hi2)
      refine ⟨_, _, ?_, zg_name, ?_⟩
      · simp
      · walk_at "zq"
        refine ⟨_, _, allD_cons (allD_cons allD_nil), rfl, ⟨_, rfl, ha2.2 _ (List.getElem_mem hi2), rfl⟩, ?_⟩
        walk_at "zq"
        exact ⟨rfl, rfl⟩
    · rintro acc M2 ⟨rfl, rfl⟩
      walk_at "zq"
      refine zw_lstD ?_
      walk_at "zq"
      walk_at "zt"
      refine zo_eqDD rfl rfl ?_
      exact ⟨_, rfl, rfl⟩
  | str x =>
    walk_at "zq"
    rw [decide_eq_true rfl]
    walk_at "zq"
    all_goals rfl
  | int i =>
    walk_at "zq"
    rw [decide_eq_true rfl]
  | none =>
    walk_at "zq"
    refine zo_eqDD rfl rfl ?_
    walk_at "zq"
    rfl
  | _ => cases ha
def R_lmoved (ds : List PyData) (o : DOut) : Prop := ∃ b x y, ds = [bD b, .int x, .int y] ∧ b.length ≤ 100 ∧ o = .ok (bD (b.map (Cell.mv x y)))
theorem ok_law_moved {P : Program} {w : World} {K : Fg} {mg : Str → Option Value} {base : Heap} {f : Addr} {fd : FuncData} (F : Fun K "_law_moved" "_law_moved" s_law_moved f fd)
    (m_tuple : mg "tuple" = none) :
    FnOk P w K mg base (L2.CX P w) 1 f fd ["board", "x", "y"] (spD K 3 R_lmoved) := by
  refine F.okX sc_law_moved (fun vs H Q E h => len_D h) (fun cdv A outer s H vs Q E hr h => ⟨_, (pss_one (ps_ret (pe_callTy call_tuple_of (by rfl) m_tuple bt_tuple (pa_cons (pe_lc (own := [("cell", 3)]) rfl sc_law_moved.nd (pi_tup (pv 0)) (blkOk_by (N := N_law_moved) (sc := defScope s_law_moved) (by decide +kernel)) (fun _ _ _ _ _ => (pg_name (i := 3) sc_law_moved.nd rfl (by first | exact Or.inl rfl | exact Or.inr rfl))) (fun _ _ _ _ _ => pts_nil) (fun _ _ _ _ _ => (pe_tup (pa_cons (pe_op (show OpR _ (binaryOp .Add) (rAddA K) from op_addA) (pe_ix (show IxR _ (rIx K) from ix_seq) (pv 3) pe_int (fun _ _ => rfl)) (pv 1)) (pa_cons (pe_op (show OpR _ (binaryOp .Add) (rAddA K) from op_addA) (pe_ix (show IxR _ (rIx K) from ix_seq) (pv 3) pe_int (fun _ _ => rfl)) (pv 2)) (pa_cons (pe_ix (show IxR _ (rIx K) from ix_seq) (pv 3) pe_int (fun _ _ => rfl)) pa_nil)))))) pa_nil)))),
    fn_D h fun ds o hk hR => ?_⟩)
  try dsimp only [L2.cxOf]
  obtain ⟨b, x, y, rfl, hb, rfl⟩ := hR
  have hsz : (sizeLine : Nat) = 16777216 := sizeLine_eq
  walk_at "zq"
  refine lcT_map b Cell.d (fun c => (c.mv x y).d) ?_
  walk_at "zz"
  refine ⟨rfl, by omega, fun c hc => ⟨_, _, ?_, zg_name, fun D acc => ?_⟩, ?_⟩
  · simp
  · walk_at "zq"
    walk_at "zt"
    exact ⟨rfl, rfl⟩
  · walk_at "zq"
    refine zc_tupL ?_
    exact ⟨_, rfl, by unfold bD; rw [List.map_map]; rfl⟩
theorem lay_cells : ∀ b : List Cell, PyData.canLayAll0 (b.map Cell.d) = true
  | [] => rfl
  | _ :: r => by simp [PyData.canLayAll0, PyData.canLay0, lay_cells r]
theorem deep_cells : ∀ b : List Cell, PyData.depthAll (b.map Cell.d) ≤ 2
  | [] => by simp [PyData.depthAll]
  | _ :: r => by
    have := deep_cells r
    simp [PyData.depthAll, PyData.depth]
    omega
theorem shp_bD (b : List Cell) : SeqAt.shaped (bD b) = true := by
  have := deep_cells b
  simp [SeqAt.shaped, PyData.canLay0, PyData.depth, lay_cells]
  omega
theorem shp_bL (b : List Cell) : SeqAt.shaped (.list (b.map Cell.d)) = true := by
  have := deep_cells b
  simp [SeqAt.shaped, PyData.canLay0, PyData.depth, lay_cells]
  omega
theorem eqv_bD (b : List Cell) : PyData.eqv (bD b) (.tuple []) = b.isEmpty := by cases b <;> rfl
theorem eqv_bL (b : List Cell) : PyData.eqv (.list (b.map Cell.d)) (.list []) = b.isEmpty := by cases b <;> rfl
structure LBox (b : List Cell) (x0 y0 x1 y1 : Int) : Prop where
  x0 : IsMin x0 (b.map Cell.x)
  y0 : IsMin y0 (b.map Cell.y)
  x1 : IsMax x1 (b.map Cell.x)
  y1 : IsMax y1 (b.map Cell.y)
def R_lbox (ds : List PyData) (o : DOut) : Prop := ∃ b, ds = [bD b] ∧ b.length ≤ 100 ∧ ((b = [] ∧ o = .ok .none) ∨ ∃ x0 y0 x1 y1, LBox b x0 y0 x1 y1 ∧ o = .ok (.tuple [.int x0, .int y0, .int x1, .int y1]))
theorem ok_law_box {P : Program} {w : World} {K : Fg} {mg : Str → Option Value} {base : Heap} {f : Addr} {fd : FuncData} (F : Fun K "_law_box" "_law_box" s_law_box f fd)
    (m_max : mg "max" = none)
    (m_min : mg "min" = none) :
    FnOk P w K mg base (L2.CX P w) 1 f fd ["board"] (spD K 1 R_lbox) := by
  refine F.okX sc_law_box (fun vs H Q E h => len_D h) (fun cdv A outer s H vs Q E hr h => ⟨_, (pss_cons (ps_if (pt_cmpR (op_eqA hr.units) (pv 0) (pe_tup pa_nil) (nomark _)) (pss_one (ps_ret pe_non)) pss_nil)
      (pss_cons (ps_par (i := 1) (j := 2) rfl sc_law_box.nd rfl rfl (by decide) rfl rfl (pa_cons (pe_lc (own := [("cell", 3)]) rfl sc_law_box.nd (pi_tup (pv 0)) (blkOk_by (N := N_law_box) (sc := defScope s_law_box) (by decide +kernel)) (fun _ _ _ _ _ => (pg_name (i := 3) sc_law_box.nd rfl (by first | exact Or.inl rfl | exact Or.inr rfl))) (fun _ _ _ _ _ => pts_nil) (fun _ _ _ _ _ => (pe_ix (show IxR _ (rIx K) from ix_seq) (pv 3) pe_int (fun _ _ => rfl)))) (pa_cons (pe_lc (own := [("cell", 3)]) rfl sc_law_box.nd (pi_tup (pv 0)) (blkOk_by (N := N_law_box) (sc := defScope s_law_box) (by decide +kernel)) (fun _ _ _ _ _ => (pg_name (i := 3) sc_law_box.nd rfl (by first | exact Or.inl rfl | exact Or.inr rfl))) (fun _ _ _ _ _ => pts_nil) (fun _ _ _ _ _ => (pe_ix (show IxR _ (rIx K) from ix_seq) (pv 3) pe_int (fun _ _ => rfl)))) pa_nil)) (by rfl))
      (pss_one (ps_ret (pe_tup (pa_cons (pe_callB (cr_min rfl) (by rfl) m_min bb_min (pa_cons (pv 1) pa_nil)) (pa_cons (pe_callB (cr_min rfl) (by rfl) m_min bb_min (pa_cons (pv 2) pa_nil)) (pa_cons (pe_callB (cr_max rfl) (by rfl) m_max bb_max (pa_cons (pv 1) pa_nil)) (pa_cons (pe_callB (cr_max rfl) (by rfl) m_max bb_max (pa_cons (pv 2) pa_nil)) pa_nil))))))))),
    fn_D h fun ds o hk hR => ?_⟩)
  try dsimp only [L2.cxOf]
  obtain ⟨b, rfl, hb, h⟩ := hR
  have hsz : (sizeLine : Nat) = 16777216 := sizeLine_eq
  walk_at "zz"
  refine ⟨_, allD_nil, Nat.zero_le _, ?_⟩
  refine zo_eqDD (shp_bD b) rfl ?_
  rw [eqv_bD]
  rcases h with ⟨rfl, rfl⟩ | ⟨x0, y0, x1, y1, ⟨hx0, hy0, hx1, hy1⟩, rfl⟩
  · walk_at "zq"
    rfl
  · rw [show b.isEmpty = false by
      cases b with
      | nil => cases hx0.1
      | cons c l => rfl]
    walk_at "zq"
    refine lcT_map b Cell.d (fun c => .int c.x) ?_
    walk_at "zz"
    refine ⟨rfl, by omega, fun c hc => ⟨_, _, ?_, zg_name, fun D acc => ?_⟩, ?_⟩
    · simp
    · walk_at "zq"
      exact ⟨rfl, rfl⟩
    · rw [show (b.map fun c => PyData.int c.x) = (b.map Cell.x).map .int by rw [List.map_map]; rfl]
      walk_at "zz"
      refine lcT_map b Cell.d (fun c => .int c.y) ?_
      walk_at "zz"
      refine ⟨rfl, by omega, fun c hc => ⟨_, _, ?_, zg_name, fun D acc => ?_⟩, ?_⟩
      · simp
      · walk_at "zq"
        exact ⟨rfl, rfl⟩
      · rw [show (b.map fun c => PyData.int c.y) = (b.map Cell.y).map .int by rw [List.map_map]; rfl]
        walk_at "zq"
        refine zc_min hx0 ?_
        walk_at "zq"
        refine zc_min hy0 ?_
        walk_at "zq"
        refine zc_max hx1 ?_
        walk_at "zq"
        refine zc_max hy1 ?_
        walk_at "zq"
        walk_at "zt"
        exact ⟨_, rfl, rfl⟩
def R_lnorm (ds : List PyData) (o : DOut) : Prop := ∃ b, ds = [bD b] ∧ b.length ≤ 100 ∧ ((b = [] ∧ o = .ok (.tuple [.tuple [], pr 0 0])) ∨ ∃ x0 y0 x1 y1, LBox b x0 y0 x1 y1 ∧ o = .ok (normD b x0 y0))
theorem ok_law_normal {P : Program} {w : World} {K : Fg} {mg : Str → Option Value} {base : Heap} {f : Addr} {fd : FuncData} (F : Fun K "_law_normal" "_law_normal" s_law_normal f fd)
    (c__law_box : Cal P w K mg base 1 "_law_box" (spD K 1 R_lbox))
    (c__law_moved : Cal P w K mg base 1 "_law_moved" (spD K 3 R_lmoved)) :
    FnOk P w K mg base (L2.CX P w) 2 f fd ["board"] (spD K 1 R_lnorm) := by
  refine F.okX sc_law_normal (fun vs H Q E h => len_D h) (fun cdv A outer s H vs Q E hr h => ⟨_, (pss_cons (ps_if (pt_cmpR (op_eqA hr.units) (pv 0) (pe_tup pa_nil) (nomark _)) (pss_one (ps_ret (pe_tup (pa_cons (pe_tup pa_nil) (pa_cons (pe_tup (pa_cons pe_int (pa_cons pe_int pa_nil))) pa_nil))))) pss_nil)
      (pss_cons (ps_set (i := 1) sc_law_normal.nd rfl (by first | exact Or.inl rfl | exact Or.inr rfl) (pe_cl c__law_box hr (show 1 ≤ 1 by decide) passL (pa_cons (pv 0) pa_nil)))
      (pss_one (ps_ret (pe_tup (pa_cons (pe_cl c__law_moved hr (show 1 ≤ 1 by decide) passL (pa_cons (pv 0) (pa_cons (pe_op op_sub pe_int (pe_ix ix_seq (pv 1) pe_int (fun _ _ => rfl))) (pa_cons (pe_op op_sub pe_int (pe_ix ix_seq (pv 1) pe_int (fun _ _ => rfl))) pa_nil)))) (pa_cons (pe_slice sl_any (pv 1) po_none (po_some pe_int)) pa_nil))))))),
    fn_D h fun ds o hk hR => ?_⟩)
  try dsimp only [L2.cxOf]
  obtain ⟨b, rfl, hb, h⟩ := hR
  have hsz : (sizeLine : Nat) = 16777216 := sizeLine_eq
  walk_at "zz"
  refine ⟨_, allD_nil, Nat.zero_le _, ?_⟩
  refine zo_eqDD (shp_bD b) rfl ?_
  rw [eqv_bD]
  rcases h with ⟨rfl, rfl⟩ | ⟨x0, y0, x1, y1, hB, rfl⟩
  · walk_at "zq"
    walk_at "zt"
    walk_at "zq"
    walk_at "zt"
    walk_at "zq"
    walk_at "zt"
    exact ⟨_, rfl, rfl⟩
  · rw [show b.isEmpty = false by
      cases b with
      | nil => cases hB.x0.1
      | cons c l => rfl]
    walk_at "zq"
    refine ⟨_, _, by walk_at "zd", rfl, ⟨b, rfl, hb, .inr ⟨_, _, _, _, hB, rfl⟩⟩, ?_⟩
    walk_at "zq"
    refine ⟨_, _, by walk_at "zd", rfl, ⟨b, _, _, rfl, hb, rfl⟩, ?_⟩
    rw [Int.zero_sub, Int.zero_sub]
    walk_at "zq"
    walk_at "zt"
    exact ⟨_, rfl, rfl⟩
theorem bD_rows (b : List Cell) : bD b = .tuple ((b.map Cell.r).map rowD) := by rw [rows_d]
def R_lturned (ds : List PyData) (o : DOut) : Prop := ∃ (b : List Cell) (t : Int), ds = [.tuple [bD b, .int 1, pr 0 0], .int t] ∧ b.length ≤ 100 ∧ 0 ≤ t ∧ t ≤ 7 ∧ o = .ok (.tuple [.tuple ((sortI ((b.map (Cell.turn t)).map Cell.r)).map rowD), .int 1, pr 0 0])
theorem ok_law_turned_piece {P : Program} {w : World} {K : Fg} {mg : Str → Option Value} {base : Heap} {f : Addr} {fd : FuncData} (F : Fun K "_law_turned_piece" "_law_turned_piece" s_law_turned_piece f fd)
    (m_tuple : mg "tuple" = none)
    (m_range : mg "range" = none)
    (m_int : mg "int" = none)
    (m_sorted : mg "sorted" = none) :
    FnOk P w K mg base (L2.CX P w) 1 f fd ["piece", "turn"] (spD K 2 R_lturned) := by
  refine F.okX sc_law_turned_piece (fun vs H Q E h => len_D h) (fun cdv A outer s H vs Q E hr h => ⟨_, (pss_cons (ps_asg (pv 0) (pg_tup rfl (pgs_cons (pg_name (i := 2) sc_law_turned_piece.nd rfl (by first | exact Or.inl rfl | exact Or.inr rfl)) (pgs_cons (pg_name (i := 3) sc_law_turned_piece.nd rfl (by first | exact Or.inl rfl | exact Or.inr rfl)) (pgs_cons (pg_name (i := 4) sc_law_turned_piece.nd rfl (by first | exact Or.inl rfl | exact Or.inr rfl)) pgs_nil)))))
      (pss_cons (ps_set (i := 5) sc_law_turned_piece.nd rfl (by first | exact Or.inl rfl | exact Or.inr rfl) (pe_ifExp (pt_cmpR op_ge (pv 1) pe_int (nomark _)) (pe_tup (pa_cons (pe_op op_sub pe_int (pe_ix ix_seq (pv 4) pe_int (fun _ _ => rfl))) (pa_cons (pe_ix ix_seq (pv 4) pe_int (fun _ _ => rfl)) pa_nil))) (pv 4)))
      (pss_cons (ps_set (i := 2) sc_law_turned_piece.nd rfl (by first | exact Or.inl rfl | exact Or.inr rfl) (pe_ifExp (pt_cmpR op_ge (pv 1) pe_int (nomark _)) (pe_callTy call_tuple_of (by rfl) m_tuple bt_tuple (pa_cons (pe_lc (own := [("cell", 6)]) rfl sc_law_turned_piece.nd (pi_tup (pv 2)) (blkOk_by (N := N_law_turned_piece) (sc := defScope s_law_turned_piece) (by decide +kernel)) (fun _ _ _ _ _ => (pg_name (i := 6) sc_law_turned_piece.nd rfl (by first | exact Or.inl rfl | exact Or.inr rfl))) (fun _ _ _ _ _ => pts_nil) (fun _ _ _ _ _ => (pe_tup (pa_cons (pe_op op_sub pe_int (pe_ix (show IxR _ (rIx K) from ix_seq) (pv 6) pe_int (fun _ _ => rfl))) (pa_cons (pe_ix (show IxR _ (rIx K) from ix_seq) (pv 6) pe_int (fun _ _ => rfl)) (pa_cons (pe_ix (show IxR _ (rIx K) from ix_seq) (pv 6) pe_int (fun _ _ => rfl)) pa_nil)))))) pa_nil)) (pv 2)))
      (pss_cons (ps_for (passes_of rfl) rfl (pi_range1 (by rfl) m_range (pa_cons (pe_op op_mod (pe_callTy (call_int1.or call_int_str) (by rfl) m_int bt_int (pa_cons (pv 1) pa_nil)) pe_int) pa_nil)) (pg_name (i := 7) sc_law_turned_piece.nd rfl (by first | exact Or.inl rfl | exact Or.inr rfl)) (pss_cons (ps_set (i := 2) sc_law_turned_piece.nd rfl (by first | exact Or.inl rfl | exact Or.inr rfl) (pe_callTy call_tuple_of (by rfl) m_tuple bt_tuple (pa_cons (pe_lc (own := [("cell", 6)]) rfl sc_law_turned_piece.nd (pi_tup (pv 2)) (blkOk_by (N := N_law_turned_piece) (sc := defScope s_law_turned_piece) (by decide +kernel)) (fun _ _ _ _ _ => (pg_name (i := 6) sc_law_turned_piece.nd rfl (by first | exact Or.inl rfl | exact Or.inr rfl))) (fun _ _ _ _ _ => pts_nil) (fun _ _ _ _ _ => (pe_tup (pa_cons (pe_op op_sub pe_int (pe_ix (show IxR _ (rIx K) from ix_seq) (pv 6) pe_int (fun _ _ => rfl))) (pa_cons (pe_ix (show IxR _ (rIx K) from ix_seq) (pv 6) pe_int (fun _ _ => rfl)) (pa_cons (pe_ix (show IxR _ (rIx K) from ix_seq) (pv 6) pe_int (fun _ _ => rfl)) pa_nil)))))) pa_nil)))
      (pss_one (ps_set (i := 5) sc_law_turned_piece.nd rfl (by first | exact Or.inl rfl | exact Or.inr rfl) (pe_tup (pa_cons (pe_op op_sub pe_int (pe_ix ix_seq (pv 5) pe_int (fun _ _ => rfl))) (pa_cons (pe_ix ix_seq (pv 5) pe_int (fun _ _ => rfl)) pa_nil)))))))
      (pss_one (ps_ret (pe_tup (pa_cons (pe_callTy call_tuple_of (by rfl) m_tuple bt_tuple (pa_cons (pe_callB cr_sortC (by rfl) m_sorted bb_sorted (pa_cons (pv 2) pa_nil)) pa_nil)) (pa_cons (pv 3) (pa_cons (pv 5) pa_nil)))))))))),
    fn_D h fun ds o hk hR => ?_⟩)
  try dsimp only [L2.cxOf]
  obtain ⟨b, t, rfl, hb, h0, h7, rfl⟩ := hR
  have hsz : (sizeLine : Nat) = 16777216 := sizeLine_eq
  have hm0 := Int.emod_nonneg t (show (4 : Int) ≠ 0 by decide)
  have hm1 := Int.emod_lt_of_pos t (show (0 : Int) < 4 by decide)
  walk_at "zq"
  have step : ∀ (b0 : List Cell) (i : Nat), ((b0.map (Cell.qs i)).map fun c => PyData.tuple [.int (0 - c.y), .int c.x, .int c.s]) = (b0.map (Cell.qs (i + 1))).map Cell.d := fun b0 i => by
    rw [List.map_map, List.map_map]
    refine List.map_congr_left fun c _ => ?_
    show PyData.tuple [.int (0 - (c.qs i).y), .int (c.qs i).x, .int (c.qs i).s] = _
    rw [Int.zero_sub]
    rfl
  by_cases h4 : 4 ≤ t
  · rw [decide_eq_true h4]
    walk_at "zq"
    walk_at "zt"
    walk_at "zq"
    rw [decide_eq_true h4]
    walk_at "zq"
    refine lcT_map b Cell.d (fun c => c.fl.d) ?_
    walk_at "zz"
    refine ⟨rfl, by omega, fun c hc => ⟨_, _, ?_, zg_name, fun D acc => ?_⟩, ?_⟩
    · simp
    · walk_at "zq"
      rw [Int.zero_sub]
      walk_at "zt"
      exact ⟨rfl, rfl⟩
    · rw [show (b.map fun c => c.fl.d) = (b.map Cell.fl).map Cell.d by rw [List.map_map]; rfl]
      have hlen : (b.map Cell.fl).length ≤ 100 := by rw [List.length_map]; exact hb
      have hturn : (b.map (Cell.turn t)) = (b.map Cell.fl).map (Cell.qs (t % 4).toNat) := by
        rw [List.map_map]
        refine List.map_congr_left fun c _ => ?_
        unfold Cell.turn
        rw [if_pos h4]
        rfl
      rw [hturn]
      generalize b.map Cell.fl = b0 at hlen ⊢
      walk_at "zq"
      refine zc_tupL ?_
      walk_at "zq"
      refine zo_mod (j := 4) (by decide) ?_
      walk_at "zz"
      refine ⟨_, rfl, by omega, by omega, fun i S2 M2 => ∃ (c6 c7 : Option ZV), S2 = [some (.d (.tuple [bD b, .int 1, pr 0 0])), some (.d (.int t)), some (.d (bD (b0.map (Cell.qs i)))), some (.d (.int 1)), some (.d (pr 0 0)), some (.d (pr 0 0)), c6, c7] ∧ M2 = [], ⟨_, _, by rw [show Cell.qs 0 = id from rfl, List.map_id]; rfl, rfl⟩, ?_, ?_⟩
      · rintro i S2 M2 hi ⟨c6, c7, rfl, rfl⟩
        walk_at "zq"
        refine lcT_map (b0.map (Cell.qs i)) Cell.d (fun c => .tuple [.int (0 - c.y), .int c.x, .int c.s]) ?_
        walk_at "zz"
        refine ⟨rfl, by rw [List.length_map]; omega, fun c hc => ⟨_, _, ?_, zg_name, fun D acc => ?_⟩, ?_⟩
        · simp
        · walk_at "zq"
          walk_at "zt"
          exact ⟨rfl, rfl⟩
        · rw [step]
          walk_at "zq"
          refine zc_tupL ?_
          walk_at "zq"
          walk_at "zt"
          walk_at "zq"
          first | rfl | exact ⟨_, _, rfl, rfl⟩
      · rintro S2 M2 ⟨c6, c7, rfl, rfl⟩
        walk_at "zq"
        rw [bD_rows (b0.map (Cell.qs (t % 4).toNat))]
        refine zc_sortT (fun r hr => rows_ne hr) ?_
        walk_at "zq"
        refine zc_tupL ?_
        walk_at "zq"
        walk_at "zt"
        exact ⟨_, rfl, rfl⟩
  · rw [decide_eq_false h4]
    walk_at "zq"
    rw [decide_eq_false h4]
    have hturn : (b.map (Cell.turn t)) = b.map (Cell.qs (t % 4).toNat) := by
      refine List.map_congr_left fun c _ => ?_
      unfold Cell.turn
      rw [if_neg h4]
    have hlen := hb
    rw [hturn]
    generalize hb0 : b = b0 at hlen
    walk_at "zq"
    refine zo_mod (j := 4) (by decide) ?_
    walk_at "zz"
    refine ⟨_, rfl, by omega, by omega, fun i S2 M2 => ∃ (c6 c7 : Option ZV), S2 = [some (.d (.tuple [bD b, .int 1, pr 0 0])), some (.d (.int t)), some (.d (bD (b0.map (Cell.qs i)))), some (.d (.int 1)), some (.d (pr 0 0)), some (.d (pr 0 0)), c6, c7] ∧ M2 = [], ⟨_, _, by rw [show Cell.qs 0 = id from rfl, List.map_id, ← hb0]; rfl, rfl⟩, ?_, ?_⟩
    · rintro i S2 M2 hi ⟨c6, c7, rfl, rfl⟩
      walk_at "zq"
      refine lcT_map (b0.map (Cell.qs i)) Cell.d (fun c => .tuple [.int (0 - c.y), .int c.x, .int c.s]) ?_
      walk_at "zz"
      refine ⟨rfl, by rw [List.length_map]; omega, fun c hc => ⟨_, _, ?_, zg_name, fun D acc => ?_⟩, ?_⟩
      · simp
      · walk_at "zq"
        walk_at "zt"
        exact ⟨rfl, rfl⟩
      · rw [step]
        walk_at "zq"
        refine zc_tupL ?_
        walk_at "zq"
        walk_at "zt"
        walk_at "zq"
        first | rfl | exact ⟨_, _, rfl, rfl⟩
    · rintro S2 M2 ⟨c6, c7, rfl, rfl⟩
      walk_at "zq"
      rw [bD_rows (b0.map (Cell.qs (t % 4).toNat))]
      refine zc_sortT (fun r hr => rows_ne hr) ?_
      walk_at "zq"
      refine zc_tupL ?_
      walk_at "zq"
      walk_at "zt"
      exact ⟨_, rfl, rfl⟩
def R_vec (ds : List PyData) (o : DOut) : Prop := (∃ c : Cell, ds = [c.d, .int 3] ∧ o = .ok (.bool true)) ∨ (ds = [.tuple [.bool true, .int 0, .int 1], .int 3] ∧ o = .ok (.bool false))
theorem ok_law_is_vector {P : Program} {w : World} {K : Fg} {mg : Str → Option Value} {base : Heap} {f : Addr} {fd : FuncData} (F : Fun K "_law_is_vector" "_law_is_vector" s_law_is_vector f fd)
    (m_len : mg "len" = none)
    (m_isinstance : mg "isinstance" = none)
    (m_tuple : mg "tuple" = none)
    (m_bool : mg "bool" = none)
    (m_int : mg "int" = none) :
    FnOk P w K mg base (L2.CX P w) 1 f fd ["value", "size"] (spD K 2 R_vec) := by
  refine F.okX sc_law_is_vector (fun vs H Q E h => len_D h) (fun cdv A outer s H vs Q E hr h => ⟨_, (pss_cons (ps_if (PW.pt (pw_or (pt_not (pt_val (pe_callB call_isi (by rfl) m_isinstance bb_isinstance (pa_cons (pv 0) (pa_cons (pe_bltn (v := .ty "tuple") (by rfl) m_tuple bt_tuple rfl) pa_nil))) (fun _ => rfl))) (pw_or1 (pt_cmpR (op_neA hr.units) (pe_callB call_len (by rfl) m_len bb_len (pa_cons (pv 0) pa_nil)) (pv 1) (nomark _))))) (pss_one (ps_ret pe_bl)) pss_nil)
      (pss_one (ps_ret (pe_cmpR (op_eqA hr.units) (pe_lc (own := [("x", 2)]) rfl sc_law_is_vector.nd (pi_tup (pv 0)) (blkOk_by (N := N_law_is_vector) (sc := defScope s_law_is_vector) (by decide +kernel)) (fun _ _ _ _ _ => (pg_name (i := 2) sc_law_is_vector.nd rfl (by first | exact Or.inl rfl | exact Or.inr rfl))) (fun _ _ _ _ _ => (pts_one (PW.pt (pw_or (pt_not (pt_val (pe_callB (show CallR _ (.builtin "isinstance") (rIsi K) from call_isi) (by rfl) m_isinstance bb_isinstance (pa_cons (pv 2) (pa_cons (pe_bltn (v := .ty "int") (by rfl) m_int bt_int rfl) pa_nil))) (fun _ => rfl))) (pw_or1 (pt_val (pe_callB (show CallR _ (.builtin "isinstance") (rIsi K) from call_isi) (by rfl) m_isinstance bb_isinstance (pa_cons (pv 2) (pa_cons (pe_bltn (v := .ty "bool") (by rfl) m_bool bt_bool rfl) pa_nil))) (fun _ => rfl))))))) (fun _ _ _ _ _ => (pv 2))) (pe_lst pa_nil) (nomark _))))),
    fn_D h fun ds o hk hR => ?_⟩)
  try dsimp only [L2.cxOf]
  have hsz : (sizeLine : Nat) = 16777216 := sizeLine_eq
  rcases hR with ⟨c, rfl, rfl⟩ | ⟨rfl, rfl⟩
  · walk_at "zq"
    refine lcT_fm [PyData.int c.x, .int c.y, .int c.s] id id (fun _ => false) ?_
    walk_at "zz"
    refine ⟨rfl, by rw [hsz]; exact Nat.le_of_ble_eq_true rfl, fun x hx => ⟨_, _, ?_, zg_name, fun D acc => ⟨?_, fun z => Bool.noConfusion z⟩⟩, ?_⟩
    · simp
    · obtain ⟨i, rfl⟩ : ∃ i, x = .int i := by
        simp only [List.mem_cons, List.not_mem_nil, or_false] at hx
        rcases hx with rfl | rfl | rfl <;> exact ⟨_, rfl⟩
      walk_at "zq"
      try exact ⟨rfl, rfl⟩
    · walk_at "zq"
      refine zw_lstD ?_
      walk_at "zq"
      walk_at "zt"
      refine zo_eqDD rfl rfl ?_
      exact ⟨_, rfl, rfl⟩
  · walk_at "zq"
    refine lcT_fm [PyData.bool true, .int 0, .int 1] id id (fun x => match x with | .bool _ => true | _ => false) ?_
    walk_at "zz"
    refine ⟨rfl, by rw [hsz]; exact Nat.le_of_ble_eq_true rfl, fun x hx => ⟨_, _, ?_, zg_name, fun D acc => ⟨?_, fun z => ?_⟩⟩, ?_⟩
    · simp
    · simp only [List.mem_cons, List.not_mem_nil, or_false] at hx
      rcases hx with rfl | rfl | rfl
      · walk_at "zq"
        try exact ⟨rfl, rfl⟩
      · walk_at "zq"
        try exact ⟨rfl, rfl⟩
      · walk_at "zq"
        try exact ⟨rfl, rfl⟩
    · walk_at "zq"
      try exact ⟨rfl, rfl⟩
    · walk_at "zq"
      refine zw_lstD ?_
      walk_at "zq"
      walk_at "zt"
      refine zo_eqDD rfl rfl ?_
      exact ⟨_, rfl, rfl⟩
def Wd (x : Int) : Prop := x.natAbs.log2 < 9000
theorem wd_of {x : Int} (h : x.natAbs < 2 ^ 200) : Wd x := by
  unfold Wd
  by_cases hz : x.natAbs = 0
  · rw [hz]; decide
  · exact Nat.lt_of_lt_of_le ((Nat.log2_lt hz).2 h) (by decide)
/-- a draw's row: the script, the cell's number, the seed, the rest -/
structure RowS where
  ns : List Int
  i : Int
  s : Int
  r : Int
  hi : 0 ≤ i
  hs : 0 ≤ s
  ht : s < 2147483647
def RowS.d (t : RowS) : List PyData := [.list (t.ns.map .int), .int t.i, .int t.s, .int t.r]
def RowS.cell (t : RowS) : Int := t.ns.getD t.i.toNat 0
def RowS.draw (t : RowS) (many : Int) : Int := if 0 < t.r then t.r % many else if (t.ns.length : Int) < t.i + 1 then (t.s * 48271 + 11) % 2147483647 / 7 % many else t.cell % many
theorem mod_ok (a : Int) : 0 ≤ a % 2147483647 ∧ a % 2147483647 < 2147483647 := ⟨Int.emod_nonneg _ (by decide), Int.emod_lt_of_pos _ (by decide)⟩
def RowS.next (t : RowS) (many : Int) : RowS := if 0 < t.r then { t with r := t.r / many } else if (t.ns.length : Int) < t.i + 1 then ⟨t.ns, t.i + 1, (t.s * 48271 + 11) % 2147483647, t.r, by have := t.hi; omega, (mod_ok _).1, (mod_ok _).2⟩
  else ⟨t.ns, t.i + 1, (t.s * 48271 + t.cell + 11) % 2147483647, if 10 ^ 18 ≤ t.cell then t.cell / many else t.r, by have := t.hi; omega, (mod_ok _).1, (mod_ok _).2⟩
theorem RowS.draw_lt (t : RowS) {many : Int} (h : 0 < many) : 0 ≤ t.draw many ∧ t.draw many < many := by
  unfold RowS.draw
  split
  · exact ⟨Int.emod_nonneg _ (by omega), Int.emod_lt_of_pos _ h⟩
  · split <;> exact ⟨Int.emod_nonneg _ (by omega), Int.emod_lt_of_pos _ h⟩
def R_taken (xs ds : List PyData) (F : DOut → List PyData → Prop) : Prop := ∃ (t : RowS) (many : Int), xs = t.d ∧ ds = [.int many] ∧ 0 < many ∧ many.natAbs.log2 < 9000 ∧ ∀ (v : Int) (t' : RowS), 0 ≤ v → v < many → F (.ok (.int v)) t'.d
theorem ok_law_taken {P : Program} {w : World} {K : Fg} {mg : Str → Option Value} {base : Heap} {f : Addr} {fd : FuncData} (F : Fun K "_law_taken" "_law_taken" s_law_taken f fd)
    (m_int : mg "int" = none)
    (m_len : mg "len" = none) :
    FnOk P w K mg base (L2.CX P w) 1 f fd ["row", "many"] (spC K 1 R_taken) := by
  refine F.okX sc_law_taken (fun vs H Q E h => len_C h) (fun cdv A outer s H vs Q E hr h => ⟨_, (pss_cons (ps_if (pt_cmpR op_gt (pe_ix ix_seq (pv 0) pe_int (fun _ _ => rfl)) pe_int (nomark _)) (pss_cons (ps_set (i := 2) sc_law_taken.nd rfl (by first | exact Or.inl rfl | exact Or.inr rfl) (pe_op op_mod (pe_callTy (call_int1.or call_int_str) (by rfl) m_int bt_int (pa_cons (pe_ix ix_seq (pv 0) pe_int (fun _ _ => rfl)) pa_nil)) (pv 1)))
      (pss_cons (ps_asg (pe_op op_fdivW (pe_ix ix_seq (pv 0) pe_int (fun _ _ => rfl)) (pv 1)) (pg_sub (pv 0) pe_int set_list))
      (pss_one (ps_ret (pv 2))))) pss_nil)
      (pss_cons (ps_asg (pe_op op_addA (pe_ix ix_seq (pv 0) pe_int (fun _ _ => rfl)) pe_int) (pg_sub (pv 0) pe_int set_list))
      (pss_cons (ps_if (pt_cmpR op_gt (pe_ix ix_seq (pv 0) pe_int (fun _ _ => rfl)) (pe_callB call_len (by rfl) m_len bb_len (pa_cons (pe_ix ix_seq (pv 0) pe_int (fun _ _ => rfl)) pa_nil)) (nomark _)) (pss_cons (ps_asg (pe_op op_mod (pe_callTy (call_int1.or call_int_str) (by rfl) m_int bt_int (pa_cons (pe_op op_addA (pe_op op_mul (pe_ix ix_seq (pv 0) pe_int (fun _ _ => rfl)) pe_int) pe_int) pa_nil)) pe_int) (pg_sub (pv 0) pe_int set_list))
      (pss_one (ps_ret (pe_op op_mod (pe_callTy (call_int1.or call_int_str) (by rfl) m_int bt_int (pa_cons (pe_op op_fdivW (pe_ix ix_seq (pv 0) pe_int (fun _ _ => rfl)) pe_int) pa_nil)) (pv 1))))) pss_nil)
      (pss_cons (ps_set (i := 3) sc_law_taken.nd rfl (by first | exact Or.inl rfl | exact Or.inr rfl) (pe_ix ix_seq (pe_ix ix_seq (pv 0) pe_int (fun _ _ => rfl)) (pe_op op_sub (pe_ix ix_seq (pv 0) pe_int (fun _ _ => rfl)) pe_int) (fun _ _ => rfl)))
      (pss_cons (ps_asg (pe_op op_mod (pe_callTy (call_int1.or call_int_str) (by rfl) m_int bt_int (pa_cons (pe_op op_addA (pe_op op_addA (pe_op op_mul (pe_ix ix_seq (pv 0) pe_int (fun _ _ => rfl)) pe_int) (pv 3)) pe_int) pa_nil)) pe_int) (pg_sub (pv 0) pe_int set_list))
      (pss_cons (ps_if (pt_cmpR op_ge (pv 3) (pe_op op_pow pe_int pe_int) (nomark _)) (pss_one (ps_asg (pe_op op_fdivW (pv 3) (pv 1)) (pg_sub (pv 0) pe_int set_list))) pss_nil)
      (pss_one (ps_ret (pe_op op_mod (pe_callTy (call_int1.or call_int_str) (by rfl) m_int bt_int (pa_cons (pv 3) pa_nil)) (pv 1)))))))))),
    fn_C h fun p xs ds F hk hR => ?_⟩)
  try dsimp only [L2.cxOf]
  obtain ⟨t, many, rfl, rfl, hm, hm2, hF⟩ := hR
  have hG := hF _ (t.next many) (t.draw_lt hm).1 (t.draw_lt hm).2
  clear hF
  have hi := t.hi
  have hs := t.hs
  have ht := t.ht
  walk_at "zz"
  refine ⟨_, rfl, fun hb => ?_, fun hb => ?_⟩
  · have hb : 0 < t.r := of_decide_eq_true hb
    have e1 : t.draw many = t.r % many := if_pos hb
    have e2 : (t.next many).d = [.list (t.ns.map .int), .int t.i, .int t.s, .int (t.r / many)] := by unfold RowS.next; rw [if_pos hb]; rfl
    walk_at "zz"
    refine zo_mod hm ?_
    walk_at "zz"
    refine zo_fdivW ⟨hm, hm2⟩ ?_
    refine ⟨_, rfl, ?_⟩
    walk_at "zz"
    refine ⟨p, false, _, 3, 3, _, rfl, rfl, rfl, .here, ?_⟩
    walk_at "zz"
    exact ⟨_, _, rfl, by rw [e1] at hG; exact hG, by rw [e2]; exact m0⟩
  · have hb : ¬ 0 < t.r := of_decide_eq_false hb
    walk_at "zz"
    refine ⟨_, rfl, ?_⟩
    walk_at "zz"
    refine ⟨p, false, _, 1, 1, _, rfl, rfl, rfl, .here, ?_⟩
    walk_at "zz"
    refine ⟨_, rfl, fun hc => ?_, fun hc => ?_⟩
    · have hc : (t.ns.length : Int) < t.i + 1 := by simpa using of_decide_eq_true hc
      have e1 : t.draw many = (t.s * 48271 + 11) % 2147483647 / 7 % many := by unfold RowS.draw; rw [if_neg hb, if_pos hc]
      have e2 : (t.next many).d = [.list (t.ns.map .int), .int (t.i + 1), .int ((t.s * 48271 + 11) % 2147483647), .int t.r] := by unfold RowS.next; rw [if_neg hb, if_pos hc]; rfl
      walk_at "zz"
      refine zo_mul (.inl ⟨by omega, by omega⟩) ?_
      walk_at "zz"
      refine zo_mod (by decide) ?_
      refine ⟨_, rfl, ?_⟩
      walk_at "zz"
      refine ⟨p, false, _, 2, 2, _, rfl, rfl, rfl, .here, ?_⟩
      walk_at "zz"
      refine zo_fdivW ⟨by decide, by decide⟩ ?_
      walk_at "zz"
      refine zo_mod hm ?_
      exact ⟨_, _, rfl, by rw [e1] at hG; exact hG, by rw [e2]; exact m0⟩
    · have hc : ¬ (t.ns.length : Int) < t.i + 1 := fun z => absurd (of_decide_eq_false hc) (by simpa using z)
      have hg : t.ns[t.i.toNat]? = some t.cell := by
        unfold RowS.cell
        rw [List.getD_eq_getElem?_getD]
        rw [List.getElem?_eq_getElem (by omega)]
        rfl
      have hat : atI (t.ns.map PyData.int) (t.i + 1 - 1) = some (.int t.cell) := by
        have e : t.i + 1 - 1 = ((t.i.toNat : Nat) : Int) := by omega
        rw [e]
        exact atI_nat (by rw [List.getElem?_map, hg]; rfl)
      have e1 : t.draw many = t.cell % many := by unfold RowS.draw; rw [if_neg hb, if_neg hc]
      have e2 : (t.next many).d = [.list (t.ns.map .int), .int (t.i + 1), .int ((t.s * 48271 + t.cell + 11) % 2147483647), .int (if 10 ^ 18 ≤ t.cell then t.cell / many else t.r)] := by unfold RowS.next; rw [if_neg hb, if_neg hc]; rfl
      walk_at "zz"
      refine zo_mul (.inl ⟨by omega, by omega⟩) ?_
      walk_at "zz"
      refine zo_mod (by decide) ?_
      refine ⟨_, rfl, ?_⟩
      walk_at "zz"
      refine ⟨p, false, _, 2, 2, _, rfl, rfl, rfl, .here, ?_⟩
      walk_at "zz"
      refine zo_pow ⟨by decide, by decide, by decide⟩ ?_
      walk_at "zz"
      refine ⟨_, rfl, fun hd => ?_, fun hd => ?_⟩
      · have hd : (10 : Int) ^ 18 ≤ t.cell := of_decide_eq_true hd
        rw [if_pos hd] at e2
        walk_at "zz"
        refine zo_fdivW ⟨hm, hm2⟩ ?_
        refine ⟨_, rfl, ?_⟩
        walk_at "zz"
        refine ⟨p, false, _, 3, 3, _, rfl, rfl, rfl, .here, ?_⟩
        walk_at "zz"
        refine zo_mod hm ?_
        exact ⟨_, _, rfl, by rw [e1] at hG; exact hG, by rw [e2]; exact m0⟩
      · have hd : ¬ (10 : Int) ^ 18 ≤ t.cell := of_decide_eq_false hd
        rw [if_neg hd] at e2
        walk_at "zz"
        refine zo_mod hm ?_
        exact ⟨_, _, rfl, by rw [e1] at hG; exact hG, by rw [e2]; exact m0⟩
theorem log_small {n : Nat} (h : n < 2 ^ 100) : ((n : Int)).natAbs.log2 < 9000 := by
  rw [Int.natAbs_natCast]
  by_cases hz : n = 0
  · subst hz; decide
  · exact Nat.lt_of_lt_of_le ((Nat.log2_lt hz).2 h) (by decide)
def R_signed (xs ds : List PyData) (F : DOut → List PyData → Prop) : Prop := ∃ (t : RowS) (most : Int), xs = t.d ∧ ds = [.int most] ∧ 0 ≤ most ∧ most ≤ 2 ^ 90 ∧ ∀ (v : Int) (t' : RowS), -most ≤ v → v ≤ most → F (.ok (.int v)) t'.d
theorem ok_law_signed {P : Program} {w : World} {K : Fg} {mg : Str → Option Value} {base : Heap} {f : Addr} {fd : FuncData} (F : Fun K "_law_signed" "_law_signed" s_law_signed f fd)
    (c__law_taken : Cal P w K mg base 1 "_law_taken" (spC K 1 R_taken)) :
    FnOk P w K mg base (L2.CX P w) 2 f fd ["row", "most"] (spC K 1 R_signed) := by
  refine F.okX sc_law_signed (fun vs H Q E h => len_C h) (fun cdv A outer s H vs Q E hr h => ⟨_, (pss_one (ps_ret (pe_op op_sub (pe_cl c__law_taken hr (show 1 ≤ 1 by decide) passL (pa_cons (pv 0) (pa_cons (pe_op op_addA (pe_op op_mul pe_int (pv 1)) pe_int) pa_nil))) (pv 1)))),
    fn_C h fun p xs ds F hk hR => ?_⟩)
  try dsimp only [L2.cxOf]
  obtain ⟨t, most, rfl, rfl, h0, h1, hF⟩ := hR
  walk_at "zq"
  refine zo_mul (.inl ⟨by decide, by decide⟩) ?_
  walk_at "zq"
  refine ⟨_, _, _, _, _, rfl, m0, allD_cons allD_nil, rfl, ⟨t, 2 * most + 1, rfl, rfl, by omega, wd_of (by omega), fun v t' h2 h3 => ⟨_, _, rfl, .here, ?_⟩⟩⟩
  walk_at "zq"
  exact ⟨_, _, rfl, hF (v - most) t' (by omega) (by omega), m0⟩
def R_pick (xs ds : List PyData) (F : DOut → List PyData → Prop) : Prop := ∃ (t : RowS) (things : List PyData), xs = t.d ∧ ds = [.list things] ∧ things ≠ [] ∧ things.length < 1000 ∧ ∀ (i : Nat) (v : PyData) (t' : RowS), things[i]? = some v → F (.ok v) t'.d
theorem ok_law_pick {P : Program} {w : World} {K : Fg} {mg : Str → Option Value} {base : Heap} {f : Addr} {fd : FuncData} (F : Fun K "_law_pick" "_law_pick" s_law_pick f fd)
    (m_len : mg "len" = none)
    (c__law_taken : Cal P w K mg base 1 "_law_taken" (spC K 1 R_taken)) :
    FnOk P w K mg base (L2.CX P w) 2 f fd ["row", "things"] (spC K 1 R_pick) := by
  refine F.okX sc_law_pick (fun vs H Q E h => len_C h) (fun cdv A outer s H vs Q E hr h => ⟨_, (pss_one (ps_ret (pe_ix ix_seq (pv 1) (pe_cl c__law_taken hr (show 1 ≤ 1 by decide) passL (pa_cons (pv 0) (pa_cons (pe_callB call_len (by rfl) m_len bb_len (pa_cons (pv 1) pa_nil)) pa_nil))) (fun _ _ => rfl)))),
    fn_C h fun p xs ds F hk hR => ?_⟩)
  try dsimp only [L2.cxOf]
  obtain ⟨t, things, rfl, rfl, hne, hl, hF⟩ := hR
  walk_at "zq"
  have hp : 0 < things.length := List.length_pos_iff.mpr hne
  refine ⟨_, _, _, _, _, rfl, m0, allD_cons allD_nil, rfl, ⟨t, things.length, rfl, rfl, by omega, log_small (by omega), fun v t' h0 hv => ⟨_, _, rfl, .here, ?_⟩⟩⟩
  have hi : v.toNat < things.length := by omega
  have hv2 : atI things v = some things[v.toNat] := by
    have e : v = ((v.toNat : Nat) : Int) := by omega
    have h := atI_nat (xs := things) (List.getElem?_eq_getElem hi)
    rw [← e] at h
    exact h
  refine zo_ix hv2 ?_
  exact ⟨_, _, rfl, hF v.toNat _ t' (List.getElem?_eq_getElem hi), m0⟩
/-- the cells drawn so far: the columns below i, and of column i the rows below j -/
structure Grid (b : List Cell) (i j : Nat) : Prop where
  len : b.length ≤ 4 * i + j
  ok : ∀ c ∈ b, (0 ≤ c.x ∧ (c.x < i ∨ (c.x = i ∧ c.y < j))) ∧ (0 ≤ c.y ∧ c.y < 4) ∧ 1 ≤ c.s ∧ c.s ≤ 5
  up : b.Pairwise fun c e => c.x < e.x ∨ (c.x = e.x ∧ c.y < e.y)
theorem Grid.skip {b : List Cell} {i j : Nat} (h : Grid b i j) : Grid b i (j + 1) := ⟨by have := h.len; omega, fun c hc => by have := h.ok c hc; omega, h.up⟩
theorem Grid.line {b : List Cell} {i : Nat} (h : Grid b i 4) : Grid b (i + 1) 0 := ⟨by have := h.len; omega, fun c hc => by have := h.ok c hc; omega, h.up⟩
theorem Grid.put {b : List Cell} {i j : Nat} {s : Int} (h : Grid b i j) (hj : j < 4) (h1 : 1 ≤ s) (h5 : s ≤ 5) : Grid (b ++ [⟨i, j, s⟩]) i (j + 1) := by
  refine ⟨?_, fun c hc => ?_, ?_⟩
  · have := h.len
    rw [List.length_append]
    simp
    omega
  · rcases List.mem_append.mp hc with z | z
    · have := h.ok c z; omega
    · obtain rfl : c = ⟨i, j, s⟩ := by simpa using z
      dsimp only
      omega
  · rw [List.pairwise_append]
    refine ⟨h.up, List.pairwise_singleton _ _, fun c hc e he => ?_⟩
    obtain rfl : e = ⟨i, j, s⟩ := by simpa using he
    have := (h.ok c hc).1.2
    exact this
def R_cells (xs ds : List PyData) (F : DOut → List PyData → Prop) : Prop := ∃ (t : RowS), xs = t.d ∧ ds = [.int 4, .int 4, .int 6] ∧ ∀ (b : List Cell) (t' : RowS), Grid b 4 0 → F (.ok (bD b)) t'.d
theorem ok_law_cells {P : Program} {w : World} {K : Fg} {mg : Str → Option Value} {base : Heap} {f : Addr} {fd : FuncData} (F : Fun K "_law_cells" "_law_cells" s_law_cells f fd)
    (m_range : mg "range" = none)
    (m_tuple : mg "tuple" = none)
    (c__law_taken : Cal P w K mg base 1 "_law_taken" (spC K 1 R_taken)) :
    FnOk P w K mg base (L2.CX P w) 2 f fd ["row", "wide", "high", "states"] (spC K 3 R_cells) := by
  refine F.okX sc_law_cells (fun vs H Q E h => len_C h) (fun cdv A outer s H vs Q E hr h => ⟨_, (pss_cons (ps_set (i := 4) sc_law_cells.nd rfl (by first | exact Or.inl rfl | exact Or.inr rfl) (pe_lst pa_nil))
      (pss_cons (ps_for (passes_of rfl) rfl (pi_range1 (by rfl) m_range (pa_cons (pv 1) pa_nil)) (pg_name (i := 5) sc_law_cells.nd rfl (by first | exact Or.inl rfl | exact Or.inr rfl)) (pss_one (ps_for (passes_of rfl) rfl (pi_range1 (by rfl) m_range (pa_cons (pv 2) pa_nil)) (pg_name (i := 6) sc_law_cells.nd rfl (by first | exact Or.inl rfl | exact Or.inr rfl)) (pss_one (ps_if (pt_cmpR (op_eqA hr.units) (pe_cl c__law_taken hr (show 1 ≤ 1 by decide) passL (pa_cons (pv 0) (pa_cons pe_int pa_nil))) pe_int (nomark _)) (pss_one (ps_expr (pe_bm PySem.F.plainAttrs_list PySem.F.slot_list_append PySem.F.type_list_append mt_append (pv 4) (pa_cons (pe_tup (pa_cons (pv 5) (pa_cons (pv 6) (pa_cons (pe_op op_addA pe_int (pe_ifExp (pt_cmpR (op_eqA hr.units) (pe_cl c__law_taken hr (show 1 ≤ 1 by decide) passL (pa_cons (pv 0) (pa_cons pe_int pa_nil))) pe_int (nomark _)) (pe_cl c__law_taken hr (show 1 ≤ 1 by decide) passL (pa_cons (pv 0) (pa_cons (pe_op op_sub (pv 3) pe_int) pa_nil))) pe_int)) pa_nil)))) pa_nil)))) pss_nil)))))
      (pss_one (ps_ret (pe_callTy call_tuple_of (by rfl) m_tuple bt_tuple (pa_cons (pv 4) pa_nil)))))),
    fn_C h fun p xs ds F hk hR => ?_⟩)
  try dsimp only [L2.cxOf]
  obtain ⟨t, rfl, rfl, hF⟩ := hR
  have hsz : (sizeLine : Nat) = 16777216 := sizeLine_eq
  walk_at "zq"
  refine zw_lstC ?_
  walk_at "zq"
  walk_at "zt"
  intro q
  walk_at "zq"
  refine ⟨by decide, by decide, fun i S2 M2 => ∃ (t : RowS) (b : List Cell) (c5 c6 : Option ZV), S2 = [some (.c p), some (.d (.int 4)), some (.d (.int 4)), some (.d (.int 6)), some (.c q), c5, c6] ∧ M2 = [(q, true, .lst (b.map Cell.d)), (p, false, .lst t.d)] ∧ Grid b i 0, ⟨t, [], _, _, rfl, rfl, ⟨by simp, fun c h => (nomatch h), .nil⟩⟩, ?_, ?_⟩
  · rintro i S2 M2 hi ⟨t, b, c5, c6, rfl, rfl, hG⟩
    have hi : i < 4 := hi
    walk_at "zq"
    refine ⟨by decide, by decide, fun j S2 M2 => ∃ (t : RowS) (b : List Cell) (c6 : Option ZV), S2 = [some (.c p), some (.d (.int 4)), some (.d (.int 4)), some (.d (.int 6)), some (.c q), some (.d (.int i)), c6] ∧ M2 = [(q, true, .lst (b.map Cell.d)), (p, false, .lst t.d)] ∧ Grid b i j, ⟨t, b, _, by rw [Int.zero_add]; rfl, rfl, hG⟩, ?_, ?_⟩
    · rintro j S2 M2 hj ⟨t, b, c6, rfl, rfl, hG⟩
      have hj : j < 4 := hj
      walk_at "zq"
      refine ⟨_, _, _, _, _, rfl, m1 m0, allD_cons allD_nil, rfl, ⟨t, 2, rfl, rfl, by decide, by decide, fun v t1 h0 hv => ⟨_, _, rfl, .there .here, ?_⟩⟩⟩
      walk_at "zq"
      refine ⟨fun h => ?_, fun h => ?_⟩
      · walk_at "zq"
        refine zw_append ?_
        walk_at "zq"
        refine ⟨⟨_, _, m0⟩, ?_⟩
        walk_at "zq"
        refine ⟨_, _, _, _, _, rfl, m1 m0, allD_cons allD_nil, rfl, ⟨t1, 3, rfl, rfl, by decide, by decide, fun v t2 h0 hv => ⟨_, _, rfl, .there .here, ?_⟩⟩⟩
        walk_at "zq"
        refine ⟨fun h => ?_, fun h => ?_⟩
        · walk_at "zq"
          refine ⟨_, _, _, _, _, rfl, m1 m0, allD_cons allD_nil, rfl, ⟨t2, 5, rfl, rfl, by decide, by decide, fun v t3 h0 hv => ⟨_, _, rfl, .there .here, ?_⟩⟩⟩
          walk_at "zq"
          walk_at "zt"
          have hbl := hG.len
          refine ⟨_, _, _, _, rfl, .here, by rw [List.length_map]; omega, ?_⟩
          walk_at "zq"
          exact ⟨t3, b ++ [⟨i, j, 1 + v⟩], some (.d (.int j)), by rw [Int.zero_add]; rfl, by simp, hG.put hj (by omega) (by omega)⟩
        · walk_at "zq"
          walk_at "zt"
          have hbl := hG.len
          refine ⟨_, _, _, _, rfl, .here, by rw [List.length_map]; omega, ?_⟩
          walk_at "zq"
          exact ⟨t2, b ++ [⟨i, j, 1⟩], some (.d (.int j)), by rw [Int.zero_add]; rfl, by simp, hG.put hj (by omega) (by omega)⟩
      · walk_at "zq"
        try exact ⟨_, _, _, rfl, rfl, hG.skip⟩
    · rintro S2 M2 ⟨t, b, c6, rfl, rfl, hG⟩
      try exact ⟨_, _, _, _, rfl, rfl, hG.line⟩
  · rintro S2 M2 ⟨t, b, c5, c6, rfl, rfl, hG⟩
    walk_at "zq"
    refine zc_tupC m0 ?_
    exact ⟨_, _, rfl, hF b t hG, m1 m0⟩
/-! ### the law's board, numbers -/
theorem sub_app {b : List Cell} (x y : Int) : (b.map (Cell.mv x y)).length = b.length := List.length_map _
theorem grid_board {b : List Cell} {x y : Int} (h : Grid b 4 0) (hx : -(2 ^ 92) ≤ x ∧ x ≤ 2 ^ 92) (hy : -(2 ^ 92) ≤ y ∧ y ≤ 2 ^ 92) : Board (b.map (Cell.mv x y)) := by
  refine ⟨by rw [List.length_map]; have := h.len; omega, fun c hc => ?_, ?_⟩
  · obtain ⟨c0, h0, rfl⟩ := List.mem_map.mp hc
    have := h.ok c0 h0
    refine ⟨⟨?_, ?_⟩, ⟨?_, ?_⟩, this.2.2.1, this.2.2.2⟩ <;> unfold Cell.mv FAR <;> dsimp only <;> omega
  · refine List.pairwise_map.mpr (h.up.imp fun hcd => ?_)
    unfold Cell.mv
    dsimp only
    omega
theorem min_ex : ∀ ns : List Int, ns ≠ [] → ∃ m, IsMin m ns
  | [], h => absurd rfl h
  | [a], _ => ⟨a, by simp, fun y hy => by have : y = a := by simpa using hy
                                          omega⟩
  | a :: b :: r, _ => by
    obtain ⟨m, h1, h2⟩ := min_ex (b :: r) (by simp)
    by_cases h : a ≤ m
    · refine ⟨a, by simp, fun y hy => ?_⟩
      rcases List.mem_cons.mp hy with z | z
      · omega
      · have := h2 y z; omega
    · refine ⟨m, List.mem_cons_of_mem _ h1, fun y hy => ?_⟩
      rcases List.mem_cons.mp hy with z | z
      · omega
      · exact h2 y z
theorem max_ex : ∀ ns : List Int, ns ≠ [] → ∃ m, IsMax m ns
  | [], h => absurd rfl h
  | [a], _ => ⟨a, by simp, fun y hy => by have : y = a := by simpa using hy
                                          omega⟩
  | a :: b :: r, _ => by
    obtain ⟨m, h1, h2⟩ := max_ex (b :: r) (by simp)
    by_cases h : m ≤ a
    · refine ⟨a, by simp, fun y hy => ?_⟩
      rcases List.mem_cons.mp hy with z | z
      · omega
      · have := h2 y z; omega
    · refine ⟨m, List.mem_cons_of_mem _ h1, fun y hy => ?_⟩
      rcases List.mem_cons.mp hy with z | z
      · omega
      · exact h2 y z
theorem board_box {b : List Cell} (h : Board b) (hn : b ≠ []) : ∃ x0 y0 x1 y1, BoxOf b x0 y0 x1 y1 ∧ LBox b x0 y0 x1 y1 := by
  have hl : 0 < b.length := List.length_pos_iff.mpr hn
  have hy : b.map Cell.y ≠ [] := by simpa using hn
  obtain ⟨y0, hy0⟩ := min_ex _ hy
  obtain ⟨y1, hy1⟩ := max_ex _ hy
  have h0 := List.getElem?_eq_getElem (l := b) (i := 0) hl
  have h1 := List.getElem?_eq_getElem (l := b) (i := b.length - 1) (by omega)
  generalize b[0] = c0 at h0
  generalize b[b.length - 1] = c1 at h1
  refine ⟨c0.x, y0, c1.x, y1, ⟨⟨c0, h0, rfl⟩, hy0, ⟨c1, h1, rfl⟩, hy1⟩, ⟨⟨List.mem_map.mpr ⟨c0, List.mem_of_getElem? h0, rfl⟩, fun z hz => ?_⟩, hy0, ⟨List.mem_map.mpr ⟨c1, List.mem_of_getElem? h1, rfl⟩, fun z hz => ?_⟩, hy1⟩⟩
  · obtain ⟨e, he, rfl⟩ := List.mem_map.mp hz
    obtain ⟨i, hi⟩ := List.mem_iff_getElem?.mp he
    rcases Nat.eq_zero_or_pos i with z | z
    · subst z; rw [hi] at h0; cases h0; omega
    · have := pw_at h.up z h0 hi
      omega
  · obtain ⟨e, he, rfl⟩ := List.mem_map.mp hz
    obtain ⟨i, hi⟩ := List.mem_iff_getElem?.mp he
    have hil := (List.getElem?_eq_some_iff.mp hi).1
    rcases Nat.lt_or_ge i (b.length - 1) with z | z
    · have := pw_at h.up z hi h1
      omega
    · have : i = b.length - 1 := by omega
      subst this
      rw [hi] at h1; cases h1; omega
/-- what is held is a number -/
def Nums (kvs : List (List Key × PyData)) : Prop := ∀ kv ∈ kvs, ∃ s, kv.2 = .int s
theorem nums_put {kvs : List (List Key × PyData)} {k : List Key} {s : Int} (h : Nums kvs) : Nums (putP kvs k (.int s)) := by
  intro kv hkv
  unfold putP at hkv
  split at hkv
  · obtain ⟨kv0, h0, rfl⟩ := List.mem_map.mp hkv
    split
    · exact ⟨s, rfl⟩
    · exact h kv0 h0
  · rcases List.mem_append.mp hkv with z | z
    · exact h kv z
    · obtain rfl : kv = (k, .int s) := by simpa using z
      exact ⟨s, rfl⟩
theorem nums_fold : ∀ (b : List Cell) (acc : List (List Key × PyData)), Nums acc → Nums ((b.map fun c => ([c.x, c.y], PyData.int c.s)).foldl (fun acc r => putP acc (keyI r.1) r.2) acc)
  | [], _, h => h
  | _ :: r, acc, h => nums_fold r _ (nums_put h)
theorem held_num (b : List Cell) (x y : Int) : heldB b x y = none ∨ ∃ s, heldB b x y = some (.int s) := by
  unfold heldB heldP
  cases hf : (plcs b).find? (fun kv => decide (kv.1 = keyI [x, y])) with
  | none => exact .inl rfl
  | some kv =>
    obtain ⟨s, hs⟩ := nums_fold b [] (fun _ h => nomatch h) kv (List.mem_of_find?_eq_some hf)
    exact .inr ⟨s, by rw [Option.map_some, hs]⟩
theorem al_cells (n : Nat) : ∀ b : List Cell, (b.map Cell.d).all (al (n + 2)) = true
  | [] => rfl
  | c :: r => by
    rw [List.map_cons, List.all_cons, al_cells n r]
    rfl
theorem al_bD {n : Nat} {b : List Cell} (h : b.length ≤ 100) : al (n + 3) (bD b) = true := by
  show (decide ((b.map Cell.d).length ≤ 1000) && (b.map Cell.d).all (al (n + 2))) = true
  rw [al_cells, List.length_map, decide_eq_true (by omega)]
  rfl
theorem al_rows {n : Nat} {rows : List (List Int)} (h : rows.length ≤ 100) (h2 : ∀ r ∈ rows, r.length ≤ 10) : al (n + 3) (.tuple (rows.map rowD)) = true := by
  show (decide ((rows.map rowD).length ≤ 1000) && (rows.map rowD).all (al (n + 2))) = true
  rw [List.length_map, decide_eq_true (by omega), Bool.true_and, List.all_eq_true]
  intro v hv
  obtain ⟨r, hr, rfl⟩ := List.mem_map.mp hv
  show (decide ((r.map PyData.int).length ≤ 1000) && (r.map PyData.int).all (al (n + 1))) = true
  have := h2 r hr
  rw [List.length_map, decide_eq_true (by omega), Bool.true_and, List.all_eq_true]
  intro v hv
  obtain ⟨i, _, rfl⟩ := List.mem_map.mp hv
  rfl
theorem al_sorted {n : Nat} {b : List Cell} (h : b.length ≤ 100) : al (n + 3) (.tuple ((sortI (b.map Cell.r)).map rowD)) = true := by
  refine al_rows (by rw [(sortI_perm _).length_eq, List.length_map]; exact h) fun r hr => ?_
  obtain ⟨c, _, rfl⟩ := List.mem_map.mp ((sortI_perm _).mem_iff.mp hr)
  exact Nat.le_of_ble_eq_true rfl
/-- what the law finds first of bad rows -/
def DueOk (vs : List PyData) (k : Nat) (due : Option Nat) : Prop := (∀ i, due = some i → FirstBad vs i) ∧ (due = none → ∀ j, j < k → ¬ Bad vs j)
def optD : Option Nat → PyData
  | none => .none
  | some i => .int (i : Nat)
def goodB : PyData → Bool := okB
theorem far_abs (x : Int) : decide ((if x < 0 then -x else x) ≤ FAR) = farB (.int x) := by
  by_cases h : InFar x
  · rw [far_t h, decide_eq_true]
    obtain ⟨h1, h2⟩ := h
    split <;> omega
  · rw [far_f h, decide_eq_false]
    intro z
    refine h ⟨?_, ?_⟩ <;> (split at z <;> omega)
theorem box_both {b : List Cell} {C : Addr} (h : Board b) : ∃ d, R_box C [bD b] (.ok d) ∧ R_lbox [bD b] (.ok d) ∧ al 4 d = true := by
  have hl := h.len
  by_cases hn : b = []
  · refine ⟨.none, ⟨_, rfl, fun _ hv => Board.wild hv, by rw [List.length_map]; omega, .inr ⟨h.fine, b, rfl, .inl ⟨hn, rfl⟩⟩⟩, ⟨b, rfl, by omega, .inl ⟨hn, rfl⟩⟩, rfl⟩
  · obtain ⟨x0, y0, x1, y1, h1, h2⟩ := board_box h hn
    exact ⟨_, ⟨_, rfl, fun _ hv => Board.wild hv, by rw [List.length_map]; omega, .inr ⟨h.fine, b, rfl, .inr ⟨_, _, _, _, h1, rfl⟩⟩⟩, ⟨b, rfl, by omega, .inr ⟨_, _, _, _, h2, rfl⟩⟩, rfl⟩
theorem norm_both {b : List Cell} (h : Board b) : ∃ d, R_normal [bD b] (.ok d) ∧ R_lnorm [bD b] (.ok d) ∧ al 4 d = true := by
  have hl := h.len
  by_cases hn : b = []
  · exact ⟨_, ⟨b, rfl, h, .inl ⟨hn, rfl⟩⟩, ⟨b, rfl, by omega, .inl ⟨hn, rfl⟩⟩, rfl⟩
  · obtain ⟨x0, y0, x1, y1, h1, h2⟩ := board_box h hn
    refine ⟨_, ⟨b, rfl, h, .inr ⟨_, _, _, _, h1, rfl⟩⟩, ⟨b, rfl, by omega, .inr ⟨_, _, _, _, h2, rfl⟩⟩, ?_⟩
    show (decide (2 ≤ 1000) && (al 3 (bD (b.map (Cell.mv (-x0) (-y0)))) && (al 3 (pr x0 y0) && true))) = true
    rw [al_bD (n := 0) (by rw [List.length_map]; omega)]
    rfl
theorem meet_nil {b e : List Cell} : (e.filter fun c => (heldB b c.x c.y).isSome).isEmpty = !meet b e := by
  unfold meet
  induction e with
  | nil => rfl
  | cons c r ih =>
    rw [List.filter_cons, List.any_cons]
    cases (heldB b c.x c.y).isSome with
    | true => rfl
    | false => exact ih
theorem ixN_nat {n k : Nat} (h : k < n) : ixN n (k : Int) = some k := by
  unfold ixN
  simp
  omega
def firstB : PyData → Bool
  | .tuple [.int _, .int _, .int s] => decide (1 ≤ s) && decide (s ≤ 5)
  | _ => false
theorem okB_first {v : PyData} (h : Wild v) : okB v = (firstB v && match v with | .tuple [a, b, _] => farB a && farB b | _ => false) := by
  cases h with
  | cell c =>
    show ((farB (.int c.x) && farB (.int c.y)) && (decide (1 ≤ c.s) && decide (c.s ≤ 5))) = ((decide (1 ≤ c.s) && decide (c.s ≤ 5)) && (farB (.int c.x) && farB (.int c.y)))
    rw [Bool.and_comm]
  | _ => rfl
theorem due_hit {vs : List PyData} {i : Nat} (h : DueOk vs i none) (hb : Bad vs i) : DueOk vs (i + 1) (some i) :=
  ⟨fun j e => by cases e; exact ⟨hb, h.2 rfl⟩, fun e => nomatch e⟩
theorem due_go {vs : List PyData} {i : Nat} {due : Option Nat} (h : DueOk vs i due) (hb : due = none → ¬ Bad vs i) : DueOk vs (i + 1) due :=
  ⟨h.1, fun e j hj => by
    rcases Nat.lt_or_eq_of_le (Nat.le_of_lt_succ hj) with z | z
    · exact h.2 e j z
    · rw [z]; exact hb e⟩
theorem all_cells : ∀ vs : List PyData, (∀ v ∈ vs, ∃ c : Cell, v = c.d) → ∃ b : List Cell, vs = b.map Cell.d
  | [], _ => ⟨[], rfl⟩
  | v :: r, h => by
    obtain ⟨c, rfl⟩ := h v (by simp)
    obtain ⟨b, rfl⟩ := all_cells r fun v hv => h v (by simp [hv])
    exact ⟨c :: b, rfl⟩
theorem box_any {b : List Cell} (hn : b ≠ []) : ∃ x0 y0 x1 y1, BoxOf b x0 y0 x1 y1 := by
  have hl : 0 < b.length := List.length_pos_iff.mpr hn
  have hy : b.map Cell.y ≠ [] := by simpa using hn
  obtain ⟨y0, hy0⟩ := min_ex _ hy
  obtain ⟨y1, hy1⟩ := max_ex _ hy
  exact ⟨_, y0, _, y1, ⟨⟨_, List.getElem?_eq_getElem hl, rfl⟩, hy0, ⟨_, List.getElem?_eq_getElem (by omega), rfl⟩, hy1⟩⟩
theorem box_fine {vs : List PyData} {C : Addr} (hw : ∀ v ∈ vs, Wild v) (hl : vs.length ≤ 100) (hb : ∀ i, ¬ Bad vs i) : ∃ d, R_box C [.tuple vs] (.ok d) := by
  obtain ⟨b, rfl⟩ := all_cells vs fun v hv => by
    obtain ⟨i, hi⟩ := List.mem_iff_getElem?.mp hv
    refine wild_cell (hw v hv) ?_
    cases z : okB v with
    | true => rfl
    | false => exact absurd ⟨v, hi, .inl z⟩ (hb i)
  by_cases hn : b = []
  · exact ⟨.none, _, rfl, hw, hl, .inr ⟨hb, b, rfl, .inl ⟨hn, rfl⟩⟩⟩
  · obtain ⟨x0, y0, x1, y1, h⟩ := box_any hn
    exact ⟨_, _, rfl, hw, hl, .inr ⟨hb, b, rfl, .inr ⟨_, _, _, _, h, rfl⟩⟩⟩
def R_law (ds : List PyData) (o : DOut) : Prop := ∃ ns : List Int, ds = [.list (ns.map .int)] ∧ o = .ok (.bool true)
theorem ok_law {P : Program} {w : World} {K : Fg} {mg : Str → Option Value} {base : Heap} {f : Addr} {fd : FuncData} {C_BadBoard C_BoardError C_Clash : Addr} (F : Fun K "law" "law" s_law f fd)
    (m_dict : mg "dict" = none)
    (m_len : mg "len" = none)
    (gx_BoardError : mg "BoardError" = some (.ref C_BoardError))
    (m_isinstance : mg "isinstance" = none)
    (gx_Clash : mg "Clash" = some (.ref C_Clash))
    (m_tuple : mg "tuple" = none)
    (m_sorted : mg "sorted" = none)
    (m_list : mg "list" = none)
    (m_range : mg "range" = none)
    (m_abs : mg "abs" = none)
    (gx_BadBoard : mg "BadBoard" = some (.ref C_BadBoard))
    (c__law_signed : Cal P w K mg base 2 "_law_signed" (spC K 1 R_signed))
    (c__law_pick : Cal P w K mg base 2 "_law_pick" (spC K 1 R_pick))
    (c__law_moved : Cal P w K mg base 1 "_law_moved" (spD K 3 R_lmoved))
    (c__law_cells : Cal P w K mg base 2 "_law_cells" (spC K 3 R_cells))
    (c__law_taken : Cal P w K mg base 1 "_law_taken" (spC K 1 R_taken))
    (c__law_alike : Cal P w K mg base 6 "_law_alike" (spD K 2 (R_alike 5)))
    (c__law_normal : Cal P w K mg base 2 "_law_normal" (spD K 1 R_lnorm))
    (c__law_box : Cal P w K mg base 1 "_law_box" (spD K 1 R_lbox))
    (c_normal : Cal P w K mg base 5 "normal" (spD K 1 R_normal))
    (c_box : Cal P w K mg base 5 "box" (spD K 1 (R_box C_BadBoard)))
    (c_state_at : Cal P w K mg base 5 "state_at" (spD K 2 R_stateAt))
    (c_shifted : Cal P w K mg base 5 "shifted" (spD K 2 R_shifted))
    (c_living : Cal P w K mg base 5 "living" (spD K 1 R_living))
    (c__law_turned_piece : Cal P w K mg base 1 "_law_turned_piece" (spD K 2 R_lturned))
    (c_turned : Cal P w K mg base 5 "turned" (spD K 2 R_turned))
    (c_joined : Cal P w K mg base 5 "joined" (spD K 2 (R_joined C_Clash)))
    (c__law_is_vector : Cal P w K mg base 1 "_law_is_vector" (spD K 2 R_vec))
    (h_exmC : PySem.W.exmOne K (.ref C_Clash) (.ref C_BoardError) = some true)
    (h_excC : ExcC K C_Clash)
    (h_exmB : PySem.W.exmOne K (.ref C_BadBoard) (.ref C_BoardError) = some true)
    (h_excB : ExcC K C_BadBoard)
    (h_xf : XfC K C_BadBoard)
    (h_no : PySem.W.findIn K (.ref C_BadBoard) "index" = some none) :
    FnOk P w K mg base (L2.CX P w) 7 f fd ["script"] (spD K 1 R_law) := by
  refine F.okX sc_law (fun vs H Q E h => len_D h) (fun cdv A outer s H vs Q E hr h => ⟨_, (pss_cons (ps_set (i := 1) sc_law.nd rfl (by first | exact Or.inl rfl | exact Or.inr rfl) (pe_lst (pa_cons (pv 0) (pa_cons pe_int (pa_cons pe_int (pa_cons pe_int pa_nil))))))
      (pss_cons (ps_par (i := 2) (j := 3) rfl sc_law.nd rfl rfl (by decide) rfl rfl (pa_cons (pe_cl c__law_signed hr (show 2 ≤ 6 by decide) passL (pa_cons (pv 1) (pa_cons (pe_cl c__law_pick hr (show 2 ≤ 6 by decide) passL (pa_cons (pv 1) (pa_cons (pe_lst (pa_cons pe_int (pa_cons (pe_op op_shl pe_int pe_int) pa_nil))) pa_nil))) pa_nil))) (pa_cons (pe_cl c__law_signed hr (show 2 ≤ 6 by decide) passL (pa_cons (pv 1) (pa_cons pe_int pa_nil))) pa_nil)) (by rfl))
      (pss_cons (ps_par (i := 4) (j := 5) rfl sc_law.nd rfl rfl (by decide) rfl rfl (pa_cons (pe_cl c__law_moved hr (show 1 ≤ 6 by decide) passL (pa_cons (pe_cl c__law_cells hr (show 2 ≤ 6 by decide) passL (pa_cons (pv 1) (pa_cons pe_int (pa_cons pe_int (pa_cons pe_int pa_nil))))) (pa_cons (pv 2) (pa_cons (pv 3) pa_nil)))) (pa_cons (pe_cl c__law_moved hr (show 1 ≤ 6 by decide) passL (pa_cons (pe_cl c__law_cells hr (show 2 ≤ 6 by decide) passL (pa_cons (pv 1) (pa_cons pe_int (pa_cons pe_int (pa_cons pe_int pa_nil))))) (pa_cons (pe_op op_addA (pv 2) (pe_cl c__law_signed hr (show 2 ≤ 6 by decide) passL (pa_cons (pv 1) (pa_cons pe_int pa_nil)))) (pa_cons (pe_op op_addA (pv 3) pe_int) pa_nil)))) pa_nil)) (by rfl))
      (pss_cons (ps_set (i := 6) sc_law.nd rfl (by first | exact Or.inl rfl | exact Or.inr rfl) (pe_callTy (call_dictT rfl hr.units) (by rfl) m_dict bt_dict (pa_cons (pe_lc (own := [("cell", 7)]) rfl sc_law.nd (pi_tup (pv 4)) (blkOk_by (N := N_law) (sc := defScope s_law) (by decide +kernel)) (fun _ _ _ _ _ => (pg_name (i := 7) sc_law.nd rfl (by first | exact Or.inl rfl | exact Or.inr rfl))) (fun _ _ _ _ _ => pts_nil) (fun _ _ _ _ _ => (pe_tup (pa_cons (pe_slice (show SlR _ (rSlAny K) from sl_any) (pv 7) po_none (po_some pe_int)) (pa_cons (pe_ix (show IxR _ (rIx K) from ix_seq) (pv 7) pe_int (fun _ _ => rfl)) pa_nil))))) pa_nil)))
      (pss_cons (ps_par (i := 8) (j := 9) rfl sc_law.nd rfl rfl (by decide) rfl rfl (pa_cons (pe_tup (pa_cons (pe_op op_addA (pv 2) (pe_cl c__law_taken hr (show 1 ≤ 6 by decide) passL (pa_cons (pv 1) (pa_cons pe_int pa_nil)))) (pa_cons (pe_op op_addA (pv 3) (pe_cl c__law_taken hr (show 1 ≤ 6 by decide) passL (pa_cons (pv 1) (pa_cons pe_int pa_nil)))) pa_nil))) (pa_cons (pe_cl c__law_taken hr (show 1 ≤ 6 by decide) passL (pa_cons (pv 1) (pa_cons pe_int pa_nil))) pa_nil)) (by rfl))
      (pss_cons (ps_if (pt_not (pt_val (pe_cl c__law_alike hr (show 6 ≤ 6 by decide) passL (pa_cons (pe_lst (pa_cons (pe_cl c_state_at hr (show 5 ≤ 6 by decide) passL (pa_cons (pv 4) (pa_cons (pv 8) pa_nil))) (pa_cons (pe_cl c_box hr (show 5 ≤ 6 by decide) (passes_call (takes_of rfl rfl rfl rfl) fun _ _ _ _ h => h) (pa_cons (pv 4) pa_nil)) (pa_cons (pe_cl c_normal hr (show 5 ≤ 6 by decide) passL (pa_cons (pv 4) pa_nil)) pa_nil)))) (pa_cons (pe_lst (pa_cons (pe_dget2 (hu_of hr) (pv 6) (pv 8) pe_int ⟨rfl, rfl, rfl, rfl⟩) (pa_cons (pe_cl c__law_box hr (show 1 ≤ 6 by decide) passL (pa_cons (pv 4) pa_nil)) (pa_cons (pe_cl c__law_normal hr (show 2 ≤ 6 by decide) passL (pa_cons (pv 4) pa_nil)) pa_nil)))) pa_nil))) (fun _ => rfl))) (pss_one (ps_ret pe_bl)) pss_nil)
      (pss_cons (ps_if (pt_not (pt_val (pe_cl c__law_alike hr (show 6 ≤ 6 by decide) passL (pa_cons (pe_lst (pa_cons (pe_cl c_living hr (show 5 ≤ 6 by decide) passL (pa_cons (pv 4) pa_nil)) (pa_cons (pe_cl c_shifted hr (show 5 ≤ 6 by decide) passL (pa_cons (pv 4) (pa_cons (pv 8) pa_nil))) pa_nil))) (pa_cons (pe_lst (pa_cons (pe_callB call_len (by rfl) m_len bb_len (pa_cons (pe_lc (own := [("cell", 7)]) rfl sc_law.nd (pi_tup (pv 4)) (blkOk_by (N := N_law) (sc := defScope s_law) (by decide +kernel)) (fun _ _ _ _ _ => (pg_name (i := 7) sc_law.nd rfl (by first | exact Or.inl rfl | exact Or.inr rfl))) (fun _ _ _ _ _ => (pts_one (pt_cmpR (show OpR _ (compareOp .Eq) (rEqA K) from (op_eqA hr.units)) (pe_ix (show IxR _ (rIx K) from ix_seq) (pv 7) pe_int (fun _ _ => rfl)) pe_int (nomark _)))) (fun _ _ _ _ _ => pe_int)) pa_nil)) (pa_cons (pe_cl c__law_moved hr (show 1 ≤ 6 by decide) passL (pa_cons (pv 4) (pa_cons (pe_ix ix_seq (pv 8) pe_int (fun _ _ => rfl)) (pa_cons (pe_ix ix_seq (pv 8) pe_int (fun _ _ => rfl)) pa_nil)))) pa_nil))) pa_nil))) (fun _ => rfl))) (pss_one (ps_ret pe_bl)) pss_nil)
      (pss_cons (ps_if (pt_not (pt_val (pe_cl c__law_alike hr (show 6 ≤ 6 by decide) passL (pa_cons (pe_cl c_turned hr (show 5 ≤ 6 by decide) passL (pa_cons (pv 4) (pa_cons (pv 9) pa_nil))) (pa_cons (pe_ix ix_seq (pe_cl c__law_turned_piece hr (show 1 ≤ 6 by decide) passL (pa_cons (pe_tup (pa_cons (pv 4) (pa_cons pe_int (pa_cons (pe_tup (pa_cons pe_int (pa_cons pe_int pa_nil))) pa_nil)))) (pa_cons (pv 9) pa_nil))) pe_int (fun _ _ => rfl)) pa_nil))) (fun _ => rfl))) (pss_one (ps_ret pe_bl)) pss_nil)
      (pss_cons (ps_par (i := 10) (j := 11) rfl sc_law.nd rfl rfl (by decide) rfl rfl (pa_cons pe_non (pa_cons (pe_lc (own := [("cell", 7)]) rfl sc_law.nd (pi_tup (pv 5)) (blkOk_by (N := N_law) (sc := defScope s_law) (by decide +kernel)) (fun _ _ _ _ _ => (pg_name (i := 7) sc_law.nd rfl (by first | exact Or.inl rfl | exact Or.inr rfl))) (fun _ _ _ _ _ => (pts_one (pt_cmp (pc_din (hu_of hr) (pe_slice (show SlR _ (rSlAny K) from sl_any) (pv 7) po_none (po_some pe_int)) (pv 6))))) (fun _ _ _ _ _ => (pv 7))) pa_nil)) (by rfl))
      (pss_cons (show PS _ _ (tTry _ _ _ _ _ _) from ps_try_as (i := 12) (Wout := fun _ _ _ _ => False) rfl rfl sc_law.nd rfl rfl ⟨rfl, by decide, Or.inl gx_BoardError⟩ takes0
        (fun W pn xe tk _ => (pss_one (ps_set (i := 10) sc_law.nd rfl (by first | exact Or.inl rfl | exact Or.inr rfl) (pe_clS c_joined hr (show 5 ≤ 6 by decide) tk (pa_cons (pv 4) (pa_cons (pv 5) pa_nil))))))
        (fun ad oe cls dd pn hz hf => (pss_one (ps_set (i := 10) sc_law.nd rfl (by first | exact Or.inl rfl | exact Or.inr rfl) (pe_ifExp (pt_val (pe_callB (call_isX hz hf) (by rfl) m_isinstance bb_isinstance (pa_cons (pv 12) (pa_cons (pe_glob (v := .ref C_Clash) (by rfl) gx_Clash rfl) pa_nil))) (fun _ => rfl)) pe_str pe_str)))))
      (pss_cons (ps_if (pt_not (pt_val (pe_cl c__law_alike hr (show 6 ≤ 6 by decide) passL (pa_cons (pv 10) (pa_cons (pe_ifExp (pt_cmpR (op_neA hr.units) (pv 11) (pe_lst pa_nil) (nomark _)) pe_str (pe_callTy call_tuple_of (by rfl) m_tuple bt_tuple (pa_cons (pe_callB cr_sortC (by rfl) m_sorted bb_sorted (pa_cons (pe_op op_addA (pv 4) (pv 5)) pa_nil)) pa_nil))) pa_nil))) (fun _ => rfl))) (pss_one (ps_ret pe_bl)) pss_nil)
      (pss_cons (ps_par (i := 13) (j := 14) rfl sc_law.nd rfl rfl (by decide) rfl rfl (pa_cons (pe_op op_addA (pe_callTy call_list_of (by rfl) m_list bt_list (pa_cons (pv 4) pa_nil)) (pe_lst (pa_cons (pe_tup (pa_cons (pe_op op_addA (pv 2) pe_int) (pa_cons (pv 3) (pa_cons pe_int pa_nil)))) pa_nil))) (pa_cons (pe_cl c__law_taken hr (show 1 ≤ 6 by decide) passL (pa_cons (pv 1) (pa_cons (pe_op op_addA (pe_callB call_len (by rfl) m_len bb_len (pa_cons (pv 4) pa_nil)) pe_int) pa_nil))) pa_nil)) (by rfl))
      (pss_cons (ps_set (i := 15) sc_law.nd rfl (by first | exact Or.inl rfl | exact Or.inr rfl) (pe_lst (pa_cons (pe_ix ix_seq (pv 13) (pv 14) (fun _ _ => rfl)) (pa_cons (pe_ix ix_seq (pv 13) pe_int (fun _ _ => rfl)) (pa_cons (pe_slice sl_any (pe_ix ix_seq (pv 13) (pv 14) (fun _ _ => rfl)) po_none (po_some pe_int)) (pa_cons (pe_op op_addA (pe_slice sl_any (pe_ix ix_seq (pv 13) (pv 14) (fun _ _ => rfl)) po_none (po_some pe_int)) (pe_tup (pa_cons pe_int pa_nil))) (pa_cons (pe_op op_addA (pe_slice sl_any (pe_ix ix_seq (pv 13) (pv 14) (fun _ _ => rfl)) po_none (po_some pe_int)) (pe_tup (pa_cons pe_int pa_nil))) (pa_cons (pe_tup (pa_cons pe_bl (pa_cons pe_int (pa_cons pe_int pa_nil)))) (pa_cons pe_non pa_nil)))))))))
      (pss_cons (ps_set (i := 15) sc_law.nd rfl (by first | exact Or.inl rfl | exact Or.inr rfl) (pe_op op_addA (pv 15) (pe_lst (pa_cons (pe_tup (pa_cons (pe_op op_shl pe_int pe_int) (pa_cons pe_int (pa_cons pe_int pa_nil)))) pa_nil))))
      (pss_cons (ps_asg (pe_cl c__law_pick hr (show 2 ≤ 6 by decide) passL (pa_cons (pv 1) (pa_cons (pe_op op_addA (pv 15) (pe_lst (pa_cons (pe_callTy call_list_of (by rfl) m_list bt_list (pa_cons (pe_ix ix_seq (pv 13) (pv 14) (fun _ _ => rfl)) pa_nil)) pa_nil))) pa_nil))) (pg_sub (pv 13) (pv 14) set_list))
      (pss_cons (ps_set (i := 16) sc_law.nd rfl (by first | exact Or.inl rfl | exact Or.inr rfl) pe_non)
      (pss_cons (ps_for (passes_of rfl) rfl (pi_range1 (by rfl) m_range (pa_cons (pe_callB call_len (by rfl) m_len bb_len (pa_cons (pv 13) pa_nil)) pa_nil)) (pg_name (i := 17) sc_law.nd rfl (by first | exact Or.inl rfl | exact Or.inr rfl)) (pss_cons (ps_set (i := 7) sc_law.nd rfl (by first | exact Or.inl rfl | exact Or.inr rfl) (pe_ix ix_seq (pv 13) (pv 17) (fun _ _ => rfl)))
      (pss_cons (ps_set (i := 18) sc_law.nd rfl (by first | exact Or.inl rfl | exact Or.inr rfl) (pe_and (pe_callB call_isi (by rfl) m_isinstance bb_isinstance (pa_cons (pv 7) (pa_cons (pe_bltn (v := .ty "tuple") (by rfl) m_tuple bt_tuple rfl) pa_nil))) (pe_and (pe_cmpR (op_eqA hr.units) (pe_callB call_len (by rfl) m_len bb_len (pa_cons (pv 7) pa_nil)) pe_int (nomark _)) (pe_and (pe_cl c__law_is_vector hr (show 1 ≤ 6 by decide) passL (pa_cons (pv 7) (pa_cons pe_int pa_nil))) (pe_one (pe_chain op_le op_le pe_int (pe_ix ix_seq (pv 7) pe_int (fun _ _ => rfl)) pe_int))))))
      (pss_cons (ps_set (i := 18) sc_law.nd rfl (by first | exact Or.inl rfl | exact Or.inr rfl) (pe_and (pv 18) (pe_and (pe_cmpR op_le (pe_callB (show CallR _ (.builtin "abs") rAbs from call_abs) (by rfl) m_abs bb_abs (pa_cons (pe_ix ix_seq (pv 7) pe_int (fun _ _ => rfl)) pa_nil)) (pe_op op_pow pe_int pe_int) (nomark _)) (pe_one (pe_cmpR op_le (pe_callB (show CallR _ (.builtin "abs") rAbs from call_abs) (by rfl) m_abs bb_abs (pa_cons (pe_ix ix_seq (pv 7) pe_int (fun _ _ => rfl)) pa_nil)) (pe_op op_pow pe_int pe_int) (nomark _))))))
      (pss_one (ps_if (PW.pt (pw_and (pt_cmpR op_isN (pv 16) pe_non (nomark _)) (pw_and1 (PW.pt (pw_or (pt_not (pt_truth (pv 18) (fun _ => rfl))) (pw_or1 (PW.pt (pw_and (pt_cmpR op_gt (pv 17) pe_int (nomark _)) (pw_and1 (pt_cmpR (op_leR hr.units) (pe_slice sl_any (pv 7) po_none (po_some pe_int)) (pe_slice sl_any (pe_ix ix_seq (pv 13) (pe_op op_sub (pv 17) pe_int) (fun _ _ => rfl)) po_none (po_some pe_int)) (nomark _))))))))))) (pss_one (ps_set (i := 16) sc_law.nd rfl (by first | exact Or.inl rfl | exact Or.inr rfl) (pv 17))) pss_nil))))))
      (pss_cons (ps_set (i := 10) sc_law.nd rfl (by first | exact Or.inl rfl | exact Or.inr rfl) pe_non)
      (pss_cons (show PS _ _ (tTry _ _ _ _ _ _) from ps_try_as (i := 12) (Wout := fun _ _ _ _ => False) rfl rfl sc_law.nd rfl rfl ⟨rfl, by decide, Or.inl gx_BoardError⟩ takes0
        (fun W pn xe tk _ => (pss_one (ps_expr (pe_clS c_box hr (show 5 ≤ 6 by decide) tk (pa_cons (pe_callTy (show CallR _ (.type "tuple") (rTupOf K) from call_tuple_of) (by rfl) m_tuple bt_tuple (pa_cons (pv 13) pa_nil)) pa_nil)))))
        (fun ad oe cls dd pn hz hf => (pss_one (ps_set (i := 10) sc_law.nd rfl (by first | exact Or.inl rfl | exact Or.inr rfl) (pe_ifExp (pt_val (pe_callB (call_isX hz hf) (by rfl) m_isinstance bb_isinstance (pa_cons (pv 12) (pa_cons (pe_glob (v := .ref C_BadBoard) (by rfl) gx_BadBoard rfl) pa_nil))) (fun _ => rfl)) (pe_xfE hz hf (pv 12)) pe_str)))))
      (pss_one (ps_ret (pe_cl c__law_alike hr (show 6 ≤ 6 by decide) passL (pa_cons (pv 10) (pa_cons (pv 16) pa_nil)))))))))))))))))))))))),
    fn_D h fun ds o hk hR => ?_⟩)
  try dsimp only [L2.cxOf]
  obtain ⟨ns, rfl, rfl⟩ := hR
  have hsz : (sizeLine : Nat) = 16777216 := sizeLine_eq
  let t0 : RowS := ⟨ns, 0, 10801, 0, by decide, by decide, by decide⟩
  walk_at "zq"
  refine zw_lstC ?_
  walk_at "zq"
  walk_at "zt"
  intro p
  walk_at "zq"
  refine zw_lstD ?_
  walk_at "zq"
  refine zo_shl ⟨by decide, by decide, by decide⟩ ?_
  walk_at "zq"
  walk_at "zt"
  walk_at "zq"
  refine ⟨p, _, _, _, _, rfl, m0, allD_cons allD_nil, rfl, ⟨t0, _, rfl, rfl, by simp, by simp, fun i v t1 hv => ⟨_, _, rfl, .here, ?_⟩⟩⟩
  obtain ⟨most, rfl, hm0, hm1⟩ : ∃ m : Int, v = .int m ∧ 0 ≤ m ∧ m ≤ 2 ^ 90 := by
    have hm := List.mem_of_getElem? hv
    simp only [List.mem_cons, List.not_mem_nil, or_false] at hm
    rcases hm with rfl | rfl
    · exact ⟨_, rfl, by decide, by decide⟩
    · exact ⟨_, rfl, by decide, by decide⟩
  clear hv
  walk_at "zq"
  refine ⟨p, _, _, _, _, rfl, m0, allD_cons allD_nil, rfl, ⟨t1, most, rfl, rfl, hm0, hm1, fun x t2 hx0 hx1 => ⟨_, _, rfl, .here, ?_⟩⟩⟩
  replace hx0 : -(2 ^ 90) ≤ x := by omega
  replace hx1 : x ≤ 2 ^ 90 := by omega
  clear hm0 hm1
  walk_at "zq"
  refine ⟨p, _, _, _, _, rfl, m0, allD_cons allD_nil, rfl, ⟨t2, 9, rfl, rfl, by decide, by decide, fun y t3 hy0 hy1 => ⟨_, _, rfl, .here, ?_⟩⟩⟩
  clear t0 t1 t2
  walk_at "zq"
  refine ⟨p, _, _, _, _, rfl, m0, allD_cons (allD_cons (allD_cons allD_nil)), rfl, ⟨t3, rfl, rfl, fun b0 t4 hG0 => ⟨_, _, rfl, .here, ?_⟩⟩⟩
  walk_at "zq"
  refine ⟨_, _, by walk_at "zd", rfl, ⟨b0, x, y, rfl, by have := hG0.len; omega, rfl⟩, ?_⟩
  walk_at "zq"
  refine ⟨p, _, _, _, _, rfl, m0, allD_cons (allD_cons (allD_cons allD_nil)), rfl, ⟨t4, rfl, rfl, fun e0 t5 hG1 => ⟨_, _, rfl, .here, ?_⟩⟩⟩
  walk_at "zq"
  refine ⟨p, _, _, _, _, rfl, m0, allD_cons allD_nil, rfl, ⟨t5, 4, rfl, rfl, by decide, by decide, fun z t6 hz0 hz1 => ⟨_, _, rfl, .here, ?_⟩⟩⟩
  walk_at "zq"
  refine ⟨_, _, by walk_at "zd", rfl, ⟨e0, _, _, rfl, by have := hG1.len; omega, rfl⟩, ?_⟩
  have hB : Board (b0.map (Cell.mv x y)) := grid_board hG0 (by omega) (by omega)
  have hE : Board (e0.map (Cell.mv (x + z) (y + 3))) := grid_board hG1 (by omega) (by omega)
  have hBl : (b0.map (Cell.mv x y)).length ≤ 16 := by rw [List.length_map]; have := hG0.len; omega
  have hEl : (e0.map (Cell.mv (x + z) (y + 3))).length ≤ 16 := by rw [List.length_map]; have := hG1.len; omega
  generalize b0.map (Cell.mv x y) = b at hB hBl ⊢
  generalize e0.map (Cell.mv (x + z) (y + 3)) = e at hE hEl ⊢
  clear hG0 hG1 hz0 hz1 t3 t4 t5
  walk_at "zq"
  refine lcT_map b Cell.d (fun c => .tuple [rowD [c.x, c.y], .int c.s]) ?_
  walk_at "zz"
  refine ⟨rfl, by omega, fun c hc => ⟨_, _, ?_, zg_name, fun D acc => ?_⟩, ?_⟩
  · simp
  · walk_at "zq"
    walk_at "zt"
    exact ⟨rfl, rfl⟩
  rw [show (b.map fun c => PyData.tuple [rowD [c.x, c.y], .int c.s]) = (b.map fun c => ([c.x, c.y], PyData.int c.s)).map fun r => .tuple [rowD r.1, r.2] by rw [List.map_map]; rfl]
  walk_at "zq"
  refine zc_dict (fun r hr => ?_) fun q => ?_
  · obtain ⟨c, _, rfl⟩ := List.mem_map.mp hr
    intro z
    cases z
  rw [show rowsP (b.map fun c => ([c.x, c.y], PyData.int c.s)) = plcs b from rfl]
  walk_at "zq"
  refine ⟨p, _, _, _, _, rfl, m1 m0, allD_cons allD_nil, rfl, ⟨t6, 5, rfl, rfl, by decide, by decide, fun u t1 hu0 hu1 => ⟨_, _, rfl, .there .here, ?_⟩⟩⟩
  walk_at "zq"
  refine ⟨p, _, _, _, _, rfl, m1 m0, allD_cons allD_nil, rfl, ⟨t1, 5, rfl, rfl, by decide, by decide, fun v t2 hv0 hv1 => ⟨_, _, rfl, .there .here, ?_⟩⟩⟩
  walk_at "zq"
  walk_at "zt"
  walk_at "zq"
  refine ⟨p, _, _, _, _, rfl, m1 m0, allD_cons allD_nil, rfl, ⟨t2, 8, rfl, rfl, by decide, by decide, fun tn t3 ht0 ht1 => ⟨_, _, rfl, .there .here, ?_⟩⟩⟩
  have hpx : InFar (x + u) := by unfold InFar FAR; omega
  have hpy : InFar (y + v) := by unfold InFar FAR; omega
  generalize x + u = px at hpx ⊢
  generalize y + v = py at hpy ⊢
  clear hu0 hu1 hv0 hv1 t1 t2 t6
  obtain ⟨bx, hbx1, hbx2, hbx3⟩ := box_both (C := C_BadBoard) hB
  obtain ⟨nm, hnm1, hnm2, hnm3⟩ := norm_both hB
  walk_at "zq"
  refine zw_lstD ?_
  walk_at "zq"
  refine ⟨_, _, by walk_at "zd", rfl, ⟨b, _, _, rfl, hB, hpx, hpy, rfl⟩, ?_⟩
  walk_at "zq"
  refine ⟨_, _, by walk_at "zd", rfl, hbx1, fun d h => ?_, fun x h => (nomatch h)⟩
  cases h
  walk_at "zq"
  refine ⟨_, _, by walk_at "zd", rfl, hnm1, ?_⟩
  walk_at "zq"
  walk_at "zt"
  walk_at "zq"
  refine zw_lstD ?_
  walk_at "zq"
  refine ⟨⟨_, _, m0⟩, ?_⟩
  walk_at "zq"
  refine ⟨px, [py], rfl, ?_⟩
  walk_at "zq"
  refine ⟨_, _, _, rfl, m0, ?_⟩
  walk_at "zq"
  refine ⟨_, _, by walk_at "zd", rfl, hbx2, ?_⟩
  walk_at "zq"
  refine ⟨_, _, by walk_at "zd", rfl, hnm2, ?_⟩
  walk_at "zq"
  walk_at "zt"
  walk_at "zq"
  refine ⟨_, _, allD_cons (allD_cons allD_nil), rfl, ⟨_, rfl, ?_, rfl⟩, ?_⟩
  · show (decide (3 ≤ 1000) && (al 4 ((heldB b px py).getD (.int 0)) && (al 4 bx && (al 4 nm && true)))) = true
    rw [hbx3, hnm3]
    rcases held_num b px py with h | ⟨s, h⟩ <;> rw [h] <;> rfl
  clear hbx1 hbx2 hbx3 hnm1 hnm2 hnm3
  walk_at "zq"
  refine zw_lstD ?_
  walk_at "zq"
  refine ⟨_, _, by walk_at "zd", rfl, ⟨b, rfl, hB, rfl⟩, ?_⟩
  walk_at "zq"
  refine ⟨_, _, by walk_at "zd", rfl, ⟨b, _, _, rfl, hB, hpx, hpy, rfl⟩, ?_⟩
  walk_at "zq"
  walk_at "zt"
  walk_at "zq"
  refine zw_lstD ?_
  walk_at "zq"
  refine lcT_fm b Cell.d (fun _ => .int 1) (fun c => decide (c.s = 1)) ?_
  walk_at "zz"
  refine ⟨rfl, by omega, fun c hc => ⟨_, _, ?_, zg_name, fun D acc => ⟨?_, fun _ => ?_⟩⟩, ?_⟩
  · simp
  · walk_at "zq"
    try exact ⟨rfl, rfl⟩
  · walk_at "zq"
    try exact ⟨rfl, rfl⟩
  walk_at "zq"
  rw [List.length_map]
  refine ⟨_, _, by walk_at "zd", rfl, ⟨b, _, _, rfl, by omega, rfl⟩, ?_⟩
  walk_at "zq"
  walk_at "zt"
  walk_at "zq"
  refine ⟨_, _, allD_cons (allD_cons allD_nil), rfl, ⟨_, rfl, ?_, rfl⟩, ?_⟩
  · show (decide (2 ≤ 1000) && (true && (al 4 (bD (b.map (Cell.mv px py))) && true))) = true
    rw [al_bD (n := 1) (by rw [List.length_map]; omega)]
    rfl
  walk_at "zq"
  refine ⟨_, _, by walk_at "zd", rfl, ⟨b, tn, rfl, hB, by omega, by omega, rfl⟩, ?_⟩
  walk_at "zq"
  walk_at "zt"
  walk_at "zq"
  walk_at "zt"
  walk_at "zq"
  refine ⟨_, _, by walk_at "zd", rfl, ⟨b, tn, rfl, by omega, by omega, by omega, rfl⟩, ?_⟩
  walk_at "zq"
  refine ⟨_, _, allD_cons (allD_cons allD_nil), rfl, ⟨_, rfl, al_sorted (n := 2) (by rw [List.length_map]; omega), rfl⟩, ?_⟩
  walk_at "zq"
  refine lcT_fm e Cell.d Cell.d (fun c => (heldB b c.x c.y).isSome) ?_
  walk_at "zz"
  refine ⟨rfl, by omega, fun c hc => ⟨_, _, ?_, zg_name, fun D acc => ⟨?_, fun _ => ?_⟩⟩, ?_⟩
  · simp
  · walk_at "zq"
    refine ⟨c.x, [c.y], rfl, ?_⟩
    walk_at "zq"
    refine ⟨_, _, _, rfl, m1 m0, ?_⟩
    exact ⟨_, rfl, rfl, rfl⟩
  · walk_at "zq"
    try exact ⟨rfl, rfl⟩
  walk_at "zq"
  refine zs_nx (N := fun S2 M2 => ∃ (c12 : Option ZV) (told : PyData), S2 = [some (.d (.list (ns.map .int))), some (.c p), some (.d (.int x)), some (.d (.int y)), some (.d (bD b)), some (.d (bD e)), some (.c q), none, some (.d (pr px py)), some (.d (.int tn)), some (.d told), some (.d (.list ((e.filter fun c => (heldB b c.x c.y).isSome).map Cell.d))), c12, none, none, none, none, none, none] ∧ M2 = [(q, true, .dT (plcs b)), (p, true, .lst t3.d)] ∧ told = if meet b e = true then .str "clash" else bothD b e) (zs_tryZ fun W => ?_) ?_
  · walk_at "zq"
    refine zw_callS ?_
    walk_at "zq"
    refine ⟨_, _, by walk_at "zd", rfl, ⟨b, e, rfl, hB, hE, rfl⟩, fun d h => ?_, fun x h => ?_⟩
    · cases hm : meet b e with
      | true => rw [if_pos hm] at h; cases h
      | false =>
        rw [if_neg (by rw [hm]; exact Bool.false_ne_true)] at h
        cases h
        walk_at "zq"
        exact (if_neg Bool.false_ne_true).symm
    · cases hm : meet b e with
      | false => rw [if_neg (by rw [hm]; exact Bool.false_ne_true)] at h; cases h
      | true =>
        rw [if_pos hm] at h
        cases h
        refine ⟨h_exmC, fun a d => ?_⟩
        walk_at "zq"
        refine ⟨_, true, rfl, h_excC, ?_, ?_⟩
        · unfold PySem.W.kitOne
          rw [if_pos (by simp)]
        walk_at "zq"
        exact (if_pos rfl).symm
  · rintro S2 M2 ⟨c12, told, rfl, rfl, htold⟩
    refine zs_seq (zs_nx (N := fun S2 M2 => S2 = [some (.d (.list (ns.map .int))), some (.c p), some (.d (.int x)), some (.d (.int y)), some (.d (bD b)), some (.d (bD e)), some (.c q), none, some (.d (pr px py)), some (.d (.int tn)), some (.d told), some (.d (.list ((e.filter fun c => (heldB b c.x c.y).isSome).map Cell.d))), c12, none, none, none, none, none, none] ∧ M2 = [(q, true, .dT (plcs b)), (p, true, .lst t3.d)]) ?_ ?_)
    · walk_at "zq"
      refine zw_lstD ?_
      walk_at "zq"
      walk_at "zt"
      refine zo_neDD (shp_bL _) rfl ?_
      rw [eqv_bL, meet_nil, Bool.not_not]
      refine ⟨_, rfl, fun h => ?_, fun h => ?_⟩
      · rw [if_pos h] at htold
        subst htold
        walk_at "zq"
        refine ⟨_, _, allD_cons (allD_cons allD_nil), rfl, ⟨_, rfl, rfl, rfl⟩, ?_⟩
        walk_at "zq"
        first | rfl | exact ⟨rfl, rfl⟩
      · rw [if_neg (by rw [h]; exact Bool.false_ne_true)] at htold
        subst htold
        walk_at "zq"
        refine za_t (by rw [List.length_map, List.length_map]; omega) ?_
        walk_at "zq"
        rw [← List.map_append, ← rows_d]
        refine zc_sortT (fun r hr => rows_ne hr) ?_
        walk_at "zq"
        refine zc_tupL ?_
        walk_at "zq"
        refine ⟨_, _, allD_cons (allD_cons allD_nil), rfl, ⟨_, rfl, al_sorted (n := 2) (by rw [List.length_append]; omega), rfl⟩, ?_⟩
        walk_at "zq"
        first | rfl | exact ⟨rfl, rfl⟩
    · rintro S2 M2 ⟨rfl, rfl⟩
      walk_at "zq"
      refine zc_listC fun r0 => ?_
      walk_at "zq"
      refine zw_lstC ?_
      walk_at "zq"
      walk_at "zt"
      walk_at "zq"
      walk_at "zt"
      intro r1
      refine za_l (m1 m0) m0 (by simp; omega) fun r => ?_
      rw [show b.map Cell.d ++ [PyData.tuple [.int (x + 9), .int y, .int 1]] = (b ++ [(⟨x + 9, y, 1⟩ : Cell)]).map Cell.d by rw [List.map_append]; rfl]
      have hLl : (b ++ [(⟨x + 9, y, 1⟩ : Cell)]).length = b.length + 1 := by simp
      generalize b ++ [(⟨x + 9, y, 1⟩ : Cell)] = L at hLl ⊢
      walk_at "zq"
      refine ⟨p, _, _, _, _, rfl, m1 (m1 (m1 (m1 m0))), allD_cons allD_nil, rfl, ⟨t3, _, rfl, rfl, by rw [List.length_map]; omega, log_small (n := (b.map Cell.d).length + 1) (by rw [List.length_map]; omega), fun k t4 hk0 hk1 => ⟨_, _, rfl, .there (.there (.there (.there .here))), ?_⟩⟩⟩
      rw [List.length_map] at hk1
      obtain ⟨k, rfl⟩ : ∃ n : Nat, k = n := ⟨k.toNat, by omega⟩
      have hc1 := List.getElem?_eq_getElem (l := L) (i := k) (by omega)
      have hc0 := List.getElem?_eq_getElem (l := L) (i := 0) (by omega)
      generalize L[k] = c1 at hc1
      generalize L[0] = c0 at hc0
      have hat1 : atI (L.map Cell.d) (k : Int) = some c1.d := atI_nat (by rw [List.getElem?_map, hc1]; rfl)
      have hat0 : atI (L.map Cell.d) 0 = some c0.d := atI_zero hc0
      walk_at "zq"
      refine zw_lstC ?_
      walk_at "zq"
      walk_at "zt"
      refine za_t (by rw [hsz]; exact Nat.le_of_ble_eq_true rfl) ?_
      walk_at "zq"
      walk_at "zt"
      refine za_t (by rw [hsz]; exact Nat.le_of_ble_eq_true rfl) ?_
      walk_at "zq"
      walk_at "zt"
      walk_at "zq"
      walk_at "zt"
      intro w0
      walk_at "zq"
      refine zw_lstC ?_
      walk_at "zq"
      refine zo_shl ⟨by decide, by decide, by decide⟩ ?_
      walk_at "zq"
      walk_at "zt"
      walk_at "zq"
      walk_at "zt"
      intro w1
      refine za_l (m1 m0) m0 (by rw [hsz]; exact Nat.le_of_ble_eq_true rfl) fun w => ?_
      refine zs_weak (M' := [(w, true, .lst ([c1.d, c0.d, pr c1.x c1.y, Cell.d ⟨c1.x, c1.y, 0⟩, Cell.d ⟨c1.x, c1.y, 6⟩, .tuple [.bool true, .int 0, .int 1], .none] ++ [Cell.d ⟨1 * 2 ^ 300, 0, 1⟩])), (r, true, .lst (L.map Cell.d)), (p, true, .lst t4.d)]) ?_ rfl (fun _ _ h => h) (.cons₂ _ (.cons _ (.cons _ (.cons₂ _ (.cons _ (.cons _ (.cons _ (.cons₂ _ .slnil))))))))
      have hW8 : ∀ v ∈ [c1.d, c0.d, pr c1.x c1.y, Cell.d ⟨c1.x, c1.y, 0⟩, Cell.d ⟨c1.x, c1.y, 6⟩, .tuple [.bool true, .int 0, .int 1], .none] ++ [Cell.d ⟨1 * 2 ^ 300, 0, 1⟩], Wild v := by
        intro v hv
        simp only [List.cons_append, List.nil_append, List.mem_cons, List.not_mem_nil, or_false] at hv
        rcases hv with rfl | rfl | rfl | rfl | rfl | rfl | rfl | rfl
        · exact .cell c1
        · exact .cell c0
        · exact .two _ _
        · exact .cell _
        · exact .cell _
        · exact .odd
        · exact .non
        · exact .cell _
      generalize hT8 : [c1.d, c0.d, pr c1.x c1.y, Cell.d ⟨c1.x, c1.y, 0⟩, Cell.d ⟨c1.x, c1.y, 6⟩, .tuple [.bool true, .int 0, .int 1], .none] ++ [Cell.d ⟨1 * 2 ^ 300, 0, 1⟩] = T8 at hW8 ⊢
      have hT8l : T8.length = 8 := by rw [← hT8]; rfl
      clear hT8
      iterate 6 (walk_at "z")
      refine zw_frz ?_
      walk_at "zq"
      refine zw_lstC ?_
      walk_at "zq"
      refine zc_listD ?_
      walk_at "zq"
      walk_at "zt"
      intro w2
      refine za_l (m1 m0) m0 (by rw [hT8l, hsz]; exact Nat.le_of_ble_eq_true rfl) fun w3 => ?_
      refine ⟨_, _, _, rfl, .here, ?_⟩
      walk_at "zq"
      refine ⟨p, _, _, _, _, rfl, m1 (m1 (m1 m0)), allD_cons allD_nil, rfl, ⟨t4, _, rfl, rfl, by simp, by simp; omega, fun i wv t5 hw => ⟨_, _, rfl, .there (.there (.there .here)), ?_⟩⟩⟩
      have hWw : Wild wv := by
        rcases List.mem_append.mp (List.mem_of_getElem? hw) with h | h
        · exact hW8 wv h
        · obtain rfl : wv = .list [.int c1.x, .int c1.y, .int c1.s] := by simpa using h
          exact .lst c1.r (Nat.le_of_ble_eq_true rfl)
      clear hw hW8
      walk_at "zq"
      refine ⟨r, true, _, _, k, _, rfl, rfl, ixN_nat (by rw [List.length_map]; omega), .there (.there .here), ?_⟩
      have hvs : ∀ v ∈ (L.map Cell.d).set k wv, Wild v := fun v hv => by
        rcases List.mem_or_eq_of_mem_set hv with h | h
        · exact Board.wild h
        · rw [h]; exact hWw
      have hvl : ((L.map Cell.d).set k wv).length = b.length + 1 := by rw [List.length_set, List.length_map, hLl]
      generalize (L.map Cell.d).set k wv = vs at hvs hvl ⊢
      clear hWw hat1 hat0 hc1 hc0 hT8l hLl htold
      refine zs_weak (S' := [none, none, none, none, none, none, none, none, none, none, none, none, none, some (.c r), none, none, none, none, none]) (M' := [(r, true, .lst vs), (p, true, .lst t5.d)]) ?_ rfl (by
        intro i z h
        iterate 19 (rcases i with _ | i; first | exact h | exact absurd h (by simp))
        exact absurd h (by simp)) (.cons _ (.cons _ (.cons₂ _ (.cons₂ _ .slnil))))
      walk_at "zq"
      refine ⟨by omega, by omega, fun i S2 M2 => ∃ (due : Option Nat) (c7 c17 c18 : Option ZV), S2 = [none, none, none, none, none, none, none, c7, none, none, none, none, none, some (.c r), none, none, some (.d (optD due)), c17, c18] ∧ M2 = [(r, true, .lst vs), (p, true, .lst t5.d)] ∧ DueOk vs i due, ⟨none, _, _, _, rfl, rfl, fun i e => (nomatch e), fun _ j h => absurd h (Nat.not_lt_zero _)⟩, ?_, ?_⟩
      · rintro i S2 M2 hi ⟨due, c7, c17, c18, rfl, rfl, hD⟩
        have hi : i < vs.length := by omega
        have hv := List.getElem?_eq_getElem hi
        generalize vs[i] = v at hv
        have hWv := hvs v (List.mem_of_getElem? hv)
        have hat : atI vs (0 + (i : Int)) = some v := by rw [Int.zero_add]; exact atI_nat hv
        refine ⟨_, _, zg_name, ?_⟩
        iterate 6 (walk_at "z")
        refine zs_seq (zs_nx (N := fun S2 M2 => S2 = [none, none, none, none, none, none, none, some (.d v), none, none, none, none, none, some (.c r), none, none, some (.d (optD due)), some (.d (.int (0 + (i : Int)))), some (.d (.bool (firstB v)))] ∧ M2 = [(r, true, .lst vs), (p, true, .lst t5.d)]) ?_ ?_)
        · cases hWv with
          | cell c =>
            walk_at "zq"
            refine ⟨_, _, by walk_at "zd", rfl, .inl ⟨c, rfl, rfl⟩, ?_⟩
            walk_at "zq"
            refine ⟨fun h => ?_, fun h => ?_⟩
            · have hf : firstB c.d = false := by
                show (decide (1 ≤ c.s) && decide (c.s ≤ 5)) = false
                rw [h]
                rfl
              rw [hf]
              exact ⟨rfl, rfl⟩
            · have hf : firstB c.d = decide (c.s ≤ 5) := by
                show (decide (1 ≤ c.s) && decide (c.s ≤ 5)) = _
                rw [h]
                rfl
              rw [hf]
              walk_at "zq"
              first | rfl | exact ⟨rfl, rfl⟩
          | two x y =>
            walk_at "zq"
            try exact ⟨rfl, rfl⟩
          | odd =>
            walk_at "zq"
            refine ⟨_, _, by walk_at "zd", rfl, .inr ⟨rfl, rfl⟩, ?_⟩
            walk_at "zq"
            try exact ⟨rfl, rfl⟩
          | non =>
            walk_at "zq"
            try exact ⟨rfl, rfl⟩
          | lst l hl =>
            walk_at "zq"
            try exact ⟨rfl, rfl⟩
        rintro S2 M2 ⟨rfl, rfl⟩
        have hok := okB_first hWv
        refine zs_seq (zs_nx (N := fun S2 M2 => S2 = [none, none, none, none, none, none, none, some (.d v), none, none, none, none, none, some (.c r), none, none, some (.d (optD due)), some (.d (.int (0 + (i : Int)))), some (.d (.bool (okB v)))] ∧ M2 = [(r, true, .lst vs), (p, true, .lst t5.d)]) ?_ ?_)
        · cases hf : firstB v with
          | false =>
            rw [hf] at hok
            rw [hok]
            walk_at "zq"
            try exact ⟨rfl, rfl⟩
          | true =>
            rw [hf] at hok
            obtain ⟨c, rfl⟩ : ∃ c : Cell, v = c.d := by
              cases hWv with
              | cell c => exact ⟨c, rfl⟩
              | _ => cases hf
            rw [show okB c.d = (farB (.int c.x) && farB (.int c.y)) from hok]
            walk_at "zq"
            refine zo_pow ⟨by decide, by decide, by decide⟩ ?_
            rw [show (10 : Int) ^ (60 : Int).toNat = FAR from by decide]
            walk_at "zq"
            rw [far_abs]
            cases farB (.int c.x) with
            | false =>
              walk_at "zq"
              first | rfl | exact ⟨rfl, rfl⟩
            | true =>
              walk_at "zq"
              refine zo_pow ⟨by decide, by decide, by decide⟩ ?_
              rw [show (10 : Int) ^ (60 : Int).toNat = FAR from by decide]
              walk_at "zq"
              rw [far_abs]
              first | rfl | exact ⟨rfl, rfl⟩
        rintro S2 M2 ⟨rfl, rfl⟩
        clear hok
        cases due with
        | some j =>
          walk_at "zq"
          exact ⟨some j, _, _, _, rfl, rfl, due_go hD fun e => nomatch e⟩
        | none =>
          have hit : Bad vs i → ∃ (due : Option Nat) (c7 c17 c18 : Option ZV), [none, none, none, none, none, none, none, some (.d v), none, none, none, none, none, some (.c r), none, none, some (.d (.int (0 + (i : Int)))), some (.d (.int (0 + (i : Int)))), some (.d (.bool (okB v)))] = [none, none, none, none, none, none, none, c7, none, none, none, none, none, some (.c r), none, none, some (.d (optD due)), c17, c18] ∧ [(r, true, CD.lst vs), (p, true, CD.lst t5.d)] = [(r, true, CD.lst vs), (p, true, CD.lst t5.d)] ∧ DueOk vs (i + 1) due := fun hb => ⟨some i, some (.d v), some (.d (.int (0 + (i : Int)))), some (.d (.bool (okB v))), by rw [Int.zero_add]; rfl, rfl, due_hit hD hb⟩
          have go : ¬ Bad vs i → DueOk vs (i + 1) none := fun hb => due_go hD fun _ => hb
          cases hok : okB v with
          | false =>
            rw [hok] at hit
            walk_at "zq"
            exact hit ⟨v, hv, .inl hok⟩
          | true =>
            rw [hok] at hit
            obtain ⟨c, rfl⟩ := wild_cell hWv hok
            walk_at "zq"
            refine ⟨fun h => ?_, fun h => ?_⟩
            · have h : ¬ 0 < i := by simpa using of_decide_eq_false h
              walk_at "zq"
              refine ⟨none, _, _, _, rfl, rfl, go ?_⟩
              rintro ⟨v, hv2, hb⟩
              rw [hv] at hv2
              cases hv2
              rcases hb with z | ⟨z, _⟩
              · rw [hok] at z; cases z
              · exact h z
            · have h : 0 < i := by simpa using of_decide_eq_true h
              have hu := List.getElem?_eq_getElem (l := vs) (i := i - 1) (by omega)
              generalize vs[i - 1] = u2 at hu
              have huo : okB u2 = true := by
                cases z : okB u2 with
                | true => rfl
                | false => exact absurd ⟨u2, hu, .inl z⟩ (hD.2 rfl (i - 1) (by omega))
              obtain ⟨e2, rfl⟩ := wild_cell (hvs u2 (List.mem_of_getElem? hu)) huo
              have hat1 : atI vs (0 + (i : Int) - 1) = some e2.d := by
                have e3 : 0 + (i : Int) - 1 = ((i - 1 : Nat) : Int) := by omega
                rw [e3]
                exact atI_nat hu
              walk_at "zq"
              refine zo_leR (a := [c.x, c.y]) (b := [e2.x, e2.y]) ?_
              walk_at "zq"
              cases hq : leQ [c.x, c.y] [e2.x, e2.y] with
              | true =>
                walk_at "zq"
                exact hit ⟨c.d, hv, .inr ⟨h, e2.d, hu, hq⟩⟩
              | false =>
                walk_at "zq"
                refine ⟨none, _, _, _, rfl, rfl, go ?_⟩
                rintro ⟨v, hv2, hb⟩
                rw [hv] at hv2
                cases hv2
                rcases hb with z | ⟨_, u3, hu2, z⟩
                · rw [hok] at z; cases z
                · rw [hu] at hu2
                  cases hu2
                  rw [leXY, hq] at z
                  cases z
      · rintro S2 M2 ⟨due, c7, c17, c18, rfl, rfl, hD⟩
        have hD2 : DueOk vs vs.length due := by simpa using hD
        walk_at "zq"
        refine zs_nx (N := fun S2 M2 => ∃ (c12 : Option ZV), S2 = [none, none, none, none, none, none, none, c7, none, none, some (.d (optD due)), none, c12, some (.c r), none, none, some (.d (optD due)), c17, c18] ∧ M2 = [(r, true, .lst vs), (p, true, .lst t5.d)]) (zs_tryZ fun W => ?_) ?_
        · walk_at "zq"
          refine zw_callS ?_
          walk_at "zq"
          refine zc_tupC m0 ?_
          walk_at "zq"
          cases due with
          | none =>
            obtain ⟨d0, hR0⟩ := box_fine (C := C_BadBoard) hvs (by omega) fun i hb => hD2.2 rfl i (bad_lt hb) hb
            refine ⟨_, _, by walk_at "zd", rfl, hR0, fun d h => ?_, fun x h => (nomatch h)⟩
            cases h
            walk_at "zq"
            first | rfl | exact ⟨_, rfl, rfl⟩
          | some i =>
            have hi : i < vs.length := bad_lt (hD2.1 i rfl).1
            refine ⟨_, _, by walk_at "zd", rfl, ⟨vs, rfl, hvs, by omega, .inl ⟨i, hD2.1 i rfl, rfl⟩⟩, fun d h => (nomatch h), fun x h => ?_⟩
            cases h
            refine ⟨h_exmB, fun a d => ?_⟩
            walk_at "zq"
            refine ⟨_, true, rfl, h_excB, ?_, ?_⟩
            · unfold PySem.W.kitOne
              rw [if_pos (by simp)]
            walk_at "zq"
            refine zw_xf ⟨h_xf, h_no⟩ ?_
            walk_at "zq"
            first | rfl | exact ⟨_, rfl, rfl⟩
        · rintro S3 M3 ⟨c12, rfl, rfl⟩
          walk_at "zq"
          refine ⟨_, _, allD_cons (allD_cons allD_nil), rfl, ⟨_, rfl, by cases due <;> rfl, rfl⟩, ?_⟩
          exact ⟨_, rfl, rfl⟩
end K01
namespace K01
open PySem PySem.Spec PyProof.Rows L2 Z
end K01
namespace K01
open PySem PySem.Spec PyProof.Rows L2 Z
theorem all_mk {l : PySem.W.OpenLaw} {w : World} {K : Fg} {h : Heap} {mg : Str → Option Value} {fa C_BadBoard C_Clash C_BoardError fI_BadBoard f_is_between f_check_number f_is_move f_check_move f_is_cell f_check_board f_states_by_place f_moved f_turned_cell f_turned_board f_corners f_made_normal f_state_at f_shifted f_turned f_joined f_box f_living f_normal f_law_alike f_law_moved f_law_box f_law_normal f_law_turned_piece f_law_is_vector f_law_taken f_law_signed f_law_pick f_law_cells f_law : Addr} (X : K.In h) (G : h.Ns mainGlobals mg) (hfa : mg "law" = some (.ref fa))
    {t_FAR : Tok}
    {nm_BadBoard q_BadBoard_ : Str} {N_BadBoard : Addr} {bs_BadBoard bm_BadBoard : List Value} {sn_BadBoard : List Str} {sub_BadBoard : List Value} {ab_BadBoard : Bool} {col_BadBoard : Option Bool} {dd_BadBoard : Option Addr} {m0_BadBoard m1_BadBoard m2_BadBoard m3_BadBoard m5_BadBoard : Option Value}
    {oc_BadBoard doc_BadBoard pm_BadBoard ct_BadBoard : Value} {od_BadBoard an_BadBoard : Option Addr} {cda_BadBoard cc_BadBoard : Addr} {osl_BadBoard : Array (Option Value)} {p1_BadBoard p2_BadBoard ya_BadBoard yb_BadBoard yc_BadBoard yd_BadBoard ye_BadBoard yg_BadBoard yh_BadBoard yi_BadBoard yk_BadBoard yl_BadBoard ym_BadBoard yn_BadBoard yo_BadBoard : Pos} {j_BadBoard : Nat}
    {ccl_BadBoard : Value} {cdd_BadBoard : Option Addr} {vs_BadBoard : Array Value} {ccs_BadBoard csl_BadBoard : Array (Option Value)} {cl_BadBoard : Value} {cld_BadBoard : Option Addr} {file_BadBoard : Str} {tf_BadBoard : Tok}
    {od_is_between an_is_between : Option Addr} {sl_is_between : Array (Option Value)} {oc_is_between kV_is_between dc_is_between pm_is_between cd_is_between ct_is_between : Value}
    {od_check_number an_check_number : Option Addr} {sl_check_number : Array (Option Value)} {oc_check_number kV_check_number dc_check_number pm_check_number cd_check_number ct_check_number : Value}
    {od_is_move an_is_move : Option Addr} {sl_is_move : Array (Option Value)} {oc_is_move kV_is_move dc_is_move pm_is_move cd_is_move ct_is_move : Value}
    {od_check_move an_check_move : Option Addr} {sl_check_move : Array (Option Value)} {oc_check_move kV_check_move dc_check_move pm_check_move cd_check_move ct_check_move : Value}
    {od_is_cell an_is_cell : Option Addr} {sl_is_cell : Array (Option Value)} {oc_is_cell kV_is_cell dc_is_cell pm_is_cell cd_is_cell ct_is_cell : Value}
    {od_check_board an_check_board : Option Addr} {sl_check_board : Array (Option Value)} {oc_check_board kV_check_board dc_check_board pm_check_board cd_check_board ct_check_board : Value}
    {od_states_by_place an_states_by_place : Option Addr} {sl_states_by_place : Array (Option Value)} {oc_states_by_place kV_states_by_place dc_states_by_place pm_states_by_place cd_states_by_place ct_states_by_place : Value}
    {od_moved an_moved : Option Addr} {sl_moved : Array (Option Value)} {oc_moved kV_moved dc_moved pm_moved cd_moved ct_moved : Value}
    {od_turned_cell an_turned_cell : Option Addr} {sl_turned_cell : Array (Option Value)} {oc_turned_cell kV_turned_cell dc_turned_cell pm_turned_cell cd_turned_cell ct_turned_cell : Value}
    {od_turned_board an_turned_board : Option Addr} {sl_turned_board : Array (Option Value)} {oc_turned_board kV_turned_board dc_turned_board pm_turned_board cd_turned_board ct_turned_board : Value}
    {od_corners an_corners : Option Addr} {sl_corners : Array (Option Value)} {oc_corners kV_corners dc_corners pm_corners cd_corners ct_corners : Value}
    {od_made_normal an_made_normal : Option Addr} {sl_made_normal : Array (Option Value)} {oc_made_normal kV_made_normal dc_made_normal pm_made_normal cd_made_normal ct_made_normal : Value}
    {od_state_at an_state_at : Option Addr} {sl_state_at : Array (Option Value)} {oc_state_at kV_state_at dc_state_at pm_state_at cd_state_at ct_state_at : Value}
    {od_shifted an_shifted : Option Addr} {sl_shifted : Array (Option Value)} {oc_shifted kV_shifted dc_shifted pm_shifted cd_shifted ct_shifted : Value}
    {od_turned an_turned : Option Addr} {sl_turned : Array (Option Value)} {oc_turned kV_turned dc_turned pm_turned cd_turned ct_turned : Value}
    {od_joined an_joined : Option Addr} {sl_joined : Array (Option Value)} {oc_joined kV_joined dc_joined pm_joined cd_joined ct_joined : Value}
    {od_box an_box : Option Addr} {sl_box : Array (Option Value)} {oc_box kV_box dc_box pm_box cd_box ct_box : Value}
    {od_living an_living : Option Addr} {sl_living : Array (Option Value)} {oc_living kV_living dc_living pm_living cd_living ct_living : Value}
    {od_normal an_normal : Option Addr} {sl_normal : Array (Option Value)} {oc_normal kV_normal dc_normal pm_normal cd_normal ct_normal : Value}
    {od_law_alike an_law_alike : Option Addr} {sl_law_alike : Array (Option Value)} {oc_law_alike kV_law_alike dc_law_alike pm_law_alike cd_law_alike ct_law_alike : Value}
    {od_law_moved an_law_moved : Option Addr} {sl_law_moved : Array (Option Value)} {oc_law_moved kV_law_moved dc_law_moved pm_law_moved cd_law_moved ct_law_moved : Value}
    {od_law_box an_law_box : Option Addr} {sl_law_box : Array (Option Value)} {oc_law_box kV_law_box dc_law_box pm_law_box cd_law_box ct_law_box : Value}
    {od_law_normal an_law_normal : Option Addr} {sl_law_normal : Array (Option Value)} {oc_law_normal kV_law_normal dc_law_normal pm_law_normal cd_law_normal ct_law_normal : Value}
    {od_law_turned_piece an_law_turned_piece : Option Addr} {sl_law_turned_piece : Array (Option Value)} {oc_law_turned_piece kV_law_turned_piece dc_law_turned_piece pm_law_turned_piece cd_law_turned_piece ct_law_turned_piece : Value}
    {od_law_is_vector an_law_is_vector : Option Addr} {sl_law_is_vector : Array (Option Value)} {oc_law_is_vector kV_law_is_vector dc_law_is_vector pm_law_is_vector cd_law_is_vector ct_law_is_vector : Value}
    {od_law_taken an_law_taken : Option Addr} {sl_law_taken : Array (Option Value)} {oc_law_taken kV_law_taken dc_law_taken pm_law_taken cd_law_taken ct_law_taken : Value}
    {od_law_signed an_law_signed : Option Addr} {sl_law_signed : Array (Option Value)} {oc_law_signed kV_law_signed dc_law_signed pm_law_signed cd_law_signed ct_law_signed : Value}
    {od_law_pick an_law_pick : Option Addr} {sl_law_pick : Array (Option Value)} {oc_law_pick kV_law_pick dc_law_pick pm_law_pick cd_law_pick ct_law_pick : Value}
    {od_law_cells an_law_cells : Option Addr} {sl_law_cells : Array (Option Value)} {oc_law_cells kV_law_cells dc_law_cells pm_law_cells cd_law_cells ct_law_cells : Value}
    {od_law an_law : Option Addr} {sl_law : Array (Option Value)} {oc_law kV_law dc_law pm_law cd_law ct_law : Value}
    (z_isinstance : PySem.W.nsIn K mainGlobals "isinstance" = some none)
    (z_int : PySem.W.nsIn K mainGlobals "int" = some none)
    (z_bool : PySem.W.nsIn K mainGlobals "bool" = some none)
    (z_len : PySem.W.nsIn K mainGlobals "len" = some none)
    (z_tuple : PySem.W.nsIn K mainGlobals "tuple" = some none)
    (z_FAR : PySem.W.nsIn K mainGlobals "FAR" = some (some (.int 1000000000000000000000000000000000000000000000000000000000000 t_FAR)))
    (z_enumerate : PySem.W.nsIn K mainGlobals "enumerate" = some none)
    (z_range : PySem.W.nsIn K mainGlobals "range" = some none)
    (z_sorted : PySem.W.nsIn K mainGlobals "sorted" = some none)
    (z_max : PySem.W.nsIn K mainGlobals "max" = some none)
    (z_min : PySem.W.nsIn K mainGlobals "min" = some none)
    (z_any : PySem.W.nsIn K mainGlobals "any" = some none)
    (z_list : PySem.W.nsIn K mainGlobals "list" = some none)
    (z_str : PySem.W.nsIn K mainGlobals "str" = some none)
    (z_dict : PySem.W.nsIn K mainGlobals "dict" = some none)
    (z_abs : PySem.W.nsIn K mainGlobals "abs" = some none)
    (a_BadBoard : PySem.W.nsIn K mainGlobals "BadBoard" = some (some (.ref C_BadBoard)))
    (kC_BadBoard : PySem.W.keepIn K (.ref C_BadBoard) = true)
    (exC_BadBoard : PySem.W.subIn K (.ref C_BadBoard) (.type "BaseException") = some true)
    (tyC_BadBoard : PySem.W.typeIn K (.ref C_BadBoard) = some (.type "type"))
    (hdC_BadBoard : PySem.W.hasDictIn K C_BadBoard = true)
    (a_Clash : PySem.W.nsIn K mainGlobals "Clash" = some (some (.ref C_Clash)))
    (kC_Clash : PySem.W.keepIn K (.ref C_Clash) = true)
    (exC_Clash : PySem.W.subIn K (.ref C_Clash) (.type "BaseException") = some true)
    (tyC_Clash : PySem.W.typeIn K (.ref C_Clash) = some (.type "type"))
    (hdC_Clash : PySem.W.hasDictIn K C_Clash = true)
    (a_BoardError : PySem.W.nsIn K mainGlobals "BoardError" = some (some (.ref C_BoardError)))
    (kC_BoardError : PySem.W.keepIn K (.ref C_BoardError) = true)
    (exC_BoardError : PySem.W.subIn K (.ref C_BoardError) (.type "BaseException") = some true)
    (tyC_BoardError : PySem.W.typeIn K (.ref C_BoardError) = some (.type "type"))
    (hdC_BoardError : PySem.W.hasDictIn K C_BoardError = true)
    (q_BadBoard : PySem.W.excInitIn K C_BadBoard [.type "ValueError", .type "Exception", .type "BaseException", .type "object"] "ValueError.__new__" = true)
    (cls_BadBoard : K.lookup C_BadBoard = some (excClassObj nm_BadBoard q_BadBoard_ C_BadBoard N_BadBoard bs_BadBoard bm_BadBoard true sn_BadBoard sub_BadBoard ab_BadBoard col_BadBoard dd_BadBoard m0_BadBoard m1_BadBoard m2_BadBoard m3_BadBoard m5_BadBoard "ValueError.__new__"))
    (bm_BadBoard : PySem.HandSPX.refsVE bm_BadBoard = true)
    (sa_BadBoard : PySem.W.findIn K (.ref C_BadBoard) "__setattr__" = some (some (.builtin "object.__setattr__")))
    (noN_BadBoard : PySem.W.findIn K (.ref C_BadBoard) "index" = some none)
    (iC_BadBoard : PySem.W.findIn K (.ref C_BadBoard) "__init__" = some (some (.ref fI_BadBoard)))
    (tC_BadBoard : PySem.W.typeIn K (.ref fI_BadBoard) = some (.type "function"))
    (veC_BadBoard : PySem.W.subIn K (.ref C_BadBoard) (.type "ValueError") = some true)
    (ms_BadBoard : PySem.W.mroIn K C_BadBoard (.ref C_BadBoard) = some true)
    (si_BadBoard : PySem.W.ks_superIn K C_BadBoard C_BadBoard "__init__" = some (some (.builtin "ValueError.__init__")))
    (op_super : PySem.W.nsIn K cStatics "thirdparty.any" = some none)
    (su_super : PySem.W.nsIn K mainGlobals "super" = some none)
    (l_BadBoard : K.lookup fI_BadBoard = some ⟨oc_BadBoard, od_BadBoard, .func (PySem.W.ksFn "__init__" "BadBoard.__init__" (PySem.SupX.sA "index" p1_BadBoard p2_BadBoard) (PySem.SupX.sB "index" "not a board, first wrong item: " j_BadBoard ⟨ya_BadBoard, yb_BadBoard, yc_BadBoard, yd_BadBoard, ye_BadBoard, yg_BadBoard, yh_BadBoard, yi_BadBoard, yk_BadBoard, yl_BadBoard, ym_BadBoard, yn_BadBoard, yo_BadBoard⟩) (PySem.SupX.sS "index") .none .none doc_BadBoard pm_BadBoard an_BadBoard (.ref cda_BadBoard) ct_BadBoard cc_BadBoard), osl_BadBoard⟩)
    (c_BadBoard : PySem.W.codeIn K (.ref cda_BadBoard) "BadBoard.__init__" = true)
    (cf_BadBoard : K.lookup cda_BadBoard = some ⟨ccl_BadBoard, cdd_BadBoard, .fields vs_BadBoard, ccs_BadBoard⟩)
    (vf_BadBoard : vs_BadBoard[2]? = some (.str file_BadBoard tf_BadBoard))
    (fe_BadBoard : ((l.prog.main.file : Str) == file_BadBoard) = true)
    (cc_BadBoard_ : K.lookup cc_BadBoard = some ⟨cl_BadBoard, cld_BadBoard, .cell (some (.ref C_BadBoard)), csl_BadBoard⟩)
    (ev_BadBoard : PySem.SupX.EvOk "index" "not a board, first wrong item: " j_BadBoard ⟨ya_BadBoard, yb_BadBoard, yc_BadBoard, yd_BadBoard, ye_BadBoard, yg_BadBoard, yh_BadBoard, yi_BadBoard, yk_BadBoard, yl_BadBoard, ym_BadBoard, yn_BadBoard, yo_BadBoard⟩)
    (tp_BadBoard : (l.prog.main.scope.names.lookup ("super" : Str)).isSome = false)
    (x_Clash : PySem.W.excIn K C_Clash [Value.type "ValueError", Value.type "Exception", Value.type "BaseException", Value.type "object"] "ValueError.__new__" = true)
    (sxC : PySem.W.subIn K (.ref C_Clash) (.ref C_BoardError) = some true)
    (gaC : PySem.W.findIn K (.ref C_Clash) "__getattribute__" = some (some (.builtin "BaseException.__getattribute__")))
    (gtC : PySem.W.findIn K (.ref C_Clash) "__getattr__" = some none)
    (caC : PySem.W.findIn K (.ref C_Clash) "__class__" = some (some (.builtin "object.__class__")))
    (cmC : PySem.W.mroIn K C_Clash (.type "object") = some true)
    (sxB : PySem.W.subIn K (.ref C_BadBoard) (.ref C_BoardError) = some true)
    (gaB : PySem.W.findIn K (.ref C_BadBoard) "__getattribute__" = some (some (.builtin "BaseException.__getattribute__")))
    (gtB : PySem.W.findIn K (.ref C_BadBoard) "__getattr__" = some none)
    (caB : PySem.W.findIn K (.ref C_BadBoard) "__class__" = some (some (.builtin "object.__class__")))
    (cmB : PySem.W.mroIn K C_BadBoard (.type "object") = some true)
    (cn1 : PySem.W.specialIn K (.builtin "object.__class__") "__get__" = some (some (.builtin "getset_descriptor.__get__")))
    (ct1 : PySem.W.takesIn K (.builtin "object.__class__") = some true)
    (a_is_between : PySem.W.nsIn K mainGlobals "is_between" = some (some (.ref f_is_between)))
    (l_is_between : K.lookup f_is_between = some ⟨oc_is_between, od_is_between, .func (PySem.W.fnOf "is_between" "is_between" (defArgs s_is_between) (defBody s_is_between) (defScope s_is_between) .none kV_is_between dc_is_between pm_is_between an_is_between cd_is_between ct_is_between), sl_is_between⟩)
    (c_is_between : PySem.W.codeIn K cd_is_between "is_between" = true)
    (k_is_between : PySem.W.keepIn K (.ref f_is_between) = true)
    (a_check_number : PySem.W.nsIn K mainGlobals "check_number" = some (some (.ref f_check_number)))
    (l_check_number : K.lookup f_check_number = some ⟨oc_check_number, od_check_number, .func (PySem.W.fnOf "check_number" "check_number" (defArgs s_check_number) (defBody s_check_number) (defScope s_check_number) .none kV_check_number dc_check_number pm_check_number an_check_number cd_check_number ct_check_number), sl_check_number⟩)
    (c_check_number : PySem.W.codeIn K cd_check_number "check_number" = true)
    (k_check_number : PySem.W.keepIn K (.ref f_check_number) = true)
    (a_is_move : PySem.W.nsIn K mainGlobals "is_move" = some (some (.ref f_is_move)))
    (l_is_move : K.lookup f_is_move = some ⟨oc_is_move, od_is_move, .func (PySem.W.fnOf "is_move" "is_move" (defArgs s_is_move) (defBody s_is_move) (defScope s_is_move) .none kV_is_move dc_is_move pm_is_move an_is_move cd_is_move ct_is_move), sl_is_move⟩)
    (c_is_move : PySem.W.codeIn K cd_is_move "is_move" = true)
    (k_is_move : PySem.W.keepIn K (.ref f_is_move) = true)
    (a_check_move : PySem.W.nsIn K mainGlobals "check_move" = some (some (.ref f_check_move)))
    (l_check_move : K.lookup f_check_move = some ⟨oc_check_move, od_check_move, .func (PySem.W.fnOf "check_move" "check_move" (defArgs s_check_move) (defBody s_check_move) (defScope s_check_move) .none kV_check_move dc_check_move pm_check_move an_check_move cd_check_move ct_check_move), sl_check_move⟩)
    (c_check_move : PySem.W.codeIn K cd_check_move "check_move" = true)
    (k_check_move : PySem.W.keepIn K (.ref f_check_move) = true)
    (a_is_cell : PySem.W.nsIn K mainGlobals "_is_cell" = some (some (.ref f_is_cell)))
    (l_is_cell : K.lookup f_is_cell = some ⟨oc_is_cell, od_is_cell, .func (PySem.W.fnOf "_is_cell" "_is_cell" (defArgs s_is_cell) (defBody s_is_cell) (defScope s_is_cell) .none kV_is_cell dc_is_cell pm_is_cell an_is_cell cd_is_cell ct_is_cell), sl_is_cell⟩)
    (c_is_cell : PySem.W.codeIn K cd_is_cell "_is_cell" = true)
    (k_is_cell : PySem.W.keepIn K (.ref f_is_cell) = true)
    (a_check_board : PySem.W.nsIn K mainGlobals "check_board" = some (some (.ref f_check_board)))
    (l_check_board : K.lookup f_check_board = some ⟨oc_check_board, od_check_board, .func (PySem.W.fnOf "check_board" "check_board" (defArgs s_check_board) (defBody s_check_board) (defScope s_check_board) .none kV_check_board dc_check_board pm_check_board an_check_board cd_check_board ct_check_board), sl_check_board⟩)
    (c_check_board : PySem.W.codeIn K cd_check_board "check_board" = true)
    (k_check_board : PySem.W.keepIn K (.ref f_check_board) = true)
    (a_states_by_place : PySem.W.nsIn K mainGlobals "states_by_place" = some (some (.ref f_states_by_place)))
    (l_states_by_place : K.lookup f_states_by_place = some ⟨oc_states_by_place, od_states_by_place, .func (PySem.W.fnOf "states_by_place" "states_by_place" (defArgs s_states_by_place) (defBody s_states_by_place) (defScope s_states_by_place) .none kV_states_by_place dc_states_by_place pm_states_by_place an_states_by_place cd_states_by_place ct_states_by_place), sl_states_by_place⟩)
    (c_states_by_place : PySem.W.codeIn K cd_states_by_place "states_by_place" = true)
    (k_states_by_place : PySem.W.keepIn K (.ref f_states_by_place) = true)
    (a_moved : PySem.W.nsIn K mainGlobals "moved" = some (some (.ref f_moved)))
    (l_moved : K.lookup f_moved = some ⟨oc_moved, od_moved, .func (PySem.W.fnOf "moved" "moved" (defArgs s_moved) (defBody s_moved) (defScope s_moved) .none kV_moved dc_moved pm_moved an_moved cd_moved ct_moved), sl_moved⟩)
    (c_moved : PySem.W.codeIn K cd_moved "moved" = true)
    (k_moved : PySem.W.keepIn K (.ref f_moved) = true)
    (a_turned_cell : PySem.W.nsIn K mainGlobals "_turned_cell" = some (some (.ref f_turned_cell)))
    (l_turned_cell : K.lookup f_turned_cell = some ⟨oc_turned_cell, od_turned_cell, .func (PySem.W.fnOf "_turned_cell" "_turned_cell" (defArgs s_turned_cell) (defBody s_turned_cell) (defScope s_turned_cell) .none kV_turned_cell dc_turned_cell pm_turned_cell an_turned_cell cd_turned_cell ct_turned_cell), sl_turned_cell⟩)
    (c_turned_cell : PySem.W.codeIn K cd_turned_cell "_turned_cell" = true)
    (k_turned_cell : PySem.W.keepIn K (.ref f_turned_cell) = true)
    (a_turned_board : PySem.W.nsIn K mainGlobals "turned_board" = some (some (.ref f_turned_board)))
    (l_turned_board : K.lookup f_turned_board = some ⟨oc_turned_board, od_turned_board, .func (PySem.W.fnOf "turned_board" "turned_board" (defArgs s_turned_board) (defBody s_turned_board) (defScope s_turned_board) .none kV_turned_board dc_turned_board pm_turned_board an_turned_board cd_turned_board ct_turned_board), sl_turned_board⟩)
    (c_turned_board : PySem.W.codeIn K cd_turned_board "turned_board" = true)
    (k_turned_board : PySem.W.keepIn K (.ref f_turned_board) = true)
    (a_corners : PySem.W.nsIn K mainGlobals "corners" = some (some (.ref f_corners)))
    (l_corners : K.lookup f_corners = some ⟨oc_corners, od_corners, .func (PySem.W.fnOf "corners" "corners" (defArgs s_corners) (defBody s_corners) (defScope s_corners) .none kV_corners dc_corners pm_corners an_corners cd_corners ct_corners), sl_corners⟩)
    (c_corners : PySem.W.codeIn K cd_corners "corners" = true)
    (k_corners : PySem.W.keepIn K (.ref f_corners) = true)
    (a_made_normal : PySem.W.nsIn K mainGlobals "made_normal" = some (some (.ref f_made_normal)))
    (l_made_normal : K.lookup f_made_normal = some ⟨oc_made_normal, od_made_normal, .func (PySem.W.fnOf "made_normal" "made_normal" (defArgs s_made_normal) (defBody s_made_normal) (defScope s_made_normal) .none kV_made_normal dc_made_normal pm_made_normal an_made_normal cd_made_normal ct_made_normal), sl_made_normal⟩)
    (c_made_normal : PySem.W.codeIn K cd_made_normal "made_normal" = true)
    (k_made_normal : PySem.W.keepIn K (.ref f_made_normal) = true)
    (a_state_at : PySem.W.nsIn K mainGlobals "state_at" = some (some (.ref f_state_at)))
    (l_state_at : K.lookup f_state_at = some ⟨oc_state_at, od_state_at, .func (PySem.W.fnOf "state_at" "state_at" (defArgs s_state_at) (defBody s_state_at) (defScope s_state_at) .none kV_state_at dc_state_at pm_state_at an_state_at cd_state_at ct_state_at), sl_state_at⟩)
    (c_state_at : PySem.W.codeIn K cd_state_at "state_at" = true)
    (k_state_at : PySem.W.keepIn K (.ref f_state_at) = true)
    (a_shifted : PySem.W.nsIn K mainGlobals "shifted" = some (some (.ref f_shifted)))
    (l_shifted : K.lookup f_shifted = some ⟨oc_shifted, od_shifted, .func (PySem.W.fnOf "shifted" "shifted" (defArgs s_shifted) (defBody s_shifted) (defScope s_shifted) .none kV_shifted dc_shifted pm_shifted an_shifted cd_shifted ct_shifted), sl_shifted⟩)
    (c_shifted : PySem.W.codeIn K cd_shifted "shifted" = true)
    (k_shifted : PySem.W.keepIn K (.ref f_shifted) = true)
    (a_turned : PySem.W.nsIn K mainGlobals "turned" = some (some (.ref f_turned)))
    (l_turned : K.lookup f_turned = some ⟨oc_turned, od_turned, .func (PySem.W.fnOf "turned" "turned" (defArgs s_turned) (defBody s_turned) (defScope s_turned) .none kV_turned dc_turned pm_turned an_turned cd_turned ct_turned), sl_turned⟩)
    (c_turned : PySem.W.codeIn K cd_turned "turned" = true)
    (k_turned : PySem.W.keepIn K (.ref f_turned) = true)
    (a_joined : PySem.W.nsIn K mainGlobals "joined" = some (some (.ref f_joined)))
    (l_joined : K.lookup f_joined = some ⟨oc_joined, od_joined, .func (PySem.W.fnOf "joined" "joined" (defArgs s_joined) (defBody s_joined) (defScope s_joined) .none kV_joined dc_joined pm_joined an_joined cd_joined ct_joined), sl_joined⟩)
    (c_joined : PySem.W.codeIn K cd_joined "joined" = true)
    (k_joined : PySem.W.keepIn K (.ref f_joined) = true)
    (a_box : PySem.W.nsIn K mainGlobals "box" = some (some (.ref f_box)))
    (l_box : K.lookup f_box = some ⟨oc_box, od_box, .func (PySem.W.fnOf "box" "box" (defArgs s_box) (defBody s_box) (defScope s_box) .none kV_box dc_box pm_box an_box cd_box ct_box), sl_box⟩)
    (c_box : PySem.W.codeIn K cd_box "box" = true)
    (k_box : PySem.W.keepIn K (.ref f_box) = true)
    (a_living : PySem.W.nsIn K mainGlobals "living" = some (some (.ref f_living)))
    (l_living : K.lookup f_living = some ⟨oc_living, od_living, .func (PySem.W.fnOf "living" "living" (defArgs s_living) (defBody s_living) (defScope s_living) .none kV_living dc_living pm_living an_living cd_living ct_living), sl_living⟩)
    (c_living : PySem.W.codeIn K cd_living "living" = true)
    (k_living : PySem.W.keepIn K (.ref f_living) = true)
    (a_normal : PySem.W.nsIn K mainGlobals "normal" = some (some (.ref f_normal)))
    (l_normal : K.lookup f_normal = some ⟨oc_normal, od_normal, .func (PySem.W.fnOf "normal" "normal" (defArgs s_normal) (defBody s_normal) (defScope s_normal) .none kV_normal dc_normal pm_normal an_normal cd_normal ct_normal), sl_normal⟩)
    (c_normal : PySem.W.codeIn K cd_normal "normal" = true)
    (k_normal : PySem.W.keepIn K (.ref f_normal) = true)
    (a_law_alike : PySem.W.nsIn K mainGlobals "_law_alike" = some (some (.ref f_law_alike)))
    (l_law_alike : K.lookup f_law_alike = some ⟨oc_law_alike, od_law_alike, .func (PySem.W.fnOf "_law_alike" "_law_alike" (defArgs s_law_alike) (defBody s_law_alike) (defScope s_law_alike) .none kV_law_alike dc_law_alike pm_law_alike an_law_alike cd_law_alike ct_law_alike), sl_law_alike⟩)
    (c_law_alike : PySem.W.codeIn K cd_law_alike "_law_alike" = true)
    (k_law_alike : PySem.W.keepIn K (.ref f_law_alike) = true)
    (a_law_moved : PySem.W.nsIn K mainGlobals "_law_moved" = some (some (.ref f_law_moved)))
    (l_law_moved : K.lookup f_law_moved = some ⟨oc_law_moved, od_law_moved, .func (PySem.W.fnOf "_law_moved" "_law_moved" (defArgs s_law_moved) (defBody s_law_moved) (defScope s_law_moved) .none kV_law_moved dc_law_moved pm_law_moved an_law_moved cd_law_moved ct_law_moved), sl_law_moved⟩)
    (c_law_moved : PySem.W.codeIn K cd_law_moved "_law_moved" = true)
    (k_law_moved : PySem.W.keepIn K (.ref f_law_moved) = true)
    (a_law_box : PySem.W.nsIn K mainGlobals "_law_box" = some (some (.ref f_law_box)))
    (l_law_box : K.lookup f_law_box = some ⟨oc_law_box, od_law_box, .func (PySem.W.fnOf "_law_box" "_law_box" (defArgs s_law_box) (defBody s_law_box) (defScope s_law_box) .none kV_law_box dc_law_box pm_law_box an_law_box cd_law_box ct_law_box), sl_law_box⟩)
    (c_law_box : PySem.W.codeIn K cd_law_box "_law_box" = true)
    (k_law_box : PySem.W.keepIn K (.ref f_law_box) = true)
    (a_law_normal : PySem.W.nsIn K mainGlobals "_law_normal" = some (some (.ref f_law_normal)))
    (l_law_normal : K.lookup f_law_normal = some ⟨oc_law_normal, od_law_normal, .func (PySem.W.fnOf "_law_normal" "_law_normal" (defArgs s_law_normal) (defBody s_law_normal) (defScope s_law_normal) .none kV_law_normal dc_law_normal pm_law_normal an_law_normal cd_law_normal ct_law_normal), sl_law_normal⟩)
    (c_law_normal : PySem.W.codeIn K cd_law_normal "_law_normal" = true)
    (k_law_normal : PySem.W.keepIn K (.ref f_law_normal) = true)
    (a_law_turned_piece : PySem.W.nsIn K mainGlobals "_law_turned_piece" = some (some (.ref f_law_turned_piece)))
    (l_law_turned_piece : K.lookup f_law_turned_piece = some ⟨oc_law_turned_piece, od_law_turned_piece, .func (PySem.W.fnOf "_law_turned_piece" "_law_turned_piece" (defArgs s_law_turned_piece) (defBody s_law_turned_piece) (defScope s_law_turned_piece) .none kV_law_turned_piece dc_law_turned_piece pm_law_turned_piece an_law_turned_piece cd_law_turned_piece ct_law_turned_piece), sl_law_turned_piece⟩)
    (c_law_turned_piece : PySem.W.codeIn K cd_law_turned_piece "_law_turned_piece" = true)
    (k_law_turned_piece : PySem.W.keepIn K (.ref f_law_turned_piece) = true)
    (a_law_is_vector : PySem.W.nsIn K mainGlobals "_law_is_vector" = some (some (.ref f_law_is_vector)))
    (l_law_is_vector : K.lookup f_law_is_vector = some ⟨oc_law_is_vector, od_law_is_vector, .func (PySem.W.fnOf "_law_is_vector" "_law_is_vector" (defArgs s_law_is_vector) (defBody s_law_is_vector) (defScope s_law_is_vector) .none kV_law_is_vector dc_law_is_vector pm_law_is_vector an_law_is_vector cd_law_is_vector ct_law_is_vector), sl_law_is_vector⟩)
    (c_law_is_vector : PySem.W.codeIn K cd_law_is_vector "_law_is_vector" = true)
    (k_law_is_vector : PySem.W.keepIn K (.ref f_law_is_vector) = true)
    (a_law_taken : PySem.W.nsIn K mainGlobals "_law_taken" = some (some (.ref f_law_taken)))
    (l_law_taken : K.lookup f_law_taken = some ⟨oc_law_taken, od_law_taken, .func (PySem.W.fnOf "_law_taken" "_law_taken" (defArgs s_law_taken) (defBody s_law_taken) (defScope s_law_taken) .none kV_law_taken dc_law_taken pm_law_taken an_law_taken cd_law_taken ct_law_taken), sl_law_taken⟩)
    (c_law_taken : PySem.W.codeIn K cd_law_taken "_law_taken" = true)
    (k_law_taken : PySem.W.keepIn K (.ref f_law_taken) = true)
    (a_law_signed : PySem.W.nsIn K mainGlobals "_law_signed" = some (some (.ref f_law_signed)))
    (l_law_signed : K.lookup f_law_signed = some ⟨oc_law_signed, od_law_signed, .func (PySem.W.fnOf "_law_signed" "_law_signed" (defArgs s_law_signed) (defBody s_law_signed) (defScope s_law_signed) .none kV_law_signed dc_law_signed pm_law_signed an_law_signed cd_law_signed ct_law_signed), sl_law_signed⟩)
    (c_law_signed : PySem.W.codeIn K cd_law_signed "_law_signed" = true)
    (k_law_signed : PySem.W.keepIn K (.ref f_law_signed) = true)
    (a_law_pick : PySem.W.nsIn K mainGlobals "_law_pick" = some (some (.ref f_law_pick)))
    (l_law_pick : K.lookup f_law_pick = some ⟨oc_law_pick, od_law_pick, .func (PySem.W.fnOf "_law_pick" "_law_pick" (defArgs s_law_pick) (defBody s_law_pick) (defScope s_law_pick) .none kV_law_pick dc_law_pick pm_law_pick an_law_pick cd_law_pick ct_law_pick), sl_law_pick⟩)
    (c_law_pick : PySem.W.codeIn K cd_law_pick "_law_pick" = true)
    (k_law_pick : PySem.W.keepIn K (.ref f_law_pick) = true)
    (a_law_cells : PySem.W.nsIn K mainGlobals "_law_cells" = some (some (.ref f_law_cells)))
    (l_law_cells : K.lookup f_law_cells = some ⟨oc_law_cells, od_law_cells, .func (PySem.W.fnOf "_law_cells" "_law_cells" (defArgs s_law_cells) (defBody s_law_cells) (defScope s_law_cells) .none kV_law_cells dc_law_cells pm_law_cells an_law_cells cd_law_cells ct_law_cells), sl_law_cells⟩)
    (c_law_cells : PySem.W.codeIn K cd_law_cells "_law_cells" = true)
    (k_law_cells : PySem.W.keepIn K (.ref f_law_cells) = true)
    (a_law : PySem.W.nsIn K mainGlobals "law" = some (some (.ref f_law)))
    (l_law : K.lookup f_law = some ⟨oc_law, od_law, .func (PySem.W.fnOf "law" "law" (defArgs s_law) (defBody s_law) (defScope s_law) .none kV_law dc_law pm_law an_law cd_law ct_law), sl_law⟩)
    (c_law : PySem.W.codeIn K cd_law "law" = true)
    (k_law : PySem.W.keepIn K (.ref f_law) = true) :
    ∃ fd : FuncData, (∀ (s : Shared) (v : Value), BindsTo s fd ⟨[v], []⟩ [("script", v)]) ∧ ∀ base : Heap, K.In base → base.Ns mainGlobals mg → FnOk l.prog w K mg base (L2.CX l.prog w) 7 fa fd ["script"] (spD K 1 R_law) := by
  have e := hfa.symm.trans (PySem.W.mg_of X G a_law)
  cases e
  have m_isinstance := PySem.W.mg_none_of X G z_isinstance
  have m_int := PySem.W.mg_none_of X G z_int
  have m_bool := PySem.W.mg_none_of X G z_bool
  have m_len := PySem.W.mg_none_of X G z_len
  have m_tuple := PySem.W.mg_none_of X G z_tuple
  have g_FAR : ∃ u, mg "FAR" = some u ∧ RelV (.int 1000000000000000000000000000000000000000000000000000000000000) u := ⟨_, PySem.W.mg_of X G z_FAR, _, rfl⟩
  have m_enumerate := PySem.W.mg_none_of X G z_enumerate
  have m_range := PySem.W.mg_none_of X G z_range
  have m_sorted := PySem.W.mg_none_of X G z_sorted
  have m_max := PySem.W.mg_none_of X G z_max
  have m_min := PySem.W.mg_none_of X G z_min
  have m_any := PySem.W.mg_none_of X G z_any
  have m_list := PySem.W.mg_none_of X G z_list
  have m_str := PySem.W.mg_none_of X G z_str
  have m_dict := PySem.W.mg_none_of X G z_dict
  have m_abs := PySem.W.mg_none_of X G z_abs
  have gx_BadBoard := PySem.W.mg_of X G a_BadBoard
  have gx_Clash := PySem.W.mg_of X G a_Clash
  have gx_BoardError := PySem.W.mg_of X G a_BoardError
  have r_BadBoard : PySem.SupX.SupTxt l.prog K mg "BadBoard" "BadBoard.__init__" "index" "not a board, first wrong item: " C_BadBoard fI_BadBoard := { nm := ⟨by decide +kernel, by decide +kernel, by decide +kernel, by decide +kernel, fun _ _ => rfl, fun _ _ => rfl, by decide +kernel, by decide +kernel, fun _ _ _ _ _ _ _ _ _ _ _ _ _ _ => rfl⟩, gC := gx_BadBoard, cls := ⟨_, _, _, _, _, _, _, _, _, _, _, _, _, _, _, cls_BadBoard, bm_BadBoard⟩, q := q_BadBoard, sa := sa_BadBoard, noN := noN_BadBoard, iC := iC_BadBoard, tC := tC_BadBoard, kC := kC_BadBoard, exC := exC_BadBoard, veC := veC_BadBoard, tyC := tyC_BadBoard, hdC := hdC_BadBoard, ms := ms_BadBoard, si := si_BadBoard, op := op_super, su := su_super, fn := ⟨_, _, _, _, _, _, _, _, _, _, _, _, _, l_BadBoard, c_BadBoard, ⟨_, _, _, _, _, _, cf_BadBoard, vf_BadBoard, fe_BadBoard⟩, ⟨_, _, _, cc_BadBoard_⟩, ev_BadBoard⟩, top := tp_BadBoard, pz := by decide +kernel }
  have r_Clash : Rsr K mg "Clash" C_Clash := ⟨x_Clash, gx_Clash, kC_Clash, exC_Clash, tyC_Clash⟩
  have h_exmC := PySem.W.exm_ref exC_BoardError hdC_BoardError tyC_BoardError sxC
  have h_excC := (⟨gaC, gtC, exC_Clash, hdC_Clash, caC, cn1, ct1, cmC⟩ : ExcC K C_Clash)
  have h_exmB := PySem.W.exm_ref exC_BoardError hdC_BoardError tyC_BoardError sxB
  have h_excB := (⟨gaB, gtB, exC_BadBoard, hdC_BadBoard, caB, cn1, ct1, cmB⟩ : ExcC K C_BadBoard)
  have h_xf := (⟨gaB, gtB, exC_BadBoard, hdC_BadBoard⟩ : XfC K C_BadBoard)
  have h_no := noN_BadBoard
  have F_is_between := fun_mk (st := s_is_between) l_is_between c_is_between k_is_between
  have b_is_between := F_is_between.binds (ps := ["value", "low", "high"]) fun _ _ _ _ _ _ us hl => match us, hl with | [_, _, _], _ => rfl
  have F_check_number := fun_mk (st := s_check_number) l_check_number c_check_number k_check_number
  have b_check_number := F_check_number.binds (ps := ["value", "low", "high"]) fun _ _ _ _ _ _ us hl => match us, hl with | [_, _, _], _ => rfl
  have F_is_move := fun_mk (st := s_is_move) l_is_move c_is_move k_is_move
  have b_is_move := F_is_move.binds (ps := ["value"]) fun _ _ _ _ _ _ us hl => match us, hl with | [_], _ => rfl
  have F_check_move := fun_mk (st := s_check_move) l_check_move c_check_move k_check_move
  have b_check_move := F_check_move.binds (ps := ["move"]) fun _ _ _ _ _ _ us hl => match us, hl with | [_], _ => rfl
  have F_is_cell := fun_mk (st := s_is_cell) l_is_cell c_is_cell k_is_cell
  have b_is_cell := F_is_cell.binds (ps := ["value"]) fun _ _ _ _ _ _ us hl => match us, hl with | [_], _ => rfl
  have F_check_board := fun_mk (st := s_check_board) l_check_board c_check_board k_check_board
  have b_check_board := F_check_board.binds (ps := ["board"]) fun _ _ _ _ _ _ us hl => match us, hl with | [_], _ => rfl
  have F_states_by_place := fun_mk (st := s_states_by_place) l_states_by_place c_states_by_place k_states_by_place
  have b_states_by_place := F_states_by_place.binds (ps := ["board"]) fun _ _ _ _ _ _ us hl => match us, hl with | [_], _ => rfl
  have F_moved := fun_mk (st := s_moved) l_moved c_moved k_moved
  have b_moved := F_moved.binds (ps := ["board", "move"]) fun _ _ _ _ _ _ us hl => match us, hl with | [_, _], _ => rfl
  have F_turned_cell := fun_mk (st := s_turned_cell) l_turned_cell c_turned_cell k_turned_cell
  have b_turned_cell := F_turned_cell.binds (ps := ["cell", "turn"]) fun _ _ _ _ _ _ us hl => match us, hl with | [_, _], _ => rfl
  have F_turned_board := fun_mk (st := s_turned_board) l_turned_board c_turned_board k_turned_board
  have b_turned_board := F_turned_board.binds (ps := ["board", "turn"]) fun _ _ _ _ _ _ us hl => match us, hl with | [_, _], _ => rfl
  have F_corners := fun_mk (st := s_corners) l_corners c_corners k_corners
  have b_corners := F_corners.binds (ps := ["board"]) fun _ _ _ _ _ _ us hl => match us, hl with | [_], _ => rfl
  have F_made_normal := fun_mk (st := s_made_normal) l_made_normal c_made_normal k_made_normal
  have b_made_normal := F_made_normal.binds (ps := ["board"]) fun _ _ _ _ _ _ us hl => match us, hl with | [_], _ => rfl
  have F_state_at := fun_mk (st := s_state_at) l_state_at c_state_at k_state_at
  have b_state_at := F_state_at.binds (ps := ["board", "place"]) fun _ _ _ _ _ _ us hl => match us, hl with | [_, _], _ => rfl
  have F_shifted := fun_mk (st := s_shifted) l_shifted c_shifted k_shifted
  have b_shifted := F_shifted.binds (ps := ["board", "move"]) fun _ _ _ _ _ _ us hl => match us, hl with | [_, _], _ => rfl
  have F_turned := fun_mk (st := s_turned) l_turned c_turned k_turned
  have b_turned := F_turned.binds (ps := ["board", "turn"]) fun _ _ _ _ _ _ us hl => match us, hl with | [_, _], _ => rfl
  have F_joined := fun_mk (st := s_joined) l_joined c_joined k_joined
  have b_joined := F_joined.binds (ps := ["board", "other"]) fun _ _ _ _ _ _ us hl => match us, hl with | [_, _], _ => rfl
  have F_box := fun_mk (st := s_box) l_box c_box k_box
  have b_box := F_box.binds (ps := ["board"]) fun _ _ _ _ _ _ us hl => match us, hl with | [_], _ => rfl
  have F_living := fun_mk (st := s_living) l_living c_living k_living
  have b_living := F_living.binds (ps := ["board"]) fun _ _ _ _ _ _ us hl => match us, hl with | [_], _ => rfl
  have F_normal := fun_mk (st := s_normal) l_normal c_normal k_normal
  have b_normal := F_normal.binds (ps := ["board"]) fun _ _ _ _ _ _ us hl => match us, hl with | [_], _ => rfl
  have F_law_alike := fun_mk (st := s_law_alike) l_law_alike c_law_alike k_law_alike
  have b_law_alike := F_law_alike.binds (ps := ["found", "due"]) fun _ _ _ _ _ _ us hl => match us, hl with | [_, _], _ => rfl
  have F_law_moved := fun_mk (st := s_law_moved) l_law_moved c_law_moved k_law_moved
  have b_law_moved := F_law_moved.binds (ps := ["board", "x", "y"]) fun _ _ _ _ _ _ us hl => match us, hl with | [_, _, _], _ => rfl
  have F_law_box := fun_mk (st := s_law_box) l_law_box c_law_box k_law_box
  have b_law_box := F_law_box.binds (ps := ["board"]) fun _ _ _ _ _ _ us hl => match us, hl with | [_], _ => rfl
  have F_law_normal := fun_mk (st := s_law_normal) l_law_normal c_law_normal k_law_normal
  have b_law_normal := F_law_normal.binds (ps := ["board"]) fun _ _ _ _ _ _ us hl => match us, hl with | [_], _ => rfl
  have F_law_turned_piece := fun_mk (st := s_law_turned_piece) l_law_turned_piece c_law_turned_piece k_law_turned_piece
  have b_law_turned_piece := F_law_turned_piece.binds (ps := ["piece", "turn"]) fun _ _ _ _ _ _ us hl => match us, hl with | [_, _], _ => rfl
  have F_law_is_vector := fun_mk (st := s_law_is_vector) l_law_is_vector c_law_is_vector k_law_is_vector
  have b_law_is_vector := F_law_is_vector.binds (ps := ["value", "size"]) fun _ _ _ _ _ _ us hl => match us, hl with | [_, _], _ => rfl
  have F_law_taken := fun_mk (st := s_law_taken) l_law_taken c_law_taken k_law_taken
  have b_law_taken := F_law_taken.binds (ps := ["row", "many"]) fun _ _ _ _ _ _ us hl => match us, hl with | [_, _], _ => rfl
  have F_law_signed := fun_mk (st := s_law_signed) l_law_signed c_law_signed k_law_signed
  have b_law_signed := F_law_signed.binds (ps := ["row", "most"]) fun _ _ _ _ _ _ us hl => match us, hl with | [_, _], _ => rfl
  have F_law_pick := fun_mk (st := s_law_pick) l_law_pick c_law_pick k_law_pick
  have b_law_pick := F_law_pick.binds (ps := ["row", "things"]) fun _ _ _ _ _ _ us hl => match us, hl with | [_, _], _ => rfl
  have F_law_cells := fun_mk (st := s_law_cells) l_law_cells c_law_cells k_law_cells
  have b_law_cells := F_law_cells.binds (ps := ["row", "wide", "high", "states"]) fun _ _ _ _ _ _ us hl => match us, hl with | [_, _, _, _], _ => rfl
  have F_law := fun_mk (st := s_law) l_law c_law k_law
  refine ⟨PySem.W.fnOf "law" "law" (defArgs s_law) (defBody s_law) (defScope s_law) .none kV_law dc_law pm_law an_law cd_law ct_law, fun s v => .of_eq rfl, fun base _ _ => ?_⟩
  have c_is_between : Cal l.prog w K mg base 1 "is_between" (spD K 3 R_between) := ⟨_, _, _, ok_is_between F_is_between (m_isinstance := m_isinstance) (m_int := m_int) (m_bool := m_bool), PySem.W.mg_of X G a_is_between, k_is_between, b_is_between⟩
  have c_check_number : Cal l.prog w K mg base 2 "check_number" (spD K 3 R_chknum) := ⟨_, _, _, ok_check_number F_check_number (c_is_between := c_is_between), PySem.W.mg_of X G a_check_number, k_check_number, b_check_number⟩
  have c_is_move : Cal l.prog w K mg base 2 "is_move" (spD K 1 R_ismove) := ⟨_, _, _, ok_is_move F_is_move (m_len := m_len) (m_isinstance := m_isinstance) (m_tuple := m_tuple) (g_FAR := g_FAR) (c_is_between := c_is_between), PySem.W.mg_of X G a_is_move, k_is_move, b_is_move⟩
  have c_check_move : Cal l.prog w K mg base 3 "check_move" (spD K 1 R_chkmove) := ⟨_, _, _, ok_check_move F_check_move (c_is_move := c_is_move), PySem.W.mg_of X G a_check_move, k_check_move, b_check_move⟩
  have c__is_cell : Cal l.prog w K mg base 3 "_is_cell" (spD K 1 R_isCell) := ⟨_, _, _, ok_is_cell F_is_cell (m_len := m_len) (m_isinstance := m_isinstance) (m_tuple := m_tuple) (c_is_between := c_is_between) (c_is_move := c_is_move), PySem.W.mg_of X G a_is_cell, k_is_cell, b_is_cell⟩
  have c_check_board : Cal l.prog w K mg base 4 "check_board" (spD K 1 (R_chk C_BadBoard)) := ⟨_, _, _, ok_check_board F_check_board (m_isinstance := m_isinstance) (m_tuple := m_tuple) (m_enumerate := m_enumerate) (r_BadBoard := r_BadBoard) (c__is_cell := c__is_cell), PySem.W.mg_of X G a_check_board, k_check_board, b_check_board⟩
  have c_states_by_place : Cal l.prog w K mg base 1 "states_by_place" (spE K 1 R_sbp) := ⟨_, _, _, ok_states_by_place F_states_by_place , PySem.W.mg_of X G a_states_by_place, k_states_by_place, b_states_by_place⟩
  have c_moved : Cal l.prog w K mg base 1 "moved" (spD K 2 R_moved) := ⟨_, _, _, ok_moved F_moved (m_tuple := m_tuple), PySem.W.mg_of X G a_moved, k_moved, b_moved⟩
  have c__turned_cell : Cal l.prog w K mg base 1 "_turned_cell" (spD K 2 R_turnedC) := ⟨_, _, _, ok_turned_cell F_turned_cell (m_range := m_range), PySem.W.mg_of X G a_turned_cell, k_turned_cell, b_turned_cell⟩
  have c_turned_board : Cal l.prog w K mg base 2 "turned_board" (spD K 2 R_turnedB) := ⟨_, _, _, ok_turned_board F_turned_board (m_tuple := m_tuple) (m_sorted := m_sorted) (c__turned_cell := c__turned_cell), PySem.W.mg_of X G a_turned_board, k_turned_board, b_turned_board⟩
  have c_corners : Cal l.prog w K mg base 1 "corners" (spD K 1 R_corners) := ⟨_, _, _, ok_corners F_corners (m_max := m_max) (m_min := m_min), PySem.W.mg_of X G a_corners, k_corners, b_corners⟩
  have c_made_normal : Cal l.prog w K mg base 2 "made_normal" (spD K 1 R_norm) := ⟨_, _, _, ok_made_normal F_made_normal (c_corners := c_corners) (c_moved := c_moved), PySem.W.mg_of X G a_made_normal, k_made_normal, b_made_normal⟩
  have c_state_at : Cal l.prog w K mg base 5 "state_at" (spD K 2 R_stateAt) := ⟨_, _, _, ok_state_at F_state_at (c_check_board := c_check_board) (c_check_move := c_check_move) (c_states_by_place := c_states_by_place), PySem.W.mg_of X G a_state_at, k_state_at, b_state_at⟩
  have c_shifted : Cal l.prog w K mg base 5 "shifted" (spD K 2 R_shifted) := ⟨_, _, _, ok_shifted F_shifted (c_check_board := c_check_board) (c_check_move := c_check_move) (c_moved := c_moved), PySem.W.mg_of X G a_shifted, k_shifted, b_shifted⟩
  have c_turned : Cal l.prog w K mg base 5 "turned" (spD K 2 R_turned) := ⟨_, _, _, ok_turned F_turned (c_check_board := c_check_board) (c_check_number := c_check_number) (c_turned_board := c_turned_board), PySem.W.mg_of X G a_turned, k_turned, b_turned⟩
  have c_joined : Cal l.prog w K mg base 5 "joined" (spD K 2 (R_joined C_Clash)) := ⟨_, _, _, ok_joined F_joined (m_any := m_any) (r_Clash := r_Clash) (m_tuple := m_tuple) (m_sorted := m_sorted) (c_check_board := c_check_board) (c_states_by_place := c_states_by_place), PySem.W.mg_of X G a_joined, k_joined, b_joined⟩
  have c_box : Cal l.prog w K mg base 5 "box" (spD K 1 (R_box C_BadBoard)) := ⟨_, _, _, ok_box F_box (c_check_board := c_check_board) (c_corners := c_corners), PySem.W.mg_of X G a_box, k_box, b_box⟩
  have c_living : Cal l.prog w K mg base 5 "living" (spD K 1 R_living) := ⟨_, _, _, ok_living F_living (m_len := m_len) (c_check_board := c_check_board), PySem.W.mg_of X G a_living, k_living, b_living⟩
  have c_normal : Cal l.prog w K mg base 5 "normal" (spD K 1 R_normal) := ⟨_, _, _, ok_normal F_normal (c_check_board := c_check_board) (c_made_normal := c_made_normal), PySem.W.mg_of X G a_normal, k_normal, b_normal⟩
  have z0_law_alike : Cal l.prog w K mg base 1 "_law_alike" (spD K 2 (R_alike 0)) := ⟨_, _, _, alike_vac F_law_alike, PySem.W.mg_of X G a_law_alike, k_law_alike, b_law_alike⟩
  have z1_law_alike : Cal l.prog w K mg base 2 "_law_alike" (spD K 2 (R_alike 1)) := ⟨_, _, _, ok_law_alike (j := 1) (n := 0) F_law_alike (m_isinstance := m_isinstance) (m_list := m_list) (m_tuple := m_tuple) (m_len := m_len) (m_range := m_range) (m_str := m_str) (m_bool := m_bool) (m_int := m_int) (c__law_alike := z0_law_alike), PySem.W.mg_of X G a_law_alike, k_law_alike, b_law_alike⟩
  have z2_law_alike : Cal l.prog w K mg base 3 "_law_alike" (spD K 2 (R_alike 2)) := ⟨_, _, _, ok_law_alike (j := 2) (n := 1) F_law_alike (m_isinstance := m_isinstance) (m_list := m_list) (m_tuple := m_tuple) (m_len := m_len) (m_range := m_range) (m_str := m_str) (m_bool := m_bool) (m_int := m_int) (c__law_alike := z1_law_alike), PySem.W.mg_of X G a_law_alike, k_law_alike, b_law_alike⟩
  have z3_law_alike : Cal l.prog w K mg base 4 "_law_alike" (spD K 2 (R_alike 3)) := ⟨_, _, _, ok_law_alike (j := 3) (n := 2) F_law_alike (m_isinstance := m_isinstance) (m_list := m_list) (m_tuple := m_tuple) (m_len := m_len) (m_range := m_range) (m_str := m_str) (m_bool := m_bool) (m_int := m_int) (c__law_alike := z2_law_alike), PySem.W.mg_of X G a_law_alike, k_law_alike, b_law_alike⟩
  have z4_law_alike : Cal l.prog w K mg base 5 "_law_alike" (spD K 2 (R_alike 4)) := ⟨_, _, _, ok_law_alike (j := 4) (n := 3) F_law_alike (m_isinstance := m_isinstance) (m_list := m_list) (m_tuple := m_tuple) (m_len := m_len) (m_range := m_range) (m_str := m_str) (m_bool := m_bool) (m_int := m_int) (c__law_alike := z3_law_alike), PySem.W.mg_of X G a_law_alike, k_law_alike, b_law_alike⟩
  have z5_law_alike : Cal l.prog w K mg base 6 "_law_alike" (spD K 2 (R_alike 5)) := ⟨_, _, _, ok_law_alike (j := 5) (n := 4) F_law_alike (m_isinstance := m_isinstance) (m_list := m_list) (m_tuple := m_tuple) (m_len := m_len) (m_range := m_range) (m_str := m_str) (m_bool := m_bool) (m_int := m_int) (c__law_alike := z4_law_alike), PySem.W.mg_of X G a_law_alike, k_law_alike, b_law_alike⟩
  have c__law_alike := z5_law_alike
  have c__law_moved : Cal l.prog w K mg base 1 "_law_moved" (spD K 3 R_lmoved) := ⟨_, _, _, ok_law_moved F_law_moved (m_tuple := m_tuple), PySem.W.mg_of X G a_law_moved, k_law_moved, b_law_moved⟩
  have c__law_box : Cal l.prog w K mg base 1 "_law_box" (spD K 1 R_lbox) := ⟨_, _, _, ok_law_box F_law_box (m_max := m_max) (m_min := m_min), PySem.W.mg_of X G a_law_box, k_law_box, b_law_box⟩
  have c__law_normal : Cal l.prog w K mg base 2 "_law_normal" (spD K 1 R_lnorm) := ⟨_, _, _, ok_law_normal F_law_normal (c__law_box := c__law_box) (c__law_moved := c__law_moved), PySem.W.mg_of X G a_law_normal, k_law_normal, b_law_normal⟩
  have c__law_turned_piece : Cal l.prog w K mg base 1 "_law_turned_piece" (spD K 2 R_lturned) := ⟨_, _, _, ok_law_turned_piece F_law_turned_piece (m_tuple := m_tuple) (m_range := m_range) (m_int := m_int) (m_sorted := m_sorted), PySem.W.mg_of X G a_law_turned_piece, k_law_turned_piece, b_law_turned_piece⟩
  have c__law_is_vector : Cal l.prog w K mg base 1 "_law_is_vector" (spD K 2 R_vec) := ⟨_, _, _, ok_law_is_vector F_law_is_vector (m_len := m_len) (m_isinstance := m_isinstance) (m_tuple := m_tuple) (m_bool := m_bool) (m_int := m_int), PySem.W.mg_of X G a_law_is_vector, k_law_is_vector, b_law_is_vector⟩
  have c__law_taken : Cal l.prog w K mg base 1 "_law_taken" (spC K 1 R_taken) := ⟨_, _, _, ok_law_taken F_law_taken (m_int := m_int) (m_len := m_len), PySem.W.mg_of X G a_law_taken, k_law_taken, b_law_taken⟩
  have c__law_signed : Cal l.prog w K mg base 2 "_law_signed" (spC K 1 R_signed) := ⟨_, _, _, ok_law_signed F_law_signed (c__law_taken := c__law_taken), PySem.W.mg_of X G a_law_signed, k_law_signed, b_law_signed⟩
  have c__law_pick : Cal l.prog w K mg base 2 "_law_pick" (spC K 1 R_pick) := ⟨_, _, _, ok_law_pick F_law_pick (m_len := m_len) (c__law_taken := c__law_taken), PySem.W.mg_of X G a_law_pick, k_law_pick, b_law_pick⟩
  have c__law_cells : Cal l.prog w K mg base 2 "_law_cells" (spC K 3 R_cells) := ⟨_, _, _, ok_law_cells F_law_cells (m_range := m_range) (m_tuple := m_tuple) (c__law_taken := c__law_taken), PySem.W.mg_of X G a_law_cells, k_law_cells, b_law_cells⟩
  exact ok_law F_law (m_dict := m_dict) (m_len := m_len) (gx_BoardError := gx_BoardError) (m_isinstance := m_isinstance) (gx_Clash := gx_Clash) (m_tuple := m_tuple) (m_sorted := m_sorted) (m_list := m_list) (m_range := m_range) (m_abs := m_abs) (gx_BadBoard := gx_BadBoard) (c__law_signed := c__law_signed) (c__law_pick := c__law_pick) (c__law_moved := c__law_moved) (c__law_cells := c__law_cells) (c__law_taken := c__law_taken) (c__law_alike := c__law_alike) (c__law_normal := c__law_normal) (c__law_box := c__law_box) (c_normal := c_normal) (c_box := c_box) (c_state_at := c_state_at) (c_shifted := c_shifted) (c_living := c_living) (c__law_turned_piece := c__law_turned_piece) (c_turned := c_turned) (c_joined := c_joined) (c__law_is_vector := c__law_is_vector) (h_exmC := h_exmC) (h_excC := h_excC) (h_exmB := h_exmB) (h_excB := h_excB) (h_xf := h_xf) (h_no := h_no)
theorem dpa_ints {K : Fg} {G : Hp} : ∀ ns : List Int, DzAll K G (ns.map V.int) (ns.map PyData.int)
  | [] => .nil
  | n :: ns => .cons (Dz.int n) (dpa_ints ns)
theorem walk {l : PySem.W.OpenLaw} {q : Program} {loose : List Str} {XP : (Str → Option Value) → Heap → Prop} {YP : World → Heap → Prop} {d : DefRec} {K : Params → PySem.W.Frag} (hn : l.most = some 63) (hdf : d.params.defaults = [])
    (hY : ∀ (w : World) (h : Heap), YP w h → (K w.params).In h)
    (F : ∀ (w : World) (mg : Str → Option Value) (fa : Addr) (h : Heap), (K w.params).In h → h.Ns mainGlobals mg → mg d.name = some (.ref fa) →
      ∃ fd : FuncData, (∀ (s : Shared) (u : Value), BindsTo s fd ⟨[u], []⟩ [("script", u)]) ∧ ∀ base : Heap, (K w.params).In base → base.Ns mainGlobals mg → FnOk l.prog w (K w.params) mg base (L2.CX l.prog w) 7 fa fd ["script"] (spD (K w.params) 1 R_law)) :
    PySem.W.WalkO q loose XP YP l.row.toRowW d [] (fun f vs => PySem.call f vs) :=
  L2.walk_of (n := 63) (k := 7) (x := "script") (CX := fun w => L2.CX l.prog w) (sp := fun w => spD (K w.params) 1 R_law) hn (by decide) hdf ⟨rfl, by decide, by decide⟩ hY F
    (fun w H a ns hl _ hS => ⟨H, [.list (ns.map .int)], .ok (.bool true), fun _ _ z => z, rfl, .cons (.lst hS (dpa_ints ns)) .nil, ⟨ns, rfl, rfl⟩, fun d hd v G' H' _ av => by cases hd; exact dp_bl av, fun x hx => (nomatch hx)⟩)
    fun w H s e s' z => by obtain ⟨_, _, _, _, _, _, _, _, _, _, _, _, z⟩ := z; exact z
end K01
open PySem PySem.W PyProof.Rows in
set_option maxRecDepth 100000 in
set_option maxHeartbeats 0 in
theorem PySem.Challenge.cw_fateboards_k01_whole_boards_holds : PySem.Challenge.rw_fateboards_k01_whole_boards.Holds := by
  w_on; o_law; k_head; (case hw => w_witness2)
  k_fill
  refine K01.walk (l := PySem.Challenge.rw_fateboards_k01_whole_boards) rfl rfl (fun w h Y => PySem.W.kIn_of Y) ?F
  case F =>
    intro w mg fa h KX G hmg
    refine' K01.all_mk KX G hmg ?z_isinstance ?z_int ?z_bool ?z_len ?z_tuple ?z_FAR ?z_enumerate ?z_range ?z_sorted ?z_max ?z_min ?z_any ?z_list ?z_str ?z_dict ?z_abs ?a_BadBoard ?kC_BadBoard ?exC_BadBoard ?tyC_BadBoard ?hdC_BadBoard ?a_Clash ?kC_Clash ?exC_Clash ?tyC_Clash ?hdC_Clash ?a_BoardError ?kC_BoardError ?exC_BoardError ?tyC_BoardError ?hdC_BoardError ?q_BadBoard ?cls_BadBoard ?bm_BadBoard ?sa_BadBoard ?noN_BadBoard ?iC_BadBoard ?tC_BadBoard ?veC_BadBoard ?ms_BadBoard ?si_BadBoard ?op_super ?su_super ?l_BadBoard ?c_BadBoard ?cf_BadBoard ?vf_BadBoard ?fe_BadBoard ?cc_BadBoard_ ?ev_BadBoard ?tp_BadBoard ?x_Clash ?sxC ?gaC ?gtC ?caC ?cmC ?sxB ?gaB ?gtB ?caB ?cmB ?cn1 ?ct1 ?a_is_between ?l_is_between ?c_is_between ?k_is_between ?a_check_number ?l_check_number ?c_check_number ?k_check_number ?a_is_move ?l_is_move ?c_is_move ?k_is_move ?a_check_move ?l_check_move ?c_check_move ?k_check_move ?a_is_cell ?l_is_cell ?c_is_cell ?k_is_cell ?a_check_board ?l_check_board ?c_check_board ?k_check_board ?a_states_by_place ?l_states_by_place ?c_states_by_place ?k_states_by_place ?a_moved ?l_moved ?c_moved ?k_moved ?a_turned_cell ?l_turned_cell ?c_turned_cell ?k_turned_cell ?a_turned_board ?l_turned_board ?c_turned_board ?k_turned_board ?a_corners ?l_corners ?c_corners ?k_corners ?a_made_normal ?l_made_normal ?c_made_normal ?k_made_normal ?a_state_at ?l_state_at ?c_state_at ?k_state_at ?a_shifted ?l_shifted ?c_shifted ?k_shifted ?a_turned ?l_turned ?c_turned ?k_turned ?a_joined ?l_joined ?c_joined ?k_joined ?a_box ?l_box ?c_box ?k_box ?a_living ?l_living ?c_living ?k_living ?a_normal ?l_normal ?c_normal ?k_normal ?a_law_alike ?l_law_alike ?c_law_alike ?k_law_alike ?a_law_moved ?l_law_moved ?c_law_moved ?k_law_moved ?a_law_box ?l_law_box ?c_law_box ?k_law_box ?a_law_normal ?l_law_normal ?c_law_normal ?k_law_normal ?a_law_turned_piece ?l_law_turned_piece ?c_law_turned_piece ?k_law_turned_piece ?a_law_is_vector ?l_law_is_vector ?c_law_is_vector ?k_law_is_vector ?a_law_taken ?l_law_taken ?c_law_taken ?k_law_taken ?a_law_signed ?l_law_signed ?c_law_signed ?k_law_signed ?a_law_pick ?l_law_pick ?c_law_pick ?k_law_pick ?a_law_cells ?l_law_cells ?c_law_cells ?k_law_cells ?a_law ?l_law ?c_law ?k_law
    (case z_isinstance => k_is)
    (case z_int => k_is)
    (case z_bool => k_is)
    (case z_len => k_is)
    (case z_tuple => k_is)
    (case z_FAR => k_is)
    (case z_enumerate => k_is)
    (case z_range => k_is)
    (case z_sorted => k_is)
    (case z_max => k_is)
    (case z_min => k_is)
    (case z_any => k_is)
    (case z_list => k_is)
    (case z_str => k_is)
    (case z_dict => k_is)
    (case z_abs => k_is)
    (case a_BadBoard => k_is)
    (case kC_BadBoard => k_is)
    (case exC_BadBoard => k_is)
    (case tyC_BadBoard => k_is)
    (case hdC_BadBoard => k_is)
    (case a_Clash => k_is)
    (case kC_Clash => k_is)
    (case exC_Clash => k_is)
    (case tyC_Clash => k_is)
    (case hdC_Clash => k_is)
    (case a_BoardError => k_is)
    (case kC_BoardError => k_is)
    (case exC_BoardError => k_is)
    (case tyC_BoardError => k_is)
    (case hdC_BoardError => k_is)
    (case q_BadBoard => first | kx_is | k_is)
    (case cls_BadBoard => k_is)
    (case bm_BadBoard => first | rfl | decide +kernel | k_is)
    (case sa_BadBoard => k_is)
    (case noN_BadBoard => k_is)
    (case iC_BadBoard => k_is)
    (case tC_BadBoard => k_is)
    (case veC_BadBoard => k_is)
    (case ms_BadBoard => k_is)
    (case si_BadBoard => first | ks_is | k_is)
    (case op_super => k_is)
    (case su_super => k_is)
    (case l_BadBoard => k_is)
    (case c_BadBoard => k_is)
    (case cf_BadBoard => k_is)
    (case vf_BadBoard => first | rfl | decide +kernel | k_is)
    (case fe_BadBoard => first | rfl | decide +kernel | k_is)
    (case cc_BadBoard_ => k_is)
    (case ev_BadBoard => exact ⟨_, fun env => rfl⟩)
    (case tp_BadBoard => first | rfl | decide +kernel | k_is)
    (case x_Clash => first | k_exc | kx_is)
    (case sxC => k_is)
    (case gaC => k_is)
    (case gtC => k_is)
    (case caC => k_is)
    (case cmC => k_is)
    (case sxB => k_is)
    (case gaB => k_is)
    (case gtB => k_is)
    (case caB => k_is)
    (case cmB => k_is)
    (case cn1 => k_is)
    (case ct1 => k_is)
    (case a_is_between => k_is)
    (case l_is_between => k_is)
    (case c_is_between => k_is)
    (case k_is_between => k_is)
    (case a_check_number => k_is)
    (case l_check_number => k_is)
    (case c_check_number => k_is)
    (case k_check_number => k_is)
    (case a_is_move => k_is)
    (case l_is_move => k_is)
    (case c_is_move => k_is)
    (case k_is_move => k_is)
    (case a_check_move => k_is)
    (case l_check_move => k_is)
    (case c_check_move => k_is)
    (case k_check_move => k_is)
    (case a_is_cell => k_is)
    (case l_is_cell => k_is)
    (case c_is_cell => k_is)
    (case k_is_cell => k_is)
    (case a_check_board => k_is)
    (case l_check_board => k_is)
    (case c_check_board => k_is)
    (case k_check_board => k_is)
    (case a_states_by_place => k_is)
    (case l_states_by_place => k_is)
    (case c_states_by_place => k_is)
    (case k_states_by_place => k_is)
    (case a_moved => k_is)
    (case l_moved => k_is)
    (case c_moved => k_is)
    (case k_moved => k_is)
    (case a_turned_cell => k_is)
    (case l_turned_cell => k_is)
    (case c_turned_cell => k_is)
    (case k_turned_cell => k_is)
    (case a_turned_board => k_is)
    (case l_turned_board => k_is)
    (case c_turned_board => k_is)
    (case k_turned_board => k_is)
    (case a_corners => k_is)
    (case l_corners => k_is)
    (case c_corners => k_is)
    (case k_corners => k_is)
    (case a_made_normal => k_is)
    (case l_made_normal => k_is)
    (case c_made_normal => k_is)
    (case k_made_normal => k_is)
    (case a_state_at => k_is)
    (case l_state_at => k_is)
    (case c_state_at => k_is)
    (case k_state_at => k_is)
    (case a_shifted => k_is)
    (case l_shifted => k_is)
    (case c_shifted => k_is)
    (case k_shifted => k_is)
    (case a_turned => k_is)
    (case l_turned => k_is)
    (case c_turned => k_is)
    (case k_turned => k_is)
    (case a_joined => k_is)
    (case l_joined => k_is)
    (case c_joined => k_is)
    (case k_joined => k_is)
    (case a_box => k_is)
    (case l_box => k_is)
    (case c_box => k_is)
    (case k_box => k_is)
    (case a_living => k_is)
    (case l_living => k_is)
    (case c_living => k_is)
    (case k_living => k_is)
    (case a_normal => k_is)
    (case l_normal => k_is)
    (case c_normal => k_is)
    (case k_normal => k_is)
    (case a_law_alike => k_is)
    (case l_law_alike => k_is)
    (case c_law_alike => k_is)
    (case k_law_alike => k_is)
    (case a_law_moved => k_is)
    (case l_law_moved => k_is)
    (case c_law_moved => k_is)
    (case k_law_moved => k_is)
    (case a_law_box => k_is)
    (case l_law_box => k_is)
    (case c_law_box => k_is)
    (case k_law_box => k_is)
    (case a_law_normal => k_is)
    (case l_law_normal => k_is)
    (case c_law_normal => k_is)
    (case k_law_normal => k_is)
    (case a_law_turned_piece => k_is)
    (case l_law_turned_piece => k_is)
    (case c_law_turned_piece => k_is)
    (case k_law_turned_piece => k_is)
    (case a_law_is_vector => k_is)
    (case l_law_is_vector => k_is)
    (case c_law_is_vector => k_is)
    (case k_law_is_vector => k_is)
    (case a_law_taken => k_is)
    (case l_law_taken => k_is)
    (case c_law_taken => k_is)
    (case k_law_taken => k_is)
    (case a_law_signed => k_is)
    (case l_law_signed => k_is)
    (case c_law_signed => k_is)
    (case k_law_signed => k_is)
    (case a_law_pick => k_is)
    (case l_law_pick => k_is)
    (case c_law_pick => k_is)
    (case k_law_pick => k_is)
    (case a_law_cells => k_is)
    (case l_law_cells => k_is)
    (case c_law_cells => k_is)
    (case k_law_cells => k_is)
    (case a_law => k_is)
    (case l_law => k_is)
    (case c_law => k_is)
    (case k_law => k_is)
