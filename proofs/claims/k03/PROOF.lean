import PyProof.Rows.All
import Wide.All
import OpenK.AllK
import Wide.FinOn
import HandS.ForMost
import HandS.Deep
import HandS.Evl
import HandS.IsInst
import HandS.TupAny
import HandS.FStr
import HandS.Codes
import HandS.WordsExc
import HandS.ExcOwn
import HandS.TupLe
import HandS.Wide
import HandS.RaiseMore
import HandS.Style
import KE.KExcSuper
import HandS.ForExc
import KE.KExcIs
import HandS.ExcIs
import HandS.ExcField
import HandS.Gcd
import KE.GoesEnum
import HandS.DictComp
import KE.KDictPairs
import KE.KSortTupUse
import PyProof.FString3
import PyProof.Rows.StrIntSpec
import PyProof.StrLawsFrom
import PyProof.Rows.RegReprOcc
import HandS.WideBits
import HandS.StrMore
import KE.OsArith
import HandS.Iter
import HandS.TryOnly
import HandS.DictTup
import KE.KDictCopyH
import KE.KDictSum
import HandS.TupMul
import KE.DataMinMax
import PyProof.P3Eq
import KE.DatumOrd
import KE.SortData
import HandS.TupSets
import PySem.Challenge.RW_fateboards_k03_across_boards_apart
set_option Elab.async false
set_option linter.all false
set_option maxRecDepth 100000
set_option maxHeartbeats 4000000
set_option autoImplicit false
namespace Z
open PySem PySem.Spec PyProof.Rows L2
open Evl (Ex)

/-! ### data in a growing frozen part G of the heap H; own cells beside it -/
/-- a tuple that is told: as it was made, or a constant row that begins with a text -/
def TupR (K : PySem.W.Frag) (G : Hp) (a : Addr) (xs : List V) : Prop := G a = some (.tup xs) ∨ (SqT K G a xs ∧ ∃ s r, xs = V.str s :: r)
/-! data that stands in G: of its tuples it is known how they were made (so they can be keys) -/
mutual
inductive Dz (K : PySem.W.Frag) (G : Hp) : V → PyData → Prop
  | int (i : Int) : Dz K G (.int i) (.int i)
  | str (x : Str) : Dz K G (.str x) (.str x)
  | bl (b : Bool) : Dz K G (.bl b) (.bool b)
  | non : Dz K G .non .none
  | tup {p : Addr} {vs : List V} {zs : List PyData} (at_ : TupR K G p vs) (all : DzAll K G vs zs) : Dz K G (.ref p) (.tuple zs)
  | lst {p : Addr} {vs : List V} {zs : List PyData} (at_ : SqL K G p vs) (all : DzAll K G vs zs) : Dz K G (.ref p) (.list zs)
inductive DzAll (K : PySem.W.Frag) (G : Hp) : List V → List PyData → Prop
  | nil : DzAll K G [] []
  | cons {u : V} {us : List V} {z : PyData} {zs : List PyData} (hd : Dz K G u z) (tl : DzAll K G us zs) : DzAll K G (u :: us) (z :: zs)
end
theorem TupR.sq {K : PySem.W.Frag} {G : Hp} {a : Addr} {xs : List V} (h : TupR K G a xs) : SqT K G a xs := h.elim Evl.st_of And.left
theorem TupR.mono {K : PySem.W.Frag} {G G' : Hp} {a : Addr} {xs : List V} (e : Ex G G') (h : TupR K G a xs) : TupR K G' a xs := h.elim (fun q => .inl (e _ _ q)) fun q => .inr ⟨Evl.ex_t e q.1, q.2⟩
/-- what is raised, as data: its class, its fields -/
structure XD where
  cls : Addr
  fs : List (Str × PyData)
/-- d | c an own cell | e a caught exception, its class, its dict, what it is | f a dict that nobody writes any more -/
inductive ZV where
  | d (x : PyData)
  | c (p : Addr)
  | f (kvs : List (List Key × PyData))
  | e (a : Addr) (cls : Value) (dd : Option Addr) (x : XD)
abbrev Fg := PySem.W.Frag
abbrev Zs : Type := List (Option ZV)
def XAt (K : Fg) (G : Hp) (cls : Value) (d : Option Addr) (x : XD) : Prop := cls = .ref x.cls ∧ match x.fs with
  | [] => d = none
  | f :: fs => ∃ dd fv, d = some dd ∧ G dd = some (.xd fv) ∧ Paired (fun (a : Str × V) (b : Str × PyData) => a.1 = b.1 ∧ Dz K G a.2 b.2) fv (f :: fs)
def ZV.at (K : Fg) (G : Hp) (v : V) : ZV → Prop
  | .d x => Dz K G v x
  | .c p => v = .ref p
  | .f kvs => ∃ p ws, v = .ref p ∧ G p = some (.dT ws) ∧ Paired (fun (a : List Key × V) (b : List Key × PyData) => a.1 = b.1 ∧ Dz K G a.2 b.2) ws kvs
  | .e a cls dd x => v = .ref a ∧ XAt K G cls dd x
abbrev ZAll (K : Fg) (G : Hp) : List V → List ZV → Prop := Paired (fun v z => ZV.at K G v z)
inductive CD where
  | lst (xs : List PyData)
  | obj (C : Addr) (fs : List (Str × ZV))
  | dT (kvs : List (List Key × PyData))
  | dK (kvs : List (Key × PyData))
def CD.at (K : Fg) (G H : Hp) (p : Addr) : CD → Prop
  | .lst xs => ∃ ws, H p = some (.lst ws) ∧ DzAll K G ws xs
  | .obj C fs => ∃ dx fv, H p = some (.ins C dx fv) ∧ H dx = some (.own p) ∧ G dx = none ∧ Paired (fun (a : Str × V) (b : Str × ZV) => a.1 = b.1 ∧ ZV.at K G a.2 b.2) fv fs
  | .dT kvs => ∃ ws, H p = some (.dT ws) ∧ Paired (fun (a : List Key × V) (b : List Key × PyData) => a.1 = b.1 ∧ Dz K G a.2 b.2) ws kvs
  | .dK kvs => ∃ ws, H p = some (.dK ws) ∧ Paired (fun (a : Key × V) (b : Key × PyData) => a.1 = b.1 ∧ Dz K G a.2 b.2) ws kvs
abbrev Ms : Type := List (Addr × Bool × CD)

mutual
theorem dp_mono {K : Fg} {G G' : Hp} (e : Ex G G') : ∀ {d : PyData} {v : V}, Dz K G v d → Dz K G' v d
  | _, _, .non => .non
  | _, _, .bl b => .bl b
  | _, _, .int i => .int i
  | _, _, .str s => .str s
  | _, _, .lst s a => .lst (Evl.ex_l e s) (dpAll_mono e a)
  | _, _, .tup s a => .tup (s.mono e) (dpAll_mono e a)
theorem dpAll_mono {K : Fg} {G G' : Hp} (e : Ex G G') : ∀ {ds : List PyData} {vs : List V}, DzAll K G vs ds → DzAll K G' vs ds
  | _, _, .nil => .nil
  | _, _, .cons a b => .cons (dp_mono e a) (dpAll_mono e b)
end
mutual
theorem dz_dp {K : Fg} {G : Hp} : ∀ {d : PyData} {v : V}, Dz K G v d → L2.Dp K G v d
  | _, _, .non => .non
  | _, _, .bl b => .bl b
  | _, _, .int i => .int i
  | _, _, .str s => .str s
  | _, _, .lst s a => .lst s (dzAll_dp a)
  | _, _, .tup s a => .tup s.sq (dzAll_dp a)
theorem dzAll_dp {K : Fg} {G : Hp} : ∀ {ds : List PyData} {vs : List V}, DzAll K G vs ds → L2.DpAll K G vs ds
  | _, _, .nil => .nil
  | _, _, .cons a b => .cons (dz_dp a) (dzAll_dp b)
end
theorem paired_mono {α β : Type} {F F' : α → β → Prop} (h : ∀ a b, F a b → F' a b) : ∀ {l : List α} {m : List β}, Paired F l m → Paired F' l m
  | _, _, .nil => .nil
  | _, _, .cons a b => .cons (h _ _ a) (paired_mono h b)
theorem xat_mono {K : Fg} {G G' : Hp} (e : Ex G G') {cls : Value} {d : Option Addr} {x : XD} (h : XAt K G cls d x) : XAt K G' cls d x := by
  obtain ⟨h1, h2⟩ := h
  refine ⟨h1, ?_⟩
  split at h2
  · exact h2
  · obtain ⟨dd, fv, q1, q2, q3⟩ := h2
    exact ⟨dd, fv, q1, e _ _ q2, paired_mono (fun a b q => ⟨q.1, dp_mono e q.2⟩) q3⟩
theorem ZV.mono {K : Fg} {G G' : Hp} (e : Ex G G') {v : V} : ∀ {z : ZV}, ZV.at K G v z → ZV.at K G' v z
  | .d _, h => dp_mono e h
  | .c _, h => h
  | .f _, ⟨p, ws, h1, h2, h3⟩ => ⟨p, ws, h1, e _ _ h2, paired_mono (fun a b q => ⟨q.1, dp_mono e q.2⟩) h3⟩
  | .e _ _ _ _, h => ⟨h.1, xat_mono e h.2⟩
theorem zall_mono {K : Fg} {G G' : Hp} (e : Ex G G') : ∀ {zs : List ZV} {vs : List V}, ZAll K G vs zs → ZAll K G' vs zs
  | _, _, .nil => .nil
  | _, _, .cons a b => .cons (ZV.mono e a) (zall_mono e b)
/-- a cell's content stands, where its own addresses do -/
theorem CD.stay {K : Fg} {G G' H H' : Hp} {p : Addr} {c : CD} (h : CD.at K G H p c) (e : Ex G G') (hp : ∀ o, H p = some o → H' p = some o) (hd : ∀ a x, H a = some (.own x) → H' a = some (.own x) ∧ (G a = none → G' a = none)) : CD.at K G' H' p c := by
  cases c with
  | lst xs => obtain ⟨ws, h1, h2⟩ := h; exact ⟨ws, hp _ h1, dpAll_mono e h2⟩
  | obj C fs =>
    obtain ⟨dx, fv, h1, h2, h3, h4⟩ := h
    exact ⟨dx, fv, hp _ h1, (hd _ _ h2).1, (hd _ _ h2).2 h3, paired_mono (fun a b q => ⟨q.1, ZV.mono e q.2⟩) h4⟩
  | dT kvs => obtain ⟨ws, h1, h2⟩ := h; exact ⟨ws, hp _ h1, paired_mono (fun a b q => ⟨q.1, dp_mono e q.2⟩) h2⟩
  | dK kvs => obtain ⟨ws, h1, h2⟩ := h; exact ⟨ws, hp _ h1, paired_mono (fun a b q => ⟨q.1, dp_mono e q.2⟩) h2⟩
theorem CD.there {K : Fg} {G H : Hp} {p : Addr} {c : CD} (h : CD.at K G H p c) : ∃ o, H p = some o ∧ (∀ x, o ≠ .own x) ∧ ∀ xs, o ≠ .tup xs := by
  cases c with
  | lst xs => obtain ⟨ws, h1, _⟩ := h; exact ⟨_, h1, (fun _ q => nomatch q), fun _ q => nomatch q⟩
  | obj C fs => obtain ⟨dx, fv, h1, _⟩ := h; exact ⟨_, h1, (fun _ q => nomatch q), fun _ q => nomatch q⟩
  | dT kvs => obtain ⟨ws, h1, _⟩ := h; exact ⟨_, h1, (fun _ q => nomatch q), fun _ q => nomatch q⟩
  | dK kvs => obtain ⟨ws, h1, _⟩ := h; exact ⟨_, h1, (fun _ q => nomatch q), fun _ q => nomatch q⟩

/-- what is not frozen, or a tuple that came to be known -/
theorem gn_none {G H : Hp} {a : Addr} {u : HO} (e : Ex G H) (f : G a = none ∨ ∃ xs, G a = some (.tup xs)) (h : H a = some u) (nt : ∀ xs, u ≠ .tup xs) : G a = none := by
  rcases f with f | ⟨xs, f⟩
  · exact f
  · have := e _ _ f
    rw [h] at this
    exact absurd (Option.some.inj this) (nt xs)
theorem gn_trans {G G' : Hp} {a : Addr} (e : Ex G G') (f : G a = none ∨ ∃ xs, G a = some (.tup xs)) (g : G a = none → G' a = none ∨ ∃ xs, G' a = some (.tup xs)) : G' a = none ∨ ∃ xs, G' a = some (.tup xs) := by
  rcases f with f | ⟨xs, f⟩
  · exact g f
  · exact .inr ⟨xs, e _ _ f⟩

/-! ### the state, seen from the entry n of the def -/
structure Sn where
  G : Hp
  H : Hp
  A : List Addr
structure Rel (K : Fg) (n : Sn) (S : Zs) (M : Ms) (σ : L2.St) (G H : Hp) : Prop where
  ex : Ex G H
  len : σ.length = S.length
  sl : ∀ (i : Nat) (z : ZV), S[i]? = some (some z) → ∃ v, σ[i]? = some (some v) ∧ ZV.at K G v z
  nd : (M.map (·.1)).Nodup
  ce : ∀ p b c, (p, b, c) ∈ M → G p = none ∧ CD.at K G H p c
  g0 : Ex n.G G
  h0 : ∀ a o, n.H a = some o → a ∉ n.A → H a = some o
  lv : ∀ a o, n.H a = some o → ∃ o', H a = some o'
  f0 : ∀ a o, n.H a = some o → n.G a = none → G a = none ∨ ∃ xs, G a = some (.tup xs)
  a0 : ∀ p c, (p, false, c) ∈ M → p ∈ n.A
  o0 : ∀ p c, (p, true, c) ∈ M → n.H p = none
section
variable {K : Fg} {n : Sn} {S S' : Zs} {M M' : Ms} {σ σ' : L2.St} {G G' H H' : Hp} {p : Addr} {o : HO}
theorem ex_upd (e : Ex G H) (hp : G p = none) : Ex G (upd H p o) := fun a u h => by
  rw [upd_ne (ne_of_none h hp)]
  exact e a u h
theorem ex_both (e : Ex G H) : Ex (upd G p o) (upd H p o) := fun a u h => by
  by_cases q : a = p
  · subst q
    rw [upd_same] at h ⊢
    exact h
  · rw [upd_ne q] at h ⊢
    exact e a u h
theorem ex_gnone (e : Ex G H) (h : H p = none) : G p = none := Evl.fresh_back e h
/-- a new frozen thing -/
theorem Rel.new (R : Rel K n S M σ G H) (hp : H p = none) (hno : ∀ x, o ≠ .own x) : Rel K n S M σ (upd G p o) (upd H p o) where
  ex := ex_both R.ex
  len := R.len
  sl := fun i z e => by
    obtain ⟨v, h1, h2⟩ := R.sl i z e
    exact ⟨v, h1, ZV.mono (Ex.new (ex_gnone R.ex hp)) h2⟩
  nd := R.nd
  ce := fun q b c hm => by
    obtain ⟨h1, h2⟩ := R.ce q b c hm
    obtain ⟨u, hu, _⟩ := CD.there h2
    have qp : q ≠ p := ne_of_none hu hp
    refine ⟨by rw [upd_ne qp]; exact h1, CD.stay h2 (Ex.new (ex_gnone R.ex hp)) (fun o' h => by rw [upd_ne qp]; exact h) fun a x h => ?_⟩
    have ap : a ≠ p := ne_of_none h hp
    exact ⟨by rw [upd_ne ap]; exact h, fun g => by rw [upd_ne ap]; exact g⟩
  g0 := R.g0.trans (Ex.new (ex_gnone R.ex hp))
  h0 := fun a u h1 h2 => by
    have q := R.h0 a u h1 h2
    rw [upd_ne (ne_of_none q hp)]
    exact q
  lv := fun a u h1 => by
    obtain ⟨o', q⟩ := R.lv a u h1
    exact ⟨o', by rw [upd_ne (ne_of_none q hp)]; exact q⟩
  f0 := fun a u h1 h2 => by
    obtain ⟨o', q⟩ := R.lv a u h1
    rw [upd_ne (ne_of_none q hp)]
    exact R.f0 a u h1 h2
  a0 := R.a0
  o0 := R.o0
theorem Rel.fresh (R : Rel K n S M σ G H) (hp : H p = none) : n.H p = none := by
  cases e : n.H p with
  | none => rfl
  | some u =>
    obtain ⟨o', q⟩ := R.lv p u e
    rw [hp] at q
    cases q
theorem Rel.notin (R : Rel K n S M σ G H) (hp : H p = none) : p ∉ M.map (·.1) := fun hm => by
  obtain ⟨⟨q, b, c⟩, h1, h2⟩ := List.mem_map.mp hm
  obtain ⟨u, hu, _⟩ := CD.there (R.ce q b c h1).2
  have e : q = p := h2
  rw [e, hp] at hu
  cases hu
/-- an object laid beside (its own dict ..): neither frozen nor a cell -/
theorem Rel.lay (R : Rel K n S M σ G H) (hp : H p = none) : Rel K n S M σ G (upd H p o) where
  ex := ex_upd R.ex (ex_gnone R.ex hp)
  len := R.len
  sl := R.sl
  nd := R.nd
  ce := fun q b c hm => by
    obtain ⟨h1, h2⟩ := R.ce q b c hm
    obtain ⟨u, hu, _⟩ := CD.there h2
    have qp : q ≠ p := ne_of_none hu hp
    refine ⟨h1, CD.stay h2 (Ex.refl G) (fun o' h => by rw [upd_ne qp]; exact h) fun a x h => ?_⟩
    exact ⟨by rw [upd_ne (ne_of_none h hp)]; exact h, fun g => g⟩
  g0 := R.g0
  h0 := fun a u h1 h2 => by
    have q := R.h0 a u h1 h2
    rw [upd_ne (ne_of_none q hp)]
    exact q
  lv := fun a u h1 => by
    obtain ⟨o', q⟩ := R.lv a u h1
    exact ⟨o', by rw [upd_ne (ne_of_none q hp)]; exact q⟩
  f0 := R.f0
  a0 := R.a0
  o0 := R.o0
/-- what was laid beside becomes a cell -/
theorem Rel.cell {c : CD} (R : Rel K n S M σ G H) (hn : n.H p = none) (hm : p ∉ M.map (·.1)) (hg : G p = none) (hc : CD.at K G H p c) : Rel K n S ((p, true, c) :: M) σ G H where
  ex := R.ex
  len := R.len
  sl := R.sl
  nd := List.nodup_cons.mpr ⟨hm, R.nd⟩
  ce := fun q b c' h => by
    rcases List.mem_cons.mp h with e | h
    · cases e
      exact ⟨hg, hc⟩
    · exact R.ce q b c' h
  g0 := R.g0
  h0 := R.h0
  lv := R.lv
  f0 := R.f0
  a0 := fun q c' h => by
    rcases List.mem_cons.mp h with e | h
    · cases e
    · exact R.a0 q c' h
  o0 := fun q c' h => by
    rcases List.mem_cons.mp h with e | h
    · cases e
      exact hn
    · exact R.o0 q c' h
theorem Rel.newLst {ws : List V} {xs : List PyData} (R : Rel K n S M σ G H) (hp : H p = none) (h : DzAll K G ws xs) : Rel K n S ((p, true, .lst xs) :: M) σ G (upd H p (.lst ws)) :=
  (R.lay hp).cell (R.fresh hp) (R.notin hp) (ex_gnone R.ex hp) ⟨ws, upd_same, h⟩
/-- one entry of the cells is changed, is taken out -/
inductive Upd1 (p : Addr) (b : Bool) (c c' : CD) : Ms → Ms → Prop
  | here {M : Ms} : Upd1 p b c c' ((p, b, c) :: M) ((p, b, c') :: M)
  | there {q : Addr × Bool × CD} {M M' : Ms} : Upd1 p b c c' M M' → Upd1 p b c c' (q :: M) (q :: M')
inductive Rem1 (p : Addr) (b : Bool) (c : CD) : Ms → Ms → Prop
  | here {M : Ms} : Rem1 p b c ((p, b, c) :: M) M
  | there {q : Addr × Bool × CD} {M M' : Ms} : Rem1 p b c M M' → Rem1 p b c (q :: M) (q :: M')
theorem Upd1.mem {b : Bool} {c c' : CD} (u : Upd1 p b c c' M M') : (p, b, c) ∈ M := by
  induction u with
  | here => exact List.mem_cons_self
  | there _ ih => exact List.mem_cons_of_mem _ ih
theorem Upd1.fst {b : Bool} {c c' : CD} (u : Upd1 p b c c' M M') : M'.map (·.1) = M.map (·.1) := by
  induction u with
  | here => rfl
  | there _ ih => simp only [List.map_cons, ih]
theorem Upd1.of {b : Bool} {c c' : CD} (u : Upd1 p b c c' M M') (nd : (M.map (·.1)).Nodup) : ∀ q b' e, (q, b', e) ∈ M' → (q = p ∧ b' = b ∧ e = c') ∨ (q ≠ p ∧ (q, b', e) ∈ M) := by
  induction u with
  | here =>
    intro q b' e h
    rcases List.mem_cons.mp h with z | h
    · cases z
      exact .inl ⟨rfl, rfl, rfl⟩
    · refine .inr ⟨fun z => ?_, List.mem_cons_of_mem _ h⟩
      have hp := List.mem_map_of_mem (f := (·.1)) h
      have hp : q ∈ _ := hp
      rw [z] at hp
      exact (List.nodup_cons.mp nd).1 hp
  | @there r M M' v ih =>
    intro q b' e h
    rcases List.mem_cons.mp h with z | h
    · subst z
      refine .inr ⟨fun z => ?_, List.mem_cons_self⟩
      have z : q = p := z
      have hp := List.mem_map_of_mem (f := (·.1)) v.mem
      rw [← z] at hp
      exact (List.nodup_cons.mp nd).1 hp
    · rcases ih (List.nodup_cons.mp nd).2 q b' e h with z | ⟨z1, z2⟩
      · exact .inl z
      · exact .inr ⟨z1, List.mem_cons_of_mem _ z2⟩
theorem Rem1.mem {b : Bool} {c : CD} (u : Rem1 p b c M M') : (p, b, c) ∈ M := by
  induction u with
  | here => exact List.mem_cons_self
  | there _ ih => exact List.mem_cons_of_mem _ ih
theorem Rem1.sub {b : Bool} {c : CD} (u : Rem1 p b c M M') : M'.Sublist M := by
  induction u with
  | here => exact List.sublist_cons_self _ _
  | there _ ih => exact ih.cons₂ _
theorem Rem1.ne {b : Bool} {c : CD} (u : Rem1 p b c M M') (nd : (M.map (·.1)).Nodup) : ∀ q ∈ M', q.1 ≠ p := by
  induction u with
  | here =>
    intro q h z
    rw [← z] at nd
    exact (List.nodup_cons.mp nd).1 (List.mem_map_of_mem (f := (·.1)) h)
  | @there r M M' v ih =>
    intro q h
    rcases List.mem_cons.mp h with z | h
    · intro e
      have hp := List.mem_map_of_mem (f := (·.1)) v.mem
      rw [z] at e
      rw [← e] at hp
      exact (List.nodup_cons.mp nd).1 hp
    · exact ih (List.nodup_cons.mp nd).2 q h
/-- a cell is written -/
theorem Rel.put {b : Bool} {c c' : CD} (R : Rel K n S M σ G H) (u : Upd1 p b c c' M M') (hno : ∀ x, H p ≠ some (.own x)) (hc : CD.at K G (upd H p o) p c') : Rel K n S M' σ G (upd H p o) := by
  have hm := u.mem
  obtain ⟨hg, hcd⟩ := R.ce p b c hm
  obtain ⟨u0, hu0, _⟩ := CD.there hcd
  have np : ∀ a o', n.H a = some o' → a ∉ n.A → a ≠ p := fun a o' h1 h2 z => by
    subst z
    cases b with
    | false => exact h2 (R.a0 _ _ hm)
    | true => rw [R.o0 _ _ hm] at h1; cases h1
  refine ⟨ex_upd R.ex hg, R.len, R.sl, by rw [u.fst]; exact R.nd, fun q b' e h => ?_, R.g0, fun a o' h1 h2 => ?_, fun a o' h1 => ?_, R.f0, fun q e h => ?_, fun q e h => ?_⟩
  · rcases u.of R.nd q b' e h with ⟨rfl, rfl, rfl⟩ | ⟨z1, z2⟩
    · exact ⟨hg, hc⟩
    · obtain ⟨h1, h2⟩ := R.ce q b' e z2
      refine ⟨h1, CD.stay h2 (Ex.refl G) (fun o' h => by rw [upd_ne z1]; exact h) fun a x h => ⟨?_, fun g => g⟩⟩
      rw [upd_ne (fun z => hno x (by rw [← z]; exact h))]
      exact h
  · rw [upd_ne (np a o' h1 h2)]
    exact R.h0 a o' h1 h2
  · by_cases z : a = p
    · subst z
      exact ⟨_, upd_same⟩
    · obtain ⟨o2, q⟩ := R.lv a o' h1
      exact ⟨o2, by rw [upd_ne z]; exact q⟩
  · rcases u.of R.nd q false e h with ⟨rfl, z, _⟩ | ⟨_, z⟩
    · subst z
      exact R.a0 _ _ hm
    · exact R.a0 q e z
  · rcases u.of R.nd q true e h with ⟨rfl, z, _⟩ | ⟨_, z⟩
    · subst z
      exact R.o0 _ _ hm
    · exact R.o0 q e z
theorem Rel.putLst {b : Bool} {xs ys : List PyData} {ws : List V} (R : Rel K n S M σ G H) (u : Upd1 p b (.lst xs) (.lst ys) M M') (h : DzAll K G ws ys) : Rel K n S M' σ G (upd H p (.lst ws)) := by
  obtain ⟨_, vs, h1, _⟩ := R.ce p b _ u.mem
  exact R.put u (fun x z => by rw [h1] at z; cases z) ⟨ws, upd_same, h⟩
/-- an own list that nobody will change any more -/
theorem Rel.frz {xs : List PyData} (R : Rel K n S M σ G H) (u : Rem1 p true (.lst xs) M M') : ∃ G', Ex G G' ∧ Rel K n S M' σ G' H ∧ Dz K G' (.ref p) (.list xs) := by
  obtain ⟨hg, ws, h1, h2⟩ := R.ce p true _ u.mem
  refine ⟨upd G p (.lst ws), Ex.new hg, ⟨fun a o' h => ?_, R.len, fun i z e => ?_, R.nd.sublist (u.sub.map _), fun q b c h => ?_, R.g0.trans (Ex.new hg), R.h0, R.lv, fun a o' q1 q2 => ?_, fun q c h => R.a0 q c (u.sub.subset h), fun q c h => R.o0 q c (u.sub.subset h)⟩, ?_⟩
  · by_cases z : a = p
    · subst z
      rw [upd_same] at h
      rw [h1]; exact h
    · rw [upd_ne z] at h
      exact R.ex a o' h
  · obtain ⟨v, q1, q2⟩ := R.sl i z e
    exact ⟨v, q1, ZV.mono (Ex.new hg) q2⟩
  · obtain ⟨q1, q2⟩ := R.ce q b c (u.sub.subset h)
    have z := u.ne R.nd _ h
    refine ⟨by rw [upd_ne z]; exact q1, CD.stay q2 (Ex.new hg) (fun o' h => h) fun a x h => ⟨h, fun g => ?_⟩⟩
    rw [upd_ne (fun z => by rw [z, h1] at h; cases h)]
    exact g
  · have z : a ≠ p := fun z => by rw [z, R.o0 _ _ u.mem] at q1; cases q1
    rw [upd_ne z]
    exact R.f0 a o' q1 q2
  · exact .lst (Evl.sq_of upd_same) (dpAll_mono (Ex.new hg) h2)
/-- a tuple that stands in the heap comes to be known -/
theorem Rel.tell {xs : List V} (R : Rel K n S M σ G H) (h : H p = some (.tup xs)) : ∃ G', Ex G G' ∧ Rel K n S M σ G' H ∧ G' p = some (.tup xs) := by
  cases hg : G p with
  | some o =>
    have := R.ex _ _ hg
    rw [h] at this
    cases this
    exact ⟨G, Ex.refl G, R, hg⟩
  | none =>
    refine ⟨upd G p (.tup xs), Ex.new hg, ⟨fun a o' e => ?_, R.len, fun i z e => ?_, R.nd, fun q b c hm => ?_, R.g0.trans (Ex.new hg), R.h0, R.lv, fun a o' q1 q2 => ?_, R.a0, R.o0⟩, upd_same⟩
    · by_cases z : a = p
      · subst z; rw [upd_same] at e; rw [h]; exact e
      · rw [upd_ne z] at e; exact R.ex a o' e
    · obtain ⟨v, q1, q2⟩ := R.sl i z e
      exact ⟨v, q1, ZV.mono (Ex.new hg) q2⟩
    · obtain ⟨q1, q2⟩ := R.ce q b c hm
      obtain ⟨u, hu, no, nt⟩ := CD.there q2
      have z : q ≠ p := fun z => by rw [z, h] at hu; exact nt _ (Option.some.inj hu).symm
      refine ⟨by rw [upd_ne z]; exact q1, CD.stay q2 (Ex.new hg) (fun o' h => h) fun a x h' => ⟨h', fun g => ?_⟩⟩
      rw [upd_ne (fun z => by rw [z, h] at h'; cases h')]
      exact g
    · by_cases z : a = p
      · subst z; exact .inr ⟨xs, upd_same⟩
      · rw [upd_ne z]; exact R.f0 a o' q1 q2
/-- slots -/
theorem Rel.set {i : Nat} {v : V} {z : ZV} (R : Rel K n S M σ G H) (h : ZV.at K G v z) : Rel K n (S.set i (some z)) M (σ.set i (some v)) G H := by
  refine ⟨R.ex, by simp [R.len], fun j z' e => ?_, R.nd, R.ce, R.g0, R.h0, R.lv, R.f0, R.a0, R.o0⟩
  by_cases q : i = j
  · subst q
    rw [List.getElem?_set] at e
    simp only [if_true] at e
    split at e
    · rename_i hl
      cases e
      exact ⟨v, by rw [List.getElem?_set]; simp [R.len, hl], h⟩
    · cases e
  · rw [List.getElem?_set_ne q] at e
    obtain ⟨u, h1, h2⟩ := R.sl j z' e
    exact ⟨u, by rw [List.getElem?_set_ne q]; exact h1, h2⟩
theorem Rel.unset {i : Nat} (R : Rel K n S M σ G H) : Rel K n (S.set i none) M (σ.set i none) G H := by
  refine ⟨R.ex, by simp [R.len], fun j z' e => ?_, R.nd, R.ce, R.g0, R.h0, R.lv, R.f0, R.a0, R.o0⟩
  by_cases q : i = j
  · subst q
    rw [List.getElem?_set] at e
    simp only [if_true] at e
    split at e <;> cases e
  · rw [List.getElem?_set_ne q] at e
    obtain ⟨u, h1, h2⟩ := R.sl j z' e
    exact ⟨u, by rw [List.getElem?_set_ne q]; exact h1, h2⟩
/-- what is known of slots may be forgotten -/
theorem Rel.weak (R : Rel K n S M σ G H) (hl : S'.length = S.length) (h : ∀ (i : Nat) (z : ZV), S'[i]? = some (some z) → S[i]? = some (some z)) : Rel K n S' M σ G H :=
  ⟨R.ex, R.len.trans hl.symm, fun i z e => R.sl i z (h i z e), R.nd, R.ce, R.g0, R.h0, R.lv, R.f0, R.a0, R.o0⟩
/-- cells may be forgotten -/
theorem Rel.drop (R : Rel K n S M σ G H) (h : M'.Sublist M) : Rel K n S M' σ G H :=
  ⟨R.ex, R.len, R.sl, R.nd.sublist (h.map _), fun p b c q => R.ce p b c (h.subset q), R.g0, R.h0, R.lv, R.f0, fun p c q => R.a0 p c (h.subset q), fun p c q => R.o0 p c (h.subset q)⟩
end

/-! ### what a call leaves: A the cells it may write -/
structure Ext (A : List Addr) (G H G' H' : Hp) : Prop where
  g : Ex G G'
  h : ∀ a o, H a = some o → a ∉ A → H' a = some o
  l : ∀ a o, H a = some o → ∃ o', H' a = some o'
  x : Ex G' H'
  f : ∀ a o, H a = some o → G a = none → G' a = none ∨ ∃ xs, G' a = some (.tup xs)
section
variable {K : Fg} {n : Sn} {S S' : Zs} {M M' : Ms} {σ σ' : L2.St} {G G' H H' : Hp} {p : Addr}
theorem Rel.ext (R : Rel K n S M σ G H) : Ext n.A n.G n.H G H := ⟨R.g0, R.h0, R.lv, R.ex, R.f0⟩
/-- behind a call that writes no cell -/
theorem Rel.call (R : Rel K n S M σ G H) (e : Ext [] G H G' H') : Rel K n S M σ G' H' := by
  have hh : Ex H H' := fun a o h => e.h a o h (by simp)
  refine ⟨e.x, R.len, fun i z q => ?_, R.nd, fun q b c hm => ?_, R.g0.trans e.g, fun a o h1 h2 => hh a o (R.h0 a o h1 h2), fun a o h1 => ?_, fun a o h1 h2 => ?_, R.a0, R.o0⟩
  · obtain ⟨v, h1, h2⟩ := R.sl i z q
    exact ⟨v, h1, ZV.mono e.g h2⟩
  · obtain ⟨h1, h2⟩ := R.ce q b c hm
    obtain ⟨u, hu, _, nt⟩ := CD.there h2
    exact ⟨gn_none e.x (e.f q u hu h1) (hh _ _ hu) nt, CD.stay h2 e.g (fun o h => hh _ _ h) fun a x h => ⟨hh _ _ h, fun g => gn_none e.x (e.f a _ h g) (hh _ _ h) (fun _ z => nomatch z)⟩⟩
  · obtain ⟨o', q⟩ := R.lv a o h1
    exact e.l a o' q
  · obtain ⟨o', q⟩ := R.lv a o h1
    exact gn_trans e.g (R.f0 a o h1 h2) (e.f a o' q)
/-- behind a call that writes one cell -/
theorem Rel.call1 {b : Bool} {c c' : CD} (R : Rel K n S M σ G H) (e : Ext [p] G H G' H') (u : Upd1 p b c c' M M') (hd : ∀ a x, H a = some (.own x) → H' a = some (.own x)) (hc : CD.at K G' H' p c') : Rel K n S M' σ G' H' := by
  have hm := u.mem
  obtain ⟨hg, hcd⟩ := R.ce p b c hm
  obtain ⟨u0, hu0, _⟩ := CD.there hcd
  refine ⟨e.x, R.len, fun i z q => ?_, by rw [u.fst]; exact R.nd, fun q b' e' h => ?_, R.g0.trans e.g, fun a o h1 h2 => ?_, fun a o h1 => ?_, fun a o h1 h2 => ?_, fun q e' h => ?_, fun q e' h => ?_⟩
  · obtain ⟨v, h1, h2⟩ := R.sl i z q
    exact ⟨v, h1, ZV.mono e.g h2⟩
  · rcases u.of R.nd q b' e' h with ⟨rfl, rfl, rfl⟩ | ⟨z1, z2⟩
    · obtain ⟨u2, hu2, _, nt⟩ := CD.there hc
      exact ⟨gn_none e.x (e.f q _ hu0 hg) hu2 nt, hc⟩
    · obtain ⟨h1, h2⟩ := R.ce q b' e' z2
      obtain ⟨u1, hu1, _, nt⟩ := CD.there h2
      exact ⟨gn_none e.x (e.f q u1 hu1 h1) (e.h _ _ hu1 (by simpa using z1)) nt, CD.stay h2 e.g (fun o h => e.h _ _ h (by simpa using z1)) fun a x h => ⟨hd a x h, fun g => gn_none e.x (e.f a _ h g) (hd a x h) (fun _ z => nomatch z)⟩⟩
  · have np : a ∉ [p] := by
      intro z
      have z : a = p := by simpa using z
      subst z
      cases b with
      | false => exact h2 (R.a0 _ _ hm)
      | true => rw [R.o0 _ _ hm] at h1; cases h1
    exact e.h a o (R.h0 a o h1 h2) np
  · obtain ⟨o', q⟩ := R.lv a o h1
    exact e.l a o' q
  · obtain ⟨o', q⟩ := R.lv a o h1
    exact gn_trans e.g (R.f0 a o h1 h2) (e.f a o' q)
  · rcases u.of R.nd q false e' h with ⟨rfl, z, _⟩ | ⟨_, z⟩
    · subst z
      exact R.a0 _ _ hm
    · exact R.a0 q e' z
  · rcases u.of R.nd q true e' h with ⟨rfl, z, _⟩ | ⟨_, z⟩
    · subst z
      exact R.o0 _ _ hm
    · exact R.o0 q e' z
end
end Z
namespace Z
open PySem PySem.Spec PyProof.Rows L2
open Evl (Ex)

/-! ### the judgements: readings over data -/
abbrev QZ := ZV → Ms → Prop
abbrev XZ := XD → Zs → Ms → Prop
def XOk (K : Fg) (E : XK) (n : Sn) (σ : L2.St) (G : Hp) (X : XZ) : Prop := ∀ cls d G' H' x S' M', Ex G G' → Rel K n S' M' σ G' H' → XAt K G' cls d x → X x S' M' → E cls d H'
def ZW (K : Fg) (E : L2.St → XK) (te : TE) (S : Zs) (M : Ms) (Q : QZ) (X : XZ) : Prop := ∀ (n : Sn) (σ : L2.St) (G H : Hp), Rel K n S M σ G H → ∀ Qv : VK,
  (∀ v G' H' z M', Ex G G' → Rel K n S M' σ G' H' → ZV.at K G' v z → Q z M' → Qv v H') → XOk K (E σ) n σ G X → te σ H Qv
def ZA (K : Fg) (E : L2.St → XK) (ta : TA) (S : Zs) (M : Ms) (Q : List ZV → Ms → Prop) (X : XZ) : Prop := ∀ (n : Sn) (σ : L2.St) (G H : Hp), Rel K n S M σ G H → ∀ Qv : List V → Hp → Prop,
  (∀ vs G' H' zs M', Ex G G' → Rel K n S M' σ G' H' → ZAll K G' vs zs → Q zs M' → Qv vs H') → XOk K (E σ) n σ G X → ta σ H Qv
def ZT (K : Fg) (E : L2.St → XK) (tt : TT) (S : Zs) (M : Ms) (Q : Bool → Ms → Prop) (X : XZ) : Prop := ∀ (n : Sn) (σ : L2.St) (G H : Hp), Rel K n S M σ G H → ∀ Qv : Bool → Hp → Prop,
  (∀ b G' H' M', Ex G G' → Rel K n S M' σ G' H' → Q b M' → Qv b H') → XOk K (E σ) n σ G X → tt σ H Qv
structure ZP where
  nx : Zs → Ms → Prop
  rt : QZ
  bk : Zs → Ms → Prop
  ct : Zs → Ms → Prop
  ex : XZ
structure DOk (K : Fg) (E : L2.St → XK) (n : Sn) (G : Hp) (P : ZP) (D : Ends) : Prop where
  nx : ∀ σ' G' H' S' M', Ex G G' → Rel K n S' M' σ' G' H' → P.nx S' M' → D.nx σ' H'
  rt : ∀ v σ' G' H' z S' M', Ex G G' → Rel K n S' M' σ' G' H' → ZV.at K G' v z → P.rt z M' → D.rt v H'
  bk : ∀ σ' G' H' S' M', Ex G G' → Rel K n S' M' σ' G' H' → P.bk S' M' → D.bk σ' H'
  ct : ∀ σ' G' H' S' M', Ex G G' → Rel K n S' M' σ' G' H' → P.ct S' M' → D.ct σ' H'
  ex : ∀ cls d σ' G' H' x S' M', Ex G G' → Rel K n S' M' σ' G' H' → XAt K G' cls d x → P.ex x S' M' → E σ' cls d H'
theorem DOk.mono {K : Fg} {E : L2.St → XK} {n : Sn} {G G' : Hp} {P : ZP} {D : Ends} (k : DOk K E n G P D) (e : Ex G G') : DOk K E n G' P D :=
  ⟨fun a b c d f g => k.nx a b c d f (e.trans g), fun a b c d f h i g => k.rt a b c d f h i (e.trans g), fun a b c d f g => k.bk a b c d f (e.trans g), fun a b c d f g => k.ct a b c d f (e.trans g), fun a b c d f h i j g => k.ex a b c d f h i j (e.trans g)⟩
def ZS (K : Fg) (E : L2.St → XK) (t : TS) (S : Zs) (M : Ms) (P : ZP) : Prop := ∀ (n : Sn) (σ : L2.St) (G H : Hp), Rel K n S M σ G H → ∀ D, DOk K E n G P D → t D σ H
section
variable {K : Fg} {E : L2.St → XK} {e0 : XK} {te ta tb tc : TE} {tA : TA} {t u : TT} {S S' : Zs} {M M' : Ms} {Q : QZ} {X : XZ} {n : Sn} {σ : L2.St} {G G' H H' : Hp}
theorem XOk.mono (h : XOk K e0 n σ G X) (e : Ex G G') : XOk K e0 n σ G' X := fun cls d G2 H2 x S2 M2 e2 => h cls d G2 H2 x S2 M2 (e.trans e2)
theorem ZW.imp {Q' : QZ} (h : ZW K E te S M Q X) (i : ∀ z M', Q z M' → Q' z M') : ZW K E te S M Q' X := fun n σ G H R Qv q x => h n σ G H R Qv (fun v G' H' z M' e R' a b => q v G' H' z M' e R' a (i _ _ b)) x

/-! ### expressions -/
theorem zw_var {i : Nat} {z : ZV} (h : S[i]? = some (some z)) (q : Q z M) : ZW K E (tVar i) S M Q X := fun n σ G H R Qv k _ => by
  obtain ⟨v, h1, h2⟩ := R.sl i z h
  exact ⟨v, h1, k v G H z M (Ex.refl G) R h2 q⟩
theorem zw_c {v : V} {d : PyData} (h : ∀ H, Dz K H v d) (q : Q (.d d) M) : ZW K E (tC v) S M Q X := fun n σ G H R Qv k _ => k v G H (.d d) M (Ex.refl G) R (h G) q
theorem zw_int {i : Int} (q : Q (.d (.int i)) M) : ZW K E (tC (.int i)) S M Q X := zw_c (fun _ => .int i) q
theorem zw_str {x : Str} (q : Q (.d (.str x)) M) : ZW K E (tC (.str x)) S M Q X := zw_c (fun _ => .str x) q
theorem zw_bl {b : Bool} (q : Q (.d (.bool b)) M) : ZW K E (tC (.bl b)) S M Q X := zw_c (fun _ => .bl b) q
theorem zw_non (q : Q (.d .none) M) : ZW K E (tC .non) S M Q X := zw_c (fun _ => .non) q
/-- an operation on values, over data -/
def ZO (K : Fg) (r : R2) (x y : ZV) (M : Ms) (Q : QZ) : Prop := ∀ (n : Sn) (S : Zs) (σ : L2.St) (G H : Hp), Rel K n S M σ G H → ∀ v u, ZV.at K G v x → ZV.at K G u y → ∀ Qv : VK,
  (∀ w G' H' z M', Ex G G' → Rel K n S M' σ G' H' → ZV.at K G' w z → Q z M' → Qv w H') → r v u H Qv
theorem zw_op {r : R2} (h : ZW K E ta S M (fun x M1 => ZW K E tb S M1 (fun y M2 => ZO K r x y M2 Q) X) X) : ZW K E (tOp r ta tb) S M Q X := fun n σ G H R Qv k kx =>
  h n σ G H R _ (fun v G1 H1 x M1 e1 R1 a1 h1 => h1 n σ G1 H1 R1 _ (fun u G2 H2 y M2 e2 R2 a2 h2 => h2 n S σ G2 H2 R2 v u (ZV.mono e2 a1) a2 Qv
    fun w G3 H3 z M3 e3 R3 a3 q => k w G3 H3 z M3 ((e1.trans e2).trans e3) R3 a3 q) (kx.mono e1)) kx
def ZU (K : Fg) (r : V → Hp → VK → Prop) (x : ZV) (M : Ms) (Q : QZ) : Prop := ∀ (n : Sn) (S : Zs) (σ : L2.St) (G H : Hp), Rel K n S M σ G H → ∀ v, ZV.at K G v x → ∀ Qv : VK,
  (∀ w G' H' z M', Ex G G' → Rel K n S M' σ G' H' → ZV.at K G' w z → Q z M' → Qv w H') → r v H Qv
theorem zw_un {r : V → Hp → VK → Prop} (h : ZW K E ta S M (fun x M1 => ZU K r x M1 Q) X) : ZW K E (tUn r ta) S M Q X := fun n σ G H R Qv k kx =>
  h n σ G H R _ (fun v G1 H1 x M1 e1 R1 a1 h1 => h1 n S σ G1 H1 R1 v a1 Qv fun w G3 H3 z M3 e3 R3 a3 q => k w G3 H3 z M3 (e1.trans e3) R3 a3 q) kx
/-- the plain ones: a value that is there already, nothing made -/
theorem zo_val {r : R2} {x y : ZV} {z : ZV} (h : ∀ G H v u, Ex G H → ZV.at K G v x → ZV.at K G u y → ∃ w, ZV.at K G w z ∧ ∀ Qv : VK, Qv w H → r v u H Qv) (q : Q z M) : ZO K r x y M Q := fun n S σ G H R v u a b Qv k => by
  obtain ⟨w, h1, h2⟩ := h G H v u R.ex a b
  exact h2 Qv (k w G H z M (Ex.refl G) R h1 q)
theorem dp_int {G : Hp} {v : V} {i : Int} (h : Dz K G v (.int i)) : v = .int i := by cases h; rfl
theorem dp_str {G : Hp} {v : V} {i : Str} (h : Dz K G v (.str i)) : v = .str i := by cases h; rfl
theorem dp_bl {G : Hp} {v : V} {i : Bool} (h : Dz K G v (.bool i)) : v = .bl i := by cases h; rfl
theorem dp_non {G : Hp} {v : V} (h : Dz K G v .none) : v = .non := by cases h; rfl
theorem dp_tup {G : Hp} {v : V} {ds : List PyData} (h : Dz K G v (.tuple ds)) : ∃ a xs, v = .ref a ∧ SqT K G a xs ∧ DzAll K G xs ds := by cases h with | tup s a => exact ⟨_, _, rfl, s.sq, a⟩
theorem dp_lst {G : Hp} {v : V} {ds : List PyData} (h : Dz K G v (.list ds)) : ∃ a xs, v = .ref a ∧ SqL K G a xs ∧ DzAll K G xs ds := by cases h with | lst s a => exact ⟨_, _, rfl, s, a⟩
theorem dpa_len {G : Hp} : ∀ {vs : List V} {ds : List PyData}, DzAll K G vs ds → vs.length = ds.length
  | _, _, .nil => rfl
  | _, _, .cons _ b => by simp [dpa_len b]
theorem dpa_get {G : Hp} : ∀ {vs : List V} {ds : List PyData} {i : Nat} {d : PyData}, DzAll K G vs ds → ds[i]? = some d → ∃ v, vs[i]? = some v ∧ Dz K G v d
  | _, _, _, _, .nil, h => by simp at h
  | _, _, 0, _, .cons a _, h => by simp at h; subst h; exact ⟨_, rfl, a⟩
  | _, _, i + 1, _, .cons _ b, h => by
    obtain ⟨v, h1, h2⟩ := dpa_get (i := i) b (by simpa using h)
    exact ⟨v, by simpa using h1, h2⟩
theorem dpa_app {G : Hp} : ∀ {vs ws : List V} {ds es : List PyData}, DzAll K G vs ds → DzAll K G ws es → DzAll K G (vs ++ ws) (ds ++ es)
  | _, _, _, _, .nil, h => h
  | _, _, _, _, .cons a b, h => .cons a (dpa_app b h)
theorem dpa_take {G : Hp} : ∀ {vs : List V} {ds : List PyData} (k : Nat), DzAll K G vs ds → DzAll K G (vs.take k) (ds.take k)
  | _, _, 0, _ => .nil
  | _, _, _ + 1, .nil => .nil
  | _, _, k + 1, .cons a b => .cons a (dpa_take k b)
theorem dpa_drop {G : Hp} : ∀ {vs : List V} {ds : List PyData} (k : Nat), DzAll K G vs ds → DzAll K G (vs.drop k) (ds.drop k)
  | _, _, 0, h => h
  | _, _, _ + 1, .nil => .nil
  | _, _, k + 1, .cons _ b => dpa_drop k b
theorem dpa_one {G : Hp} {v : V} {d : PyData} (h : Dz K G v d) : DzAll K G [v] [d] := .cons h .nil
theorem dpa_set {G : Hp} {v : V} {d : PyData} (h : Dz K G v d) : ∀ {vs : List V} {ds : List PyData} (k : Nat), DzAll K G vs ds → DzAll K G (vs.set k v) (ds.set k d)
  | _, _, _, .nil => .nil
  | _, _, 0, .cons _ b => .cons h b
  | _, _, k + 1, .cons a b => .cons a (dpa_set h k b)
theorem zall_d {G : Hp} : ∀ {vs : List V} {ds : List PyData}, ZAll K G vs (ds.map .d) → DzAll K G vs ds
  | [], [], .nil => .nil
  | _ :: _, _ :: _, .cons a b => .cons a (zall_d b)

theorem zo_I0 {g : Int → Int → V} {gd : Int → Int → PyData} {i j : Int} (hg : ∀ H, Dz K H (g i j) (gd i j)) (q : Q (.d (gd i j)) M) : ZO K (rI0 g) (.d (.int i)) (.d (.int j)) M Q :=
  zo_val (z := .d (gd i j)) (fun G H v u _ a b => ⟨g i j, hg G, fun Qv h => ⟨i, j, dp_int a, dp_int b, h⟩⟩) q
theorem zo_I {C : Int → Int → Prop} {g : Int → Int → V} {gd : Int → Int → PyData} {i j : Int} (hg : ∀ H, Dz K H (g i j) (gd i j)) (hc : C i j) (q : Q (.d (gd i j)) M) : ZO K (rI C g) (.d (.int i)) (.d (.int j)) M Q :=
  zo_val (z := .d (gd i j)) (fun G H v u _ a b => ⟨g i j, hg G, fun Qv h => ⟨i, j, dp_int a, dp_int b, hc, h⟩⟩) q
theorem zo_add {i j : Int} (q : Q (.d (.int (i + j))) M) : ZO K (rI0 fun i j => .int (i + j)) (.d (.int i)) (.d (.int j)) M Q := zo_I0 (gd := fun i j => .int (i + j)) (fun _ => .int _) q
theorem zo_sub {i j : Int} (q : Q (.d (.int (i - j))) M) : ZO K (rI0 fun i j => .int (i - j)) (.d (.int i)) (.d (.int j)) M Q := zo_I0 (gd := fun i j => .int (i - j)) (fun _ => .int _) q
theorem zo_mul {i j : Int} (hc : CMul i j) (q : Q (.d (.int (i * j))) M) : ZO K (rI CMul fun i j => .int (i * j)) (.d (.int i)) (.d (.int j)) M Q := zo_I (gd := fun i j => .int (i * j)) (fun _ => .int _) hc q
theorem zo_mod {i j : Int} (hc : 0 < j) (q : Q (.d (.int (i % j))) M) : ZO K (rI (fun _ j => 0 < j) fun i j => .int (i % j)) (.d (.int i)) (.d (.int j)) M Q := zo_I (C := fun _ j => 0 < j) (gd := fun i j => .int (i % j)) (fun _ => .int _) hc q
theorem zo_fdiv {i j : Int} (hc : CDiv i j) (q : Q (.d (.int (i / j))) M) : ZO K (rI CDiv fun i j => .int (i / j)) (.d (.int i)) (.d (.int j)) M Q := zo_I (gd := fun i j => .int (i / j)) (fun _ => .int _) hc q
theorem zo_pow {i j : Int} (hc : CPow i j) (q : Q (.d (.int (i ^ j.toNat))) M) : ZO K (rI CPow fun i j => .int (i ^ j.toNat)) (.d (.int i)) (.d (.int j)) M Q := zo_I (gd := fun i j => .int (i ^ j.toNat)) (fun _ => .int _) hc q
theorem zo_shl {i j : Int} (hc : CPow i j) (q : Q (.d (.int (i * 2 ^ j.toNat))) M) : ZO K (rI CPow fun i j => .int (i * 2 ^ j.toNat)) (.d (.int i)) (.d (.int j)) M Q := zo_I (gd := fun i j => .int (i * 2 ^ j.toNat)) (fun _ => .int _) hc q
theorem zo_lt {i j : Int} (q : Q (.d (.bool (decide (i < j)))) M) : ZO K (rI0 fun i j => .bl (decide (i < j))) (.d (.int i)) (.d (.int j)) M Q := zo_I0 (gd := fun i j => .bool (decide (i < j))) (fun _ => .bl _) q
theorem zo_le {i j : Int} (q : Q (.d (.bool (decide (i ≤ j)))) M) : ZO K (rI0 fun i j => .bl (decide (i ≤ j))) (.d (.int i)) (.d (.int j)) M Q := zo_I0 (gd := fun i j => .bool (decide (i ≤ j))) (fun _ => .bl _) q
theorem zo_gt {i j : Int} (q : Q (.d (.bool (decide (j < i)))) M) : ZO K (rI0 fun i j => .bl (decide (j < i))) (.d (.int i)) (.d (.int j)) M Q := zo_I0 (gd := fun i j => .bool (decide (j < i))) (fun _ => .bl _) q
theorem zo_ge {i j : Int} (q : Q (.d (.bool (decide (j ≤ i)))) M) : ZO K (rI0 fun i j => .bl (decide (j ≤ i))) (.d (.int i)) (.d (.int j)) M Q := zo_I0 (gd := fun i j => .bool (decide (j ≤ i))) (fun _ => .bl _) q
theorem zu_neg {i : Int} (q : Q (.d (.int (-i))) M) : ZU K (rU fun i => .int (-i)) (.d (.int i)) M Q := fun n S σ G H R v a Qv k => ⟨i, dp_int a, k _ G H (.d (.int (-i))) M (Ex.refl G) R (.int _) q⟩
/-- == over data -/
theorem zo_eq {x y : PyData} (hx : SeqAt.shaped x = true) (hy : SeqAt.shaped y = true) (q : Q (.d (.bool (PyData.eqv x y))) M) : ZO K (rEqD K) (.d x) (.d y) M Q :=
  zo_val (z := .d (.bool (PyData.eqv x y))) (fun G H v u e a b => ⟨_, .bl _, fun Qv h => ⟨x, y, dz_dp (dp_mono e a), dz_dp (dp_mono e b), hx, hy, h⟩⟩) q
theorem zo_ne {x y : PyData} (hx : SeqAt.shaped x = true) (hy : SeqAt.shaped y = true) (q : Q (.d (.bool (!PyData.eqv x y))) M) : ZO K (rNeD K) (.d x) (.d y) M Q :=
  zo_val (z := .d (.bool (!PyData.eqv x y))) (fun G H v u e a b => ⟨_, .bl _, fun Qv h => ⟨x, y, dz_dp (dp_mono e a), dz_dp (dp_mono e b), hx, hy, h⟩⟩) q
abbrev rAddS1 : R2 := fun x y H Q => ∃ i j, x = .str i ∧ y = .str j ∧ i.length + j.length ≤ sizeLine ∧ Q (.str (i ++ j)) H
theorem zo_addS {x y : Str} (hl : x.length + y.length ≤ sizeLine) (q : Q (.d (.str (x ++ y))) M) : ZO K rAddS1 (.d (.str x)) (.d (.str y)) M Q :=
  zo_val (z := .d (.str (x ++ y))) (fun G H v u e a b => ⟨_, .str _, fun Qv h => ⟨x, y, dp_str a, dp_str b, hl, h⟩⟩) q

/-! ### arguments, displays -/
theorem za_nil {Q : List ZV → Ms → Prop} (q : Q [] M) : ZA K E tNil S M Q X := fun n σ G H R Qv k _ => k [] G H [] M (Ex.refl G) R .nil q
theorem za_cons {Q : List ZV → Ms → Prop} (h : ZW K E te S M (fun x M1 => ZA K E tA S M1 (fun zs M2 => Q (x :: zs) M2) X) X) : ZA K E (tCons te tA) S M Q X := fun n σ G H R Qv k kx =>
  h n σ G H R _ (fun v G1 H1 x M1 e1 R1 a1 h1 => h1 n σ G1 H1 R1 _ (fun vs G2 H2 zs M2 e2 R2 a2 q => k (v :: vs) G2 H2 (x :: zs) M2 (e1.trans e2) R2 (.cons (ZV.mono e2 a1) a2) q) (kx.mono e1)) kx
/-- all plain data -/
def AllD (zs : List ZV) (ds : List PyData) : Prop := zs = ds.map .d
theorem allD_nil : AllD [] [] := rfl
theorem allD_cons {d : PyData} {zs : List ZV} {ds : List PyData} (h : AllD zs ds) : AllD (.d d :: zs) (d :: ds) := by unfold AllD at *; rw [h]; rfl
theorem zw_tup (h : ZA K E tA S M (fun zs M1 => ∃ ds, AllD zs ds ∧ ds.length ≤ sizeLine ∧ Q (.d (.tuple ds)) M1) X) : ZW K E (tTup tA) S M Q X := fun n σ G H R Qv k kx =>
  h n σ G H R _ (fun vs G1 H1 zs M1 e1 R1 a1 ⟨ds, hd, hl, q⟩ => by
    have a2 : DzAll K G1 vs ds := zall_d (by rw [← hd]; exact a1)
    refine ⟨by rw [dpa_len a2]; exact hl, fun p hp => ?_⟩
    have g := ex_gnone R1.ex hp
    exact k (.ref p) _ _ (.d (.tuple ds)) M1 (e1.trans (Ex.new g)) (R1.new hp (fun _ z => nomatch z)) (.tup (.inl upd_same) (dpAll_mono (Ex.new g) a2)) q) kx
/-- a list: frozen at once | a cell -/
theorem zw_lstD (h : ZA K E tA S M (fun zs M1 => ∃ ds, AllD zs ds ∧ ds.length ≤ sizeLine ∧ Q (.d (.list ds)) M1) X) : ZW K E (tLst tA) S M Q X := fun n σ G H R Qv k kx =>
  h n σ G H R _ (fun vs G1 H1 zs M1 e1 R1 a1 ⟨ds, hd, hl, q⟩ => by
    have a2 : DzAll K G1 vs ds := zall_d (by rw [← hd]; exact a1)
    refine ⟨by rw [dpa_len a2]; exact hl, fun p hp => ?_⟩
    have g := ex_gnone R1.ex hp
    exact k (.ref p) _ _ (.d (.list ds)) M1 (e1.trans (Ex.new g)) (R1.new hp (fun _ z => nomatch z)) (.lst (Evl.sq_of upd_same) (dpAll_mono (Ex.new g) a2)) q) kx
theorem zw_lstC (h : ZA K E tA S M (fun zs M1 => ∃ ds, AllD zs ds ∧ ds.length ≤ sizeLine ∧ ∀ p, Q (.c p) ((p, true, .lst ds) :: M1)) X) : ZW K E (tLst tA) S M Q X := fun n σ G H R Qv k kx =>
  h n σ G H R _ (fun vs G1 H1 zs M1 e1 R1 a1 ⟨ds, hd, hl, q⟩ => by
    have a2 : DzAll K G1 vs ds := zall_d (by rw [← hd]; exact a1)
    exact ⟨by rw [dpa_len a2]; exact hl, fun p hp => k (.ref p) _ _ (.c p) _ e1 (R1.newLst hp a2) rfl (q p)⟩) kx
/-- an own list is taken as data from here on -/
theorem zw_frz (h : ZW K E te S M (fun z M1 => ∃ p xs M2, z = .c p ∧ Rem1 p true (.lst xs) M1 M2 ∧ Q (.d (.list xs)) M2) X) : ZW K E te S M Q X := fun n σ G H R Qv k kx =>
  h n σ G H R _ (fun v G1 H1 z M1 e1 R1 a1 ⟨p, xs, M2, hz, hr, q⟩ => by
    subst hz
    obtain ⟨G2, e2, R2, d2⟩ := R1.frz hr
    have ev : v = .ref p := a1
    subst ev
    exact k _ G2 H1 (.d (.list xs)) M2 (e1.trans e2) R2 d2 q) kx

/-! ### tests, and, or, not, if .. else -/
theorem zt_test {Q : Bool → Ms → Prop} (h : ZW K E te S M (fun z M1 => ∃ b, z = .d (.bool b) ∧ Q b M1) X) : ZT K E (tTest te) S M Q X := fun n σ G H R Qv k kx =>
  h n σ G H R _ (fun v G1 H1 z M1 e1 R1 a1 ⟨b, hz, q⟩ => by subst hz; exact ⟨b, dp_bl a1, k b G1 H1 M1 e1 R1 q⟩) kx
theorem zt_B {Q : Bool → Ms → Prop} (h : ZW K E te S M (fun z M1 => ∃ b, z = .d (.bool b) ∧ Q b M1) X) : ZT K E (tB te) S M Q X := fun n σ G H R Qv k kx =>
  h n σ G H R _ (fun v G1 H1 z M1 e1 R1 a1 ⟨b, hz, q⟩ => by subst hz; exact ⟨b, dp_bl a1, k b G1 H1 M1 e1 R1 q⟩) kx
/-- a value's truth -/
def dTru : PyData → Option Bool
  | .none => some false
  | .bool b => some b
  | .int i => some (i != 0)
  | .str y => if y.length ≤ sizeLine then some ((y.length : Int) != 0) else none
  | .list xs => some (!xs.isEmpty)
  | .tuple xs => some (!xs.isEmpty)
  | .dict _ => none
theorem dTru_ok {K : Fg} {G : Hp} {v : V} {d : PyData} {b : Bool} (h : Dz K G v d) (e : dTru d = some b) : TruV K v G b := by
  cases h with
  | non => exact (Option.some.inj e).symm
  | bl x => exact (Option.some.inj e).symm
  | int i => exact (Option.some.inj e).symm
  | str y =>
    simp only [dTru] at e
    split at e
    · rename_i hl; exact ⟨hl, (Option.some.inj e).symm⟩
    · cases e
  | lst s a =>
    refine .inl ⟨_, s, ?_⟩
    have := dpa_len a
    have e := Option.some.inj e
    rw [← e]
    cases a <;> rfl
  | tup s a =>
    refine .inr (.inl ⟨_, s.sq, ?_⟩)
    have e := Option.some.inj e
    rw [← e]
    cases a <;> rfl
theorem truV_mono {K : Fg} {G H : Hp} (e : Ex G H) {v : V} {b : Bool} (h : TruV K v G b) : TruV K v H b := by
  cases v with
  | ref p =>
    rcases h with ⟨xs, s, z⟩ | ⟨xs, s, z⟩ | ⟨kvs, s, z⟩
    · exact .inl ⟨xs, Evl.ex_l e s, z⟩
    · exact .inr (.inl ⟨xs, Evl.ex_t e s, z⟩)
    · exact .inr (.inr ⟨kvs, e _ _ s, z⟩)
  | _ => exact h
theorem zt_tru {Q : Bool → Ms → Prop} (h : ZW K E te S M (fun z M1 => ∃ d b, z = .d d ∧ dTru d = some b ∧ Q b M1) X) : ZT K E (fun σ H Q => te σ H fun x H' => ∃ k, TruV K x H' k ∧ Q k H') S M Q X := fun n σ G H R Qv k kx =>
  h n σ G H R _ (fun v G1 H1 z M1 e1 R1 a1 ⟨d, b, hz, hb, q⟩ => by subst hz; exact ⟨b, truV_mono R1.ex (dTru_ok a1 hb), k b G1 H1 M1 e1 R1 q⟩) kx
/-- an own list's truth -/
theorem zt_truC {Q : Bool → Ms → Prop} (h : ZW K E te S M (fun z M1 => ∃ p b xs, z = .c p ∧ (p, b, CD.lst xs) ∈ M1 ∧ Q (!xs.isEmpty) M1) X) : ZT K E (fun σ H Q => te σ H fun x H' => ∃ k, TruV K x H' k ∧ Q k H') S M Q X := fun n σ G H R Qv k kx =>
  h n σ G H R _ (fun v G1 H1 z M1 e1 R1 a1 ⟨p, b, xs, hz, hm, q⟩ => by
    subst hz
    obtain ⟨_, ws, hw, hd⟩ := R1.ce p b _ hm
    have ev : v = .ref p := a1
    subst ev
    refine ⟨!xs.isEmpty, .inl ⟨ws, Evl.sq_of hw, ?_⟩, k _ G1 H1 M1 e1 R1 q⟩
    cases hd <;> rfl) kx
theorem zt_not {Q : Bool → Ms → Prop} (h : ZT K E t S M (fun b M1 => Q (!b) M1) X) : ZT K E (tNot t) S M Q X := fun n σ G H R Qv k kx =>
  h n σ G H R _ (fun b G1 H1 M1 e1 R1 q => k (!b) G1 H1 M1 e1 R1 q) kx
theorem zt_and {Q : Bool → Ms → Prop} (h : ZT K E t S M (fun b M1 => (b = false → Q false M1) ∧ (b = true → ZT K E u S M1 Q X)) X) : ZT K E (tAnd t u) S M Q X := fun n σ G H R Qv k kx =>
  h n σ G H R _ (fun b G1 H1 M1 e1 R1 q => by
    cases b with
    | true =>
      show u σ H1 Qv
      exact q.2 rfl n σ G1 H1 R1 Qv (fun b G2 H2 M2 e2 R2 q2 => k b G2 H2 M2 (e1.trans e2) R2 q2) (kx.mono e1)
    | false =>
      show Qv false H1
      exact k false G1 H1 M1 e1 R1 (q.1 rfl)) kx
theorem zt_or {Q : Bool → Ms → Prop} (h : ZT K E t S M (fun b M1 => (b = true → Q true M1) ∧ (b = false → ZT K E u S M1 Q X)) X) : ZT K E (tOr t u) S M Q X := fun n σ G H R Qv k kx =>
  h n σ G H R _ (fun b G1 H1 M1 e1 R1 q => by
    cases b with
    | true =>
      show Qv true H1
      exact k true G1 H1 M1 e1 R1 (q.1 rfl)
    | false =>
      show u σ H1 Qv
      exact q.2 rfl n σ G1 H1 R1 Qv (fun b G2 H2 M2 e2 R2 q2 => k b G2 H2 M2 (e1.trans e2) R2 q2) (kx.mono e1)) kx
theorem zw_andV (h : ZW K E ta S M (fun z M1 => ∃ b, z = .d (.bool b) ∧ (b = false → Q (.d (.bool false)) M1) ∧ (b = true → ZW K E tb S M1 Q X)) X) : ZW K E (tAndV ta tb) S M Q X := fun n σ G H R Qv k kx =>
  h n σ G H R _ (fun v G1 H1 z M1 e1 R1 a1 ⟨b, hz, q⟩ => by
    subst hz
    refine ⟨b, dp_bl a1, ?_⟩
    cases b with
    | true =>
      show tb σ H1 Qv
      exact q.2 rfl n σ G1 H1 R1 Qv (fun w G2 H2 z M2 e2 R2 a2 q2 => k w G2 H2 z M2 (e1.trans e2) R2 a2 q2) (kx.mono e1)
    | false =>
      show Qv (.bl false) H1
      exact k _ G1 H1 (.d (.bool false)) M1 e1 R1 (Dz.bl false) (q.1 rfl)) kx
theorem zw_orV (h : ZW K E ta S M (fun z M1 => ∃ b, z = .d (.bool b) ∧ (b = true → Q (.d (.bool true)) M1) ∧ (b = false → ZW K E tb S M1 Q X)) X) : ZW K E (tOrV ta tb) S M Q X := fun n σ G H R Qv k kx =>
  h n σ G H R _ (fun v G1 H1 z M1 e1 R1 a1 ⟨b, hz, q⟩ => by
    subst hz
    refine ⟨b, dp_bl a1, ?_⟩
    cases b with
    | true =>
      show Qv (.bl true) H1
      exact k _ G1 H1 (.d (.bool true)) M1 e1 R1 (Dz.bl true) (q.1 rfl)
    | false =>
      show tb σ H1 Qv
      exact q.2 rfl n σ G1 H1 R1 Qv (fun w G2 H2 z M2 e2 R2 a2 q2 => k w G2 H2 z M2 (e1.trans e2) R2 a2 q2) (kx.mono e1)) kx
theorem zw_notV (h : ZW K E ta S M (fun z M1 => ∃ b, z = .d (.bool b) ∧ Q (.d (.bool (!b))) M1) X) : ZW K E (tNotV ta) S M Q X := fun n σ G H R Qv k kx =>
  h n σ G H R _ (fun v G1 H1 z M1 e1 R1 a1 ⟨b, hz, q⟩ => by subst hz; exact ⟨b, dp_bl a1, k _ G1 H1 (.d (.bool (!b))) M1 e1 R1 (Dz.bl (!b)) q⟩) kx
theorem zw_if (h : ZT K E t S M (fun b M1 => (b = true → ZW K E ta S M1 Q X) ∧ (b = false → ZW K E tb S M1 Q X)) X) : ZW K E (tIf t ta tb) S M Q X := fun n σ G H R Qv k kx =>
  h n σ G H R _ (fun b G1 H1 M1 e1 R1 q => by
    cases b with
    | true =>
      show ta σ H1 Qv
      exact q.1 rfl n σ G1 H1 R1 Qv (fun w G2 H2 z M2 e2 R2 a2 q2 => k w G2 H2 z M2 (e1.trans e2) R2 a2 q2) (kx.mono e1)
    | false =>
      show tb σ H1 Qv
      exact q.2 rfl n σ G1 H1 R1 Qv (fun w G2 H2 z M2 e2 R2 a2 q2 => k w G2 H2 z M2 (e1.trans e2) R2 a2 q2) (kx.mono e1)) kx
end
end Z
namespace Z
open PySem PySem.Spec PyProof.Rows L2
open Evl (Ex)
section
variable {K : Fg} {E : L2.St → XK} {e0 : XK} {te ta tb tc : TE} {tA : TA} {tt : TT} {t u : TS} {S S' : Zs} {M M' : Ms} {P : ZP} {Q : QZ} {X : XZ} {n : Sn} {σ : L2.St} {G G' H H' : Hp}
/-! ### statements -/
theorem DOk.xok {D : Ends} (k : DOk K E n G P D) : XOk K (E σ) n σ G P.ex := fun cls d G' H' x S' M' e R a b => k.ex cls d σ G' H' x S' M' e R a b
theorem zs_never (h : False) : ZS K E t S M P := h.elim
theorem zs_next (h : P.nx S M) : ZS K E tNext S M P := fun n σ G H R D k => k.nx σ G H S M (Ex.refl G) R h
theorem zs_seq (h : ZS K E t S M { P with nx := fun S' M' => ZS K E u S' M' P }) : ZS K E (tSeq t u) S M P := fun n σ G H R D k =>
  h n σ G H R _ ⟨fun σ' G' H' S' M' e R' z => z n σ' G' H' R' D (k.mono e), k.rt, k.bk, k.ct, k.ex⟩
theorem zs_asg {i : Nat} (h : ZW K E te S M (fun z M1 => P.nx (S.set i (some z)) M1) P.ex) : ZS K E (tAsg te (gName i)) S M P := fun n σ G H R D k =>
  h n σ G H R _ (fun v G1 H1 z M1 e1 R1 a1 q => k.nx _ G1 H1 _ M1 e1 (R1.set a1) q) k.xok
theorem zs_drop (h : ZW K E te S M (fun _ M1 => P.nx S M1) P.ex) : ZS K E (tDrop te) S M P := fun n σ G H R D k =>
  h n σ G H R _ (fun v G1 H1 z M1 e1 R1 a1 q => k.nx _ G1 H1 S M1 e1 R1 q) k.xok
theorem zs_ret (h : ZW K E te S M P.rt P.ex) : ZS K E (tRet te) S M P := fun n σ G H R D k =>
  h n σ G H R _ (fun v G1 H1 z M1 e1 R1 a1 q => k.rt v σ G1 H1 z S M1 e1 R1 a1 q) k.xok
theorem zs_retN (h : P.rt (.d .none) M) : ZS K E tRetN S M P := fun n σ G H R D k => k.rt .non σ G H (.d .none) S M (Ex.refl G) R Dz.non h
theorem zs_if (h : ZT K E tt S M (fun b M1 => (b = true → ZS K E t S M1 P) ∧ (b = false → ZS K E u S M1 P)) P.ex) : ZS K E (tIfS tt t u) S M P := fun n σ G H R D k =>
  h n σ G H R _ (fun b G1 H1 M1 e1 R1 q => by
    cases b with
    | true =>
      show t D σ H1
      exact q.1 rfl n σ G1 H1 R1 D (k.mono e1)
    | false =>
      show u D σ H1
      exact q.2 rfl n σ G1 H1 R1 D (k.mono e1)) k.xok
theorem zs_aug {i : Nat} {f : Int → Int → Int} {a : Int} (hs : S[i]? = some (some (.d (.int a)))) (h : ZW K E te S M (fun z M1 => ∃ b, z = .d (.int b) ∧ P.nx (S.set i (some (.d (.int (f a b))))) M1) P.ex) : ZS K E (tAug i te (ipI f)) S M P := fun n σ G H R D k => by
  obtain ⟨v, h1, h2⟩ := R.sl i _ hs
  have e := dp_int h2
  subst e
  refine ⟨_, h1, h n σ G H R _ (fun v G1 H1 z M1 e1 R1 a1 ⟨b, hz, q⟩ => ?_) k.xok⟩
  subst hz
  exact ⟨a, b, rfl, dp_int a1, k.nx _ G1 H1 _ M1 e1 (R1.set (v := .int (f a b)) (z := .d (.int (f a b))) (Dz.int _)) q⟩
/-- what holds of the state may be weakened ahead of a statement -/
theorem zs_weak (h : ZS K E t S' M' P) (hl : S'.length = S.length) (hs : ∀ (i : Nat) (z : ZV), S'[i]? = some (some z) → S[i]? = some (some z)) (hm : M'.Sublist M) : ZS K E t S M P := fun n σ G H R D k =>
  h n σ G H ((R.weak hl hs).drop hm) D k
/-- a row[i] = e over an own list -/
theorem zs_setL {to ti : TE} (h : ZW K E te S M (fun z M1 => ∃ d, z = .d d ∧ ZW K E to S M1 (fun o M2 => ZW K E ti S M2 (fun y M3 => ∃ p b xs k j M4, o = .c p ∧ y = .d (.int k) ∧ ixN xs.length k = some j ∧ Upd1 p b (.lst xs) (.lst (xs.set j d)) M3 M4 ∧ P.nx S M4) P.ex) P.ex) P.ex) :
    ZS K E (tAsg te (gSub to ti rSetL)) S M P := fun n σ G H R D k =>
  h n σ G H R _ (fun v G1 H1 z M1 e1 R1 a1 ⟨d, hz, h2⟩ => by
    subst hz
    refine h2 n σ G1 H1 R1 _ (fun o G2 H2 zo M2 e2 R2 a2 h3 => h3 n σ G2 H2 R2 _ (fun y G3 H3 zi M3 e3 R3 a3 ⟨p, b, xs, kk, j, M4, ho, hy, hj, hu, q⟩ => ?_) (XOk.mono k.xok ((e1.trans e2)))) (XOk.mono k.xok e1)
    subst ho hy
    have ev : o = .ref p := a2
    subst ev
    obtain ⟨_, ws, h4, h5⟩ := R3.ce p b _ hu.mem
    exact ⟨p, ws, kk, j, rfl, dp_int a3, h4, by rw [dpa_len h5]; exact hj, k.nx _ G3 _ S M4 ((e1.trans e2).trans e3) (R3.putLst hu (dpa_set (dp_mono (e2.trans e3) a1) j h5)) q⟩) k.xok

theorem zs_par {i j : Nat} (h : ZA K E tA S M (fun zs M1 => ∃ z w, zs = [z, w] ∧ P.nx ((S.set i (some z)).set j (some w)) M1) P.ex) : ZS K E (tPar i j tA) S M P := fun n σ G H R D k =>
  h n σ G H R _ (fun vs G1 H1 zs M1 e1 R1 a1 ⟨z, w, hz, q⟩ => by
    subst hz
    cases a1 with
    | cons a b => cases b with | cons b c => cases c; exact ⟨_, _, rfl, k.nx _ G1 H1 _ M1 e1 ((R1.set a).set b) q⟩) k.xok
def SuiteP (P : ZP) (i : Nat) : ZP := { P with nx := fun S2 M2 => P.nx (S2.set i none) M2, bk := fun S2 M2 => P.bk (S2.set i none) M2, ct := fun S2 M2 => P.ct (S2.set i none) M2 }
/-- try: .. except C as n: suite, the suite's slot i -/
theorem zs_try {tb : WX → TS} {c : Value} {i : Nat} {ts : Addr → Value → Option Addr → TS} {Wout : WX}
    (h : ∀ W : WX, ZS K (fun σ cls d H => W cls d σ H) (tb W) S M { P with ex := fun x S' M' => PySem.W.exmOne K (.ref x.cls) c = some true ∧ ∀ a d, ZS K E (ts a (.ref x.cls) d) (S'.set i (some (.e a (.ref x.cls) d x))) M' (SuiteP P i) }) :
    ZS K E (fun D σ H => tb (wAs K c i ts Wout D) D σ H) S M P := fun n σ G H R D k =>
  h (wAs K c i ts Wout D) n σ G H R D ⟨k.nx, k.rt, k.bk, k.ct, fun cls d σ' G' H' x S' M' e R' a ⟨he, hs⟩ => by
    have ec : cls = .ref x.cls := a.1
    subst ec
    refine ⟨true, he, fun _ ad _ => ?_, fun z => nomatch z⟩
    exact hs ad d n _ G' H' (R'.set (v := .ref ad) (z := .e ad (.ref x.cls) d x) ⟨rfl, a⟩) _
      ⟨fun σ2 G2 H2 S2 M2 e2 R2 q => k.nx _ G2 H2 _ M2 (e.trans e2) R2.unset q, fun v σ2 G2 H2 z S2 M2 e2 => k.rt v σ2 G2 H2 z S2 M2 (e.trans e2), fun σ2 G2 H2 S2 M2 e2 R2 q => k.bk _ G2 H2 _ M2 (e.trans e2) R2.unset q,
       fun σ2 G2 H2 S2 M2 e2 R2 q => k.ct _ G2 H2 _ M2 (e.trans e2) R2.unset q, fun cls' d' σ2 G2 H2 x' S2 M2 e2 => k.ex cls' d' σ2 G2 H2 x' S2 M2 (e.trans e2)⟩⟩

/-! ### the defs' promises -/
inductive DOut where
  | ok (d : PyData)
  | ex (x : XD)
/-- a def over data: R its graph -/
def spD (K : Fg) (k : Nat) (R : List PyData → DOut → Prop) : Sp := fun vs H Q E => ∃ (G : Hp) (ds : List PyData) (o : DOut), Ex G H ∧ ds.length = k ∧ DzAll K G vs ds ∧ R ds o ∧
  (∀ d, o = .ok d → ∀ v G' H', Ext [] G H G' H' → Dz K G' v d → Q v H') ∧ (∀ x, o = .ex x → ∀ cls dd G' H', Ext [] G H G' H' → XAt K G' cls dd x → E cls dd H')
/-- a def whose first argument is an own list, which it may write -/
def spC (K : Fg) (k : Nat) (R : List PyData → List PyData → (DOut → List PyData → Prop) → Prop) : Sp := fun vs H Q E => ∃ (G : Hp) (p : Addr) (xs : List PyData) (us : List V) (ds : List PyData) (F : DOut → List PyData → Prop), vs = .ref p :: us ∧ ds.length = k ∧ Ex G H ∧ G p = none ∧ CD.at K G H p (.lst xs) ∧ DzAll K G us ds ∧ R xs ds F ∧
  (∀ o ys, F o ys → (∀ d, o = .ok d → ∀ v G' H', Ext [p] G H G' H' → (∀ a x, H a = some (.own x) → H' a = some (.own x)) → CD.at K G' H' p (.lst ys) → Dz K G' v d → Q v H') ∧
  (∀ x, o = .ex x → ∀ cls dd G' H', Ext [p] G H G' H' → (∀ a x, H a = some (.own x) → H' a = some (.own x)) → CD.at K G' H' p (.lst ys) → XAt K G' cls dd x → E cls dd H'))
/-- a method of an own object: fields before and behind -/
def spO (K : Fg) (C : Addr) (k : Nat) (R : List (Str × ZV) → List PyData → DOut → List (Str × ZV) → Prop) : Sp := fun vs H Q E => ∃ (G : Hp) (p : Addr) (fs : List (Str × ZV)) (us : List V) (ds : List PyData) (o : DOut) (fs' : List (Str × ZV)), vs = .ref p :: us ∧ ds.length = k ∧ Ex G H ∧ G p = none ∧ CD.at K G H p (.obj C fs) ∧ DzAll K G us ds ∧ R fs ds o fs' ∧
  (∀ d, o = .ok d → ∀ v G' H', Ext [p] G H G' H' → (∀ a x, H a = some (.own x) → H' a = some (.own x)) → CD.at K G' H' p (.obj C fs') → Dz K G' v d → Q v H') ∧
  (∀ x, o = .ex x → ∀ cls dd G' H', Ext [p] G H G' H' → (∀ a x, H a = some (.own x) → H' a = some (.own x)) → CD.at K G' H' p (.obj C fs') → XAt K G' cls dd x → E cls dd H')
def PFn (o : DOut) : ZP := ⟨fun _ _ => o = .ok .none, fun z _ => ∃ d, z = .d d ∧ o = .ok d, fun _ _ => False, fun _ _ => False, fun x _ _ => o = .ex x⟩
def PFc (p : Addr) (o : DOut) (c : CD) : ZP := ⟨fun _ M => o = .ok .none ∧ (p, false, c) ∈ M, fun z M => (∃ d, z = .d d ∧ o = .ok d) ∧ (p, false, c) ∈ M, fun _ _ => False, fun _ _ => False, fun x _ M => o = .ex x ∧ (p, false, c) ∈ M⟩
def PFl (p : Addr) (F : DOut → List PyData → Prop) : ZP := ⟨fun _ M => ∃ ys, F (.ok .none) ys ∧ (p, false, .lst ys) ∈ M, fun z M => ∃ d ys, z = .d d ∧ F (.ok d) ys ∧ (p, false, .lst ys) ∈ M, fun _ _ => False, fun _ _ => False, fun x _ M => ∃ ys, F (.ex x) ys ∧ (p, false, .lst ys) ∈ M⟩
def stS (ds : List PyData) : Zs := ds.map fun d => some (.d d)
theorem stS_get {vs : List V} {ds : List PyData} (h : DzAll K G vs ds) (k : Nat) : ∀ (i : Nat) (z : ZV), (stS ds ++ List.replicate k none)[i]? = some (some z) → ∃ v, (vs.map some ++ List.replicate k none)[i]? = some (some v) ∧ ZV.at K G v z := fun i z e => by
  have hl := dpa_len h
  by_cases hi : i < ds.length
  · rw [List.getElem?_append_left (by simpa [stS] using hi)] at e
    simp only [stS, List.getElem?_map] at e
    cases q : ds[i]? with
    | none => rw [q] at e; cases e
    | some d =>
      rw [q] at e
      simp only [Option.map_some, Option.some.injEq] at e
      subst e
      obtain ⟨v, h1, h2⟩ := dpa_get h q
      refine ⟨v, ?_, h2⟩
      rw [List.getElem?_append_left (by simpa [hl] using hi), List.getElem?_map, h1]
      rfl
  · rw [List.getElem?_append_right (by simpa [stS] using hi), List.getElem?_replicate] at e
    split at e <;> cases e
theorem rel_start {N : List Str} {vs : List V} {ds : List PyData} (e : Ex G H) (h : DzAll K G vs ds) : Rel K ⟨G, H, []⟩ (stS ds ++ List.replicate (N.length - ds.length) none) [] (L2.start N vs) G H where
  ex := e
  len := by unfold L2.start; simp [stS, dpa_len h]
  sl := fun i z q => by
    unfold L2.start
    rw [dpa_len h]
    exact stS_get h _ i z q
  nd := List.nodup_nil
  ce := fun _ _ _ q => by simp at q
  g0 := Ex.refl G
  h0 := fun _ _ q _ => q
  lv := fun _ o q => ⟨o, q⟩
  f0 := fun _ _ _ q => .inl q
  a0 := fun _ _ q => by simp at q
  o0 := fun _ _ q => by simp at q
theorem rel_startC {N : List Str} {p : Addr} {c : CD} {vs : List V} {ds : List PyData} (e : Ex G H) (hp : G p = none) (hc : CD.at K G H p c) (h : DzAll K G vs ds) :
    Rel K ⟨G, H, [p]⟩ (some (.c p) :: (stS ds ++ List.replicate (N.length - (ds.length + 1)) none)) [(p, false, c)] (L2.start N (.ref p :: vs)) G H where
  ex := e
  len := by unfold L2.start; simp [stS, dpa_len h]
  sl := fun i z q => by
    unfold L2.start
    cases i with
    | zero => simp at q; subst q; exact ⟨.ref p, rfl, rfl⟩
    | succ i =>
      simp only [List.getElem?_cons_succ] at q
      obtain ⟨v, h1, h2⟩ := stS_get h _ i z q
      exact ⟨v, by simpa [dpa_len h] using h1, h2⟩
  nd := by simp
  ce := fun q b c' hm => by
    simp at hm
    obtain ⟨rfl, rfl, rfl⟩ := hm
    exact ⟨hp, hc⟩
  g0 := Ex.refl G
  h0 := fun _ _ q _ => q
  lv := fun _ o q => ⟨o, q⟩
  f0 := fun _ _ _ q => .inl q
  a0 := fun q c' hm => by simp at hm; simp [hm.1]
  o0 := fun q c' hm => by simp at hm
theorem fn_D {R : List PyData → DOut → Prop} {k : Nat} {N : List Str} {vs : List V} {Qv : VK} (h : spD K k R vs H Qv e0) (b : ∀ ds o, ds.length = k → R ds o → ZS K (fun _ => e0) t (stS ds ++ List.replicate (N.length - ds.length) none) [] (PFn o)) : t { nx := fun _ H' => Qv .non H', rt := Qv } (L2.start N vs) H := by
  obtain ⟨G, ds, o, e, hk, hd, hR, q1, q2⟩ := h
  refine b ds o hk hR ⟨G, H, []⟩ _ G H (rel_start e hd) _ ⟨fun σ' G' H' S' M' _ R z => ?_, fun v σ' G' H' z S' M' _ R a z' => ?_, fun _ _ _ _ _ _ _ z => z.elim, fun _ _ _ _ _ _ _ z => z.elim, fun cls d σ' G' H' x S' M' _ R a z => ?_⟩
  · exact q1 _ z .non G' H' R.ext .non
  · obtain ⟨d, rfl, z'⟩ := z'
    exact q1 _ z' v G' H' R.ext a
  · exact q2 _ z cls d G' H' R.ext a
theorem Rel.own (R : Rel K n S M σ G H) (hk : ∀ a x, n.H a = some (.own x) → a ∉ n.A) : ∀ a x, n.H a = some (.own x) → H a = some (.own x) := fun a x h => R.h0 a _ h (hk a x h)
theorem fn_C {R : List PyData → List PyData → (DOut → List PyData → Prop) → Prop} {kk : Nat} {N : List Str} {vs : List V} {Qv : VK} (h : spC K kk R vs H Qv e0)
    (b : ∀ p xs ds F, ds.length = kk → R xs ds F → ZS K (fun _ => e0) t (some (.c p) :: (stS ds ++ List.replicate (N.length - (ds.length + 1)) none)) [(p, false, .lst xs)] (PFl p F)) : t { nx := fun _ H' => Qv .non H', rt := Qv } (L2.start N vs) H := by
  obtain ⟨G, p, xs, us, ds, F, rfl, hkk, e, hp, hc, hd, hR, qq⟩ := h
  have hk : ∀ a x, H a = some (.own x) → a ∉ [p] := fun a x h1 z => by
    have z : a = p := by simpa using z
    obtain ⟨ws, h2, _⟩ := hc
    rw [z, h2] at h1
    cases h1
  refine b p xs ds F hkk hR ⟨G, H, [p]⟩ _ G H (rel_startC e hp hc hd) _ ⟨fun σ' G' H' S' M' _ R z => ?_, fun v σ' G' H' z S' M' _ R a z' => ?_, fun _ _ _ _ _ _ _ z => z.elim, fun _ _ _ _ _ _ _ z => z.elim, fun cls d σ' G' H' x S' M' _ R a z => ?_⟩
  · obtain ⟨ys, z1, z2⟩ := z
    exact (qq _ ys z1).1 _ rfl .non G' H' R.ext (R.own hk) (R.ce _ _ _ z2).2 .non
  · obtain ⟨d, ys, rfl, z1, z2⟩ := z'
    exact (qq _ ys z1).1 _ rfl v G' H' R.ext (R.own hk) (R.ce _ _ _ z2).2 a
  · obtain ⟨ys, z1, z2⟩ := z
    exact (qq _ ys z1).2 _ rfl cls d G' H' R.ext (R.own hk) (R.ce _ _ _ z2).2 a
theorem fn_O {C : Addr} {R : List (Str × ZV) → List PyData → DOut → List (Str × ZV) → Prop} {kk : Nat} {N : List Str} {vs : List V} {Qv : VK} (h : spO K C kk R vs H Qv e0)
    (b : ∀ p fs ds o fs', ds.length = kk → R fs ds o fs' → ZS K (fun _ => e0) t (some (.c p) :: (stS ds ++ List.replicate (N.length - (ds.length + 1)) none)) [(p, false, .obj C fs)] (PFc p o (.obj C fs'))) : t { nx := fun _ H' => Qv .non H', rt := Qv } (L2.start N vs) H := by
  obtain ⟨G, p, xs, us, ds, o, ys, rfl, hkk, e, hp, hc, hd, hR, q1, q2⟩ := h
  have hk : ∀ a x, H a = some (.own x) → a ∉ [p] := fun a x h1 z => by
    have z : a = p := by simpa using z
    obtain ⟨dx, ws, h2, _⟩ := hc
    rw [z, h2] at h1
    cases h1
  refine b p xs ds o ys hkk hR ⟨G, H, [p]⟩ _ G H (rel_startC e hp hc hd) _ ⟨fun σ' G' H' S' M' _ R z => ?_, fun v σ' G' H' z S' M' _ R a z' => ?_, fun _ _ _ _ _ _ _ z => z.elim, fun _ _ _ _ _ _ _ z => z.elim, fun cls d σ' G' H' x S' M' _ R a z => ?_⟩
  · exact q1 _ z.1 .non G' H' R.ext (R.own hk) (R.ce _ _ _ z.2).2 .non
  · obtain ⟨⟨d, rfl, z'⟩, zm⟩ := z'
    exact q1 _ z' v G' H' R.ext (R.own hk) (R.ce _ _ _ zm).2 a
  · exact q2 _ z.1 cls d G' H' R.ext (R.own hk) (R.ce _ _ _ z.2).2 a
theorem len_D {R : List PyData → DOut → Prop} {k : Nat} {vs : List V} {Qv : VK} (h : spD K k R vs H Qv e0) : vs.length = k := by
  obtain ⟨G, ds, o, e, hk, hd, h1, _⟩ := h
  rw [dpa_len hd, hk]
theorem len_C {R : List PyData → List PyData → (DOut → List PyData → Prop) → Prop} {k : Nat} {vs : List V} {Qv : VK} (h : spC K k R vs H Qv e0) : vs.length = k + 1 := by
  obtain ⟨G, p, xs, us, ds, F, rfl, hk, e, hp, hc, hd, h1, _⟩ := h
  rw [List.length_cons, dpa_len hd, hk]
theorem len_O {C : Addr} {R : List (Str × ZV) → List PyData → DOut → List (Str × ZV) → Prop} {k : Nat} {vs : List V} {Qv : VK} (h : spO K C k R vs H Qv e0) : vs.length = k + 1 := by
  obtain ⟨G, p, xs, us, ds, o, ys, rfl, hk, e, hp, hc, hd, h1, _⟩ := h
  rw [List.length_cons, dpa_len hd, hk]

/-! ### calls: e0 what is wanted of an exception; E0 nothing (none is raised here) -/
theorem zw_call {ar : Nat} {R : List PyData → DOut → Prop} (h : ZA K (fun _ => e0) tA S M (fun zs M1 => ∃ ds o, AllD zs ds ∧ ds.length = ar ∧ R ds o ∧ (∀ d, o = .ok d → Q (.d d) M1) ∧ (∀ x, o = .ex x → X x S M1)) X) : ZW K (fun _ => e0) (tCall (spD K ar R) [] e0 tA) S M Q X := fun n σ G H Rl Qv k kx =>
  h n σ G H Rl _ (fun vs G1 H1 zs M1 e1 R1 a1 ⟨ds, o, hd, hk, hR, q1, q2⟩ => by
    refine ⟨G1, ds, o, R1.ex, hk, ?_, hR, fun d ho v G' H' e a => k v G' H' (.d d) M1 (e1.trans e.g) (R1.call e) a (q1 d ho), fun x ho cls dd G' H' e a => kx cls dd G' H' x S M1 (e1.trans e.g) (R1.call e) a (q2 x ho)⟩
    rw [List.append_nil]
    exact zall_d (by rw [← hd]; exact a1)) kx
theorem zw_callS {ar : Nat} {R : List PyData → DOut → Prop} (h : ZA K E tA S M (fun zs M1 => ∃ ds o, AllD zs ds ∧ ds.length = ar ∧ R ds o ∧ (∀ d, o = .ok d → Q (.d d) M1) ∧ (∀ x, o = .ex x → X x S M1)) X) : ZW K E (tCallS (spD K ar R) E tA) S M Q X := fun n σ G H Rl Qv k kx =>
  h n σ G H Rl _ (fun vs G1 H1 zs M1 e1 R1 a1 ⟨ds, o, hd, hk, hR, q1, q2⟩ =>
    ⟨G1, ds, o, R1.ex, hk, zall_d (by rw [← hd]; exact a1), hR, fun d ho v G' H' e a => k v G' H' (.d d) M1 (e1.trans e.g) (R1.call e) a (q1 d ho), fun x ho cls dd G' H' e a => kx cls dd G' H' x S M1 (e1.trans e.g) (R1.call e) a (q2 x ho)⟩) kx
theorem zw_call0 {ar : Nat} {R : List PyData → DOut → Prop} (h : ZA K E tA S M (fun zs M1 => ∃ ds d, AllD zs ds ∧ ds.length = ar ∧ R ds (.ok d) ∧ Q (.d d) M1) X) : ZW K E (tCall (spD K ar R) [] E0 tA) S M Q X := fun n σ G H Rl Qv k kx =>
  h n σ G H Rl _ (fun vs G1 H1 zs M1 e1 R1 a1 ⟨ds, d, hd, hk, hR, q1⟩ => by
    refine ⟨G1, ds, .ok d, R1.ex, hk, ?_, hR, fun d' ho v G' H' e a => k v G' H' (.d d') M1 (e1.trans e.g) (R1.call e) a (by cases ho; exact q1), fun x ho => nomatch ho⟩
    rw [List.append_nil]
    exact zall_d (by rw [← hd]; exact a1)) kx
def FC (p : Addr) (b : Bool) (xs : List PyData) (S : Zs) (M1 : Ms) (Q : QZ) (X : XZ) : DOut → List PyData → Prop := fun o ys => ∃ M2, Upd1 p b (.lst xs) (.lst ys) M1 M2 ∧ (∀ d, o = .ok d → Q (.d d) M2) ∧ (∀ x, o = .ex x → X x S M2)
theorem zw_callC {ar : Nat} {R : List PyData → List PyData → (DOut → List PyData → Prop) → Prop} (h : ZA K (fun _ => e0) tA S M (fun zs M1 => ∃ p b xs zs' ds, zs = .c p :: zs' ∧ (p, b, CD.lst xs) ∈ M1 ∧ AllD zs' ds ∧ ds.length = ar ∧ R xs ds (FC p b xs S M1 Q X)) X) : ZW K (fun _ => e0) (tCall (spC K ar R) [] e0 tA) S M Q X := fun n σ G H Rl Qv k kx =>
  h n σ G H Rl _ (fun vs G1 H1 zs M1 e1 R1 a1 ⟨p, b, xs, zs', ds, hz, hm, hd, hk, hR⟩ => by
    subst hz
    cases a1 with
    | cons a1 a2 =>
      have ev := a1
      obtain ⟨hp, hc⟩ := R1.ce p b _ hm
      subst ev
      refine ⟨G1, p, xs, _, ds, _, by rw [List.append_nil], hk, R1.ex, hp, hc, zall_d (by rw [← hd]; exact a2), hR, fun o ys ⟨M2, hu, q1, q2⟩ => ⟨fun d ho v G' H' e own hc' a => k v G' H' (.d d) M2 (e1.trans e.g) (R1.call1 e hu own hc') a (q1 d ho), fun x ho cls dd G' H' e own hc' a => kx cls dd G' H' x S M2 (e1.trans e.g) (R1.call1 e hu own hc') a (q2 x ho)⟩⟩) kx
def FC0 (p : Addr) (b : Bool) (xs : List PyData) (M1 : Ms) (Q : QZ) : DOut → List PyData → Prop := fun o ys => ∃ d M2, o = .ok d ∧ Upd1 p b (.lst xs) (.lst ys) M1 M2 ∧ Q (.d d) M2
theorem zw_callC0 {ar : Nat} {R : List PyData → List PyData → (DOut → List PyData → Prop) → Prop} (h : ZA K E tA S M (fun zs M1 => ∃ p b xs zs' ds, zs = .c p :: zs' ∧ (p, b, CD.lst xs) ∈ M1 ∧ AllD zs' ds ∧ ds.length = ar ∧ R xs ds (FC0 p b xs M1 Q)) X) : ZW K E (tCall (spC K ar R) [] E0 tA) S M Q X := fun n σ G H Rl Qv k kx =>
  h n σ G H Rl _ (fun vs G1 H1 zs M1 e1 R1 a1 ⟨p, b, xs, zs', ds, hz, hm, hd, hk, hR⟩ => by
    subst hz
    cases a1 with
    | cons a1 a2 =>
      have ev := a1
      obtain ⟨hp, hc⟩ := R1.ce p b _ hm
      subst ev
      refine ⟨G1, p, xs, _, ds, _, by rw [List.append_nil], hk, R1.ex, hp, hc, zall_d (by rw [← hd]; exact a2), hR, fun o ys ⟨d, M2, ho, hu, q⟩ => ?_⟩
      subst ho
      refine ⟨fun d' ho v G' H' e own hc' a => ?_, fun x ho => nomatch ho⟩
      cases ho
      exact k v G' H' (.d d) M2 (e1.trans e.g) (R1.call1 e hu own hc') a q) kx
/-- o.m(..), o an own object of the class C -/
theorem lookup_paired {fv : List (Str × V)} {fs : List (Str × ZV)} (h : Paired (fun (a : Str × V) (b : Str × ZV) => a.1 = b.1 ∧ ZV.at K G a.2 b.2) fv fs) (m : Str) : (fs.lookup m = none → fv.lookup m = none) ∧ (∀ z, fs.lookup m = some z → ∃ v, fv.lookup m = some v ∧ ZV.at K G v z) := by
  induction h with
  | nil => exact ⟨fun _ => rfl, fun z e => by cases e⟩
  | @cons a b l1 l2 q t ih =>
    obtain ⟨a1, a2⟩ := a
    obtain ⟨b1, b2⟩ := b
    obtain ⟨q1, q2⟩ := q
    dsimp only at q1 q2
    subst q1
    rw [List.lookup_cons, List.lookup_cons]
    split
    · refine ⟨fun e => (nomatch e), fun z e => ?_⟩
      have e := Option.some.inj e
      subst e
      exact ⟨_, rfl, q2⟩
    · exact ih
theorem zw_methO {ar : Nat} {C : Addr} {m : Str} {R : List (Str × ZV) → List PyData → DOut → List (Str × ZV) → Prop} (h : ZW K (fun _ => e0) te S M (fun z M0 => ∃ p, z = .c p ∧ (∃ b fs0, (p, b, CD.obj C fs0) ∈ M0 ∧ fs0.lookup m = none) ∧ ZA K (fun _ => e0) tA S M0 (fun zs M1 => ∃ b fs ds o fs' M2, AllD zs ds ∧ ds.length = ar ∧ R fs ds o fs' ∧ Upd1 p b (.obj C fs) (.obj C fs') M1 M2 ∧ (∀ d, o = .ok d → Q (.d d) M2) ∧ (∀ x, o = .ex x → X x S M2)) X) X) :
    ZW K (fun _ => e0) (tMeth C m (spO K C ar R) [] e0 te tA) S M Q X := fun n σ G H Rl Qv k kx =>
  h n σ G H Rl _ (fun v G0 H0 z M0 e0' R0 a0 ⟨p, hz, ⟨b0, fs0, hm0, hl0⟩, h2⟩ => by
    subst hz
    have ev : v = .ref p := a0
    subst ev
    obtain ⟨_, dx, fv, h3, h4, h5, h6⟩ := R0.ce p b0 _ hm0
    refine ⟨p, dx, fv, rfl, h3, (lookup_paired h6 m).1 hl0, h2 n σ G0 H0 R0 _ (fun vs G1 H1 zs M1 e1 R1 a1 ⟨b, fs, ds, o, fs', M2, hd, hk, hR, hu, q1, q2⟩ => ?_) (kx.mono e0')⟩
    obtain ⟨hp, hc⟩ := R1.ce p b _ hu.mem
    refine ⟨G1, p, fs, _, ds, o, fs', by rw [List.append_nil], hk, R1.ex, hp, hc, zall_d (by rw [← hd]; exact a1), hR, fun d ho v G' H' e own hc' a => k v G' H' (.d d) M2 ((e0'.trans e1).trans e.g) (R1.call1 e hu own hc') a (q1 d ho), fun x ho cls dd G' H' e own hc' a => kx cls dd G' H' x S M2 ((e0'.trans e1).trans e.g) (R1.call1 e hu own hc') a (q2 x ho)⟩) kx
end
end Z
namespace Z
open PySem PySem.Spec PyProof.Rows L2
open Evl (Ex)
section
variable {K : Fg} {E : L2.St → XK} {e0 : XK} {te ta tb tc : TE} {tA : TA} {tt : TT} {t u : TS} {S S' : Zs} {M M' : Ms} {P : ZP} {Q : QZ} {X : XZ} {n : Sn} {σ : L2.St} {G G' H H' : Hp}
/-! ### membership of cells -/
theorem m0 {q : Addr × Bool × CD} {M : Ms} : q ∈ q :: M := List.mem_cons_self
theorem m1 {q r : Addr × Bool × CD} {M : Ms} (h : q ∈ M) : q ∈ r :: M := List.mem_cons_of_mem _ h

/-! ### subscripts -/
def dIx : PyData → Int → Option PyData
  | .list ds, i => atI ds i
  | .tuple ds, i => atI ds i
  | .str z, i => if z.length ≤ sizeLine then (atI z.cps.toList i).map fun c => .str ⟨#[c]⟩ else none
  | _, _ => none
theorem dpa_at {vs : List V} {ds : List PyData} {i : Int} {d : PyData} (h : DzAll K G vs ds) (e : atI ds i = some d) : ∃ v, atI vs i = some v ∧ Dz K G v d := by
  unfold atI at e ⊢
  rw [← dpa_len h] at e
  cases q : ixN vs.length i with
  | none => rw [q] at e; cases e
  | some j =>
    rw [q] at e
    exact dpa_get h e
theorem zo_ix {x d : PyData} {i : Int} (h : dIx x i = some d) (q : Q (.d d) M) : ZO K (rIx K) (.d x) (.d (.int i)) M Q :=
  zo_val (z := .d d) (fun G H v u e a b => by
    have eu := dp_int b
    subst eu
    cases x with
    | list ds =>
      obtain ⟨p, xs, rfl, h1, h2⟩ := dp_lst a
      obtain ⟨w, h3, h4⟩ := dpa_at h2 h
      exact ⟨w, h4, fun Qv k => .inl ⟨p, xs, i, w, rfl, rfl, Evl.ex_l e h1, h3, k⟩⟩
    | tuple ds =>
      obtain ⟨p, xs, rfl, h1, h2⟩ := dp_tup a
      obtain ⟨w, h3, h4⟩ := dpa_at h2 h
      exact ⟨w, h4, fun Qv k => .inr (.inl ⟨p, xs, i, w, rfl, rfl, Evl.ex_t e h1, h3, k⟩)⟩
    | str z =>
      have ev := dp_str a
      subst ev
      simp only [dIx] at h
      split at h
      · rename_i hl
        cases q2 : atI z.cps.toList i with
        | none => rw [q2] at h; cases h
        | some c =>
          rw [q2] at h
          cases h
          exact ⟨.str ⟨#[c]⟩, Dz.str _, fun Qv k => .inr (.inr ⟨z, i, c, rfl, rfl, hl, q2, k⟩)⟩
      · cases h
    | none => cases h
    | bool _ => cases h
    | int _ => cases h
    | dict _ => cases h) q
theorem zo_ixC {p : Addr} {b : Bool} {xs : List PyData} {i : Int} {d : PyData} (hm : (p, b, CD.lst xs) ∈ M) (h : atI xs i = some d) (q : Q (.d d) M) : ZO K (rIx K) (.c p) (.d (.int i)) M Q := fun n S σ G H R v u a b' Qv k => by
  have eu := dp_int b'
  have ev : v = .ref p := a
  subst eu ev
  obtain ⟨_, ws, h1, h2⟩ := R.ce p b _ hm
  obtain ⟨w, h3, h4⟩ := dpa_at h2 h
  exact .inl ⟨p, ws, i, w, rfl, rfl, Evl.sq_of h1, h3, k w G H (.d d) M (Ex.refl G) R h4 q⟩
theorem atI0 {α : Type} {x : α} {r : List α} : atI (x :: r) 0 = some x := atI_nat (j := 0) rfl
theorem atI1 {α : Type} {x y : α} {r : List α} : atI (x :: y :: r) 1 = some y := atI_nat (j := 1) rfl
theorem atI2 {α : Type} {x y z : α} {r : List α} : atI (x :: y :: z :: r) 2 = some z := atI_nat (j := 2) rfl
theorem atI3 {α : Type} {x y z w : α} {r : List α} : atI (x :: y :: z :: w :: r) 3 = some w := atI_nat (j := 3) rfl

/-! ### built-in functions over data -/
/-- a call on values, over data -/
def ZC (K : Fg) (r : List V → Hp → VK → Prop) (zs : List ZV) (M : Ms) (Q : QZ) : Prop := ∀ (n : Sn) (S : Zs) (σ : L2.St) (G H : Hp), Rel K n S M σ G H → ∀ vs, ZAll K G vs zs → ∀ Qv : VK,
  (∀ w G' H' z M', Ex G G' → Rel K n S M' σ G' H' → ZV.at K G' w z → Q z M' → Qv w H') → r vs H Qv
theorem zw_cb {r : List V → Hp → VK → Prop} (h : ZA K E tA S M (fun zs M1 => ZC K r zs M1 Q) X) : ZW K E (tCB r tA) S M Q X := fun n σ G H R Qv k kx =>
  h n σ G H R _ (fun vs G1 H1 zs M1 e1 R1 a1 h1 => h1 n S σ G1 H1 R1 vs a1 Qv fun w G3 H3 z M3 e3 R3 a3 q => k w G3 H3 z M3 (e1.trans e3) R3 a3 q) kx
theorem zc_val {r : List V → Hp → VK → Prop} {zs : List ZV} {z : ZV} (h : ∀ G H vs, Ex G H → ZAll K G vs zs → ∃ w, ZV.at K G w z ∧ ∀ Qv : VK, Qv w H → r vs H Qv) (q : Q z M) : ZC K r zs M Q := fun n S σ G H R vs a Qv k => by
  obtain ⟨w, h1, h2⟩ := h G H vs R.ex a
  exact h2 Qv (k w G H z M (Ex.refl G) R h1 q)
theorem zall1 {vs : List V} {z : ZV} (h : ZAll K G vs [z]) : ∃ v, vs = [v] ∧ ZV.at K G v z := by
  cases h with
  | cons a b => cases b; exact ⟨_, rfl, a⟩
theorem zall2 {vs : List V} {z y : ZV} (h : ZAll K G vs [z, y]) : ∃ v u, vs = [v, u] ∧ ZV.at K G v z ∧ ZV.at K G u y := by
  cases h with
  | cons a b => cases b with | cons b c => cases c; exact ⟨_, _, rfl, a, b⟩
def dLen : PyData → Option Nat
  | .list ds => some ds.length
  | .tuple ds => some ds.length
  | .str z => if z.length ≤ sizeLine then some z.length else none
  | _ => none
abbrev rLenA (K : Fg) : List V → Hp → VK → Prop := fun xs H Q => ∃ x n, xs = [x] ∧ LenV K x H n ∧ Q (.int (n : Nat)) H
theorem zc_len {x : PyData} {k : Nat} (h : dLen x = some k) (q : Q (.d (.int (k : Nat))) M) : ZC K (rLenA K) [.d x] M Q := zc_val (z := .d (.int (k : Nat))) (fun G H vs e a => by
  obtain ⟨v, rfl, av⟩ := zall1 a
  refine ⟨.int (k : Nat), Dz.int _, fun Qv hq => ⟨v, k, rfl, ?_, hq⟩⟩
  cases x with
  | list ds => obtain ⟨p, xs, rfl, h1, h2⟩ := dp_lst av; cases h; exact .inl ⟨xs, Evl.ex_l e h1, (dpa_len h2).symm⟩
  | tuple ds => obtain ⟨p, xs, rfl, h1, h2⟩ := dp_tup av; cases h; exact .inr ⟨xs, Evl.ex_t e h1, (dpa_len h2).symm⟩
  | str z =>
    have ev := dp_str av
    subst ev
    simp only [dLen] at h
    split at h
    · rename_i hl; cases h; exact ⟨hl, rfl⟩
    · cases h
  | none => cases h
  | bool _ => cases h
  | int _ => cases h
  | dict _ => cases h) q
theorem zc_lenC {p : Addr} {b : Bool} {xs : List PyData} (hm : (p, b, CD.lst xs) ∈ M) (q : Q (.d (.int (xs.length : Nat))) M) : ZC K (rLenA K) [.c p] M Q := fun n S σ G H R vs a Qv k => by
  obtain ⟨v, rfl, av⟩ := zall1 a
  have ev : v = .ref p := av
  subst ev
  obtain ⟨_, ws, h1, h2⟩ := R.ce p b _ hm
  exact ⟨_, xs.length, rfl, .inl ⟨ws, Evl.sq_of h1, (dpa_len h2).symm⟩, k (.int (xs.length : Nat)) G H (.d (.int (xs.length : Nat))) M (Ex.refl G) R (Dz.int _) q⟩
/-- int(an int) -/
abbrev rInt1 : List V → Hp → VK → Prop := fun xs H Q => (∃ i, xs = [.int i] ∧ Q (.int i) H) ∨ ∃ k, xs = [.bl k] ∧ Q (.int (if k then 1 else 0)) H
abbrev rIntS : List V → Hp → VK → Prop := fun xs H Q => ∃ a n, xs = [.str a] ∧ PySem.intText? a = some n ∧ a.length ≤ 640 ∧ Q (.int n) H
abbrev rIntA : List V → Hp → VK → Prop := fun xs H Q => rInt1 xs H Q ∨ rIntS xs H Q
theorem zc_int {i : Int} (q : Q (.d (.int i)) M) : ZC K rIntA [.d (.int i)] M Q := zc_val (z := .d (.int i)) (fun G H vs e a => by
  obtain ⟨v, rfl, av⟩ := zall1 a
  exact ⟨v, av, fun Qv hq => .inl (.inl ⟨i, by rw [dp_int av], by rw [← dp_int av]; exact hq⟩)⟩) q
theorem zc_intS {x : Str} {i : Int} (h : PySem.intText? x = some i) (hl : x.length ≤ 640) (q : Q (.d (.int i)) M) : ZC K rIntA [.d (.str x)] M Q := zc_val (z := .d (.int i)) (fun G H vs e a => by
  obtain ⟨v, rfl, av⟩ := zall1 a
  exact ⟨.int i, Dz.int _, fun Qv hq => .inr ⟨x, i, by rw [dp_str av], h, hl, hq⟩⟩) q
abbrev rStrI : List V → Hp → VK → Prop := fun xs H Q => ∃ i, xs = [.int i] ∧ i.natAbs.log2 < 1920 ∧ Q (.str (toString i)) H
theorem zc_strI {i : Int} (h : i.natAbs.log2 < 1920) (q : Q (.d (.str (toString i))) M) : ZC K rStrI [.d (.int i)] M Q := zc_val (z := .d (.str (toString i))) (fun G H vs e a => by
  obtain ⟨v, rfl, av⟩ := zall1 a
  exact ⟨.str (toString i), Dz.str _, fun Qv hq => ⟨i, by rw [dp_int av], h, hq⟩⟩) q
/-- tuple(a list), tuple(a tuple) -/
abbrev rTupOf (K : Fg) : List V → Hp → VK → Prop := fun xs H Q => ∃ p ys, xs = [.ref p] ∧ ((SqL K H p ys ∧ ∀ l, H l = none → Q (.ref l) (upd H l (.tup ys))) ∨ (SqT K H p ys ∧ Q (.ref p) H))
theorem zc_tupL {xs : List PyData} (q : Q (.d (.tuple xs)) M) : ZC K (rTupOf K) [.d (.list xs)] M Q := fun n S σ G H R vs a Qv k => by
  obtain ⟨v, rfl, av⟩ := zall1 a
  obtain ⟨p, ys, rfl, h1, h2⟩ := dp_lst av
  refine ⟨p, ys, rfl, .inl ⟨Evl.ex_l R.ex h1, fun l hl => ?_⟩⟩
  have g := ex_gnone R.ex hl
  exact k (.ref l) _ _ (.d (.tuple xs)) M (Ex.new g) (R.new hl (fun _ z => nomatch z)) (Dz.tup (.inl upd_same) (dpAll_mono (Ex.new g) h2)) q
theorem zc_tupT {xs : List PyData} (q : Q (.d (.tuple xs)) M) : ZC K (rTupOf K) [.d (.tuple xs)] M Q := zc_val (z := .d (.tuple xs)) (fun G H vs e a => by
  obtain ⟨v, rfl, av⟩ := zall1 a
  obtain ⟨p, ys, rfl, h1, h2⟩ := dp_tup av
  exact ⟨.ref p, av, fun Qv hq => ⟨p, ys, rfl, .inr ⟨Evl.ex_t e h1, hq⟩⟩⟩) q
theorem zc_tupC {p : Addr} {b : Bool} {xs : List PyData} (hm : (p, b, CD.lst xs) ∈ M) (q : Q (.d (.tuple xs)) M) : ZC K (rTupOf K) [.c p] M Q := fun n S σ G H R vs a Qv k => by
  obtain ⟨v, rfl, av⟩ := zall1 a
  have ev : v = .ref p := av
  subst ev
  obtain ⟨_, ys, h1, h2⟩ := R.ce p b _ hm
  refine ⟨p, ys, rfl, .inl ⟨Evl.sq_of h1, fun l hl => ?_⟩⟩
  have g := ex_gnone R.ex hl
  exact k (.ref l) _ _ (.d (.tuple xs)) M (Ex.new g) (R.new hl (fun _ z => nomatch z)) (Dz.tup (.inl upd_same) (dpAll_mono (Ex.new g) h2)) q
/-- isinstance(x, a built-in class) -/
def dTy : PyData → String
  | .none => "NoneType"
  | .bool _ => "bool"
  | .int _ => "int"
  | .str _ => "str"
  | .list _ => "list"
  | .tuple _ => "tuple"
  | .dict _ => "dict"
theorem rd_tyL {a : Addr} {xs : List V} (h : SqL K H a xs) : TyX K H (.ref a) (.type "list") := by
  rcases h with (h | ⟨o, h⟩) | ⟨o, its, k, h1, h2, _⟩
  · exact .base (.lst h)
  · exact .base (.frz h)
  · exact .kList h1 h2
theorem rd_tyT {a : Addr} {xs : List V} (h : SqT K H a xs) : TyX K H (.ref a) (.type "tuple") := by
  rcases h with (h | ⟨o, h⟩) | ⟨o, its, k, h1, h2, _⟩
  · exact .base (.tup h)
  · exact .fTuple h
  · exact .kTuple h1 h2
theorem dp_ty {x : PyData} {v : V} (e : Ex G H) (h : Dz K G v x) : TyX K H v (.type (dTy x)) := by
  cases h with
  | non => exact .base .non
  | bl b => exact .base (.bl b)
  | int i => exact .base (.int i)
  | str s => exact .base (.str s)
  | lst s a => exact rd_tyL (Evl.ex_l e s)
  | tup s a => exact rd_tyT (Evl.ex_t e s.sq)
theorem zt_isi {T : String} {tcl : TE} (hcl : tcl = tC (.ty T)) (h : ZW K E te S M (fun z M1 => ∃ x b, z = .d x ∧ kitB (dTy x) T = some b ∧ Q (.d (.bool b)) M1) X) : ZW K E (tCB (rIsi K) (tCons te (tCons tcl tNil))) S M Q X := fun n σ G H R Qv k kx =>
  h n σ G H R _ (fun v G1 H1 z M1 e1 R1 a1 ⟨x, b, hz, hb, q⟩ => by
    subst hz hcl
    exact ⟨v, .ty T, .type (dTy x), .type T, b, rfl, .ty T, dp_ty R1.ex a1, kit_ty hb, k _ G1 H1 (.d (.bool b)) M1 e1 R1 (Dz.bl b) q⟩) kx
/-- isinstance(x, (T1, T2)) -/
theorem kitAny2 {a T1 T2 : String} {b1 b2 : Bool} (h1 : kitB a T1 = some b1) (h2 : kitB a T2 = some b2) : PySem.W.kitAny K (.type a) [.type T1, .type T2] = some (b1 || b2) := by
  refine kitAny_cons (kit_ty h1) (fun e => ?_) (fun e => by rw [e]; rfl)
  refine kitAny_cons (kit_ty h2) (fun e2 => ?_) (fun e2 => by rw [e2, Bool.or_true])
  rw [e, e2]
  rfl
theorem zt_isi2 {T1 T2 : String} (h : ZW K E te S M (fun z M1 => ∃ x b1 b2, z = .d x ∧ kitB (dTy x) T1 = some b1 ∧ kitB (dTy x) T2 = some b2 ∧ Q (.d (.bool (b1 || b2))) M1) X) :
    ZW K E (tCB (rIsiT K) (tCons te (tCons (tTup (tCons (tC (.ty T1)) (tCons (tC (.ty T2)) tNil))) tNil))) S M Q X := fun n σ G H R Qv k kx =>
  h n σ G H R _ (fun v G1 H1 z M1 e1 R1 a1 ⟨x, b1, b2, hz, hb1, hb2, q⟩ => by
    subst hz
    refine ⟨by show 2 ≤ sizeLine; decide, fun p hp => ?_⟩
    have g := ex_gnone R1.ex hp
    exact ⟨v, p, [.ty T1, .ty T2], .type (dTy x), [.type T1, .type T2], b1 || b2, rfl, upd_same, .cons (.ty T1) (.cons (.ty T2) .nil), dp_ty (R1.ex.trans (Ex.new hp)) a1, kitAny2 hb1 hb2,
      k _ _ _ (.d (.bool (b1 || b2))) M1 (e1.trans (Ex.new g)) (R1.new hp (o := .tup [.ty T1, .ty T2]) (fun _ z => nomatch z)) (Dz.bl _) q⟩) kx

/-! ### lists and tuples glued; x in flat ones -/
theorem zo_catT {xs ys : List PyData} (hl : xs.length + ys.length ≤ sizeLine) (q : Q (.d (.tuple (xs ++ ys))) M) : ZO K (rCatA K) (.d (.tuple xs)) (.d (.tuple ys)) M Q := fun n S σ G H R v u a b Qv k => by
  obtain ⟨p, vs, rfl, h1, h2⟩ := dp_tup a
  obtain ⟨p2, ws, rfl, h3, h4⟩ := dp_tup b
  have l1 := dpa_len h2
  have l2 := dpa_len h4
  refine ⟨p, p2, vs, ws, rfl, rfl, Evl.ex_t R.ex h1, Evl.ex_t R.ex h3, by rw [l1, l2]; exact hl, fun e => ?_, fun _ e => ?_, fun _ _ r hr => ?_⟩
  · subst e
    have e : xs = [] := by cases xs with | nil => rfl | cons _ _ => cases l1
    subst e
    exact k (.ref p2) G H (.d (.tuple ys)) M (Ex.refl G) R b q
  · subst e
    have e : ys = [] := by cases ys with | nil => rfl | cons _ _ => cases l2
    subst e
    rw [List.append_nil] at q
    exact k (.ref p) G H (.d (.tuple xs)) M (Ex.refl G) R a q
  · have g := ex_gnone R.ex hr
    exact k (.ref r) _ _ (.d (.tuple (xs ++ ys))) M (Ex.new g) (R.new hr (fun _ z => nomatch z)) (Dz.tup (.inl upd_same) (dpAll_mono (Ex.new g) (dpa_app h2 h4))) q
theorem zo_catL {p p2 : Addr} {b b2 : Bool} {xs ys : List PyData} (hm : (p, b, CD.lst xs) ∈ M) (hm2 : (p2, b2, CD.lst ys) ∈ M) (hl : xs.length + ys.length ≤ sizeLine) (q : ∀ r, Q (.c r) ((r, true, .lst (xs ++ ys)) :: M)) : ZO K rCat (.c p) (.c p2) M Q := fun n S σ G H R v u a b Qv k => by
  have ev : v = .ref p := a
  have eu : u = .ref p2 := b
  subst ev eu
  obtain ⟨_, vs, h1, h2⟩ := R.ce p _ _ hm
  obtain ⟨_, ws, h3, h4⟩ := R.ce p2 _ _ hm2
  exact ⟨p, p2, vs, ws, rfl, rfl, h1, h3, by rw [dpa_len h2, dpa_len h4]; exact hl, fun r hr => k (.ref r) G _ (.c r) _ (Ex.refl G) (R.newLst hr (dpa_app h2 h4)) rfl (q r)⟩
def flatD : PyData → Bool
  | .none => true
  | .bool _ => true
  | .int _ => true
  | .str _ => true
  | _ => false
def vOf : PyData → V
  | .none => .non
  | .bool b => .bl b
  | .int i => .int i
  | .str s => .str s
  | _ => .non
theorem dp_flat {x : PyData} {v : V} (h : Dz K G v x) (f : flatD x = true) : v = vOf x := by
  cases h with
  | lst => cases f
  | tup => cases f
  | _ => rfl
theorem dpa_flat {vs : List V} {ds : List PyData} (h : DzAll K G vs ds) (f : ds.all flatD = true) : vs = ds.map vOf := by
  induction ds generalizing vs with
  | nil => cases h; rfl
  | cons d ds ih =>
    cases h with
    | cons a b =>
      simp only [List.all_cons, Bool.and_eq_true] at f
      rw [dp_flat a f.1, ih b f.2]
      rfl
theorem zo_inT {neg : Bool} {x : PyData} {ds : List PyData} (hx : flatV (vOf x) = true ∧ flatD x = true) (hd : (ds.map vOf).all flatV = true ∧ ds.all flatD = true) (q : Q (.d (.bool (if neg then !inV (vOf x) (ds.map vOf) else inV (vOf x) (ds.map vOf)))) M) : ZO K (rIn K neg) (.d x) (.d (.tuple ds)) M Q :=
  zo_val (z := .d (.bool (if neg then !inV (vOf x) (ds.map vOf) else inV (vOf x) (ds.map vOf)))) (fun G H v u e a b => by
    obtain ⟨p, vs, rfl, h1, h2⟩ := dp_tup b
    have e1 := dp_flat a hx.2
    have e2 := dpa_flat h2 hd.2
    subst e1 e2
    exact ⟨_, Dz.bl _, fun Qv hq => ⟨p, _, rfl, .inr (Evl.ex_t e h1), hx.1, hd.1, hq⟩⟩) q
theorem zo_inL {neg : Bool} {x : PyData} {ds : List PyData} (hx : flatV (vOf x) = true ∧ flatD x = true) (hd : (ds.map vOf).all flatV = true ∧ ds.all flatD = true) (q : Q (.d (.bool (if neg then !inV (vOf x) (ds.map vOf) else inV (vOf x) (ds.map vOf)))) M) : ZO K (rIn K neg) (.d x) (.d (.list ds)) M Q :=
  zo_val (z := .d (.bool (if neg then !inV (vOf x) (ds.map vOf) else inV (vOf x) (ds.map vOf)))) (fun G H v u e a b => by
    obtain ⟨p, vs, rfl, h1, h2⟩ := dp_lst b
    have e1 := dp_flat a hx.2
    have e2 := dpa_flat h2 hd.2
    subst e1 e2
    exact ⟨_, Dz.bl _, fun Qv hq => ⟨p, _, rfl, .inl (Evl.ex_l e h1), hx.1, hd.1, hq⟩⟩) q

/-! ### slices -/
abbrev rSlAny (K : Fg) : V → Option Int → Option Int → Hp → VK → Prop := fun x lo hi H Q => rSlL K x lo hi H Q ∨ (rSlA K x lo hi H Q ∨ C8.rSlX x lo hi H Q)
theorem sl_any {X : Cx} : SlR X (rSlAny X.K) := sl_list.or (sl_tupA.or C8.sl_txt)
def ZPt (K : Fg) (E : L2.St → XK) (to : TO) (S : Zs) (M : Ms) (Q : Option Int → Ms → Prop) (X : XZ) : Prop := ∀ (n : Sn) (σ : L2.St) (G H : Hp), Rel K n S M σ G H → ∀ Qv : Option Int → Hp → Prop,
  (∀ o G' H' M', Ex G G' → Rel K n S M' σ G' H' → Q o M' → Qv o H') → XOk K (E σ) n σ G X → to σ H Qv
theorem zp_none {Q : Option Int → Ms → Prop} (q : Q none M) : ZPt K E tNoPart S M Q X := fun n σ G H R Qv k _ => k none G H M (Ex.refl G) R q
theorem zp_some {Q : Option Int → Ms → Prop} (h : ZW K E te S M (fun z M1 => ∃ i, z = .d (.int i) ∧ Q (some i) M1) X) : ZPt K E (tPart te) S M Q X := fun n σ G H R Qv k kx =>
  h n σ G H R _ (fun v G1 H1 z M1 e1 R1 a1 ⟨i, hz, q⟩ => by subst hz; exact ⟨i, dp_int a1, k (some i) G1 H1 M1 e1 R1 q⟩) kx
def cutD (xs : List PyData) (lo hi : Option Int) : List PyData := (xs.drop (HT.sIx xs.length 0 lo)).take (HT.sIx xs.length xs.length hi - HT.sIx xs.length 0 lo)
def dSl : PyData → Option Int → Option Int → Option PyData
  | .tuple ds, lo, hi => some (.tuple (cutD ds lo hi))
  | .list ds, lo, hi => some (.list (cutD ds lo hi))
  | .str z, lo, hi => if z.length ≤ sizeLine then some (.str (Txt.slice z lo hi)) else none
  | _, _, _ => none
theorem cut_whole {ds : List PyData} {lo hi : Option Int} (h : HT.sIx ds.length 0 lo = 0 ∧ HT.sIx ds.length ds.length hi = ds.length) : cutD ds lo hi = ds := by
  unfold cutD
  rw [h.1, h.2]
  simp
theorem dpa_cut {vs : List V} {ds : List PyData} (lo hi : Option Int) (h : DzAll K G vs ds) : DzAll K G (cutV vs lo hi) (cutD ds lo hi) := by
  unfold cutV cutD
  rw [dpa_len h]
  exact dpa_take _ (dpa_drop _ h)
theorem zw_sl {tl th : TO} (h : ZW K E te S M (fun z M1 => ZPt K E tl S M1 (fun lo M2 => ZPt K E th S M2 (fun hi M3 => ∃ x y, z = .d x ∧ dSl x lo hi = some y ∧ Q (.d y) M3) X) X) X) : ZW K E (tSl (rSlAny K) te tl th) S M Q X := fun n σ G H R Qv k kx =>
  h n σ G H R _ (fun v G1 H1 z M1 e1 R1 a1 h1 => h1 n σ G1 H1 R1 _ (fun lo G2 H2 M2 e2 R2 h2 => h2 n σ G2 H2 R2 _ (fun hi G3 H3 M3 e3 R3 ⟨x, y, hz, hy, q⟩ => by
    subst hz
    have a3 : Dz K G3 v x := dp_mono (e2.trans e3) a1
    have e13 := (e1.trans e2).trans e3
    cases x with
    | tuple ds =>
      obtain ⟨p, vs, rfl, h1, h2⟩ := dp_tup a3
      cases hy
      refine .inr (.inl ⟨p, vs, rfl, Evl.ex_t R3.ex h1, fun c => ?_, fun _ r hr => ?_⟩)
      · rw [dpa_len h2] at c
        rw [cut_whole c] at q
        exact k (.ref p) G3 H3 (.d (.tuple ds)) M3 e13 R3 a3 q
      · have g := ex_gnone R3.ex hr
        exact k (.ref r) _ _ (.d (.tuple (cutD ds lo hi))) M3 (e13.trans (Ex.new g)) (R3.new hr (fun _ z => nomatch z)) (Dz.tup (.inl upd_same) (dpAll_mono (Ex.new g) (dpa_cut lo hi h2))) q
    | list ds =>
      obtain ⟨p, vs, rfl, h1, h2⟩ := dp_lst a3
      cases hy
      refine .inl ⟨p, vs, rfl, Evl.ex_l R3.ex h1, fun r hr => ?_⟩
      have g := ex_gnone R3.ex hr
      exact k (.ref r) _ _ (.d (.list (cutD ds lo hi))) M3 (e13.trans (Ex.new g)) (R3.new hr (fun _ z => nomatch z)) (Dz.lst (Evl.sq_of upd_same) (dpAll_mono (Ex.new g) (dpa_cut lo hi h2))) q
    | str z =>
      have ev := dp_str a3
      subst ev
      simp only [dSl] at hy
      split at hy
      · rename_i hl
        cases hy
        exact .inr (.inr ⟨z, rfl, hl, k _ G3 H3 (.d (.str (Txt.slice z lo hi))) M3 e13 R3 (Dz.str _) q⟩)
      · cases hy
    | none => cases hy
    | bool _ => cases hy
    | int _ => cases hy
    | dict _ => cases hy) (kx.mono (e1.trans e2))) (kx.mono e1)) kx

/-! ### methods of built-in things -/
/-- o.append(e), o an own list -/
theorem zw_append {to : TE} (h : ZW K E to S M (fun z M0 => ∃ p, z = .c p ∧ (∃ b xs, (p, b, CD.lst xs) ∈ M0) ∧ ZW K E te S M0 (fun y M1 => ∃ d b xs M2, y = .d d ∧ Upd1 p b (.lst xs) (.lst (xs ++ [d])) M1 M2 ∧ xs.length < sizeLine ∧ Q (.d .none) M2) X) X) :
    ZW K E (tBM K "list" rAppend to (tCons te tNil)) S M Q X := fun n σ G H R Qv k kx =>
  h n σ G H R _ (fun v G0 H0 z M0 e0 R0 a0 ⟨p, hz, ⟨b0, xs0, hm0⟩, h2⟩ => by
    subst hz
    have ev : v = .ref p := a0
    subst ev
    obtain ⟨_, ws0, h3, _⟩ := R0.ce p b0 _ hm0
    refine ⟨.inl ⟨rfl, ws0, Evl.sq_of h3⟩, h2 n σ G0 H0 R0 _ (fun u G1 H1 y M1 e1 R1 a1 ⟨d, b, xs, M2, hy, hu, hl, q⟩ => ?_) (kx.mono e0)⟩
    subst hy
    obtain ⟨_, ws, h4, h5⟩ := R1.ce p b _ hu.mem
    exact ⟨p, ws, u, rfl, rfl, h4, by rw [dpa_len h5]; exact hl, k .non G1 _ (.d .none) M2 (e0.trans e1) (R1.putLst hu (dpa_app h5 (dpa_one a1))) Dz.non q⟩) kx
/-- a text's method with one argument; without -/
def ZM (K : Fg) (r : V → List V → Hp → VK → Prop) (x : ZV) (zs : List ZV) (M : Ms) (Q : QZ) : Prop := ∀ (n : Sn) (S : Zs) (σ : L2.St) (G H : Hp), Rel K n S M σ G H → ∀ v vs, ZV.at K G v x → ZAll K G vs zs → ∀ Qv : VK,
  (∀ w G' H' z M', Ex G G' → Rel K n S M' σ G' H' → ZV.at K G' w z → Q z M' → Qv w H') → r v vs H Qv
theorem zw_m1 {r : V → List V → Hp → VK → Prop} {to : TE} (h : ZW K E to S M (fun x M0 => ∃ a, x = .d (.str a) ∧ ZW K E te S M0 (fun y M1 => ZM K r x [y] M1 Q) X) X) : ZW K E (tM1 r to te) S M Q X := fun n σ G H R Qv k kx =>
  h n σ G H R _ (fun v G0 H0 x M0 e0 R0 a0 ⟨a, hx, h2⟩ => by
    subst hx
    refine ⟨⟨a, dp_str a0⟩, h2 n σ G0 H0 R0 _ (fun u G1 H1 y M1 e1 R1 a1 h3 => ?_) (kx.mono e0)⟩
    exact h3 n S σ G1 H1 R1 v [u] (dp_mono e1 a0) (.cons a1 .nil) Qv fun w G' H' z M' e' R' a' q => k w G' H' z M' ((e0.trans e1).trans e') R' a' q) kx
abbrev rSplit1 : V → List V → Hp → VK → Prop := fun x xs H Q => ∃ a b, x = .str a ∧ xs = [.str b] ∧ (b.length == 0) = false ∧ a.length + 2 ≤ sizeLine ∧ rNewStrs (Txt.split a b) H Q
theorem dpa_strs : ∀ {ys : List Str}, DzAll K G (ys.map V.str) (ys.map PyData.str)
  | [] => .nil
  | _ :: _ => .cons (.str _) dpa_strs
theorem dpa_strs_eq : ∀ {ys : List Str} {vs : List V}, DzAll K G vs (ys.map PyData.str) → vs = ys.map V.str
  | [], _, .nil => rfl
  | _ :: _, _, .cons a b => by rw [dp_str a, dpa_strs_eq b]; rfl
theorem zm_split {x b : Str} (hb : (b.length == 0) = false) (hl : x.length + 2 ≤ sizeLine) (q : Q (.d (.list ((Txt.split x b).map .str))) M) : ZM K rSplit1 (.d (.str x)) [.d (.str b)] M Q := fun n S σ G H R v vs a av Qv k => by
  obtain ⟨u, rfl, au⟩ := zall1 av
  refine ⟨x, b, dp_str a, by rw [dp_str au], hb, hl, fun p hp => ?_⟩
  have g := ex_gnone R.ex hp
  exact k (.ref p) _ _ (.d (.list ((Txt.split x b).map .str))) M (Ex.new g) (R.new hp (fun _ z => nomatch z)) (Dz.lst (Evl.sq_of upd_same) dpa_strs) q
abbrev rJoin1 (K : Fg) : V → List V → Hp → VK → Prop := fun x xs H Q => ∃ a p, ∃ ys : List Str, x = .str a ∧ xs = [.ref p] ∧ (SqL K H p (ys.map V.str) ∨ SqT K H p (ys.map V.str)) ∧ (ys.map (·.length)).sum + ys.length * a.length ≤ 16777216 ∧ Q (.str (Txt.join a ys)) H
theorem zm_join {a : Str} {ys : List Str} (hl : (ys.map (·.length)).sum + ys.length * a.length ≤ 16777216) (q : Q (.d (.str (Txt.join a ys))) M) : ZM K (rJoin1 K) (.d (.str a)) [.d (.list (ys.map .str))] M Q := fun n S σ G H R v vs av au Qv k => by
  obtain ⟨u, rfl, au2⟩ := zall1 au
  obtain ⟨p, ws, rfl, h1, h2⟩ := dp_lst au2
  have e := dpa_strs_eq h2
  subst e
  exact ⟨a, p, ys, dp_str av, rfl, .inl (Evl.ex_l R.ex h1), hl, k _ G H (.d (.str (Txt.join a ys))) M (Ex.refl G) R (Dz.str _) q⟩
end
end Z
namespace Z
open PySem PySem.Spec PyProof.Rows L2
open Evl (Ex)
section
variable {K : Fg} {E : L2.St → XK} {e0 : XK} {te ta tb tc : TE} {tA : TA} {tt : TT} {t u : TS} {S S' : Zs} {M M' : Ms} {P : ZP} {Q : QZ} {X : XZ} {n : Sn} {σ σ' : L2.St} {G G' H H' : Hp} {g : TG}
/-! ### targets -/
def ZG (K : Fg) (g : TG) (x : ZV) (S : Zs) (is : List Nat) (S' : Zs) : Prop := ∀ (n : Sn) (M : Ms) (σ : L2.St) (G H : Hp) (v : V), Rel K n S M σ G H → ZV.at K G v x → ∀ Qv : L2.St → Hp → Prop,
  (∀ σ', σ'.length = σ.length → (∀ j : Nat, j ∉ is → σ'[j]? = σ[j]?) → Rel K n S' M σ' G H → Qv σ' H) → g v σ H Qv
def ZGs (K : Fg) (g : TGs) (xs : List PyData) (S : Zs) (is : List Nat) (S' : Zs) : Prop := ∀ (n : Sn) (M : Ms) (σ : L2.St) (G H : Hp) (vs : List V), Rel K n S M σ G H → DzAll K G vs xs → ∀ Qv : L2.St → Hp → Prop,
  (∀ σ', σ'.length = σ.length → (∀ j : Nat, j ∉ is → σ'[j]? = σ[j]?) → Rel K n S' M σ' G H → Qv σ' H) → g vs σ H Qv
theorem zg_name {i : Nat} {z : ZV} : ZG K (gName i) z S [i] (S.set i (some z)) := fun n M σ G H v R a Qv k =>
  k _ (by simp) (fun j hj => by rw [List.getElem?_set_ne (by simpa using fun e => hj (by simp [e]))]) (R.set a)
theorem zgs_nil : ZGs K gNil [] S [] S := fun n M σ G H vs R a Qv k => by
  cases a
  exact ⟨rfl, k σ rfl (fun _ _ => rfl) R⟩
theorem zgs_cons {i : Nat} {us : TGs} {x : PyData} {xs : List PyData} {is : List Nat} (h : ZGs K us xs (S.set i (some (.d x))) is S') : ZGs K (gCons (gName i) us) (x :: xs) S (i :: is) S' := fun n M σ G H vs R a Qv k => by
  cases a with
  | cons a b =>
    refine ⟨_, _, rfl, h n M _ G H _ (R.set (z := .d x) a) b Qv fun σ' hl hj R' => k σ' (by simpa using hl) (fun j q => ?_) R'⟩
    rw [hj j (fun z => q (List.mem_cons_of_mem _ z)), List.getElem?_set_ne (fun z => q (by simp [z]))]
theorem zg_tup {us : TGs} {k : Nat} {xs : List PyData} {is : List Nat} (hk : xs.length = k) (h : ZGs K us xs S is S') : ZG K (gTup K k us) (.d (.tuple xs)) S is S' := fun n M σ G H v R a Qv q => by
  obtain ⟨p, vs, rfl, h1, h2⟩ := dp_tup a
  exact ⟨p, vs, rfl, Evl.ex_t R.ex h1, by rw [dpa_len h2, hk], h n M σ G H vs R h2 Qv q⟩
theorem zs_asgG (h : ZW K E te S M (fun z M1 => ∃ is S2, ZG K g z S is S2 ∧ P.nx S2 M1) P.ex) : ZS K E (tAsg te g) S M P := fun n σ G H R D k =>
  h n σ G H R _ (fun v G1 H1 z M1 e1 R1 a1 ⟨is, S2, hg, q⟩ => hg n M1 σ G1 H1 v R1 a1 _ fun σ' _ _ R2 => k.nx σ' G1 H1 S2 M1 e1 R2 q) k.xok

/-! ### for -/
def LoopP (P : ZP) (I : Zs → Ms → Prop) : ZP := { P with nx := I, ct := I, bk := P.nx }
theorem DOk.loop {D : Ends} {I : Zs → Ms → Prop} {N : L2.St → Hp → Prop} (k : DOk K E n G P D) (h : ∀ σ' G' H' S' M', Ex G G' → Rel K n S' M' σ' G' H' → I S' M' → N σ' H') : DOk K E n G (LoopP P I) { D with nx := N, ct := N, bk := D.nx } :=
  ⟨h, k.rt, k.nx, h, k.ex⟩
/-- the invariant of a loop over what is data of the frozen part -/
def FI (K : Fg) (n : Sn) (G0 : Hp) (I : Nat → Zs → Ms → Prop) (i : Nat) (σ : L2.St) (H : Hp) : Prop := ∃ G S M, Rel K n S M σ G H ∧ Ex G0 G ∧ I i S M
theorem dpa_at_v {vs : List V} {ds : List PyData} (h : DzAll K G vs ds) {i : Nat} {v : V} (e : vs[i]? = some v) : ∃ d, ds[i]? = some d ∧ Dz K G v d := by
  have hi : i < ds.length := by rw [← dpa_len h]; exact (List.getElem?_eq_some_iff.mp e).1
  obtain ⟨w, h1, h2⟩ := dpa_get h (List.getElem?_eq_getElem hi)
  rw [e] at h1
  cases h1
  exact ⟨_, List.getElem?_eq_getElem hi, h2⟩
theorem zs_forT (h : ZW K E te S M (fun z M1 => ∃ xs, z = .d (.tuple xs) ∧ ∃ I : Nat → Zs → Ms → Prop, I 0 S M1 ∧
      (∀ i x S' M', xs[i]? = some x → I i S' M' → ∃ is S2, ZG K g (.d x) S' is S2 ∧ ZS K E t S2 M' (LoopP P (I (i + 1)))) ∧ (∀ S' M', I xs.length S' M' → P.nx S' M')) P.ex) : ZS K E (tFor (iTup K te) g t) S M P := fun n σ G H R D k =>
  h n σ G H R _ (fun v G1 H1 z M1 e1 R1 a1 ⟨xs, hz, I, i0, is, id⟩ => by
    subst hz
    obtain ⟨p, vs, rfl, h1, h2⟩ := dp_tup a1
    refine ⟨p, rfl, ⟨vs, Evl.ex_t R1.ex h1⟩, for_tup (xs := vs) (FI K n G1 I) ⟨G1, S, M1, R1, Ex.refl _, i0⟩ (fun i σ' H' _ ⟨G', S', M', R', e', _⟩ => Evl.ex_t (e'.trans R'.ex) h1) (fun i x σ' H' hx ⟨G', S', M', R', e', hi⟩ => ?_) (fun σ' H' ⟨G', S', M', R', e', hi⟩ => k.nx σ' G' H' S' M' (e1.trans e') R' (id S' M' (by rw [← dpa_len h2]; exact hi)))⟩
    obtain ⟨d, hd, ax⟩ := dpa_at_v h2 hx
    obtain ⟨js, S2, hg, hb⟩ := is i d S' M' hd hi
    exact hg n M' σ' G' H' x R' (dp_mono e' ax) _ fun σ2 _ _ R2 => hb n σ2 G' H' R2 _ ((k.mono (e1.trans e')).loop fun σ3 G3 H3 S3 M3 e3 R3 i3 => ⟨G3, S3, M3, R3, e'.trans e3, i3⟩)) k.xok
theorem zs_forL (h : ZW K E te S M (fun z M1 => ∃ xs, z = .d (.list xs) ∧ ∃ I : Nat → Zs → Ms → Prop, I 0 S M1 ∧
      (∀ i x S' M', xs[i]? = some x → I i S' M' → ∃ is S2, ZG K g (.d x) S' is S2 ∧ ZS K E t S2 M' (LoopP P (I (i + 1)))) ∧ (∀ S' M', I xs.length S' M' → P.nx S' M')) P.ex) : ZS K E (tFor (iList K te) g t) S M P := fun n σ G H R D k =>
  h n σ G H R _ (fun v G1 H1 z M1 e1 R1 a1 ⟨xs, hz, I, i0, is, id⟩ => by
    subst hz
    obtain ⟨p, vs, rfl, h1, h2⟩ := dp_lst a1
    refine ⟨p, rfl, ⟨vs, Evl.ex_l R1.ex h1⟩, for_list (xs := vs) (FI K n G1 I) ⟨G1, S, M1, R1, Ex.refl _, i0⟩ (fun i σ' H' _ ⟨G', S', M', R', e', _⟩ => Evl.ex_l (e'.trans R'.ex) h1) (fun i x σ' H' hx ⟨G', S', M', R', e', hi⟩ => ?_) (fun σ' H' ⟨G', S', M', R', e', hi⟩ => k.nx σ' G' H' S' M' (e1.trans e') R' (id S' M' (by rw [← dpa_len h2]; exact hi)))⟩
    obtain ⟨d, hd, ax⟩ := dpa_at_v h2 hx
    obtain ⟨js, S2, hg, hb⟩ := is i d S' M' hd hi
    exact hg n M' σ' G' H' x R' (dp_mono e' ax) _ fun σ2 _ _ R2 => hb n σ2 G' H' R2 _ ((k.mono (e1.trans e')).loop fun σ3 G3 H3 S3 M3 e3 R3 i3 => ⟨G3, S3, M3, R3, e'.trans e3, i3⟩)) k.xok
theorem zs_forR1 (h : ZA K E tA S M (fun zs M1 => ∃ j : Int, zs = [.d (.int j)] ∧ -(2 ^ 62) ≤ j ∧ j < 2 ^ 62 ∧ ∃ I : Nat → Zs → Ms → Prop, I 0 S M1 ∧
      (∀ i S' M', i < j.toNat → I i S' M' → ∃ is S2, ZG K g (.d (.int (0 + (i : Nat)))) S' is S2 ∧ ZS K E t S2 M' (LoopP P (I (i + 1)))) ∧ (∀ S' M', I j.toNat S' M' → P.nx S' M')) P.ex) : ZS K E (tFor (iRng1 tA) g t) S M P := fun n σ G H R D k =>
  h n σ G H R _ (fun vs G1 H1 zs M1 e1 R1 a1 ⟨j, hz, l1, l2, I, i0, is, id⟩ => by
    subst hz
    obtain ⟨v, rfl, av⟩ := zall1 a1
    have ev := dp_int av
    subst ev
    refine ⟨j, rfl, l1, l2, for_range (n := j.toNat) (FI K n G1 I) ⟨G1, S, M1, R1, Ex.refl _, i0⟩ (fun i σ' H' hx ⟨G', S', M', R', e', hi⟩ => ?_) (fun σ' H' ⟨G', S', M', R', e', hi⟩ => k.nx σ' G' H' S' M' (e1.trans e') R' (id S' M' hi))⟩
    obtain ⟨js, S2, hg, hb⟩ := is i S' M' hx hi
    exact hg n M' σ' G' H' _ R' (Dz.int _) _ fun σ2 _ _ R2 => hb n σ2 G' H' R2 _ ((k.mono (e1.trans e')).loop fun σ3 G3 H3 S3 M3 e3 R3 i3 => ⟨G3, S3, M3, R3, e'.trans e3, i3⟩)) k.xok
theorem zs_forR2 (h : ZA K E tA S M (fun zs M1 => ∃ a j : Int, zs = [.d (.int a), .d (.int j)] ∧ (-(2 ^ 62) ≤ a ∧ a < 2 ^ 62 ∧ -(2 ^ 62) ≤ j ∧ j < 2 ^ 62) ∧ ∃ I : Nat → Zs → Ms → Prop, I 0 S M1 ∧
      (∀ i S' M', i < (j - a).toNat → I i S' M' → ∃ is S2, ZG K g (.d (.int (a + (i : Nat)))) S' is S2 ∧ ZS K E t S2 M' (LoopP P (I (i + 1)))) ∧ (∀ S' M', I (j - a).toNat S' M' → P.nx S' M')) P.ex) : ZS K E (tFor (iRng2 tA) g t) S M P := fun n σ G H R D k =>
  h n σ G H R _ (fun vs G1 H1 zs M1 e1 R1 a1 ⟨a, j, hz, l1, I, i0, is, id⟩ => by
    subst hz
    obtain ⟨v, u, rfl, av, au⟩ := zall2 a1
    have ev := dp_int av
    have eu := dp_int au
    subst ev eu
    refine ⟨a, j, rfl, l1, for_range (n := (j - a).toNat) (FI K n G1 I) ⟨G1, S, M1, R1, Ex.refl _, i0⟩ (fun i σ' H' hx ⟨G', S', M', R', e', hi⟩ => ?_) (fun σ' H' ⟨G', S', M', R', e', hi⟩ => k.nx σ' G' H' S' M' (e1.trans e') R' (id S' M' hi))⟩
    obtain ⟨js, S2, hg, hb⟩ := is i S' M' hx hi
    exact hg n M' σ' G' H' _ R' (Dz.int _) _ fun σ2 _ _ R2 => hb n σ2 G' H' R2 _ ((k.mono (e1.trans e')).loop fun σ3 G3 H3 S3 M3 e3 R3 i3 => ⟨G3, S3, M3, R3, e'.trans e3, i3⟩)) k.xok
/-- while: I by a measure -/
theorem zs_while (I : Nat → Zs → Ms → Prop) (h0 : ∃ m, I m S M)
    (hs : ∀ m S' M', I m S' M' → ZT K E tt S' M' (fun b M1 => (b = true → ZS K E t S' M1 (LoopP P fun S2 M2 => ∃ m', m' < m ∧ I m' S2 M2)) ∧ (b = false → P.nx S' M1)) P.ex) : ZS K E (tWhile tt t) S M P := fun n σ G H R D k => by
  obtain ⟨m0, i0⟩ := h0
  refine ⟨fun m σ' H' => ∃ G' S' M', Rel K n S' M' σ' G' H' ∧ Ex G G' ∧ I m S' M', ⟨m0, G, S, M, R, Ex.refl G, i0⟩, ?_⟩
  rintro m σ' H' ⟨G', S', M', R', e', hi⟩
  refine hs m S' M' hi n σ' G' H' R' _ (fun b G1 H1 M1 e1 R1 q => ?_) (XOk.mono k.xok e')
  cases b with
  | true =>
    show ∃ N : L2.St → Hp → Prop, _ ∧ _
    exact ⟨fun σ2 H2 => ∃ G2 S2 M2, Rel K n S2 M2 σ2 G2 H2 ∧ Ex G G2 ∧ ∃ m', m' < m ∧ I m' S2 M2, fun σ2 H2 ⟨G2, S2, M2, R2, e2, m', hm, i2⟩ => ⟨m', hm, G2, S2, M2, R2, e2, i2⟩,
      q.1 rfl n σ' G1 H1 R1 _ ((k.mono (e'.trans e1)).loop fun σ3 G3 H3 S3 M3 e3 R3 i3 => ⟨G3, S3, M3, R3, (e'.trans e1).trans e3, i3⟩)⟩
  | false =>
    show D.nx σ' H1
    exact k.nx σ' G1 H1 S' M1 (e'.trans e1) R1 (q.2 rfl)

/-! ### comprehensions -/
def wipeZ (S : Zs) : List Nat → Zs
  | [] => S
  | v :: vs => (wipeZ S vs).set v none
theorem Rel.wipe (R : Rel K n S M σ G H) : ∀ vs : List Nat, Rel K n (wipeZ S vs) M (L2.wipe σ vs) G H
  | [] => R
  | v :: vs => (R.wipe vs).unset
theorem wipe_get (σ : L2.St) (j : Nat) : ∀ vs : List Nat, j ∉ vs → (L2.wipe σ vs)[j]? = σ[j]?
  | [], _ => rfl
  | v :: vs, h => by
    show ((L2.wipe σ vs).set v none)[j]? = _
    rw [List.getElem?_set_ne (fun e => h (by simp [e])), wipe_get σ j vs (fun z => h (List.mem_cons_of_mem _ z))]
theorem wipe_in (σ : L2.St) (j : Nat) : ∀ vs : List Nat, j ∈ vs → j < σ.length → (L2.wipe σ vs)[j]? = some none
  | v :: vs, h, hl => by
    show ((L2.wipe σ vs).set v none)[j]? = _
    by_cases e : v = j
    · subst e
      rw [List.getElem?_set]
      simp [L2.wipe_length, hl]
    · rw [List.getElem?_set_ne e]
      rcases List.mem_cons.mp h with z | z
      · exact absurd z.symm e
      · exact wipe_in σ j vs z hl
theorem wipe_eq {σ2 : L2.St} {vs : List Nat} (hl : σ2.length = (L2.wipe σ vs).length) (h : ∀ j : Nat, j ∉ vs → σ2[j]? = (L2.wipe σ vs)[j]?) : L2.wipe σ2 vs = L2.wipe σ vs := by
  refine List.ext_getElem? fun j => ?_
  by_cases hj : j ∈ vs
  · by_cases hb : j < σ.length
    · rw [wipe_in σ j vs hj hb, wipe_in σ2 j vs hj (by rw [hl, L2.wipe_length]; exact hb)]
    · have hb := Nat.le_of_not_lt hb
      have l1 : (L2.wipe σ2 vs).length ≤ j := by rw [L2.wipe_length, hl, L2.wipe_length]; exact hb
      have l2 : (L2.wipe σ vs).length ≤ j := by rw [L2.wipe_length]; exact hb
      rw [List.getElem?_eq_none l1, List.getElem?_eq_none l2]
  · rw [wipe_get σ2 j vs hj, h j hj]
/-- the slots of the entry over the rest of a later state -/
theorem Rel.reslot (R0 : Rel K n S M σ G H) (R : Rel K n S' M' σ' G' H') (e : Ex G G') : Rel K n S M' σ G' H' :=
  ⟨R.ex, R0.len, fun i z q => by obtain ⟨v, h1, h2⟩ := R0.sl i z q; exact ⟨v, h1, ZV.mono e h2⟩, R.nd, R.ce, R.g0, R.h0, R.lv, R.f0, R.a0, R.o0⟩
/-- one turn of a comprehension; I: behind i turns, the list so far, the cells -/
def LcTurn (K : Fg) (E : L2.St → XK) (g : TG) (tt : TT) (te : TE) (S : Zs) (vs : List Nat) (I : Nat → List PyData → Ms → Prop) (i : Nat) (x : PyData) : Prop := ∀ acc M' D, I i acc M' → ∃ is S2, (∀ j ∈ is, j ∈ vs) ∧ ZG K g (.d x) (wipeZ S vs) is S2 ∧
  ZT K E tt S2 ((D, true, .lst acc) :: M') (fun b Mb => (b = false → ∃ M2, Mb = (D, true, .lst acc) :: M2 ∧ I (i + 1) acc M2) ∧
    (b = true → ZW K E te S2 Mb (fun y Mc => ∃ d M2, y = .d d ∧ Mc = (D, true, .lst acc) :: M2 ∧ I (i + 1) (acc ++ [d]) M2) fun _ _ _ => False)) fun _ _ _ => False
def LcI (K : Fg) (n : Sn) (G0 : Hp) (S : Zs) (σ : L2.St) (vs : List Nat) (D : Addr) (I : Nat → List PyData → Ms → Prop) (i : Nat) (H : Hp) : Prop :=
  ∃ G M acc, Rel K n (wipeZ S vs) ((D, true, .lst acc) :: M) (L2.wipe σ vs) G H ∧ Ex G0 G ∧ acc.length ≤ i ∧ I i acc M
theorem lc_turn {vs : List Nat} {I : Nat → List PyData → Ms → Prop} {G0 : Hp} {D : Addr} {i : Nat} {v : V} {x : PyData} (ht : LcTurn K E g tt te S vs I i x) (hi : LcI K n G0 S σ vs D I i H) (hv : Dz K G0 v x) (hz : i < sizeLine) :
    g v (L2.wipe σ vs) H fun σ2 H2 => L2.wipe σ2 vs = L2.wipe σ vs ∧ tt σ2 H2 fun b H3 => if b = true then te σ2 H3 fun y H4 => ∃ acc, H4 D = some (.lst acc) ∧ acc.length < sizeLine ∧ LcI K n G0 S σ vs D I (i + 1) (upd H4 D (.lst (acc ++ [y]))) else LcI K n G0 S σ vs D I (i + 1) H3 := by
  obtain ⟨G, M, acc, R, e, hl, hI⟩ := hi
  obtain ⟨is, S2, hs, hg, hb⟩ := ht acc M D hI
  refine hg n _ _ G H v R (dp_mono e hv) _ fun σ2 l2 g2 R2 => ?_
  have ew : L2.wipe σ2 vs = L2.wipe σ vs := wipe_eq l2 fun j hj => g2 j fun z => hj (hs j z)
  have back : ∀ {G' H' : Hp} {M' : Ms}, Rel K n S2 M' σ2 G' H' → Ex G G' → Rel K n (wipeZ S vs) M' (L2.wipe σ vs) G' H' := fun R' e' => R.reslot R' e'
  refine ⟨ew, hb n σ2 G H R2 _ (fun b G3 H3 Mb e3 R3 q => ?_) ?_⟩
  · cases b with
    | true =>
      show te σ2 H3 _
      refine q.2 rfl n σ2 G3 H3 R3 _ (fun y G4 H4 z Mc e4 R4 a4 ⟨d, M2, hz2, hM, hI2⟩ => ?_) ?_
      · subst hz2 hM
        obtain ⟨_, ws, h1, h2⟩ := R4.ce D true _ m0
        refine ⟨ws, h1, by rw [dpa_len h2]; omega, G4, M2, acc ++ [d], ?_, (e.trans e3).trans e4, by simp; omega, hI2⟩
        exact (back R4 (e3.trans e4)).putLst .here (dpa_app h2 (dpa_one a4))
      · exact fun _ _ _ _ _ _ _ _ _ _ q => q.elim
    | false =>
      show LcI K n G0 S σ vs D I (i + 1) H3
      obtain ⟨M2, hM, hI2⟩ := q.1 rfl
      subst hM
      exact ⟨G3, M2, acc, back R3 e3, e.trans e3, by omega, hI2⟩
  · exact fun _ _ _ _ _ _ _ _ _ _ q => q.elim
/-- behind the last turn: the list is data -/
theorem lc_done {vs : List Nat} {I : Nat → List PyData → Ms → Prop} {G0 H0 : Hp} {D : Addr} {i : Nat} {Qv : VK} (R0 : Rel K n S M σ G0 H0) (hi : LcI K n G0 S σ vs D I i H) (hd : ∀ acc M', I i acc M' → Q (.d (.list acc)) M')
    (k : ∀ v G' H' z M', Ex G0 G' → Rel K n S M' σ G' H' → ZV.at K G' v z → Q z M' → Qv v H') : Qv (.ref D) H := by
  obtain ⟨G, M', acc, R, e, hl, hI⟩ := hi
  obtain ⟨G2, e2, R2, d2⟩ := R.frz .here
  exact k (.ref D) G2 H (.d (.list acc)) M' (e.trans e2) (R0.reslot R2 (e.trans e2)) d2 (hd acc M' hI)
/-- .. as an own list -/
theorem lc_doneC {vs : List Nat} {I : Nat → List PyData → Ms → Prop} {G0 H0 : Hp} {D : Addr} {i : Nat} {Qv : VK} (R0 : Rel K n S M σ G0 H0) (hi : LcI K n G0 S σ vs D I i H) (hd : ∀ acc M', I i acc M' → Q (.c D) ((D, true, .lst acc) :: M'))
    (k : ∀ v G' H' z M', Ex G0 G' → Rel K n S M' σ G' H' → ZV.at K G' v z → Q z M' → Qv v H') : Qv (.ref D) H := by
  obtain ⟨G, M', acc, R, e, hl, hI⟩ := hi
  exact k (.ref D) G H (.c D) _ e (R0.reslot R e) rfl (hd acc M' hI)
theorem lc_start {vs : List Nat} {I : Nat → List PyData → Ms → Prop} {D : Addr} (R : Rel K n S M σ G H) (hD : H D = none) (h0 : I 0 [] M) : LcI K n G S σ vs D I 0 (upd H D (.lst [])) :=
  ⟨G, M, [], (R.newLst hD .nil).wipe vs, Ex.refl G, Nat.le_refl _, h0⟩
theorem zw_lcT {vs : List Nat} (h : ZW K E ta S M (fun z M1 => ∃ xs, z = .d (.tuple xs) ∧ xs.length ≤ sizeLine ∧ ∃ I : Nat → List PyData → Ms → Prop, I 0 [] M1 ∧ (∀ i x, xs[i]? = some x → LcTurn K E g tt te S vs I i x) ∧ (∀ acc M', I xs.length acc M' → Q (.d (.list acc)) M')) X) :
    ZW K E (tLc (iTup K ta) g tt te vs) S M Q X := fun n σ G H R Qv k kx =>
  h n σ G H R _ (fun v G1 H1 z M1 e1 R1 a1 ⟨xs, hz, hl, I, i0, is, id⟩ => by
    subst hz
    obtain ⟨p, ws, rfl, h1, h2⟩ := dp_tup a1
    refine ⟨p, rfl, ⟨ws, Evl.ex_t R1.ex h1⟩, fun D hD => lc_tup (xs := ws) (LcI K n G1 S σ vs D I) (lc_start R1 hD i0) (fun i H' _ ⟨G', _, _, R', e', _⟩ => Evl.ex_t (e'.trans R'.ex) h1) (fun i x H' hx hi => ?_) (fun H' hi => lc_done R1 hi (fun acc M' q => id acc M' (by rw [← dpa_len h2]; exact q)) fun v G' H' z M' e' => k v G' H' z M' (e1.trans e'))⟩
    obtain ⟨d, hd, ax⟩ := dpa_at_v h2 hx
    have hi2 : i < xs.length := (List.getElem?_eq_some_iff.mp hd).1
    exact lc_turn (is i d hd) hi ax (Nat.lt_of_lt_of_le hi2 hl)) kx
theorem zw_lcL {vs : List Nat} (h : ZW K E ta S M (fun z M1 => ∃ xs, z = .d (.list xs) ∧ xs.length ≤ sizeLine ∧ ∃ I : Nat → List PyData → Ms → Prop, I 0 [] M1 ∧ (∀ i x, xs[i]? = some x → LcTurn K E g tt te S vs I i x) ∧ (∀ acc M', I xs.length acc M' → Q (.d (.list acc)) M')) X) :
    ZW K E (tLc (iList K ta) g tt te vs) S M Q X := fun n σ G H R Qv k kx =>
  h n σ G H R _ (fun v G1 H1 z M1 e1 R1 a1 ⟨xs, hz, hl, I, i0, is, id⟩ => by
    subst hz
    obtain ⟨p, ws, rfl, h1, h2⟩ := dp_lst a1
    refine ⟨p, rfl, ⟨ws, Evl.ex_l R1.ex h1⟩, fun D hD => lc_list (xs := ws) (LcI K n G1 S σ vs D I) (lc_start R1 hD i0) (fun i H' _ ⟨G', _, _, R', e', _⟩ => Evl.ex_l (e'.trans R'.ex) h1) (fun i x H' hx hi => ?_) (fun H' hi => lc_done R1 hi (fun acc M' q => id acc M' (by rw [← dpa_len h2]; exact q)) fun v G' H' z M' e' => k v G' H' z M' (e1.trans e'))⟩
    obtain ⟨d, hd, ax⟩ := dpa_at_v h2 hx
    have hi2 : i < xs.length := (List.getElem?_eq_some_iff.mp hd).1
    exact lc_turn (is i d hd) hi ax (Nat.lt_of_lt_of_le hi2 hl)) kx
theorem zw_lcR1 {vs : List Nat} (h : ZA K E tA S M (fun zs M1 => ∃ j : Int, zs = [.d (.int j)] ∧ 0 ≤ j ∧ j.toNat ≤ sizeLine ∧ ∃ I : Nat → List PyData → Ms → Prop, I 0 [] M1 ∧ (∀ i, i < j.toNat → LcTurn K E g tt te S vs I i (.int (0 + (i : Nat)))) ∧ (∀ acc M', I j.toNat acc M' → Q (.d (.list acc)) M')) X) :
    ZW K E (tLc (iRng1 tA) g tt te vs) S M Q X := fun n σ G H R Qv k kx =>
  h n σ G H R _ (fun us G1 H1 zs M1 e1 R1 a1 ⟨j, hz, l0, l1, I, i0, is, id⟩ => by
    subst hz
    obtain ⟨v, rfl, av⟩ := zall1 a1
    have ev := dp_int av
    subst ev
    have hs : (sizeLine : Nat) < 2 ^ 62 := by rw [sizeLine_eq]; decide
    exact ⟨j, rfl, by omega, by omega, fun D hD => lc_range (n := j.toNat) (LcI K n G1 S σ vs D I) (lc_start R1 hD i0) (fun i H' hx hi => lc_turn (is i hx) hi (Dz.int _) (Nat.lt_of_lt_of_le hx l1)) (fun H' hi => lc_done R1 hi id fun v G' H' z M' e' => k v G' H' z M' (e1.trans e'))⟩) kx
theorem zw_lcR2 {vs : List Nat} (h : ZA K E tA S M (fun zs M1 => ∃ a j : Int, zs = [.d (.int a), .d (.int j)] ∧ (-(2 ^ 62) ≤ a ∧ a < 2 ^ 62 ∧ -(2 ^ 62) ≤ j ∧ j < 2 ^ 62) ∧ (j - a).toNat ≤ sizeLine ∧ ∃ I : Nat → List PyData → Ms → Prop, I 0 [] M1 ∧ (∀ i, i < (j - a).toNat → LcTurn K E g tt te S vs I i (.int (a + (i : Nat)))) ∧ (∀ acc M', I (j - a).toNat acc M' → Q (.d (.list acc)) M')) X) :
    ZW K E (tLc (iRng2 tA) g tt te vs) S M Q X := fun n σ G H R Qv k kx =>
  h n σ G H R _ (fun us G1 H1 zs M1 e1 R1 a1 ⟨a, j, hz, l0, l1, I, i0, is, id⟩ => by
    subst hz
    obtain ⟨v, u, rfl, av, au⟩ := zall2 a1
    have ev := dp_int av
    have eu := dp_int au
    subst ev eu
    exact ⟨a, j, rfl, l0, fun D hD => lc_range (n := (j - a).toNat) (LcI K n G1 S σ vs D I) (lc_start R1 hD i0) (fun i H' hx hi => lc_turn (is i hx) hi (Dz.int _) (Nat.lt_of_lt_of_le hx l1)) (fun H' hi => lc_done R1 hi id fun v G' H' z M' e' => k v G' H' z M' (e1.trans e'))⟩) kx
theorem zt_yes {Q : Bool → Ms → Prop} (q : Q true M) : ZT K E tYes S M Q X := fun n σ G H R Qv k _ => k true G H M (Ex.refl G) R q

/-! ### objects of the program's own classes -/
theorem zw_fld {C : Addr} {f : Str} (cl : Cls K C) (na : NoAttr K C f) (h : ZW K E te S M (fun z M1 => ∃ p b fs y, z = .c p ∧ (p, b, CD.obj C fs) ∈ M1 ∧ fs.lookup f = some y ∧ Q y M1) X) : ZW K E (tFld K te f) S M Q X := fun n σ G H R Qv k kx =>
  h n σ G H R _ (fun v G1 H1 z M1 e1 R1 a1 ⟨p, b, fs, y, hz, hm, hl, q⟩ => by
    subst hz
    have ev : v = .ref p := a1
    subst ev
    obtain ⟨_, dx, fv, h1, h2, h3, h4⟩ := R1.ce p b _ hm
    obtain ⟨w, l1, l2⟩ := (lookup_paired h4 f).2 y hl
    exact ⟨p, C, dx, fv, w, rfl, h1, cl, na, l1, k w G1 H1 y M1 e1 R1 l2 q⟩) kx
def putZ (f : Str) (z : ZV) : List (Str × ZV) → List (Str × ZV)
  | [] => [(f, z)]
  | (g, y) :: r => if g = f then (g, z) :: r else (g, y) :: putZ f z r
theorem putF_paired {f : Str} {v : V} {z : ZV} (a : ZV.at K G v z) : ∀ {fv : List (Str × V)} {fs : List (Str × ZV)}, Paired (fun (a : Str × V) (b : Str × ZV) => a.1 = b.1 ∧ ZV.at K G a.2 b.2) fv fs → Paired (fun (a : Str × V) (b : Str × ZV) => a.1 = b.1 ∧ ZV.at K G a.2 b.2) (putF f v fv) (putZ f z fs)
  | [], [], .nil => .cons ⟨rfl, a⟩ .nil
  | (g, x) :: fv, (g2, y) :: fs, .cons q t => by
    obtain ⟨q1, q2⟩ := q
    dsimp only at q1 q2
    subst q1
    unfold putF putZ
    by_cases e : g = f
    · rw [if_pos e, if_pos e]; exact .cons ⟨rfl, a⟩ t
    · rw [if_neg e, if_neg e]; exact .cons ⟨rfl, q2⟩ (putF_paired a t)
theorem paired_len {α β : Type} {F : α → β → Prop} : ∀ {l : List α} {m : List β}, Paired F l m → l.length = m.length
  | _, _, .nil => rfl
  | _, _, .cons _ t => by simp [paired_len t]
theorem Rel.putObj {p C : Addr} {b : Bool} {fs : List (Str × ZV)} {f : Str} {v : V} {z : ZV} {dx : Addr} {fv : List (Str × V)} (R : Rel K n S M σ G H) (u : Upd1 p b (.obj C fs) (.obj C (putZ f z fs)) M M') (h1 : H p = some (.ins C dx fv)) (h2 : H dx = some (.own p)) (h3 : G dx = none) (h4 : Paired (fun (a : Str × V) (b : Str × ZV) => a.1 = b.1 ∧ ZV.at K G a.2 b.2) fv fs) (a : ZV.at K G v z) :
    Rel K n S M' σ G (upd H p (.ins C dx (putF f v fv))) := by
  refine R.put u (fun x q => by rw [h1] at q; cases q) ⟨dx, putF f v fv, upd_same, ?_, h3, putF_paired a h4⟩
  rw [upd_ne (fun e => by rw [e, h1] at h2; cases h2)]
  exact h2
theorem zs_fld {C : Addr} {f : Str} {to tv : TE} (cl : Cls K C) (na : NoAttr K C f) (h : ZW K E tv S M (fun y M1 => ZW K E to S M1 (fun z M2 => ∃ p b fs M3, z = .c p ∧ fs.length < 1000 ∧ Upd1 p b (.obj C fs) (.obj C (putZ f y fs)) M2 M3 ∧ P.nx S M3) P.ex) P.ex) : ZS K E (sFld K to tv f) S M P := fun n σ G H R D k =>
  h n σ G H R _ (fun v G1 H1 y M1 e1 R1 a1 h2 => h2 n σ G1 H1 R1 _ (fun w G2 H2 z M2 e2 R2 a2 ⟨p, b, fs, M3, hz, hl, hu, q⟩ => by
    subst hz
    have ev : w = .ref p := a2
    subst ev
    obtain ⟨_, dx, fv, h1, h3, h4, h5⟩ := R2.ce p b _ hu.mem
    exact ⟨p, C, dx, fv, rfl, h1, cl, na, by rw [paired_len h5]; exact hl, k.nx σ G2 _ S M3 (e1.trans e2) (R2.putObj hu h1 h3 h4 h5 (ZV.mono e2 a1)) q⟩) (XOk.mono k.xok e1)) k.xok
/-- o.f += an int -/
theorem zs_fldaug {C : Addr} {f : Str} {to tv : TE} (cl : Cls K C) (na : NoAttr K C f) (h : ZW K E to S M (fun z M1 => ∃ p a, z = .c p ∧ (∃ b0 fs0, (p, b0, CD.obj C fs0) ∈ M1 ∧ fs0.lookup f = some (.d (.int a))) ∧ ZW K E tv S M1 (fun y M2 => ∃ j b fs M3, y = .d (.int j) ∧ fs.length < 1000 ∧ Upd1 p b (.obj C fs) (.obj C (putZ f (.d (.int (a + j))) fs)) M2 M3 ∧ P.nx S M3) P.ex) P.ex) :
    ZS K E (sFldAug K to tv rAdd f) S M P := fun n σ G H R D k =>
  h n σ G H R _ (fun w G1 H1 z M1 e1 R1 a1 ⟨p, a, hz, ⟨b0, fs0, hm0, hl0⟩, h2⟩ => by
    subst hz
    have ev : w = .ref p := a1
    subst ev
    obtain ⟨_, dx, fv, h1, h3, h4, h5⟩ := R1.ce p b0 _ hm0
    obtain ⟨x, l1, l2⟩ := (lookup_paired h5 f).2 _ hl0
    refine ⟨p, C, dx, fv, x, rfl, h1, cl, na, l1, h2 n σ G1 H1 R1 _ (fun y G2 H2 zy M2 e2 R2 a2 ⟨j, b, fs, M3, hy, hl, hu, q⟩ => ?_) (XOk.mono k.xok e1)⟩
    subst hy
    obtain ⟨_, dx', fv', h1', h3', h4', h5'⟩ := R2.ce p b _ hu.mem
    exact ⟨a, j, dp_int l2, dp_int a2, dx', fv', h1', by rw [paired_len h5']; exact hl, k.nx σ G2 _ S M3 (e1.trans e2) (R2.putObj hu h1' h3' h4' h5' (v := .int (a + j)) (Dz.int _)) q⟩) k.xok
/-- C(..): a new own object -/
theorem zw_make {ar : Nat} {C : Addr} {R : List (Str × ZV) → List PyData → DOut → List (Str × ZV) → Prop} (h : ZA K (fun _ => e0) tA S M (fun zs M1 => ∃ ds o fs', AllD zs ds ∧ ds.length = ar ∧ R [] ds o fs' ∧ (∀ d, o = .ok d → d = .none ∧ ∀ p, Q (.c p) ((p, true, .obj C fs') :: M1)) ∧ (∀ x, o = .ex x → ∀ p, X x S ((p, true, .obj C fs') :: M1))) X) : ZW K (fun _ => e0) (tMake C (spO K C ar R) [] e0 tA) S M Q X := fun n σ G H Rl Qv k kx =>
  h n σ G H Rl _ (fun vs G1 H1 zs M1 e1 R1 a1 ⟨ds, o, fs', hd, hk, hR, q1, q2⟩ x dx hx hdx hne => by
    have R2 := R1.lay (p := dx) (o := .own x) hdx
    have hx2 : (upd H1 dx (.own x)) x = none := by rw [upd_ne (Ne.symm hne)]; exact hx
    have R3 := R2.lay (p := x) (o := .ins C dx []) hx2
    have gdx := ex_gnone R1.ex hdx
    have hown : (upd (upd H1 dx (.own x)) x (.ins C dx [])) dx = some (.own x) := by rw [upd_ne hne, upd_same]
    have hc : CD.at K G1 (upd (upd H1 dx (.own x)) x (.ins C dx [])) x (.obj C []) := ⟨dx, [], upd_same, hown, gdx, .nil⟩
    have R4 := R3.cell (R1.fresh hx) (R1.notin hx) (ex_gnone R1.ex hx) hc
    refine ⟨G1, x, [], vs, ds, o, fs', by rw [List.append_nil], hk, R4.ex, ex_gnone R1.ex hx, hc, zall_d (by rw [← hd]; exact a1), hR, fun d ho v G' H' e own hc' a => ?_, fun y ho cls dd G' H' e own hc' a => ?_⟩
    · obtain ⟨hd2, q⟩ := q1 d ho
      subst hd2
      exact ⟨dp_non a, k (.ref x) G' H' (.c x) _ (e1.trans e.g) (R4.call1 e .here own hc') rfl (q x)⟩
    · exact kx cls dd G' H' y S _ (e1.trans e.g) (R4.call1 e .here own hc') a (q2 y ho x)) kx

/-! ### texts with fields -/
def ZJ (K : Fg) (E : L2.St → XK) (ts : List TE) (acc : Str) (S : Zs) (M : Ms) (Q : Str → Ms → Prop) (X : XZ) : Prop := ∀ (n : Sn) (σ : L2.St) (G H : Hp), Rel K n S M σ G H → ∀ Qv : Str → Hp → Prop,
  (∀ o G' H' M', Ex G G' → Rel K n S M' σ G' H' → Q o M' → Qv o H') → XOk K (E σ) n σ G X → tJs ts acc σ H Qv
theorem zj_nil {acc : Str} {Q : Str → Ms → Prop} (q : Q acc M) : ZJ K E [] acc S M Q X := fun n σ G H R Qv k _ => k acc G H M (Ex.refl G) R q
theorem zj_cons {acc : Str} {ts : List TE} {Q : Str → Ms → Prop} (h : ZW K E te S M (fun z M1 => ∃ y, z = .d (.str y) ∧ (acc ++ y).length ≤ sizeLine ∧ ZJ K E ts (acc ++ y) S M1 Q X) X) : ZJ K E (te :: ts) acc S M Q X := fun n σ G H R Qv k kx =>
  h n σ G H R _ (fun v G1 H1 z M1 e1 R1 a1 ⟨y, hz, hl, q⟩ => by
    subst hz
    exact ⟨y, dp_str a1, hl, q n σ G1 H1 R1 Qv (fun o G2 H2 M2 e2 R2 q2 => k o G2 H2 M2 (e1.trans e2) R2 q2) (kx.mono e1)⟩) kx
theorem zw_js {ts : List TE} (h : ZJ K E ts Str.empty S M (fun o M1 => Q (.d (.str o)) M1) X) : ZW K E (fun σ H Q => tJs ts Str.empty σ H fun out H1 => Q (.str out) H1) S M Q X := fun n σ G H R Qv k kx =>
  h n σ G H R _ (fun o G1 H1 M1 e1 R1 q => k (.str o) G1 H1 (.d (.str o)) M1 e1 R1 (Dz.str _) q) kx
theorem zw_fmtS (h : ZW K E te S M (fun z M1 => ∃ y, z = .d (.str y) ∧ y.length ≤ sizeLine ∧ Q (.d (.str y)) M1) X) : ZW K E (tFmt te) S M Q X := fun n σ G H R Qv k kx =>
  h n σ G H R _ (fun v G1 H1 z M1 e1 R1 a1 ⟨y, hz, hl, q⟩ => by subst hz; exact .inl ⟨y, dp_str a1, hl, k (.str y) G1 H1 (.d (.str y)) M1 e1 R1 (Dz.str _) q⟩) kx
theorem zw_fmtI (h : ZW K E te S M (fun z M1 => ∃ i, z = .d (.int i) ∧ i.natAbs.log2 < 1920 ∧ Q (.d (.str (toString i))) M1) X) : ZW K E (tFmt te) S M Q X := fun n σ G H R Qv k kx =>
  h n σ G H R _ (fun v G1 H1 z M1 e1 R1 a1 ⟨i, hz, hl, q⟩ => by subst hz; exact .inr ⟨i, dp_int a1, hl, k (.str (toString i)) G1 H1 (.d (.str (toString i))) M1 e1 R1 (Dz.str _) q⟩) kx
/-- a < b <= c -/
theorem zw_chain {r r' : R2} (h : ZW K E ta S M (fun x M1 => ZW K E tb S M1 (fun y M2 => ZO K r x y M2 (fun z M3 => ∃ b, z = .d (.bool b) ∧ (b = false → Q (.d (.bool false)) M3) ∧ (b = true → ZW K E tc S M3 (fun w M4 => ZO K r' y w M4 Q) X))) X) X) : ZW K E (tChain r r' ta tb tc) S M Q X := fun n σ G H R Qv k kx =>
  h n σ G H R _ (fun v G1 H1 x M1 e1 R1 a1 h1 => h1 n σ G1 H1 R1 _ (fun u G2 H2 y M2 e2 R2 a2 h2 => h2 n S σ G2 H2 R2 v u (ZV.mono e2 a1) a2 _ (fun w G3 H3 z M3 e3 R3 a3 ⟨b, hz, q⟩ => by
    subst hz
    refine ⟨b, dp_bl a3, ?_⟩
    cases b with
    | true =>
      show tc σ H3 _
      exact q.2 rfl n σ G3 H3 R3 _ (fun w' G4 H4 z4 M4 e4 R4 a4 h4 => h4 n S σ G4 H4 R4 u w' (ZV.mono (e3.trans e4) a2) a4 Qv fun w5 G5 H5 z5 M5 e5 R5 a5 q5 => k w5 G5 H5 z5 M5 ((((e1.trans e2).trans e3).trans e4).trans e5) R5 a5 q5) (kx.mono ((e1.trans e2).trans e3))
    | false =>
      show Qv (.bl false) H3
      exact k (.bl false) G3 H3 (.d (.bool false)) M3 ((e1.trans e2).trans e3) R3 (Dz.bl false) (q.1 rfl))) (kx.mono e1)) kx
end
end Z
namespace Z
open PySem PySem.Spec PyProof.Rows L2
open Evl (Ex)
section
variable {X : Cx} {j k : Nat} {x : Str} {sp : Sp} {E : XK} {e o : Expr} {es : List Expr} {t : TA} {ta : TE} {p pos apos : Pos}
/-- a def of the module: what it promises, at level k -/
def Cal (P : Program) (w : World) (K : Fg) (mg : Str → Option Value) (base : Heap) (k : Nat) (x : Str) (sp : Sp) : Prop :=
  ∃ f fd ps, FnOk P w K mg base (L2.CX P w) k f fd ps sp ∧ mg x = some (.ref f) ∧ PySem.W.keepIn K (.ref f) = true ∧ Binds K fd ps []
theorem pe_cl (c : Cal X.prog X.w X.K X.mg X.base k x sp) (hr : Room j X.A) (hk : k ≤ j) (hx : Passes (L2.CX X.prog X.w) X E) (ha : PA X (e :: es) t) (hg : Gl X x := by rfl) (hdb : (x == ("__debug__" : Str)) = false := by decide)
    (he : starEach (e :: es) X.env = (false, eval e X.env) :: starEach es X.env := by rfl) (hpl : (backTo pos (starEach es X.env)).any (·.1) = false := by rfl) : PE X (.Call (.Name x p) (e :: es) [] pos) (tCall sp [] E t) := by
  obtain ⟨f, fd, ps, F, hm, hkp, hb⟩ := c
  exact pe_call F (hr.mono hk) hg hm hkp hb .nil hx ha hdb he hpl
theorem pe_clS {W : WX} (c : Cal X.prog X.w X.K X.mg X.base k x sp) (hr : Room j X.A) (hk : k ≤ j) (tk : Takes X W) (ha : PA X (e :: es) t) (hg : Gl X x := by rfl) (hdb : (x == ("__debug__" : Str)) = false := by decide)
    (he : starEach (e :: es) X.env = (false, eval e X.env) :: starEach es X.env := by rfl) (hpl : (backTo pos (starEach es X.env)).any (·.1) = false := by rfl) : PE X (.Call (.Name x p) (e :: es) [] pos) (tCallS sp (WE W) t) := by
  obtain ⟨f, fd, ps, F, hm, hkp, hb⟩ := c
  exact pe_callS F (hr.mono hk) hg hm hkp hb (fun σ => passAt tk σ) ha hdb he hpl
/-- a method of an own class -/
def Mtd (P : Program) (w : World) (K : Fg) (mg : Str → Option Value) (base : Heap) (k : Nat) (C : Addr) (m : Str) (sp : Sp) : Prop :=
  ∃ f fd ps, FnOk P w K mg base (L2.CX P w) k f fd ps sp ∧ Meth K C m f ∧ Binds K fd ps []
def Mkr (P : Program) (w : World) (K : Fg) (mg : Str → Option Value) (base : Heap) (k : Nat) (x : Str) (C : Addr) (sp : Sp) : Prop :=
  ∃ f fd ps, FnOk P w K mg base (L2.CX P w) k f fd ps sp ∧ Mk K C f ∧ mg x = some (.ref C) ∧ Binds K fd ps []
theorem pe_mkr {C : Addr} (c : Mkr X.prog X.w X.K X.mg X.base k x C sp) (hr : Room (j + 1) X.A) (hk : k ≤ j) (hx : Passes (L2.CX X.prog X.w) X E) (ha : PA X (e :: es) t) (hg : Gl X x := by rfl)
    (he : starEach (e :: es) X.env = (false, eval e X.env) :: starEach es X.env := by rfl) (hpl : (backTo pos (starEach es X.env)).any (·.1) = false := by rfl) (hdb : (x == ("__debug__" : Str)) = false := by decide) : PE X (.Call (.Name x p) (e :: es) [] pos) (tMake C sp [] E t) := by
  obtain ⟨f, fd, ps, F, M, hm, hb⟩ := c
  exact pe_make M F (hr.mono (by omega)) hg hm hb .nil hx ha hdb he hpl
end
/-! ### an operator on several kinds -/
section
variable {K : Fg} {r r' : R2} {x y : ZV} {M : Ms} {Q : QZ}
theorem zo_l (h : ZO K r x y M Q) : ZO K (fun x y H Q => r x y H Q ∨ r' x y H Q) x y M Q := fun n S σ G H R v u a b Qv k => .inl (h n S σ G H R v u a b Qv k)
theorem zo_r (h : ZO K r' x y M Q) : ZO K (fun x y H Q => r x y H Q ∨ r' x y H Q) x y M Q := fun n S σ G H R v u a b Qv k => .inr (h n S σ G H R v u a b Qv k)
end
abbrev rAddA (K : Fg) : R2 := fun x y H Q => rI0 (fun i j => .int (i + j)) x y H Q ∨ (rAddS1 x y H Q ∨ (rCatA K x y H Q ∨ rCat x y H Q))
theorem op_addA {X : Cx} : OpR X (binaryOp .Add) (rAddA X.K) := op_add.or (op_add_str.or (op_catA.or op_cat))
section
variable {K : Fg} {M : Ms} {Q : QZ}
theorem za_i {i j : Int} (q : Q (.d (.int (i + j))) M) : ZO K (rAddA K) (.d (.int i)) (.d (.int j)) M Q := zo_l (zo_add q)
theorem za_s {i j : Str} (hl : i.length + j.length ≤ sizeLine) (q : Q (.d (.str (i ++ j))) M) : ZO K (rAddA K) (.d (.str i)) (.d (.str j)) M Q := zo_r (zo_l (zo_addS hl q))
theorem za_t {xs ys : List PyData} (hl : xs.length + ys.length ≤ sizeLine) (q : Q (.d (.tuple (xs ++ ys))) M) : ZO K (rAddA K) (.d (.tuple xs)) (.d (.tuple ys)) M Q := zo_r (zo_r (zo_l (zo_catT hl q)))
theorem za_l {p p2 : Addr} {b b2 : Bool} {xs ys : List PyData} (hm : (p, b, CD.lst xs) ∈ M) (hm2 : (p2, b2, CD.lst ys) ∈ M) (hl : xs.length + ys.length ≤ sizeLine) (q : ∀ r, Q (.c r) ((r, true, .lst (xs ++ ys)) :: M)) : ZO K (rAddA K) (.c p) (.c p2) M Q := zo_r (zo_r (zo_r (zo_catL hm hm2 hl q)))
end
section
variable {K : Fg} {M : Ms} {Q : QZ}
theorem zo_fdivW {i j : Int} (hc : CDivW i j) (q : Q (.d (.int (i / j))) M) : ZO K (rI CDivW fun i j => .int (i / j)) (.d (.int i)) (.d (.int j)) M Q := zo_I (gd := fun i j => .int (i / j)) (fun _ => .int _) hc q
theorem zo_mulW {i j : Int} (hc : CMulW i j) (q : Q (.d (.int (i * j))) M) : ZO K (rI CMulW fun i j => .int (i * j)) (.d (.int i)) (.d (.int j)) M Q := zo_I (gd := fun i j => .int (i * j)) (fun _ => .int _) hc q
end
/-! ### built-in names as values -/
theorem bt_tuple : bootBuiltins "tuple" = some (.type "tuple") := by decide +kernel
theorem bt_list : bootBuiltins "list" = some (.type "list") := by decide +kernel
theorem bt_str : bootBuiltins "str" = some (.type "str") := by decide +kernel
theorem bt_int : bootBuiltins "int" = some (.type "int") := by decide +kernel
theorem bt_bool : bootBuiltins "bool" = some (.type "bool") := by decide +kernel
theorem bt_dict : bootBuiltins "dict" = some (.type "dict") := by decide +kernel
theorem bt_set : bootBuiltins "set" = some (.type "set") := by decide +kernel
theorem bb_len : bootBuiltins "len" = some (.builtin "len") := by decide +kernel
theorem bb_isinstance : bootBuiltins "isinstance" = some (.builtin "isinstance") := by decide +kernel
theorem bb_min : bootBuiltins "min" = some (.builtin "min") := by decide +kernel
theorem bb_max : bootBuiltins "max" = some (.builtin "max") := by decide +kernel
theorem bb_sorted : bootBuiltins "sorted" = some (.builtin "sorted") := by decide +kernel
theorem bb_abs : bootBuiltins "abs" = some (.builtin "abs") := by decide +kernel
theorem bb_any : bootBuiltins "any" = some (.builtin "any") := by decide +kernel
theorem bb_all : bootBuiltins "all" = some (.builtin "all") := by decide +kernel
theorem bb_sum : bootBuiltins "sum" = some (.builtin "sum") := by decide +kernel
end Z
namespace Z
open PySem PySem.Spec PyProof.Rows L2
open Evl (Ex)
section
variable {K : Fg} {E : L2.St → XK} {S : Zs} {M : Ms}
theorem zs_raiseO {C : Addr} {P : ZP} (h : P.ex ⟨C, []⟩ S M) : ZS K E (fun _ σ H => E σ (.ref C) none H) S M P := fun n σ G H R D k => k.ex (.ref C) none σ G H ⟨C, []⟩ S M (Ex.refl G) R ⟨rfl, rfl⟩ h
end
/-- what an own error class without own __init__ must have to be raised with a text -/
structure Rsr (K : Fg) (mg : Str → Option Value) (x : Str) (C : Addr) : Prop where
  xi : PySem.W.excIn K C [Value.type "ValueError", Value.type "Exception", Value.type "BaseException", Value.type "object"] "ValueError.__new__" = true
  g : mg x = some (.ref C)
  k : PySem.W.keepIn K (.ref C) = true
  ex : PySem.W.subIn K (.ref C) (.type "BaseException") = some true
  ty : PySem.W.typeIn K (.ref C) = some (.type "type")
section
variable {K : Fg} {E : L2.St → XK} {e0 : XK} {te ta : TE} {tA : TA} {S : Zs} {M : Ms} {Q : QZ} {X : XZ}
/-- f(o, ..), f a def whose first argument is an own object of the class C -/
theorem zw_callO {ar : Nat} {C : Addr} {R : List (Str × ZV) → List PyData → DOut → List (Str × ZV) → Prop} (h : ZA K (fun _ => e0) tA S M (fun zs M1 => ∃ p b fs zs' ds o fs' M2, zs = .c p :: zs' ∧ AllD zs' ds ∧ ds.length = ar ∧ R fs ds o fs' ∧ Upd1 p b (.obj C fs) (.obj C fs') M1 M2 ∧ (∀ d, o = .ok d → Q (.d d) M2) ∧ (∀ x, o = .ex x → X x S M2)) X) :
    ZW K (fun _ => e0) (tCall (spO K C ar R) [] e0 tA) S M Q X := fun n σ G H Rl Qv k kx =>
  h n σ G H Rl _ (fun vs G1 H1 zs M1 e1 R1 a1 ⟨p, b, fs, zs', ds, o, fs', M2, hz, hd, hk, hR, hu, q1, q2⟩ => by
    subst hz
    cases a1 with
    | cons a1 a2 =>
      have ev := a1
      obtain ⟨hp, hc⟩ := R1.ce p b _ hu.mem
      subst ev
      exact ⟨G1, p, fs, _, ds, o, fs', by rw [List.append_nil], hk, R1.ex, hp, hc, zall_d (by rw [← hd]; exact a2), hR, fun d ho v G' H' e own hc' a => k v G' H' (.d d) M2 (e1.trans e.g) (R1.call1 e hu own hc') a (q1 d ho), fun x ho cls dd G' H' e own hc' a => kx cls dd G' H' x S M2 (e1.trans e.g) (R1.call1 e hu own hc') a (q2 x ho)⟩) kx
theorem flat_strs (al : List Str) : ((al.map PyData.str).map vOf).all flatV = true ∧ (al.map PyData.str).all flatD = true := by
  constructor <;> (induction al with
  | nil => rfl
  | cons a l ih => simpa [vOf, flatV, flatD] using ih)
theorem inV_strs (w : Str) (al : List Str) : inV (vOf (.str w)) ((al.map PyData.str).map vOf) = decide (w ∈ al) := by
  induction al with
  | nil => rfl
  | cons a l ih =>
    have e : inV (vOf (.str w)) (((a :: l).map PyData.str).map vOf) = (eqV (.str a) (.str w) || inV (vOf (.str w)) ((l.map PyData.str).map vOf)) := rfl
    rw [e, ih]
    have e2 : eqV (.str a) (.str w) = decide (w = a) := by
      show (a == w) = decide (w = a)
      by_cases h : w = a
      · subst h; simp
      · simp [h, Ne.symm h]
    rw [e2]
    simp
theorem zo_inTS {M : Ms} {Q : QZ} {neg : Bool} {w : Str} {al : List Str} (q : Q (.d (.bool (if neg then !decide (w ∈ al) else decide (w ∈ al)))) M) : ZO K (rIn K neg) (.d (.str w)) (.d (.tuple (al.map .str))) M Q :=
  zo_inT ⟨rfl, rfl⟩ (flat_strs al) (by rw [inV_strs]; exact q)
theorem zo_inLS {M : Ms} {Q : QZ} {neg : Bool} {w : Str} {al : List Str} (q : Q (.d (.bool (if neg then !decide (w ∈ al) else decide (w ∈ al)))) M) : ZO K (rIn K neg) (.d (.str w)) (.d (.list (al.map .str))) M Q :=
  zo_inL ⟨rfl, rfl⟩ (flat_strs al) (by rw [inV_strs]; exact q)
abbrev rEqA (K : Fg) : R2 := fun x y H Q => rEq x y H Q ∨ rEqD K x y H Q
abbrev rNeA (K : Fg) : R2 := fun x y H Q => rNe x y H Q ∨ rNeD K x y H Q
theorem op_eqA {X : Cx} (hu : X.A.units + 64 < cLine) : OpR X (compareOp .Eq) (rEqA X.K) := op_eq.or (op_eqD hu)
theorem op_neA {X : Cx} (hu : X.A.units + 64 < cLine) : OpR X (compareOp .NotEq) (rNeA X.K) := op_ne.or (op_neD hu)
theorem zo_eqV {M : Ms} {Q : QZ} {x y : PyData} (hx : flatD x = true) (hy : flatD y = true) (hs : scal (vOf x) (vOf y) = true) {c : Bool} (hc : c = decide (vOf x = vOf y)) (q : Q (.d (.bool c)) M) : ZO K rEq (.d x) (.d y) M Q :=
  zo_val (z := .d (.bool c)) (fun G H v u e a b => by
    have ev := dp_flat a hx
    have eu := dp_flat b hy
    subst ev eu
    exact ⟨_, .bl _, fun Qv h => ⟨hs, by rw [← hc]; exact h⟩⟩) q
theorem zo_neV {M : Ms} {Q : QZ} {x y : PyData} (hx : flatD x = true) (hy : flatD y = true) (hs : scal (vOf x) (vOf y) = true) {c : Bool} (hc : c = !decide (vOf x = vOf y)) (q : Q (.d (.bool c)) M) : ZO K rNe (.d x) (.d y) M Q :=
  zo_val (z := .d (.bool c)) (fun G H v u e a b => by
    have ev := dp_flat a hx
    have eu := dp_flat b hy
    subst ev eu
    exact ⟨_, .bl _, fun Qv h => ⟨hs, by rw [← hc]; exact h⟩⟩) q
theorem vint_eq (a b : Int) : decide (a = b) = decide (vOf (.int a) = vOf (.int b)) := by
  simp [vOf]
theorem vstr_eq (a b : Str) : decide (a = b) = decide (vOf (.str a) = vOf (.str b)) := by
  simp [vOf]
theorem zo_eqI {M : Ms} {Q : QZ} {a b : Int} (q : Q (.d (.bool (decide (a = b)))) M) : ZO K (rEqA K) (.d (.int a)) (.d (.int b)) M Q := zo_l (zo_eqV rfl rfl rfl (vint_eq a b) q)
theorem zo_eqS {M : Ms} {Q : QZ} {a b : Str} (q : Q (.d (.bool (decide (a = b)))) M) : ZO K (rEqA K) (.d (.str a)) (.d (.str b)) M Q := zo_l (zo_eqV rfl rfl rfl (vstr_eq a b) q)
theorem zo_neI {M : Ms} {Q : QZ} {a b : Int} (q : Q (.d (.bool (!decide (a = b)))) M) : ZO K (rNeA K) (.d (.int a)) (.d (.int b)) M Q := zo_l (zo_neV rfl rfl rfl (by rw [vint_eq]) q)
theorem zo_neS {M : Ms} {Q : QZ} {a b : Str} (q : Q (.d (.bool (!decide (a = b)))) M) : ZO K (rNeA K) (.d (.str a)) (.d (.str b)) M Q := zo_l (zo_neV rfl rfl rfl (by rw [vstr_eq]) q)
theorem zo_eqDD {M : Ms} {Q : QZ} {x y : PyData} (hx : SeqAt.shaped x = true) (hy : SeqAt.shaped y = true) (q : Q (.d (.bool (PyData.eqv x y))) M) : ZO K (rEqA K) (.d x) (.d y) M Q := zo_r (zo_eq hx hy q)
theorem zo_neDD {M : Ms} {Q : QZ} {x y : PyData} (hx : SeqAt.shaped x = true) (hy : SeqAt.shaped y = true) (q : Q (.d (.bool (!PyData.eqv x y))) M) : ZO K (rNeA K) (.d x) (.d y) M Q := zo_r (zo_ne hx hy q)
theorem dLen_str {s : Str} (h : s.length ≤ sizeLine) : dLen (.str s) = some s.length := if_pos h
theorem dLen_strs (ws : List Str) : dLen (.list (ws.map .str)) = some ws.length := by show some _ = _; rw [List.length_map]
theorem atI_str {ws : List Str} {k : Nat} {w : Str} (h : ws[k]? = some w) : atI (ws.map PyData.str) (k : Nat) = some (.str w) := atI_nat (by rw [List.getElem?_map, h]; rfl)
/-- a constant of the module: data that the classes' part holds -/
theorem zw_con {v : V} {d : PyData} (hd : ∀ G, Dz K G v d) (q : Q (.d d) M) : ZW K E (tC v) S M Q X := fun n σ G H R Qv k kx => k v G H (.d d) M (Ex.refl G) R (hd G) q
theorem zw_make0 {ar : Nat} {C : Addr} {R : List (Str × ZV) → List PyData → DOut → List (Str × ZV) → Prop} (h : ZA K E tA S M (fun zs M1 => ∃ ds fs', AllD zs ds ∧ ds.length = ar ∧ R [] ds (.ok .none) fs' ∧ ∀ p, Q (.c p) ((p, true, .obj C fs') :: M1)) X) : ZW K E (tMake C (spO K C ar R) [] E0 tA) S M Q X := fun n σ G H Rl Qv k kx =>
  h n σ G H Rl _ (fun vs G1 H1 zs M1 e1 R1 a1 ⟨ds, fs', hd, hk, hR, q1⟩ x dx hx hdx hne => by
    have R2 := R1.lay (p := dx) (o := .own x) hdx
    have hx2 : (upd H1 dx (.own x)) x = none := by rw [upd_ne (Ne.symm hne)]; exact hx
    have R3 := R2.lay (p := x) (o := .ins C dx []) hx2
    have gdx := ex_gnone R1.ex hdx
    have hown : (upd (upd H1 dx (.own x)) x (.ins C dx [])) dx = some (.own x) := by rw [upd_ne hne, upd_same]
    have hc : CD.at K G1 (upd (upd H1 dx (.own x)) x (.ins C dx [])) x (.obj C []) := ⟨dx, [], upd_same, hown, gdx, .nil⟩
    have R4 := R3.cell (R1.fresh hx) (R1.notin hx) (ex_gnone R1.ex hx) hc
    refine ⟨G1, x, [], vs, ds, .ok .none, fs', by rw [List.append_nil], hk, R4.ex, ex_gnone R1.ex hx, hc, zall_d (by rw [← hd]; exact a1), hR, fun d ho v G' H' e own hc' a => ?_, fun y ho => nomatch ho⟩
    have ho := DOut.ok.inj ho
    subst ho
    exact ⟨dp_non a, k (.ref x) G' H' (.c x) _ (e1.trans e.g) (R4.call1 e .here own hc') rfl (q1 x)⟩) kx
theorem zw_methO0 {ar : Nat} {C : Addr} {m : Str} {R : List (Str × ZV) → List PyData → DOut → List (Str × ZV) → Prop} (h : ZW K E te S M (fun z M0 => ∃ p, z = .c p ∧ (∃ b fs0, (p, b, CD.obj C fs0) ∈ M0 ∧ fs0.lookup m = none) ∧ ZA K E tA S M0 (fun zs M1 => ∃ b fs ds d fs' M2, AllD zs ds ∧ ds.length = ar ∧ R fs ds (.ok d) fs' ∧ Upd1 p b (.obj C fs) (.obj C fs') M1 M2 ∧ Q (.d d) M2) X) X) :
    ZW K E (tMeth C m (spO K C ar R) [] E0 te tA) S M Q X := fun n σ G H Rl Qv k kx =>
  h n σ G H Rl _ (fun v G0 H0 z M0 e0' R0 a0 ⟨p, hz, ⟨b0, fs0, hm0, hl0⟩, h2⟩ => by
    subst hz
    have ev : v = .ref p := a0
    subst ev
    obtain ⟨_, dx, fv, h3, h4, h5, h6⟩ := R0.ce p b0 _ hm0
    refine ⟨p, dx, fv, rfl, h3, (lookup_paired h6 m).1 hl0, h2 n σ G0 H0 R0 _ (fun vs G1 H1 zs M1 e1 R1 a1 ⟨b, fs, ds, d, fs', M2, hd, hk, hR, hu, q1⟩ => ?_) (kx.mono e0')⟩
    obtain ⟨hp, hc⟩ := R1.ce p b _ hu.mem
    refine ⟨G1, p, fs, _, ds, .ok d, fs', by rw [List.append_nil], hk, R1.ex, hp, hc, zall_d (by rw [← hd]; exact a1), hR, fun d' ho v G' H' e own hc' a => ?_, fun x ho => nomatch ho⟩
    have ho := DOut.ok.inj ho
    subst ho
    exact k v G' H' (.d d) M2 ((e0'.trans e1).trans e.g) (R1.call1 e hu own hc') a q1) kx
theorem zw_callO0 {ar : Nat} {C : Addr} {R : List (Str × ZV) → List PyData → DOut → List (Str × ZV) → Prop} (h : ZA K E tA S M (fun zs M1 => ∃ p b fs zs' ds d fs' M2, zs = .c p :: zs' ∧ AllD zs' ds ∧ ds.length = ar ∧ R fs ds (.ok d) fs' ∧ Upd1 p b (.obj C fs) (.obj C fs') M1 M2 ∧ Q (.d d) M2) X) :
    ZW K E (tCall (spO K C ar R) [] E0 tA) S M Q X := fun n σ G H Rl Qv k kx =>
  h n σ G H Rl _ (fun vs G1 H1 zs M1 e1 R1 a1 ⟨p, b, fs, zs', ds, d, fs', M2, hz, hd, hk, hR, hu, q1⟩ => by
    subst hz
    cases a1 with
    | cons a1 a2 =>
      have ev := a1
      obtain ⟨hp, hc⟩ := R1.ce p b _ hu.mem
      subst ev
      refine ⟨G1, p, fs, _, ds, .ok d, fs', by rw [List.append_nil], hk, R1.ex, hp, hc, zall_d (by rw [← hd]; exact a2), hR, fun d' ho v G' H' e own hc' a => ?_, fun x ho => nomatch ho⟩
      have ho := DOut.ok.inj ho
      subst ho
      exact k v G' H' (.d d) M2 (e1.trans e.g) (R1.call1 e hu own hc') a q1) kx
theorem canLay_ints : ∀ l : List Int, PyData.canLayAll0 (l.map PyData.int) = true
  | [] => rfl
  | _ :: r => by simp [PyData.canLayAll0, PyData.canLay0, canLay_ints r]
theorem depth_ints : ∀ l : List Int, PyData.depthAll (l.map PyData.int) = 0
  | [] => rfl
  | _ :: r => by simp [PyData.depthAll, PyData.depth, depth_ints r]
theorem shp_ints (l : List Int) : SeqAt.shaped (.tuple (l.map .int)) = true := by
  simp [SeqAt.shaped, PyData.canLay0, PyData.depth, canLay_ints, depth_ints]
theorem eqv_nilT (l : List Int) : PyData.eqv (.tuple (l.map .int)) (.tuple []) = l.isEmpty := by cases l <;> rfl
theorem vbl_eq (a b : Bool) : (a == b) = decide (vOf (.bool a) = vOf (.bool b)) := by
  cases a <;> cases b <;> rfl
theorem zo_eqB {M : Ms} {Q : QZ} {a b : Bool} (q : Q (.d (.bool (a == b))) M) : ZO K (rEqA K) (.d (.bool a)) (.d (.bool b)) M Q := zo_l (zo_eqV rfl rfl rfl (vbl_eq a b) q)
theorem zo_neB {M : Ms} {Q : QZ} {a b : Bool} (q : Q (.d (.bool (!(a == b)))) M) : ZO K (rNeA K) (.d (.bool a)) (.d (.bool b)) M Q := zo_l (zo_neV rfl rfl rfl (by rw [vbl_eq]) q)
def dNone : PyData → Bool
  | .none => true
  | _ => false
theorem dp_isN {G : Hp} {v : V} {x : PyData} (h : Dz K G v x) : decide (v = V.non) = dNone x := by
  cases h <;> simp [dNone]
theorem zo_isN {M : Ms} {Q : QZ} {x : PyData} (q : Q (.d (.bool (dNone x))) M) : ZO K (fun x y H Q => y = V.non ∧ Q (.bl (decide (x = V.non))) H) (.d x) (.d .none) M Q := fun n S σ G H R v u a b Qv k =>
  ⟨dp_non b, by rw [dp_isN a]; exact k (.bl (dNone x)) G H (.d (.bool (dNone x))) M (Ex.refl G) R (Dz.bl _) q⟩
theorem zo_notN {M : Ms} {Q : QZ} {x : PyData} (q : Q (.d (.bool (!dNone x))) M) : ZO K (fun x y H Q => y = V.non ∧ Q (.bl (!decide (x = V.non))) H) (.d x) (.d .none) M Q := fun n S σ G H R v u a b Qv k =>
  ⟨dp_non b, by rw [dp_isN a]; exact k (.bl (!dNone x)) G H (.d (.bool (!dNone x))) M (Ex.refl G) R (Dz.bl _) q⟩
theorem zw_mono {Q' : QZ} (h : ZW K E te S M Q' X) (hi : ∀ z M', Q' z M' → Q z M') : ZW K E te S M Q X := fun n σ G H R Qv k kx => h n σ G H R Qv (fun v G' H' z M' e R' a q => k v G' H' z M' e R' a (hi z M' q)) kx
theorem zs_par3 {i j l : Nat} {P : ZP} (h : ZA K E tA S M (fun zs M1 => ∃ z w y, zs = [z, w, y] ∧ P.nx (((S.set i (some z)).set j (some w)).set l (some y)) M1) P.ex) : ZS K E (tPar3 i j l tA) S M P := fun n σ G H R D k =>
  h n σ G H R _ (fun vs G1 H1 zs M1 e1 R1 a1 ⟨z, w, y, hz, q⟩ => by
    subst hz
    cases a1 with
    | cons a b => cases b with | cons b c => cases c with | cons c d => cases d; exact ⟨_, _, _, rfl, k.nx _ G1 H1 _ M1 e1 (((R1.set a).set b).set c) q⟩) k.xok
theorem zc_min2 {M : Ms} {Q : QZ} {i j : Int} (q : Q (.d (.int (if j < i then j else i))) M) : ZC K (fun xs H Q => ∃ i j, xs = [.int i, .int j] ∧ Q (.int (if j < i then j else i)) H) [.d (.int i), .d (.int j)] M Q :=
  zc_val (z := .d (.int (if j < i then j else i))) (fun G H vs e a => by
    obtain ⟨v, u, rfl, av, au⟩ := zall2 a
    exact ⟨.int _, Dz.int _, fun Qv hq => ⟨i, j, by rw [dp_int av, dp_int au], hq⟩⟩) q
theorem zc_max2 {M : Ms} {Q : QZ} {i j : Int} (q : Q (.d (.int (if j > i then j else i))) M) : ZC K (fun xs H Q => ∃ i j, xs = [.int i, .int j] ∧ Q (.int (if j > i then j else i)) H) [.d (.int i), .d (.int j)] M Q :=
  zc_val (z := .d (.int (if j > i then j else i))) (fun G H vs e a => by
    obtain ⟨v, u, rfl, av, au⟩ := zall2 a
    exact ⟨.int _, Dz.int _, fun Qv hq => ⟨i, j, by rw [dp_int av, dp_int au], hq⟩⟩) q
/-- a statement's own end, ahead of what follows -/
theorem zs_nx {t : TS} {P : ZP} {N : Zs → Ms → Prop} (h : ZS K E t S M { P with nx := N }) (hi : ∀ S' M', N S' M' → P.nx S' M') : ZS K E t S M P := fun n σ G H R D k =>
  h n σ G H R D ⟨fun σ' G' H' S' M' e R' q => k.nx σ' G' H' S' M' e R' (hi S' M' q), k.rt, k.bk, k.ct, k.ex⟩
theorem dSl_str {s : Str} {lo hi : Option Int} (h : s.length ≤ sizeLine) : dSl (.str s) lo hi = some (.str (Txt.slice s lo hi)) := if_pos h
def tTry (K : Fg) (tb : WX → TS) (c : Value) (i : Nat) (ts : Addr → Value → Option Addr → TS) (Wout : WX) : TS := fun D σ H => tb (wAs K c i ts Wout D) D σ H
theorem zs_tryZ {tb : WX → TS} {c : Value} {i : Nat} {ts : Addr → Value → Option Addr → TS} {Wout : WX} {P : ZP}
    (h : ∀ W : WX, ZS K (fun σ cls d H => W cls d σ H) (tb W) S M { P with ex := fun x S' M' => PySem.W.exmOne K (.ref x.cls) c = some true ∧ ∀ a d, ZS K E (ts a (.ref x.cls) d) (S'.set i (some (.e a (.ref x.cls) d x))) M' (SuiteP P i) }) :
    ZS K E (tTry K tb c i ts Wout) S M P := zs_try h
end
end Z
/-! raise C(e), C an own exception class over ValueError whose __init__ says super().__init__(f'text{f}') and self.f = f -/
namespace PySem
namespace SupX
open PySem.W PySem.Calls PyProof.Rows PySem.HandSPX
def sA (f : Str) (p1 p2 : Pos) : Arguments := { posonlyargs := [], args := [{ arg := "self", annotation := none, pos := p1 }, { arg := f, annotation := none, pos := p2 }], vararg := none, kwonlyargs := [], kw_defaults := [], kwarg := none, defaults := [] }
structure Ps where
  (a b c d e g h i k l m n o : Pos)
def sE (f pre : Str) (j : Nat) (q : Ps) : Expr := .JoinedStr [.Constant (.str pre) j q.a, .FormattedValue (.Name f q.b) (-1) none q.c] q.d
def sB (f pre : Str) (j : Nat) (q : Ps) : List Stmt :=
  [.Expr (.Call (.Attribute (.Call (.Name "super" q.e) [] [] q.g) "__init__" q.h) [sE f pre j q] [] q.i) q.k, .Assign [.Attribute (.Name "self" q.l) f q.m] (.Name f q.n) q.o]
def sS (f : Str) : Scope := { kind := .function, names := [("self", .local), (f, .local), ("__class__", .free), ("super", .globalImplicit)], isGenerator := false, isCoroutine := false, more := [] }
/-- the field's name is none of the others -/
structure Nm (f : Str) : Prop where
  sup : (sS f).names.lookup ("super" : Str) = some .globalImplicit
  cls : (sS f).names.lookup ("__class__" : Str) = some .free
  self : (sS f).names.lookup ("self" : Str) = some .local
  fld : (sS f).names.lookup f = some .local
  bs : ∀ u v : Value, ([("self", u), (f, v)] : List (Str × Value)).reverse.lookup ("self" : Str) = some u
  bf : ∀ u v : Value, ([("self", u), (f, v)] : List (Str × Value)).reverse.lookup f = some v
  dbg : (f == ("__debug__" : Str)) = false
  cell : ∀ x ∈ (sS f).names, x.2 ≠ .cell
  bind : ∀ (qn pre : Str) (j : Nat) (q : Ps) (p1 p2 : Pos) (doc pm : Value) (an : Option Addr) (cd ct : Value) (cc : Addr) (u v : Value), bindArgs (ksFn "__init__" qn (sA f p1 p2) (sB f pre j q) (sS f) .none .none doc pm an cd ct cc) ⟨[u, v], []⟩ = pure [(("self" : Str), u), (f, v)]
/-- how the call of super().__init__ is evaluated (by rfl where the places are written) -/
def EvOk (f pre : Str) (j : Nat) (q : Ps) : Prop := ∃ pl : Sem Bool, ∀ env : Env, eval (.Call (.Attribute (.Call (.Name "super" q.e) [] [] q.g) "__init__" q.h) [sE f pre j q] [] q.i) env = (do
  let ov ← attributeBase (.Call (.Name "super" q.e) [] [] q.g) "__init__" env (eval (.Call (.Name "super" q.e) [] [] q.g) env)
  standAt q.h.atName
  let (fn, first) ← holding [ov] (getMethod ov "__init__" pl)
  callWith q.i fn first (backTo q.i (starEach [sE f pre j q] env)) [])
structure SupTxt (prog : Program) (K : Frag) (mg : Str → Option Value) (x qn f pre : Str) (C fI : Addr) : Prop where
  nm : Nm f
  gC : mg x = some (.ref C)
  cls : ∃ nm q N bs bm sn sub ab col dd k0 k1 k2 k3 k5, K.lookup C = some (excClassObj nm q C N bs bm true sn sub ab col dd k0 k1 k2 k3 k5 "ValueError.__new__") ∧ refsVE bm = true
  q : excInitIn K C [.type "ValueError", .type "Exception", .type "BaseException", .type "object"] "ValueError.__new__" = true
  sa : findIn K (.ref C) "__setattr__" = some (some (.builtin "object.__setattr__"))
  noN : findIn K (.ref C) f = some none
  iC : findIn K (.ref C) "__init__" = some (some (.ref fI))
  tC : typeIn K (.ref fI) = some (.type "function")
  kC : keepIn K (.ref C) = true
  exC : subIn K (.ref C) (.type "BaseException") = some true
  veC : subIn K (.ref C) (.type "ValueError") = some true
  tyC : typeIn K (.ref C) = some (.type "type")
  hdC : hasDictIn K C = true
  ms : mroIn K C (.ref C) = some true
  si : ks_superIn K C C "__init__" = some (some (.builtin "ValueError.__init__"))
  op : nsIn K cStatics "thirdparty.any" = some none
  su : nsIn K mainGlobals "super" = some none
  fn : ∃ (oc : Value) (od : Option Addr) (doc pm : Value) (an : Option Addr) (cda cc : Addr) (ct : Value) (osl : Array (Option Value)) (p1 p2 : Pos) (j : Nat) (ps : Ps),
    K.lookup fI = some ⟨oc, od, .func (ksFn "__init__" qn (sA f p1 p2) (sB f pre j ps) (sS f) .none .none doc pm an (.ref cda) ct cc), osl⟩ ∧ codeIn K (.ref cda) qn = true ∧
    (∃ ccl cdd vs ccs file tf, K.lookup cda = some ⟨ccl, cdd, .fields vs, ccs⟩ ∧ vs[2]? = some (.str file tf) ∧ ((prog.main.file : Str) == file) = true) ∧ (∃ cl cld csl, K.lookup cc = some ⟨cl, cld, .cell (some (.ref C)), csl⟩) ∧ EvOk f pre j ps
  top : (prog.main.scope.names.lookup ("super" : Str)).isSome = false
  pz : pre.length ≤ 1000
/-- what the text's field may be -/
def Fld (v : Value) : Prop := v = .none ∨ ∃ i t, v = .int i t ∧ i.natAbs.log2 < 1920
structure InitEnd (h h' : Heap) (x C dx : Addr) (f : Str) (v : Value) : Prop where
  keep : ∀ b o, b ≠ x → h.get? b = some o → h'.get? b = some o
  obj : ∃ t1 : Addr, h'.get? x = some { cls := .ref C, dict := some dx, data := .fields #[.ref t1, .none, .none, .none, .bool false, .none] }
  dbig : h.objs.size ≤ dx
  dne : dx ≠ x
  ns : h'.Ns1 dx (fun y => if y = f then some v else none)
section
variable {prog : Program} {w : World} {A : Around} {E : Value → Shared → Prop} {R : Result → Shared → Prop} {s : Shared} {K : Frag} {mg : Str → Option Value} {x qn f pre : Str} {C fI : Addr}
/-- the text, by an environment that knows the field -/
theorem sup_text {env : Env} {j : Nat} {q : Ps} {m : Str → Option Value} {v : Value} {Q : Value → Shared → Prop} (hn : s.heap.Ns env.locals m) (hk : env.scope.kind = .function) (hl : env.kindOf f = some .local) (hd : (f == ("__debug__" : Str)) = false) (hv : m f = some v) (hf : Fld v) (hp : pre.length ≤ 1000)
    (h : ∀ z tk tk', Q (.str z tk) { s with toks := tk' }) : wpAny (model prog w) A (eval (sE f pre j q) env) Q E s := by
  unfold sE
  refine wpAny_JoinedStr ?_
  have e0 : evalEach [Expr.Constant (.str pre) j q.a, .FormattedValue (.Name f q.b) (-1) none q.c] env = [eval (Expr.Constant (.str pre) j q.a) env, eval (.FormattedValue (.Name f q.b) (-1) none q.c) env] := by simp [evalEach]
  rw [e0]
  have h1000 : (1000 : Nat) ≤ sizeLine := by rw [sizeLine_eq]; decide
  have hl0 : (Str.empty ++ pre).length ≤ 1000 := by
    rw [Str.length_append]
    show 0 + pre.length ≤ 1000
    omega
  refine Calls.Constant_str ⟨pre, _, rfl, Nat.le_trans hl0 h1000, ?_⟩
  refine wpAny_FormattedValue_plain (wpAny_Name (wpAny_loadName_local hk hl hn hv ?_) hd)
  rcases hf with rfl | ⟨i, t, rfl, hi⟩
  · have hz : (Str.empty ++ pre ++ ("None" : Str)).length ≤ sizeLine := by
      rw [Str.length_append, sizeLine_eq]
      have e4 : ("None" : Str).length = 4 := by decide +kernel
      omega
    exact wpAny_formatField_none ⟨"None", _, rfl, hz, hz, h _ _ _⟩
  · have hz : (Str.empty ++ pre ++ (Str.ofString (toString i))).length ≤ sizeLine := by
      rw [Str.length_append, sizeLine_eq, ofString_length]
      have e4 := int_text_length_le (k := 1920) (by decide) hi
      omega
    exact wpAny_formatField_int hi ⟨toString i, _, rfl, hz, hz, h _ _ _⟩
/-- the bound __init__ of ValueError called -/
theorem call_mw {u e t0 : Addr} {rest : List Value} {hp : Heap} {g : Array GenState} {d : Drawn} {t : Nat} {os : OsState} {Q : Value → Shared → Prop} (X : K.In hp) (q : excInitIn K C [.type "ValueError", .type "Exception", .type "BaseException", .type "object"] "ValueError.__new__" = true)
    (he : hp.get? e = some (excO C t0)) (hu : hp.get? u = some (kxs_mw "ValueError.__init__" e)) (hz : rest.length ≤ sizeLine)
    (hq : ∀ h' t1, (∀ b o, b ≠ e → hp.get? b = some o → h'.get? b = some o) → h'.get? e = some (excO C t1) → Q .none ⟨h', g, d, t, os⟩) : wpAny (model prog w) A (call (.ref u) rest) Q E ⟨hp, g, d, t, os⟩ := by
  obtain ⟨nm, N', qn, bs, bm, hdct, sn, sub, ab, col, dd, k0, k1, k2, k3, k5, hC, hT⟩ := excInit_of X q
  have FB := F.excBase_ValueError
  refine wpAny_call (codeAny_of_tree ?_)
  show wpAny _ A.in1 (callAny (.ref u) ⟨rest, []⟩) _ _ _
  simp only [callAny]
  refine wpAny_bind (wpAny_load hu ?_)
  simp only [kxs_mw, show (Value.type "method-wrapper" == Value.type "method" || Value.type "method-wrapper" == Value.type "builtin_function_or_method" || Value.type "method-wrapper" == Value.type "method-wrapper") = true by decide, if_true]
  refine KFB.if_so (by decide) ?_
  refine wpAny_bind (check_bound_init FB.toExcCallFacts hC he rfl ?_)
  refine wpAny_bind (wpAny_pure (wpAny_pure ?_))
  refine ⟨plainId_quiet FB.init.plain _, codeAny_builtin FB.initEntry ?_⟩
  exact exc_init_tree (cls := .ref C) (t0 := t0) (dv := none) (c2 := .none) (c3 := .none) (b4 := .bool false) he hz fun h' k e' _ => hq h' _ k e'
/-- the __init__ of such a class, upon a fresh exception at x -/
theorem sup_init (T : SupTxt prog K mg x qn f pre C fI) {e t0 : Addr} {v : Value} {mb : Str → Option Value} (X : K.In s.heap) (hlim : s.heap.NoLimit) (hG : s.heap.Ns mainGlobals mg) (hB : s.heap.Ns builtinsNs mb) (hmb : mb "super" = some (.type "super"))
    (hx : s.heap.get? e = some (excO C t0)) (hnx : K.lookup e = none) (hroom : A.depth < recursionLimit) (hf : Fld v)
    (hq : ∀ h' tk dx, InitEnd s.heap h' e C dx f v → R (.ok (.ret .none)) { s with heap := h', toks := tk }) :
    codeAny (model prog w) A (.call (.ref fI) ⟨[.ref e, v], []⟩) R s := by
  obtain ⟨oc, od, doc, pm, an, cda, cc, ct, osl, p1, p2, j, ps, ho, hcd, ⟨ccl, cdd, vs, ccs, file, tf, hcode, hvs, hfile⟩, ⟨cl, cld, csl, hcell⟩, ⟨pl, hev⟩⟩ := T.fn
  obtain ⟨nm, q, N, bs, bm, sn, sub, ab, col, dd, k0, k1, k2, k3, k5, hC, hbm⟩ := T.cls
  have hcl : clsIn K C = some { name := nm, bases := bs, mro := .ref C :: bm, ns := N, qualname := q, hasDict := true, slotNames := sn, subclasses := sub, abstract := ab, collection := col, hasDel := false } := by unfold clsIn; rw [hC] <;> rfl
  refine ks_codeAny_call_defAt (fd := ksFn "__init__" qn (sA f p1 p2) (sB f pre j ps) (sS f) .none .none doc pm an (.ref cda) ct cc) (body := sB f pre j ps) (binds := [("self", .ref e), (f, v)])
    hroom (X _ _ ho) rfl hlim (codeRec_of X hcd) rfl (BindsTo.of_eq (T.nm.bind _ _ _ _ _ _ _ _ _ _ _ _ _ _)) T.nm.cell (fun y hy => ?_) (fun h₁ hn k => ?_)
  · rcases List.mem_cons.mp hy with rfl | hy
    · exact T.nm.self
    · have hy := List.mem_singleton.mp hy
      subst hy
      exact T.nm.fld
  have X₁ : K.In h₁ := X.keeps k
  have hx₁ := k _ _ hx
  refine ks_wpAt_execs_cons (ks_wpAt_Expr_any (ks_wpAt_MethodCall (pl := pl) ?_ (hev _)))
  refine ks_wpAt_super_base (f := fI) (cc := cda) (ar := { arg := "self", annotation := none, pos := p1 }) T.nm.sup T.nm.cls (by decide) rfl (X₁ _ _ ho) rfl rfl rfl (X₁ _ _ hcode) rfl hvs hfile T.top ?_
  refine ks_loadName_global rfl T.nm.sup (loadGlobal_builtin (hG.keeps k) (mg_none_of X hG T.su) (hB.keeps k) hmb ⟨rfl, ?_⟩)
  refine wpAny_loadName_free rfl T.nm.cls rfl ⟨_, X₁ _ _ hcell, rfl⟩ ?_
  refine wpAny_loadName_local rfl T.nm.self hn (T.nm.bs _ _) ?_
  refine ks_wpAny_isType_cls (X₁ _ _ hC) rfl ⟨rfl, ?_⟩
  refine ks_wpAny_call_super (X₁ _ _ hC) rfl hx₁ rfl (fun c z => nomatch z) (looks_mroIn X₁ T.ms) (fun h₂ hso k₂ => ?_)
  have X₂ : K.In h₂ := X₁.keeps k₂
  have hx₂ := k₂ _ _ hx₁
  have I₂ : InstAt h₂ e (excO C t0) C none := ⟨hx₂, rfl, rfl, trivial⟩
  have hI : Looks (model prog w) h₂ (isInstance (.ref e) (.type "ValueError")) true := I₂.type.andThen (looks_subIn X₂ T.veC)
  have hsi := T.si
  unfold ks_superIn at hsi
  rw [hcl] at hsi
  refine kxs_getMethod kxs_ValueError hso (looks_opaque X₂ T.op) (l₀ := .ref C :: bm) (fun A Q E s k q => wpAny_bind ((looks_clsIn X₂ hcl) A _ E s k (wpAny_pure q))) rfl X₂ hsi hI (ks_ne X₂ I₂ hcl) (by decide) ?_
  show wpAny _ _ (callWith ps.i (.ref h₂.objs.size) [] (backTo ps.i ((false, eval (sE f pre j ps) (ksEnv qn (sS f) s.heap.objs.size fI (.ref cda) cc)) :: starEach [] (ksEnv qn (sS f) s.heap.objs.size fI (.ref cda) cc))) []) _ _ _
  have hnL : (h₂.push (kxs_mw "ValueError.__init__" e)).Ns s.heap.objs.size (fun y => ([("self", .ref e), (f, v)] : List (Str × Value)).reverse.lookup y) := by
    obtain ⟨oL, es, ep, hL, r⟩ := hn
    exact ⟨oL, es, ep, Heap.get?_push_of_some _ (k₂ _ _ hL), r⟩
  refine kxs_callWith (i := "ValueError.__init__") (x := e) rfl (evalArgs_plain (spliced_cons ?_))
  refine sup_text (w := w) hnL rfl T.nm.fld T.nm.dbg (T.nm.bf _ _) hf T.pz fun z tk tk' => ?_
  refine spliced_nil ⟨Heap.get?_push_at rfl rfl, ?_⟩
  have k₃ : ∀ b o, h₂.get? b = some o → (h₂.push (kxs_mw "ValueError.__init__" e)).get? b = some o := fun b o q => Heap.get?_push_of_some _ q
  refine call_mw (X₂.keeps k₃) T.q (k₃ _ _ hx₂) (Heap.get?_push_at rfl rfl) (by show 1 ≤ sizeLine; decide) (fun h₄ t1 k₄ hx₄ => ?_)
  have X₄ : K.In h₄ := fun a o q => k₄ a o (fun z => by rw [z, hnx] at q; cases q) (k₃ _ _ (X₂ a o q))
  have eL : s.heap.objs.size ≠ e := Nat.ne_of_gt (Heap.lt_size hx)
  have hn4 : h₄.Ns s.heap.objs.size (fun y => ([("self", .ref e), (f, v)] : List (Str × Value)).reverse.lookup y) := by
    obtain ⟨oL, es, ep, hL, r⟩ := hnL
    exact ⟨oL, es, ep, k₄ _ _ eL hL, r⟩
  show wpAt _ _ _ (execs _ _) _ _ _
  refine wpAt_of_wpAny (wpAny_execs_cons (plainObj_wpAny_Assign_Attribute ?_))
  refine wpAny_Name (wpAny_loadName_local rfl T.nm.fld hn4 (T.nm.bf _ _) ?_) T.nm.dbg
  refine wpAny_Name (wpAny_loadName_local rfl T.nm.self hn4 (T.nm.bs _ _) ?_) (by decide)
  refine set_plain X₄ (ox := excO C t1) (od := none) ⟨hx₄, rfl, rfl, trivial⟩ T.sa ?_
  refine exc_osa X₄ hx₄ hcl (show refsVE (.ref C :: bm) = true from hbm) rfl T.noN (fun h₅ tk₅ dx k₅ dn dne hx₅ hn₅ => ?_)
  show wpAny _ _ (execs _ _) _ _ _
  refine wpAny_execs_nil (hq h₅ tk₅ dx ⟨fun b o hb q => k₅ b o hb (k₄ b o hb (k₃ _ _ (k₂ _ _ (k _ _ q)))), ⟨t1, hx₅⟩, ?_, dne, hn₅⟩)
  have z1 : s.heap.objs.size < h₄.objs.size := hn4.lt
  exact Nat.le_trans (Nat.le_of_lt z1) dn
theorem one_size (v : Value) : [v].length ≤ sizeLine := by rw [sizeLine_eq]; exact (by decide : 1 ≤ 16777216)
structure OwnMade (h h' : Heap) (e C d : Addr) (f : Str) (v : Value) : Prop where
  keep : ∀ b o, h.get? b = some o → h'.get? b = some o
  new : h.objs.size ≤ e
  obj : ∃ oe vs, h'.get? e = some oe ∧ oe.cls = .ref C ∧ oe.dict = some d ∧ oe.data = .fields vs ∧ vs[1]? = some .none
  dbig : h.objs.size ≤ d
  dne : d ≠ e
  ns : h'.Ns1 d (fun y => if y = f then some v else none)
theorem sup_made (T : SupTxt prog K mg x qn f pre C fI) {v : Value} {mb : Str → Option Value} (X : K.In s.heap) (hlim : s.heap.NoLimit) (hG : s.heap.Ns mainGlobals mg) (hB : s.heap.Ns builtinsNs mb) (hmb : mb "super" = some (.type "super")) (hroom : A.depth + 1 < recursionLimit) (hf : Fld v)
    (hq : ∀ h' tk e d, OwnMade s.heap h' e C d f v → R (.ok (.ret (.ref e))) { s with heap := h', toks := tk }) : codeAny (model prog w) A (.call (.ref C) ⟨[v], []⟩) R s := by
  obtain ⟨nm, q, N, bs, bm, sn, sub, ab, col, dd, k0, k1, k2, k3, k5, hC, hbm⟩ := T.cls
  obtain ⟨hp, g, dr, tk, os⟩ := s
  have k : ∀ b o, hp.get? b = some o → ((hp.push (kdv_tup [v])).push (excO C hp.objs.size)).get? b = some o := fun b o e => Heap.get?_push_of_some _ (Heap.get?_push_of_some _ e)
  have hget : ((hp.push (kdv_tup [v])).push (excO C hp.objs.size)).get? (hp.objs.size + 1) = some (excO C hp.objs.size) := by heap_get
  have hnx : K.lookup (hp.objs.size + 1) = none := by
    cases e : K.lookup (hp.objs.size + 1) with
    | none => rfl
    | some o =>
      have z : hp.get? (hp.objs.size + 1) = some o := X _ _ e
      exact absurd (Nat.lt_of_succ_lt (Heap.lt_size z)) (Nat.lt_irrefl _)
  refine call_own F.excBase_ValueError (fun X => refsVE_contains X bm hbm) (X _ _ hC) (looks_findIn X T.iC) (fun self => bind_fn X self T.tC) (one_size v) ?_
  refine sup_init (s := ⟨(hp.push (kdv_tup [v])).push (excO C hp.objs.size), g, dr, tk, os⟩) T (X.keeps k) (hlim.keeps k) (hG.keeps k) (hB.keeps k) hmb hget hnx ?_ hf fun h' tk' dx ⟨k', ⟨t1, hx⟩, dn, dne, hns⟩ => ?_
  · show A.depth + 1 < recursionLimit
    exact hroom
  · have old : ∀ b o, hp.get? b = some o → h'.get? b = some o := fun b o e => k' b o (Nat.ne_of_lt (Nat.lt_succ_of_lt (Heap.lt_size e))) (k b o e)
    have z : hp.objs.size + 1 + 1 ≤ dx := by
      have q := dn
      rw [Heap.size_push, Heap.size_push] at q
      exact q
    exact ⟨rfl, hq h' tk' (hp.objs.size + 1) dx ⟨old, Nat.le_succ _, ⟨_, _, hx, rfl, rfl, rfl, rfl⟩, Nat.le_trans (Nat.le_trans (Nat.le_succ _) (Nat.le_succ _)) z, dne, hns⟩⟩
end
end SupX
end PySem
namespace L2
open PySem PySem.Spec PyProof.Rows
theorem relO_one {f g : Str} {v : V} {v' : Value} (r : RelV v v') : RelO (List.lookup g [(f, v)]) (if g = f then some v' else none) := by
  by_cases hw : g = f
  · subst hw
    rw [if_pos rfl]
    have q : List.lookup g [(g, v)] = some v := by simp [List.lookup]
    rw [q]
    exact r
  · rw [if_neg hw]
    have qw : (g == f) = false := by simpa using hw
    have q2 : List.lookup g [(f, v)] = none := by simp [List.lookup, qw]
    rw [q2]
    trivial
def FldV (v : V) : Prop := v = .non ∨ ∃ i : Int, v = .int i ∧ i.natAbs.log2 < 1920
theorem fld_of {v : V} {u : Value} (h : FldV v) (r : RelV v u) : PySem.SupX.Fld u := by
  rcases h with rfl | ⟨i, rfl, hi⟩
  · exact .inl r
  · obtain ⟨t, rfl⟩ := r
    exact .inr ⟨i, t, rfl, hi⟩
/-- C(e): the error's own dict d, new, holds the field -/
def tMkS (C : Addr) (f : Str) (ta : TA) : L2.St → Hp → XK → Prop := fun σ H Q => ta σ H fun vs H1 => ∃ v, vs = [v] ∧ FldV v ∧ ∀ d, H1 d = none → Q (.ref C) (some d) (upd H1 d (.xd [(f, v)]))
section
variable {X : Cx} {x qn f pre : Str} {C fI : Addr}
theorem pmk_sup {a : Expr} {ta : TA} {p pos : Pos} {k : Nat} (T : PySem.SupX.SupTxt X.prog X.K X.mg x qn f pre C fI) (hr : Room k X.A) (ha : PA X [a] ta) (hg : Gl X x := by rfl) (hdb : (x == ("__debug__" : Str)) = false := by decide)
    (he : starEach (a :: []) X.env = (false, eval a X.env) :: starEach [] X.env := by rfl) (hpl : (backTo pos (starEach [] X.env)).any (·.1) = false := by rfl) :
    PMk X (.Call (.Name x p) [a] [] pos) (tMkS C f ta) := by
  intro pins s σ H Q I h
  refine wpAny_Call_Name_kw (ld_glob I hg T.gC ?_ hdb)
  refine PySem.W.callWith_K (h₀ := X.base) I.ok.mod.kin T.kC (thn (ha.run pos pins s σ H _ I h) fun us s1 hh => ?_) he hpl
  obtain ⟨vs, H1, I1, r1, v, ev, hf, q1⟩ := hh
  subst ev
  refine ⟨I1.kIn, ?_⟩
  cases r1 with
  | cons rv rn =>
    rename_i v' us'
    cases rn
    show wpAny _ _ (call (.ref C) [v']) _ _ _
    have hlim := I1.nolimit
    have hG : s1.heap.Ns mainGlobals X.mg := I1.mod.glob.keeps I1.bk
    obtain ⟨mb, hb1, hb2⟩ := I1.mod.blt
    have hB : s1.heap.Ns builtinsNs mb := hb1.keeps I1.bk
    have hmb : mb "super" = some (.type "super") := (hb2 "super" (by decide)).trans (by decide +kernel)
    have kI := I1.kIn
    obtain ⟨hp, g, dr, tk, os⟩ := s1
    refine wpAny_call (PySem.SupX.sup_made T kI hlim hG hB hmb (by have := hr.dp; omega) (fld_of hf rv) fun h' tk' e d M => ?_)
    show MkP X pins σ Q (.ref e) ⟨h', g, dr, tk', os⟩
    obtain ⟨oe, fv, hoe, hc, hd, hdat, h1⟩ := M.obj
    have hns := M.ns
    obtain ⟨G', g1, g2⟩ := restrict h' fun b => decide (b ≠ e)
    have gk : ∀ b, b ≠ e → G'.get? b = h'.get? b := fun b hb => g1 b (decide_eq_true hb)
    have ge : G'.get? e = none := g2 e (by simp)
    have old : ∀ b o, hp.get? b = some o → G'.get? b = some o := fun b o q => (gk b (Nat.ne_of_lt (Nat.lt_of_lt_of_le (Heap.lt_size q) M.new))).trans (M.keep b o q)
    have ob : ObjOk X.prog X.w (upd H1 d (.xd [(f, v)])) G' d (.xd [(f, v)]) :=
      ⟨_, hns.at (fun o q => (gk d M.dne).trans q), fun y => relO_one rv⟩
    have J : Inv X pins σ (upd H1 d (.xd [(f, v)])) ⟨G', g, dr, tk', os⟩ := I1.laid (t' := tk') old M.dbig ob
    refine ⟨e, oe, fv, ⟨G', g, dr, tk', os⟩, _, .ref C, some d, rfl, J, fun b o q => ?_, ge, hoe, ⟨hc, hd⟩, hdat, h1, ?_, rfl, I1.bare, raises_own T.exC T.tyC, q1 d (I1.hok.fresh M.dbig)⟩
    · by_cases hb : b = e
      · have q' : G'.get? b = some o := q
        rw [hb, ge] at q'; cases q'
      · exact (gk b hb).symm.trans q
    · rw [upd_ne (Ne.symm M.dne)]
      exact I1.hok.fresh M.new
end
end L2
/-! in an except suite: isinstance(e, C) and e.f, whatever e's dict -/
namespace Z
open PySem PySem.Spec PyProof.Rows L2
open Evl (Ex)
def rIsX (K : Fg) (cls : Value) (a : Addr) (d : Option Addr) : List V → Hp → VK → Prop := fun xs H Q => ∃ (c : V) (cv : Value) (b : Bool) (D : Addr), xs = [.ref a, c] ∧ cls = .ref D ∧ ExcC K D ∧ (∀ dd, d = some dd → ∃ fs, H dd = some (.xd fs)) ∧ (∀ u, RelV c u → u = cv) ∧ PySem.W.kitOne K (.ref D) cv = some b ∧ Q (.bl b) H
theorem call_isX {X : Cx} {a : Addr} {cls : Value} {d : Option Addr} {oe : Obj} {pn : List (Addr × Obj)} (hz : Zc cls d oe) (hf : ∃ vs, oe.data = .fields vs) : CallR (X.suite a ((a, oe) :: pn)) (.builtin "isinstance") (rIsX X.K cls a d) := by
  intro pins s σ H xs us Q I r h
  obtain ⟨c, cv, b, D, rfl, hD, C, hx, hcv, e, q⟩ := h
  subst hD
  cases r with
  | cons rx rr =>
    cases rr with
    | cons rt rr =>
      cases rr
      cases rx
      have ec := hcv _ rt
      subst ec
      obtain ⟨hget, _⟩ := I.pin (a, oe) (List.mem_append.mpr (.inl List.mem_cons_self))
      obtain ⟨vs, hv⟩ := hf
      have J : ∃ od, PySem.W.InstAt s.heap a oe D od := by
        have hn : PySem.W.notCls oe = true := by unfold PySem.W.notCls; rw [hv] <;> rfl
        cases d with
        | none => exact ⟨none, hget, hz.1, hn, by rw [hz.2]; trivial⟩
        | some dd =>
          obtain ⟨fs, hd⟩ := hx dd rfl
          have ho : ObjOk X.prog X.w H s.heap dd (.xd fs) := I.hok dd _ hd
          obtain ⟨mA, hns, hr⟩ := ho
          obtain ⟨od, hg, hl⟩ := lookIn_ns hns
          exact ⟨some od, hget, hz.1, hn, by rw [hz.2]; exact hg⟩
      obtain ⟨od, J⟩ := J
      obtain ⟨cd, hcd, _⟩ := PySem.W.any_some C.hd
      exact PySem.W.kia_one (PySem.W.kitx_exc (by rw [hcd]; rfl) C.hg C.hk C.hs C.ha C.hn C.ht C.hm) I.kIn J e (fun z => nomatch z) fun tk => ⟨.bl b, H, I.kept (t' := tk) fun _ _ z => z, rfl, q⟩
def tXfE (K : Fg) (a : Addr) (cls : Value) (d : Option Addr) (f : Str) (te : TE) : TE := fun σ H Q => ∃ C, XfC K C ∧ PySem.W.findIn K (.ref C) f = some none ∧ tXf a cls d C f te σ H Q
theorem pe_xfE {X : Cx} {a : Addr} {oe : Obj} {cls : Value} {d : Option Addr} {pn : List (Addr × Obj)} {e : Expr} {te : TE} {pos : Pos} {n : Str}
    (hz : Zc cls d oe) (hf : ∃ vs, oe.data = .fields vs) (he : PE (X.suite a ((a, oe) :: pn)) e te) (hb : attributeBase e n X.env (eval e X.env) = eval e X.env := by rfl) :
    PE (X.suite a ((a, oe) :: pn)) (.Attribute e n pos) (tXfE X.K a cls d n te) :=
  ⟨fun pins s σ H Q I ⟨C, T, hno, h⟩ => (pe_xf T hno hz hf he hb).run pins s σ H Q I h⟩
section
variable {K : Fg} {E : L2.St → XK} {te ta : TE} {S : Zs} {M : Ms} {Q : QZ} {X : XZ}
theorem zw_isX {a : Addr} {cls : Value} {d : Option Addr} {C : Addr} {tcl : TE} (hcl : tcl = tC (.ref C)) (h : ZW K E te S M (fun z M1 => ∃ x b, z = .e a cls d x ∧ ExcC K x.cls ∧ PySem.W.kitOne K (.ref x.cls) (.ref C) = some b ∧ Q (.d (.bool b)) M1) X) :
    ZW K E (tCB (rIsX K cls a d) (tCons te (tCons tcl tNil))) S M Q X := fun n σ G H R Qv k kx =>
  h n σ G H R _ (fun v G1 H1 z M1 e1 R1 a1 ⟨x, b, hz, hE, hb, q⟩ => by
    subst hz hcl
    obtain ⟨rfl, hc, hx⟩ := a1
    refine ⟨.ref C, .ref C, b, x.cls, rfl, hc, hE, fun dd hd => ?_, fun u r => r, hb, k _ G1 H1 (.d (.bool b)) M1 e1 R1 (Dz.bl b) q⟩
    subst hd
    split at hx
    · cases hx
    · obtain ⟨dd', fv, h1, h2, _⟩ := hx
      cases h1
      exact ⟨fv, R1.ex _ _ h2⟩) kx
theorem paired_lookup {G : Hp} {f : Str} {fv : List (Str × V)} {fs : List (Str × PyData)} (h : Paired (fun (a : Str × V) (b : Str × PyData) => a.1 = b.1 ∧ Dz K G a.2 b.2) fv fs) {y : PyData} (e : fs.lookup f = some y) : ∃ v, fv.lookup f = some v ∧ Dz K G v y := by
  induction h with
  | nil => cases e
  | @cons a b l1 l2 q t ih =>
    obtain ⟨a1, a2⟩ := a
    obtain ⟨b1, b2⟩ := b
    obtain ⟨q1, q2⟩ := q
    dsimp only at q1 q2
    subst q1
    rw [List.lookup_cons] at e ⊢
    split at e
    · cases e
      exact ⟨_, rfl, q2⟩
    · exact ih e
theorem zw_xf {a C : Addr} {d : Option Addr} {f : Str} (hC : XfC K C ∧ PySem.W.findIn K (.ref C) f = some none) (h : ZW K E te S M (fun z M1 => ∃ x y, z = .e a (.ref C) d x ∧ x.fs.lookup f = some y ∧ Q (.d y) M1) X) :
    ZW K E (tXfE K a (.ref C) d f te) S M Q X := fun n σ G H R Qv k kx => by
  obtain ⟨T, hn⟩ := hC
  refine ⟨C, T, hn, h n σ G H R _ (fun v G1 H1 z M1 e1 R1 a1 ⟨x, y, hz, hl, q⟩ => ?_) kx⟩
  subst hz
  obtain ⟨rfl, hc, hx⟩ := a1
  split at hx
  · rename_i e
    rw [e] at hl
    cases hl
  · rename_i f0 fs0 e
    obtain ⟨dd', fv, h1, h2, h3⟩ := hx
    rw [e] at hl
    obtain ⟨v, hv1, hv2⟩ := paired_lookup h3 hl
    exact ⟨rfl, rfl, dd', fv, v, h1, R1.ex _ _ h2, hv1, k v G1 H1 (.d y) M1 e1 R1 hv2 q⟩
def FldD (x : PyData) : Prop := x = .none ∨ ∃ i : Int, x = .int i ∧ i.natAbs.log2 < 1920
theorem zs_raiseS {C : Addr} {f : Str} {tA : TA} {P : ZP} (h : ZA K E tA S M (fun zs M1 => ∃ x, zs = [.d x] ∧ FldD x ∧ P.ex ⟨C, [(f, x)]⟩ S M1) P.ex) : ZS K E (fun _ σ H => tMkS C f tA σ H fun cls d H' => E σ cls d H') S M P := fun n σ G H R D k =>
  h n σ G H R _ (fun vs G1 H1 zs M1 e1 R1 a1 ⟨x, hz, hx, q⟩ => by
    subst hz
    obtain ⟨v, rfl, av⟩ := zall1 a1
    have av' : Dz K G1 v x := av
    refine ⟨v, rfl, ?_, fun d hd => ?_⟩
    · rcases hx with rfl | ⟨i, rfl, hi⟩
      · cases av'
        exact .inl rfl
      · exact .inr ⟨i, dp_int av', hi⟩
    · have g := ex_gnone R1.ex hd
      refine k.ex (.ref C) (some d) σ _ _ ⟨C, [(f, x)]⟩ S M1 (e1.trans (Ex.new g)) (R1.new hd (fun _ z => nomatch z)) ⟨rfl, d, [(f, v)], rfl, upd_same, .cons ⟨rfl, dp_mono (Ex.new g) av'⟩ .nil⟩ q) k.xok
end
end Z
/-! a def that hands back a new own object; an object of a class without __init__; one of several readings; //, gcd, abs of great numbers; x is True -/
namespace Z
open PySem PySem.Spec PyProof.Rows L2
open Evl (Ex)
/-! ### one of several readings of an expression -/
def tOr2 (a b : TE) : TE := fun σ H Q => a σ H Q ∨ b σ H Q
theorem pe_or2 {X : Cx} {e : Expr} {a b : TE} (ha : PE X e a) (hb : PE X e b) : PE X e (tOr2 a b) :=
  ⟨fun pins s σ H Q I h => h.elim (fun q => ha.run pins s σ H Q I q) (fun q => hb.run pins s σ H Q I q)⟩
section
variable {K : Fg} {E : L2.St → XK} {e0 : XK} {te ta tb : TE} {tA : TA} {t : TS} {S : Zs} {M : Ms} {P : ZP} {Q : QZ} {X : XZ} {n : Sn} {σ : L2.St} {G G' H H' : Hp}
theorem zw_orl (h : ZW K E ta S M Q X) : ZW K E (tOr2 ta tb) S M Q X := fun n σ G H R Qv k kx => .inl (h n σ G H R Qv k kx)
theorem zw_orr (h : ZW K E tb S M Q X) : ZW K E (tOr2 ta tb) S M Q X := fun n σ G H R Qv k kx => .inr (h n σ G H R Qv k kx)
/-! ### a def over data that hands back a new own object -/
def spB (K : Fg) (k : Nat) (R : List PyData → Addr → List (Str × ZV) → Prop) : Sp := fun vs H Q E => ∃ (G : Hp) (ds : List PyData) (C : Addr) (fs : List (Str × ZV)), Ex G H ∧ ds.length = k ∧ DzAll K G vs ds ∧ R ds C fs ∧
  ∀ p G' H', Ext [] G H G' H' → H p = none → G' p = none → CD.at K G' H' p (.obj C fs) → Q (.ref p) H'
def PFb (C : Addr) (fs : List (Str × ZV)) : ZP := ⟨fun _ _ => False, fun z M => ∃ p, z = .c p ∧ (p, true, .obj C fs) ∈ M, fun _ _ => False, fun _ _ => False, fun _ _ _ => False⟩
theorem fn_B {R : List PyData → Addr → List (Str × ZV) → Prop} {k : Nat} {N : List Str} {vs : List V} {Qv : VK} (h : spB K k R vs H Qv e0) (b : ∀ ds C fs, ds.length = k → R ds C fs → ZS K (fun _ => e0) t (stS ds ++ List.replicate (N.length - ds.length) none) [] (PFb C fs)) : t { nx := fun _ H' => Qv .non H', rt := Qv } (L2.start N vs) H := by
  obtain ⟨G, ds, C, fs, e, hk, hd, hR, q⟩ := h
  refine b ds C fs hk hR ⟨G, H, []⟩ _ G H (rel_start e hd) _ ⟨fun _ _ _ _ _ _ _ z => z.elim, fun v σ' G' H' z S' M' _ R a z' => ?_, fun _ _ _ _ _ _ _ z => z.elim, fun _ _ _ _ _ _ _ z => z.elim, fun _ _ _ _ _ _ _ _ _ _ _ z => z.elim⟩
  obtain ⟨p, hz, hm⟩ := z'
  subst hz
  have ev : v = .ref p := a
  subst ev
  obtain ⟨h1, h2⟩ := R.ce p true _ hm
  exact q p G' H' R.ext (R.o0 p _ hm) h1 h2
theorem len_B {R : List PyData → Addr → List (Str × ZV) → Prop} {k : Nat} {vs : List V} {Qv : VK} (h : spB K k R vs H Qv e0) : vs.length = k := by
  obtain ⟨G, ds, C, fs, e, hk, hd, _⟩ := h
  rw [dpa_len hd, hk]
theorem zw_callB0 {ar : Nat} {R : List PyData → Addr → List (Str × ZV) → Prop} (h : ZA K E tA S M (fun zs M1 => ∃ ds C fs, AllD zs ds ∧ ds.length = ar ∧ R ds C fs ∧ ∀ p, Q (.c p) ((p, true, .obj C fs) :: M1)) X) : ZW K E (tCall (spB K ar R) [] E0 tA) S M Q X := fun n σ G H Rl Qv k kx =>
  h n σ G H Rl _ (fun vs G1 H1 zs M1 e1 R1 a1 ⟨ds, C, fs, hd, hk, hR, q⟩ => by
    refine ⟨G1, ds, C, fs, R1.ex, hk, ?_, hR, fun p G' H' e hp hg hc => ?_⟩
    · rw [List.append_nil]
      exact zall_d (by rw [← hd]; exact a1)
    · exact k (.ref p) G' H' (.c p) _ (e1.trans e.g) ((R1.call e).cell (R1.fresh hp) (R1.notin hp) hg hc) rfl (q p)) kx
/-! ### C(), C a class without __init__ -/
def tMakeE (C : Addr) : TE := fun _ H Q => ∀ x dx, H x = none → H dx = none → dx ≠ x → Q (.ref x) (upd (upd H dx (.own x)) x (.ins C dx []))
theorem zw_makeE {C : Addr} (q : ∀ p, Q (.c p) ((p, true, .obj C []) :: M)) : ZW K E (tMakeE C) S M Q X := fun n σ G H Rl Qv k kx x dx hx hdx hne => by
  have R2 := Rl.lay (p := dx) (o := .own x) hdx
  have hx2 : (upd H dx (.own x)) x = none := by rw [upd_ne (Ne.symm hne)]; exact hx
  have R3 := R2.lay (p := x) (o := .ins C dx []) hx2
  have hown : (upd (upd H dx (.own x)) x (.ins C dx [])) dx = some (.own x) := by rw [upd_ne hne, upd_same]
  have hc : CD.at K G (upd (upd H dx (.own x)) x (.ins C dx [])) x (.obj C []) := ⟨dx, [], upd_same, hown, ex_gnone Rl.ex hdx, .nil⟩
  exact k (.ref x) G _ (.c x) _ (Ex.refl G) (R3.cell (Rl.fresh hx) (Rl.notin hx) (ex_gnone Rl.ex hx) hc) rfl (q x)
end
section
variable {X : Cx} {C : Addr} {x : Str} {p pos : Pos}
/-- what such a class must have -/
structure MkE (K : Fg) (mg : Str → Option Value) (x : Str) (C : Addr) : Prop where
  m : PySem.W.makesIn K C = true
  i : PySem.W.findIn K (.ref C) "__init__" = some (some (.builtin "object.__init__"))
  k : PySem.W.keepIn K (.ref C) = true
  g : mg x = some (.ref C)
theorem pe_mkE (T : MkE X.K X.mg x C) (hg : Gl X x := by rfl) (hdb : (x == ("__debug__" : Str)) = false := by decide) : PE X (.Call (.Name x p) [] [] pos) (tMakeE C) := by
  refine ⟨fun pins s σ H Q I h => wpAny_Call_Name_kw (ld_glob I hg T.g (PySem.W.callWith_K0 I.kIn T.k (wpAny_call ?_)) hdb)⟩
  have J := Inv.made (C := C) I
  have q := h (s.heap.objs.size + 1) s.heap.objs.size (I.hok.fresh (Nat.le_succ _)) (I.hok.fresh (Nat.le_refl _)) (Nat.ne_of_lt (Nat.lt_succ_self _))
  have Y := PySem.W.makes_of (M := model X.prog X.w) I.kIn T.m
  have old : ∀ b o, s.heap.get? b = some o → ((s.heap.push PySem.W.emptyDict).push (PySem.W.instObj C s.heap.objs.size)).get? b = some o := fun b o e => Heap.get?_push_of_some _ (Heap.get?_push_of_some _ e)
  have new : ((s.heap.push PySem.W.emptyDict).push (PySem.W.instObj C s.heap.objs.size)).get? (s.heap.objs.size + 1) = some (PySem.W.instObj C s.heap.objs.size) := by
    rw [← Heap.size_push s.heap PySem.W.emptyDict]
    exact Heap.get?_push_size _ rfl
  have ty : PySem.W.Looks (model X.prog X.w) ((s.heap.push PySem.W.emptyDict).push (PySem.W.instObj C s.heap.objs.size)) (typeOf (.ref (s.heap.objs.size + 1))) (.ref C) := (PySem.W.Looks.ld new).andThen .now
  have obj : PySem.W.Looks (model X.prog X.w) ((s.heap.push PySem.W.emptyDict).push (PySem.W.instObj C s.heap.objs.size)) (isInstance (.ref (s.heap.objs.size + 1)) (.type "object")) true := ty.andThen (Y.top.keeps old)
  refine PySem.W.make_core Y (PySem.W.looks_findIn I.kIn T.i) (fun self => .of_pure (PySem.W.oi_bind self)) (.inr ⟨rfl, rfl⟩) (codeAny_call_builtin PySem.W.oi_plain PySem.W.entry_oi (PySem.W.check_slot PySem.W.oi_kind PySem.W.oi_split obj (PySem.W.oi_args _) ?_))
  show wpAny _ _ (Builtin.«object.__init__» ⟨[.ref (s.heap.objs.size + 1)], []⟩) _ _ _
  rw [PySem.W.oi_run]
  exact wpAny_pure ⟨rfl, V.ref (s.heap.objs.size + 1), _, J, rfl, q⟩
/-! ### great numbers -/
def CDivG (_ j : Int) : Prop := j ≠ 0 ∧ j.natAbs.log2 < 9000
theorem op_fdivG : OpR X (binaryOp .FloorDiv) (rI CDivG fun i j => .int (i.fdiv j)) := opI fun i j t u s Q E hc q => floordiv_int hc.1 q (.inl (PyProof.noPylong_of_log2 hc.2))
end
section
variable {K : Fg} {M : Ms} {Q : QZ}
theorem zo_fdivG {i j : Int} (hc : CDivG i j) (q : Q (.d (.int (i.fdiv j))) M) : ZO K (rI CDivG fun i j => .int (i.fdiv j)) (.d (.int i)) (.d (.int j)) M Q := zo_I (gd := fun i j => .int (i.fdiv j)) (fun _ => .int _) hc q
abbrev rAbs : List V → Hp → VK → Prop := fun xs H Q => ∃ i, xs = [.int i] ∧ Q (.int (if i < 0 then -i else i)) H
theorem zc_abs {i : Int} (q : Q (.d (.int (if i < 0 then -i else i))) M) : ZC K rAbs [.d (.int i)] M Q := zc_val (z := .d (.int (if i < 0 then -i else i))) (fun G H vs e a => by
  obtain ⟨v, rfl, av⟩ := zall1 a
  exact ⟨_, Dz.int _, fun Qv hq => ⟨i, by rw [dp_int av], hq⟩⟩) q
theorem zc_gcd {i j : Int} (q : Q (.d (.int ((Nat.gcd i.natAbs j.natAbs : Nat) : Int))) M) : ZC K rGcd [.d (.int i), .d (.int j)] M Q := zc_val (z := .d (.int ((Nat.gcd i.natAbs j.natAbs : Nat) : Int))) (fun G H vs e a => by
  obtain ⟨v, u, rfl, av, au⟩ := zall2 a
  exact ⟨_, Dz.int _, fun Qv hq => ⟨i, j, by rw [dp_int av, dp_int au], hq⟩⟩) q
abbrev rIsB : R2 := fun x y H Q => ∃ a b, x = .bl a ∧ y = .bl b ∧ Q (.bl (decide (a = b))) H
abbrev rIsntB : R2 := fun x y H Q => ∃ a b, x = .bl a ∧ y = .bl b ∧ Q (.bl (!decide (a = b))) H
theorem zo_isB {a b : Bool} (q : Q (.d (.bool (decide (a = b)))) M) : ZO K rIsB (.d (.bool a)) (.d (.bool b)) M Q :=
  zo_val (z := .d (.bool (decide (a = b)))) (fun G H v u e x y => ⟨_, .bl _, fun Qv h => ⟨a, b, dp_bl x, dp_bl y, h⟩⟩) q
theorem zo_isntB {a b : Bool} (q : Q (.d (.bool (!decide (a = b)))) M) : ZO K rIsntB (.d (.bool a)) (.d (.bool b)) M Q :=
  zo_val (z := .d (.bool (!decide (a = b)))) (fun G H v u e x y => ⟨_, .bl _, fun Qv h => ⟨a, b, dp_bl x, dp_bl y, h⟩⟩) q
end
end Z
/-! [e for x in range(a, b) for y in range(c, d)] -/
namespace Z
open PySem PySem.Spec PyProof.Rows L2
open Evl (Ex)
/-- what stands in the list ahead of the turn (i, j) -/
def gridL (f : Nat → Nat → PyData) (m i j : Nat) : List PyData := ((List.range i).flatMap fun a => (List.range m).map (f a)) ++ (List.range j).map (f i)
theorem gridL_zero (f : Nat → Nat → PyData) (m : Nat) : gridL f m 0 0 = [] := rfl
theorem gridL_row (f : Nat → Nat → PyData) (m i : Nat) : gridL f m i m = gridL f m (i + 1) 0 := by
  unfold gridL
  rw [List.range_succ, List.flatMap_append]
  simp
theorem gridL_cell (f : Nat → Nat → PyData) (m i j : Nat) : gridL f m i (j + 1) = gridL f m i j ++ [f i j] := by
  unfold gridL
  rw [List.range_succ, List.map_append, List.append_assoc]
  rfl
theorem gridL_len (f : Nat → Nat → PyData) (m i j : Nat) : (gridL f m i j).length = i * m + j := by
  induction i with
  | zero => unfold gridL; simp
  | succ i ih =>
    have e : gridL f m (i + 1) j = (gridL f m i m) ++ (List.range j).map (f (i + 1)) := by
      rw [gridL_row]
      unfold gridL
      simp
    have e2 : (gridL f m i m).length = i * m + m := by
      have h := ih
      unfold gridL at h ⊢
      simp at h ⊢
      omega
    rw [e, List.length_append, e2, List.length_map, List.length_range, Nat.succ_mul]
theorem par_go {F : ZV → ZV → Prop} {z w : ZV} (h : F z w) : ∃ a b, [z, w] = [a, b] ∧ F a b := ⟨z, w, rfl, h⟩
theorem par_go3 {F : ZV → ZV → ZV → Prop} {z w y : ZV} (h : F z w y) : ∃ a b c, [z, w, y] = [a, b, c] ∧ F a b c := ⟨z, w, y, rfl, h⟩
section
variable {K : Fg} {E : L2.St → XK} {tA tB : TA} {g g1 : TG} {te : TE} {S : Zs} {M : Ms} {Q : QZ} {X : XZ}
theorem zw_lc2R {vs vs1 : List Nat} {a b a1 b1 : Int} {r d : Nat} (f : Nat → Nat → PyData) (hr : r ∈ vs) (hd : d ∈ vs1) (hg : g = gName r) (hg1 : g1 = gName d)
    (hz : (b - a).toNat * (b1 - a1).toNat ≤ sizeLine)
    (la : -(2 ^ 62) ≤ a ∧ a < 2 ^ 62 ∧ -(2 ^ 62) ≤ b ∧ b < 2 ^ 62) (lb : -(2 ^ 62) ≤ a1 ∧ a1 < 2 ^ 62 ∧ -(2 ^ 62) ≤ b1 ∧ b1 < 2 ^ 62)
    (hA : ZA K E tA S M (fun zs M1 => zs = [.d (.int a), .d (.int b)] ∧ M1 = M) X)
    (hB : ∀ S2 M2, ZA K E tB S2 M2 (fun zs M1 => zs = [.d (.int a1), .d (.int b1)] ∧ M1 = M2) fun _ _ _ => False)
    (hE : ∀ (i j : Nat) (M2 : Ms), i < (b - a).toNat → j < (b1 - a1).toNat → ZW K E te ((wipeZ ((wipeZ S vs).set r (some (.d (.int (a + (i : Nat)))))) vs1).set d (some (.d (.int (a1 + (j : Nat)))))) M2 (fun z M3 => z = .d (f i j) ∧ M3 = M2) fun _ _ _ => False)
    (q : Q (.d (.list (gridL f (b1 - a1).toNat (b - a).toNat 0))) M) : ZW K E (tLc2 (iRng2 tA) g tYes (iRng2 tB) g1 tYes te vs vs1) S M Q X := fun n σ G H R Qv k kx => by
  subst hg hg1
  refine hA n σ G H R _ (fun us G1 H1 zs M1 e1 R1 a1' ⟨hzs, hM⟩ => ?_) kx
  subst hzs hM
  obtain ⟨v, u, rfl, av, au⟩ := zall2 a1'
  have ev := dp_int av
  have eu := dp_int au
  subst ev eu
  refine ⟨a, b, rfl, la, fun D hD => ?_⟩
  let N := (b - a).toNat
  let L := (b1 - a1).toNat
  -- ahead of a row
  let A : Nat → Hp → Prop := fun i H' => ∃ G', Rel K n (wipeZ S vs) ((D, true, .lst (gridL f L i 0)) :: M1) (L2.wipe σ vs) G' H' ∧ Ex G1 G'
  refine ⟨fun i m H' => m = N - i ∧ i ≤ N ∧ A i H', ⟨N, rfl, Nat.zero_le _, G1, (R1.newLst hD .nil).wipe vs, Ex.refl G1⟩, ?_⟩
  rintro i m H2 ⟨rfl, hi, G2, R2, e2⟩
  by_cases hlt : i < N
  · refine .inr ⟨hlt, A (i + 1), fun H' h' => ⟨N - (i + 1), by omega, rfl, hlt, h'⟩, fun x H' hy => ?_⟩
    obtain ⟨hH, hx⟩ := hy
    subst hH hx
    show _ ∧ _
    have R3 := R2.set (i := r) (v := .int (a + (i : Nat))) (z := .d (.int (a + (i : Nat)))) (Dz.int _)
    refine ⟨wipe_eq (by simp) fun j hj => by rw [List.getElem?_set_ne (fun e => hj (by rw [← e]; exact hr))], ?_⟩
    show tYes _ _ _
    refine hB _ _ n _ G2 _ R3 _ (fun us G3 H3 zs M3 e3 R3' a3 ⟨hzs, hM⟩ => ?_) (fun _ _ _ _ _ _ _ _ _ _ z => z.elim)
    subst hzs hM
    obtain ⟨v, u, rfl, av, au⟩ := zall2 a3
    have ev := dp_int av
    have eu := dp_int au
    subst ev eu
    refine ⟨a1, b1, rfl, lb, ?_⟩
    generalize hS2 : (wipeZ S vs).set r (some (.d (.int (a + (i : Nat))))) = S2 at R3'
    generalize hσ2 : (L2.wipe σ vs).set r (some (.int (a + (i : Nat)))) = σ2 at R3'
    -- ahead of a cell of the row
    let B : Nat → Hp → Prop := fun j H' => ∃ G', Rel K n S2 ((D, true, .lst (gridL f L i j)) :: M1) σ2 G' H' ∧ Ex G3 G'
    refine ⟨fun j k H' => k = L - j ∧ j ≤ L ∧ B j H', ⟨L, rfl, Nat.zero_le _, G3, R3', Ex.refl G3⟩, ?_⟩
    rintro j k' H4 ⟨rfl, hj, G4, R4, e4⟩
    by_cases hjl : j < L
    · refine .inr ⟨hjl, B (j + 1), fun H' h' => ⟨L - (j + 1), by omega, rfl, hjl, h'⟩, fun y H' hy => ?_⟩
      obtain ⟨hH, hx⟩ := hy
      subst hH hx
      show _ ∧ _
      have R5 := (R4.wipe vs1).set (i := d) (v := .int (a1 + (j : Nat))) (z := .d (.int (a1 + (j : Nat)))) (Dz.int _)
      refine ⟨wipe_eq (by simp) fun l hl => by rw [List.getElem?_set_ne (fun e => hl (by rw [← e]; exact hd))], ?_⟩
      show tYes _ _ _
      rw [← hS2] at R5
      refine hE i j _ hlt hjl n _ G4 _ R5 _ (fun w G6 H6 z M6 e6 R6 a6 ⟨hz6, hM6⟩ => ?_) (fun _ _ _ _ _ _ _ _ _ _ z => z.elim)
      subst hz6 hM6
      obtain ⟨_, ws, h1, h2⟩ := R6.ce D true _ m0
      have hlen := gridL_len f L i j
      have hb : i * L + j < sizeLine := by
        have h1 : (i + 1) * L ≤ N * L := Nat.mul_le_mul_right L hlt
        rw [Nat.succ_mul] at h1
        have h2 : N * L ≤ sizeLine := hz
        omega
      refine ⟨ws, h1, by rw [dpa_len h2, hlen]; exact hb, G6, ?_, e4.trans e6⟩
      rw [gridL_cell]
      exact (R4.reslot R6 e6).putLst .here (dpa_app h2 (dpa_one a6))
    · have e : j = L := by omega
      subst e
      refine .inl ⟨Nat.le_refl _, G4, ?_, (e2.trans e3).trans e4⟩
      rw [← gridL_row]
      exact R2.reslot R4 (e3.trans e4)
  · have e : i = N := by omega
    subst e
    refine .inl ⟨Nat.le_refl _, ?_⟩
    obtain ⟨G5, e5, R5, d5⟩ := R2.frz .here
    exact k (.ref D) G5 H2 (.d (.list (gridL f L N 0))) M1 ((e1.trans e2).trans e5) (R1.reslot R5 (e2.trans e5)) d5 q
end
end Z
/-! for i, x in enumerate(t), t a tuple: the turn of an iterator that hands out pairs (PySem.WalksT) as a turn of HandS; enumerate's one-argument call over whatever begins an iterator -/
namespace Z
open PySem PySem.Spec PyProof.Rows L2
open Evl (Ex)
/-- a: the tuple; each turn a new pair -/
def ItN (K : Fg) (a : Addr) : It where
  go i H := ∃ xs x, SqT K H a xs ∧ xs[i]? = some x
  yld i H v H' := ∃ T x, (H T = none ∧ v = .ref T ∧ H' = upd H T (.tup [.int (i : Nat), x])) ∧ ∀ xs, SqT K H a xs → xs[i]? = some x
  stop i H := ∃ xs, SqT K H a xs ∧ xs.length = i
/-- what lies behind a walk's turn is in order: pair, iterators, all else -/
theorem turnN {P : Program} {w : World} {K : Fg} {elts : List Expr} {kk : Nat} {tpos : Pos} {a e it : Addr} (h1 : e ≠ it) (h2 : e ≠ a) (h3 : a ≠ it) :
    Turn P w K (.Tuple elts kk tpos) (ItN K a) [e, it] e (fun i h => (∃ old, IsEnum h e it (i : Nat) old) ∧ h.IsTupleIter it a i) := by
  have D : ∀ (A : Around), A.handled = none → ∀ vals : Array Value, WalksT P w A e [e, it, a] [e, it] vals.size _ (fun i h => (∃ old, IsEnum h e it (i : Nat) old) ∧ h.IsTupleIter it a i ∧ h.IsTuple a vals) _ := fun A hA vals =>
    WalksT.enumerateD (Draws.tuple (prog := P) (w := w) (A := A.in1) hA it a h3 vals) e h1 (by simp [h1, h2]) (by simp)
  constructor
  case mem => exact List.mem_cons_self
  case obj =>
    rintro i h ⟨⟨old, he⟩, o, ho, hc, hd⟩ b hb
    rcases List.mem_cons.mp hb with rfl | hb
    · exact ⟨_, he, by intro v z; cases z⟩
    · rw [List.mem_singleton.mp hb]
      exact ⟨o, ho, by intro v z; rw [hd] at z; cases z⟩
  case keep =>
    rintro i h h' ⟨⟨old, he⟩, hi⟩ k
    exact ⟨⟨old, k _ List.mem_cons_self _ he⟩, hi.at fun o q => k _ (List.mem_cons_of_mem _ List.mem_cons_self) o q⟩
  case item =>
    rintro X rfl rfl rfl hc i pins s σ H E I hf ⟨he, hi⟩ ⟨xs, x, hq, hx⟩
    obtain ⟨vals, rv, ht, _⟩ := I.tuple hq
    obtain ⟨u, hu, ru⟩ := rv.get hx
    have W := D X.A (I.ok.hd hc) vals.toArray
    have hlt : i < vals.toArray.size := by simpa using (List.getElem?_eq_some_iff.mp hu).1
    refine W.item i s _ _ hlt ⟨he, hi, ht⟩ fun T ws g tk hP hT hg hm hk => ?_
    obtain ⟨t, y, hy, rfl⟩ := hP
    have hyu : y = u := by
      have hy' : vals[i]? = some y := by simpa using hy
      rw [hu] at hy'
      exact (Option.some.inj hy').symm
    subst hyu
    refine ⟨_, rfl, W.go _ _ _ i T { s with heap := g, toks := tk } _ _ hm fun g' hm' hk' => ?_⟩
    have hTn : H T = none := I.hok.fresh hT
    obtain ⟨oT, hoT, hcT, nT, hdT⟩ := hg
    have pair : ObjOk X.prog X.w (upd H T (.tup [.int (i : Nat), x])) g' T (.tup [.int (i : Nat), x]) :=
      ⟨by rw [sizeLine_eq]; show 2 ≤ 16777216; decide, [.int (i : Nat) t, y], .cons ⟨t, rfl⟩ (.cons ru .nil), oT, hk' T oT (W.apart i T g hm) hoT, hcT, nT, hdT⟩
    have J := I.turnedNew (t' := tk) (ch := [e, it]) (h' := g') (fun b o hb q => hk' b o hb (hk b o hb q)) hf hT pair
    refine ⟨V.ref T, _, J, rfl, ⟨T, x, ⟨hTn, rfl, rfl⟩, fun ys hy => by rw [I.tuple_inj hy hq]; exact hx⟩, ⟨hm'.1, hm'.2.1⟩, fun b hb => ?_⟩
    have hbT : b ≠ T := fun z => W.apart i T g hm (z ▸ hb)
    rw [upd_ne hbT]
    exact (hf b hb).1
  case done =>
    rintro X rfl rfl rfl hc i pins s σ H E I hf ⟨he, hi⟩ ⟨xs, hq, hl⟩
    obtain ⟨vals, rv, ht, _⟩ := I.tuple hq
    have W := D X.A (I.ok.hd hc) vals.toArray
    have hn : vals.toArray.size = i := by rw [List.size_toArray, ← rv.length, hl]
    refine W.done s _ _ (by rw [hn]; exact ⟨he, hi, ht⟩) fun g tk hk => ⟨rfl, ?_⟩
    exact I.turnedL (t' := tk) hk hf
  case self =>
    rintro A i s Q E ⟨⟨old, he⟩, _⟩ hQ
    exact wpAny_pyIter_enum he hQ
/-- the one-argument call: a new iterator, and the enumerate over it -/
theorem meets_enum1 {v : Value} {o : Obj} {F : Heap → Prop} (B : Begins v o F) :
    Meets (Builtin.«enumerate.__new__» ⟨[.type "enumerate", v], []⟩) (fun _ R s => F s.heap ∧ R (.ok (.ret (.ref (s.heap.objs.size + 1))))
      { s with heap := (s.heap.push o).push { cls := .type "enumerate", data := .fields #[.none, .bool false, .ref s.heap.objs.size, rawInt 0, .none, .none] } }) := by
  refine .of_wp fun prog w A R ⟨h, gs, dr, tk, os⟩ ⟨hF, hR⟩ => ?_
  have st := sub_enumerate
  have begin_ := fun {A' : Around} {E Q : Value → Shared → Prop} (q : Q (.ref h.objs.size) ⟨h.push o, gs, dr, tk, os⟩) => B.iter prog w A' E ⟨h, gs, dr, tk, os⟩ Q hF q
  have hR : R (.ok (.ret (.ref (h.push o).objs.size))) ⟨(h.push o).push { cls := .type "enumerate", data := .fields #[.none, .bool false, .ref h.objs.size, rawInt 0, .none, .none] }, gs, dr, tk, os⟩ := by rw [Heap.size_push]; exact hR
  wp_walk using begin_
  refine wpAny_stack_any fun fr => wpAny_pure ?_
  split
  case h_1 c _ _ _ _ _ =>
    rcases Bool.eq_false_or_eq_true (c == Value.type "enumerate") with hb | hb <;> rw [hb] <;> (wp_walk using begin_) <;> exact ⟨_, rfl, hR⟩
  case h_2 =>
    wp_walk using begin_
    exact ⟨_, rfl, hR⟩
/-- enumerate(t) as what a loop walks -/
def iEnumT (K : Fg) (ta : TA) : TI := fun σ H R => ta σ H fun vs H1 => ∃ a, vs = [.ref a] ∧ (∃ xs, SqT K H1 a xs) ∧ R (ItN K a) H1
theorem pi_enumT {X : Cx} {e : Expr} {ta : TA} {p pos tpos : Pos} {elts : List Expr} {kk : Nat} (hg : Gl X "enumerate") (hm : X.mg "enumerate" = none) (ha : PA X [e] ta) (hs : starEach [e] X.env = [(false, eval e X.env)] := by rfl) :
    PI X (.Tuple elts kk tpos) (.Call (.Name "enumerate" p) [e] [] pos) (iEnumT X.K ta) := by
  constructor
  intro pins s σ H R I h
  refine Call_ (ld_blt I hg hm boot_enumerate (PyProof.Rows.callWith_type1 (thn (ha.run pos pins s σ H _ I h) fun us s1 ⟨vs, H1, I1, r1, a, hv, ⟨xs, hq⟩, q⟩ => ?_) hs rfl))
  subst hv
  rw [Vals.ref1 r1]
  obtain ⟨its, rv, ht, _⟩ := I1.tuple hq
  have hT : s1.heap.IsTuple a its.toArray := ht
  have ha1 : a < s1.heap.objs.size := by obtain ⟨o, q, _⟩ := hT; exact Heap.lt_size q
  refine callType_new F.called_enumerate (by decide) (F.typeCall_enumerate_1 _) (F.newCall_enumerate_1 _) (fun obj => F.args_object_init_2 obj _) F.entry_enumerate_new (meets_enum1 (begins_tuple a its.toArray)) ⟨hT, ?_⟩
  have e1 : ((s1.heap.push { cls := .type "tuple_iterator", data := .fields #[.ref a, .int 0 0] }).push { cls := .type "enumerate", data := .fields #[.none, .bool false, .ref s1.heap.objs.size, rawInt 0, .none, .none] }).get? (s1.heap.objs.size + 1) = some { cls := .type "enumerate", data := .fields #[.none, .bool false, .ref s1.heap.objs.size, rawInt 0, .none, .none] } := by
    rw [← Heap.size_push s1.heap { cls := .type "tuple_iterator", data := .fields #[.ref a, .int 0 0] }]
    exact Heap.get?_push_size _ rfl
  have e2 : ((s1.heap.push { cls := .type "tuple_iterator", data := .fields #[.ref a, .int 0 0] }).push { cls := .type "enumerate", data := .fields #[.none, .bool false, .ref s1.heap.objs.size, rawInt 0, .none, .none] }).get? s1.heap.objs.size = some { cls := .type "tuple_iterator", data := .fields #[.ref a, .int 0 0] } := Heap.get?_push_of_some _ (Heap.get?_push_size _ rfl)
  generalize hh : (s1.heap.push { cls := .type "tuple_iterator", data := .fields #[.ref a, .int 0 0] }).push { cls := .type "enumerate", data := .fields #[.none, .bool false, .ref s1.heap.objs.size, rawInt 0, .none, .none] } = h2 at e1 e2 ⊢
  have old : ∀ b o, s1.heap.get? b = some o → h2.get? b = some o := fun b o q => by rw [← hh]; exact Heap.get?_push_of_some _ (Heap.get?_push_of_some _ q)
  refine ⟨⟨_, e1, rfl⟩, wpAny_pyIter_enum e1 ⟨s1.heap.objs.size + 1, [s1.heap.objs.size + 1, s1.heap.objs.size], _, _, H1, rfl, I1.kept (t' := s1.toks) old, turnN (a := a) (Nat.ne_of_gt (Nat.lt_succ_self _)) (Nat.ne_of_gt (Nat.lt_succ_of_lt ha1)) (Nat.ne_of_lt ha1), ⟨⟨.none, e1⟩, _, e2, rfl, rfl⟩, fun b hb => ?_, q⟩⟩
  have hle : s1.heap.objs.size ≤ b := by
    rcases List.mem_cons.mp hb with rfl | hb
    · exact Nat.le_succ _
    · rw [List.mem_singleton.mp hb]; exact Nat.le_refl _
  exact I1.fpOk hle (I1.hok.fresh hle)
section
variable {K : Fg} {E : L2.St → XK} {tA : TA} {g : TG} {t : TS} {S : Zs} {M : Ms} {P : ZP}
theorem zs_forN (h : ZA K E tA S M (fun zs M1 => ∃ xs, zs = [.d (.tuple xs)] ∧ ∃ I : Nat → Zs → Ms → Prop, I 0 S M1 ∧
      (∀ i x S' M', xs[i]? = some x → I i S' M' → ∃ is S2, ZG K g (.d (.tuple [.int (i : Nat), x])) S' is S2 ∧ ZS K E t S2 M' (LoopP P (I (i + 1)))) ∧ (∀ S' M', I xs.length S' M' → P.nx S' M')) P.ex) : ZS K E (tFor (iEnumT K tA) g t) S M P := by
  intro n σ G H R D k
  refine h n σ G H R _ (fun vs G1 H1 zs M1 e1 R1 a1 ⟨xs, hz, I, i0, is, id⟩ => ?_) k.xok
  subst hz
  obtain ⟨v, rfl, av⟩ := zall1 a1
  obtain ⟨p, ws, rfl, h1, h2⟩ := dp_tup av
  have hl := dpa_len h2
  have stays : ∀ {G' H' : Hp} {S' M' σ'}, Rel K n S' M' σ' G' H' → Ex G1 G' → SqT K H' p ws := fun R' e' => Evl.ex_t (e'.trans R'.ex) h1
  refine ⟨p, rfl, ⟨ws, Evl.ex_t R1.ex h1⟩, fun i m σ' H' => m = ws.length - i ∧ i ≤ ws.length ∧ FI K n G1 I i σ' H', ⟨_, rfl, Nat.zero_le _, G1, S, M1, R1, Ex.refl _, i0⟩, ?_⟩
  rintro i m σ' H' ⟨rfl, hi, G', S', M', R', e', hI⟩
  by_cases hlt : i < ws.length
  · have hw : ws[i]? = some ws[i] := List.getElem?_eq_getElem hlt
    obtain ⟨d, hd, ad⟩ := dpa_at_v h2 hw
    refine .inr ⟨⟨ws, _, stays R' e', hw⟩, FI K n G1 I (i + 1), fun σ2 H2 q => ⟨_, by omega, rfl, hlt, q⟩, fun y H2 hy => ?_⟩
    obtain ⟨T, x, ⟨hT, rfl, rfl⟩, hx⟩ := hy
    have ex : x = ws[i] := Option.some.inj ((hx ws (stays R' e')).symm.trans hw)
    subst ex
    have gT := ex_gnone R'.ex hT
    have R2 := R'.new (o := .tup [.int (i : Nat), ws[i]]) hT (fun _ z => nomatch z)
    obtain ⟨js, S2, hg, hb⟩ := is i d S' M' hd hI
    have pair : Dz K (upd G' T (.tup [.int (i : Nat), ws[i]])) (.ref T) (.tuple [.int (i : Nat), d]) := .tup (.inl upd_same) (.cons (.int _) (.cons (dp_mono (e'.trans (Ex.new gT)) ad) .nil))
    refine hg n M' σ' _ _ _ R2 pair _ fun σ2 _ _ R3 => hb n σ2 _ _ R3 _ ((k.mono ((e1.trans e').trans (Ex.new gT))).loop fun σ3 G3 H3 S3 M3 e3 R4 i3 => ⟨G3, S3, M3, R4, (e'.trans (Ex.new gT)).trans e3, i3⟩)
  · have e : i = ws.length := by omega
    subst e
    exact .inl ⟨⟨ws, stays R' e', rfl⟩, k.nx σ' G' H' S' M' (e1.trans e') R' (id S' M' (by rw [← hl]; exact hI))⟩
end
end Z
/-! dicts whose keys are tuples: {(..): e for .. in ..}, dict([..]), .get, in -/
namespace Z
open PySem PySem.Spec PyProof.Rows L2
open Evl (Ex)
/-- what a block of a comprehension keeps: its frame, the iterator's own objects -/
theorem fp_in {X : Cx} {s : Shared} {H0 : Hp} {scope : Scope} {ce : Env} {fp : List Addr} {σ : L2.St} {H : Hp} {t : Shared} (I : Inv (X.blk s H0 scope ce fp) [] σ H t) (h : ∀ b ∈ fp, H b = none) : ∀ b ∈ fp, FpOk (X.blk s H0 scope ce fp) [] H b := by
  intro b hb
  have k := I.ok.exf b hb
  refine ⟨h b hb, k.1, I.ok.exfs b hb, Or.inl hb, fun x c e => k.2 x c e, fun p hp => ?_⟩
  exact absurd hp (by show p ∉ ([] : List (Addr × Obj)) ++ []; simp)
/-- the dict at D takes v at the key -/
theorem d_take {X : Cx} {pins : List (Addr × Obj)} {σ : L2.St} {H : Hp} {s : Shared} {A : Around} {E : Value → Shared → Prop} {D b : Addr} {kvs : List (List Key × V)} {k : List Key} {v : V} {r : Value} {Q : Unit → Shared → Prop} (hu : A.units < cLine) (I : Inv X pins σ H s)
    (hD : H D = some (.dT kvs)) (hb : H b = some (.tup (k.map kV))) (hl : kvs.length < sizeLine) (rv : RelV v r) (q : ∀ t, Inv X pins σ (upd H D (.dT (putK kvs k v))) t → Q () t) : wpAny (model X.prog X.w) A (dictSet D (.ref b) r) Q E s := by
  obtain ⟨_, hm, xs, rel, dd⟩ := dt_of I.hok hD
  have hx : xs.length ≤ sizeLine := by rw [← Paired.length rel]; omega
  refine wpAny_dictSet_heap (knd := tupleKind (mixKind X.prog X.w)) hu (key_of I.hok hb) dd (fun g hg sb => q _ ?_) hx
  obtain ⟨o, es, ep, p1, p2, p3, p4, _, p5⟩ := hg
  have old : ∀ c ys, H c = some (.tup ys) → upd H D (.dT (putK kvs k v)) c = some (.tup ys) := fun c ys e => by
    rw [upd_ne (fun z => by rw [z, hD] at e; cases e)]
    exact e
  refine d_write I (by rw [hD]; exact trivial) sb ⟨o, p1⟩ ⟨?_, hm, _, (rel.put k hb rv).keeps old, o, es, ep, p1, p2, p3, p4, p5⟩
  have := length_putK kvs k v
  omega
/-- {key: value for target in iter if ..}, the keys tuples of ints and texts -/
def tDcT (wi : TI) (g : TG) (tt : TT) (tk tv : TE) (vs : List Nat) : TE := fun σ H Q => wi σ H fun J H1 => ∀ D, H1 D = none → ∃ W : Nat → Nat → Hp → Prop, (∃ m, W 0 m (upd H1 D (.dT []))) ∧ ∀ i m H, W i m H →
  (J.stop i H ∧ Q (.ref D) H) ∨ (J.go i H ∧ ∃ N : Hp → Prop, (∀ H', N H' → ∃ m', m' < m ∧ W (i + 1) m' H') ∧ ∀ x H', J.yld i H x H' → g x (wipe σ vs) H' fun σ2 H2 => wipe σ2 vs = wipe σ vs ∧ tt σ2 H2 fun b H3 => (b = false → N H3) ∧
    (b = true → tk σ2 H3 fun y H4 => tv σ2 H4 fun z H5 => ∃ kvs k c, y = .ref c ∧ H5 c = some (.tup (k.map kV)) ∧ H5 D = some (.dT kvs) ∧ kvs.length < sizeLine ∧ N (upd H5 D (.dT (putK kvs k z)))))
theorem pe_dcT {X : Cx} {kx vx tg iter : Expr} {ifs : List Expr} {scope : Scope} {own : List (Str × Nat)} {pos : Pos} {wi : TI} {g : TG} {tt : TT} {tk tv : TE} (hc : X.calm = true) (hu : X.A.units < cLine) (hN : X.N.Nodup) (hi : PI X tg iter wi) (ok : BlkOk X.N X.env.scope scope own)
    (hg : ∀ (s : Shared) (H : Hp) (C : Addr) (cl : List (Str × Addr)) (fp : List Addr), PG (X.blk s H scope (compEnvC scope cl C X.env) fp) tg g) (ht : ∀ (s : Shared) (H : Hp) (C : Addr) (cl : List (Str × Addr)) (fp : List Addr), PTs (X.blk s H scope (compEnvC scope cl C X.env) fp) ifs tt)
    (hk : ∀ (s : Shared) (H : Hp) (C : Addr) (cl : List (Str × Addr)) (fp : List Addr), PE (X.blk s H scope (compEnvC scope cl C X.env) fp) kx tk) (hv : ∀ (s : Shared) (H : Hp) (C : Addr) (cl : List (Str × Addr)) (fp : List Addr), PE (X.blk s H scope (compEnvC scope cl C X.env) fp) vx tv)
    (hs : ∀ x, foldedSetIterable iter X.env x = pure x := by intro _; rfl) : PE X (.DictComp kx vx [⟨tg, iter, ifs, 0⟩] scope pos) (tDcT wi g tt tk tv (own.map (·.2))) := by
  constructor
  intro pins s σ H Q I h
  rw [arm_eval_DictComp]
  generalize hvs : own.map (·.2) = vs at h
  have clo := closure_ok (env := X.env) (scope := scope) fun y hy e => (ok.free y hy e).elim (fun k => I.ok.has _ (.inl k)) fun k => I.ok.has _ (.inr k)
  refine wpAny_comprehension_free rfl hs clo ok.kind (fun y hy e => by rw [ok.uniq y hy, e]) (thn (hi.run pins s σ H _ I h) fun _ _ hx => thn hx fun itv s2 ⟨it, fp, tn, J, H2, hit, I2, T, t2, f2, q⟩ => ?_)
  subst hit
  refine wpAny_newObj_type (newEnv_comp ?_)
  have hD := I2.hok.fresh (Nat.le_refl s2.heap.objs.size)
  obtain ⟨W, ⟨m0, w0⟩, turn⟩ := q _ hD
  have hlt : ∀ b ∈ fp, b < s2.heap.objs.size := fun b hb => by obtain ⟨o, e, _⟩ := T.obj _ _ t2 b hb; exact Heap.lt_size e
  -- the dict is laid
  let h3 := s2.heap.push { cls := .type "dict", data := .dict #[] }
  let H3 := upd H2 s2.heap.objs.size (.dT [])
  have old3 : ∀ b o, s2.heap.get? b = some o → h3.get? b = some o := fun b o e => Heap.get?_push_of_some _ e
  have I3 : Inv X pins σ H3 { s2 with heap := h3 } := I2.laid (t' := s2.toks) old3 (Nat.le_refl _) (dt_empty s2.heap I2.big)
  have f3 : ∀ b ∈ fp, FpOk X pins H3 b := fun b hb => ⟨by show upd H2 _ _ b = none; rw [upd_ne (Nat.ne_of_lt (hlt b hb))]; exact (f2 b hb).1, (f2 b hb).2⟩
  have z3 : h3.objs.size = s2.heap.objs.size + 1 := Heap.size_push ..
  -- the block
  have I4 := block_start I3 ok hN (fp := fp) fun b hb => ⟨f3 b hb, by show b < h3.objs.size; rw [z3]; exact Nat.lt_succ_of_lt (hlt b hb)⟩
  have t4 : tn 0 (pushCells (h3.push { cls := .type "dict", data := .dict #[] }) scope.names) := T.keep _ _ _ t2 fun b _ o e => pushCells_keeps _ _ _ _ (Heap.get?_push_of_some _ (old3 b o e))
  generalize hcl : cellsFrom (h3.objs.size + 1) scope.names (cloFrom X.env.cells scope.names []) = cl at I4
  have pg := hg { s2 with heap := h3 } H3 h3.objs.size cl fp
  have pt := ht { s2 with heap := h3 } H3 h3.objs.size cl fp
  have pk := hk { s2 with heap := h3 } H3 h3.objs.size cl fp
  have pv := hv { s2 with heap := h3 } H3 h3.objs.size cl fp
  show codeAny _ _ (.compStart _ 0 (.ref it) (.ref s2.heap.objs.size) (compEnvC scope cl h3.objs.size X.env)) (compPost _ _ _ _ _ (.ref s2.heap.objs.size) h3.objs.size) { s2 with heap := pushCells (h3.push { cls := .type "dict", data := .dict #[] }) scope.names }
  generalize hce : compEnvC scope cl h3.objs.size X.env = ce at I4 pg pt pk pv ⊢
  have hL : ce.locals = h3.objs.size := by rw [← hce]; rfl
  rw [hvs] at I4
  have loop : codeAny (model X.prog X.w) X.A (.compLoop (.DictComp kx vx [⟨tg, iter, ifs, 0⟩] scope pos) 0 (.ref it) (.ref s2.heap.objs.size) ce) (compPost (model X.prog X.w) X.A X.xe none (EP X pins σ Q) (.ref s2.heap.objs.size) h3.objs.size) { s2 with heap := pushCells (h3.push { cls := .type "dict", data := .dict #[] }) scope.names } := by
    refine compLoop_anyD (fun m t => ∃ i H', W i m H' ∧ Inv (X.blk { s2 with heap := h3 } H3 scope ce fp) [] (wipe σ vs) H' t ∧ tn i t.heap ∧ ∀ b ∈ fp, H' b = none) ?_ m0 ⟨0, H3, w0, I4, t4, fun b hb => (f3 b hb).1⟩
    rintro m t ⟨i, H', w, I5, t5, n5⟩
    rcases turn i m H' w with ⟨stop, done⟩ | ⟨go, N, hNx, step⟩
    · refine thnF (T.done (X.blk { s2 with heap := h3 } H3 scope ce fp) rfl rfl rfl hc i [] t _ H' (fun _ _ => False) I5 (fp_in I5 n5) t5 stop) fun r t6 ⟨hr, I6⟩ => ?_
      subst hr
      have back : Inv X pins σ H' t6 := I3.call' (ch := fp) I6.os I6.base I6.hok I6.bare fun b hb => ⟨(f3 b hb).2.2.2.1, (f3 b hb).2.1, (f3 b hb).2.2.2.2.1, (f3 b hb).2.2.2.2.2⟩
      obtain ⟨ns, hns, _⟩ := I6.loc
      have free := I6.free
      have hns : t6.heap.Ns ce.locals ns := hns
      have free : H' ce.locals = none := free
      rw [hL] at hns free
      refine ⟨ns, hns, fun g sb => ?_⟩
      have fr := I3.fpOk (H' := H') (Nat.le_refl _) free
      exact ⟨.ref s2.heap.objs.size, H', back.turned (t' := t6.toks) (fun b o hb e => (sb.2 b hb).trans e) fr.1 fr.2.1 fr.2.2.2.1 fr.2.2.2.2.1 fr.2.2.2.2.2, rfl, done⟩
    · refine thnF (T.item (X.blk { s2 with heap := h3 } H3 scope ce fp) rfl rfl rfl hc i [] t _ H' (fun _ _ => False) I5 (fp_in I5 n5) t5 go) fun r t6 ⟨u, hr, h6⟩ => ?_
      subst hr
      refine thnF h6 fun _ t7 ⟨x, H7, I7, r7, y7, tn7, n7⟩ => ?_
      have there := T.obj _ _ tn7
      refine thnF (pg.run _ t7 _ H7 x u _ (I7.pinned (fp_in I7 n7) there) r7 (step x H7 y7)) fun _ t8 ⟨σ8, H8, I8, w8, q8⟩ => ?_
      -- the turn is over where the iterator's objects are as they were
      have over : ∀ {t' : Shared} {H' : Hp}, Inv (X.blk { s2 with heap := h3 } H3 scope ce fp) ([] ++ pinsAt fp t7.heap) σ8 H' t' → N H' → ∃ m', m' < m ∧ ∃ i H', W i m' H' ∧ Inv (X.blk { s2 with heap := h3 } H3 scope ce fp) [] (wipe σ vs) H' t' ∧ tn i t'.heap ∧ ∀ b ∈ fp, H' b = none := by
        intro t' H'' J n
        obtain ⟨m', hm, w'⟩ := hNx H'' n
        have same : ∀ b ∈ fp, ∀ o, t7.heap.get? b = some o → t'.heap.get? b = some o ∧ H'' b = none := fun b hb o e => by
          have p := J.pin (b, o) (List.mem_append_right _ (List.mem_append_right _ (mem_pinsAt hb e)))
          exact ⟨p.1, p.2.1⟩
        refine ⟨m', hm, i + 1, H'', w', (J.unpinned (pins := [])).weak (by rw [← w8, wipe_length]) (fun j v e => ?_), T.keep _ _ _ tn7 fun b hb o e => (same b hb o e).1, fun b hb => ?_⟩
        · rw [← w8] at e
          exact (wipe_some e).1
        · obtain ⟨o, e, _⟩ := there b hb
          exact (same b hb o e).2
      refine thnF (pt.run _ t8 σ8 H8 _ I8 q8) fun b t9 ⟨H9, I9, q9⟩ => ?_
      cases b with
      | false => exact over I9 (q9.1 rfl)
      | true =>
        refine thnF (pk.run _ t9 σ8 H9 _ I9 (q9.2 rfl)) fun _ t10 ⟨yk, H10, I10, r10, q10⟩ => thnF (pv.run _ t10 σ8 H10 _ I10 q10) fun _ t11 ⟨yv, H11, I11, r11, kvs, k, c, ek, hk', hD', hl, n⟩ => ?_
        subst ek
        cases r10
        exact d_take (X := X.blk { s2 with heap := h3 } H3 scope ce fp) hu I11 hD' hk' hl r11 fun t12 J => over J n
  exact codeAny_compStart_dict loop (T.self X.A 0 _ _ _ t4 loop)
/-! ### dict([(key, value), ..]) -/
/-- the rows stored one behind the other -/
def storeAll (rows : List (List Key × Addr × V)) : List (List Key × V) := rows.foldl (fun acc r => putK acc r.1 r.2.2) []
theorem storeAll_len : ∀ (rows : List (List Key × Addr × V)) (acc : List (List Key × V)), (rows.foldl (fun acc r => putK acc r.1 r.2.2) acc).length ≤ acc.length + rows.length
  | [], acc => Nat.le_refl _
  | r :: rows, acc => by
    have h1 := storeAll_len rows (putK acc r.1 r.2.2)
    have h2 := length_putK acc r.1 r.2.2
    rw [List.foldl_cons, List.length_cons]
    omega
theorem kt_all {H : Hp} : ∀ {rows : List (List Key × Addr × V)} {us : List Value} {acc : List (List Key × V)} {xs : List (List Key × Addr × Value)}, Paired (fun r u => H r.2.1 = some (.tup (r.1.map kV)) ∧ RelV r.2.2 u) rows us → KT H acc xs →
    KT H (rows.foldl (fun acc r => putK acc r.1 r.2.2) acc) (storedAllH xs (List.zipWith (fun r u => (r.1, r.2.1, u)) rows us))
  | [], [], _, _, .nil, k => k
  | r :: rows, u :: us, acc, xs, .cons h t, k => kt_all (rows := rows) (us := us) t (KT.put k r.1 h.1 h.2)
def rDictT (K : Fg) : List V → Hp → VK → Prop := fun vs H Q => ∃ (a : Addr) (ts : List Addr) (rows : List (List Key × Addr × V)), vs = [.ref a] ∧ SqL K H a (ts.map V.ref) ∧
  Paired (fun t r => SqT K H t [.ref r.2.1, r.2.2] ∧ H r.2.1 = some (.tup (r.1.map kV))) ts rows ∧ ∀ p, H p = none → Q (.ref p) (upd H p (.dT (storeAll rows)))
theorem pair_raw {X : Cx} {pins : List (Addr × Obj)} {σ : L2.St} {H : Hp} {s : Shared} (I : Inv X pins σ H s) {t b : Addr} {v : V} (h : SqT X.K H t [.ref b, v]) : ∃ u, s.heap.IsTuple t #[.ref b, u] ∧ RelV v u := by
  obtain ⟨its, rv, ht, _⟩ := I.tuple h
  cases rv with
  | cons rx r2 =>
    cases r2 with
    | cons ru r3 =>
      cases r3
      cases rx
      exact ⟨_, ht, ru⟩
theorem rows_raw {X : Cx} {pins : List (Addr × Obj)} {σ : L2.St} {H : Hp} {s : Shared} (I : Inv X pins σ H s) {ts : List Addr} {rows : List (List Key × Addr × V)} (hp : Paired (fun t r => SqT X.K H t [.ref r.2.1, r.2.2] ∧ H r.2.1 = some (.tup (r.1.map kV))) ts rows) :
    ∃ us, Paired (fun r u => H r.2.1 = some (.tup (r.1.map kV)) ∧ RelV r.2.2 u) rows us ∧ ∀ (j : Nat) (t : Addr), ts[j]? = some t → ∃ r u, rows[j]? = some r ∧ us[j]? = some u ∧ s.heap.IsTuple t #[.ref r.2.1, u] := by
  induction hp with
  | nil => exact ⟨[], .nil, fun j t h => by simp at h⟩
  | cons h _ ih =>
    obtain ⟨us, p, k⟩ := ih
    obtain ⟨u, ht, ru⟩ := pair_raw I h.1
    refine ⟨u :: us, .cons ⟨h.2, ru⟩ p, fun j t' hj => ?_⟩
    cases j with
    | zero =>
      cases hj
      exact ⟨_, u, rfl, rfl, ht⟩
    | succ j => exact k j t' hj
theorem paired_lens {α β : Type} {F : α → β → Prop} : ∀ {l : List α} {m : List β}, Paired F l m → l.length = m.length
  | _, _, .nil => rfl
  | _, _, .cons _ t => congrArg (· + 1) (paired_lens t)
theorem call_dictT {X : Cx} (hc : X.calm = true) (hu : X.A.units + 64 < cLine) : CallR X (.type "dict") (rDictT X.K) := by
  rintro pins s σ H vs us Q I r ⟨a, ts, rows, rfl, hq, hp, q⟩
  rw [Vals.ref1 r]
  obtain ⟨its, rv, pl, hz⟩ := I.list hq
  have hi := refs_at rv
  subst hi
  obtain ⟨ws, pw, each⟩ := rows_raw I hp
  have l1 := paired_lens hp
  have l2 := paired_lens pw
  rw [List.length_map] at hz
  have hm : (s.heap.objs.size == sysModules) = false := beq_eq_false_iff_ne.mpr (Nat.ne_of_gt I.big)
  let prs := List.zipWith (fun (r : List Key × Addr × V) (u : Value) => ((Value.ref r.2.1, u) : Value × Value)) rows ws
  let ps := List.zipWith (fun (r : List Key × Addr × V) (u : Value) => (r.1, r.2.1, u)) rows ws
  have lp : prs.length = rows.length := by simp [prs, l2]
  have lq : ps.length = rows.length := by simp [ps, l2]
  have plain : PlainSeq "list" s.heap a (ts.map Value.ref).toArray := by
    obtain ⟨o, n, ho, h1, h2, h3⟩ := pl
    exact ⟨o, n, ho, h1, h2, h3⟩
  have items : PairItems s.heap (ts.map Value.ref).toArray (fun j => ts.getD j 0) prs := by
    refine ⟨by simp [lp, l1], fun j k v hj => ?_⟩
    have hlt : j < ts.length := by have := (List.getElem?_eq_some_iff.mp hj).1; omega
    obtain ⟨r, u, h1, h2, h3⟩ := each j ts[j] (List.getElem?_eq_getElem hlt)
    have e : prs[j]? = some (.ref r.2.1, u) := by simp only [prs, List.getElem?_zipWith, h1, h2]
    rw [e] at hj
    cases hj
    have et : ts.getD j 0 = ts[j] := by simp [List.getD_eq_getElem?_getD, hlt]
    show _ = some (Value.ref (ts.getD j 0)) ∧ PairAt s.heap (ts.getD j 0) (.ref r.2.1) v
    rw [et]
    exact ⟨by simp [hlt], .inl h3⟩
  have keys : ∀ x ∈ ps, H x.2.1 = some (.tup (x.1.map kV)) := by
    have go : ∀ {rows : List (List Key × Addr × V)} {ws : List Value}, Paired (fun r u => H r.2.1 = some (.tup (r.1.map kV)) ∧ RelV r.2.2 u) rows ws → ∀ x ∈ List.zipWith (fun (r : List Key × Addr × V) (u : Value) => (r.1, r.2.1, u)) rows ws, H x.2.1 = some (.tup (x.1.map kV)) := by
      intro rows ws h
      induction h with
      | nil => intro x hx; simp at hx
      | cons h _ ih =>
        intro x hx
        rw [List.zipWith_cons_cons] at hx
        rcases List.mem_cons.mp hx with rfl | hx
        · exact h.1
        · exact ih x hx
    exact go pw
  refine call_dict_pairsH (knd := tupleKind (mixKind X.prog X.w)) (ps := ps) (PairArg.list a (ts.map Value.ref).toArray (fun j => ts.getD j 0) prs) (I.ok.hd hc) (show X.A.in1.in1.units < cLine from (show X.A.units + 2 < cLine by omega)) ⟨plain, items⟩ ⟨by rw [lq, lp], fun i k v hk => ?_⟩ (fun g old x hx => ?_) (by rw [lp, ← l1]; exact hz) fun g tk hd old => ?_
  · have hlt : i < rows.length := by have := (List.getElem?_eq_some_iff.mp hk).1; omega
    obtain ⟨r, u, h1, h2, _⟩ := each i ts[i] (List.getElem?_eq_getElem (by omega))
    have e : prs[i]? = some (.ref r.2.1, u) := by simp only [prs, List.getElem?_zipWith, h1, h2]
    have hk : prs[i]? = some (k, v) := hk
    rw [e] at hk
    cases hk
    exact ⟨r.1, r.2.1, by simp only [ps, List.getElem?_zipWith, h1, h2], rfl⟩
  · obtain ⟨o, its, n, g1, g2, g3, g4⟩ := key_of (P := X.prog) (w := X.w) I.hok (keys x hx)
    exact ⟨o, its, n, old _ o (Nat.ne_of_lt (Heap.lt_size g1)) (by simp) g1, g2, g3, g4⟩
  · obtain ⟨o, es, ep, p1, p2, p3, p4, _, p5⟩ := hd
    have hf := I.hok.fresh (Nat.le_refl s.heap.objs.size)
    have hl : (storeAll rows).length ≤ sizeLine := Nat.le_trans (storeAll_len rows []) (by rw [List.length_nil, Nat.zero_add, ← l1]; exact hz)
    refine ⟨.ref s.heap.objs.size, upd H s.heap.objs.size (.dT (storeAll rows)), I.laid (t' := tk) (fun b u e => old b u (by simp) e) (Nat.le_refl _) ⟨hl, hm, _, (kt_all pw .nil).keeps fun b ys e => ?_, o, es, ep, p1, p2, p3, p4, p5⟩, rfl, q _ hf⟩
    rw [upd_ne (ne_of_none e hf)]
    exact e
end Z
/-! sorted(rows), rows a list or a tuple of tuples of ints of any size -/
namespace Z
open PySem PySem.Spec PyProof.Rows L2
open Evl (Ex)
/-- row a does not stand behind row b -/
def leI (a b : List Int) : Bool := !lexLt itemOrd (b.map Sum.inl) (a.map Sum.inl)
theorem leI_iff {a b : List Int} : leI a b = true ↔ (listOrd itemOrd).kle (a.map Sum.inl) (b.map Sum.inl) := by
  unfold leI KeyOrd.kle
  rw [Bool.not_eq_true']
theorem leI_trans (a b c : List Int) (h1 : leI a b = true) (h2 : leI b c = true) : leI a c = true := leI_iff.mpr (KeyOrd.kle_trans (leI_iff.mp h1) (leI_iff.mp h2))
theorem leI_total (a b : List Int) : (leI a b || leI b a) = true := by
  rw [Bool.or_eq_true]
  by_cases h : (listOrd itemOrd).klt (a.map Sum.inl) (b.map Sum.inl)
  · exact .inl (leI_iff.mpr (KeyOrd.kle_of_klt h))
  · exact .inr (leI_iff.mpr (KeyOrd.kle_of_not_klt h))
theorem inl_inj {a b : List Int} (h : a.map (Sum.inl (β := List Nat)) = b.map Sum.inl) : a = b := by
  induction a generalizing b with
  | nil => cases b with
    | nil => rfl
    | cons y b => cases h
  | cons x a ih => cases b with
    | nil => cases h
    | cons y b =>
      rw [List.map_cons, List.map_cons] at h
      injection h with h1 h2
      injection h1 with h1
      rw [h1, ih h2]
theorem leI_anti (a b : List Int) (h1 : leI a b = true) (h2 : leI b a = true) : a = b := inl_inj (KeyOrd.kle_antisymm (leI_iff.mp h1) (leI_iff.mp h2))
/-- the rows in order -/
def sortI (rows : List (List Int)) : List (List Int) := rows.mergeSort leI
theorem sortI_perm (rows : List (List Int)) : (sortI rows).Perm rows := List.mergeSort_perm _ _
theorem sortI_pw (rows : List (List Int)) : (sortI rows).Pairwise (fun a b => leI a b = true) := List.pairwise_mergeSort leI_trans leI_total rows
theorem sortI_uniq {rows l : List (List Int)} (hp : l.Perm rows) (hw : l.Pairwise (fun a b => leI a b = true)) : l = sortI rows :=
  List.Perm.eq_of_pairwise (fun a b _ _ => leI_anti a b) hw (sortI_pw rows) (hp.trans (sortI_perm rows).symm)
section
variable {prog : Program} {w : World} {A : Around} {E : Value → Shared → Prop} {s : Shared}
/-- a tuple's items taken into a new list -/
theorem collect_tup {t : Addr} {vs : List Value} {Q : List Value → Shared → Prop} (ht : s.heap.IsTuple t vs.toArray) (hl : vs.length ≤ sizeLine)
    (h : Q vs { s with heap := (s.heap.push (seqObj "list" #[] 0)).update s.heap.objs.size (Obj.mapSeq (· ++ vs.toArray)) }) : wpAny (model prog w) A (collect (.ref t)) Q E s := by
  obtain ⟨o, ho, hc, n, hd⟩ := ht
  have new : (s.heap.push (seqObj "list" #[] 0)).get? s.heap.objs.size = some (seqObj "list" #[] 0) := Heap.get?_push_size _ rfl
  have old : (s.heap.push (seqObj "list" #[] 0)).get? t = some o := Heap.get?_push_of_some _ ho
  have fits : (#[] ++ vs.toArray : Array Value).size ≤ sizeLine + 1 := by simp; omega
  unfold collect
  refine wpAny_bind (wpAny_runValue (codeAny_builtin entry_proto_collect' ?_))
  show wpAny _ _ (newList [] >>= fun l => again (.builtin "list.__iadd__" ⟨[l, .ref t], []⟩)) _ _ s
  refine wpAny_bind (wpAny_newList (wpAny_pure ⟨Code.quiet_builtin _ (by decide +kernel), codeAny_builtin entry_list_iadd' ?_⟩))
  show wpAny _ _ (Builtin.List.listExtendWith (.ref s.heap.objs.size) (.ref t) (.ref s.heap.objs.size)) _ _ { s with heap := s.heap.push (seqObj "list" #[] 0) }
  unfold Builtin.List.listExtendWith
  refine wpAny_bind (wpAny_typeOf (T := "tuple") ⟨o, old, hc⟩ ?_)
  have isT : (Value.type "tuple" == Value.type "tuple") = true := by rfl
  simp only [isT, Bool.or_true, if_true]
  refine wpAny_bind (listItems_at old hd (wpAny_bind (listItems_at (xs := #[]) (n := 0) new rfl ?_)))
  simp only [Array.isEmpty_empty, Bool.not_true, Bool.false_and, Bool.false_eq_true, if_false]
  refine wpAny_bind (listUpdate_at (xs := #[]) (n := 0) new rfl ?_ (Nat.zero_le _) fits)
  refine wpAny_pure ?_
  have made : ((s.heap.push (seqObj "list" #[] 0)).update s.heap.objs.size (Obj.mapSeq (· ++ vs.toArray))).get? s.heap.objs.size = _ := get?_update_seq new _
  refine wpAny_bind (wpAny_load made ?_)
  show wpAny _ _ (pure ((#[] : Array Value) ++ vs.toArray).toList) Q E _
  rw [Array.toList_append, List.nil_append]
  exact wpAny_pure h
open G in
/-- sorted(t), t a tuple -/
theorem sorted_tup {κ : KeyKind} {kd : SortKind} {t : Addr} {vs : List Value} {Q : Value → Shared → Prop} (ht : s.heap.IsTuple t vs.toArray) (hl : vs.length ≤ sizeLine) (hk : KeysOf κ (pairsOf vs)) (hO : ∀ s2 : Shared, KeepsTups s.heap s2.heap → LtAt prog w s2 κ kd)
    (hkk : 2 ≤ vs.length → ∀ (A : Around) (E : Value → Shared → Prop) (s2 : Shared) {Q : SortKind → Shared → Prop}, KeepsTups s.heap s2.heap → Q kd s2 → wpAny (model prog w) A (keyKind' vs.toArray) Q E s2)
    (h : ∀ st : SortSt, (arrOf st).Perm (pairsOf vs) → SortedToK κ (arrOf st) (pairsOf vs).size → Q (.ref (s.heap.objs.size + 1)) { s with heap := sortedAll s.heap vs ((arrOf st).map (·.2)) }) :
    wpAny (model prog w) A (call (.builtin "sorted") [.ref t]) Q E s := by
  have n0 : (s.heap.push (seqObj "list" #[] 0)).get? s.heap.objs.size = some (seqObj "list" #[] 0) := Heap.get?_push_size _ rfl
  generalize hm : (s.heap.push (seqObj "list" #[] 0)).update s.heap.objs.size (Obj.mapSeq (· ++ vs.toArray)) = m
  have mz : m.objs.size = s.heap.objs.size + 1 := by rw [← hm, Heap.size_update, Heap.size_push]
  have k1 : KeepsTups s.heap m := by rw [← hm]; exact (KeepsTups.push _ _).trans (KeepsTups.update _ n0 not_tuple_list)
  have nl : (m.push (seqObj "list" vs.toArray 0)).get? (s.heap.objs.size + 1) = some (seqObj "list" vs.toArray 0) := by rw [← mz]; exact Heap.get?_push_size _ rfl
  have k2 := (k1.trans (KeepsTups.push m (seqObj "list" vs.toArray 0))).trans (keeps_sort6 (vs := vs) nl)
  refine Calls.call_function_entry kind_sorted plain_sorted entry_sorted (args_sorted1 _) ?_
  unfold Builtin.«sorted»
  refine wpAny_bind (m := checkCount "sorted" 1 1 _) (wpAny_pure (wpAny_bind (collect_tup ht hl ?_)))
  rw [hm]
  refine wpAny_bind (wpAny_newList ?_)
  show wpAny _ _ _ _ _ { s with heap := m.push (seqObj "list" vs.toArray 0) }
  rw [mz]
  refine wpAny_bind (wpAny_holding (wpAny_call_entry slot_list_sort ⟨_, nl, rfl⟩ entry_list_sort (list_sort_treeG nl hk (hO _ k2) (fun h2 R q => hkk h2 _ _ _ k2 q) hl fun st p1 p2 _ => ⟨_, rfl, wpAny_pure ⟨_, rfl, ?_⟩⟩) (args_list_sort _)))
  have q := h st p1 p2
  unfold sortedAll at q
  rw [hm] at q
  exact q
end
/-- x is a row of these ints -/
def RowI (K : Fg) (H : Hp) (x : V) (ns : List Int) : Prop := ∃ t, x = .ref t ∧ SqT K H t (ns.map V.int)
def rSortC (K : Fg) : List V → Hp → VK → Prop := fun vs H Q => ∃ (a : Addr) (xs : List V), vs = [.ref a] ∧ (SqL K H a xs ∨ SqT K H a xs) ∧ (∀ x ∈ xs, ∃ ns, RowI K H x ns ∧ ns ≠ []) ∧
  ∀ (ys : List V) (p : Addr), ys.Perm xs → ys.Pairwise (fun x y => ∀ n m, RowI K H x n → RowI K H y m → leI n m = true) → H p = none → Q (.ref p) (upd H p (.lst ys))
def refV : Value → V
  | .ref a => .ref a
  | _ => .non
theorem items_ints {ns : List Int} : ∀ {us : List Value} (i : Nat), Vals (ns.map V.int) us → tupItems (fun _ => false) i us = some (ns.map Sum.inl) := by
  induction ns with
  | nil => intro us i h; cases h; rfl
  | cons n ns ih =>
    intro us i h
    cases h with
    | cons a b =>
      obtain ⟨t, rfl⟩ := a
      show Option.map _ (tupItems _ (i + 1) _) = _
      rw [ih (i + 1) b]
      rfl
theorem vals_refs {xs : List V} {us : List Value} (h : Vals xs us) (hr : ∀ x ∈ xs, ∃ a, x = V.ref a) : xs = us.map refV ∧ us = (us.map refV).map (fun v => match v with | .ref a => Value.ref a | _ => .none) := by
  induction h with
  | nil => exact ⟨rfl, rfl⟩
  | @cons x u xs us a b ih =>
    obtain ⟨t, rfl⟩ := hr _ List.mem_cons_self
    cases a
    obtain ⟨h1, h2⟩ := ih fun y hy => hr y (List.mem_cons_of_mem _ hy)
    rw [List.map_cons, List.map_cons, ← h2, ← h1]
    exact ⟨rfl, rfl⟩
section
variable {X : Cx} {pins : List (Addr × Obj)} {σ : L2.St} {H : Hp} {s : Shared}
theorem row_key (I : Inv X pins σ H s) {x : V} {ns : List Int} (h : RowI X.K H x ns) : ∃ t, x = .ref t ∧ G.tupKeyC s.heap (fun _ => false) (.ref t) = some (ns.map Sum.inl) := by
  obtain ⟨t, rfl, hq⟩ := h
  obtain ⟨us, rv, ⟨o, ho, hc, n, hd⟩, _⟩ := I.tuple hq
  refine ⟨t, rfl, ?_⟩
  exact G.tupKeyC_of ho hc hd (items_ints 0 rv)
theorem row_first (I : Inv X pins σ H s) {x : V} {ns : List Int} (h : RowI X.K H x ns) (h0 : ns ≠ []) : ∃ t f, x = .ref t ∧ TupOf s.heap (fun _ => false) (.ref t) f := by
  obtain ⟨t, rfl, hq⟩ := h
  obtain ⟨us, rv, ⟨o, ho, hc, n, hd⟩, _⟩ := I.tuple hq
  cases ns with
  | nil => exact absurd rfl h0
  | cons m ns =>
    cases rv with
    | cons a b =>
      obtain ⟨k, rfl⟩ := a
      exact ⟨t, _, rfl, t, o, _, n, rfl, ho, hc, hd, rfl, fun _ => ⟨_, _, rfl⟩, fun z => nomatch z⟩
theorem cr_sortC : CallR X (.builtin "sorted") (rSortC X.K) := by
  rintro pins s σ H vs us Q I r ⟨a, xs, rfl, hs, hx, q⟩
  rw [Vals.ref1 r]
  have refs : ∀ x ∈ xs, ∃ a, x = V.ref a := fun x m => by obtain ⟨ns, ⟨t, e, _⟩, _⟩ := hx x m; exact ⟨t, e⟩
  -- the items as they stand, their keys
  have main : ∀ its : List Value, Vals xs its → xs.length ≤ sizeLine → (∀ w', (s.heap.IsList a its.toArray → w') ∧ (s.heap.IsTuple a its.toArray → w') → w') → wpAny (model X.prog X.w) X.A (call (.builtin "sorted") [.ref a]) (EP X pins σ Q) X.xe s := by
    intro its rv hz kind
    obtain ⟨e1, e2⟩ := vals_refs rv refs
    have hl : its.length ≤ sizeLine := by rw [← rv.length]; exact hz
    have each : ∀ u ∈ its, ∃ ns, RowI X.K H (refV u) ns ∧ ns ≠ [] := fun u hu => hx _ (by rw [e1]; exact List.mem_map_of_mem hu)
    have ref : ∀ u ∈ its, ∀ t, refV u = .ref t → u = .ref t := fun u _ t e => by
      cases u <;> first | (injection e with e; rw [e]) | (exact nomatch (show V.non = V.ref t from e))
    have keys : ∀ u, u ∈ its → ∃ l, G.tupKeyC s.heap (fun _ => false) u = some l := fun u hu => by
      obtain ⟨ns, h1, _⟩ := each u hu
      obtain ⟨t, e, k⟩ := row_key I h1
      rw [ref u hu t e]
      exact ⟨_, k⟩
    have firsts : ∃ fs, TupsOf s.heap (fun _ => false) its fs := by
      have go : ∀ l : List Value, (∀ u ∈ l, u ∈ its) → ∃ fs, TupsOf s.heap (fun _ => false) l fs := by
        intro l
        induction l with
        | nil => exact fun _ => ⟨[], .nil⟩
        | cons u l ih =>
          intro h
          obtain ⟨fs, hfs⟩ := ih fun v hv => h v (List.mem_cons_of_mem _ hv)
          have hu := h u List.mem_cons_self
          obtain ⟨ns, h1, h0⟩ := each u hu
          obtain ⟨t, f, e, k⟩ := row_first I h1 h0
          rw [ref u hu t e]
          exact ⟨f :: fs, .cons k hfs⟩
      exact go its fun _ h => h
    obtain ⟨fs, tf⟩ := firsts
    have out : ∀ st : SortSt, (arrOf st).Perm (pairsOf its) → SortedToK (G.tupKindC s.heap (fun _ => false)) (arrOf st) (pairsOf its).size → EP X pins σ Q (.ref (s.heap.objs.size + 1)) { s with heap := sortedAll s.heap its ((arrOf st).map (·.2)) } := by
      intro st hp hst
      generalize arrOf st = arr at hp hst ⊢
      have hpl : arr.toList.Perm (its.zip its) := by rw [← pairsOf_toList]; exact Array.perm_iff_toList_perm.mp hp
      have twin : ∀ p ∈ arr.toList, p.1 = p.2 ∧ p.1 ∈ its := fun p hp => mem_zip_self (hpl.mem_iff.mp hp)
      have po : (arr.map (·.2)).toList.Perm its := by
        rw [Array.toList_map]
        have z := hpl.map Prod.snd
        rw [List.map_snd_zip (Nat.le_refl _)] at z
        exact z
      obtain ⟨ep, at_⟩ := sortedAll_at s.heap its (arr.map (·.2))
      have py : ((arr.map (·.2)).toList.map refV).Perm xs := by rw [e1]; exact po.map refV
      have vals : Vals ((arr.map (·.2)).toList.map refV) (arr.map (·.2)).toList := by
        have go : ∀ l : List Value, (∀ u ∈ l, u ∈ its) → Vals (l.map refV) l := by
          intro l
          induction l with
          | nil => exact fun _ => .nil
          | cons u l ih =>
            intro h
            have hu := h u List.mem_cons_self
            obtain ⟨ns, ⟨t, e, _⟩, _⟩ := each u hu
            refine .cons ?_ (ih fun v hv => h v (List.mem_cons_of_mem _ hv))
            rw [e, ref u hu t e]
            rfl
        exact go _ fun u hu => po.mem_iff.mp hu
      have fresh := I.hok.fresh (Nat.le_succ s.heap.objs.size)
      refine ⟨.ref (s.heap.objs.size + 1), upd H (s.heap.objs.size + 1) (.lst ((arr.map (·.2)).toList.map refV)), I.laid (t' := s.toks) (fun b o e => sortedAll_old e) (Nat.le_succ _) ⟨by rw [py.length_eq]; exact hz, _, ep, vals, at_⟩, rfl, q _ _ py ?_ fresh⟩
      rw [List.pairwise_map, List.pairwise_iff_getElem]
      intro i j hi hj hij n m hn hm
      have hi' : i < arr.size := by simpa using hi
      have hj' : j < arr.size := by simpa using hj
      have hsz : (pairsOf its).size = arr.size := hp.size_eq.symm
      have le := hst i j (Nat.le_of_lt hij) (by rw [hsz]; exact hj')
      have kk : ∀ (k : Nat) (hk : k < arr.size) (l : List Int), RowI X.K H (refV ((arr.map (·.2)).toList[k]'(by simpa using hk))) l → KK (G.tupKindC s.heap (fun _ => false)) arr k = l.map Sum.inl := by
        intro k hk l hl
        have e3 : (arr.map (·.2)).toList[k]'(by simpa using hk) = arr[k].2 := by simp
        rw [e3] at hl
        have mem : arr[k] ∈ arr.toList := by simp
        obtain ⟨t1, t2⟩ := twin _ mem
        obtain ⟨t, e4, k4⟩ := row_key I hl
        have e5 : arr[k].1 = .ref t := by
          have : arr[k].2 ∈ its := by rw [← t1]; exact t2
          rw [t1]
          exact ref _ this t e4
        unfold KK
        rw [Array.getElem?_eq_getElem hk]
        show (G.tupKeyC s.heap (fun _ => false) arr[k].1).getD [] = _
        rw [e5, k4]
        rfl
      rw [kk i hi' n hn, kk j hj' m hm] at le
      exact leI_iff.mpr le
    refine kind _ ⟨fun hL => ?_, fun hT => ?_⟩
    · exact G.sortedG hL (G.tupKeys keys) (fun s2 k => G.tupC_ltAt (s := s2) true k) (fun h2 _ _ s2 _ k hq => tup_kind (s := s2) (by rw [G.TupsOf.length tf]; omega) (G.TupsOf.keep k tf) hq) hl fun st p1 p2 _ => out st p1 p2
    · exact sorted_tup hT hl (G.tupKeys keys) (fun s2 k => G.tupC_ltAt (s := s2) true k) (fun h2 _ _ s2 _ k hq => tup_kind (s := s2) (by rw [G.TupsOf.length tf]; omega) (G.TupsOf.keep k tf) hq) out
  rcases hs with hs | hs
  · obtain ⟨its, rv, pl, hz⟩ := I.list hs
    exact main its rv hz fun w' h => h.1 pl.isList
  · obtain ⟨its, rv, pt, hz⟩ := I.tuple hs
    exact main its rv hz fun w' h => h.2 pt
end
end Z
/-! rows sorted, compared; min, max, any, list(..) over data; dicts as own cells; defs that hand back a dict -/
namespace Z
open PySem PySem.Spec PyProof.Rows L2
open Evl (Ex)
abbrev rowD (r : List Int) : PyData := .tuple (r.map .int)
theorem paired_perm {α β : Type} {F : α → β → Prop} {xs ys : List α} (hp : ys.Perm xs) : ∀ {rs : List β}, Paired F xs rs → ∃ rs', rs'.Perm rs ∧ Paired F ys rs' := by
  induction hp with
  | nil => intro rs h; exact ⟨rs, .refl _, h⟩
  | cons x _ ih =>
    intro rs h
    cases h with
    | cons a b =>
      obtain ⟨rs', p, q⟩ := ih b
      exact ⟨_ :: rs', p.cons _, .cons a q⟩
  | swap x y l =>
    intro rs h
    cases h with
    | cons a b => cases b with
      | cons c d => exact ⟨_, .swap _ _ _, .cons c (.cons a d)⟩
  | trans _ _ ih1 ih2 =>
    intro rs h
    obtain ⟨r1, p1, q1⟩ := ih2 h
    obtain ⟨r2, p2, q2⟩ := ih1 q1
    exact ⟨r2, p2.trans p1, q2⟩
section
variable {K : Fg} {E : L2.St → XK} {e0 : XK} {te ta tb tk tv td : TE} {tA : TA} {t : TS} {g : TG} {S : Zs} {M M' : Ms} {P : ZP} {Q : QZ} {X : XZ} {n : Sn} {σ : L2.St} {G G' H H' : Hp}
theorem dza_rows {rows : List (List Int)} : ∀ {vs : List V}, DzAll K G vs (rows.map rowD) → Paired (fun v r => Dz K G v (rowD r)) vs rows := by
  induction rows with
  | nil => intro vs h; cases h; exact .nil
  | cons r rows ih => intro vs h; cases h with | cons a b => exact .cons a (ih b)
theorem rows_dza {rows : List (List Int)} {vs : List V} (h : Paired (fun v r => Dz K G v (rowD r)) vs rows) : DzAll K G vs (rows.map rowD) := by
  induction h with
  | nil => exact .nil
  | cons a _ ih => exact .cons a ih
theorem dza_ints {ns : List Int} : ∀ {vs : List V}, DzAll K G vs (ns.map .int) → vs = ns.map V.int := by
  induction ns with
  | nil => intro vs h; cases h; rfl
  | cons i ns ih => intro vs h; cases h with | cons a b => rw [dp_int a, ih b]; rfl
theorem dza_bools {bs : List Bool} : ∀ {vs : List V}, DzAll K G vs (bs.map .bool) → vs = bs.map V.bl := by
  induction bs with
  | nil => intro vs h; cases h; rfl
  | cons i bs ih => intro vs h; cases h with | cons a b => rw [dp_bl a, ih b]; rfl
theorem dz_row {v : V} {r : List Int} (e : Ex G H) (h : Dz K G v (rowD r)) : RowI K H v r := by
  obtain ⟨p, ws, rfl, h1, h2⟩ := dp_tup h
  rw [dza_ints h2] at h1
  exact ⟨p, rfl, Evl.ex_t e h1⟩
theorem sorted_fin {rows : List (List Int)} {vs ys : List V} (e : Ex G H) (h : DzAll K G vs (rows.map rowD)) (hp : ys.Perm vs) (hw : ys.Pairwise (fun x y => ∀ n m, RowI K H x n → RowI K H y m → leI n m = true)) : DzAll K G ys ((sortI rows).map rowD) := by
  obtain ⟨rs, p, q⟩ := paired_perm hp (dza_rows h)
  have pw : rs.Pairwise (fun a b => leI a b = true) := by
    clear p hp h
    induction q with
    | nil => exact .nil
    | @cons y r ys rs a b ih =>
      obtain ⟨w1, w2⟩ := List.pairwise_cons.mp hw
      refine List.pairwise_cons.mpr ⟨fun r' hr' => ?_, ih w2⟩
      obtain ⟨i, hi, rfl⟩ := List.getElem_of_mem hr'
      have go : ∀ {ys : List V} {rs : List (List Int)}, Paired (fun v r => Dz K G v (rowD r)) ys rs → ∀ (i : Nat) (hi : i < rs.length), ∃ y, y ∈ ys ∧ Dz K G y (rowD rs[i]) := by
        intro ys rs q
        induction q with
        | nil => intro i hi; simp at hi
        | cons a _ ih =>
          intro i hi
          cases i with
          | zero => exact ⟨_, List.mem_cons_self, a⟩
          | succ i =>
            obtain ⟨y, m, d⟩ := ih i (by simpa using hi)
            exact ⟨y, List.mem_cons_of_mem _ m, d⟩
      obtain ⟨y', m, d⟩ := go b i hi
      exact w1 y' m _ _ (dz_row e a) (dz_row e d)
  rw [← sortI_uniq p pw]
  exact rows_dza q
theorem zc_sortL {rows : List (List Int)} (h0 : ∀ r ∈ rows, r ≠ []) (q : Q (.d (.list ((sortI rows).map rowD))) M) : ZC K (rSortC K) [.d (.list (rows.map rowD))] M Q := fun n S σ G H R vs a Qv k => by
  obtain ⟨v, rfl, av⟩ := zall1 a
  obtain ⟨p, ws, rfl, h1, h2⟩ := dp_lst av
  refine ⟨p, ws, rfl, .inl (Evl.ex_l R.ex h1), fun x hx => ?_, fun ys r hp hw hr => ?_⟩
  · obtain ⟨rs, _, q'⟩ := paired_perm (.refl _) (dza_rows h2)
    have go : ∀ {ws : List V} {rows : List (List Int)}, Paired (fun v r => Dz K G v (rowD r)) ws rows → (∀ r ∈ rows, r ≠ []) → ∀ x ∈ ws, ∃ ns, RowI K H x ns ∧ ns ≠ [] := by
      intro ws rows q
      induction q with
      | nil => intro _ x hx; simp at hx
      | cons a _ ih =>
        intro h x hx
        rcases List.mem_cons.mp hx with rfl | hx
        · exact ⟨_, dz_row R.ex a, h _ List.mem_cons_self⟩
        · exact ih (fun r hr => h r (List.mem_cons_of_mem _ hr)) x hx
    exact go (dza_rows h2) h0 x hx
  · have gr := ex_gnone R.ex hr
    exact k (.ref r) _ _ (.d (.list ((sortI rows).map rowD))) M (Ex.new gr) (R.new hr (fun _ z => nomatch z)) (Dz.lst (Evl.sq_of upd_same) (dpAll_mono (Ex.new gr) (sorted_fin R.ex h2 hp hw))) q
theorem zc_sortT {rows : List (List Int)} (h0 : ∀ r ∈ rows, r ≠ []) (q : Q (.d (.list ((sortI rows).map rowD))) M) : ZC K (rSortC K) [.d (.tuple (rows.map rowD))] M Q := fun n S σ G H R vs a Qv k => by
  obtain ⟨v, rfl, av⟩ := zall1 a
  obtain ⟨p, ws, rfl, h1, h2⟩ := dp_tup av
  refine ⟨p, ws, rfl, .inr (Evl.ex_t R.ex h1), fun x hx => ?_, fun ys r hp hw hr => ?_⟩
  · have go : ∀ {ws : List V} {rows : List (List Int)}, Paired (fun v r => Dz K G v (rowD r)) ws rows → (∀ r ∈ rows, r ≠ []) → ∀ x ∈ ws, ∃ ns, RowI K H x ns ∧ ns ≠ [] := by
      intro ws rows q
      induction q with
      | nil => intro _ x hx; simp at hx
      | cons a _ ih =>
        intro h x hx
        rcases List.mem_cons.mp hx with rfl | hx
        · exact ⟨_, dz_row R.ex a, h _ List.mem_cons_self⟩
        · exact ih (fun r hr => h r (List.mem_cons_of_mem _ hr)) x hx
    exact go (dza_rows h2) h0 x hx
  · have gr := ex_gnone R.ex hr
    exact k (.ref r) _ _ (.d (.list ((sortI rows).map rowD))) M (Ex.new gr) (R.new hr (fun _ z => nomatch z)) (Dz.lst (Evl.sq_of upd_same) (dpAll_mono (Ex.new gr) (sorted_fin R.ex h2 hp hw))) q
/-- rows compared -/
def leQ (a b : List Int) : Bool := Ob.lexAt (fun j => decide (a.getD j 0 = b.getD j 0)) (fun j => decide (a.getD j 0 ≤ b.getD j 0)) (decide (a.length ≤ b.length)) 0 (min a.length b.length)
theorem leQ_two (a b c d : Int) : leQ [a, b] [c, d] = (decide (a < c) || (decide (a = c) && decide (b ≤ d))) := by
  unfold leQ
  simp only [List.length_cons, List.length_nil, Nat.min_self, Ob.lexAt_succ, Ob.lexAt_zero, List.getD_cons_zero, List.getD_cons_succ]
  by_cases h1 : a = c
  · subst h1
    by_cases h2 : b = d
    · subst h2; simp
    · simp [h2]
  · simp only [h1, decide_false, Bool.false_eq_true, if_false, Bool.false_and, Bool.or_false]
    by_cases h3 : a < c
    · simp [h3, Int.le_of_lt h3]
    · simp [h3]; omega
theorem op_leR {X : Cx} (hu : X.A.units + 64 < cLine) : OpR X (compareOp .LtE) (rLeT X.K) := op_leT (Nat.lt_of_le_of_lt (Nat.le_add_right _ _) hu)
theorem zo_leR {a b : List Int} (q : Q (.d (.bool (leQ a b))) M) : ZO K (rLeT K) (.d (rowD a)) (.d (rowD b)) M Q :=
  zo_val (z := .d (.bool (leQ a b))) (fun G H v u e x y => by
    obtain ⟨p, rfl, h1⟩ := dz_row e x
    obtain ⟨p2, rfl, h2⟩ := dz_row e y
    exact ⟨_, .bl _, fun Qv h => ⟨p, p2, a, b, rfl, rfl, h1, h2, h⟩⟩) q
/-! ### min, max, any, list -/
def IsMin (m : Int) (ns : List Int) : Prop := m ∈ ns ∧ ∀ y ∈ ns, m ≤ y
def IsMax (m : Int) (ns : List Int) : Prop := m ∈ ns ∧ ∀ y ∈ ns, y ≤ m
theorem zc_min {ns : List Int} {m : Int} (hm : IsMin m ns) (q : Q (.d (.int m)) M) : ZC K (rMin K) [.d (.list (ns.map .int))] M Q := zc_val (z := .d (.int m)) (fun G H vs e a => by
  obtain ⟨v, rfl, av⟩ := zall1 a
  obtain ⟨p, ws, rfl, h1, h2⟩ := dp_lst av
  rw [dza_ints h2] at h1
  refine ⟨.int m, Dz.int _, fun Qv hq => ⟨p, ns, rfl, Evl.ex_l e h1, List.length_pos_of_mem hm.1, fun m' a1 a2 => ?_⟩⟩
  rw [show m' = m by have := a2 m hm.1; have := hm.2 m' a1; omega]
  exact hq) q
theorem zc_max {ns : List Int} {m : Int} (hm : IsMax m ns) (q : Q (.d (.int m)) M) : ZC K (rMax K) [.d (.list (ns.map .int))] M Q := zc_val (z := .d (.int m)) (fun G H vs e a => by
  obtain ⟨v, rfl, av⟩ := zall1 a
  obtain ⟨p, ws, rfl, h1, h2⟩ := dp_lst av
  rw [dza_ints h2] at h1
  refine ⟨.int m, Dz.int _, fun Qv hq => ⟨p, ns, rfl, Evl.ex_l e h1, List.length_pos_of_mem hm.1, fun m' a1 a2 => ?_⟩⟩
  rw [show m' = m by have := a2 m hm.1; have := hm.2 m' a1; omega]
  exact hq) q
theorem zc_any {bs : List Bool} (q : Q (.d (.bool (bs.any id))) M) : ZC K (rAny K) [.d (.list (bs.map .bool))] M Q := zc_val (z := .d (.bool (bs.any id))) (fun G H vs e a => by
  obtain ⟨v, rfl, av⟩ := zall1 a
  obtain ⟨p, ws, rfl, h1, h2⟩ := dp_lst av
  rw [dza_bools h2] at h1
  exact ⟨.bl _, Dz.bl _, fun Qv hq => ⟨p, bs, rfl, Evl.ex_l e h1, hq⟩⟩) q
abbrev rListOf (K : Fg) : List V → Hp → VK → Prop := fun xs H Q => ∃ p ys, xs = [.ref p] ∧ (SqL K H p ys ∨ SqT K H p ys) ∧ ∀ l, H l = none → Q (.ref l) (upd H l (.lst ys))
theorem zc_listC {xs : List PyData} (q : ∀ p, Q (.c p) ((p, true, .lst xs) :: M)) : ZC K (rListOf K) [.d (.tuple xs)] M Q := fun n S σ G H R vs a Qv k => by
  obtain ⟨v, rfl, av⟩ := zall1 a
  obtain ⟨p, ys, rfl, h1, h2⟩ := dp_tup av
  exact ⟨p, ys, rfl, .inr (Evl.ex_t R.ex h1), fun l hl => k (.ref l) G _ (.c l) _ (Ex.refl G) (R.newLst hl h2) rfl (q l)⟩
theorem zc_listD {xs : List PyData} (q : Q (.d (.list xs)) M) : ZC K (rListOf K) [.d (.tuple xs)] M Q := fun n S σ G H R vs a Qv k => by
  obtain ⟨v, rfl, av⟩ := zall1 a
  obtain ⟨p, ys, rfl, h1, h2⟩ := dp_tup av
  refine ⟨p, ys, rfl, .inr (Evl.ex_t R.ex h1), fun l hl => ?_⟩
  have gl := ex_gnone R.ex hl
  exact k (.ref l) _ _ (.d (.list xs)) M (Ex.new gl) (R.new hl (fun _ z => nomatch z)) (Dz.lst (Evl.sq_of upd_same) (dpAll_mono (Ex.new gl) h2)) q
/-! ### dicts whose keys are rows -/
abbrev keyI (r : List Int) : List Key := r.map Sum.inl
theorem keyI_v (r : List Int) : (keyI r).map kV = r.map V.int := by
  rw [List.map_map]
  rfl
/-- what is held at a row -/
def heldP (kvs : List (List Key × PyData)) (k : List Key) : Option PyData := (kvs.find? fun kv => decide (kv.1 = k)).map (·.2)
def putP (kvs : List (List Key × PyData)) (k : List Key) (d : PyData) : List (List Key × PyData) := if (kvs.any fun kv => decide (kv.1 = k)) = true then kvs.map fun kv => if kv.1 = k then (kv.1, d) else kv else kvs ++ [(k, d)]
abbrev DPr (K : Fg) (G : Hp) : List (List Key × V) → List (List Key × PyData) → Prop := Paired (fun a b => a.1 = b.1 ∧ Dz K G a.2 b.2)
theorem held_rel {ws : List (List Key × V)} {kvs : List (List Key × PyData)} (h : DPr K G ws kvs) (k : List Key) : (heldP kvs k = none ∧ valV ws k = none) ∨ ∃ d v, heldP kvs k = some d ∧ valV ws k = some v ∧ Dz K G v d := by
  induction h with
  | nil => exact .inl ⟨rfl, rfl⟩
  | @cons a b ws kvs q _ ih =>
    unfold heldP valV at ih ⊢
    rw [List.find?_cons, List.find?_cons, ← q.1]
    by_cases e : a.1 = k
    · rw [decide_eq_true e]
      exact .inr ⟨_, _, rfl, rfl, q.2⟩
    · rw [decide_eq_false e]
      exact ih
theorem put_rel {ws : List (List Key × V)} {kvs : List (List Key × PyData)} (h : DPr K G ws kvs) (k : List Key) {v : V} {d : PyData} (a : Dz K G v d) : DPr K G (putK ws k v) (putP kvs k d) := by
  have an : (ws.any fun kv => decide (kv.1 = k)) = kvs.any fun kv => decide (kv.1 = k) := by
    induction h with
    | nil => rfl
    | cons q _ ih => rw [List.any_cons, List.any_cons, ih, q.1]
  unfold putK putP
  rw [an]
  split
  · rename_i hh
    clear an hh
    induction h with
    | nil => exact .nil
    | @cons x y ws kvs q _ ih =>
      rw [List.map_cons, List.map_cons]
      refine .cons ?_ ih
      rw [← q.1]
      split
      · exact ⟨rfl, a⟩
      · exact q
  · rename_i hh
    clear an hh
    induction h with
    | nil => exact .cons ⟨rfl, a⟩ .nil
    | cons q _ ih => exact .cons q ih
theorem dpr_len {ws : List (List Key × V)} {kvs : List (List Key × PyData)} (h : DPr K G ws kvs) : ws.length = kvs.length := paired_lens h
theorem dz_key {v : V} {i : Int} {r : List Int} (h : Dz K G v (rowD (i :: r))) : ∃ p, v = .ref p ∧ G p = some (.tup ((keyI (i :: r)).map kV)) := by
  cases h with
  | tup s a =>
    have e := dza_ints (ns := i :: r) a
    rcases s with s | ⟨_, x, l, s⟩
    · exact ⟨_, rfl, by rw [keyI_v, s, e]⟩
    · rw [e] at s
      cases s
/-- d.get(key, other) -/
theorem zw_dget2 (h : ZW K E td S M (fun z M1 => ∃ p, z = .c p ∧ (∃ b kvs, (p, b, CD.dT kvs) ∈ M1) ∧ ZW K E tk S M1 (fun y M2 => ∃ i r, y = .d (rowD (i :: r)) ∧ ZW K E tv S M2 (fun w M3 => ∃ b kvs o, w = .d o ∧ (p, b, CD.dT kvs) ∈ M3 ∧ Q (.d ((heldP kvs (keyI (i :: r))).getD o)) M3) X) X) X) :
    ZW K E (tDGet2 td tk tv) S M Q X := fun n σ G H R Qv k kx =>
  h n σ G H R _ (fun v G1 H1 z M1 e1 R1 a1 ⟨p, hz, ⟨b, kvs, hm⟩, h2⟩ => by
    subst hz
    have ev : v = .ref p := a1
    subst ev
    obtain ⟨_, ws, hw, _⟩ := R1.ce p b _ hm
    refine ⟨p, rfl, .inr ⟨ws, .inl hw⟩, h2 n σ G1 H1 R1 _ (fun y G2 H2 zy M2 e2 R2 a2 ⟨i, r, hy, h3⟩ => h3 n σ G2 H2 R2 _ (fun w G3 H3 zw M3 e3 R3 a3 ⟨b', kvs', o, hw3, hm3, q⟩ => ?_) ((kx.mono e1).mono e2)) (kx.mono e1)⟩
    subst hy hw3
    obtain ⟨c, rfl, hc⟩ := dz_key a2
    obtain ⟨_, ws', hw', rel⟩ := R3.ce p b' _ hm3
    refine ⟨_, DGet.t hw' (R3.ex _ _ (e3 _ _ hc)), ?_⟩
    have e123 := (e1.trans e2).trans e3
    rcases held_rel rel (keyI (i :: r)) with ⟨x1, x2⟩ | ⟨d, v, x1, x2, x3⟩
    · rw [x2]
      rw [x1] at q
      exact k w G3 H3 (.d o) M3 e123 R3 a3 q
    · rw [x2]
      rw [x1] at q
      exact k v G3 H3 (.d d) M3 e123 R3 x3 q) kx
/-- key in d -/
theorem zw_din (h : ZW K E tk S M (fun y M1 => ∃ i r, y = .d (rowD (i :: r)) ∧ ZW K E td S M1 (fun z M2 => ∃ p b kvs, z = .c p ∧ (p, b, CD.dT kvs) ∈ M2 ∧ Q (.d (.bool (heldP kvs (keyI (i :: r))).isSome)) M2) X) X) : ZW K E (tDIn tk td) S M Q X := fun n σ G H R Qv k kx =>
  h n σ G H R _ (fun y G1 H1 zy M1 e1 R1 a1 ⟨i, r, hy, h2⟩ => h2 n σ G1 H1 R1 _ (fun v G2 H2 z M2 e2 R2 a2 ⟨p, b, kvs, hz, hm, q⟩ => by
    subst hy hz
    have ev : v = .ref p := a2
    subst ev
    obtain ⟨c, rfl, hc⟩ := dz_key a1
    obtain ⟨_, ws, hw, rel⟩ := R2.ce p b _ hm
    refine ⟨p, _, rfl, DGet.t hw (R2.ex _ _ (e2 _ _ hc)), ?_⟩
    have same : (valV ws (keyI (i :: r))).isSome = (heldP kvs (keyI (i :: r))).isSome := by
      rcases held_rel rel (keyI (i :: r)) with ⟨x1, x2⟩ | ⟨d, v, x1, x2, _⟩ <;> rw [x1, x2] <;> rfl
    rw [same]
    exact k _ G2 H2 (.d (.bool (heldP kvs (keyI (i :: r))).isSome)) M2 (e1.trans e2) R2 (Dz.bl _) q) (kx.mono e1)) kx
theorem Rel.putD {p : Addr} {b : Bool} {xs ys : List (List Key × PyData)} {ws : List (List Key × V)} (R : Rel K n S M σ G H) (u : Upd1 p b (.dT xs) (.dT ys) M M') (h : DPr K G ws ys) : Rel K n S M' σ G (upd H p (.dT ws)) := by
  obtain ⟨_, vs, h1, _⟩ := R.ce p b _ u.mem
  exact R.put u (fun x z => by rw [h1] at z; cases z) ⟨ws, upd_same, h⟩
theorem Rel.newD {p : Addr} {ws : List (List Key × V)} {xs : List (List Key × PyData)} (R : Rel K n S M σ G H) (hp : H p = none) (h : DPr K G ws xs) : Rel K n S ((p, true, .dT xs) :: M) σ G (upd H p (.dT ws)) :=
  (R.lay hp).cell (R.fresh hp) (R.notin hp) (ex_gnone R.ex hp) ⟨ws, upd_same, h⟩
/-- dict([..]) of rows and what they hold -/
def rowsP (rows : List (List Int × PyData)) : List (List Key × PyData) := rows.foldl (fun acc r => putP acc (keyI r.1) r.2) []
theorem zc_dict {rows : List (List Int × PyData)} (h0 : ∀ r ∈ rows, r.1 ≠ []) (q : ∀ p, Q (.c p) ((p, true, .dT (rowsP rows)) :: M)) : ZC K (rDictT K) [.d (.list (rows.map fun r => .tuple [rowD r.1, r.2]))] M Q := fun n S σ G H R vs a Qv k => by
  obtain ⟨v, rfl, av⟩ := zall1 a
  obtain ⟨p, ws, rfl, h1, h2⟩ := dp_lst av
  have go : ∀ {rows : List (List Int × PyData)} {ws : List V}, (∀ r ∈ rows, r.1 ≠ []) → DzAll K G ws (rows.map fun r => .tuple [rowD r.1, r.2]) → ∃ (ts : List Addr) (rs : List (List Key × Addr × V)), ws = ts.map V.ref ∧
      Paired (fun t r => SqT K H t [.ref r.2.1, r.2.2] ∧ H r.2.1 = some (.tup (r.1.map kV))) ts rs ∧ Paired (fun (a : List Key × Addr × V) (b : List Int × PyData) => a.1 = keyI b.1 ∧ Dz K G a.2.2 b.2) rs rows := by
    intro rows
    induction rows with
    | nil => intro ws _ h; cases h; exact ⟨[], [], rfl, .nil, .nil⟩
    | cons r rows ih =>
      intro ws h0 h
      cases h with
      | cons a b =>
        obtain ⟨ts, rs, e1, e2, e3⟩ := ih (fun r hr => h0 r (List.mem_cons_of_mem _ hr)) b
        obtain ⟨t, us, rfl, u1, u2⟩ := dp_tup a
        cases u2 with
        | cons x y => cases y with
          | cons y z =>
            cases z
            obtain ⟨k, d⟩ := r
            cases k with
            | nil => exact absurd rfl (h0 _ List.mem_cons_self)
            | cons i k =>
              obtain ⟨c, rfl, hc⟩ := dz_key x
              exact ⟨t :: ts, (keyI (i :: k), c, _) :: rs, by rw [e1]; rfl, .cons ⟨Evl.ex_t R.ex u1, R.ex _ _ hc⟩ e2, .cons ⟨rfl, y⟩ e3⟩
  obtain ⟨ts, rs, e1, e2, e3⟩ := go h0 h2
  rw [e1] at h1
  refine ⟨p, ts, rs, rfl, Evl.ex_l R.ex h1, e2, fun l hl => ?_⟩
  have fold : ∀ {rs : List (List Key × Addr × V)} {rows : List (List Int × PyData)}, Paired (fun (a : List Key × Addr × V) (b : List Int × PyData) => a.1 = keyI b.1 ∧ Dz K G a.2.2 b.2) rs rows → ∀ {ws : List (List Key × V)} {kvs : List (List Key × PyData)}, DPr K G ws kvs →
      DPr K G (rs.foldl (fun acc r => putK acc r.1 r.2.2) ws) (rows.foldl (fun acc r => putP acc (keyI r.1) r.2) kvs) := by
    intro rs rows q
    induction q with
    | nil => intro ws kvs h; exact h
    | cons a _ ih =>
      intro ws kvs h
      rw [List.foldl_cons, List.foldl_cons]
      refine ih ?_
      rw [a.1]
      exact put_rel h _ a.2
  exact k (.ref l) G _ (.c l) _ (Ex.refl G) (R.newD hl (fold e3 .nil)) rfl (q l)
theorem putP_len (kvs : List (List Key × PyData)) (k : List Key) (d : PyData) : (putP kvs k d).length ≤ kvs.length + 1 := by
  unfold putP
  split <;> simp
theorem rowsP_len (rows : List (List Int × PyData)) : ∀ acc : List (List Key × PyData), (rows.foldl (fun acc r => putP acc (keyI r.1) r.2) acc).length ≤ acc.length + rows.length := by
  induction rows with
  | nil => intro acc; exact Nat.le_refl _
  | cons r rows ih =>
    intro acc
    have h1 := ih (putP acc (keyI r.1) r.2)
    have h2 := putP_len acc (keyI r.1) r.2
    rw [List.foldl_cons, List.length_cons]
    omega
theorem rowsP_snoc {rows : List (List Int × PyData)} {i : Nat} {r : List Int × PyData} (h : rows[i]? = some r) : rowsP (rows.take (i + 1)) = putP (rowsP (rows.take i)) (keyI r.1) r.2 := by
  unfold rowsP
  rw [List.take_add_one, h, List.foldl_append]
  rfl
/-- {row: e for .. in a tuple} -/
theorem zw_dcT {vs : List Nat} (h : ZW K E ta S M (fun z M1 => ∃ (xs : List PyData) (rows : List (List Int × PyData)), z = .d (.tuple xs) ∧ xs.length ≤ sizeLine ∧ rows.length = xs.length ∧
      (∀ (i : Nat) (x : PyData) (r : List Int × PyData), xs[i]? = some x → rows[i]? = some r → ∃ is S2, (∀ j ∈ is, j ∈ vs) ∧ ZG K g (.d x) (wipeZ S vs) is S2 ∧ ∀ M2, ZW K E tk S2 M2 (fun y M3 => (y = .d (rowD r.1) ∧ r.1 ≠ []) ∧ M3 = M2) (fun _ _ _ => False) ∧ ZW K E tv S2 M2 (fun y M3 => y = .d r.2 ∧ M3 = M2) fun _ _ _ => False) ∧
      ∀ p, Q (.c p) ((p, true, .dT (rowsP rows)) :: M1)) X) : ZW K E (tDcT (iTup K ta) g tYes tk tv vs) S M Q X := fun n σ G H R Qv k kx =>
  h n σ G H R _ (fun v G1 H1 z M1 e1 R1 a1 ⟨xs, rows, hz, hs, hl, each, q⟩ => by
    subst hz
    obtain ⟨p, ws, rfl, h1, h2⟩ := dp_tup a1
    have hw := dpa_len h2
    refine ⟨p, rfl, ⟨ws, Evl.ex_t R1.ex h1⟩, fun D hD => ?_⟩
    refine ⟨fun i m H' => m = ws.length - i ∧ i ≤ ws.length ∧ ∃ G', Rel K n (wipeZ S vs) ((D, true, .dT (rowsP (rows.take i))) :: M1) (L2.wipe σ vs) G' H' ∧ Ex G1 G', ⟨_, rfl, Nat.zero_le _, G1, (R1.newD hD .nil).wipe vs, Ex.refl _⟩, ?_⟩
    rintro i m H2 ⟨rfl, hi, G2, R2, e2⟩
    have stay := Evl.ex_t (e2.trans R2.ex) h1
    by_cases hlt : i < ws.length
    · have hwi := List.getElem?_eq_getElem hlt
      obtain ⟨x, hx, ax⟩ := dpa_at_v h2 hwi
      have hri : i < rows.length := by omega
      have hr := List.getElem?_eq_getElem hri
      obtain ⟨is, S2, hsub, hg, hb⟩ := each i x _ hx hr
      refine .inr ⟨⟨ws, _, stay, hwi⟩, fun H' => ∃ G', Rel K n (wipeZ S vs) ((D, true, .dT (rowsP (rows.take (i + 1)))) :: M1) (L2.wipe σ vs) G' H' ∧ Ex G1 G', fun H' q' => ⟨_, by omega, rfl, hlt, q'⟩, fun y H' hy => ?_⟩
      obtain ⟨hH, hy⟩ := hy
      subst hH
      have ey := Option.some.inj ((hy ws stay).symm.trans hwi)
      subst ey
      refine hg n _ _ G2 _ _ R2 (dp_mono e2 ax) _ fun σ2 l2 g2 R3 => ?_
      refine ⟨wipe_eq l2 fun j hj => g2 j fun z => hj (hsub j z), ?_⟩
      show tYes _ _ _
      refine ⟨fun z => (nomatch z), fun _ => ?_⟩
      refine (hb _).1 n _ G2 _ R3 _ (fun w G4 H4 z M4 e4 R4 a4 ⟨⟨hz, h0⟩, hM⟩ => ?_) (fun _ _ _ _ _ _ _ _ _ _ z => z.elim)
      subst hz hM
      refine (hb _).2 n _ G4 _ R4 _ (fun w5 G5 H5 z M5 e5 R5 a5 ⟨hz, hM⟩ => ?_) (fun _ _ _ _ _ _ _ _ _ _ z => z.elim)
      subst hz hM
      have hk : ∃ c, w = .ref c ∧ H5 c = some (.tup ((keyI rows[i].1).map kV)) := by
        cases hr1 : rows[i].1 with
        | nil => exact absurd hr1 h0
        | cons a r =>
          rw [hr1] at a4
          obtain ⟨c, hc1, hc2⟩ := dz_key a4
          exact ⟨c, hc1, R5.ex _ _ (e5 _ _ hc2)⟩
      obtain ⟨c, rfl, hc⟩ := hk
      obtain ⟨_, kvs, hkv, rel⟩ := R5.ce D true _ m0
      have hlen : kvs.length < sizeLine := by
        have := rowsP_len (rows.take i) []
        rw [paired_lens rel]
        rw [List.length_take, List.length_nil] at this
        unfold rowsP
        omega
      refine ⟨kvs, _, c, rfl, hc, hkv, hlen, G5, ?_, (e2.trans e4).trans e5⟩
      rw [rowsP_snoc hr]
      exact (R2.reslot R5 (e4.trans e5)).putD .here (put_rel rel _ a5)
    · have e : i = ws.length := by omega
      subst e
      refine .inl ⟨⟨ws, stay, Nat.le_refl _⟩, ?_⟩
      rw [List.take_of_length_le (by omega)] at R2
      exact k (.ref D) G2 H2 (.c D) _ (e1.trans e2) (R1.reslot R2 e2) rfl (q D)) kx
/-! ### a def over data that hands back an own thing -/
def spE (K : Fg) (k : Nat) (R : List PyData → CD → Prop) : Sp := fun vs H Q E => ∃ (G : Hp) (ds : List PyData) (c : CD), Ex G H ∧ ds.length = k ∧ DzAll K G vs ds ∧ R ds c ∧
  ∀ p G' H', Ext [] G H G' H' → H p = none → G' p = none → CD.at K G' H' p c → Q (.ref p) H'
def PFe (c : CD) : ZP := ⟨fun _ _ => False, fun z M => ∃ p, z = .c p ∧ (p, true, c) ∈ M, fun _ _ => False, fun _ _ => False, fun _ _ _ => False⟩
theorem fn_E {R : List PyData → CD → Prop} {k : Nat} {N : List Str} {vs : List V} {Qv : VK} (h : spE K k R vs H Qv e0) (b : ∀ ds c, ds.length = k → R ds c → ZS K (fun _ => e0) t (stS ds ++ List.replicate (N.length - ds.length) none) [] (PFe c)) : t { nx := fun _ H' => Qv .non H', rt := Qv } (L2.start N vs) H := by
  obtain ⟨G, ds, c, e, hk, hd, hR, q⟩ := h
  refine b ds c hk hR ⟨G, H, []⟩ _ G H (rel_start e hd) _ ⟨fun _ _ _ _ _ _ _ z => z.elim, fun v σ' G' H' z S' M' _ R a z' => ?_, fun _ _ _ _ _ _ _ z => z.elim, fun _ _ _ _ _ _ _ z => z.elim, fun _ _ _ _ _ _ _ _ _ _ _ z => z.elim⟩
  obtain ⟨p, hz, hm⟩ := z'
  subst hz
  have ev : v = .ref p := a
  subst ev
  obtain ⟨h1, h2⟩ := R.ce p true _ hm
  exact q p G' H' R.ext (R.o0 p _ hm) h1 h2
theorem len_E {R : List PyData → CD → Prop} {k : Nat} {vs : List V} {Qv : VK} (h : spE K k R vs H Qv e0) : vs.length = k := by
  obtain ⟨G, ds, c, e, hk, hd, _⟩ := h
  rw [dpa_len hd, hk]
theorem zw_callE0 {ar : Nat} {R : List PyData → CD → Prop} (h : ZA K E tA S M (fun zs M1 => ∃ ds c, AllD zs ds ∧ ds.length = ar ∧ R ds c ∧ ∀ p, Q (.c p) ((p, true, c) :: M1)) X) : ZW K E (tCall (spE K ar R) [] E0 tA) S M Q X := fun n σ G H Rl Qv k kx =>
  h n σ G H Rl _ (fun vs G1 H1 zs M1 e1 R1 a1 ⟨ds, c, hd, hk, hR, q⟩ => by
    refine ⟨G1, ds, c, R1.ex, hk, ?_, hR, fun p G' H' e hp hg hc => ?_⟩
    · rw [List.append_nil]
      exact zall_d (by rw [← hd]; exact a1)
    · exact k (.ref p) G' H' (.c p) _ (e1.trans e.g) ((R1.call e).cell (R1.fresh hp) (R1.notin hp) hg hc) rfl (q p)) kx
end
end Z
/-! [e for .. in a tuple if test] as filter and map -/
namespace Z
open PySem PySem.Spec PyProof.Rows L2
open Evl (Ex)
section
variable {K : Fg} {E : L2.St → XK} {te ta tb : TE} {tt : TT} {g : TG} {S : Zs} {M : Ms} {Q : QZ} {X : XZ}
theorem ZT.imp {Q Q' : Bool → Ms → Prop} (h : ZT K E tt S M Q X) (i : ∀ z M', Q z M' → Q' z M') : ZT K E tt S M Q' X := fun n σ G H R Qv q x => h n σ G H R Qv (fun v G' H' M' e R' b => q v G' H' M' e R' (i _ _ b)) x
theorem take_filter {α : Type} (p : α → Bool) {l : List α} {i : Nat} {c : α} (h : l[i]? = some c) : (l.take (i + 1)).filter p = (l.take i).filter p ++ if p c then [c] else [] := by
  rw [List.take_add_one, h, List.filter_append]
  congr 1
  show List.filter p [c] = _
  rw [List.filter_cons]
  rfl
theorem lcT_fm {α : Type} {vs : List Nat} (items : List α) (enc f : α → PyData) (p : α → Bool) (h : ZW K E ta S M (fun z M1 => z = .d (.tuple (items.map enc)) ∧ items.length ≤ sizeLine ∧
      (∀ c ∈ items, ∃ is S2, (∀ j ∈ is, j ∈ vs) ∧ ZG K g (.d (enc c)) (wipeZ S vs) is S2 ∧ ∀ D acc, ZT K E tt S2 ((D, true, .lst acc) :: M1) (fun b Mb => b = p c ∧ Mb = (D, true, .lst acc) :: M1) (fun _ _ _ => False) ∧
        (p c = true → ZW K E te S2 ((D, true, .lst acc) :: M1) (fun y Mc => y = .d (f c) ∧ Mc = (D, true, .lst acc) :: M1) fun _ _ _ => False)) ∧ Q (.d (.list ((items.filter p).map f))) M1) X) : ZW K E (tLc (iTup K ta) g tt te vs) S M Q X := by
  refine zw_lcT (h.imp ?_)
  rintro z M1 ⟨hz, hl, each, q⟩
  refine ⟨_, hz, by rw [List.length_map]; exact hl, fun i acc M' => acc = ((items.take i).filter p).map f ∧ M' = M1, ⟨by simp, rfl⟩, ?_, ?_⟩
  · intro i x hx acc M' D hI
    rw [List.getElem?_map] at hx
    obtain ⟨c, hc, rfl⟩ := Option.map_eq_some_iff.mp hx
    obtain ⟨is, S2, h1, h2, h3⟩ := each c (List.mem_of_getElem? hc)
    obtain ⟨ha, hM⟩ := hI
    subst hM
    obtain ⟨h4, h5⟩ := h3 D acc
    refine ⟨is, S2, h1, h2, ZT.imp h4 ?_⟩
    rintro b Mb ⟨rfl, rfl⟩
    refine ⟨fun hb => ⟨_, rfl, ?_, rfl⟩, fun hb => (h5 hb).imp ?_⟩
    · rw [take_filter p hc, hb, ha]
      simp
    · rintro y Mc ⟨rfl, rfl⟩
      refine ⟨_, _, rfl, rfl, ?_, rfl⟩
      rw [take_filter p hc, hb, ha]
      simp
  · rintro acc M' ⟨ha, rfl⟩
    rw [List.length_map, List.take_length] at ha
    rw [ha]
    exact q
theorem lcT_map {α : Type} {vs : List Nat} (items : List α) (enc f : α → PyData) (h : ZW K E ta S M (fun z M1 => z = .d (.tuple (items.map enc)) ∧ items.length ≤ sizeLine ∧
      (∀ c ∈ items, ∃ is S2, (∀ j ∈ is, j ∈ vs) ∧ ZG K g (.d (enc c)) (wipeZ S vs) is S2 ∧ ∀ D acc, ZW K E te S2 ((D, true, .lst acc) :: M1) (fun y Mc => y = .d (f c) ∧ Mc = (D, true, .lst acc) :: M1) fun _ _ _ => False) ∧ Q (.d (.list (items.map f))) M1) X) : ZW K E (tLc (iTup K ta) g tYes te vs) S M Q X := by
  refine lcT_fm items enc f (fun _ => true) (h.imp ?_)
  rintro z M1 ⟨hz, hl, each, q⟩
  refine ⟨hz, hl, fun c hc => ?_, by rw [List.filter_eq_self.mpr (fun _ _ => rfl)]; exact q⟩
  obtain ⟨is, S2, h1, h2, h3⟩ := each c hc
  exact ⟨is, S2, h1, h2, fun D acc => ⟨zt_yes ⟨rfl, rfl⟩, fun _ => h3 D acc⟩⟩
theorem dcT_map {α : Type} {vs : List Nat} {tk tv : TE} (items : List α) (enc : α → PyData) (key : α → List Int) (val : α → PyData) (h : ZW K E ta S M (fun z M1 => z = .d (.tuple (items.map enc)) ∧ items.length ≤ sizeLine ∧
      (∀ c ∈ items, ∃ is S2, (∀ j ∈ is, j ∈ vs) ∧ ZG K g (.d (enc c)) (wipeZ S vs) is S2 ∧ ∀ M2, ZW K E tk S2 M2 (fun y M3 => (y = .d (rowD (key c)) ∧ key c ≠ []) ∧ M3 = M2) (fun _ _ _ => False) ∧ ZW K E tv S2 M2 (fun y M3 => y = .d (val c) ∧ M3 = M2) fun _ _ _ => False) ∧
      ∀ p, Q (.c p) ((p, true, .dT (rowsP (items.map fun c => (key c, val c)))) :: M1)) X) : ZW K E (tDcT (iTup K ta) g tYes tk tv vs) S M Q X := by
  refine zw_dcT (h.imp ?_)
  rintro z M1 ⟨hz, hl, each, q⟩
  refine ⟨_, items.map fun c => (key c, val c), hz, by rw [List.length_map]; exact hl, by rw [List.length_map, List.length_map], ?_, q⟩
  intro i x r hx hr
  rw [List.getElem?_map] at hx hr
  obtain ⟨c, hc, rfl⟩ := Option.map_eq_some_iff.mp hx
  rw [hc] at hr
  cases hr
  exact each c (List.mem_of_getElem? hc)
end
end Z
namespace MB
def binL (n : Nat) : List Nat := (Nat.toDigits 2 n).map Char.toNat
theorem binL_lt {n : Nat} (h : n < 2) : binL n = [if n.testBit 0 then 49 else 48] := by
  unfold binL
  rw [Nat.toDigits_of_lt_base h]
  rcases Nat.lt_or_ge n 1 with z | z
  · have : n = 0 := by omega
    subst this; rfl
  · have : n = 1 := by omega
    subst this; rfl
theorem binL_ge {n : Nat} (h : 2 ≤ n) : binL n = binL (n / 2) ++ [if n.testBit 0 then 49 else 48] := by
  unfold binL
  rw [Nat.toDigits_of_base_le (by decide) h, List.map_append]
  congr 1
  rw [Nat.testBit_zero]
  rcases Nat.mod_two_eq_zero_or_one n with z | z <;> rw [z] <;> rfl
theorem binL_pos (n : Nat) : 0 < (binL n).length := by
  rcases Nat.lt_or_ge n 2 with h | h
  · rw [binL_lt h]; exact Nat.zero_lt_one
  · rw [binL_ge h, List.length_append]; simp
theorem binL_len (n : Nat) : (binL n).length = n.log2 + 1 := by
  induction n using Nat.strongRecOn with
  | _ n ih =>
    rcases Nat.lt_or_ge n 2 with h | h
    · have e : ¬ 2 ≤ n := by omega
      rw [binL_lt h, Nat.log2_def, if_neg e]; rfl
    · rw [binL_ge h, Nat.log2_def, if_pos h, List.length_append, ih (n / 2) (by omega)]; rfl
theorem binL_get (n : Nat) : ∀ k, k < (binL n).length → (binL n)[(binL n).length - 1 - k]? = some (if n.testBit k then 49 else 48) := by
  induction n using Nat.strongRecOn with
  | _ n ih =>
    intro k hk
    rcases Nat.lt_or_ge n 2 with h | h
    · rw [binL_lt h] at hk ⊢
      have : k = 0 := by simpa using hk
      subst this; rfl
    · rw [binL_ge h, List.length_append] at hk ⊢
      simp only [List.length_cons, List.length_nil] at hk ⊢
      have hp := binL_pos (n / 2)
      cases k with
      | zero =>
        rw [List.getElem?_append_right (by omega)]
        have : (binL (n / 2)).length + (0 + 1) - 1 - 0 - (binL (n / 2)).length = 0 := by omega
        rw [this]; rfl
      | succ k =>
        rw [List.getElem?_append_left (by omega)]
        have e : (binL (n / 2)).length + (0 + 1) - 1 - (k + 1) = (binL (n / 2)).length - 1 - k := by omega
        rw [e, ih (n / 2) (by omega) k (by omega), Nat.testBit_succ]
theorem binL_off (n k : Nat) (h : (binL n).length ≤ k) : n.testBit k = false := by
  rw [binL_len] at h
  exact Nat.testBit_lt_two_pow (Nat.lt_of_lt_of_le Nat.lt_log2_self (Nat.pow_le_pow_right (by decide) (by omega)))
theorem binL_at (n j : Nat) (h : j < (binL n).length) : (binL n)[j]? = some (if n.testBit ((binL n).length - 1 - j) then 49 else 48) := by
  have := binL_get n ((binL n).length - 1 - j) (by omega)
  have e : (binL n).length - 1 - ((binL n).length - 1 - j) = j := by omega
  rw [e] at this
  exact this
/-- the places of the ones, the greatest first, those that the text shows ahead of an index -/
def onesTo (n m : Nat) : List Nat := ((List.range m).filter fun j => n.testBit ((binL n).length - 1 - j)).map fun j => (binL n).length - 1 - j
def ones (n : Nat) : List Nat := onesTo n (binL n).length
theorem mem_ones (n k : Nat) : k ∈ ones n ↔ n.testBit k = true := by
  unfold ones onesTo
  simp only [List.mem_map, List.mem_filter, List.mem_range]
  constructor
  · rintro ⟨j, ⟨h1, h2⟩, rfl⟩; exact h2
  · intro h
    have hk : k < (binL n).length := by
      rcases Nat.lt_or_ge k (binL n).length with z | z
      · exact z
      · rw [binL_off n k z] at h; cases h
    refine ⟨(binL n).length - 1 - k, ⟨by omega, ?_⟩, by omega⟩
    have e : (binL n).length - 1 - ((binL n).length - 1 - k) = k := by omega
    rw [e]; exact h
theorem ones_nodup (n : Nat) : (ones n).Nodup := by
  unfold ones onesTo
  unfold List.Nodup
  rw [List.pairwise_map]
  have h1 : ((List.range (binL n).length).filter fun j => n.testBit ((binL n).length - 1 - j)).Nodup := (List.nodup_range).filter _
  have h2 : ∀ j ∈ (List.range (binL n).length).filter fun j => n.testBit ((binL n).length - 1 - j), j < (binL n).length := fun j hj => List.mem_range.mp (List.mem_filter.mp hj).1
  refine List.Pairwise.imp_of_mem ?_ h1
  intro a b ha hb hab e
  have := h2 a ha
  have := h2 b hb
  exact hab (by omega)
theorem onesTo_step_no {n m k : Nat} (hm : m ≤ k) (h : ∀ j, m ≤ j → j < k → n.testBit ((binL n).length - 1 - j) = false) : onesTo n k = onesTo n m := by
  obtain ⟨d, rfl⟩ := Nat.exists_eq_add_of_le hm
  clear hm
  induction d with
  | zero => rfl
  | succ d ih =>
    have := ih (fun j h1 h2 => h j h1 (by omega))
    rw [← this]
    unfold onesTo
    rw [← Nat.add_assoc, List.range_succ, List.filter_append, List.map_append]
    simp [h (m + d) (by omega) (by omega)]
theorem onesTo_succ {n m : Nat} (h : n.testBit ((binL n).length - 1 - m) = true) : onesTo n (m + 1) = onesTo n m ++ [(binL n).length - 1 - m] := by
  unfold onesTo
  rw [List.range_succ, List.filter_append, List.map_append]
  simp [h]
theorem ones_count (n : Nat) : (ones n).length = (binL n).count 49 := by
  have key : ∀ m, m ≤ (binL n).length → (onesTo n m).length = ((binL n).take m).count 49 := by
    intro m
    induction m with
    | zero => intro _; rfl
    | succ m ih =>
      intro h
      have hg := binL_at n m (by omega)
      have e : (binL n).take (m + 1) = (binL n).take m ++ [if n.testBit ((binL n).length - 1 - m) then 49 else 48] := by
        rw [List.take_succ, hg]; rfl
      rw [e, List.count_append, ← ih (by omega)]
      cases z : n.testBit ((binL n).length - 1 - m) with
      | true => rw [onesTo_succ z, List.length_append]; rfl
      | false => rw [onesTo_step_no (Nat.le_succ m) (fun j h1 h2 => (show j = m by omega) ▸ z)]; rfl
  have := key _ (Nat.le_refl _)
  rw [List.take_length] at this
  exact this
/-- ^ of numbers -/
theorem or_parts (a : Nat) : ∀ b, (a ||| b) = (a ^^^ b) + (a &&& b) := by
  induction a using Nat.strongRecOn with
  | _ a ih =>
    intro b
    rcases Nat.eq_zero_or_pos a with z | z
    · subst z; simp
    · have h := ih (a / 2) (by omega) (b / 2)
      have d1 := @Nat.or_div_two a b
      have d2 := @Nat.xor_div_two a b
      have d3 := @Nat.and_div_two a b
      have m : (a ||| b) % 2 = (a ^^^ b) % 2 + (a &&& b) % 2 := by
        have t1 : ((a ||| b) % 2 = 1) ↔ (a.testBit 0 || b.testBit 0) = true := by rw [← Nat.testBit_or, Nat.testBit_zero, decide_eq_true_iff]
        have t2 : ((a ^^^ b) % 2 = 1) ↔ (a.testBit 0 ^^ b.testBit 0) = true := by rw [← Nat.testBit_xor, Nat.testBit_zero, decide_eq_true_iff]
        have t3 : ((a &&& b) % 2 = 1) ↔ (a.testBit 0 && b.testBit 0) = true := by rw [← Nat.testBit_and, Nat.testBit_zero, decide_eq_true_iff]
        have l1 := Nat.mod_two_eq_zero_or_one (a ||| b)
        have l2 := Nat.mod_two_eq_zero_or_one (a ^^^ b)
        have l3 := Nat.mod_two_eq_zero_or_one (a &&& b)
        generalize (a ||| b) % 2 = p at *
        generalize (a ^^^ b) % 2 = q at *
        generalize (a &&& b) % 2 = r at *
        cases x : a.testBit 0 <;> cases y : b.testBit 0 <;> rw [x, y] at t1 t2 t3 <;> simp only [Bool.or_true, Bool.or_false, Bool.xor_true, Bool.xor_false, Bool.and_true, Bool.and_false, Bool.not_true, Bool.not_false, Bool.false_eq_true, iff_true, iff_false] at t1 t2 t3 <;> omega
      rw [← d1, ← d2, ← d3] at h
      have m1 := Nat.div_add_mod (a ||| b) 2
      have m2 := Nat.div_add_mod (a ^^^ b) 2
      have m3 := Nat.div_add_mod (a &&& b) 2
      omega
end MB
namespace MB
/-! a floor as bits: what a step of planes is -/
def sum3 (a b c : Nat) : Nat × Nat := ((a ^^^ b) ^^^ c, (a &&& b) ||| (c &&& (a ^^^ b)))
theorem sum3_bit (a b c i : Nat) : ((sum3 a b c).1.testBit i).toNat + 2 * ((sum3 a b c).2.testBit i).toNat = (a.testBit i).toNat + (b.testBit i).toNat + (c.testBit i).toNat := by
  simp only [sum3, Nat.testBit_xor, Nat.testBit_and, Nat.testBit_or]
  cases a.testBit i <;> cases b.testBit i <;> cases c.testBit i <;> rfl
structure Figs where
  a : Nat
  b : Nat
  c : Nat
  d : Nat
def counts (p h : Nat) : Figs :=
  let o := sum3 (p <<< 1) p (p >>> 1)
  let f := sum3 (o.1 <<< h) o.1 (o.1 >>> h)
  let g := sum3 (o.2 <<< h) o.2 (o.2 >>> h)
  ⟨f.1, f.2 ^^^ g.1, g.2 ^^^ (f.2 &&& g.1), g.2 &&& (f.2 &&& g.1)⟩
def Figs.at (q : Figs) (i : Nat) : Nat := (q.a.testBit i).toNat + 2 * (q.b.testBit i).toNat + 4 * (q.c.testBit i).toNat + 8 * (q.d.testBit i).toNat
/-- how many of three neighbouring bits -/
def tri (p j : Nat) : Nat := (decide (1 ≤ j) && p.testBit (j - 1)).toNat + (p.testBit j).toNat + (p.testBit (j + 1)).toNat
theorem tri_bits (p j : Nat) : ((sum3 (p <<< 1) p (p >>> 1)).1.testBit j).toNat + 2 * ((sum3 (p <<< 1) p (p >>> 1)).2.testBit j).toNat = tri p j := by
  rw [sum3_bit, Nat.testBit_shiftLeft, Nat.testBit_shiftRight]
  unfold tri
  rw [Nat.add_comm 1 j]
theorem figs_alg (a b c d : Bool) : (a ^^ b).toNat * 2 + 4 * ((c ^^ (a && b))).toNat + 8 * (c && (a && b)).toNat = 2 * a.toNat + 2 * b.toNat + 4 * c.toNat := by
  cases a <;> cases b <;> cases c <;> rfl
theorem counts_at (p h i : Nat) : (counts p h).at i = (if h ≤ i then tri p (i - h) else 0) + tri p i + tri p (i + h) := by
  have e0 := tri_bits p i
  have e1 := tri_bits p (i + h)
  have e2 : (if h ≤ i then tri p (i - h) else 0) = ((decide (i ≥ h) && (sum3 (p <<< 1) p (p >>> 1)).1.testBit (i - h))).toNat + 2 * ((decide (i ≥ h) && (sum3 (p <<< 1) p (p >>> 1)).2.testBit (i - h))).toNat := by
    by_cases z : h ≤ i
    · rw [if_pos z, ← tri_bits, decide_eq_true z]; rfl
    · rw [if_neg z, decide_eq_false z]; rfl
  rw [e2]
  unfold counts Figs.at
  simp only
  generalize (sum3 (p <<< 1) p (p >>> 1)) = o at *
  have f := sum3_bit (o.1 <<< h) o.1 (o.1 >>> h) i
  have g := sum3_bit (o.2 <<< h) o.2 (o.2 >>> h) i
  rw [Nat.testBit_shiftLeft, Nat.testBit_shiftRight, Nat.add_comm h i] at f g
  simp only [Nat.testBit_xor, Nat.testBit_and]
  generalize (sum3 (o.1 <<< h) o.1 (o.1 >>> h)) = F at *
  generalize (sum3 (o.2 <<< h) o.2 (o.2 >>> h)) = U at *
  have k := figs_alg (F.2.testBit i) (U.1.testBit i) (U.2.testBit i) true
  omega
def sel (whole p b : Nat) : Nat := if b = 0 then whole ^^^ p else p
def fit (whole : Nat) (q : Figs) (c : Nat) : Nat := ((sel whole q.a (c % 2) &&& sel whole q.b (c / 2 % 2)) &&& sel whole q.c (c / 4 % 2)) &&& sel whole q.d (c / 8)
def withC (whole : Nat) (q : Figs) (cs : List Nat) : Nat := cs.foldl (fun f c => f ||| fit whole q c) 0
theorem whole_bit (n i : Nat) : (2 ^ n - 1).testBit i = decide (i < n) := Nat.testBit_two_pow_sub_one n i
theorem sel_bit {n p b i : Nat} (hi : i < n) (hb : b < 2) : (sel (2 ^ n - 1) p b).testBit i = decide ((p.testBit i).toNat = b) := by
  unfold sel
  rcases Nat.lt_or_ge b 1 with z | z
  · have : b = 0 := by omega
    subst this
    rw [if_pos rfl, Nat.testBit_xor, whole_bit, decide_eq_true hi]
    cases p.testBit i <;> rfl
  · have : b = 1 := by omega
    subst this
    rw [if_neg (by decide)]
    cases p.testBit i <;> rfl
theorem fit_bit {n i c : Nat} {q : Figs} (hi : i < n) (hc : c < 16) : (fit (2 ^ n - 1) q c).testBit i = decide (q.at i = c) := by
  unfold fit
  rw [Nat.testBit_and, Nat.testBit_and, Nat.testBit_and, sel_bit hi (Nat.mod_lt _ (by decide)), sel_bit hi (Nat.mod_lt _ (by decide)), sel_bit hi (Nat.mod_lt _ (by decide)), sel_bit hi (by omega)]
  unfold Figs.at
  have ha := Bool.toNat_lt (q.a.testBit i)
  have hb := Bool.toNat_lt (q.b.testBit i)
  have hcc := Bool.toNat_lt (q.c.testBit i)
  have hd := Bool.toNat_lt (q.d.testBit i)
  rw [← Bool.decide_and, ← Bool.decide_and, ← Bool.decide_and]
  refine decide_eq_decide.mpr ⟨fun h => by omega, fun h => by omega⟩
theorem fit_off {n i c : Nat} {q : Figs} (hi : n ≤ i) (h0 : q.at i = 0) : (fit (2 ^ n - 1) q c).testBit i = false := by
  have ha : q.a.testBit i = false := by
    unfold Figs.at at h0
    cases z : q.a.testBit i with
    | false => rfl
    | true => rw [z] at h0; simp at h0
  unfold fit
  rw [Nat.testBit_and, Nat.testBit_and, Nat.testBit_and]
  have e : (sel (2 ^ n - 1) q.a (c % 2)).testBit i = false := by
    unfold sel
    split
    · rw [Nat.testBit_xor, whole_bit, ha, decide_eq_false (by omega)]; rfl
    · exact ha
  rw [e]; rfl
theorem fold_bit (whole : Nat) (q : Figs) (i : Nat) : ∀ (cs : List Nat) (f : Nat), (cs.foldl (fun f c => f ||| fit whole q c) f).testBit i = (f.testBit i || cs.any fun c => (fit whole q c).testBit i)
  | [], f => by simp
  | c :: cs, f => by
    rw [List.foldl_cons, fold_bit whole q i cs, Nat.testBit_or, List.any_cons, Bool.or_assoc]
theorem withC_bit {n i : Nat} {q : Figs} {cs : List Nat} (hi : i < n) (hc : ∀ c ∈ cs, c < 16) : (withC (2 ^ n - 1) q cs).testBit i = decide (q.at i ∈ cs) := by
  unfold withC
  rw [fold_bit, Nat.zero_testBit, Bool.false_or, Bool.eq_iff_iff, List.any_eq_true, decide_eq_true_iff]
  constructor
  · rintro ⟨c, h1, h2⟩
    rw [fit_bit hi (hc c h1)] at h2
    rw [of_decide_eq_true h2]; exact h1
  · intro h
    exact ⟨_, h, by rw [fit_bit hi (hc _ h)]; exact decide_eq_true rfl⟩
theorem withC_off {n i : Nat} {q : Figs} {cs : List Nat} (hi : n ≤ i) (h0 : q.at i = 0) : (withC (2 ^ n - 1) q cs).testBit i = false := by
  unfold withC
  rw [fold_bit, Nat.zero_testBit, Bool.false_or, Bool.eq_false_iff]
  intro h
  obtain ⟨c, h1, h2⟩ := List.any_eq_true.mp h
  rw [fit_off hi h0] at h2
  cases h2
/-! ### the rule -/
def nextS (births stays : List Nat) (states : Int) (c : Int) (n : Nat) : Int :=
  if c = 0 then (if n ∈ births then 1 else 0) else if c = 1 ∧ n ∈ stays then 1 else if c + 1 < states then c + 1 else 0
abbrev Fl := Int → Int → Int
def liv (f : Fl) (x y : Int) : Nat := if f x y = 1 then 1 else 0
/-- the living ones among the eight places around one -/
def nb (f : Fl) (x y : Int) : Nat := liv f (x - 1) (y - 1) + liv f (x - 1) y + liv f (x - 1) (y + 1) + liv f x (y - 1) + liv f x (y + 1) + liv f (x + 1) (y - 1) + liv f (x + 1) y + liv f (x + 1) (y + 1)
def next (births stays : List Nat) (states : Int) (f : Fl) : Fl := fun x y => nextS births stays states (f x y) (nb f x y)
def orAll (P : List Nat) (a : Nat) : Nat := P.foldl (· ||| ·) a
def advP (births stays1 : List Nat) (states h whole : Nat) (P : List Nat) : List Nat :=
  let alive := P.headD 0
  let taken := orAll P.tail alive
  let q := counts alive h
  let staying := alive &&& withC whole q stays1
  let born := withC whole q births &&& (whole ^^^ taken)
  ((staying ||| born) :: (alive ^^^ staying) :: P.tail).take (states - 1)
structure Rep (f : Fl) (l t : Int) (W H m : Nat) (P : List Nat) : Prop where
  sup : ∀ x y, f x y ≠ 0 → l + m ≤ x ∧ x + m < l + W ∧ t + m ≤ y ∧ y + m < t + H
  bit : ∀ (k p : Nat), P[k]? = some p → ∀ i : Nat, p.testBit i = decide (f (l + (i / H : Nat)) (t + (i % H : Nat)) = (k : Int) + 1)
  rng : ∀ x y, 0 ≤ f x y ∧ f x y ≤ P.length
theorem orAll_bit (i : Nat) : ∀ (P : List Nat) (a : Nat), (orAll P a).testBit i = (a.testBit i || P.any fun p => p.testBit i)
  | [], a => by simp [orAll]
  | p :: P, a => by
    have := orAll_bit i P (a ||| p)
    unfold orAll at this ⊢
    rw [List.foldl_cons, this, Nat.testBit_or, List.any_cons, Bool.or_assoc]
section
variable {f : Fl} {l t : Int} {W H m : Nat} {P : List Nat}
theorem divmod_off (u v H : Nat) (hv : v < H) : (u * H + v) / H = u ∧ (u * H + v) % H = v := by
  rw [Nat.mul_comm, Nat.mul_add_div (by omega), Nat.mul_add_mod, Nat.div_eq_of_lt hv, Nat.mod_eq_of_lt hv]
  exact ⟨rfl, rfl⟩
/-- the living ones of three neighbours of a column -/
def col (f : Fl) (x y : Int) : Nat := liv f x (y - 1) + liv f x y + liv f x (y + 1)
theorem tri_col {p : Nat} (hH : 0 < H) (sup : ∀ x y, f x y ≠ 0 → l + (m + 1 : Nat) ≤ x ∧ x + (m + 1 : Nat) < l + W ∧ t + (m + 1 : Nat) ≤ y ∧ y + (m + 1 : Nat) < t + H)
    (hp : ∀ i, p.testBit i = decide (f (l + (i / H : Nat)) (t + (i % H : Nat)) = 1)) (u v : Nat) (hv : v < H) : tri p (u * H + v) = col f (l + u) (t + v) := by
  have off : ∀ x y, ¬ (l + (m + 1 : Nat) ≤ x ∧ x + (m + 1 : Nat) < l + W ∧ t + (m + 1 : Nat) ≤ y ∧ y + (m + 1 : Nat) < t + H) → liv f x y = 0 := fun x y h => by
    unfold liv
    rw [if_neg]
    intro e
    exact h (sup x y (by rw [e]; decide))
  have at_ : ∀ u v, v < H → (p.testBit (u * H + v)).toNat = liv f (l + u) (t + v) := fun u v hv => by
    rw [hp, (divmod_off u v H hv).1, (divmod_off u v H hv).2]
    unfold liv
    split
    · rename_i z; rw [decide_eq_true z]; rfl
    · rename_i z; rw [decide_eq_false z]; rfl
  unfold tri col
  have e1 : (decide (1 ≤ u * H + v) && p.testBit (u * H + v - 1)).toNat = liv f (l + u) (t + v - 1) := by
    rcases Nat.eq_zero_or_pos v with z | z
    · subst z
      rw [off (l + u) (t + ((0 : Nat) : Int) - 1) (by omega)]
      rcases Nat.eq_zero_or_pos u with z2 | z2
      · subst z2; simp
      · obtain ⟨u', rfl⟩ : ∃ u', u = u' + 1 := ⟨u - 1, by omega⟩
        have e : (u' + 1) * H + 0 - 1 = u' * H + (H - 1) := by rw [Nat.add_mul]; omega
        rw [e]
        have := at_ u' (H - 1) (by omega)
        rw [off _ _ (by omega)] at this
        have h2 : p.testBit (u' * H + (H - 1)) = false := by
          cases q : p.testBit (u' * H + (H - 1)) with
          | false => rfl
          | true => rw [q] at this; cases this
        rw [h2, Bool.and_false]; rfl
    · have e : u * H + v - 1 = u * H + (v - 1) := by omega
      rw [decide_eq_true (show 1 ≤ u * H + v by omega), Bool.true_and, e, at_ u (v - 1) (by omega)]
      have : t + ((v - 1 : Nat) : Int) = t + v - 1 := by omega
      rw [this]
  have e3 : (p.testBit (u * H + v + 1)).toNat = liv f (l + u) (t + v + 1) := by
    by_cases z : v + 1 < H
    · have := at_ u (v + 1) z
      rw [← Nat.add_assoc] at this
      rw [this]
      have : t + ((v + 1 : Nat) : Int) = t + v + 1 := by omega
      rw [this]
    · have e : u * H + v + 1 = (u + 1) * H + 0 := by rw [Nat.add_mul]; omega
      rw [e, at_ (u + 1) 0 hH, off _ _ (by omega), off _ _ (by omega)]
  rw [e1, at_ u v hv, e3]
theorem counts_rep {p : Nat} (hH : 0 < H) (sup : ∀ x y, f x y ≠ 0 → l + (m + 1 : Nat) ≤ x ∧ x + (m + 1 : Nat) < l + W ∧ t + (m + 1 : Nat) ≤ y ∧ y + (m + 1 : Nat) < t + H)
    (hp : ∀ i, p.testBit i = decide (f (l + (i / H : Nat)) (t + (i % H : Nat)) = 1)) (i : Nat) :
    (counts p H).at i = nb f (l + (i / H : Nat)) (t + (i % H : Nat)) + liv f (l + (i / H : Nat)) (t + (i % H : Nat)) := by
  have hv := Nat.mod_lt i hH
  have hi : i = i / H * H + i % H := by rw [Nat.mul_comm]; exact (Nat.div_add_mod i H).symm
  generalize i / H = u at hi ⊢
  generalize i % H = v at hi hv ⊢
  subst hi
  rw [counts_at, tri_col hH sup hp u v hv]
  have e2 : u * H + v + H = (u + 1) * H + v := by rw [Nat.add_mul]; omega
  rw [e2, tri_col hH sup hp (u + 1) v hv]
  have e1 : (if H ≤ u * H + v then tri p (u * H + v - H) else 0) = col f (l + u - 1) (t + v) := by
    rcases Nat.eq_zero_or_pos u with z | z
    · subst z
      rw [if_neg (by omega)]
      unfold col liv
      have off : ∀ y, f (l + ((0 : Nat) : Int) - 1) y ≠ 1 := fun y e => by
        have := sup _ y (by rw [e]; decide)
        omega
      rw [if_neg (off _), if_neg (off _), if_neg (off _)]
    · obtain ⟨u', rfl⟩ : ∃ u', u = u' + 1 := ⟨u - 1, by omega⟩
      have e : (u' + 1) * H + v - H = u' * H + v := by rw [Nat.add_mul]; omega
      rw [if_pos (by rw [Nat.add_mul]; omega), e, tri_col hH sup hp u' v hv]
      have : l + ((u' + 1 : Nat) : Int) - 1 = l + u' := by omega
      rw [this]
  rw [e1]
  have e4 : l + ((u + 1 : Nat) : Int) = l + u + 1 := by omega
  rw [e4]
  unfold col nb
  omega
theorem liv_zero {x y : Int} (h : f x y = 0) : liv f x y = 0 := by unfold liv; rw [if_neg (by rw [h]; decide)]
theorem next_sup {births stays : List Nat} {states : Int} (h0 : 0 ∉ births) (sup : ∀ x y, f x y ≠ 0 → l + (m + 1 : Nat) ≤ x ∧ x + (m + 1 : Nat) < l + W ∧ t + (m + 1 : Nat) ≤ y ∧ y + (m + 1 : Nat) < t + H) :
    ∀ x y, next births stays states f x y ≠ 0 → l + m ≤ x ∧ x + m < l + W ∧ t + m ≤ y ∧ y + m < t + H := by
  intro x y h
  by_cases z : f x y = 0
  · have : nb f x y ≠ 0 := by
      intro e
      apply h
      unfold next nextS
      rw [if_pos z, e, if_neg h0]
    have key : ∀ a b, liv f a b ≠ 0 → f a b ≠ 0 := fun a b q e => q (liv_zero e)
    by_cases p1 : liv f (x - 1) (y - 1) = 0
    · by_cases p2 : liv f (x - 1) y = 0
      · by_cases p3 : liv f (x - 1) (y + 1) = 0
        · by_cases p4 : liv f x (y - 1) = 0
          · by_cases p5 : liv f x (y + 1) = 0
            · by_cases p6 : liv f (x + 1) (y - 1) = 0
              · by_cases p7 : liv f (x + 1) y = 0
                · by_cases p8 : liv f (x + 1) (y + 1) = 0
                  · exact absurd (by unfold nb; omega) this
                  · have := sup _ _ (key _ _ p8); omega
                · have := sup _ _ (key _ _ p7); omega
              · have := sup _ _ (key _ _ p6); omega
            · have := sup _ _ (key _ _ p5); omega
          · have := sup _ _ (key _ _ p4); omega
        · have := sup _ _ (key _ _ p3); omega
      · have := sup _ _ (key _ _ p2); omega
    · have := sup _ _ (key _ _ p1); omega
  · have := sup x y z
    omega
theorem adv_rep {births stays : List Nat} {states : Nat} (hs : 2 ≤ states) (hH : 0 < H) (hP : P ≠ []) (hb : ∀ c ∈ births, 1 ≤ c ∧ c ≤ 8) (hst : ∀ c ∈ stays, c ≤ 8) (R : Rep f l t W H (m + 1) P) :
    Rep (next births stays states f) l t W H m (advP births (stays.map (· + 1)) states H (2 ^ (W * H) - 1) P) := by
  obtain ⟨alive, tl, rfl⟩ : ∃ a r, P = a :: r := by cases P with | nil => exact absurd rfl hP | cons a r => exact ⟨a, r, rfl⟩
  have h0 : 0 ∉ births := fun z => absurd (hb 0 z).1 (by decide)
  have sup := R.sup
  have hal : ∀ i, alive.testBit i = decide (f (l + (i / H : Nat)) (t + (i % H : Nat)) = 1) := fun i => by
    have := R.bit 0 alive rfl i
    rw [this]; rfl
  have cnt := counts_rep hH sup hal
  have ssup := next_sup (births := births) (stays := stays) (states := states) h0 sup
  have inb : ∀ i, f (l + (i / H : Nat)) (t + (i % H : Nat)) ≠ 0 → i < W * H := fun i h => by
    have := (sup _ _ h).2.1
    have hu : i / H < W := by
      generalize i / H = u at this
      omega
    have hh := Nat.div_add_mod i H
    have hv := Nat.mod_lt i hH
    have : H * (i / H) ≤ H * (W - 1) := Nat.mul_le_mul_left _ (Nat.le_sub_one_of_lt hu)
    have e : H * (W - 1) + H = W * H := by
      have hW : 0 < W := Nat.lt_of_le_of_lt (Nat.zero_le _) hu
      have : W = (W - 1) + 1 := (Nat.sub_add_cancel hW).symm
      rw [Nat.mul_comm W H]
      conv => rhs; rw [this, Nat.mul_add, Nat.mul_one]
    omega
  have tak : ∀ i, (orAll tl alive).testBit i = decide (f (l + (i / H : Nat)) (t + (i % H : Nat)) ≠ 0) := fun i => by
    rw [orAll_bit, Bool.eq_iff_iff, decide_eq_true_iff, Bool.or_eq_true, List.any_eq_true]
    constructor
    · rintro (h | ⟨p, h1, h2⟩)
      · rw [hal] at h
        rw [of_decide_eq_true h]; decide
      · obtain ⟨k, hk⟩ := List.getElem?_of_mem h1
        have := R.bit (k + 1) p (by simpa using hk) i
        rw [h2] at this
        have := of_decide_eq_true this.symm
        omega
    · intro h
      have r := R.rng (l + (i / H : Nat)) (t + (i % H : Nat))
      generalize hc : f (l + (i / H : Nat)) (t + (i % H : Nat)) = c at h r
      rw [List.length_cons] at r
      obtain ⟨k, rfl⟩ : ∃ k : Nat, c = (k : Int) + 1 := ⟨(c - 1).toNat, by omega⟩
      cases k with
      | zero => left; rw [hal, hc]; rfl
      | succ k =>
        have hk : k < tl.length := by omega
        refine .inr ⟨tl[k], List.getElem_mem hk, ?_⟩
        rw [R.bit (k + 1) tl[k] (by simp [hk]) i, hc]
        exact decide_eq_true rfl
  -- at a place within
  have sty : ∀ i, (alive &&& withC (2 ^ (W * H) - 1) (counts alive H) (stays.map (· + 1))).testBit i = decide (f (l + (i / H : Nat)) (t + (i % H : Nat)) = 1 ∧ nb f (l + (i / H : Nat)) (t + (i % H : Nat)) ∈ stays) := fun i => by
    rw [Nat.testBit_and, hal]
    by_cases z : f (l + (i / H : Nat)) (t + (i % H : Nat)) = 1
    · have hi := inb i (by rw [z]; decide)
      rw [withC_bit hi (fun c hc => by obtain ⟨d, h1, h2⟩ := List.mem_map.mp hc; have := hst d h1; omega), cnt]
      have hl : liv f (l + (i / H : Nat)) (t + (i % H : Nat)) = 1 := by unfold liv; rw [if_pos z]
      rw [hl, decide_eq_true z, Bool.true_and]
      refine decide_eq_decide.mpr ⟨fun h => ⟨z, ?_⟩, fun h => List.mem_map.mpr ⟨_, h.2, rfl⟩⟩
      obtain ⟨d, h1, h2⟩ := List.mem_map.mp h
      have : d = nb f (l + (i / H : Nat)) (t + (i % H : Nat)) := by omega
      rw [← this]; exact h1
    · rw [decide_eq_false z, Bool.false_and, decide_eq_false (fun h => z h.1)]
  have brn : ∀ i, (withC (2 ^ (W * H) - 1) (counts alive H) births &&& ((2 ^ (W * H) - 1) ^^^ orAll tl alive)).testBit i = decide (f (l + (i / H : Nat)) (t + (i % H : Nat)) = 0 ∧ nb f (l + (i / H : Nat)) (t + (i % H : Nat)) ∈ births) := fun i => by
    rw [Nat.testBit_and, Nat.testBit_xor, tak, whole_bit]
    by_cases z : f (l + (i / H : Nat)) (t + (i % H : Nat)) = 0
    · have hl := liv_zero z
      rw [decide_eq_false (show ¬ (f (l + (i / H : Nat)) (t + (i % H : Nat)) ≠ 0) from fun h => h z), Bool.xor_false]
      by_cases hi : i < W * H
      · rw [withC_bit hi (fun c hc => by have := hb c hc; omega), cnt, hl, Nat.add_zero, decide_eq_true hi, Bool.and_true]
        exact decide_eq_decide.mpr ⟨fun h => ⟨z, h⟩, fun h => h.2⟩
      · rw [decide_eq_false hi, Bool.and_false, eq_comm, decide_eq_false_iff_not]
        rintro ⟨_, h⟩
        have : next births stays states f (l + (i / H : Nat)) (t + (i % H : Nat)) ≠ 0 := by
          unfold next nextS
          rw [if_pos z, if_pos h]; decide
        have q := (ssup _ _ this).2.1
        have hu : i / H < W := by omega
        exact hi ((Nat.div_lt_iff_lt_mul hH).mp hu)
    · rw [decide_eq_false (fun h : _ ∧ _ => z h.1), decide_eq_true (show f (l + (i / H : Nat)) (t + (i % H : Nat)) ≠ 0 from z)]
      have hi := inb i z
      rw [decide_eq_true hi]
      simp
  refine ⟨ssup, ?_, ?_⟩
  · intro k p hk i
    unfold advP at hk
    simp only [List.headD_cons, List.tail_cons] at hk
    rw [List.getElem?_take] at hk
    split at hk
    · rename_i hks
      unfold next nextS
      generalize hc : f (l + (i / H : Nat)) (t + (i % H : Nat)) = c
      have sti := sty i
      have bri := brn i
      have ali := hal i
      rw [hc] at sti bri ali
      match k with
      | 0 =>
        simp only [List.getElem?_cons_zero, Option.some.injEq] at hk
        subst hk
        rw [Nat.testBit_or, sti, bri]
        by_cases c0 : c = 0
        · subst c0
          simp only [if_pos]
          by_cases hm : nb f (l + (i / H : Nat)) (t + (i % H : Nat)) ∈ births <;> simp [hm]
        · rw [if_neg c0, decide_eq_false (fun h : _ ∧ _ => c0 h.1), Bool.or_false]
          by_cases hx : c = 1 ∧ nb f (l + (i / H : Nat)) (t + (i % H : Nat)) ∈ stays
          · rw [if_pos hx, decide_eq_true hx]; rfl
          · rw [if_neg hx, decide_eq_false hx]
            symm
            rw [decide_eq_false_iff_not]
            have := (R.rng (l + (i / H : Nat)) (t + (i % H : Nat))).1
            rw [hc] at this
            split <;> omega
      | 1 =>
        simp only [List.getElem?_cons_succ, List.getElem?_cons_zero, Option.some.injEq] at hk
        subst hk
        rw [Nat.testBit_xor, sti, ali]
        have hst2 : (2 : Int) < states := by omega
        have := (R.rng (l + (i / H : Nat)) (t + (i % H : Nat))).1
        rw [hc] at this
        by_cases c0 : c = 0
        · subst c0
          rw [if_pos rfl, decide_eq_false (fun h : (0 : Int) = 1 ∧ _ => absurd h.1 (by decide)), decide_eq_false (show ¬ ((0 : Int) = 1) by decide), Bool.xor_false]
          symm
          rw [decide_eq_false_iff_not]
          split <;> omega
        · rw [if_neg c0]
          by_cases hx : c = 1 ∧ nb f (l + (i / H : Nat)) (t + (i % H : Nat)) ∈ stays
          · rw [if_pos hx, decide_eq_true hx, decide_eq_true hx.1]; rfl
          · rw [if_neg hx, decide_eq_false hx, Bool.xor_false]
            refine decide_eq_decide.mpr ⟨fun h => ?_, fun h => ?_⟩
            · subst h; rw [if_pos (by omega)]; rfl
            · split at h <;> omega
      | k + 2 =>
        simp only [List.getElem?_cons_succ] at hk
        have := R.bit (k + 1) p (by simpa using hk) i
        rw [hc] at this
        rw [this]
        have r := (R.rng (l + (i / H : Nat)) (t + (i % H : Nat))).1
        rw [hc] at r
        by_cases c0 : c = 0
        · subst c0
          simp only [if_pos]
          rw [decide_eq_false (by omega)]
          symm
          rw [decide_eq_false_iff_not]
          split <;> omega
        · rw [if_neg c0]
          by_cases hx : c = 1 ∧ nb f (l + (i / H : Nat)) (t + (i % H : Nat)) ∈ stays
          · rw [if_pos hx, decide_eq_false (by omega), decide_eq_false (by omega)]
          · rw [if_neg hx]
            refine decide_eq_decide.mpr ⟨fun h => ?_, fun h => ?_⟩
            · rw [if_pos (by omega)]; omega
            · split at h <;> omega
    · cases hk
  · intro x y
    unfold advP
    simp only [List.headD_cons, List.tail_cons, List.length_take, List.length_cons]
    have r := R.rng x y
    rw [List.length_cons] at r
    unfold next nextS
    split
    · split <;> omega
    · split
      · omega
      · split <;> omega
end
end MB
/-! f'{n:b}' of a number from nought, and the ones in that text -/
namespace Z
open PySem PySem.Spec PyProof.Rows L2
open Evl (Ex)
open MB (binL)
/-- a number's figures in twos, the greatest first -/
def binS (n : Nat) : Str := ⟨(binL n).toArray⟩
def specB : Str := "b"
theorem cut_int {P : Program} {w : World} {A : Around} {E : Value → Shared → Prop} {s : Shared} {n : Nat} {a : Int} {t : Tok} {Q : String → Shared → Prop} (h : Q "int" s) : wpAny (model P w) A (typeNameOfCut n (.int a t)) Q E s :=
  wpAny_typeNameOfCut_int h
theorem parseB (name : String) : Builtin.Float.parseFormatSpec specB.cps.toList name 62 = .ok { align := 62, type := some 98 } := by
  rfl
section
open Builtin Builtin.Int
theorem gives_cut {a : Int} {t : Tok} {n : Nat} {k : String → Sem Fin} {m : Made} (g : ∀ x, Gives (k x) m) : Gives (do let x ← typeNameOfCut n (.int a t); k x) m :=
  fun _ _ _ _ _ hq => wpAny_bind (cut_int (g _ _ _ _ _ _ hq))
theorem tyne : (Value.type "str" == Value.type "builtin_function_or_method") = false := by decide +kernel
def digsB (n : Nat) : List Nat := (Nat.toDigits 2 n).map fun c => (if (98 : Nat) == 88 then c.toUpper else c).toNat
theorem field_bin (n : Nat) : intField' { align := 62, type := some 98 } (decide ((n : Int) < 0)) [] (digsB n) [] 4 = binS n := by
  have e : decide ((n : Int) < 0) = false := decide_eq_false (by omega)
  have hd : digsB n = binL n := rfl
  rw [e, hd]
  unfold intField' binS
  simp
theorem gives_bin (n : Nat) (t u : Tok) : Gives («int.__format__» ⟨[.int (n : Int) t, .str specB u], []⟩) (.str (binS n)) := by
  unfold «int.__format__»
  simp only [selfAndOne, noKeywords, intOfSelf, asInt?, asStr?, List.isEmpty_nil, if_true, pure_bind, bind_pure, bind_assoc]
  have h1 : (Value.str specB u == Value.none) = false := rfl
  have h2 : (specB.length == 0) = false := by decide
  have h3 : (((List.drop 1 specB.cps.toList).any fun x => decide (x ≥ 128)) || decide (specB.cps.getD 0 0 ≥ 128) && ![60, 62, 61, 94].contains (specB.cps.getD 1 0)) = false := by decide
  have h4 : (some 98).getD (if (specB.cps.back? == some 0) = true then 0 else 100) = 98 := rfl
  simp (decide := true) only [h1, h2, h3, parseB, Bool.false_eq_true, if_false, h4, if_true]
  have ty : ∀ s : Shared, s.TypeIs (Value.str specB u) "str" := fun s => typeIs_str s _ _
  refine gives_after_typeNameOf (v := Value.str specB u) ty tyne fun _ => ?_
  refine gives_cut (a := (n : Int)) (t := t) (n := 200) fun _ => ?_
  show Gives (retStr (intField' { align := 62, type := some 98 } (decide ((n : Int) < 0)) [] (digsB n) [] 4)) _
  rw [field_bin]
  exact .of_eq rfl
end
/-- f'{e:b}' of a number from nought -/
def tFmtB (te : TE) : TE := fun σ H Q => te σ H fun x H1 => ∃ n : Nat, x = .int (n : Int) ∧ (binS n).length ≤ sizeLine ∧ Q (.str (binS n)) H1
theorem pe_fmtB {X : Cx} {e sp : Expr} {te : TE} {pos : Pos} (he : PE X e te) (hs : PE X sp (tC (.str specB))) : PE X (.FormattedValue e (-1) (some sp) pos) (tFmtB te) := by
  refine ⟨fun pins s σ H Q I h => ?_⟩
  refine wpAny_FormattedValue_spec (thn (he.run pins s σ H _ I h) fun v s1 hv => ?_)
  obtain ⟨x, H1, I1, r1, n, rfl, hz, q⟩ := hv
  obtain ⟨t, rfl⟩ := r1
  refine thn (hs.run pins s1 σ H1 (fun y H2 => y = .str specB ∧ Q (.str (binS n)) H2) I1 ⟨rfl, q⟩) fun r s2 hr => ?_
  obtain ⟨y, H2, I2, r2, rfl, q2⟩ := hr
  obtain ⟨t2, rfl⟩ := r2
  exact ⟨specB, t2, rfl, wpAny_formatField_spec (by decide) (fun s' => typeIs_int s' _ _) PySem.F.slot_int_format PySem.F.entry_int_format PySem.F.args_int_format_2 (fun u => gives_bin n _ u) ⟨.str (binS n), H2, I2.tok _, ⟨_, rfl⟩, q2⟩ (by decide) hz⟩
section
variable {K : Fg} {E : L2.St → XK} {te : TE} {tA : TA} {S : Zs} {M : Ms} {Q : QZ} {X : XZ}
theorem zw_fmtB (h : ZW K E te S M (fun z M1 => ∃ n : Nat, z = .d (.int (n : Int)) ∧ (binS n).length ≤ sizeLine ∧ Q (.d (.str (binS n))) M1) X) : ZW K E (tFmtB te) S M Q X := fun n σ G H R Qv k kx =>
  h n σ G H R _ (fun v G1 H1 z M1 e1 R1 a1 ⟨m, hz, hl, q⟩ => by
    subst hz
    exact ⟨m, dp_int a1, hl, k _ G1 H1 (.d (.str (binS m))) M1 e1 R1 (.str _) q⟩) kx
end
/-! ### numbers from nought, bit by bit -/
theorem band_nat (a b : Nat) : Builtin.bitAnd (a : Int) (b : Int) = ((a &&& b : Nat) : Int) := PySem.W.os_band a b
theorem bor_nat (a b : Nat) : Builtin.bitOr (a : Int) (b : Int) = ((a ||| b : Nat) : Int) := by
  rw [bitOr_nn (Int.natCast_nonneg a) (Int.natCast_nonneg b), Int.toNat_natCast, Int.toNat_natCast]
end Z
/-! numbers from nought, bit by bit; divmod; find and count of one sign; row[i] |= e; a list's sum; lists joined -/
namespace Z
open PySem PySem.Spec PyProof.Rows L2
open Evl (Ex)
open MB (binL)
theorem bxor_nat (a b : Nat) : Builtin.bitXor (a : Int) (b : Int) = ((a ^^^ b : Nat) : Int) := by
  show Builtin.bitOr (a : Int) (b : Int) - Builtin.bitAnd (a : Int) (b : Int) = _
  rw [bor_nat, band_nat, MB.or_parts]
  omega
theorem shl_nat (a k : Nat) : (a : Int) * 2 ^ ((k : Int).toNat) = ((a <<< k : Nat) : Int) := by
  rw [Int.toNat_natCast, Nat.shiftLeft_eq]
  simp
theorem shr_nat (a k : Nat) : (a : Int) / 2 ^ ((k : Int).toNat) = ((a >>> k : Nat) : Int) := by
  rw [Int.toNat_natCast, Nat.shiftRight_eq_div_pow]
  simp
theorem shl_fits {a k n : Nat} (h : a < 2 ^ n) (hn : n + k ≤ 134217728) : CShl (a : Int) (k : Int) := shl_ok (n := n) (by rw [Int.natAbs_natCast]; exact h) hn
theorem divp_small {i j : Int} (hj : 0 < j) (hi : i.natAbs < 2 ^ 4000) : CDivP i j := divp_ok hj (Nat.le_trans (PyProof.Rows.intBits_le hi) (Nat.le_add_left _ _))
theorem ip_or {X : Cx} : PIp X .BitOr (ipI fun i j => Builtin.bitOr i j) := fun pins s σ H x y v u Q I r1 r2 h => iop_or pins s σ H x y v u Q I r1 r2 h
abbrev rGetL (K : Fg) : V → V → Hp → VK → Prop := fun o i H Q => ∃ p xs k x, o = .ref p ∧ i = .int ((k : Nat) : Int) ∧ SqL K H p xs ∧ xs[k]? = some x ∧ Q x H
theorem get_list {X : Cx} : PGet X (rGetL X.K) := by
  intro pins s σ H o i ov iv Q I ro ri h
  obtain ⟨p, xs, k, x, rfl, rfl, hq, hx, q⟩ := h
  cases ro
  obtain ⟨t, rfl⟩ := ri
  obtain ⟨its, r, pl, hz⟩ := I.list hq
  obtain ⟨w, ew, rw'⟩ := r.get hx
  have hk := (List.getElem?_eq_some_iff.mp hx).1
  have hn := line63
  exact getItem_listL pl.isList (Int.natCast_nonneg _) (by omega) (by rw [Int.toNat_natCast]; exact ew) ⟨x, H, I, rw', q⟩
abbrev rDivm : List V → Hp → VK → Prop := fun xs H Q => ∃ i j, xs = [.int i, .int j] ∧ CDivP i j ∧ ∀ p, H p = none → Q (.ref p) (upd H p (.tup [.int (i / j), .int (i % j)]))
abbrev rStr1 (f : Str → Str → Int) : V → List V → Hp → VK → Prop := fun x xs H Q => ∃ a b, x = .str a ∧ xs = [.str b] ∧ Q (.int (f a b)) H
abbrev rStr2 (f : Str → Str → Int → Int) : V → List V → Hp → VK → Prop := fun x xs H Q => ∃ a b i, x = .str a ∧ xs = [.str b, .int i] ∧ Q (.int (f a b i)) H
theorem bb_divmod : bootBuiltins "divmod" = some (.builtin "divmod") := by decide +kernel
section
variable {K : Fg} {E : L2.St → XK} {te to ti : TE} {tA : TA} {t : TS} {S : Zs} {M M' : Ms} {Q : QZ} {X : XZ} {P : ZP} {n : Sn} {σ : L2.St} {G H : Hp}
theorem zo_band {a b : Nat} (q : Q (.d (.int ((a &&& b : Nat) : Int))) M) : ZO K (rI0 fun i j => .int (Builtin.bitAnd i j)) (.d (.int (a : Int))) (.d (.int (b : Int))) M Q := zo_I0 (gd := fun i j => .int (Builtin.bitAnd i j)) (fun _ => .int _) (by rw [band_nat]; exact q)
theorem zo_bor {a b : Nat} (q : Q (.d (.int ((a ||| b : Nat) : Int))) M) : ZO K (rI0 fun i j => .int (Builtin.bitOr i j)) (.d (.int (a : Int))) (.d (.int (b : Int))) M Q := zo_I0 (gd := fun i j => .int (Builtin.bitOr i j)) (fun _ => .int _) (by rw [bor_nat]; exact q)
theorem zo_bxor {a b : Nat} (q : Q (.d (.int ((a ^^^ b : Nat) : Int))) M) : ZO K (rI0 fun i j => .int (Builtin.bitXor i j)) (.d (.int (a : Int))) (.d (.int (b : Int))) M Q := zo_I0 (gd := fun i j => .int (Builtin.bitXor i j)) (fun _ => .int _) (by rw [bxor_nat]; exact q)
theorem zo_shlN {a k : Nat} (hc : CShl (a : Int) (k : Int)) (q : Q (.d (.int ((a <<< k : Nat) : Int))) M) : ZO K (rI CShl fun i j => .int (i * 2 ^ j.toNat)) (.d (.int (a : Int))) (.d (.int (k : Int))) M Q := zo_I (gd := fun i j => .int (i * 2 ^ j.toNat)) (fun _ => .int _) hc (by rw [shl_nat]; exact q)
theorem zo_shrN {a k : Nat} (q : Q (.d (.int ((a >>> k : Nat) : Int))) M) : ZO K (rI (fun _ j => 0 ≤ j) fun i j => .int (i / 2 ^ j.toNat)) (.d (.int (a : Int))) (.d (.int (k : Int))) M Q := zo_I (C := fun _ j => 0 ≤ j) (gd := fun i j => .int (i / 2 ^ j.toNat)) (fun _ => .int _) (Int.natCast_nonneg k) (by rw [shr_nat]; exact q)
theorem zc_divmod {i j : Int} (hc : CDivP i j) (q : Q (.d (.tuple [.int (i / j), .int (i % j)])) M) : ZC K rDivm [.d (.int i), .d (.int j)] M Q := fun n S σ G H R vs a Qv k => by
  obtain ⟨v, u, rfl, av, au⟩ := zall2 a
  refine ⟨i, j, by rw [dp_int av, dp_int au], hc, fun p hp => ?_⟩
  have g := ex_gnone R.ex hp
  exact k (.ref p) _ _ (.d (.tuple [.int (i / j), .int (i % j)])) M (Ex.new g) (R.new hp (fun _ z => nomatch z)) (.tup (.inl upd_same) (.cons (.int _) (.cons (.int _) .nil))) q
/-- a text's method -/
theorem zw_bmS {r : V → List V → Hp → VK → Prop} (h : ZW K E to S M (fun z M0 => ∃ s, z = .d (.str s) ∧ ZA K E tA S M0 (fun zs M1 => ZM K r (.d (.str s)) zs M1 Q) X) X) : ZW K E (tBM K "str" r to tA) S M Q X := fun n σ G H R Qv k kx =>
  h n σ G H R _ (fun v G0 H0 z M0 e0 R0 a0 ⟨s, hz, h2⟩ => by
    subst hz
    have ev := dp_str a0
    subst ev
    refine ⟨rfl, h2 n σ G0 H0 R0 _ (fun vs G1 H1 zs M1 e1 R1 a1 h3 => ?_) (kx.mono e0)⟩
    exact h3 n S σ G1 H1 R1 (.str s) vs (.str s) a1 Qv fun w G' H' z M' e' R' a' q => k w G' H' z M' ((e0.trans e1).trans e') R' a' q) kx
theorem zm_str1 {f : Str → Str → Int} {a b : Str} (q : Q (.d (.int (f a b))) M) : ZM K (rStr1 f) (.d (.str a)) [.d (.str b)] M Q := fun n S σ G H R v vs av au Qv k => by
  obtain ⟨u, rfl, au2⟩ := zall1 au
  exact ⟨a, b, dp_str av, by rw [dp_str au2], k _ G H (.d (.int (f a b))) M (Ex.refl G) R (.int _) q⟩
theorem zm_str2 {f : Str → Str → Int → Int} {a b : Str} {i : Int} (q : Q (.d (.int (f a b i))) M) : ZM K (rStr2 f) (.d (.str a)) [.d (.str b), .d (.int i)] M Q := fun n S σ G H R v vs av au Qv k => by
  obtain ⟨u, w, rfl, au2, aw⟩ := zall2 au
  exact ⟨a, b, i, dp_str av, by rw [dp_str au2, dp_int aw], k _ G H (.d (.int (f a b i))) M (Ex.refl G) R (.int _) q⟩
/-- x |= e -/
theorem zs_augOr {i a : Nat} (hs : S[i]? = some (some (.d (.int (a : Int))))) (h : ZW K E te S M (fun z M1 => ∃ b : Nat, z = .d (.int (b : Int)) ∧ P.nx (S.set i (some (.d (.int ((a ||| b : Nat) : Int))))) M1) P.ex) : ZS K E (tAug i te (ipI fun i j => Builtin.bitOr i j)) S M P :=
  zs_aug hs (fun n σ G H R Qv k kx => h n σ G H R Qv (fun v G' H' z M' e R' a' ⟨b, hz, q⟩ => k v G' H' z M' e R' a' ⟨b, hz, by rw [bor_nat]; exact q⟩) kx)
/-- row[i] op= e, an own list of numbers -/
theorem zs_augL {f : Int → Int → Int} (h : ZW K E to S M (fun o M1 => ZW K E ti S M1 (fun y M2 => ∃ p b xs k a, o = .c p ∧ y = .d (.int ((k : Nat) : Int)) ∧ (p, b, CD.lst xs) ∈ M2 ∧ xs[k]? = some (PyData.int a) ∧ ZW K E te S M2 (fun z M3 => ∃ j b' ys M4, z = .d (.int j) ∧ Upd1 p b' (.lst ys) (.lst (ys.set k (.int (f a j)))) M3 M4 ∧ k < ys.length ∧ P.nx S M4) P.ex) P.ex) P.ex) :
    ZS K E (tAugS to ti te (rGetL K) (ipI f) rSetL) S M P := fun n σ G H R D k =>
  h n σ G H R _ (fun v G1 H1 o M1 e1 R1 a1 h1 => h1 n σ G1 H1 R1 _ (fun u G2 H2 y M2 e2 R2 a2 ⟨p, b, xs, kk, a, ho, hy, hm, hx, h2⟩ => by
    subst ho hy
    have ev : v = .ref p := a1
    subst ev
    have eu := dp_int a2
    subst eu
    obtain ⟨_, ws, h3, h4⟩ := R2.ce p b _ hm
    obtain ⟨x, hx1, hx2⟩ := dpa_get h4 hx
    refine ⟨p, ws, kk, x, rfl, rfl, Evl.sq_of h3, hx1, ?_⟩
    refine h2 n σ G2 H2 R2 _ (fun w G3 H3 z M3 e3 R3 a3 ⟨j, b', ys, M4, hz, hu, hl, q⟩ => ?_) (XOk.mono k.xok (e1.trans e2))
    subst hz
    obtain ⟨_, ws3, h5, h6⟩ := R3.ce p b' _ hu.mem
    refine ⟨a, j, dp_int hx2, dp_int a3, p, ws3, (kk : Int), kk, rfl, rfl, h5, ?_, ?_⟩
    · unfold ixN
      rw [dpa_len h6, if_pos (Int.natCast_nonneg _), if_pos (by omega), Int.toNat_natCast]
    · exact k.nx _ G3 _ S M4 ((e1.trans e2).trans e3) (R3.putLst hu (dpa_set (.int _) kk h6)) q) (XOk.mono k.xok e1)) k.xok
theorem zc_sum {ns : List Int} (q : Q (.d (.int ns.sum)) M) : ZC K (rSum K) [.d (.list (ns.map .int))] M Q := zc_val (z := .d (.int ns.sum)) (fun G H vs e a => by
  obtain ⟨v, rfl, av⟩ := zall1 a
  obtain ⟨p, ws, rfl, h1, h2⟩ := dp_lst av
  exact ⟨_, .int _, fun Qv h => ⟨p, ns, rfl, by rw [← dza_ints h2]; exact Evl.ex_l e h1, h⟩⟩) q
/-- a list's part as an own list -/
theorem zw_slC {tl th : TO} (h : ZW K E te S M (fun z M1 => ZPt K E tl S M1 (fun lo M2 => ZPt K E th S M2 (fun hi M3 => ∃ ds, z = .d (.list ds) ∧ ∀ p, Q (.c p) ((p, true, .lst (cutD ds lo hi)) :: M3)) X) X) X) : ZW K E (tSl (rSlAny K) te tl th) S M Q X := fun n σ G H R Qv k kx =>
  h n σ G H R _ (fun v G1 H1 z M1 e1 R1 a1 h1 => h1 n σ G1 H1 R1 _ (fun lo G2 H2 M2 e2 R2 h2 => h2 n σ G2 H2 R2 _ (fun hi G3 H3 M3 e3 R3 ⟨ds, hz, q⟩ => by
    subst hz
    have a3 : Dz K G3 v (.list ds) := dp_mono (e2.trans e3) a1
    obtain ⟨p, vs, rfl, h1, h2⟩ := dp_lst a3
    exact .inl ⟨p, vs, rfl, Evl.ex_l R3.ex h1, fun r hr => k (.ref r) _ _ (.c r) _ ((e1.trans e2).trans e3) (R3.newLst hr (dpa_cut lo hi h2)) rfl (q r)⟩) (kx.mono (e1.trans e2))) (kx.mono e1)) kx
end
end Z
/-! own cells seen anew, frozen within a field; fields as targets; an object with one own part -/
namespace Z
open PySem PySem.Spec PyProof.Rows L2
open Evl (Ex)
section
variable {K : Fg} {n : Sn} {S S' : Zs} {M M' M1 M2 : Ms} {σ σ' : L2.St} {G G' H H' : Hp} {p q C : Addr} {b : Bool} {c c' : CD}
/-- a cell's content said otherwise -/
theorem Rel.recast (R : Rel K n S M σ G H) (u : Upd1 p b c c' M M') (hc : CD.at K G H p c') : Rel K n S M' σ G H where
  ex := R.ex
  len := R.len
  sl := R.sl
  nd := by rw [u.fst]; exact R.nd
  ce := fun q b' e h => by
    rcases u.of R.nd q b' e h with ⟨rfl, rfl, rfl⟩ | ⟨_, z⟩
    · exact ⟨(R.ce _ _ _ u.mem).1, hc⟩
    · exact R.ce q b' e z
  g0 := R.g0
  h0 := R.h0
  lv := R.lv
  f0 := R.f0
  a0 := fun q e h => by
    rcases u.of R.nd q false e h with ⟨rfl, z, _⟩ | ⟨_, z⟩
    · subst z; exact R.a0 _ _ u.mem
    · exact R.a0 q e z
  o0 := fun q e h => by
    rcases u.of R.nd q true e h with ⟨rfl, z, _⟩ | ⟨_, z⟩
    · subst z; exact R.o0 _ _ u.mem
    · exact R.o0 q e z
theorem Rel.perm (R : Rel K n S M σ G H) (h : M.Perm M') : Rel K n S M' σ G H :=
  ⟨R.ex, R.len, R.sl, (h.map _).nodup_iff.mp R.nd, fun p b c q => R.ce p b c (h.mem_iff.mpr q), R.g0, R.h0, R.lv, R.f0, fun p c q => R.a0 p c (h.mem_iff.mpr q), fun p c q => R.o0 p c (h.mem_iff.mpr q)⟩
theorem Rem1.other {x y : CD} {b2 : Bool} (u : Rem1 q true x M M1) (h : (p, b2, y) ∈ M1) : (p, b2, y) ∈ M := u.sub.subset h
/-- an own dict that nobody will write any more -/
theorem Rel.frzD {kvs : List (List Key × PyData)} (R : Rel K n S M σ G H) (u : Rem1 p true (.dT kvs) M M') : ∃ G', Ex G G' ∧ Rel K n S M' σ G' H ∧ ZV.at K G' (.ref p) (.f kvs) := by
  obtain ⟨hg, ws, h1, h2⟩ := R.ce p true _ u.mem
  refine ⟨upd G p (.dT ws), Ex.new hg, ⟨fun a o' h => ?_, R.len, fun i z e => ?_, R.nd.sublist (u.sub.map _), fun q b c h => ?_, R.g0.trans (Ex.new hg), R.h0, R.lv, fun a o' q1 q2 => ?_, fun q c h => R.a0 q c (u.sub.subset h), fun q c h => R.o0 q c (u.sub.subset h)⟩, ?_⟩
  · by_cases z : a = p
    · subst z
      rw [upd_same] at h
      rw [h1]; exact h
    · rw [upd_ne z] at h
      exact R.ex a o' h
  · obtain ⟨v, q1, q2⟩ := R.sl i z e
    exact ⟨v, q1, ZV.mono (Ex.new hg) q2⟩
  · obtain ⟨q1, q2⟩ := R.ce q b c (u.sub.subset h)
    have z := u.ne R.nd _ h
    refine ⟨by rw [upd_ne z]; exact q1, CD.stay q2 (Ex.new hg) (fun o' h => h) fun a x h => ⟨h, fun g => ?_⟩⟩
    rw [upd_ne (fun z => by rw [z, h1] at h; cases h)]
    exact g
  · have z : a ≠ p := fun z => by rw [z, R.o0 _ _ u.mem] at q1; cases q1
    rw [upd_ne z]
    exact R.f0 a o' q1 q2
  · exact ⟨p, ws, rfl, upd_same, paired_mono (fun a b q => ⟨q.1, dp_mono (Ex.new hg) q.2⟩) h2⟩
theorem lookup_at {f : Str} {fv : List (Str × V)} {fs : List (Str × ZV)} (h : Paired (fun (a : Str × V) (b : Str × ZV) => a.1 = b.1 ∧ ZV.at K G a.2 b.2) fv fs) {z : ZV} (hl : fs.lookup f = some z) : ∃ v, fv.lookup f = some v ∧ ZV.at K G v z := (lookup_paired h f).2 z hl
/-- what a field holds, said otherwise -/
theorem refield {f : Str} {z : ZV} {v : V} (a : ZV.at K G v z) : ∀ {fv : List (Str × V)} {fs : List (Str × ZV)}, Paired (fun (a : Str × V) (b : Str × ZV) => a.1 = b.1 ∧ ZV.at K G a.2 b.2) fv fs → fv.lookup f = some v → Paired (fun (a : Str × V) (b : Str × ZV) => a.1 = b.1 ∧ ZV.at K G a.2 b.2) fv (putZ f z fs)
  | _, _, .nil, h => by cases h
  | (x, u) :: fv, (y, w) :: fs, .cons q t, h => by
    obtain ⟨q1, q2⟩ := q
    dsimp only at q1 q2
    subst q1
    unfold putZ
    rw [List.lookup_cons] at h
    by_cases e : (f == x) = true
    · rw [e] at h
      have e2 : f = x := by simpa using e
      cases h
      rw [if_pos (by first | exact e | exact e2 | simpa using e2.symm | simpa using e2)]
      exact .cons ⟨by first | rfl | exact e2.symm | exact e2, a⟩ t
    · have e0 : (f == x) = false := by simpa using e
      rw [e0] at h
      have ne : ¬ f = x := by simpa using e0
      rw [if_neg (by first | exact e | exact ne | (intro z; exact ne (by simpa using z)) | (intro z; exact ne (by simpa using z.symm)))]
      exact .cons ⟨rfl, q2⟩ (refield a t h)
/-- a field's own list, own dict: nobody will write it any more -/
theorem Rel.frzFL {f : Str} {fs : List (Str × ZV)} {xs : List PyData} (R : Rel K n S M σ G H) (hr : Rem1 q true (.lst xs) M M1) (hl : fs.lookup f = some (.c q)) (hu : Upd1 p b (.obj C fs) (.obj C (putZ f (.d (.list xs)) fs)) M1 M2) : ∃ G', Ex G G' ∧ Rel K n S M2 σ G' H := by
  obtain ⟨G', e, R', d⟩ := R.frz hr
  obtain ⟨_, dx, fv, h1, h2, h3, h4⟩ := R'.ce p b _ hu.mem
  obtain ⟨v, l1, l2⟩ := lookup_at h4 hl
  have l2 : v = .ref q := l2
  subst l2
  exact ⟨G', e, R'.recast hu ⟨dx, fv, h1, h2, h3, refield (z := .d (.list xs)) d h4 l1⟩⟩
theorem Rel.frzFD {f : Str} {fs : List (Str × ZV)} {kvs : List (List Key × PyData)} (R : Rel K n S M σ G H) (hr : Rem1 q true (.dT kvs) M M1) (hl : fs.lookup f = some (.c q)) (hu : Upd1 p b (.obj C fs) (.obj C (putZ f (.f kvs) fs)) M1 M2) : ∃ G', Ex G G' ∧ Rel K n S M2 σ G' H := by
  obtain ⟨G', e, R', d⟩ := R.frzD hr
  obtain ⟨_, dx, fv, h1, h2, h3, h4⟩ := R'.ce p b _ hu.mem
  obtain ⟨v, l1, l2⟩ := lookup_at h4 hl
  have l2 : v = .ref q := l2
  subst l2
  exact ⟨G', e, R'.recast hu ⟨dx, fv, h1, h2, h3, refield (z := .f kvs) d h4 l1⟩⟩
end
section
variable {K : Fg} {E : L2.St → XK} {e0 : XK} {te to : TE} {tA : TA} {t : TS} {S S' : Zs} {M M' M1 M2 : Ms} {Q : QZ} {X : XZ} {P : ZP} {n : Sn} {σ σ' : L2.St} {G G' H H' : Hp} {p q C : Addr} {b : Bool}
theorem zs_frzL {N : Zs → Ms → Prop} (h : ZS K E t S M { P with nx := N }) (hi : ∀ S' M', N S' M' → ∃ q xs M1 p b C fs f M2, Rem1 q true (.lst xs) M' M1 ∧ fs.lookup f = some (.c q) ∧ Upd1 p b (.obj C fs) (.obj C (putZ f (.d (.list xs)) fs)) M1 M2 ∧ P.nx S' M2) : ZS K E t S M P := fun n σ G H R D k =>
  h n σ G H R D ⟨fun σ' G' H' S' M' e R' z => by
    obtain ⟨q, xs, M1, p, b, C, fs, f, M2, h1, h2, h3, h4⟩ := hi S' M' z
    obtain ⟨G2, e2, R2⟩ := R'.frzFL h1 h2 h3
    exact k.nx σ' G2 H' S' M2 (e.trans e2) R2 h4, k.rt, k.bk, k.ct, k.ex⟩
theorem zs_frzD {N : Zs → Ms → Prop} (h : ZS K E t S M { P with nx := N }) (hi : ∀ S' M', N S' M' → ∃ q kvs M1 p b C fs f M2, Rem1 q true (.dT kvs) M' M1 ∧ fs.lookup f = some (.c q) ∧ Upd1 p b (.obj C fs) (.obj C (putZ f (.f kvs) fs)) M1 M2 ∧ P.nx S' M2) : ZS K E t S M P := fun n σ G H R D k =>
  h n σ G H R D ⟨fun σ' G' H' S' M' e R' z => by
    obtain ⟨q, xs, M1, p, b, C, fs, f, M2, h1, h2, h3, h4⟩ := hi S' M' z
    obtain ⟨G2, e2, R2⟩ := R'.frzFD h1 h2 h3
    exact k.nx σ' G2 H' S' M2 (e.trans e2) R2 h4, k.rt, k.bk, k.ct, k.ex⟩
/-! ### targets that may be fields -/
def ZH (K : Fg) (g : TG) (x : ZV) (S : Zs) (M : Ms) (N : Zs → Ms → Prop) : Prop := ∀ (n : Sn) (σ : L2.St) (G H : Hp) (v : V), Rel K n S M σ G H → ZV.at K G v x → ∀ Qv : L2.St → Hp → Prop,
  (∀ σ' G' H' S' M', Ex G G' → Rel K n S' M' σ' G' H' → N S' M' → Qv σ' H') → g v σ H Qv
def ZHs (K : Fg) (g : TGs) (xs : List PyData) (S : Zs) (M : Ms) (N : Zs → Ms → Prop) : Prop := ∀ (n : Sn) (σ : L2.St) (G H : Hp) (vs : List V), Rel K n S M σ G H → DzAll K G vs xs → ∀ Qv : L2.St → Hp → Prop,
  (∀ σ' G' H' S' M', Ex G G' → Rel K n S' M' σ' G' H' → N S' M' → Qv σ' H') → g vs σ H Qv
def gFld (K : Fg) (to : TE) (f : Str) : TG := fun v σ H Q => to σ H fun x H1 => ∃ a C dx fs, x = .ref a ∧ H1 a = some (.ins C dx fs) ∧ Cls K C ∧ NoAttr K C f ∧ fs.length < 1000 ∧ Q σ (upd H1 a (.ins C dx (putF f v fs)))
theorem pg_fld {Y : Cx} {o : Expr} {f : Str} {to : TE} {pos : Pos} (ho : PE Y o to)
    (ha : ∀ v, assign (.Attribute o f pos) Y.env v = (do let ov ← holding [v] (eval o Y.env); standAt pos.atName; holding [v, ov] (setAttr ov f v); release [v, ov] []) := by intro _; rfl) : PG Y (.Attribute o f pos) (gFld Y.K to f) := by
  refine ⟨fun pins s σ H v u Q I r h => ?_⟩
  rw [ha]
  refine wpAny_bind (wpAny_holding (thn (ho.run pins s σ H _ I h) fun ov s1 hv => ?_))
  obtain ⟨x, H1, I1, rx, a, C, dx, fs, ex, ea, c, na, l, q⟩ := hv
  subst ex
  obtain rfl : ov = Value.ref a := rx
  refine wpAny_bind (wpAny_standAt (wpAny_bind (wpAny_holding (setattr_ok I1 ea c na l r fun s3 I3 => ?_))))
  exact wpAny_release ⟨σ, _, I3, q⟩
theorem zh_name {i : Nat} {z : ZV} {N : Zs → Ms → Prop} (q : N (S.set i (some z)) M) : ZH K (gName i) z S M N := fun n σ G H v R a Qv k => k _ G H _ M (Ex.refl G) (R.set a) q
theorem zh_fld {i : Nat} {f : Str} {z : ZV} {fs : List (Str × ZV)} {N : Zs → Ms → Prop} (cl : Cls K C) (na : NoAttr K C f) (hs : S[i]? = some (some (.c p))) (hl : fs.length < 1000) (hu : Upd1 p b (.obj C fs) (.obj C (putZ f z fs)) M M') (q : N S M') : ZH K (gFld K (tVar i) f) z S M N := fun n σ G H v R a Qv k => by
  obtain ⟨w, h1, h2⟩ := R.sl i _ hs
  have ev : w = .ref p := h2
  subst ev
  obtain ⟨_, dx, fv, h3, h4, h5, h6⟩ := R.ce p b _ hu.mem
  exact ⟨_, h1, p, C, dx, fv, rfl, h3, cl, na, by rw [paired_len h6]; exact hl, k _ G _ S M' (Ex.refl G) (R.putObj hu h3 h4 h5 h6 a) q⟩
theorem zhs_nil {N : Zs → Ms → Prop} (q : N S M) : ZHs K gNil [] S M N := fun n σ G H vs R a Qv k => by
  cases a
  exact ⟨rfl, k _ G H S M (Ex.refl G) R q⟩
theorem zhs_cons {g : TG} {gs : TGs} {x : PyData} {xs : List PyData} {N : Zs → Ms → Prop} (h : ZH K g (.d x) S M (fun S1 M1 => ZHs K gs xs S1 M1 N)) : ZHs K (gCons g gs) (x :: xs) S M N := fun n σ G H vs R a Qv k => by
  cases a with
  | cons a1 a2 =>
    exact ⟨_, _, rfl, h n σ G H _ R a1 _ fun σ' G' H' S' M' e R' h2 => h2 n σ' G' H' _ R' (dpAll_mono e a2) Qv fun σ2 G2 H2 S2 M2 e2 R2 q => k σ2 G2 H2 S2 M2 (e.trans e2) R2 q⟩
theorem zh_tup {gs : TGs} {k : Nat} {xs : List PyData} {N : Zs → Ms → Prop} (hk : xs.length = k) (h : ZHs K gs xs S M N) : ZH K (gTup K k gs) (.d (.tuple xs)) S M N := fun n σ G H v R a Qv q => by
  obtain ⟨r, vs, rfl, h1, h2⟩ := dp_tup a
  exact ⟨r, vs, rfl, Evl.ex_t R.ex h1, by rw [dpa_len h2]; exact hk, h n σ G H vs R h2 Qv q⟩
theorem zg_lst {us : TGs} {k : Nat} {xs : List PyData} {is : List Nat} (hk : xs.length = k) (h : ZGs K us xs S is S') : ZG K (gLst K k us) (.d (.list xs)) S is S' := fun n M σ G H v R a Qv q => by
  obtain ⟨p, vs, rfl, h1, h2⟩ := dp_lst a
  exact ⟨p, vs, rfl, Evl.ex_l R.ex h1, by rw [dpa_len h2, hk], h n M σ G H vs R h2 Qv q⟩
theorem zh_lst {gs : TGs} {k : Nat} {xs : List PyData} {N : Zs → Ms → Prop} (hk : xs.length = k) (h : ZHs K gs xs S M N) : ZH K (gLst K k gs) (.d (.list xs)) S M N := fun n σ G H v R a Qv q => by
  obtain ⟨r, vs, rfl, h1, h2⟩ := dp_lst a
  exact ⟨r, vs, rfl, Evl.ex_l R.ex h1, by rw [dpa_len h2]; exact hk, h n σ G H vs R h2 Qv q⟩
theorem zs_asgH {g : TG} (h : ZW K E te S M (fun z M1 => ZH K g z S M1 P.nx) P.ex) : ZS K E (tAsg te g) S M P := fun n σ G H R D k =>
  h n σ G H R _ (fun v G1 H1 z M1 e1 R1 a1 h2 => h2 n σ G1 H1 v R1 a1 _ fun σ' G' H' S' M' e R' q => k.nx σ' G' H' S' M' (e1.trans e) R' q) k.xok
theorem zs_asgF {f : Str} {gs : TGs} {k : Nat} (h : ZW K E te S M (fun z M1 => ZH K (gTup K k (gCons (gFld K to f) gs)) z S M1 P.nx) P.ex) : ZS K E (tAsg te (gTup K k (gCons (gFld K to f) gs))) S M P := zs_asgH h
end
end Z
/-! an object with one own part, made by a def, changed by its methods -/
namespace Z
open PySem PySem.Spec PyProof.Rows L2
open Evl (Ex)
abbrev FsF := Addr → List (Str × ZV)
/-- two entries of the cells -/
def Two (x y : Addr × Bool × CD) (M : Ms) : Prop := [x, y].Sublist M ∨ [y, x].Sublist M
theorem Two.ne {x y : Addr × Bool × CD} {M : Ms} (h : Two x y M) (nd : (M.map (·.1)).Nodup) : x.1 ≠ y.1 ∧ x ∈ M ∧ y ∈ M := by
  rcases h with h | h
  · have := nd.sublist (h.map _)
    refine ⟨fun e => ?_, h.subset (by simp), h.subset (by simp)⟩
    rw [List.map_cons, List.nodup_cons] at this
    exact this.1 (by rw [e]; simp)
  · have := nd.sublist (h.map _)
    refine ⟨fun e => ?_, h.subset (by simp), h.subset (by simp)⟩
    rw [List.map_cons, List.nodup_cons] at this
    exact this.1 (by rw [← e]; simp)
/-- __init__: the object's fields, its own part -/
def spI (K : Fg) (C : Addr) (k : Nat) (R : List PyData → FsF → CD → Prop) : Sp := fun vs H Q E => ∃ (G : Hp) (p : Addr) (us : List V) (ds : List PyData) (fs : FsF) (cd : CD), vs = .ref p :: us ∧ ds.length = k ∧ Ex G H ∧ G p = none ∧ CD.at K G H p (.obj C []) ∧ DzAll K G us ds ∧ R ds fs cd ∧
  ∀ q G' H', Ext [p] G H G' H' → (∀ a x, H a = some (.own x) → H' a = some (.own x)) → H q = none → G' q = none → q ≠ p → CD.at K G' H' p (.obj C (fs q)) → CD.at K G' H' q cd → Q .non H'
/-- a method of such an object; nothing is raised -/
def spF (K : Fg) (C : Addr) (k : Nat) (R : FsF → CD → List PyData → PyData → FsF → CD → Prop) : Sp := fun vs H Q E => ∃ (G : Hp) (p q : Addr) (fs : FsF) (cd : CD) (us : List V) (ds : List PyData) (d : PyData) (fs' : FsF) (cd' : CD), vs = .ref p :: us ∧ ds.length = k ∧ Ex G H ∧ p ≠ q ∧ G p = none ∧ G q = none ∧ CD.at K G H p (.obj C (fs q)) ∧ CD.at K G H q cd ∧ DzAll K G us ds ∧ R fs cd ds d fs' cd' ∧
  ∀ v q' G' H', Ext [p, q] G H G' H' → (∀ a x, H a = some (.own x) → H' a = some (.own x)) → (q' = q ∨ H q' = none) → q' ≠ p → G' q' = none → CD.at K G' H' p (.obj C (fs' q')) → CD.at K G' H' q' cd' → Dz K G' v d → Q v H'
section
variable {K : Fg} {E : L2.St → XK} {e0 : XK} {te : TE} {tA : TA} {t : TS} {S : Zs} {M M2 : Ms} {Q : QZ} {X : XZ} {n : Sn} {σ : L2.St} {G G' H H' : Hp} {p q q' C : Addr}
def PFi (p C : Addr) (fs : FsF) (cd : CD) : ZP := ⟨fun _ M => ∃ q, Two (p, false, .obj C (fs q)) (q, true, cd) M, fun _ _ => False, fun _ _ => False, fun _ _ => False, fun _ _ _ => False⟩
def PFf (p C : Addr) (d : PyData) (fs : FsF) (cd : CD) : ZP := ⟨fun _ M => d = .none ∧ ∃ q b, Two (p, false, .obj C (fs q)) (q, b, cd) M, fun z M => z = .d d ∧ ∃ q b, Two (p, false, .obj C (fs q)) (q, b, cd) M, fun _ _ => False, fun _ _ => False, fun _ _ _ => False⟩
theorem own_obj {fs : List (Str × ZV)} (h : CD.at K G H p (.obj C fs)) : ∀ a x, H a = some (.own x) → a ≠ p := fun a x h1 z => by
  obtain ⟨dx, ws, h2, _⟩ := h
  rw [z, h2] at h1
  cases h1
theorem own_any {c : CD} (h : CD.at K G H p c) : ∀ a x, H a = some (.own x) → a ≠ p := fun a x h1 z => by
  obtain ⟨u, hu, hn⟩ := CD.there h
  rw [z, hu] at h1
  exact hn.1 x (Option.some.inj h1)
theorem fn_I {R : List PyData → FsF → CD → Prop} {kk : Nat} {N : List Str} {vs : List V} {Qv : VK} (h : spI K C kk R vs H Qv e0)
    (b : ∀ p ds fs cd, ds.length = kk → R ds fs cd → ZS K (fun _ => e0) t (some (.c p) :: (stS ds ++ List.replicate (N.length - (ds.length + 1)) none)) [(p, false, .obj C [])] (PFi p C fs cd)) : t { nx := fun _ H' => Qv .non H', rt := Qv } (L2.start N vs) H := by
  obtain ⟨G, p, us, ds, fs, cd, rfl, hkk, e, hp, hc, hd, hR, qq⟩ := h
  have hk : ∀ a x, H a = some (.own x) → a ∉ [p] := fun a x h1 z => own_obj hc a x h1 (by simpa using z)
  refine b p ds fs cd hkk hR ⟨G, H, [p]⟩ _ G H (rel_startC e hp hc hd) _ ⟨fun σ' G' H' S' M' _ R z => ?_, fun _ _ _ _ _ _ _ _ _ _ z => z.elim, fun _ _ _ _ _ _ _ z => z.elim, fun _ _ _ _ _ _ _ z => z.elim, fun _ _ _ _ _ _ _ _ _ _ _ z => z.elim⟩
  obtain ⟨q, h2⟩ := z
  obtain ⟨ne, m1, m2⟩ := h2.ne R.nd
  exact qq q G' H' R.ext (R.own hk) (R.o0 q _ m2) (R.ce _ _ _ m2).1 (Ne.symm ne) (R.ce _ _ _ m1).2 (R.ce _ _ _ m2).2
theorem rel_startF {N : List Str} {c d : CD} {vs : List V} {ds : List PyData} (e : Ex G H) (ne : p ≠ q) (hp : G p = none) (hq : G q = none) (hc : CD.at K G H p c) (hcq : CD.at K G H q d) (h : DzAll K G vs ds) :
    Rel K ⟨G, H, [p, q]⟩ (some (.c p) :: (stS ds ++ List.replicate (N.length - (ds.length + 1)) none)) [(p, false, c), (q, false, d)] (L2.start N (.ref p :: vs)) G H := by
  have R0 := rel_startC (N := N) e hp hc h
  refine ⟨R0.ex, R0.len, R0.sl, by simpa using ne, fun r b c' hm => ?_, R0.g0, fun a o q1 _ => q1, R0.lv, R0.f0, fun r c' hm => ?_, fun r c' hm => ?_⟩
  · rcases List.mem_cons.mp hm with z | z
    · cases z; exact ⟨hp, hc⟩
    · have z : (r, b, c') = (q, false, d) := by simpa using z
      cases z; exact ⟨hq, hcq⟩
  · rcases List.mem_cons.mp hm with z | z
    · cases z; simp
    · have z : (r, false, c') = (q, false, d) := by simpa using z
      cases z; simp
  · rcases List.mem_cons.mp hm with z | z
    · cases z
    · have z : (r, true, c') = (q, false, d) := by simpa using z
      cases z
theorem fn_F {R : FsF → CD → List PyData → PyData → FsF → CD → Prop} {kk : Nat} {N : List Str} {vs : List V} {Qv : VK} (h : spF K C kk R vs H Qv e0)
    (b : ∀ p q fs cd ds d fs' cd', ds.length = kk → R fs cd ds d fs' cd' → ZS K (fun _ => e0) t (some (.c p) :: (stS ds ++ List.replicate (N.length - (ds.length + 1)) none)) [(p, false, .obj C (fs q)), (q, false, cd)] (PFf p C d fs' cd')) : t { nx := fun _ H' => Qv .non H', rt := Qv } (L2.start N vs) H := by
  obtain ⟨G, p, q, fs, cd, us, ds, d, fs', cd', rfl, hkk, e, ne, hp, hq, hc, hcq, hd, hR, qq⟩ := h
  have hk : ∀ a x, H a = some (.own x) → a ∉ [p, q] := fun a x h1 z => by
    rcases List.mem_cons.mp z with z | z
    · exact own_any hc a x h1 z
    · exact own_any hcq a x h1 (by simpa using z)
  have fin : ∀ v σ' G' H' S' M', Rel K ⟨G, H, [p, q]⟩ S' M' σ' G' H' → Dz K G' v d → (∃ q' b', Two (p, false, .obj C (fs' q')) (q', b', cd') M') → Qv v H' := by
    rintro v σ' G' H' S' M' R a ⟨q', b', h2⟩
    obtain ⟨ne2, m1, m2⟩ := h2.ne R.nd
    have ne2 : p ≠ q' := ne2
    have fr : q' = q ∨ H q' = none := by
      cases b' with
      | true => exact .inr (R.o0 q' _ m2)
      | false =>
        have := R.a0 q' _ m2
        rcases List.mem_cons.mp this with z | z
        · exact absurd z.symm ne2
        · exact .inl (by simpa using z)
    exact qq v q' G' H' R.ext (R.own hk) fr (Ne.symm ne2) (R.ce _ _ _ m2).1 (R.ce _ _ _ m1).2 (R.ce _ _ _ m2).2 a
  refine b p q fs cd ds d fs' cd' hkk hR ⟨G, H, [p, q]⟩ _ G H (rel_startF e ne hp hq hc hcq hd) _ ⟨fun σ' G' H' S' M' _ R z => ?_, fun v σ' G' H' z S' M' _ R a z' => ?_, fun _ _ _ _ _ _ _ z => z.elim, fun _ _ _ _ _ _ _ z => z.elim, fun _ _ _ _ _ _ _ _ _ _ _ z => z.elim⟩
  · obtain ⟨rfl, z⟩ := z
    exact fin .non σ' G' H' S' M' R .non z
  · obtain ⟨rfl, z⟩ := z'
    exact fin v σ' G' H' S' M' R a z
theorem len_I {R : List PyData → FsF → CD → Prop} {k : Nat} {vs : List V} {Qv : VK} (h : spI K C k R vs H Qv e0) : vs.length = k + 1 := by
  obtain ⟨G, p, us, ds, fs, cd, rfl, hk, e, hp, hc, hd, _⟩ := h
  rw [List.length_cons, dpa_len hd, hk]
theorem len_F {R : FsF → CD → List PyData → PyData → FsF → CD → Prop} {k : Nat} {vs : List V} {Qv : VK} (h : spF K C k R vs H Qv e0) : vs.length = k + 1 := by
  obtain ⟨G, p, q, fs, cd, us, ds, d, fs', cd', rfl, hk, e, _, _, _, _, _, hd, _⟩ := h
  rw [List.length_cons, dpa_len hd, hk]
/-- C(..) -/
theorem zw_makeI {ar : Nat} {R : List PyData → FsF → CD → Prop} (h : ZA K E tA S M (fun zs M1 => ∃ ds fs cd, AllD zs ds ∧ ds.length = ar ∧ R ds fs cd ∧ ∀ p q, Q (.c p) ((p, true, .obj C (fs q)) :: (q, true, cd) :: M1)) X) : ZW K E (tMake C (spI K C ar R) [] E0 tA) S M Q X := fun n σ G H Rl Qv k kx =>
  h n σ G H Rl _ (fun vs G1 H1 zs M1 e1 R1 a1 ⟨ds, fs, cd, hd, hk, hR, qf⟩ x dx hx hdx hne => by
    have R2 := R1.lay (p := dx) (o := .own x) hdx
    have hx2 : (upd H1 dx (.own x)) x = none := by rw [upd_ne (Ne.symm hne)]; exact hx
    have R3 := R2.lay (p := x) (o := .ins C dx []) hx2
    have gdx := ex_gnone R1.ex hdx
    have hown : (upd (upd H1 dx (.own x)) x (.ins C dx [])) dx = some (.own x) := by rw [upd_ne hne, upd_same]
    have hc : CD.at K G1 (upd (upd H1 dx (.own x)) x (.ins C dx [])) x (.obj C []) := ⟨dx, [], upd_same, hown, gdx, .nil⟩
    have R4 := R3.cell (R1.fresh hx) (R1.notin hx) (ex_gnone R1.ex hx) hc
    refine ⟨G1, x, vs, ds, fs, cd, by rw [List.append_nil], hk, R4.ex, ex_gnone R1.ex hx, hc, zall_d (by rw [← hd]; exact a1), hR, fun q G' H' e own hq gq neq h1 h2 => ⟨rfl, ?_⟩⟩
    have R5 := R4.call1 e .here own h1
    have nq : q ∉ ((x, true, CD.obj C (fs q)) :: M1).map (·.1) := fun hm => by
      rcases List.mem_cons.mp hm with z | z
      · exact neq z
      · exact R4.notin hq (List.mem_cons_of_mem _ z)
    have R6 := R5.cell (R4.fresh hq) nq gq h2
    exact k (.ref x) G' H' (.c x) _ (e1.trans e.g) (R6.perm (List.Perm.swap _ _ _)) rfl (qf x q)) kx
theorem Rel.call2 {c d c' d' : CD} (R : Rel K n S ((p, true, c) :: (q, true, d) :: M) σ G H) (e : Ext [p, q] G H G' H') (own : ∀ a x, H a = some (.own x) → H' a = some (.own x)) (fr : q' = q ∨ H q' = none) (ne : q' ≠ p) (gq : G' q' = none)
    (h1 : CD.at K G' H' p c') (h2 : CD.at K G' H' q' d') : Rel K n S ((p, true, c') :: (q', true, d') :: M) σ G' H' := by
  have mp : (p, true, c) ∈ (p, true, c) :: (q, true, d) :: M := List.mem_cons_self
  have mq : (q, true, d) ∈ (p, true, c) :: (q, true, d) :: M := List.mem_cons_of_mem _ List.mem_cons_self
  have mM : ∀ x, x ∈ M → x ∈ (p, true, c) :: (q, true, d) :: M := fun x h => List.mem_cons_of_mem _ (List.mem_cons_of_mem _ h)
  have nd := R.nd
  rw [List.map_cons, List.map_cons, List.nodup_cons, List.nodup_cons] at nd
  obtain ⟨n1, n2, n3⟩ := nd
  have off : ∀ r b x, (r, b, x) ∈ M → r ∉ [p, q] := fun r b x h z => by
    have hr : r ∈ M.map (·.1) := List.mem_map.mpr ⟨_, h, rfl⟩
    rcases List.mem_cons.mp z with z | z
    · subst z; exact n1 (List.mem_cons_of_mem _ hr)
    · have z : r = q := by simpa using z
      subst z; exact n2 hr
  have base : ∀ a o, n.H a = some o → a ∉ [p, q] := fun a o h z => by
    rcases List.mem_cons.mp z with z | z
    · rw [z, R.o0 p _ mp] at h; cases h
    · have z : a = q := by simpa using z
      rw [z, R.o0 q _ mq] at h; cases h
  have nq : n.H q' = none := by
    rcases fr with z | z
    · rw [z]; exact R.o0 q _ mq
    · exact R.fresh z
  refine ⟨e.x, R.len, fun i z hz => ?_, ?_, fun r b x hm => ?_, R.g0.trans e.g, fun a o h1 h2 => e.h a o (R.h0 a o h1 h2) (base a o h1), fun a o h1 => ?_, fun a o h1 h2 => ?_, fun r x hm => ?_, fun r x hm => ?_⟩
  · obtain ⟨v, q1, q2⟩ := R.sl i z hz
    exact ⟨v, q1, ZV.mono e.g q2⟩
  · rw [List.map_cons, List.map_cons, List.nodup_cons, List.nodup_cons]
    have f1 : q' ∉ M.map (·.1) := by
      rcases fr with z | z
      · rw [z]; exact n2
      · intro hm
        exact R.notin z (List.mem_cons_of_mem _ (List.mem_cons_of_mem _ hm))
    refine ⟨fun hm => ?_, f1, n3⟩
    rcases List.mem_cons.mp hm with z | z
    · exact ne z.symm
    · exact n1 (List.mem_cons_of_mem _ z)
  · rcases List.mem_cons.mp hm with z | hm
    · cases z
      obtain ⟨g, hc⟩ := R.ce _ _ _ mp
      obtain ⟨u, hu, _⟩ := CD.there hc
      obtain ⟨u2, hu2, _, nt⟩ := CD.there h1
      exact ⟨gn_none e.x (e.f _ u hu g) hu2 nt, h1⟩
    · rcases List.mem_cons.mp hm with z | hm
      · cases z
        exact ⟨gq, h2⟩
      · obtain ⟨g, hc⟩ := R.ce r b x (mM _ hm)
        obtain ⟨u, hu, _, nt⟩ := CD.there hc
        exact ⟨gn_none e.x (e.f r u hu g) (e.h _ _ hu (off r b x hm)) nt, CD.stay hc e.g (fun o h => e.h _ _ h (off r b x hm)) fun a y h => ⟨own a y h, fun g => gn_none e.x (e.f a _ h g) (own a y h) (fun _ z => nomatch z)⟩⟩
  · obtain ⟨o', z⟩ := R.lv a o h1
    exact e.l a o' z
  · obtain ⟨o', z⟩ := R.lv a o h1
    exact gn_trans e.g (R.f0 a o h1 h2) (e.f a o' z)
  · rcases List.mem_cons.mp hm with z | hm
    · cases z
    · rcases List.mem_cons.mp hm with z | hm
      · cases z
      · exact R.a0 r x (mM _ hm)
  · rcases List.mem_cons.mp hm with z | hm
    · cases z; exact R.o0 p _ mp
    · rcases List.mem_cons.mp hm with z | hm
      · cases z; exact nq
      · exact R.o0 r x (mM _ hm)
theorem zw_methF {ar : Nat} {m : Str} {R : FsF → CD → List PyData → PyData → FsF → CD → Prop} (h : ZW K E te S M (fun z M0 => ∃ p, z = .c p ∧ (∃ b fs0, (p, b, CD.obj C fs0) ∈ M0 ∧ fs0.lookup m = none) ∧ ZA K E tA S M0 (fun zs M1 => ∃ q fs cd ds d fs' cd' M2, AllD zs ds ∧ ds.length = ar ∧ M1.Perm ((p, true, .obj C (fs q)) :: (q, true, cd) :: M2) ∧ R fs cd ds d fs' cd' ∧ ∀ q', Q (.d d) ((p, true, .obj C (fs' q')) :: (q', true, cd') :: M2)) X) X) :
    ZW K E (tMeth C m (spF K C ar R) [] E0 te tA) S M Q X := fun n σ G H Rl Qv k kx =>
  h n σ G H Rl _ (fun v G0 H0 z M0 e0' R0 a0 ⟨p, hz, ⟨b0, fs0, hm0, hl0⟩, h2⟩ => by
    subst hz
    have ev : v = .ref p := a0
    subst ev
    obtain ⟨_, dx, fv, h3, h4, h5, h6⟩ := R0.ce p b0 _ hm0
    refine ⟨p, dx, fv, rfl, h3, (lookup_paired h6 m).1 hl0, h2 n σ G0 H0 R0 _ (fun vs G1 H1 zs M1 e1 R1 a1 ⟨q, fs, cd, ds, d, fs', cd', M2, hd, hk, hp, hR, qf⟩ => ?_) (kx.mono e0')⟩
    have R2 := R1.perm hp
    have mp := R2.ce p true _ List.mem_cons_self
    have mq := R2.ce q true _ (List.mem_cons_of_mem _ List.mem_cons_self)
    have ne : p ≠ q := by
      have := R2.nd
      rw [List.map_cons, List.map_cons, List.nodup_cons] at this
      intro z
      exact this.1 (by rw [z]; exact List.mem_cons_self)
    refine ⟨G1, p, q, fs, cd, _, ds, d, fs', cd', by rw [List.append_nil], hk, R1.ex, ne, mp.1, mq.1, mp.2, mq.2, zall_d (by rw [← hd]; exact a1), hR, fun v q' G' H' e own fr ne2 gq c1 c2 a => ?_⟩
    exact k v G' H' (.d d) _ ((e0'.trans e1).trans e.g) (R2.call2 e own fr ne2 gq c1 c2) a (qf q')) kx
end
end Z
/-! own dicts with rows as keys: {}, d[row] = v, sorted(d.keys()); a loop over an empty dict -/
namespace Z
open PySem PySem.Spec PyProof.Rows L2
open Evl (Ex)
/-! ### d.keys(), sorted of it -/
def keysO (p d : Addr) : HO := .ext fun h => PySem.W.KdlKeysView h p d
theorem keysO_ok {P : Program} {w : World} {H : Hp} {h : Heap} {p d : Addr} (e : h.get? p = some { cls := .type "dict_keys", data := .fields #[.ref d] }) : ObjOk P w H h p (keysO p d) :=
  ⟨⟨_, e, rfl, rfl⟩, ⟨_, e⟩, fun h1 h2 ⟨o, q1, q2⟩ k => ⟨o, k o q1, q2⟩⟩
abbrev rKeysT : V → List V → Hp → VK → Prop := fun x xs H Q => ∃ (a : Addr) (kvs : List (List L2.Key × V)), x = .ref a ∧ xs = [] ∧ H a = some (.dT kvs) ∧ ∀ p, H p = none → Q (.ref p) (upd H p (keysO p a))
def rSortK : List V → Hp → VK → Prop := fun vs H Q => ∃ (p a : Addr) (kvs : List (List L2.Key × V)) (rows : List (List Int)), vs = [.ref p] ∧ H p = some (keysO p a) ∧ H a = some (.dT kvs) ∧ kvs.map (·.1) = rows.map (fun r => r.map Sum.inl) ∧ (∀ r ∈ rows, r ≠ []) ∧
  ∀ (ys : List V) (q : Addr), Paired (fun y r => ∃ b, y = V.ref b ∧ H b = some (.tup (r.map V.int))) ys (sortI rows) → H q = none → Q (.ref q) (upd H q (.lst ys))
theorem keep_tups {h h' : Heap} (k : ∀ b o, h.get? b = some o → h'.get? b = some o) : G.KeepsTups h h' := fun b o e _ => k b o e
section
variable {prog : Program} {w : World} {A : Around} {E : Value → Shared → Prop} {s : Shared}
/-- what a walk gives, taken into a new list: the heap has grown -/
theorem collect_src {T : String} {r d : Addr} {n : Nat} {P : Nat → Value → Prop} {OK : Heap → Prop} {R : List Value → Shared → Prop} (K : PySem.W.KdlSrc prog w T r d n P OK) (hh : A.handled = none) (hok : OK s.heap) (hn : n ≤ sizeLine)
    (h : ∀ (m : Heap) (tk : Nat) (acc : Array Value), s.heap.objs.size ≤ m.objs.size → (∀ b o, s.heap.get? b = some o → m.get? b = some o) → ItemsOf P acc n → R acc.toList { s with heap := m, toks := tk }) :
    wpAny (model prog w) A (collect (.ref r)) R E s := by
  have lt := K.there _ hok
  have grown : ∀ b o, s.heap.get? b = some o → (s.heap.push { cls := .type "list", data := .seq ([] : List Value).toArray }).get? b = some o := fun b o e => Heap.get?_push_of_some _ e
  have nl : (s.heap.push { cls := .type "list", data := .seq ([] : List Value).toArray }).get? s.heap.objs.size = some { cls := .type "list", data := .seq #[] } := Heap.get?_push_size _ rfl
  have out := PySem.W.kdl_extend (A := A) (s := { s with heap := s.heap.push { cls := .type "list", data := .seq ([] : List Value).toArray } })
    (R := fun res t => ∃ (m : Heap) (tk : Nat) (acc : Array Value) (c : Nat), res = .ok (.ret (.ref s.heap.objs.size)) ∧ t = { s with heap := m, toks := tk } ∧ (∀ b o, s.heap.get? b = some o → m.get? b = some o) ∧ m.get? s.heap.objs.size = some { cls := .type "list", dict := none, data := .seq acc c, slots := #[] } ∧ ItemsOf P acc n)
    K hh (K.keep _ _ hok fun b _ => grown b) s.heap.objs.size (Nat.ne_of_gt lt.1) (Nat.ne_of_gt lt.2) (.ref s.heap.objs.size) 0 nl
    (fun m tk acc c k at_ hacc => ⟨m, tk, acc, c, rfl, rfl, fun b o e => k b o (Nat.ne_of_lt (Heap.lt_size e)) (grown b o e), at_, hacc⟩) hn
  have last : ∀ (m : Heap) (tk : Nat) (acc : Array Value) (c : Nat), (∀ b o, s.heap.get? b = some o → m.get? b = some o) → m.get? s.heap.objs.size = some { cls := .type "list", dict := none, data := .seq acc c, slots := #[] } → ItemsOf P acc n → R acc.toList { s with heap := m, toks := tk } :=
    fun m tk acc c k at_ hacc => h m tk acc (Nat.le_of_lt (Heap.lt_size at_)) k hacc
  unfold collect
  refine wpAny_bind (wpAny_runValue (codeAny_builtin entry_proto_collect' ?_))
  rw [Around.under_plainId PySem.F.plain_proto_collect _]
  show wpAny _ A.in1 (newList [] >>= fun l => again (.builtin "list.__iadd__" ⟨[l, .ref r], []⟩)) _ _ s
  refine wpAny_bind (wpAny_newObj_type (wpAny_pure ⟨plainId_quiet PySem.F.plain_list_iadd _, codeAny_builtin entry_list_iadd' ?_⟩))
  rw [Around.under_plainId PySem.F.plain_list_iadd _]
  show wpAny _ A.in1 (Builtin.List.listExtendWith (.ref s.heap.objs.size) (.ref r) (.ref s.heap.objs.size)) _ _ _
  refine wpAny_mono out (fun fin t x => ?_) fun e t x => ?_
  · cases fin with
    | done f =>
      obtain ⟨m, tk, acc, c, e, rfl, k, at_, hacc⟩ := x
      cases e
      exact wpAny_bind (wpAny_load at_ (wpAny_pure (last m tk acc c k at_ hacc)))
    | again c1 =>
      refine ⟨x.1, codeAny_mono x.2 fun q t2 y => ?_⟩
      obtain ⟨m, tk, acc, c, rfl, rfl, k, at_, hacc⟩ := y
      exact wpAny_bind (wpAny_load at_ (wpAny_pure (last m tk acc c k at_ hacc)))
  · obtain ⟨_, _, _, _, z, _⟩ := x
    cases z
open G in
/-- sorted of something that is taken into a list first -/
theorem sorted_from {κ : KeyKind} {kd : SortKind} {t : Addr} {vs : List Value} {Q : Value → Shared → Prop} (hl : vs.length ≤ sizeLine) (hk : KeysOf κ (pairsOf vs)) (hO : ∀ s2 : Shared, KeepsTups s.heap s2.heap → LtAt prog w s2 κ kd)
    (hkk : 2 ≤ vs.length → ∀ (A : Around) (E : Value → Shared → Prop) (s2 : Shared) {Q : SortKind → Shared → Prop}, KeepsTups s.heap s2.heap → Q kd s2 → wpAny (model prog w) A (keyKind' vs.toArray) Q E s2)
    (hc : ∀ R : List Value → Shared → Prop, (∀ h' tk, s.heap.objs.size ≤ h'.objs.size → (∀ b o, s.heap.get? b = some o → h'.get? b = some o) → R vs { s with heap := h', toks := tk }) → wpAny (model prog w) A.in1 (collect (.ref t)) R E s)
    (h : ∀ (st : SortSt) (m : Heap) (tk : Nat), s.heap.objs.size ≤ m.objs.size → (∀ b o, s.heap.get? b = some o → m.get? b = some o) → (arrOf st).Perm (pairsOf vs) → SortedToK κ (arrOf st) (pairsOf vs).size →
      Q (.ref m.objs.size) { s with heap := sortedHeap (m.push (seqObj "list" vs.toArray 0)) m.objs.size vs ((arrOf st).map (·.2)), toks := tk }) :
    wpAny (model prog w) A (call (.builtin "sorted") [.ref t]) Q E s := by
  refine Calls.call_function_entry kind_sorted plain_sorted entry_sorted (args_sorted1 _) ?_
  unfold Builtin.«sorted»
  refine wpAny_bind (m := checkCount "sorted" 1 1 _) (wpAny_pure (wpAny_bind (hc _ fun m tk zm k => wpAny_bind (wpAny_newList ?_))))
  have nl : (m.push (seqObj "list" vs.toArray 0)).get? m.objs.size = some (seqObj "list" vs.toArray 0) := Heap.get?_push_size _ rfl
  have k2 := ((keep_tups k).trans (KeepsTups.push m (seqObj "list" vs.toArray 0))).trans (keeps_sort6 (vs := vs) nl)
  show wpAny _ _ _ _ _ { s with heap := m.push (seqObj "list" vs.toArray 0), toks := tk }
  exact wpAny_bind (wpAny_holding (wpAny_call_entry slot_list_sort ⟨_, nl, rfl⟩ entry_list_sort (list_sort_treeG nl hk (hO _ k2) (fun h2 R q => hkk h2 _ _ _ k2 q) hl fun st p1 p2 _ => ⟨_, rfl, wpAny_pure ⟨_, rfl, h st m tk zm k p1 p2⟩⟩) (args_list_sort _)))
end
section
variable {X : Cx} {pins : List (Addr × Obj)} {σ : L2.St} {H : Hp} {s : Shared}
def IsRow (K : Fg) (H : Hp) (u : Value) : Prop := ∃ t ns, u = Value.ref t ∧ SqT K H t (ns.map V.int) ∧ ns ≠ []
theorem rows_keys (I : Inv X pins σ H s) {its : List Value} (each : ∀ u ∈ its, IsRow X.K H u) : (∀ u, u ∈ its → ∃ l, G.tupKeyC s.heap (fun _ => false) u = some l) ∧ ∃ fs, TupsOf s.heap (fun _ => false) its fs := by
  constructor
  · intro u hu
    obtain ⟨t, ns, rfl, h1, _⟩ := each u hu
    obtain ⟨t', e, k⟩ := row_key I (x := .ref t) ⟨t, rfl, h1⟩
    cases e
    exact ⟨_, k⟩
  · have go : ∀ l : List Value, (∀ u ∈ l, IsRow X.K H u) → ∃ fs, TupsOf s.heap (fun _ => false) l fs := by
      intro l
      induction l with
      | nil => exact fun _ => ⟨[], .nil⟩
      | cons u l ih =>
        intro h
        obtain ⟨fs, hfs⟩ := ih fun v hv => h v (List.mem_cons_of_mem _ hv)
        obtain ⟨t, ns, rfl, h1, h0⟩ := h u List.mem_cons_self
        obtain ⟨t', f, e, k⟩ := row_first I (x := .ref t) ⟨t, rfl, h1⟩ h0
        cases e
        exact ⟨f :: fs, .cons k hfs⟩
    exact go its each
theorem rows_out (I : Inv X pins σ H s) {its : List Value} (each : ∀ u ∈ its, IsRow X.K H u) {arr : Array (Value × Value)} (hp : arr.Perm (pairsOf its)) (hst : SortedToK (G.tupKindC s.heap (fun _ => false)) arr (pairsOf its).size) :
    (arr.map (·.2)).toList.Perm its ∧ ((arr.map (·.2)).toList.map refV).Pairwise (fun x y => ∀ n m, RowI X.K H x n → RowI X.K H y m → leI n m = true) := by
  have hpl : arr.toList.Perm (its.zip its) := by rw [← pairsOf_toList]; exact Array.perm_iff_toList_perm.mp hp
  have twin : ∀ p ∈ arr.toList, p.1 = p.2 ∧ p.1 ∈ its := fun p hp => mem_zip_self (hpl.mem_iff.mp hp)
  have po : (arr.map (·.2)).toList.Perm its := by
    rw [Array.toList_map]
    have z := hpl.map Prod.snd
    rw [List.map_snd_zip (Nat.le_refl _)] at z
    exact z
  refine ⟨po, ?_⟩
  rw [List.pairwise_map, List.pairwise_iff_getElem]
  intro i j hi hj hij n m hn hm
  have hi' : i < arr.size := by simpa using hi
  have hj' : j < arr.size := by simpa using hj
  have hsz : (pairsOf its).size = arr.size := hp.size_eq.symm
  have le := hst i j (Nat.le_of_lt hij) (by rw [hsz]; exact hj')
  have kk : ∀ (k : Nat) (hk : k < arr.size) (l : List Int), RowI X.K H (refV ((arr.map (·.2)).toList[k]'(by simpa using hk))) l → KK (G.tupKindC s.heap (fun _ => false)) arr k = l.map Sum.inl := by
    intro k hk l hl
    have e3 : (arr.map (·.2)).toList[k]'(by simpa using hk) = arr[k].2 := by simp
    rw [e3] at hl
    have mem : arr[k] ∈ arr.toList := by simp
    obtain ⟨t1, t2⟩ := twin _ mem
    obtain ⟨t, e4, k4⟩ := row_key I hl
    obtain ⟨t', _, e6, _⟩ := each _ t2
    have e5 : arr[k].1 = .ref t := by
      rw [t1] at e6 ⊢
      rw [e6] at e4 ⊢
      cases e4
      rfl
    unfold KK
    rw [Array.getElem?_eq_getElem hk]
    show (G.tupKeyC s.heap (fun _ => false) arr[k].1).getD [] = _
    rw [e5, k4]
    rfl
  rw [kk i hi' n hn, kk j hj' m hm] at le
  exact leI_iff.mpr le
theorem mt_keysT : MtR X "dict.keys" rKeysT := by
  intro pins s σ H x xs v us Q I rx rxs h
  obtain ⟨a, kvs, rfl, rfl, ha, q⟩ := h
  cases rx
  cases rxs
  obtain ⟨z, hd, xs', rel, o, es, ep, ho, hx, hdat, _⟩ := dt_of I.hok ha
  have raw : s.heap.DictRaw a es ep := ⟨o, ho, hx, hdat⟩
  refine call_meetsIn PySem.F.slot_dict_keys raw.typeIs PySem.F.entry_dict_keys (PySem.F.args_dict_keys_1 _) (meets_dict_keys_raw a hd) ⟨⟨es, ep, raw⟩, ?_⟩
  exact ⟨.ref s.heap.objs.size, _, I.laid (t' := s.toks) (fun b u e => Heap.get?_push_of_some _ e) (Nat.le_refl _) (keysO_ok (Heap.get?_push_size _ rfl)), rfl, q _ (I.hok.fresh (Nat.le_refl _))⟩
theorem paired_of {α β : Type} {F : α → β → Prop} : ∀ {l : List α} {m : List β}, l.length = m.length → (∀ (i : Nat) (h : i < l.length) (h' : i < m.length), F l[i] m[i]) → Paired F l m
  | [], [], _, _ => .nil
  | a :: l, b :: m, e, h => .cons (h 0 (by simp) (by simp)) (paired_of (by simpa using e) fun i h1 h2 => h (i + 1) (by simpa using h1) (by simpa using h2))
theorem cr_sortK (hc : X.calm = true) : CallR X (.builtin "sorted") rSortK := by
  intro pins s σ H xs us Q I r h
  obtain ⟨p, a, kvs, rows, rfl, hp, ha, hr, h0, q⟩ := h
  obtain rfl := Vals.ref1 r
  have view : PySem.W.KdlKeysView s.heap p a := (show ObjOk X.prog X.w H s.heap p (keysO p a) from I.hok p _ hp).1
  obtain ⟨z, hd, xs', rel, o, es, ep, ho, hx, hdat, hes, his, hn⟩ := dt_of I.hok ha
  have raw : s.heap.DictRaw a es ep := ⟨o, ho, hx, hdat⟩
  have l1 : kvs.length = xs'.length := Paired.length rel
  have l2 : es.size = xs'.length := by rw [← Array.length_toList, hes, List.length_map]
  have l3 : kvs.length = rows.length := by have := congrArg List.length hr; simpa using this
  -- the keys as they stand
  have key : ∀ (i : Nat) (h1 : i < xs'.length) (h2 : i < rows.length), H xs'[i].2.1 = some (.tup (rows[i].map V.int)) := fun i h1 h2 => by
    obtain ⟨e, he, r1, r2, _⟩ := L2.DX.pget rel (List.getElem?_eq_getElem h1)
    have : (kvs.map (·.1))[i]? = (rows.map fun r => r.map Sum.inl)[i]? := by rw [hr]
    rw [List.getElem?_map, List.getElem?_map, he, List.getElem?_eq_getElem h2] at this
    have e1 : e.1 = rows[i].map Sum.inl := Option.some.inj this
    rw [r2, e1]
    exact congrArg _ (congrArg HO.tup (keyI_v rows[i]))
  have vsl : (xs'.map fun x => Value.ref x.2.1).length = xs'.length := List.length_map _
  have each : ∀ u ∈ (xs'.map fun x => Value.ref x.2.1), IsRow X.K H u := fun u hu => by
    obtain ⟨x, hx, rfl⟩ := List.mem_map.mp hu
    obtain ⟨i, hi, rfl⟩ := List.getElem_of_mem hx
    exact ⟨_, rows[i]'(by omega), rfl, Evl.st_of (key i hi (by omega)), h0 _ (List.getElem_mem _)⟩
  obtain ⟨keys, fs, tf⟩ := rows_keys I each
  refine sorted_from (vs := xs'.map fun x => Value.ref x.2.1) (by rw [vsl]; omega) (G.tupKeys keys) (fun s2 k => G.tupC_ltAt (s := s2) true k) (fun h2 _ _ s2 _ k hq => tup_kind (s := s2) (by rw [G.TupsOf.length tf]; omega) (G.TupsOf.keep k tf) hq) (fun R hR => ?_) fun st m tk zm k hperm hst => ?_
  · refine collect_src (A := X.A.in1) (s := s) (KdlSrc.rawKeys (es := es) (ep := ep)) (I.ok.hd hc) ⟨view, raw⟩ (by omega) fun h' tk acc zm k hacc => ?_
    have e : acc.toList = xs'.map fun x => Value.ref x.2.1 := by
      refine List.ext_getElem? fun i => ?_
      have es_at : es.toList[i]? = (xs'[i]?).map (entryOfKey (tupleKind (mixKind X.prog X.w))) := by rw [hes, List.getElem?_map]
      by_cases hi : i < xs'.length
      · have hia : i < acc.size := by rw [hacc.1]; omega
        obtain ⟨hi2, e2⟩ := hacc.2 i acc[i] (Array.getElem?_eq_getElem hia)
        rw [Array.getElem?_toList, Array.getElem?_eq_getElem hia, e2, List.getElem?_map, List.getElem?_eq_getElem hi]
        rw [List.getElem?_eq_getElem hi, Array.getElem?_toList, Array.getElem?_eq_getElem hi2] at es_at
        have es_at := Option.some.inj es_at
        rw [es_at]
        rfl
      · rw [List.getElem?_eq_none (by rw [Array.length_toList, hacc.1]; omega), List.getElem?_eq_none (by rw [vsl]; omega)]
    rw [e]
    exact hR h' tk zm k
  · obtain ⟨po, pw⟩ := rows_out I each hperm hst
    have nl : (m.push (seqObj "list" (xs'.map fun x => Value.ref x.2.1).toArray 0)).get? m.objs.size = some (seqObj "list" (xs'.map fun x => Value.ref x.2.1).toArray 0) := Heap.get?_push_size _ rfl
    obtain ⟨ep2, at_⟩ := sortedHeap_at (out := (arrOf st).map (·.2)) nl
    have old : ∀ b o, s.heap.get? b = some o → (sortedHeap (m.push (seqObj "list" (xs'.map fun x => Value.ref x.2.1).toArray 0)) m.objs.size (xs'.map fun x => Value.ref x.2.1) ((arrOf st).map (·.2))).get? b = some o := fun b o e => by
      have hb := Heap.lt_size (k b o e)
      rw [sortedHeap_old (Nat.ne_of_lt hb) (Nat.lt_of_lt_of_le hb (by rw [Heap.size_push]; exact Nat.le_succ _))]
      exact Heap.get?_push_of_some _ (k b o e)
    have fresh : H m.objs.size = none := by
      exact I.hok.fresh zm
    have vals : Vals (((arrOf st).map (·.2)).toList.map refV) ((arrOf st).map (·.2)).toList := by
      have go : ∀ l : List Value, (∀ u ∈ l, u ∈ (xs'.map fun x => Value.ref x.2.1)) → Vals (l.map refV) l := by
        intro l
        induction l with
        | nil => exact fun _ => .nil
        | cons u l ih =>
          intro h
          obtain ⟨t, ns, rfl, _⟩ := each u (h u List.mem_cons_self)
          exact .cons rfl (ih fun v hv => h v (List.mem_cons_of_mem _ hv))
      exact go _ fun u hu => po.mem_iff.mp hu
    have pr0 : Paired (fun (y : V) (r : List Int) => ∃ b, y = V.ref b ∧ H b = some (.tup (r.map V.int))) ((xs'.map fun x => Value.ref x.2.1).map refV) rows := by
      refine paired_of (by simp; omega) fun i h1 h2 => ?_
      have hi : i < xs'.length := by simpa using h1
      refine ⟨xs'[i].2.1, by simp [refV], key i hi h2⟩
    obtain ⟨rs, prm, prd⟩ := paired_perm (po.map refV) pr0
    have pwr : rs.Pairwise (fun a b => leI a b = true) := by
      rw [List.pairwise_iff_getElem]
      intro i j hi hj hij
      have ln := Paired.length prd
      have at1 := List.pairwise_iff_getElem.mp pw i j (Nat.lt_of_lt_of_eq hi ln.symm) (Nat.lt_of_lt_of_eq hj ln.symm) hij
      have g : ∀ (k : Nat) (hk : k < rs.length) (hk' : k < (((arrOf st).map (·.2)).toList.map refV).length), RowI X.K H (((arrOf st).map (·.2)).toList.map refV)[k] rs[k] := fun k hk hk' => by
        obtain ⟨y, hy, b, e1, e2⟩ := L2.DX.pget prd (List.getElem?_eq_getElem hk)
        rw [List.getElem?_eq_getElem hk'] at hy
        exact ⟨b, (Option.some.inj hy).trans e1, Evl.st_of e2⟩
      exact at1 _ _ (g i hi (Nat.lt_of_lt_of_eq hi ln.symm)) (g j hj (Nat.lt_of_lt_of_eq hj ln.symm))
    rw [sortI_uniq prm pwr] at prd
    exact ⟨.ref m.objs.size, upd H m.objs.size (.lst (((arrOf st).map (·.2)).toList.map refV)), I.laid (t' := tk) old zm ⟨by rw [List.length_map, po.length_eq, vsl]; omega, _, ep2, vals, at_⟩, rfl, q _ _ prd fresh⟩
end
end Z
/-! dicts over data: {}, d[row] = v, sorted(d.keys()), a frozen dict; a walk over an empty one; a method that hands back a new dict -/
namespace Z
open PySem PySem.Spec PyProof.Rows L2
open Evl (Ex)
section
variable {K : Fg} {E : L2.St → XK} {e0 : XK} {te to td tk tv : TE} {tA : TA} {t : TS} {S S' : Zs} {M M' : Ms} {Q : QZ} {X : XZ} {P : ZP} {n : Sn} {σ : L2.St} {G G' H H' : Hp} {p C : Addr}
theorem zw_dnewT (q : ∀ p, Q (.c p) ((p, true, .dT []) :: M)) : ZW K E tDNewT S M Q X := fun n σ G H R Qv k kx p hp => k (.ref p) G _ (.c p) _ (Ex.refl G) (R.newD hp .nil) rfl (q p)
theorem zs_dputT (h : ZW K E tv S M (fun z M1 => ∃ d, z = .d d ∧ ZW K E td S M1 (fun o M2 => ZW K E tk S M2 (fun y M3 => ∃ p b kvs i r M4, o = .c p ∧ y = .d (rowD (i :: r)) ∧ kvs.length < sizeLine ∧ Upd1 p b (.dT kvs) (.dT (putP kvs (keyI (i :: r)) d)) M3 M4 ∧ P.nx S M4) P.ex) P.ex) P.ex) : ZS K E (sDPut td tk tv) S M P := fun n σ G H R D k =>
  h n σ G H R _ (fun v G1 H1 z M1 e1 R1 a1 ⟨d, hz, h2⟩ => h2 n σ G1 H1 R1 _ (fun o G2 H2 zo M2 e2 R2 a2 h3 => h3 n σ G2 H2 R2 _ (fun y G3 H3 zy M3 e3 R3 a3 ⟨p, b, kvs, i, r, M4, ho, hy, hl, hu, q⟩ => by
    subst hz ho hy
    have ev : o = .ref p := a2
    subst ev
    obtain ⟨c, rfl, hc⟩ := dz_key a3
    obtain ⟨_, ws, hw, rel⟩ := R3.ce p b _ hu.mem
    refine ⟨p, _, rfl, DPut.t hw (R3.ex _ _ hc) (by rw [dpr_len rel]; exact hl), ?_⟩
    exact k.nx σ G3 _ S M4 ((e1.trans e2).trans e3) (R3.putD hu (put_rel rel _ (dp_mono (e2.trans e3) a1))) q) (XOk.mono k.xok (e1.trans e2))) (XOk.mono k.xok e1)) k.xok
theorem tells {rows : List (List Int)} {ys : List V} (R : Rel K n S M σ G H) (h : Paired (fun y r => ∃ b, y = V.ref b ∧ H b = some (.tup (r.map V.int))) ys rows) : ∃ G', Ex G G' ∧ Rel K n S M σ G' H ∧ DzAll K G' ys (rows.map rowD) := by
  induction h generalizing G with
  | nil => exact ⟨G, Ex.refl G, R, .nil⟩
  | @cons y r ys rows a _ ih =>
    obtain ⟨b, rfl, hb⟩ := a
    obtain ⟨G1, e1, R1, g1⟩ := R.tell hb
    obtain ⟨G2, e2, R2, d2⟩ := ih R1
    exact ⟨G2, e1.trans e2, R2, .cons (.tup (.inl (e2 _ _ g1)) (by
      have go : ∀ l : List Int, DzAll K G2 (l.map V.int) (l.map PyData.int) := fun l => by
        induction l with
        | nil => exact .nil
        | cons a l ih => exact .cons (.int a) ih
      exact go r)) d2⟩
theorem dpr_keys : ∀ {ws : List (List Key × V)} {kvs : List (List Key × PyData)}, DPr K G ws kvs → ws.map (·.1) = kvs.map (·.1)
  | _, _, .nil => rfl
  | _, _, .cons a b => by rw [List.map_cons, List.map_cons, dpr_keys b, a.1]
/-- sorted(d.keys()) -/
theorem zw_sortKeys (h : ZW K E to S M (fun z M1 => ∃ p b kvs rows, z = .c p ∧ (p, b, CD.dT kvs) ∈ M1 ∧ kvs.map (·.1) = rows.map keyI ∧ (∀ r ∈ rows, r ≠ []) ∧ Q (.d (.list ((sortI rows).map rowD))) M1) X) : ZW K E (tCB rSortK (tCons (tBM0 K "dict" rKeysT to) tNil)) S M Q X := fun n σ G H R Qv k kx =>
  h n σ G H R _ (fun v G1 H1 z M1 e1 R1 a1 ⟨p, b, kvs, rows, hz, hm, hk, h0, q⟩ => by
    subst hz
    have ev : v = .ref p := a1
    subst ev
    obtain ⟨_, ws, hw, rel⟩ := R1.ce p b _ hm
    refine ⟨.inr (.inr (.inl ⟨rfl, .inr ⟨ws, hw⟩⟩)), p, ws, rfl, rfl, hw, fun view hv => ?_⟩
    have R2 := R1.lay (o := keysO view p) hv
    have np : p ≠ view := ne_of_none hw hv
    refine ⟨view, p, ws, rows, rfl, upd_same, by rw [upd_ne np]; exact hw, ?_, h0, fun ys l hp hl => ?_⟩
    · rw [dpr_keys rel]; exact hk
    · obtain ⟨G3, e3, R3, d3⟩ := tells R2 hp
      have g := ex_gnone R3.ex hl
      exact k (.ref l) _ _ (.d (.list ((sortI rows).map rowD))) M1 ((e1.trans e3).trans (Ex.new g)) (R3.new hl (fun _ z => nomatch z)) (.lst (Evl.sq_of upd_same) (dpAll_mono (Ex.new g) d3)) q) kx
/-! ### a walk over an empty dict -/
/-- x in d, d.get(x, y) and so on read it; a loop over it ends at once -/
theorem zs_keys0 {i : Nat} {b : Bool} {g : TG} (hs : S[i]? = some (some (.c p))) (hm : (p, b, CD.dT []) ∈ M) (q : P.nx S M) : ZS K E (tLock (tFor (iKeys (tVar i)) g t)) S M P := fun n σ G H R D k => by
  obtain ⟨v, h1, h2⟩ := R.sl i _ hs
  have ev : v = .ref p := h2
  subst ev
  obtain ⟨_, ws, hw, rel⟩ := R.ce p b _ hm
  cases rel
  refine ⟨p, _, hw, trivial, fun od => ?_⟩
  refine ⟨_, h1, p, od, rfl, .inr ⟨[], upd_same, fun i m σ' H' => i = 0 ∧ σ' = σ ∧ H' = upd H p (.frz od (.dT [])), ⟨0, rfl, rfl, rfl⟩, ?_⟩⟩
  rintro j m σ' H' ⟨rfl, rfl, rfl⟩
  refine .inl ⟨⟨upd_same, Nat.le_refl _⟩, upd_same, ?_⟩
  have e : upd (upd H p (.frz od (.dT []))) p (.dT []) = H := by
    rw [upd_upd]
    funext c
    by_cases z : c = p
    · rw [z, upd_same, hw]
    · rw [upd_ne z]
  rw [e]
  exact k.nx _ G H S M (Ex.refl G) R q
end
/-- a statement, an expression, while the empty dict at d is locked and seen as one with plain keys -/
def tLock0 (t : TS) : TS := fun D σ H => ∃ d, H d = some (.dT []) ∧ ∀ od, t ⟨fun σ' H' => H' d = some (.frz od (.dK [])) ∧ D.nx σ' (upd H' d (.dT [])), fun v H' => H' d = some (.frz od (.dK [])) ∧ D.rt v (upd H' d (.dT [])), fun σ' H' => H' d = some (.frz od (.dK [])) ∧ D.bk σ' (upd H' d (.dT [])), fun σ' H' => H' d = some (.frz od (.dK [])) ∧ D.ct σ' (upd H' d (.dT []))⟩ σ (upd H d (.frz od (.dK [])))
def tLock0E (t : TE) : TE := fun σ H Q => ∃ d, H d = some (.dT []) ∧ ∀ od, t σ (upd H d (.frz od (.dK []))) fun v H' => H' d = some (.frz od (.dK [])) ∧ Q v (upd H' d (.dT []))
section
variable {X : Cx} {pins : List (Addr × Obj)} {σ : L2.St} {H : Hp} {s : Shared} {d : Addr}
theorem dt0_dk0 {P : Program} {w : World} {H H' : Hp} {h : Heap} (x : ObjOk P w H h d (.dT [])) : ObjOk P w H' h d (.dK []) := by
  obtain ⟨z, y, xs, r, ob, es, ep, e, c1, c2, c3, c4⟩ := x
  cases r
  have ee : es = #[] := by simpa using c3
  subst ee
  obtain ⟨o2, es2, ep2, q1, q2, q3, q4, q5, q6⟩ := Heap.DictOf.new (knd := mixKind P w) ({} : Heap)
  exact ⟨Nat.zero_le _, y, [], .nil, ob, #[], ep, e, c1, c2, by first | exact (fun _ h => by simp at h) | (unfold PySem.KeysOf; simp) | (intro i; simp) | (constructor <;> simp), by first | exact .nil | trivial | rfl, List.nodup_nil⟩
theorem dk0_dt0 {P : Program} {w : World} {H H' : Hp} {h : Heap} (x : ObjOk P w H h d (.dK [])) : ObjOk P w H' h d (.dT []) := by
  obtain ⟨z, y, vs, r, ob, es, ep, e, c1, c2, c3, c4, c5⟩ := x
  cases r
  have ee : es.toList = [] := by
    generalize es.toList = l at c4
    cases l with
    | nil => rfl
    | cons a l => exact nomatch c4
  exact ⟨Nat.zero_le _, y, [], .nil, ob, es, ep, e, c1, c2, by rw [ee]; rfl, List.nodup_nil⟩
theorem lock0 (I : Inv X pins σ H s) (h : H d = some (.dT [])) : ∃ od, Inv X pins σ (upd H d (.frz od (.dK []))) s := by
  have x := I.hok d _ h
  obtain ⟨_, _, _, _, ob, _, _, e, _⟩ := id x
  exact ⟨ob, I.write (x := d) (e := d) (t' := s.toks) (h' := s.heap) (by rw [h]; exact trivial) (.inl rfl) (fun b v _ q => q) ⟨ob, e⟩ ⟨e, dt0_dk0 x⟩⟩
theorem unlock0 {od : Obj} (I : Inv X pins σ H s) (h : H d = some (.frz od (.dK []))) (hn : ∀ o' u', X.H_0 d ≠ some (.frz o' u')) : Inv X pins σ (upd H d (.dT [])) s := by
  have I1 := I.unlock h hn
  have x := I1.hok d _ upd_same
  obtain ⟨_, _, _, _, ob, _, _, e, _⟩ := id x
  have I2 : Inv X pins σ (upd (upd H d (.dK [])) d (.dT [])) s := I1.write (x := d) (e := d) (t' := s.toks) (h' := s.heap) (by rw [upd_same]; exact trivial) (.inl rfl) (fun b v _ q => q) ⟨ob, e⟩ (dk0_dt0 x)
  rw [upd_upd] at I2
  exact I2
theorem ps_lock0 {st : Stmt} {t : TS} (h : PS X st t) : PS X st (tLock0 t) := by
  refine ⟨fun pins s σ H D I hw => ?_⟩
  obtain ⟨d, hd, hw⟩ := hw
  obtain ⟨od, I1⟩ := lock0 I hd
  have nf := I.nofrz hd trivial
  refine thn (h.run pins s σ _ _ I1 (hw od)) fun f s1 q => ?_
  cases f with
  | ret v => obtain ⟨x, σ', H', I2, r, e, q⟩ := q; exact ⟨x, σ', _, unlock0 I2 e nf, r, q⟩
  | _ => obtain ⟨σ', H', I2, e, q⟩ := q; exact ⟨σ', _, unlock0 I2 e nf, q⟩
theorem pe_lock0 {e : Expr} {t : TE} (h : PE X e t) : PE X e (tLock0E t) := by
  refine ⟨fun pins s σ H Q I hw => ?_⟩
  obtain ⟨d, hd, hw⟩ := hw
  obtain ⟨od, I1⟩ := lock0 I hd
  refine thn (h.run pins s σ _ _ I1 (hw od)) fun v s1 hv => ?_
  obtain ⟨x, H1, I2, r, e2, q⟩ := hv
  exact ⟨x, _, unlock0 I2 e2 (I.nofrz hd trivial), r, q⟩
end
section
variable {K : Fg} {E : L2.St → XK} {e0 : XK} {te to td tk tv : TE} {tA : TA} {t : TS} {S S' : Zs} {M M' : Ms} {Q : QZ} {X : XZ} {P : ZP} {n : Sn} {σ : L2.St} {G G' H H' : Hp} {p C : Addr} {g : TG} {tt : TT}
theorem back0 {d : Addr} {od : Obj} (h : H d = some (.dT [])) : upd (upd H d (.frz od (.dK []))) d (.dT []) = H := by
  rw [upd_upd]
  funext c
  by_cases z : c = d
  · rw [z, upd_same, h]
  · rw [upd_ne z]
/-- for .. in o.f.items(), the field an empty dict that nobody writes -/
theorem zs_items0 {i : Nat} {f : Str} {b : Bool} {fs : List (Str × ZV)} (cl : Cls K C) (na : NoAttr K C f) (hs : S[i]? = some (some (.c p))) (hm : (p, b, CD.obj C fs) ∈ M) (hf : fs.lookup f = some (.f [])) (q : P.nx S M) : ZS K E (tLock0 (tFor (iItems (tFld K (tVar i) f)) g t)) S M P := fun n σ G H R D k => by
  obtain ⟨v, h1, h2⟩ := R.sl i _ hs
  have ev : v = .ref p := h2
  subst ev
  obtain ⟨_, dx, fv, h3, h4, h5, h6⟩ := R.ce p b _ hm
  obtain ⟨v, l1, d, ws, rfl, l2, rel⟩ := lookup_at h6 hf
  cases rel
  have hd := R.ex _ _ l2
  have np : p ≠ d := ne_of h3 hd (fun z => nomatch z)
  refine ⟨d, hd, fun od => ?_⟩
  refine ⟨_, h1, p, C, dx, fv, _, rfl, by rw [upd_ne np]; exact h3, cl, na, l1, d, od, [], rfl, upd_same, ?_⟩
  refine ⟨fun i m σ' H' => i = 0 ∧ σ' = σ ∧ H' = upd H d (.frz od (.dK [])), ⟨0, rfl, rfl, rfl⟩, ?_⟩
  rintro j m σ' H' ⟨rfl, rfl, rfl⟩
  refine .inl ⟨⟨upd_same, Nat.le_refl _⟩, upd_same, ?_⟩
  rw [back0 hd]
  exact k.nx _ G H S M (Ex.refl G) R q
theorem zw_items0 {i : Nat} {f : Str} {b : Bool} {fs : List (Str × ZV)} {vs : List Nat} (cl : Cls K C) (na : NoAttr K C f) (hs : S[i]? = some (some (.c p))) (hm : (p, b, CD.obj C fs) ∈ M) (hf : fs.lookup f = some (.f [])) (q : Q (.d (.list [])) M) : ZW K E (tLock0E (tLc (iItems (tFld K (tVar i) f)) g tt te vs)) S M Q X := fun n σ G H R Qv k kx => by
  obtain ⟨v, h1, h2⟩ := R.sl i _ hs
  have ev : v = .ref p := h2
  subst ev
  obtain ⟨_, dx, fv, h3, h4, h5, h6⟩ := R.ce p b _ hm
  obtain ⟨v, l1, d, ws, rfl, l2, rel⟩ := lookup_at h6 hf
  cases rel
  have hd := R.ex _ _ l2
  have np : p ≠ d := ne_of h3 hd (fun z => nomatch z)
  refine ⟨d, hd, fun od => ?_⟩
  refine ⟨_, h1, p, C, dx, fv, _, rfl, by rw [upd_ne np]; exact h3, cl, na, l1, d, od, [], rfl, upd_same, fun l hl => ?_⟩
  refine ⟨fun i m H' => i = 0 ∧ H' = upd (upd H d (.frz od (.dK []))) l (.lst []), ⟨0, rfl, rfl⟩, ?_⟩
  rintro j m H' ⟨rfl, rfl⟩
  have nl : l ≠ d := fun z => by rw [z, upd_same] at hl; cases hl
  have hl2 : H l = none := by rw [upd_ne nl] at hl; exact hl
  refine .inl ⟨⟨by rw [upd_ne nl.symm]; exact upd_same, Nat.le_refl _⟩, by rw [upd_ne nl.symm]; exact upd_same, ?_⟩
  have e : upd (upd (upd H d (.frz od (.dK []))) l (.lst [])) d (.dT []) = upd H l (.lst []) := by
    funext c
    by_cases z : c = d
    · rw [z, upd_same, upd_ne nl.symm, hd]
    · rw [upd_ne z]
      by_cases y : c = l
      · rw [y, upd_same, upd_same]
      · rw [upd_ne y, upd_ne z, upd_ne y]
  rw [e]
  have g := ex_gnone R.ex hl2
  exact k (.ref l) _ _ (.d (.list [])) M (Ex.new g) (R.new hl2 (fun _ z => nomatch z)) (.lst (Evl.sq_of upd_same) .nil) q
/-! ### a method that hands back a new dict -/
def spH (K : Fg) (C : Addr) (k : Nat) (R : List (Str × ZV) → List PyData → CD → Prop) : Sp := fun vs H Q E => ∃ (G : Hp) (p : Addr) (fs : List (Str × ZV)) (us : List V) (ds : List PyData) (c : CD), vs = .ref p :: us ∧ ds.length = k ∧ Ex G H ∧ G p = none ∧ CD.at K G H p (.obj C fs) ∧ DzAll K G us ds ∧ R fs ds c ∧
  ∀ q G' H', Ext [p] G H G' H' → (∀ a x, H a = some (.own x) → H' a = some (.own x)) → CD.at K G' H' p (.obj C fs) → H q = none → G' q = none → CD.at K G' H' q c → Q (.ref q) H'
def PFh (p C : Addr) (fs : List (Str × ZV)) (c : CD) : ZP := ⟨fun _ _ => False, fun z M => ∃ q, z = .c q ∧ (q, true, c) ∈ M ∧ (p, false, .obj C fs) ∈ M, fun _ _ => False, fun _ _ => False, fun _ _ _ => False⟩
theorem fn_H {R : List (Str × ZV) → List PyData → CD → Prop} {kk : Nat} {N : List Str} {vs : List V} {Qv : VK} (h : spH K C kk R vs H Qv e0)
    (b : ∀ p fs ds c, ds.length = kk → R fs ds c → ZS K (fun _ => e0) t (some (.c p) :: (stS ds ++ List.replicate (N.length - (ds.length + 1)) none)) [(p, false, .obj C fs)] (PFh p C fs c)) : t { nx := fun _ H' => Qv .non H', rt := Qv } (L2.start N vs) H := by
  obtain ⟨G, p, fs, us, ds, c, rfl, hkk, e, hp, hc, hd, hR, qq⟩ := h
  have hk : ∀ a x, H a = some (.own x) → a ∉ [p] := fun a x h1 z => own_any hc a x h1 (by simpa using z)
  refine b p fs ds c hkk hR ⟨G, H, [p]⟩ _ G H (rel_startC e hp hc hd) _ ⟨fun _ _ _ _ _ _ _ z => z.elim, fun v σ' G' H' z S' M' _ R a z' => ?_, fun _ _ _ _ _ _ _ z => z.elim, fun _ _ _ _ _ _ _ z => z.elim, fun _ _ _ _ _ _ _ _ _ _ _ z => z.elim⟩
  obtain ⟨q, rfl, m1, m2⟩ := z'
  have ev : v = .ref q := a
  subst ev
  exact qq q G' H' R.ext (R.own hk) (R.ce _ _ _ m2).2 (R.o0 _ _ m1) (R.ce _ _ _ m1).1 (R.ce _ _ _ m1).2
theorem len_H {R : List (Str × ZV) → List PyData → CD → Prop} {k : Nat} {vs : List V} {Qv : VK} (h : spH K C k R vs H Qv e0) : vs.length = k + 1 := by
  obtain ⟨G, p, fs, us, ds, c, rfl, hk, e, hp, hc, hd, _⟩ := h
  rw [List.length_cons, dpa_len hd, hk]
theorem Upd1.self {c : CD} {b : Bool} : ∀ {M : Ms}, (p, b, c) ∈ M → ∃ M', Upd1 p b c c M M' ∧ M' = M
  | x :: M, h => by
    rcases List.mem_cons.mp h with z | z
    · subst z; exact ⟨_, .here, rfl⟩
    · obtain ⟨M', u, e⟩ := Upd1.self z
      exact ⟨x :: M', .there u, by rw [e]⟩
theorem zw_methH0 {ar : Nat} {m : Str} {R : List (Str × ZV) → List PyData → CD → Prop} (h : ZW K E te S M (fun z M0 => ∃ p, z = .c p ∧ (∃ b fs0, (p, b, CD.obj C fs0) ∈ M0 ∧ fs0.lookup m = none) ∧ ZA K E tA S M0 (fun zs M1 => ∃ b fs ds c, AllD zs ds ∧ ds.length = ar ∧ (p, b, CD.obj C fs) ∈ M1 ∧ R fs ds c ∧ ∀ q, Q (.c q) ((q, true, c) :: M1)) X) X) :
    ZW K E (tMeth C m (spH K C ar R) [] E0 te tA) S M Q X := fun n σ G H Rl Qv k kx =>
  h n σ G H Rl _ (fun v G0 H0 z M0 e0' R0 a0 ⟨p, hz, ⟨b0, fs0, hm0, hl0⟩, h2⟩ => by
    subst hz
    have ev : v = .ref p := a0
    subst ev
    obtain ⟨_, dx, fv, h3, h4, h5, h6⟩ := R0.ce p b0 _ hm0
    refine ⟨p, dx, fv, rfl, h3, (lookup_paired h6 m).1 hl0, h2 n σ G0 H0 R0 _ (fun vs G1 H1 zs M1 e1 R1 a1 ⟨b, fs, ds, c, hd, hk, hm, hR, qf⟩ => ?_) (kx.mono e0')⟩
    obtain ⟨hp, hc⟩ := R1.ce p b _ hm
    refine ⟨G1, p, fs, _, ds, c, by rw [List.append_nil], hk, R1.ex, hp, hc, zall_d (by rw [← hd]; exact a1), hR, fun q G' H' e own hc' hq gq hcq => ?_⟩
    obtain ⟨M', u, eM⟩ := Upd1.self hm
    have R2 := R1.call1 e u own hc'
    rw [eM] at R2
    exact k (.ref q) G' H' (.c q) _ ((e0'.trans e1).trans e.g) (R2.cell (R1.fresh hq) (R1.notin hq) gq hcq) rfl (qf q)) kx
end
end Z
/-! filter and map over a list, over a range; a walk over enumerate of a list -/
namespace Z
open PySem PySem.Spec PyProof.Rows L2
open Evl (Ex)
section
variable {K : Fg} {E : L2.St → XK} {te ta : TE} {tA : TA} {g : TG} {tt : TT} {t : TS} {S : Zs} {M : Ms} {Q : QZ} {X : XZ} {P : ZP}
theorem lcL_fm {α : Type} {vs : List Nat} (items : List α) (enc f : α → PyData) (p : α → Bool) (h : ZW K E ta S M (fun z M1 => z = .d (.list (items.map enc)) ∧ items.length ≤ sizeLine ∧
      (∀ c ∈ items, ∃ is S2, (∀ j ∈ is, j ∈ vs) ∧ ZG K g (.d (enc c)) (wipeZ S vs) is S2 ∧ ∀ D acc, ZT K E tt S2 ((D, true, .lst acc) :: M1) (fun b Mb => b = p c ∧ Mb = (D, true, .lst acc) :: M1) (fun _ _ _ => False) ∧
        (p c = true → ZW K E te S2 ((D, true, .lst acc) :: M1) (fun y Mc => y = .d (f c) ∧ Mc = (D, true, .lst acc) :: M1) fun _ _ _ => False)) ∧ Q (.d (.list ((items.filter p).map f))) M1) X) : ZW K E (tLc (iList K ta) g tt te vs) S M Q X := by
  refine zw_lcL (h.imp fun z M1 ⟨hz, hl, each, q⟩ => ⟨_, hz, by rw [List.length_map]; exact hl, fun i acc M' => M' = M1 ∧ acc = ((items.take i).filter p).map f, ⟨rfl, by simp⟩, fun i x hx acc M' D hI => ?_, fun acc M' hI => ?_⟩)
  · rw [List.getElem?_map] at hx
    obtain ⟨c, hc, rfl⟩ := Option.map_eq_some_iff.mp hx
    obtain ⟨is, S2, h1, h2, h3⟩ := each c (List.mem_of_getElem? hc)
    obtain ⟨rfl, rfl⟩ := hI
    obtain ⟨h4, h5⟩ := h3 D (((items.take i).filter p).map f)
    refine ⟨is, S2, h1, h2, h4.imp fun b Mb hb => ?_⟩
    obtain ⟨rfl, rfl⟩ := hb
    have st := take_filter p hc
    refine ⟨fun e => ⟨_, rfl, rfl, ?_⟩, fun e => (h5 e).imp fun y Mc hy => ?_⟩
    · rw [st, e]; simp
    · obtain ⟨rfl, rfl⟩ := hy
      exact ⟨_, _, rfl, rfl, rfl, by rw [st, e]; simp⟩
  · obtain ⟨rfl, rfl⟩ := hI
    rw [List.length_map, List.take_length]
    exact q
theorem lcL_map {α : Type} {vs : List Nat} (items : List α) (enc f : α → PyData) (h : ZW K E ta S M (fun z M1 => z = .d (.list (items.map enc)) ∧ items.length ≤ sizeLine ∧
      (∀ c ∈ items, ∃ is S2, (∀ j ∈ is, j ∈ vs) ∧ ZG K g (.d (enc c)) (wipeZ S vs) is S2 ∧ ∀ D acc, ZW K E te S2 ((D, true, .lst acc) :: M1) (fun y Mc => y = .d (f c) ∧ Mc = (D, true, .lst acc) :: M1) fun _ _ _ => False) ∧ Q (.d (.list (items.map f))) M1) X) : ZW K E (tLc (iList K ta) g tYes te vs) S M Q X := by
  refine lcL_fm items enc f (fun _ => true) (h.imp fun z M1 ⟨hz, hl, each, q⟩ => ⟨hz, hl, fun c hc => ?_, by rw [List.filter_eq_self.mpr (fun _ _ => rfl)]; exact q⟩)
  obtain ⟨is, S2, h1, h2, h3⟩ := each c hc
  exact ⟨is, S2, h1, h2, fun D acc => ⟨zt_yes ⟨rfl, rfl⟩, fun _ => h3 D acc⟩⟩
/-- for i, x in enumerate(a list) -/
theorem zs_forE (h : ZA K E tA S M (fun zs M1 => ∃ xs, zs = [.d (.list xs)] ∧ ∃ I : Nat → Zs → Ms → Prop, I 0 S M1 ∧
      (∀ i x S' M', xs[i]? = some x → I i S' M' → ∃ is S2, ZG K g (.d (.tuple [.int (i : Nat), x])) S' is S2 ∧ ZS K E t S2 M' (LoopP P (I (i + 1)))) ∧ (∀ S' M', I xs.length S' M' → P.nx S' M')) P.ex) : ZS K E (tFor (iEnum K tA) g t) S M P := by
  intro n σ G H R D k
  refine h n σ G H R _ (fun vs G1 H1 zs M1 e1 R1 a1 ⟨xs, hz, I, i0, is, id⟩ => ?_) k.xok
  subst hz
  obtain ⟨v, rfl, av⟩ := zall1 a1
  obtain ⟨p, ws, rfl, h1, h2⟩ := dp_lst av
  have hl := dpa_len h2
  have stays : ∀ {G' H' : Hp} {S' M' σ'}, Rel K n S' M' σ' G' H' → Ex G1 G' → SqL K H' p ws := fun R' e' => Evl.ex_l (e'.trans R'.ex) h1
  refine ⟨p, ws, rfl, Evl.ex_l R1.ex h1, fun i m σ' H' => m = ws.length - i ∧ i ≤ ws.length ∧ FI K n G1 I i σ' H', ⟨_, rfl, Nat.zero_le _, G1, S, M1, R1, Ex.refl _, i0⟩, ?_⟩
  rintro i m σ' H' ⟨rfl, hi, G', S', M', R', e', hI⟩
  rcases Nat.lt_or_ge i ws.length with hlt | hge
  · have hw : ws[i]? = some ws[i] := List.getElem?_eq_getElem hlt
    obtain ⟨d, hd, ad⟩ := dpa_at_v h2 hw
    obtain ⟨js, S2, hg, hb⟩ := is i d S' M' hd hI
    refine .inr ⟨⟨ws, _, stays R' e', hw⟩, FI K n G1 I (i + 1), fun σ2 H2 q => ⟨_, by omega, rfl, hlt, q⟩, fun y H2 hy => ?_⟩
    obtain ⟨T, x, rfl, hT, rfl, hx⟩ := hy
    obtain rfl : x = ws[i] := Option.some.inj ((hx ws (stays R' e')).symm.trans hw)
    have gT := ex_gnone R'.ex hT
    have e2 := e'.trans (Ex.new (o := .tup [.int (i : Nat), ws[i]]) gT)
    refine hg n M' σ' _ _ _ (R'.new (o := .tup [.int (i : Nat), ws[i]]) hT (fun _ z => nomatch z)) (.tup (.inl upd_same) (.cons (.int _) (.cons (dp_mono e2 ad) .nil))) _ fun σ2 _ _ R3 => ?_
    exact hb n σ2 _ _ R3 _ ((k.mono (e1.trans e2)).loop fun σ3 G3 H3 S3 M3 e3 R4 i3 => ⟨G3, S3, M3, R4, e2.trans e3, i3⟩)
  · obtain rfl : i = ws.length := by omega
    exact .inl ⟨⟨ws, stays R' e', Nat.le_refl _⟩, k.nx σ' G' H' S' M' (e1.trans e') R' (id S' M' (by rw [← hl]; exact hI))⟩
/-- o.f -= an int -/
theorem zs_fldsub {C : Addr} {f : Str} {to tv : TE} (cl : Cls K C) (na : NoAttr K C f) (h : ZW K E to S M (fun z M1 => ∃ p a, z = .c p ∧ (∃ b0 fs0, (p, b0, CD.obj C fs0) ∈ M1 ∧ fs0.lookup f = some (.d (.int a))) ∧ ZW K E tv S M1 (fun y M2 => ∃ j b fs M3, y = .d (.int j) ∧ fs.length < 1000 ∧ Upd1 p b (.obj C fs) (.obj C (putZ f (.d (.int (a - j))) fs)) M2 M3 ∧ P.nx S M3) P.ex) P.ex) :
    ZS K E (sFldAug K to tv rSub f) S M P := fun n σ G H R D k =>
  h n σ G H R _ (fun w G1 H1 z M1 e1 R1 a1 ⟨p, a, hz, ⟨b0, fs0, hm0, hl0⟩, h2⟩ => by
    subst hz
    obtain rfl : w = .ref p := a1
    obtain ⟨_, dx, fv, h1, h3, h4, h5⟩ := R1.ce p b0 _ hm0
    obtain ⟨x, l1, l2⟩ := lookup_at h5 hl0
    refine ⟨p, C, dx, fv, x, rfl, h1, cl, na, l1, h2 n σ G1 H1 R1 _ (fun y G2 H2 zy M2 e2 R2 a2 ⟨j, b, fs, M3, hy, hl, hu, q⟩ => ?_) (XOk.mono k.xok e1)⟩
    subst hy
    obtain ⟨_, dx', fv', g1, g3, g4, g5⟩ := R2.ce p b _ hu.mem
    exact ⟨a, j, dp_int l2, dp_int a2, dx', fv', g1, by rw [paired_len g5]; exact hl, k.nx σ G2 _ S M3 (e1.trans e2) (R2.putObj hu g1 g3 g4 g5 (v := .int (a - j)) (Dz.int _)) q⟩) k.xok
abbrev rLen0 : List V → Hp → VK → Prop := fun xs H Q => ∃ a, xs = [V.ref a] ∧ H a = some (.dT []) ∧ Q (.int 0) H
theorem zc_len0 (q : Q (.d (.int 0)) M) : ZC K rLen0 [.f []] M Q := zc_val (z := .d (.int 0)) (fun G H vs e a => by
  obtain ⟨v, rfl, av⟩ := zall1 a
  obtain ⟨p, ws, rfl, h1, h2⟩ := av
  cases h2
  exact ⟨_, .int 0, fun Qv hq => ⟨p, rfl, e _ _ h1, hq⟩⟩) q
end
/-- len of an empty dict -/
theorem call_len0 {Y : Cx} : CallR Y (.builtin "len") rLen0 := by
  intro pins s σ H xs us Q I r h
  obtain ⟨a, rfl, ha, q⟩ := h
  obtain ⟨u, rfl, ru⟩ := vals1 r
  cases ru
  have I0 := I
  have x := I.hok a _ ha
  obtain ⟨_, _, _, _, ob, _, _, e, _⟩ := id x
  have I1 : Inv Y pins σ (upd H a (.dK [])) s := I.write (x := a) (e := a) (t' := s.toks) (h' := s.heap) (by rw [ha]; exact trivial) (.inl rfl) (fun b v _ q => q) ⟨ob, e⟩ (dt0_dk0 x)
  refine d_len I1 (.inl upd_same) fun t s' I' => ?_
  have x2 := I'.hok a _ upd_same
  obtain ⟨_, _, _, _, ob2, _, _, e2, _⟩ := id x2
  have I2 : Inv Y pins σ (upd (upd H a (.dK [])) a (.dT [])) s' := I'.write (x := a) (e := a) (t' := s'.toks) (h' := s'.heap) (by rw [upd_same]; exact trivial) (.inl rfl) (fun b v _ q => q) ⟨ob2, e2⟩ (dk0_dt0 x2)
  have back : upd (upd H a (.dK [])) a (.dT []) = H := by
    rw [upd_upd]
    funext c
    by_cases z : c = a
    · rw [z, upd_same, ha]
    · rw [upd_ne z]
  rw [back] at I2
  exact ⟨.int 0, H, I2, ⟨t, rfl⟩, q⟩
/-- three names from a tuple that holds own things -/
theorem zs_asgT3 {kk : Nat} (hk3 : 3 = kk) {K : Fg} {E : L2.St → XK} {tA : TA} {S : Zs} {M : Ms} {i j l : Nat} {P : ZP} (h : ZA K E tA S M (fun zs M1 => ∃ z w y, zs = [z, w, y] ∧ P.nx (((S.set i (some z)).set j (some w)).set l (some y)) M1) P.ex) :
    ZS K E (tAsg (tTup tA) (gTup K kk (gCons (gName i) (gCons (gName j) (gCons (gName l) gNil))))) S M P := fun n σ G H R D k =>
  h n σ G H R _ (fun vs G1 H1 zs M1 e1 R1 a1 ⟨z, w, y, hz, q⟩ => by
    subst hz
    cases a1 with
    | cons a b => cases b with | cons b c => cases c with | cons c d => cases d with | nil =>
      refine ⟨by rw [sizeLine_eq]; exact Nat.le_of_ble_eq_true rfl, fun p hp => ?_⟩
      have e2 : ∀ o, Ex G1 (upd G1 p o) := fun o => Ex.new (ex_gnone R1.ex hp)
      refine ⟨p, _, rfl, .inl (.inl upd_same), hk3, _, _, rfl, _, _, rfl, _, _, rfl, rfl, ?_⟩
      exact k.nx _ _ _ _ M1 (e1.trans (e2 _)) ((((R1.new hp (by intro _ z; cases z)).set (ZV.mono (e2 _) a)).set (ZV.mono (e2 _) b)).set (ZV.mono (e2 _) c)) q) k.xok
end Z
/-! all of a list of bools -/
namespace Z
open PySem PySem.Spec PyProof.Rows L2
open Evl (Ex)
section
variable {K : Fg} {M : Ms} {Q : QZ}
theorem zc_all {bs : List Bool} (q : Q (.d (.bool (bs.all id))) M) : ZC K (rAll K) [.d (.list (bs.map .bool))] M Q := zc_val (z := .d (.bool (bs.all id))) (fun G H vs e a => by
  obtain ⟨v, rfl, av⟩ := zall1 a
  obtain ⟨p, ws, rfl, h1, h2⟩ := dp_lst av
  rw [dza_bools h2] at h1
  exact ⟨.bl _, Dz.bl _, fun Qv hq => ⟨p, bs, rfl, Evl.ex_l e h1, hq⟩⟩) q
end
/-- try .. except C: suite -/
def tTryO (K : Fg) (tb : WX → TS) (c : Value) (ts : Addr → Value → Option Addr → TS) (Wout : WX) : TS := fun D σ H => tb (wOnly K c ts Wout D) D σ H
theorem zs_tryO {K : Fg} {E : L2.St → XK} {S : Zs} {M : Ms} {tb : WX → TS} {c : Value} {ts : Addr → Value → Option Addr → TS} {Wout : WX} {P : ZP}
    (h : ∀ W : WX, ZS K (fun σ cls d H => W cls d σ H) (tb W) S M { P with ex := fun x S' M' => PySem.W.exmOne K (.ref x.cls) c = some true ∧ ∀ a d, ZS K E (ts a (.ref x.cls) d) S' M' P }) :
    ZS K E (tTryO K tb c ts Wout) S M P := fun n σ G H R D k =>
  h (wOnly K c ts Wout D) n σ G H R D ⟨k.nx, k.rt, k.bk, k.ct, fun cls d σ' G' H' x S' M' e R' a ⟨he, hs⟩ => by
    have ec : cls = .ref x.cls := a.1
    subst ec
    exact ⟨true, he, fun _ ad _ => hs ad d n σ' G' H' R' D (k.mono e), fun z => nomatch z⟩⟩
section
variable {K : Fg} {E : L2.St → XK} {e0 : XK} {te : TE} {tA : TA} {t : TS} {S : Zs} {M M2 : Ms} {Q : QZ} {X : XZ} {n : Sn} {σ : L2.St} {G G' H H' : Hp} {p q q' C : Addr}
theorem Rel.call2G {bp bq : Bool} {c d c' d' : CD} (R : Rel K n S ((p, bp, c) :: (q, bq, d) :: M) σ G H) (e : Ext [p, q] G H G' H') (own : ∀ a x, H a = some (.own x) → H' a = some (.own x)) (fr : q' = q ∨ H q' = none) (ne : q' ≠ p) (gq : G' q' = none)
    (h1 : CD.at K G' H' p c') (h2 : CD.at K G' H' q' d') : ∃ b', Rel K n S ((p, bp, c') :: (q', b', d') :: M) σ G' H' := by
  have mp : (p, bp, c) ∈ (p, bp, c) :: (q, bq, d) :: M := List.mem_cons_self
  have mq : (q, bq, d) ∈ (p, bp, c) :: (q, bq, d) :: M := List.mem_cons_of_mem _ List.mem_cons_self
  have mM : ∀ x, x ∈ M → x ∈ (p, bp, c) :: (q, bq, d) :: M := fun x h => List.mem_cons_of_mem _ (List.mem_cons_of_mem _ h)
  have nd := R.nd
  rw [List.map_cons, List.map_cons, List.nodup_cons, List.nodup_cons] at nd
  obtain ⟨n1, n2, n3⟩ := nd
  have off : ∀ r b x, (r, b, x) ∈ M → r ∉ [p, q] := fun r b x h z => by
    have hr : r ∈ M.map (·.1) := List.mem_map.mpr ⟨_, h, rfl⟩
    rcases List.mem_cons.mp z with z | z
    · subst z; exact n1 (List.mem_cons_of_mem _ hr)
    · have z : r = q := by simpa using z
      subst z; exact n2 hr
  have base : ∀ a o, n.H a = some o → a ∉ n.A → a ∉ [p, q] := fun a o h na z => by
    rcases List.mem_cons.mp z with z | z
    · subst z
      cases bp with
      | true => rw [R.o0 a _ mp] at h; cases h
      | false => exact na (R.a0 a _ mp)
    · have z : a = q := by simpa using z
      subst z
      cases bq with
      | true => rw [R.o0 a _ mq] at h; cases h
      | false => exact na (R.a0 a _ mq)
  have pick : ∃ b', (b' = false → q' ∈ n.A) ∧ (b' = true → n.H q' = none) := by
    rcases fr with z | z
    · rw [z]
      cases bq with
      | true => exact ⟨true, fun z => (nomatch z), fun _ => R.o0 q _ mq⟩
      | false => exact ⟨false, fun _ => R.a0 q _ mq, fun z => (nomatch z)⟩
    · exact ⟨true, fun z => (nomatch z), fun _ => R.fresh z⟩
  obtain ⟨b', pf, pt⟩ := pick
  refine ⟨b', ?_⟩
  refine ⟨e.x, R.len, fun i z hz => ?_, ?_, fun r b x hm => ?_, R.g0.trans e.g, fun a o h1 h2 => e.h a o (R.h0 a o h1 h2) (base a o h1 h2), fun a o h1 => ?_, fun a o h1 h2 => ?_, fun r x hm => ?_, fun r x hm => ?_⟩
  · obtain ⟨v, q1, q2⟩ := R.sl i z hz
    exact ⟨v, q1, ZV.mono e.g q2⟩
  · rw [List.map_cons, List.map_cons, List.nodup_cons, List.nodup_cons]
    have f1 : q' ∉ M.map (·.1) := by
      rcases fr with z | z
      · rw [z]; exact n2
      · intro hm
        exact R.notin z (List.mem_cons_of_mem _ (List.mem_cons_of_mem _ hm))
    refine ⟨fun hm => ?_, f1, n3⟩
    rcases List.mem_cons.mp hm with z | z
    · exact ne z.symm
    · exact n1 (List.mem_cons_of_mem _ z)
  · rcases List.mem_cons.mp hm with z | hm
    · cases z
      obtain ⟨g, hc⟩ := R.ce _ _ _ mp
      obtain ⟨u, hu, _⟩ := CD.there hc
      obtain ⟨u2, hu2, _, nt⟩ := CD.there h1
      exact ⟨gn_none e.x (e.f _ u hu g) hu2 nt, h1⟩
    · rcases List.mem_cons.mp hm with z | hm
      · cases z
        exact ⟨gq, h2⟩
      · obtain ⟨g, hc⟩ := R.ce r b x (mM _ hm)
        obtain ⟨u, hu, _, nt⟩ := CD.there hc
        exact ⟨gn_none e.x (e.f r u hu g) (e.h _ _ hu (off r b x hm)) nt, CD.stay hc e.g (fun o h => e.h _ _ h (off r b x hm)) fun a y h => ⟨own a y h, fun g => gn_none e.x (e.f a _ h g) (own a y h) (fun _ z => nomatch z)⟩⟩
  · obtain ⟨o', z⟩ := R.lv a o h1
    exact e.l a o' z
  · obtain ⟨o', z⟩ := R.lv a o h1
    exact gn_trans e.g (R.f0 a o h1 h2) (e.f a o' z)
  · rcases List.mem_cons.mp hm with z | hm
    · cases z; exact R.a0 p _ mp
    · rcases List.mem_cons.mp hm with z | hm
      · cases z; exact pf rfl
      · exact R.a0 r x (mM _ hm)
  · rcases List.mem_cons.mp hm with z | hm
    · cases z; exact R.o0 p _ mp
    · rcases List.mem_cons.mp hm with z | hm
      · cases z; exact pt rfl
      · exact R.o0 r x (mM _ hm)
theorem zw_methG {ar : Nat} {m : Str} {R : FsF → CD → List PyData → PyData → FsF → CD → Prop} (h : ZW K E te S M (fun z M0 => ∃ p, z = .c p ∧ (∃ b fs0, (p, b, CD.obj C fs0) ∈ M0 ∧ fs0.lookup m = none) ∧ ZA K E tA S M0 (fun zs M1 => ∃ bp bq q fs cd ds d fs' cd' M2, AllD zs ds ∧ ds.length = ar ∧ M1.Perm ((p, bp, .obj C (fs q)) :: (q, bq, cd) :: M2) ∧ R fs cd ds d fs' cd' ∧ ∀ q' b', Q (.d d) ((p, bp, .obj C (fs' q')) :: (q', b', cd') :: M2)) X) X) :
    ZW K E (tMeth C m (spF K C ar R) [] E0 te tA) S M Q X := fun n σ G H Rl Qv k kx =>
  h n σ G H Rl _ (fun v G0 H0 z M0 e0' R0 a0 ⟨p, hz, ⟨b0, fs0, hm0, hl0⟩, h2⟩ => by
    subst hz
    have ev : v = .ref p := a0
    subst ev
    obtain ⟨_, dx, fv, h3, h4, h5, h6⟩ := R0.ce p b0 _ hm0
    refine ⟨p, dx, fv, rfl, h3, (lookup_paired h6 m).1 hl0, h2 n σ G0 H0 R0 _ (fun vs G1 H1 zs M1 e1 R1 a1 ⟨bp, bq, q, fs, cd, ds, d, fs', cd', M2, hd, hk, hp, hR, qf⟩ => ?_) (kx.mono e0')⟩
    have R2 := R1.perm hp
    have mp := R2.ce p bp _ List.mem_cons_self
    have mq := R2.ce q bq _ (List.mem_cons_of_mem _ List.mem_cons_self)
    have ne : p ≠ q := by
      have := R2.nd
      rw [List.map_cons, List.map_cons, List.nodup_cons] at this
      intro z
      exact this.1 (by rw [z]; exact List.mem_cons_self)
    refine ⟨G1, p, q, fs, cd, _, ds, d, fs', cd', by rw [List.append_nil], hk, R1.ex, ne, mp.1, mq.1, mp.2, mq.2, zall_d (by rw [← hd]; exact a1), hR, fun v q' G' H' e own fr ne2 gq c1 c2 a => ?_⟩
    obtain ⟨b', R3⟩ := R2.call2G e own fr ne2 gq c1 c2
    exact k v G' H' (.d d) _ ((e0'.trans e1).trans e.g) R3 a (qf q' b')) kx
end
end Z
/-! a def that hands back None or a new own object; an own object is not None; a tuple many times -/
namespace Z
open PySem PySem.Spec PyProof.Rows L2
open Evl (Ex)
/-- None, or an object of a class with its fields -/
abbrev MayO := Option (Addr × List (Str × ZV))
def spM (K : Fg) (k : Nat) (R : List PyData → MayO → Prop) : Sp := fun vs H Q E => ∃ (G : Hp) (ds : List PyData) (o : MayO), Ex G H ∧ ds.length = k ∧ DzAll K G vs ds ∧ R ds o ∧
  (o = none → ∀ G' H', Ext [] G H G' H' → Q .non H') ∧
  (∀ C fs, o = some (C, fs) → ∀ p G' H', Ext [] G H G' H' → H p = none → G' p = none → CD.at K G' H' p (.obj C fs) → Q (.ref p) H')
def PFm (o : MayO) : ZP := ⟨fun _ _ => o = none, fun z M => (z = .d .none ∧ o = none) ∨ ∃ p C fs, z = .c p ∧ o = some (C, fs) ∧ (p, true, .obj C fs) ∈ M, fun _ _ => False, fun _ _ => False, fun _ _ _ => False⟩
section
variable {K : Fg} {E : L2.St → XK} {e0 : XK} {te ta tb : TE} {tA : TA} {t : TS} {S : Zs} {M : Ms} {P : ZP} {Q : QZ} {X : XZ} {n : Sn} {σ : L2.St} {G G' H H' : Hp}
theorem fn_M {R : List PyData → MayO → Prop} {k : Nat} {N : List Str} {vs : List V} {Qv : VK} (h : spM K k R vs H Qv e0) (b : ∀ ds o, ds.length = k → R ds o → ZS K (fun _ => e0) t (stS ds ++ List.replicate (N.length - ds.length) none) [] (PFm o)) : t { nx := fun _ H' => Qv .non H', rt := Qv } (L2.start N vs) H := by
  obtain ⟨G, ds, o, e, hk, hd, hR, q0, q1⟩ := h
  refine b ds o hk hR ⟨G, H, []⟩ _ G H (rel_start e hd) _ ⟨fun σ' G' H' S' M' _ R z => q0 z G' H' R.ext, fun v σ' G' H' z S' M' _ R a z' => ?_, fun _ _ _ _ _ _ _ z => z.elim, fun _ _ _ _ _ _ _ z => z.elim, fun _ _ _ _ _ _ _ _ _ _ _ z => z.elim⟩
  rcases z' with ⟨hz, z'⟩ | ⟨p, C, fs, hz, z', hm⟩
  · subst hz
    rw [dp_non a]
    exact q0 z' G' H' R.ext
  · subst hz
    obtain rfl : v = .ref p := a
    obtain ⟨h1, h2⟩ := R.ce p true _ hm
    exact q1 C fs z' p G' H' R.ext (R.o0 p _ hm) h1 h2
theorem len_M {R : List PyData → MayO → Prop} {k : Nat} {vs : List V} {Qv : VK} (h : spM K k R vs H Qv e0) : vs.length = k := by
  obtain ⟨G, ds, o, e, hk, hd, _⟩ := h
  rw [dpa_len hd, hk]
theorem zw_callM0 {ar : Nat} {R : List PyData → MayO → Prop} (h : ZA K E tA S M (fun zs M1 => ∃ ds o, AllD zs ds ∧ ds.length = ar ∧ R ds o ∧ (o = none → Q (.d .none) M1) ∧ ∀ C fs, o = some (C, fs) → ∀ p, Q (.c p) ((p, true, .obj C fs) :: M1)) X) : ZW K E (tCall (spM K ar R) [] E0 tA) S M Q X := fun n σ G H Rl Qv k kx =>
  h n σ G H Rl _ (fun vs G1 H1 zs M1 e1 R1 a1 ⟨ds, o, hd, hk, hR, q0, q1⟩ => by
    refine ⟨G1, ds, o, R1.ex, hk, ?_, hR, fun ho G' H' e => k .non G' H' (.d .none) M1 (e1.trans e.g) (R1.call e) .non (q0 ho), fun C fs ho p G' H' e hp hg hc => ?_⟩
    · rw [List.append_nil]
      exact zall_d (by rw [← hd]; exact a1)
    · exact k (.ref p) G' H' (.c p) _ (e1.trans e.g) ((R1.call e).cell (R1.fresh hp) (R1.notin hp) hg hc) rfl (q1 C fs ho p)) kx
theorem zs_perm {t : TS} {P : ZP} {M' : Ms} (hp : M.Perm M') (h : ZS K E t S M' P) : ZS K E t S M P := fun n σ G H R D k => h n σ G H (R.perm hp) D k
theorem zs_two {t : TS} {P : ZP} {x y : Addr × Bool × CD} (h2 : Two x y M) (h : ZS K E t S [x, y] P) : ZS K E t S M P := by
  rcases h2 with h2 | h2
  · exact zs_weak h rfl (fun _ _ z => z) h2
  · exact zs_weak (zs_perm (.swap _ _ _) h) rfl (fun _ _ z => z) h2
theorem zo_notNC {p : Addr} (q : Q (.d (.bool true)) M) : ZO K (fun x y H Q => y = V.non ∧ Q (.bl (!decide (x = V.non))) H) (.c p) (.d .none) M Q := fun n S σ G H R v u a b Qv k => by
  obtain rfl : v = .ref p := a
  refine ⟨dp_non b, ?_⟩
  rw [decide_eq_false (fun z => nomatch z)]
  exact k (.bl true) G H (.d (.bool true)) M (Ex.refl G) R (Dz.bl _) q
theorem zo_isNC {p : Addr} (q : Q (.d (.bool false)) M) : ZO K (fun x y H Q => y = V.non ∧ Q (.bl (decide (x = V.non))) H) (.c p) (.d .none) M Q := fun n S σ G H R v u a b Qv k => by
  obtain rfl : v = .ref p := a
  refine ⟨dp_non b, ?_⟩
  rw [decide_eq_false (fun z => nomatch z)]
  exact k (.bl false) G H (.d (.bool false)) M (Ex.refl G) R (Dz.bl _) q
theorem dpa_flat_rep {vs : List V} {ds : List PyData} (h : DzAll K G vs ds) : ∀ k : Nat, DzAll K G (List.replicate k vs).flatten (List.replicate k ds).flatten
  | 0 => .nil
  | k + 1 => by
    rw [List.replicate_succ, List.replicate_succ, List.flatten_cons, List.flatten_cons]
    exact dpa_app h (dpa_flat_rep h k)
theorem zo_repT {xs : List PyData} {k : Int} (hne : xs ≠ []) (hk : 2 ≤ k ∧ k ≤ 1000) (hl : xs.length ≤ 1000) (q : Q (.d (.tuple (List.replicate k.toNat xs).flatten)) M) : ZO K (rRepT K) (.d (.tuple xs)) (.d (.int k)) M Q := fun n S σ G H R v u a b Qv kk => by
  obtain ⟨p, vs, rfl, h1, h2⟩ := dp_tup a
  have hv : vs ≠ [] := fun z => hne (by subst z; cases h2; rfl)
  refine ⟨p, k, vs, rfl, dp_int b, Evl.ex_t R.ex h1, hv, hk.1, hk.2, by rw [dpa_len h2]; exact hl, fun r hr => ?_⟩
  have g := ex_gnone R.ex hr
  exact kk (.ref r) _ _ (.d (.tuple (List.replicate k.toNat xs).flatten)) M (Ex.new g) (R.new hr (fun _ z => nomatch z)) (Dz.tup (.inl upd_same) (dpAll_mono (Ex.new g) (dpa_flat_rep h2 k.toNat))) q
end
/-- f(), f a def of the module without arguments -/
theorem pe_cl0 {X : Cx} {j k : Nat} {x : Str} {sp : Sp} {E : XK} {p pos : Pos} (c : Cal X.prog X.w X.K X.mg X.base k x sp) (hr : Room j X.A) (hk : k ≤ j) (hx : Passes (L2.CX X.prog X.w) X E) (hg : Gl X x := by rfl) (hdb : (x == ("__debug__" : Str)) = false := by decide) : PE X (.Call (.Name x p) [] [] pos) (tCall sp [] E tNil) := by
  obtain ⟨f, fd, ps, F, hm, hkp, hb⟩ := c
  exact pe_call0 F (hr.mono hk) hg hm hkp hb .nil hx hdb
end Z
/-! min over a list of nested data; [e for x in a list for y in range(n)] -/
namespace Z
open PySem PySem.Spec PyProof.Rows L2
open Evl (Ex)
/-- min(a list of data that are alike): one of them, the first of the least -/
def rMinD (K : Fg) : List V → Hp → VK → Prop := fun xs H Q => ∃ (p : Addr) (vs : List V) (x : PyData) (ds : List PyData), xs = [.ref p] ∧ SqL K H p vs ∧ L2.DpAll K H vs (x :: ds) ∧ PySem.W.AlikeAll (x :: ds) ∧ PyData.depthAll (x :: ds) ≤ 60 ∧ PyData.canLayAll0 (x :: ds) = true ∧
  ∀ (i : Nat) (v : V), vs[i]? = some v → (x :: ds)[i]? = some (PySem.W.minD x ds) → Q v H
theorem vals_at : ∀ {vs : List V} {us : List Value}, Vals vs us → ∀ (i : Nat) (u : Value), us[i]? = some u → ∃ v, vs[i]? = some v ∧ RelV v u
  | _, _, .nil, i, u, h => by simp at h
  | _, _, .cons a b, 0, u, h => by
    cases h
    exact ⟨_, rfl, a⟩
  | _, _, .cons a b, i + 1, u, h => vals_at b i u h
theorem reads_at : ∀ {h : Heap} {us : List Value} {ds : List PyData} {as : List Addr}, ReadsAll h us ds as → ∀ (i : Nat) (u : Value), us[i]? = some u → ∃ d bs, ds[i]? = some d ∧ Reads h u d bs
  | _, _, _, _, .nil, i, u, h => by simp at h
  | _, _, _, _, .cons a b, 0, u, h => by
    cases h
    exact ⟨_, _, rfl, a⟩
  | _, _, _, _, .cons a b, i + 1, u, h => reads_at b i u h
theorem lay_at : ∀ {ds : List PyData}, PyData.canLayAll0 ds = true → ∀ d ∈ ds, d.canLay0 = true
  | [], _, d, h => (nomatch h)
  | x :: ds, h, d, hd => by
    have h : (x.canLay0 && PyData.canLayAll0 ds) = true := by simpa [PyData.canLayAll0] using h
    rw [Bool.and_eq_true] at h
    rcases List.mem_cons.mp hd with z | z
    · rw [z]; exact h.1
    · exact lay_at h.2 d z
theorem cr_minD {Y : Cx} (hc : Y.calm = true) (hu : Y.A.units + 64 < cLine) : CallR Y (.builtin "min") (rMinD Y.K) := by
  intro pins s σ H xs us Q I r h
  obtain ⟨p, vs, x, ds, rfl, hs, hd, ha, hdep, hlay, q⟩ := h
  obtain ⟨its, rv, hl, _⟩ := I.list hs
  rw [Vals.ref1 r]
  obtain ⟨as, hr⟩ := L2.Dp.readsAll I (x :: ds) vs its hd rv
  refine PySem.W.min_list_data (vs := its.toArray) (I.ok.hd hc) hl.isList hr ha (by omega) fun i u h' tk bs hu2 hr2 hk => ?_
  have hu3 : its[i]? = some u := by simpa using hu2
  obtain ⟨v, hv, ru⟩ := vals_at rv i u hu3
  obtain ⟨d, bs2, hd2, hr3⟩ := reads_at hr i u hu3
  have e : d = PySem.W.minD x ds := PySem.SeqAt.Reads.unique d _ u bs2 bs (lay_at hlay d (List.mem_of_getElem? hd2)) (Reads.keeps hk hr3) hr2
  rw [e] at hd2
  exact ⟨v, H, I.kept hk, ru, q i v hv hd2⟩
section
variable {K : Fg} {E : L2.St → XK} {ta : TE} {tB : TA} {g g1 : TG} {te : TE} {S : Zs} {M : Ms} {Q : QZ} {X : XZ}
theorem zc_minD {x : PyData} {xs : List PyData} (ha : PySem.W.AlikeAll (x :: xs)) (hd : PyData.depthAll (x :: xs) ≤ 60) (hl : PyData.canLayAll0 (x :: xs) = true) (q : Q (.d (PySem.W.minD x xs)) M) : ZC K (rMinD K) [.d (.list (x :: xs))] M Q := fun n S σ G H R vs a Qv k => by
  obtain ⟨v, rfl, av⟩ := zall1 a
  obtain ⟨p, ws, rfl, h1, h2⟩ := dp_lst av
  refine ⟨p, ws, x, xs, rfl, Evl.ex_l R.ex h1, dzAll_dp (dpAll_mono R.ex h2), ha, hd, hl, fun i v hv hm => ?_⟩
  obtain ⟨d, hd, ad⟩ := dpa_at_v h2 hv
  rw [hm] at hd
  cases hd
  exact k v G H (.d _) M (Ex.refl G) R ad q
theorem zc_minC {q : Addr} {b : Bool} {x : PyData} {xs : List PyData} (hm : (q, b, CD.lst (x :: xs)) ∈ M) (ha : PySem.W.AlikeAll (x :: xs)) (hd : PyData.depthAll (x :: xs) ≤ 60) (hl : PyData.canLayAll0 (x :: xs) = true) (k0 : Q (.d (PySem.W.minD x xs)) M) : ZC K (rMinD K) [.c q] M Q := fun n S σ G H R vs a Qv k => by
  obtain ⟨v, rfl, av⟩ := zall1 a
  obtain rfl : v = .ref q := av
  obtain ⟨_, ws, h1, h2⟩ := R.ce q b _ hm
  refine ⟨q, ws, x, xs, rfl, Evl.sq_of h1, dzAll_dp (dpAll_mono R.ex h2), ha, hd, hl, fun i v hv hm => ?_⟩
  obtain ⟨d, hd, ad⟩ := dpa_at_v h2 hv
  rw [hm] at hd
  cases hd
  exact k v G H (.d _) M (Ex.refl G) R ad k0
theorem zw_lc2L {vs vs1 : List Nat} {xs : List PyData} {m : Int} {r d : Nat} (f : Nat → Nat → PyData) (hr : r ∈ vs) (hd : d ∈ vs1) (hg : g = gName r) (hg1 : g1 = gName d)
    (hz : xs.length * m.toNat ≤ sizeLine) (hm : 0 ≤ m ∧ m < 2 ^ 62)
    (hA : ZW K E ta S M (fun z M1 => z = .d (.list xs) ∧ M1 = M) X)
    (hB : ∀ S2 M2, ZA K E tB S2 M2 (fun zs M1 => zs = [.d (.int m)] ∧ M1 = M2) fun _ _ _ => False)
    (hE : ∀ (i j : Nat) (x : PyData) (M2 : Ms), xs[i]? = some x → j < m.toNat → ZW K E te ((wipeZ ((wipeZ S vs).set r (some (.d x))) vs1).set d (some (.d (.int (0 + (j : Nat)))))) M2 (fun z M3 => z = .d (f i j) ∧ M3 = M2) fun _ _ _ => False)
    (q : Q (.d (.list (gridL f m.toNat xs.length 0))) M) : ZW K E (tLc2 (iList K ta) g tYes (iRng1 tB) g1 tYes te vs vs1) S M Q X := fun n σ G H R Qv k kx => by
  subst hg hg1
  refine hA n σ G H R _ (fun v G1 H1 z M1 e1 R1 a1 ⟨hzs, hM⟩ => ?_) kx
  subst hzs hM
  obtain ⟨p, ws, rfl, w1, w2⟩ := dp_lst a1
  have hwl := dpa_len w2
  have stays : ∀ {S' : Zs} {M' : Ms} {σ' : L2.St} {G' H' : Hp}, Rel K n S' M' σ' G' H' → Ex G1 G' → SqL K H' p ws := fun R' e' => Evl.ex_l (e'.trans R'.ex) w1
  refine ⟨p, rfl, ⟨ws, Evl.ex_l R1.ex w1⟩, fun D hD => ?_⟩
  let N := xs.length
  let L := m.toNat
  let A : Nat → Hp → Prop := fun i H' => ∃ G', Rel K n (wipeZ S vs) ((D, true, .lst (gridL f L i 0)) :: M1) (L2.wipe σ vs) G' H' ∧ Ex G1 G'
  refine ⟨fun i m H' => m = N - i ∧ i ≤ N ∧ A i H', ⟨N, rfl, Nat.zero_le _, G1, (R1.newLst hD .nil).wipe vs, Ex.refl G1⟩, ?_⟩
  rintro i m' H2 ⟨rfl, hi, G2, R2, e2⟩
  by_cases hlt : i < N
  · have hw : ws[i]? = some ws[i] := List.getElem?_eq_getElem (by rw [hwl]; exact hlt)
    obtain ⟨xi, hxi, axi⟩ := dpa_at_v w2 hw
    refine .inr ⟨⟨ws, _, stays R2 e2, hw⟩, A (i + 1), fun H' h' => ⟨N - (i + 1), by omega, rfl, hlt, h'⟩, fun x H' hy => ?_⟩
    obtain ⟨hH, hx⟩ := hy
    subst hH
    obtain rfl : x = ws[i] := Option.some.inj ((hx ws (stays R2 e2)).symm.trans hw)
    show _ ∧ _
    have R3 := R2.set (i := r) (v := ws[i]) (z := .d xi) (dp_mono e2 axi)
    refine ⟨wipe_eq (by simp) fun j hj => by rw [List.getElem?_set_ne (fun e => hj (by rw [← e]; exact hr))], ?_⟩
    show tYes _ _ _
    refine hB _ _ n _ G2 _ R3 _ (fun us G3 H3 zs M3 e3 R3' a3 ⟨hzs, hM⟩ => ?_) (fun _ _ _ _ _ _ _ _ _ _ z => z.elim)
    subst hzs hM
    obtain ⟨v, rfl, av⟩ := zall1 a3
    have ev := dp_int av
    subst ev
    refine ⟨m, rfl, by omega, hm.2, ?_⟩
    generalize hS2 : (wipeZ S vs).set r (some (.d xi)) = S2 at R3'
    generalize hσ2 : (L2.wipe σ vs).set r (some ws[i]) = σ2 at R3'
    let B : Nat → Hp → Prop := fun j H' => ∃ G', Rel K n S2 ((D, true, .lst (gridL f L i j)) :: M1) σ2 G' H' ∧ Ex G3 G'
    refine ⟨fun j k H' => k = L - j ∧ j ≤ L ∧ B j H', ⟨L, rfl, Nat.zero_le _, G3, R3', Ex.refl G3⟩, ?_⟩
    rintro j k' H4 ⟨rfl, hj, G4, R4, e4⟩
    by_cases hjl : j < L
    · refine .inr ⟨hjl, B (j + 1), fun H' h' => ⟨L - (j + 1), by omega, rfl, hjl, h'⟩, fun y H' hy => ?_⟩
      obtain ⟨hH, hx⟩ := hy
      subst hH hx
      show _ ∧ _
      have R5 := (R4.wipe vs1).set (i := d) (v := .int (0 + (j : Nat))) (z := .d (.int (0 + (j : Nat)))) (Dz.int _)
      refine ⟨wipe_eq (by simp) fun l hl => by rw [List.getElem?_set_ne (fun e => hl (by rw [← e]; exact hd))], ?_⟩
      show tYes _ _ _
      rw [← hS2] at R5
      refine hE i j xi _ hxi hjl n _ G4 _ R5 _ (fun w G6 H6 z M6 e6 R6 a6 ⟨hz6, hM6⟩ => ?_) (fun _ _ _ _ _ _ _ _ _ _ z => z.elim)
      subst hz6 hM6
      obtain ⟨_, wl, h1, h2⟩ := R6.ce D true _ m0
      have hlen := gridL_len f L i j
      have hb : i * L + j < sizeLine := by
        have h1 : (i + 1) * L ≤ N * L := Nat.mul_le_mul_right L hlt
        rw [Nat.succ_mul] at h1
        have h2 : N * L ≤ sizeLine := hz
        omega
      refine ⟨wl, h1, by rw [dpa_len h2, hlen]; exact hb, G6, ?_, e4.trans e6⟩
      rw [gridL_cell]
      exact (R4.reslot R6 e6).putLst .here (dpa_app h2 (dpa_one a6))
    · have e : j = L := by omega
      subst e
      refine .inl ⟨Nat.le_refl _, G4, ?_, (e2.trans e3).trans e4⟩
      rw [← gridL_row]
      exact R2.reslot R4 (e3.trans e4)
  · have e : i = N := by omega
    subst e
    refine .inl ⟨⟨ws, stays R2 e2, by rw [hwl]; exact Nat.le_refl _⟩, ?_⟩
    obtain ⟨G5, e5, R5, d5⟩ := R2.frz .here
    exact k (.ref D) G5 H2 (.d (.list (gridL f L N 0))) M1 ((e1.trans e2).trans e5) (R1.reslot R5 (e2.trans e5)) d5 q
end
end Z
/-! dicts by whole numbers or texts: k in d, d.pop(k), {k: e for ..}; own lists: pop, extend, walked, made by comprehensions, sorted; every second of four -/
namespace Z
open PySem PySem.Spec PyProof.Rows L2
open Evl (Ex)
abbrev DKr (K : Fg) (G : Hp) : List (Key × V) → List (Key × PyData) → Prop := Paired (fun a b => a.1 = b.1 ∧ Dz K G a.2 b.2)
/-- what is held by a key -/
def heldK (kvs : List (Key × PyData)) (k : Key) : Option PyData := (kvs.find? fun kv => decide (kv.1 = k)).map (·.2)
def dropD (kvs : List (Key × PyData)) (k : Key) : List (Key × PyData) := kvs.filter fun kv => decide (kv.1 ≠ k)
def putD (kvs : List (Key × PyData)) (k : Key) (d : PyData) : List (Key × PyData) := if (kvs.any fun kv => decide (kv.1 = k)) = true then kvs.map fun kv => if kv.1 = k then (kv.1, d) else kv else kvs ++ [(k, d)]
section
variable {K : Fg} {E : L2.St → XK} {te ta td tk tv to : TE} {tA tB : TA} {g g1 : TG} {tt : TT} {t : TS} {S S' : Zs} {M M' : Ms} {Q : QZ} {X : XZ} {P : ZP} {n : Sn} {σ : L2.St} {G G' H H' : Hp} {p : Addr}
theorem heldK_rel {ws : List (Key × V)} {kvs : List (Key × PyData)} (h : DKr K G ws kvs) (k : Key) : (heldK kvs k = none ∧ valV ws k = none) ∨ ∃ d v, heldK kvs k = some d ∧ valV ws k = some v ∧ Dz K G v d := by
  induction h with
  | nil => exact .inl (And.intro rfl rfl)
  | @cons a b ws kvs q _ ih =>
    unfold heldK valV at ih ⊢
    rw [List.find?_cons, List.find?_cons, ← q.1]
    by_cases e : a.1 = k
    · rw [decide_eq_true e]
      exact .inr ⟨_, _, rfl, rfl, q.2⟩
    · rw [decide_eq_false e]
      exact ih
theorem dropD_rel {ws : List (Key × V)} {kvs : List (Key × PyData)} (h : DKr K G ws kvs) (k : Key) : DKr K G (dropK ws k) (dropD kvs k) := by
  induction h with
  | nil => exact .nil
  | @cons a b ws kvs q _ ih =>
    unfold dropK dropD at ih ⊢
    rw [List.filter_cons, List.filter_cons, ← q.1]
    split
    · exact .cons q ih
    · exact ih
theorem putD_rel {ws : List (Key × V)} {kvs : List (Key × PyData)} (h : DKr K G ws kvs) (k : Key) {v : V} {d : PyData} (a : Dz K G v d) : DKr K G (putK ws k v) (putD kvs k d) := by
  have an : (ws.any fun kv => decide (kv.1 = k)) = kvs.any fun kv => decide (kv.1 = k) := by
    induction h with
    | nil => rfl
    | cons q _ ih => rw [List.any_cons, List.any_cons, ih, q.1]
  unfold putK putD
  rw [an]
  split
  · rename_i hh
    clear an hh
    induction h with
    | nil => exact .nil
    | @cons x y ws kvs q _ ih =>
      simp only [List.map_cons]
      refine .cons ?_ ih
      rw [← q.1]
      split
      · exact ⟨rfl, a⟩
      · exact q
  · rename_i hh
    clear an hh
    induction h with
    | nil => exact .cons ⟨rfl, a⟩ .nil
    | cons q _ ih => exact .cons q ih
theorem Rel.putDK {b : Bool} {xs ys : List (Key × PyData)} {ws : List (Key × V)} (R : Rel K n S M σ G H) (u : Upd1 p b (.dK xs) (.dK ys) M M') (h : DKr K G ws ys) : Rel K n S M' σ G (upd H p (.dK ws)) := by
  obtain ⟨_, vs, h1, _⟩ := R.ce p b _ u.mem
  exact R.put u (fun x z => by rw [h1] at z; cases z) ⟨ws, upd_same, h⟩
theorem Rel.newDK {ws : List (Key × V)} {xs : List (Key × PyData)} (R : Rel K n S M σ G H) (hp : H p = none) (h : DKr K G ws xs) : Rel K n S ((p, true, .dK xs) :: M) σ G (upd H p (.dK ws)) :=
  (R.lay hp).cell (R.fresh hp) (R.notin hp) (ex_gnone R.ex hp) ⟨ws, upd_same, h⟩
/-- i in d -/
theorem zw_dinK (h : ZW K E tk S M (fun y M1 => ∃ i : Int, y = .d (.int i) ∧ ZW K E td S M1 (fun z M2 => ∃ p b kvs, z = .c p ∧ (p, b, CD.dK kvs) ∈ M2 ∧ Q (.d (.bool (heldK kvs (.inl i)).isSome)) M2) X) X) : ZW K E (tDIn tk td) S M Q X := fun n σ G H R Qv k kx =>
  h n σ G H R _ (fun y G1 H1 zy M1 e1 R1 a1 ⟨i, hy, h2⟩ => h2 n σ G1 H1 R1 _ (fun v G2 H2 z M2 e2 R2 a2 ⟨p, b, kvs, hz, hm, q⟩ => by
    subst hy hz
    obtain rfl : v = .ref p := a2
    obtain rfl : y = .int i := dp_int a1
    obtain ⟨_, ws, hw, rel⟩ := R2.ce p b _ hm
    refine ⟨p, _, rfl, DGet.k (k := .inl i) hw, ?_⟩
    have same : (valV ws (.inl i)).isSome = (heldK kvs (.inl i)).isSome := by
      rcases heldK_rel rel (.inl i) with ⟨x1, x2⟩ | ⟨d, v, x1, x2, _⟩ <;> rw [x1, x2] <;> rfl
    rw [same]
    exact k _ G2 H2 (.d (.bool (heldK kvs (.inl i)).isSome)) M2 (e1.trans e2) R2 (Dz.bl _) q) (kx.mono e1)) kx
/-- d.pop(i) -/
theorem zw_dpopK (h : ZW K E td S M (fun z M1 => ∃ p, z = .c p ∧ (∃ b kvs, (p, b, CD.dK kvs) ∈ M1) ∧ ZW K E tk S M1 (fun y M2 => ∃ (i : Int) (b : Bool) (kvs : List (Key × PyData)) (d : PyData) (M3 : Ms), y = .d (.int i) ∧ heldK kvs (.inl i) = some d ∧ Upd1 p b (.dK kvs) (.dK (dropD kvs (.inl i))) M2 M3 ∧ Q (.d d) M3) X) X) : ZW K E (tDPop1 td tk) S M Q X := fun n σ G H R Qv k kx =>
  h n σ G H R _ (fun v G1 H1 z M1 e1 R1 a1 ⟨p, hz, ⟨b0, kvs0, hm0⟩, h2⟩ => by
    subst hz
    obtain rfl : v = .ref p := a1
    obtain ⟨_, ws0, hw0, _⟩ := R1.ce p b0 _ hm0
    refine ⟨p, rfl, .inl ⟨ws0, .inl hw0⟩, h2 n σ G1 H1 R1 _ (fun y G2 H2 zy M2 e2 R2 a2 ⟨i, b, kvs, d, M3, hy, hd, hu, q⟩ => ?_) (kx.mono e1)⟩
    subst hy
    obtain rfl : y = .int i := dp_int a2
    obtain ⟨_, ws, hw, rel⟩ := R2.ce p b _ hu.mem
    rcases heldK_rel rel (.inl i) with ⟨x1, _⟩ | ⟨d', v, x1, x2, x3⟩
    · rw [hd] at x1
      cases x1
    · rw [hd] at x1
      cases x1
      exact ⟨ws, .inl i, v, hw, rfl, x2, k v G2 _ (.d d) M3 (e1.trans e2) (R2.putDK hu (dropD_rel rel _)) x3 q⟩) kx
/-! ### own lists -/
theorem dpa_snoc : ∀ {ys : List PyData} {d : PyData} {vs : List V}, DzAll K G vs (ys ++ [d]) → ∃ us v, vs = us ++ [v] ∧ DzAll K G us ys ∧ Dz K G v d
  | [], d, vs, h => by
    cases h with
    | cons a b => cases b; exact ⟨[], _, rfl, .nil, a⟩
  | y :: ys, d, vs, h => by
    cases h with
    | cons a b =>
      obtain ⟨us, v, e, h1, h2⟩ := dpa_snoc (ys := ys) b
      exact ⟨_ :: us, v, by rw [e]; rfl, .cons a h1, h2⟩
/-- xs.pop() -/
theorem zw_lpop (h : ZW K E to S M (fun z M1 => ∃ (p : Addr) (b : Bool) (ys : List PyData) (d : PyData) (M2 : Ms), z = .c p ∧ Upd1 p b (.lst (ys ++ [d])) (.lst ys) M1 M2 ∧ Q (.d d) M2) X) : ZW K E (tBM0 K "list" rPop to) S M Q X := fun n σ G H R Qv k kx =>
  h n σ G H R _ (fun v G1 H1 z M1 e1 R1 a1 ⟨p, b, ys, d, M2, hz, hu, q⟩ => by
    subst hz
    obtain rfl : v = .ref p := a1
    obtain ⟨_, ws, hw, hd⟩ := R1.ce p b _ hu.mem
    obtain ⟨us, u, rfl, h1, h2⟩ := dpa_snoc hd
    refine ⟨.inl ⟨rfl, _, Evl.sq_of hw⟩, p, us ++ [u], u, rfl, rfl, hw, by simp, ?_⟩
    rw [List.dropLast_concat]
    exact k u G1 _ (.d d) M2 e1 (R1.putLst hu h1) h2 q) kx
/-- xs.extend(ys), two own lists -/
theorem zw_lext (h : ZW K E to S M (fun z M1 => ∃ p, z = .c p ∧ (∃ b xs, (p, b, CD.lst xs) ∈ M1) ∧ ZW K E te S M1 (fun y M2 => ∃ (p2 : Addr) (b b2 : Bool) (xs zs : List PyData) (M3 : Ms), y = .c p2 ∧ (p2, b2, CD.lst zs) ∈ M2 ∧ xs.length + zs.length ≤ sizeLine ∧ Upd1 p b (.lst xs) (.lst (xs ++ zs)) M2 M3 ∧ Q (.d .none) M3) X) X) : ZW K E (tBM K "list" rExtend to (tCons te tNil)) S M Q X := fun n σ G H R Qv k kx =>
  h n σ G H R _ (fun v G0 H0 z M0 e0 R0 a0 ⟨p, hz, ⟨b0, xs0, hm0⟩, h2⟩ => by
    subst hz
    obtain rfl : v = .ref p := a0
    obtain ⟨_, ws0, h3, _⟩ := R0.ce p b0 _ hm0
    refine ⟨.inl ⟨rfl, ws0, Evl.sq_of h3⟩, h2 n σ G0 H0 R0 _ (fun u G1 H1 y M1 e1 R1 a1 ⟨p2, b, b2, xs, zs, M3, hy, hm2, hl, hu, q⟩ => ?_) (kx.mono e0)⟩
    subst hy
    obtain rfl : u = .ref p2 := a1
    obtain ⟨_, ws, h4, h5⟩ := R1.ce p b _ hu.mem
    obtain ⟨_, us, h6, h7⟩ := R1.ce p2 b2 _ hm2
    exact ⟨p, p2, ws, us, rfl, rfl, h4, h6, by rw [dpa_len h5, dpa_len h7]; exact hl, k .non G1 _ (.d .none) M3 (e0.trans e1) (R1.putLst hu (dpa_app h5 h7)) Dz.non q⟩) kx
/-- a list that is walked: data, or an own one that stays -/
def ItL (z : ZV) (xs : List PyData) (M : Ms) : Prop := z = .d (.list xs) ∨ ∃ p b, z = .c p ∧ (p, b, CD.lst xs) ∈ M
theorem lc_turnG {vs : List Nat} {I : Nat → List PyData → Ms → Prop} {G0 : Hp} {D : Addr} {i : Nat} {v : V} {x : PyData} {acc : List PyData} (ht : LcTurn K E g tt te S vs I i x) (R : Rel K n (wipeZ S vs) ((D, true, .lst acc) :: M) (L2.wipe σ vs) G H) (e : Ex G0 G) (hl : acc.length ≤ i) (hI : I i acc M) (hv : Dz K G v x) (hz : i < sizeLine) :
    g v (L2.wipe σ vs) H fun σ2 H2 => L2.wipe σ2 vs = L2.wipe σ vs ∧ tt σ2 H2 fun b H3 => if b = true then te σ2 H3 fun y H4 => ∃ acc, H4 D = some (.lst acc) ∧ acc.length < sizeLine ∧ LcI K n G0 S σ vs D I (i + 1) (upd H4 D (.lst (acc ++ [y]))) else LcI K n G0 S σ vs D I (i + 1) H3 := by
  obtain ⟨is, S2, hs, hg, hb⟩ := ht acc M D hI
  refine hg n _ _ G H v R hv _ fun σ2 l2 g2 R2 => ⟨wipe_eq l2 fun j hj => g2 j fun z => hj (hs j z), hb n σ2 G H R2 _ (fun b G3 H3 Mb e3 R3 q => ?_) (fun _ _ _ _ _ _ _ _ _ _ q => q.elim)⟩
  have back : ∀ {G' H' : Hp} {M' : Ms}, Rel K n S2 M' σ2 G' H' → Ex G G' → Rel K n (wipeZ S vs) M' (L2.wipe σ vs) G' H' := fun R' e' => R.reslot R' e'
  cases b with
  | true =>
    show te σ2 H3 _
    refine q.2 rfl n σ2 G3 H3 R3 _ (fun y G4 H4 z Mc e4 R4 a4 ⟨d, M2, hz2, hM, hI2⟩ => ?_) (fun _ _ _ _ _ _ _ _ _ _ q => q.elim)
    subst hz2 hM
    obtain ⟨_, ws, h1, h2⟩ := R4.ce D true _ m0
    exact ⟨ws, h1, by rw [dpa_len h2]; omega, G4, M2, acc ++ [d], (back R4 (e3.trans e4)).putLst .here (dpa_app h2 (dpa_one a4)), (e.trans e3).trans e4, by simp; omega, hI2⟩
  | false =>
    show LcI K n G0 S σ vs D I (i + 1) H3
    obtain ⟨M2, hM, hI2⟩ := q.1 rfl
    subst hM
    exact ⟨G3, M2, acc, back R3 e3, e.trans e3, by omega, hI2⟩
/-- [e for .. in a list if test] as an own list -/
theorem zw_lcO {vs : List Nat} (h : ZW K E ta S M (fun z M1 => ∃ xs, ItL z xs M1 ∧ xs.length ≤ sizeLine ∧ ∃ I : Nat → List PyData → Ms → Prop, I 0 [] M1 ∧ (∀ i acc M', I i acc M' → ItL z xs M') ∧ (∀ i x, xs[i]? = some x → LcTurn K E g tt te S vs I i x) ∧ (∀ acc M' D, I xs.length acc M' → Q (.c D) ((D, true, .lst acc) :: M'))) X) :
    ZW K E (tLc (iList K ta) g tt te vs) S M Q X := fun n σ G H R Qv k kx =>
  h n σ G H R _ (fun v G1 H1 z M1 e1 R1 a1 ⟨xs, hz, hl, I, i0, keep, is, id⟩ => by
    have there : ∀ {S' : Zs} {M' : Ms} {σ' : L2.St} {G' H' : Hp}, Rel K n S' M' σ' G' H' → Ex G1 G' → ItL z xs M' → ∃ p ws, v = .ref p ∧ SqL K H' p ws ∧ DzAll K G' ws xs := fun R' e' hi => by
      rcases hi with rfl | ⟨p, b, rfl, hm⟩
      · obtain ⟨p, ws, rfl, h1, h2⟩ := dp_lst a1
        exact ⟨p, ws, rfl, Evl.ex_l (e'.trans R'.ex) h1, dpAll_mono e' h2⟩
      · obtain rfl : v = .ref p := a1
        obtain ⟨_, ws, h1, h2⟩ := R'.ce p b _ hm
        exact ⟨p, ws, rfl, Evl.sq_of h1, h2⟩
    obtain ⟨p, ws0, rfl, h1, h2⟩ := there R1 (Ex.refl G1) hz
    refine ⟨p, rfl, ⟨ws0, h1⟩, fun D hD => ⟨fun i m H' => m = xs.length - i ∧ i ≤ xs.length ∧ LcI K n G1 S σ vs D I i H', ⟨_, rfl, Nat.zero_le _, lc_start R1 hD i0⟩, ?_⟩⟩
    rintro i m H2 ⟨rfl, hi, hL⟩
    obtain ⟨G2, M2, acc, R2, e2, ha, hI⟩ := (fun x => x : LcI K n G1 S σ vs D I i H2 → LcI K n G1 S σ vs D I i H2) hL
    obtain ⟨p', ws, hp, w1, w2⟩ := there R2 e2 (by
      rcases keep i acc M2 hI with q | ⟨p, b, q, hm⟩
      · exact .inl q
      · exact .inr ⟨p, b, q, List.mem_cons_of_mem _ hm⟩)
    cases hp
    have hw := dpa_len w2
    by_cases hlt : i < xs.length
    · have hwi := List.getElem?_eq_getElem (l := ws) (i := i) (by omega)
      obtain ⟨x, hx, ax⟩ := dpa_at_v w2 hwi
      refine .inr ⟨⟨ws, _, w1, hwi⟩, fun H' => LcI K n G1 S σ vs D I (i + 1) H', fun H' q => ⟨_, by omega, rfl, hlt, q⟩, fun y H' hy => ?_⟩
      obtain ⟨hH, hy⟩ := hy
      subst hH
      obtain rfl := Option.some.inj ((hy ws w1).symm.trans hwi)
      exact lc_turnG (is i x hx) R2 e2 ha hI ax (Nat.lt_of_lt_of_le hlt hl)
    · have e : i = xs.length := by omega
      subst e
      refine .inl ⟨⟨ws, w1, by omega⟩, ?_⟩
      exact lc_doneC R1 hL (fun acc M' q => id acc M' D q) fun v G' H' z M' e' => k v G' H' z M' (e1.trans e')) kx
/-- sorted(an own list of rows) -/
theorem zc_sortO {b : Bool} {rows : List (List Int)} (hm : (p, b, CD.lst (rows.map rowD)) ∈ M) (h0 : ∀ r ∈ rows, r ≠ []) (q : Q (.d (.list ((sortI rows).map rowD))) M) : ZC K (rSortC K) [.c p] M Q := fun n S σ G H R vs a Qv k => by
  obtain ⟨v, rfl, av⟩ := zall1 a
  obtain rfl : v = .ref p := av
  obtain ⟨_, ws, h1, h2⟩ := R.ce p b _ hm
  have each : ∀ {ws : List V} {rows : List (List Int)}, Paired (fun v r => Dz K G v (rowD r)) ws rows → (∀ r ∈ rows, r ≠ []) → ∀ x ∈ ws, ∃ ns, RowI K H x ns ∧ ns ≠ [] := fun {ws rows} q => by
    induction q with
    | nil => exact fun _ x hx => nomatch hx
    | cons a _ ih =>
      refine fun h x hx => ?_
      rcases List.mem_cons.mp hx with rfl | hx
      · exact ⟨_, dz_row R.ex a, h _ List.mem_cons_self⟩
      · exact ih (fun r hr => h r (List.mem_cons_of_mem _ hr)) x hx
  refine ⟨p, ws, rfl, .inl (Evl.sq_of h1), each (dza_rows h2) h0, fun ys r hp hw hr => ?_⟩
  have gr := ex_gnone R.ex hr
  exact k (.ref r) _ _ (.d (.list ((sortI rows).map rowD))) M (Ex.new gr) (R.new hr (fun _ z => nomatch z)) (Dz.lst (Evl.sq_of upd_same) (dpAll_mono (Ex.new gr) (sorted_fin R.ex h2 hp hw))) q
/-! ### {k: e for .. in a tuple}, k a whole number -/
def rowsK (rows : List (Int × PyData)) : List (Key × PyData) := rows.foldl (fun acc r => putD acc (.inl r.1) r.2) []
theorem putD_len (kvs : List (Key × PyData)) (k : Key) (d : PyData) : (putD kvs k d).length ≤ kvs.length + 1 := by
  unfold putD
  split <;> simp
theorem rowsK_len (rows : List (Int × PyData)) : ∀ acc : List (Key × PyData), (rows.foldl (fun acc r => putD acc (.inl r.1) r.2) acc).length ≤ acc.length + rows.length := by
  induction rows with
  | nil => exact fun acc => Nat.le_refl _
  | cons r rows ih =>
    intro acc
    have a := ih (putD acc (.inl r.1) r.2)
    have c := putD_len acc (.inl r.1) r.2
    simp only [List.foldl_cons, List.length_cons]
    omega
theorem rowsK_snoc {rows : List (Int × PyData)} {i : Nat} {r : Int × PyData} (h : rows[i]? = some r) : rowsK (rows.take (i + 1)) = putD (rowsK (rows.take i)) (.inl r.1) r.2 := by
  unfold rowsK
  simp only [List.take_add_one, h, List.foldl_append, Option.toList_some, List.foldl_cons, List.foldl_nil]
/-- keys that differ: the rows as they stand -/
theorem rowsK_id : ∀ {rows : List (Int × PyData)}, (rows.map (·.1)).Nodup → rowsK rows = rows.map fun r => (.inl r.1, r.2) := fun {rows} h => by
  have go : ∀ i, i ≤ rows.length → rowsK (rows.take i) = (rows.take i).map fun r => (.inl r.1, r.2) := fun i => by
    induction i with
    | zero => exact fun _ => rfl
    | succ i ih =>
      intro hi
      have hr := List.getElem?_eq_getElem (l := rows) (i := i) (by omega)
      rw [rowsK_snoc hr, ih (by omega), List.take_add_one, hr, List.map_append]
      unfold putD
      rw [if_neg]
      · rfl
      · rw [List.any_eq_true]
        rintro ⟨kv, hm, he⟩
        obtain ⟨r, hr2, rfl⟩ := List.mem_map.mp hm
        have he : r.1 = rows[i].1 := Sum.inl.inj (of_decide_eq_true he)
        obtain ⟨j, hj⟩ := List.mem_iff_getElem?.mp hr2
        rw [List.getElem?_take] at hj
        split at hj
        · rename_i hji
          have a1 : (rows.map (·.1))[j]? = some r.1 := by rw [List.getElem?_map, hj]; rfl
          have a2 : (rows.map (·.1))[i]? = some r.1 := by rw [List.getElem?_map, hr, he]; rfl
          have := (List.getElem?_inj (List.getElem?_eq_some_iff.mp a1).1 h).mp (a1.trans a2.symm)
          omega
        · cases hj
  have := go rows.length (Nat.le_refl _)
  rw [List.take_length] at this
  exact this
theorem zw_dcK {vs : List Nat} (h : ZW K E ta S M (fun z M1 => ∃ (xs : List PyData) (rows : List (Int × PyData)), z = .d (.tuple xs) ∧ xs.length ≤ sizeLine ∧ rows.length = xs.length ∧
      (∀ (i : Nat) (x : PyData) (r : Int × PyData), xs[i]? = some x → rows[i]? = some r → ∃ is S2, (∀ j ∈ is, j ∈ vs) ∧ ZG K g (.d x) (wipeZ S vs) is S2 ∧ ∀ D kvs, ZW K E tk S2 ((D, true, .dK kvs) :: M1) (fun y M3 => y = .d (.int r.1) ∧ M3 = (D, true, .dK kvs) :: M1) (fun _ _ _ => False) ∧ ZW K E tv S2 ((D, true, .dK kvs) :: M1) (fun y M3 => y = .d r.2 ∧ M3 = (D, true, .dK kvs) :: M1) fun _ _ _ => False) ∧
      ∀ p, Q (.c p) ((p, true, .dK (rowsK rows)) :: M1)) X) : ZW K E (tDc (iTup K ta) g tYes tk tv vs) S M Q X := fun n σ G H R Qv k kx =>
  h n σ G H R _ (fun v G1 H1 z M1 e1 R1 a1 ⟨xs, rows, hz, hs, hl, each, q⟩ => by
    subst hz
    obtain ⟨p, ws, rfl, h1, h2⟩ := dp_tup a1
    have hw := dpa_len h2
    refine ⟨p, rfl, ⟨ws, Evl.ex_t R1.ex h1⟩, fun D hD => ⟨fun i m H' => m = ws.length - i ∧ i ≤ ws.length ∧ ∃ G', Rel K n (wipeZ S vs) ((D, true, .dK (rowsK (rows.take i))) :: M1) (L2.wipe σ vs) G' H' ∧ Ex G1 G', ⟨_, rfl, Nat.zero_le _, G1, (R1.newDK hD .nil).wipe vs, Ex.refl _⟩, ?_⟩⟩
    rintro i m H2 ⟨rfl, hi, G2, R2, e2⟩
    have stay := Evl.ex_t (e2.trans R2.ex) h1
    rcases Nat.lt_or_ge i ws.length with hlt | hge
    · have hwi := List.getElem?_eq_getElem hlt
      obtain ⟨x, hx, ax⟩ := dpa_at_v h2 hwi
      have hr := List.getElem?_eq_getElem (l := rows) (i := i) (by omega)
      obtain ⟨is, S2, hsub, hg, hb⟩ := each i x _ hx hr
      refine .inr ⟨⟨ws, _, stay, hwi⟩, fun H' => ∃ G', Rel K n (wipeZ S vs) ((D, true, .dK (rowsK (rows.take (i + 1)))) :: M1) (L2.wipe σ vs) G' H' ∧ Ex G1 G', fun H' q' => ⟨_, by omega, rfl, hlt, q'⟩, fun y H' hy => ?_⟩
      obtain ⟨hH, hy⟩ := hy
      subst hH
      obtain rfl := Option.some.inj ((hy ws stay).symm.trans hwi)
      refine hg n _ _ G2 _ _ R2 (dp_mono e2 ax) _ fun σ2 l2 g2 R3 => ⟨wipe_eq l2 fun j hj => g2 j fun z => hj (hsub j z), ?_⟩
      show tYes _ _ _
      show tk σ2 _ _
      refine (hb D _).1 n _ G2 _ R3 _ (fun w G4 H4 z M4 e4 R4 a4 ⟨hz, hM⟩ => ?_) (fun _ _ _ _ _ _ _ _ _ _ z => z.elim)
      subst hz hM
      refine (hb D _).2 n _ G4 _ R4 _ (fun w5 G5 H5 z M5 e5 R5 a5 ⟨hz, hM⟩ => ?_) (fun _ _ _ _ _ _ _ _ _ _ z => z.elim)
      subst hz hM
      obtain ⟨_, kvs, hkv, rel⟩ := R5.ce D true _ m0
      have hlen : kvs.length < sizeLine := by
        have := rowsK_len (rows.take i) []
        rw [paired_lens rel]
        rw [List.length_take, List.length_nil] at this
        unfold rowsK
        omega
      refine ⟨kvs, .inl rows[i].1, dp_int a4, hkv, hlen, G5, ?_, (e2.trans e4).trans e5⟩
      rw [rowsK_snoc hr]
      exact (R2.reslot R5 (e4.trans e5)).putDK .here (putD_rel rel _ a5)
    · obtain rfl : i = ws.length := by omega
      refine .inl ⟨⟨ws, stay, Nat.le_refl _⟩, ?_⟩
      rw [List.take_of_length_le (by omega)] at R2
      exact k (.ref D) G2 H2 (.c D) _ (e1.trans e2) (R1.reslot R2 e2) rfl (q D)) kx
end
end Z
/-! t[1::2], t a tuple of four; [e for x in range(a, b) for y in range(c, d)] where e reads own things -/
namespace Z
open PySem PySem.Spec PyProof.Rows L2
open Evl (Ex)
section
variable {prog : Program} {w : World} {A : Around} {E : Value → Shared → Prop} {s : Shared}
/-- start 1, no stop, step 2, among four: the places 1 and 3 -/
theorem applied_odd {sl : Addr} {u u2 : Tok} {Q : Int × Int × Nat → Shared → Prop} (hs : s.heap.IsSliceOf sl (.int 1 u) .none (.int 2 u2)) (h : Q (1, 2, 2) s) : wpAny (model prog w) A (Builtin.Slice.sliceApplied (.ref sl) (pure ((4 : Nat) : Int))) Q E s := by
  obtain ⟨o, ho, _, hd⟩ := hs
  unfold Builtin.Slice.sliceApplied Builtin.Slice.sliceFields
  refine wpAny_bind (wpAny_bind (wpAny_field ho hd (x := .int 1 u) rfl (wpAny_bind (wpAny_field ho hd (x := .none) rfl (wpAny_bind (wpAny_field ho hd (x := .int 2 u2) rfl (wpAny_pure ?_)))))))
  refine wpAny_bind (HT.slicePart_ (.int 2 u2) ?_)
  show wpAny _ _ (if ((2 : Int) == 0) = true then _ else _) _ _ s
  rw [if_neg (by decide)]
  exact wpAny_bind (HT.slicePart_ (.int 1 u) (wpAny_bind (HT.slicePart_ .none (wpAny_bind (wpAny_pure (wpAny_pure h))))))
theorem item_odd {t sl : Addr} {a b c d : Value} {u u2 : Tok} {Q : Value → Shared → Prop} (ht : IsTup s.heap t #[a, b, c, d]) (hs : s.heap.IsSliceOf sl (.int 1 u) .none (.int 2 u2))
    (h : Q (.ref s.heap.objs.size) { s with heap := s.heap.push { cls := .type "tuple", data := .seq #[b, d] } }) : wpAny (model prog w) A (getItem (.ref t) (.ref sl)) Q E s := by
  have two : sizeOk (.seq #[b, d]) := by
    show 2 ≤ sizeLine
    decide
  have hT : s.TypeIs (.ref sl) "slice" := by
    obtain ⟨o, ho, hc, _⟩ := hs
    exact ⟨o, ho, hc⟩
  unfold getItem
  try with_reducible refine wpAny_holding ?_
  first | refine wpAny_bind (wpAny_pure ?_) | skip
  refine wpAny_bind (wpAny_sequenceKey ht.typeIs (by decide) (wpAny_bind (wpAny_callSpecial?_slot (name := Str.ofString "__getitem__") ht.typeIs PyProof.Rows.slot_tuple_getitem (wpAny_call_entry PyProof.Rows.slot_tuple_getitem ht.typeIs entry_tuple_getitem ?_ (args_tuple_getitem _ _)))))
  show wpAny _ _ (Builtin.Tuple.tupleItemsOf (.ref t) >>= _) _ _ s
  refine wpAny_bind (tupleItemsOf_ ht (wpAny_bind (wpAny_typeOf hT ?_)))
  rw [if_pos (by decide)]
  refine wpAny_bind (applied_odd hs ?_)
  show wpAny _ _ (if ((1 : Int) == 0 && (2 : Int) == 1 && (2 : Nat) == 4) = true then _ else _) _ _ s
  rw [if_neg (by decide)]
  have e : ((List.range 2).filterMap fun (k : Nat) => #[a, b, c, d][((1 : Int) + (k : Int) * 2).toNat]?).toArray = #[b, d] := rfl
  first
    | exact wpAny_bind (m := Builtin.Tuple.tupleExact _) (wpAny_newObj_type (wpAny_pure ⟨_, rfl, wpAny_pure h⟩) two)
    | exact wpAny_bind (m := Builtin.Tuple.tupleExact _) (wpAny_newObj_type (wpAny_bind (wpAny_pure (wpAny_pure ⟨_, rfl, wpAny_pure h⟩))) two)
    | exact wpAny_bind (wpAny_bind (m := Builtin.Tuple.tupleExact _) (wpAny_newObj_type (wpAny_pure (wpAny_pure ⟨_, rfl, wpAny_pure h⟩)) two))
    | exact wpAny_bind (wpAny_bind (m := Builtin.Tuple.tupleExact _) (wpAny_newObj_type (wpAny_pure ⟨_, rfl, wpAny_pure h⟩) two))
end
def tOdd (K : Fg) (te : TE) : TE := fun σ H Q => te σ H fun x H1 => ∃ a v0 v1 v2 v3, x = V.ref a ∧ SqT K H1 a [v0, v1, v2, v3] ∧ ∀ p, H1 p = none → Q (.ref p) (upd H1 p (.tup [v1, v3]))
theorem pe_odd {X : Cx} {e : Expr} {te : TE} {k k2 : Nat} {p1 p2 p3 pos : Pos} (he : PE X e te) : PE X (.Subscript e (.Slice (some (.Constant (.int 1) k p1)) none (some (.Constant (.int 2) k2 p3)) p2) pos) (tOdd X.K te) := by
  refine ⟨fun pins s σ H Q I h => Subscript_ (thn (he.run pins s σ H _ I h) fun v s1 ⟨x, H1, I1, r1, a, v0, v1, v2, v3, ex, hx, q⟩ => ?_)⟩
  subst ex
  cases r1
  have one : ∀ (k : Nat) (i : Int) (pp : Pos), PO X (some (.Constant (.int i) k pp)) (tPart (tC (.int i))) := fun k i pp => po_some pe_int
  refine wpAny_Slice (thn ((one k 1 p1).run pins s1 σ H1 (fun o H2 => o = some 1 ∧ H2 = H1) I1 ⟨1, rfl, rfl, rfl⟩) fun vl s2 ⟨l, H2, I2, pl, el, e2⟩ => ?_)
  subst el e2
  refine thn (po_none.run pins s2 σ H2 (fun o H3 => o = none ∧ H3 = H2) I2 ⟨rfl, rfl⟩) fun vu s3 ⟨u, H3, I3, pu, eu, e3⟩ => ?_
  subst eu e3
  refine thn ((one k2 2 p3).run pins s3 σ H3 (fun o H4 => o = some 2 ∧ H4 = H3) I3 ⟨2, rfl, rfl, rfl⟩) fun vs s4 ⟨o, H4, I4, ps, eo, e4⟩ => ?_
  subst eo e4
  have I5 : Inv X pins σ H4 { s4 with heap := s4.heap.push { cls := .type "slice", data := .fields #[vl, vu, vs] } } := I4.kept (t' := s4.toks) fun b ob q => Heap.get?_push_of_some _ q
  obtain ⟨its, r, ht, hz⟩ := I5.tuple hx
  cases pl
  cases pu
  cases ps
  cases r with
  | cons w0 r => cases r with
    | cons w1 r => cases r with
      | cons w2 r => cases r with
        | cons w3 r =>
          cases r
          refine tail_any (ops := [.ref a, .ref s4.heap.objs.size]) ht.typeIs PyProof.Rows.slot_tuple_getitem.lookup (item_odd ht (Heap.IsSliceOf.new ..) ?_) (by with_unfolding_all rfl)
          have hf := I5.hok.fresh (Nat.le_refl _)
          refine ⟨.ref _, _, I5.laid (t' := s4.toks) (o := .tup [v1, v3]) (fun b ob q => Heap.get?_push_of_some _ q) (Nat.le_refl _) ?_, rfl, q _ hf⟩
          exact ⟨by show 2 ≤ sizeLine; decide, _, .cons w1 (.cons w3 .nil), IsTup.new _ _⟩
section
variable {K : Fg} {E : L2.St → XK} {te : TE} {tA tB : TA} {g g1 : TG} {S : Zs} {M : Ms} {Q : QZ} {X : XZ}
theorem zw_odd {a b c d : PyData} (h : ZW K E te S M (fun z M1 => z = .d (.tuple [a, b, c, d]) ∧ Q (.d (.tuple [b, d])) M1) X) : ZW K E (tOdd K te) S M Q X := fun n σ G H R Qv k kx =>
  h n σ G H R _ (fun v G1 H1 z M1 e1 R1 a1 ⟨hz, q⟩ => by
    subst hz
    obtain ⟨p, ws, rfl, h1, h2⟩ := dp_tup a1
    cases h2 with
    | cons x0 h2 => cases h2 with
      | cons x1 h2 => cases h2 with
        | cons x2 h2 => cases h2 with
          | cons x3 h2 =>
            cases h2
            refine ⟨p, _, _, _, _, rfl, Evl.ex_t R1.ex h1, fun l hl => ?_⟩
            have gl := ex_gnone R1.ex hl
            exact k (.ref l) _ _ (.d (.tuple [b, d])) M1 (e1.trans (Ex.new gl)) (R1.new hl (fun _ z => nomatch z)) (.tup (.inl upd_same) (dpAll_mono (Ex.new gl) (.cons x1 (.cons x3 .nil)))) q) kx
theorem zw_lc2RM {vs vs1 : List Nat} {a b a1 b1 : Int} {r d : Nat} (f : Nat → Nat → PyData) (hr : r ∈ vs) (hd : d ∈ vs1) (hg : g = gName r) (hg1 : g1 = gName d)
    (hz : (b - a).toNat * (b1 - a1).toNat ≤ sizeLine)
    (la : -(2 ^ 62) ≤ a ∧ a < 2 ^ 62 ∧ -(2 ^ 62) ≤ b ∧ b < 2 ^ 62) (lb : -(2 ^ 62) ≤ a1 ∧ a1 < 2 ^ 62 ∧ -(2 ^ 62) ≤ b1 ∧ b1 < 2 ^ 62)
    (hA : ZA K E tA S M (fun zs M1 => zs = [.d (.int a), .d (.int b)] ∧ M1 = M) X)
    (hB : ∀ S2 M2, ZA K E tB S2 M2 (fun zs M1 => zs = [.d (.int a1), .d (.int b1)] ∧ M1 = M2) fun _ _ _ => False)
    (hE : ∀ (i j : Nat) (D : Addr) (acc : List PyData), i < (b - a).toNat → j < (b1 - a1).toNat → ZW K E te ((wipeZ ((wipeZ S vs).set r (some (.d (.int (a + (i : Nat)))))) vs1).set d (some (.d (.int (a1 + (j : Nat)))))) ((D, true, .lst acc) :: M) (fun z M3 => z = .d (f i j) ∧ M3 = (D, true, .lst acc) :: M) fun _ _ _ => False)
    (q : Q (.d (.list (gridL f (b1 - a1).toNat (b - a).toNat 0))) M) : ZW K E (tLc2 (iRng2 tA) g tYes (iRng2 tB) g1 tYes te vs vs1) S M Q X := fun n σ G H R Qv k kx => by
  subst hg hg1
  refine hA n σ G H R _ (fun us G1 H1 zs M1 e1 R1 a1' ⟨hzs, hM⟩ => ?_) kx
  subst hzs hM
  obtain ⟨v, u, rfl, av, au⟩ := zall2 a1'
  have ev := dp_int av
  have eu := dp_int au
  subst ev eu
  refine ⟨a, b, rfl, la, fun D hD => ?_⟩
  let N := (b - a).toNat
  let L := (b1 - a1).toNat
  -- ahead of a row
  let A : Nat → Hp → Prop := fun i H' => ∃ G', Rel K n (wipeZ S vs) ((D, true, .lst (gridL f L i 0)) :: M1) (L2.wipe σ vs) G' H' ∧ Ex G1 G'
  refine ⟨fun i m H' => m = N - i ∧ i ≤ N ∧ A i H', ⟨N, rfl, Nat.zero_le _, G1, (R1.newLst hD .nil).wipe vs, Ex.refl G1⟩, ?_⟩
  rintro i m H2 ⟨rfl, hi, G2, R2, e2⟩
  by_cases hlt : i < N
  · refine .inr ⟨hlt, A (i + 1), fun H' h' => ⟨N - (i + 1), by omega, rfl, hlt, h'⟩, fun x H' hy => ?_⟩
    obtain ⟨hH, hx⟩ := hy
    subst hH hx
    show _ ∧ _
    have R3 := R2.set (i := r) (v := .int (a + (i : Nat))) (z := .d (.int (a + (i : Nat)))) (Dz.int _)
    refine ⟨wipe_eq (by simp) fun j hj => by rw [List.getElem?_set_ne (fun e => hj (by rw [← e]; exact hr))], ?_⟩
    show tYes _ _ _
    refine hB _ _ n _ G2 _ R3 _ (fun us G3 H3 zs M3 e3 R3' a3 ⟨hzs, hM⟩ => ?_) (fun _ _ _ _ _ _ _ _ _ _ z => z.elim)
    subst hzs hM
    obtain ⟨v, u, rfl, av, au⟩ := zall2 a3
    have ev := dp_int av
    have eu := dp_int au
    subst ev eu
    refine ⟨a1, b1, rfl, lb, ?_⟩
    generalize hS2 : (wipeZ S vs).set r (some (.d (.int (a + (i : Nat))))) = S2 at R3'
    generalize hσ2 : (L2.wipe σ vs).set r (some (.int (a + (i : Nat)))) = σ2 at R3'
    -- ahead of a cell of the row
    let B : Nat → Hp → Prop := fun j H' => ∃ G', Rel K n S2 ((D, true, .lst (gridL f L i j)) :: M1) σ2 G' H' ∧ Ex G3 G'
    refine ⟨fun j k H' => k = L - j ∧ j ≤ L ∧ B j H', ⟨L, rfl, Nat.zero_le _, G3, R3', Ex.refl G3⟩, ?_⟩
    rintro j k' H4 ⟨rfl, hj, G4, R4, e4⟩
    by_cases hjl : j < L
    · refine .inr ⟨hjl, B (j + 1), fun H' h' => ⟨L - (j + 1), by omega, rfl, hjl, h'⟩, fun y H' hy => ?_⟩
      obtain ⟨hH, hx⟩ := hy
      subst hH hx
      show _ ∧ _
      have R5 := (R4.wipe vs1).set (i := d) (v := .int (a1 + (j : Nat))) (z := .d (.int (a1 + (j : Nat)))) (Dz.int _)
      refine ⟨wipe_eq (by simp) fun l hl => by rw [List.getElem?_set_ne (fun e => hl (by rw [← e]; exact hd))], ?_⟩
      show tYes _ _ _
      rw [← hS2] at R5
      refine hE i j D _ hlt hjl n _ G4 _ R5 _ (fun w G6 H6 z M6 e6 R6 a6 ⟨hz6, hM6⟩ => ?_) (fun _ _ _ _ _ _ _ _ _ _ z => z.elim)
      subst hz6 hM6
      obtain ⟨_, ws, h1, h2⟩ := R6.ce D true _ m0
      have hlen := gridL_len f L i j
      have hb : i * L + j < sizeLine := by
        have h1 : (i + 1) * L ≤ N * L := Nat.mul_le_mul_right L hlt
        rw [Nat.succ_mul] at h1
        have h2 : N * L ≤ sizeLine := hz
        omega
      refine ⟨ws, h1, by rw [dpa_len h2, hlen]; exact hb, G6, ?_, e4.trans e6⟩
      rw [gridL_cell]
      exact (R4.reslot R6 e6).putLst .here (dpa_app h2 (dpa_one a6))
    · have e : j = L := by omega
      subst e
      refine .inl ⟨Nat.le_refl _, G4, ?_, (e2.trans e3).trans e4⟩
      rw [← gridL_row]
      exact R2.reslot R4 (e3.trans e4)
  · have e : i = N := by omega
    subst e
    refine .inl ⟨Nat.le_refl _, ?_⟩
    obtain ⟨G5, e5, R5, d5⟩ := R2.frz .here
    exact k (.ref D) G5 H2 (.d (.list (gridL f L N 0))) M1 ((e1.trans e2).trans e5) (R1.reslot R5 (e2.trans e5)) d5 q
/-- what is behind a statement with fewer cells -/
theorem zs_post {t : TS} {P : ZP} {N : Zs → Ms → Prop} (h : ZS K E t S M { P with nx := N }) (hi : ∀ S' M', N S' M' → ∃ M2, M2.Sublist M' ∧ P.nx S' M2) : ZS K E t S M P := fun n σ G H R D k =>
  h n σ G H R D ⟨fun σ' G' H' S' M' e R' z => by
    obtain ⟨M2, h1, h2⟩ := hi S' M' z
    exact k.nx σ' G' H' S' M2 e (R'.drop h1) h2, k.rt, k.bk, k.ct, k.ex⟩
/-- an expression of two ways to the same value -/
theorem zw_cut {z0 : ZV} {M0 : Ms} (h : ZW K E te S M (fun z M1 => z = z0 ∧ M1 = M0) X) (q : Q z0 M0) : ZW K E te S M Q X := fun n σ G H R Qv k kx => h n σ G H R Qv (fun v G1 H1 z M1 e R1 a hh => by
  rw [hh.1] at a
  rw [hh.2] at R1
  exact k v G1 H1 z0 M0 e R1 a q) kx
end
end Z
/-! x in a list of nested data; sorted of nested data that stand in order -/
namespace Z
open PySem PySem.Spec PyProof.Rows L2
open Evl (Ex)
/-- x in a list, x not in a list -/
def rInD (K : Fg) (neg : Bool) : R2 := fun x y H Q => ∃ (d : PyData) (xs : List PyData), L2.Dp K H x d ∧ L2.Dp K H y (.list xs) ∧ PyData.plainAll xs = true ∧ d.plain = true ∧ d.depth ≤ 60 ∧ Q (.bl (if neg then !xs.any (fun y => y.eqv d) else xs.any fun y => y.eqv d)) H
theorem op_inD {X : Cx} (hu : X.A.units + 64 < cLine) : OpR X (compareOp .In) (rInD X.K false) := by
  rintro pins s σ H x y v u Q I rx ry ⟨d, xs, hx, hy, p1, p2, hd, q⟩
  obtain ⟨as, h1⟩ := L2.Dp.reads I _ _ _ hx rx
  obtain ⟨bs, h2⟩ := L2.Dp.reads I _ _ _ hy ry
  exact PySem.SeqAt.in_list_data h2 h1 p1 p2 (by have := Nat.min_le_right (PyData.depthAll xs) d.depth; omega) ⟨.bl _, _, I, rfl, q⟩
theorem op_ninD {X : Cx} (hu : X.A.units + 64 < cLine) : OpR X (compareOp .NotIn) (rInD X.K true) := by
  rintro pins s σ H x y v u Q I rx ry ⟨d, xs, hx, hy, p1, p2, hd, q⟩
  obtain ⟨as, h1⟩ := L2.Dp.reads I _ _ _ hx rx
  obtain ⟨bs, h2⟩ := L2.Dp.reads I _ _ _ hy ry
  exact PySem.SeqAt.notIn_list_data h2 h1 p1 p2 (by have := Nat.min_le_right (PyData.depthAll xs) d.depth; omega) ⟨.bl _, _, I, rfl, q⟩
/-- sorted(a list whose items stand in order): a new list of the same items -/
def rSortD (K : Fg) : List V → Hp → VK → Prop := fun vs H Q => ∃ (a : Addr) (xs : List V) (ds : List PyData), vs = [.ref a] ∧ SqL K H a xs ∧ L2.DpAll K H xs ds ∧ PySem.W.AllAlike ds ∧ PySem.W.Sortable ds ∧ (∀ d ∈ ds, d.depth ≤ 60) ∧
  ds.Pairwise (fun x y => PySem.W.dataLe false id x y = true) ∧ ∀ r, H r = none → Q (.ref r) (upd H r (.lst xs))
theorem eachIs_eq : ∀ {us : List Value} {bs : List (PyData × Value)}, PySem.W.EachIs (fun u (b : PyData × Value) => u = b.2) us bs → us = bs.map Prod.snd
  | _, _, .nil => rfl
  | _, _, .cons a b => by rw [List.map_cons, ← eachIs_eq b, a]
theorem eachIs_zip : ∀ (ds : List PyData) (us : List Value), ds.length = us.length → PySem.W.EachIs (fun u (b : PyData × Value) => u = b.2) us (ds.zip us)
  | [], [], _ => .nil
  | d :: ds, u :: us, h => .cons rfl (eachIs_zip ds us (by simpa using h))
theorem eachIs_reads {h : Heap} : ∀ {ds : List PyData} {us : List Value} {as : List Addr}, ReadsAll h us ds as → PySem.W.EachIs (fun u (b : PyData × Value) => ∃ as, Reads h u b.1 as) us (ds.zip us)
  | _, _, _, .nil => .nil
  | _, _, _, .cons a b => .cons ⟨_, a⟩ (eachIs_reads b)
theorem readsAll_len {h : Heap} : ∀ {ds : List PyData} {us : List Value} {as : List Addr}, ReadsAll h us ds as → ds.length = us.length
  | _, _, _, .nil => rfl
  | _, _, _, .cons a b => by rw [List.length_cons, List.length_cons, readsAll_len b]
theorem zip_fst {ds : List PyData} {us : List Value} (h : ds.length = us.length) : (ds.zip us).map Prod.fst = ds := List.map_fst_zip (by omega)
theorem cr_sortD {X : Cx} (hu : X.A.units + 64 < cLine) : CallR X (.builtin "sorted") (rSortD X.K) := by
  rintro pins s σ H vs us Q I r ⟨a, xs, ds, rfl, hs, hd, ha, hsb, hdep, hw, q⟩
  rw [Vals.ref1 r]
  obtain ⟨its, rv, hl, hz⟩ := I.list hs
  obtain ⟨as, hr⟩ := L2.Dp.readsAll I ds xs its hd rv
  have hlen := readsAll_len hr
  have hf := zip_fst hlen
  refine PySem.W.sorted_data (vs := its) (bs := ds.zip its) (enc := Prod.fst) (R := fun u (b : PyData × Value) => u = b.2) hl.isList (eachIs_zip ds its hlen) (eachIs_reads hr) (by rw [hf]; exact ha) (by rw [hf]; exact hsb) ?_ (fun b hb => ?_) fun out ho he => ?_
  · have := rv.length
    rw [List.length_zip]
    omega
  · have : b.1 ∈ ds := by rw [← hf]; exact List.mem_map_of_mem hb
    have := hdep _ this
    omega
  · have hp : (ds.zip its).Pairwise (fun x y => PySem.W.dataLe false Prod.fst x y = true) := by
      have h := hw
      rw [← hf, List.pairwise_map] at h
      exact h
    rw [List.mergeSort_of_pairwise hp] at he
    obtain rfl : out = its := by
      rw [eachIs_eq he, List.map_snd_zip (by omega)]
    obtain ⟨ep, at_⟩ := sortedAll_at s.heap out out.toArray
    have fresh := I.hok.fresh (Nat.le_succ s.heap.objs.size)
    refine ⟨.ref (s.heap.objs.size + 1), upd H (s.heap.objs.size + 1) (.lst xs), I.laid (t' := s.toks) (fun b o e => sortedAll_old e) (Nat.le_succ _) ⟨hz, _, ep, rv, at_⟩, rfl, q _ fresh⟩
/-- xs + ys, two lists -/
def rCatD (K : Fg) : R2 := fun x y H Q => ∃ (a b : Addr) (xs ys : List V), x = .ref a ∧ y = .ref b ∧ SqL K H a xs ∧ SqL K H b ys ∧ xs.length + ys.length ≤ sizeLine ∧ ∀ p, H p = none → Q (.ref p) (upd H p (.lst (xs ++ ys)))
theorem op_catD {X : Cx} : OpR X (binaryOp .Add) (rCatD X.K) := by
  rintro pins s σ H x y v u Q I rx ry ⟨a, b, xs, ys, rfl, rfl, h1, h2, hl, q⟩
  obtain rfl : v = Value.ref a := rx
  obtain rfl : u = Value.ref b := ry
  obtain ⟨its, rv, p1, _⟩ := I.list h1
  obtain ⟨jts, rw, p2, _⟩ := I.list h2
  obtain ⟨⟨c1, dd1, da1, sl1⟩, n1, g1, rfl, rfl, rfl⟩ := p1
  obtain ⟨⟨c2, dd2, da2, sl2⟩, n2, g2, rfl, rfl, rfl⟩ := p2
  have hsz : its.toArray.size + jts.toArray.size ≤ sizeLine := by
    have := rv.length
    have := rw.length
    simp
    omega
  have hv := L2.Vals.append rv rw
  have I2 := I.lnew (t' := s.toks) hv (by rw [List.length_append]; exact hl)
  rw [← List.append_toArray] at I2
  refine PySem.concat_meets (T := "list") (id := "list.__add__") ⟨_, g1, rfl⟩ ⟨_, g2, rfl⟩ PySem.noFill_list_add PySem.seq_list_add PySem.F.slot_list_add PySem.F.entry_list_add (PySem.F.args_list_add_2 _ _) (PyProof.Rows.list_addW a b its.toArray jts.toArray n1 n2 none none sl1 sl2 hsz) ⟨g1, g2, ?_⟩
  exact ⟨.ref _, _, I2, rfl, q _ I.fresh⟩
section
variable {K : Fg} {E : L2.St → XK} {S : Zs} {M : Ms} {Q : QZ} {X : XZ}
theorem zo_inD {neg : Bool} {d : PyData} {xs : List PyData} (h1 : PyData.plainAll xs = true) (h2 : d.plain = true) (h3 : d.depth ≤ 60) (q : Q (.d (.bool (if neg then !xs.any (fun y => y.eqv d) else xs.any fun y => y.eqv d))) M) : ZO K (rInD K neg) (.d d) (.d (.list xs)) M Q :=
  zo_val (z := .d (.bool (if neg then !xs.any (fun y => y.eqv d) else xs.any fun y => y.eqv d))) (fun G H v u e a b => ⟨_, Dz.bl _, fun Qv hq => ⟨d, xs, dz_dp (dp_mono e a), dz_dp (dp_mono e b), h1, h2, h3, hq⟩⟩) q
theorem zo_catD {xs ys : List PyData} (hl : xs.length + ys.length ≤ sizeLine) (q : Q (.d (.list (xs ++ ys))) M) : ZO K (rCatD K) (.d (.list xs)) (.d (.list ys)) M Q := fun n S σ G H R v u a b Qv k => by
  obtain ⟨p, vs, rfl, h1, h2⟩ := dp_lst a
  obtain ⟨p2, us, rfl, h3, h4⟩ := dp_lst b
  refine ⟨p, p2, vs, us, rfl, rfl, Evl.ex_l R.ex h1, Evl.ex_l R.ex h3, by rw [dpa_len h2, dpa_len h4]; exact hl, fun r hr => ?_⟩
  have gr := ex_gnone R.ex hr
  exact k (.ref r) _ _ (.d (.list (xs ++ ys))) M (Ex.new gr) (R.new hr (fun _ z => nomatch z)) (Dz.lst (Evl.sq_of upd_same) (dpAll_mono (Ex.new gr) (dpa_app h2 h4))) q
theorem zc_sortD {q : Addr} {b : Bool} {xs : List PyData} (hm : (q, b, CD.lst xs) ∈ M) (ha : PySem.W.AllAlike xs) (hs : PySem.W.Sortable xs) (hd : ∀ d ∈ xs, d.depth ≤ 60) (hw : xs.Pairwise (fun x y => PySem.W.dataLe false id x y = true)) (k0 : Q (.d (.list xs)) M) : ZC K (rSortD K) [.c q] M Q := fun n S σ G H R vs a Qv k => by
  obtain ⟨v, rfl, av⟩ := zall1 a
  obtain rfl : v = .ref q := av
  obtain ⟨_, ws, h1, h2⟩ := R.ce q b _ hm
  refine ⟨q, ws, xs, rfl, Evl.sq_of h1, dzAll_dp (dpAll_mono R.ex h2), ha, hs, hd, hw, fun r hr => ?_⟩
  have gr := ex_gnone R.ex hr
  exact k (.ref r) _ _ (.d (.list xs)) M (Ex.new gr) (R.new hr (fun _ z => nomatch z)) (Dz.lst (Evl.sq_of upd_same) (dpAll_mono (Ex.new gr) h2)) k0
end
end Z
/-! sorted(a set of rows of ints of any size) -/
namespace Z
open PySem PySem.Spec PyProof.Rows L2
open Evl (Ex)
open G in
theorem sorted_setX {P : Program} {w : World} {A : Around} {E : Value → Shared → Prop} {s : Shared} {a : Addr} {L : List (Addr × List Int)} {es : Array (Int × Value)} {ep : Nat} {t : SetTable} {Q : Value → Shared → Prop} (h : SetTR P w s.heap a L es ep t) (hh : A.handled = none)
    (hk : ∀ (s' : Shared) (vs : List Value), (∀ b o, s.heap.get? b = some o → s'.heap.get? b = some o) → s.heap.objs.size ≤ s'.heap.objs.size → s'.gens = s.gens → s'.os = s.os → vs.Perm (L.map fun p => Value.ref p.1) → ∃ (κ : KeyKind) (kd : SortKind), KeysOf κ (pairsOf vs) ∧ (∀ s2 : Shared, KeepsTups s'.heap s2.heap → LtAt P w s2 κ kd) ∧
      (2 ≤ vs.length → ∀ (A : Around) (E : Value → Shared → Prop) (s2 : Shared) {Q : SortKind → Shared → Prop}, KeepsTups s'.heap s2.heap → Q kd s2 → wpAny (model P w) A (keyKind' vs.toArray) Q E s2) ∧
      ∀ st : SortSt, (arrOf st).Perm (pairsOf vs) → SortedToK κ (arrOf st) (pairsOf vs).size → Q (.ref s'.heap.objs.size) { s' with heap := sortedHeap (s'.heap.push (seqObj "list" vs.toArray 0)) s'.heap.objs.size vs ((arrOf st).map (·.2)) }) :
    wpAny (model P w) A (call (.builtin "sorted") [.ref a]) Q E s := by
  have hm : (es.toList.map fun x => x.2) = L.map fun p => Value.ref p.1 := by
    rw [h.rows]
    unfold rowsOf
    rw [List.map_map]
    rfl
  have hat : L2.SetAt s.heap a es ep t := by
    obtain ⟨o, h1, h2, h3⟩ := h.ob
    first | exact ⟨o, h1, h2, h3⟩ | exact ⟨o, h1, h2.1, h3⟩ | exact ⟨o, h1, h3⟩ | exact ⟨o, h1, h3, h2⟩ | trace_state
  refine Calls.call_function_entry kind_sorted plain_sorted entry_sorted (args_sorted1 _) ?_
  unfold Builtin.«sorted»
  refine wpAny_bind (m := checkCount "sorted" 1 1 _) (wpAny_pure (wpAny_bind (L2.collect_set (A := A.in1) hh hat h.fits (by rw [h.size]; have := h.few; exact Nat.lt_trans this (by decide)) h.tab.ris h.led fun s' out k1 k2 k3 k4 hp => ?_)))
  rw [hm] at hp
  obtain ⟨κ, kd, q1, q2, q3, q4⟩ := hk s' out k1 k2 k3 k4 hp
  have nl : (s'.heap.push (seqObj "list" out.toArray 0)).get? s'.heap.objs.size = some (seqObj "list" out.toArray 0) := Heap.get?_push_size _ rfl
  have kk2 := (KeepsTups.push s'.heap (seqObj "list" out.toArray 0)).trans (keeps_sort6 (vs := out) nl)
  have hl : out.length ≤ sizeLine := by
    rw [hp.length_eq, List.length_map]
    have := h.few
    rw [sizeLine_eq]
    omega
  refine wpAny_bind (wpAny_newList ?_)
  show wpAny _ _ _ _ _ { s' with heap := s'.heap.push (seqObj "list" out.toArray 0) }
  refine wpAny_bind (wpAny_holding (wpAny_call_entry slot_list_sort ⟨_, nl, rfl⟩ entry_list_sort (list_sort_treeG nl q1 (q2 _ kk2) (fun h2 R q => q3 h2 _ _ _ kk2 q) hl fun st p1 p2 _ => ⟨_, rfl, wpAny_pure ⟨_, rfl, ?_⟩⟩) (args_list_sort _)))
  exact q4 st p1 p2
/-- an own thing laid beside; what was drawn may have changed -/
theorem laidD {X : Cx} {pins : List (Addr × Obj)} {σ : L2.St} {H : Hp} {s : Shared} {h' : Heap} {a : Addr} {o : HO} {t' : Nat} {d' : Drawn} (I : L2.Inv X pins σ H s) (hk : ∀ (b : Addr) (u : Obj), s.heap.get? b = some u → h'.get? b = some u) (hle : s.heap.objs.size ≤ a) (ok : ObjOk X.prog X.w (upd H a o) h' a o) :
    L2.Inv X pins σ (upd H a o) { heap := h', gens := s.gens, drawn := d', toks := t', os := s.os } :=
  I.call (ch := []) (Un.laid hk hle (I.hok.fresh hle)) (I.hok.laid hk hle ok) I.bare (fun b hb => nomatch hb)
/-- sorted(a set of rows) -/
def rSortSet (K : Fg) (P : Program) (w : World) : List V → Hp → VK → Prop := fun vs H Q => ∃ (a : Addr) (L : List (Addr × List Int)), vs = [V.ref a] ∧ H a = some (SetTO P w a L) ∧ (∀ p ∈ L, SqT K H p.1 (p.2.map V.int)) ∧ (∀ p ∈ L, p.2 ≠ []) ∧
  ∀ (L' : List (Addr × List Int)) (r : Addr), L'.Perm L → L'.Pairwise (fun q r => leI q.2 r.2 = true) → H r = none → Q (.ref r) (upd H r (.lst (L'.map fun q => V.ref q.1)))
theorem perm_lift {α β : Type} {f : α → β} {out ys : List β} (h : out.Perm ys) : ∀ L : List α, ys = L.map f → ∃ L' : List α, L'.Perm L ∧ L'.map f = out := by
  induction h with
  | nil =>
    intro L hL
    cases L with
    | nil => exact ⟨[], .nil, rfl⟩
    | cons _ _ => cases hL
  | cons x _ ih =>
    intro L hL
    cases L with
    | nil => cases hL
    | cons a t =>
      rw [List.map_cons] at hL
      injection hL with h1 h2
      obtain ⟨L', p, e⟩ := ih t h2
      exact ⟨a :: L', p.cons a, by rw [List.map_cons, e, h1]⟩
  | swap x y l =>
    intro L hL
    cases L with
    | nil => cases hL
    | cons a t =>
      cases t with
      | nil => cases hL
      | cons b t =>
        rw [List.map_cons, List.map_cons] at hL
        injection hL with h1 h2
        injection h2 with h2 h3
        exact ⟨b :: a :: t, .swap _ _ _, by rw [List.map_cons, List.map_cons, h1, h2, h3]⟩
  | trans _ _ ih1 ih2 =>
    intro L hL
    obtain ⟨L1, p1, e1⟩ := ih2 L hL
    obtain ⟨L2, p2, e2⟩ := ih1 L1 e1.symm
    exact ⟨L2, p2.trans p1, e2⟩
theorem cr_sortSet {X : Cx} (hc : X.calm = true) : CallR X (.builtin "sorted") (rSortSet X.K X.prog X.w) := by
  rintro pins s σ H vs us Q I r ⟨a, L, rfl, hs, hx, h0, q⟩
  rw [Vals.ref1 r]
  have hT0 : SetT0 X.prog X.w s.heap a L := (I.hok a _ hs).1
  obtain ⟨es, ep, t, hS⟩ := hT0.full fun p hp => I.isT (hx p hp)
  refine sorted_setX hS (I.ok.hd hc) fun s' vs k1 k2 k3 k4 hp => ?_
  have keyOf : ∀ p ∈ L, G.tupKeyC s'.heap (fun _ => false) (.ref p.1) = some (p.2.map Sum.inl) := fun p hp => by
    obtain ⟨us, rv, ⟨o, ho, hcl, n, hd⟩, _⟩ := I.tuple (hx p hp)
    exact G.tupKeyC_of (k1 _ _ ho) hcl hd (items_ints 0 rv)
  have firstOf : ∀ p ∈ L, ∃ f, TupOf s'.heap (fun _ => false) (.ref p.1) f := fun p hp => by
    obtain ⟨us, rv, ⟨o, ho, hcl, n, hd⟩, _⟩ := I.tuple (hx p hp)
    have hne := h0 p hp
    cases e : p.2 with
    | nil => exact absurd e hne
    | cons m ns =>
      rw [e] at rv
      cases rv with
      | cons a b =>
        obtain ⟨k, rfl⟩ := a
        exact ⟨_, p.1, o, _, n, rfl, k1 _ _ ho, hcl, hd, rfl, fun _ => ⟨_, _, rfl⟩, fun z => nomatch z⟩
  have memOf : ∀ u ∈ vs, ∃ p ∈ L, u = Value.ref p.1 := fun u hu => by
    obtain ⟨p, h1, h2⟩ := List.mem_map.mp (hp.mem_iff.mp hu)
    exact ⟨p, h1, h2.symm⟩
  have keys : ∀ u, u ∈ vs → ∃ l, G.tupKeyC s'.heap (fun _ => false) u = some l := fun u hu => by
    obtain ⟨p, h1, rfl⟩ := memOf u hu
    exact ⟨_, keyOf p h1⟩
  have firsts : ∃ fs, TupsOf s'.heap (fun _ => false) vs fs := by
    have go : ∀ l : List Value, (∀ u ∈ l, u ∈ vs) → ∃ fs, TupsOf s'.heap (fun _ => false) l fs := by
      intro l
      induction l with
      | nil => exact fun _ => ⟨[], .nil⟩
      | cons u l ih =>
        intro h
        obtain ⟨fs, hfs⟩ := ih fun v hv => h v (List.mem_cons_of_mem _ hv)
        obtain ⟨p, h1, rfl⟩ := memOf u (h u List.mem_cons_self)
        obtain ⟨f, k⟩ := firstOf p h1
        exact ⟨f :: fs, .cons k hfs⟩
    exact go vs fun _ h => h
  obtain ⟨fs, tf⟩ := firsts
  refine ⟨_, _, G.tupKeys keys, fun s2 k => G.tupC_ltAt (s := s2) true k, fun h2 _ _ s2 _ k hq => tup_kind (s := s2) (by rw [G.TupsOf.length tf]; omega) (G.TupsOf.keep k tf) hq, fun st hp2 hst => ?_⟩
  generalize arrOf st = arr at hp2 hst ⊢
  have hpl : arr.toList.Perm (vs.zip vs) := by rw [← pairsOf_toList]; exact Array.perm_iff_toList_perm.mp hp2
  have twin : ∀ p ∈ arr.toList, p.1 = p.2 ∧ p.1 ∈ vs := fun p hp => mem_zip_self (hpl.mem_iff.mp hp)
  have po : (arr.map (·.2)).toList.Perm vs := by
    rw [Array.toList_map]
    have z := hpl.map Prod.snd
    rw [List.map_snd_zip (Nat.le_refl _)] at z
    exact z
  obtain ⟨L', pL, eL⟩ := perm_lift (po.trans hp) L rfl
  have nl : (s'.heap.push (seqObj "list" vs.toArray 0)).get? s'.heap.objs.size = some (seqObj "list" vs.toArray 0) := Heap.get?_push_size _ rfl
  obtain ⟨e2, at_⟩ := sortedHeap_at (out := arr.map (·.2)) nl
  have vals : Vals (L'.map fun q => V.ref q.1) (arr.map (·.2)).toList := by
    rw [← eL]
    have go : ∀ l : List (Addr × List Int), Vals (l.map fun q => V.ref q.1) (l.map fun p => Value.ref p.1) := by
      intro l
      induction l with
      | nil => exact .nil
      | cons u l ih => exact .cons rfl ih
    exact go L'
  have fresh := I.hok.fresh k2
  have hlen : L'.length = arr.size := by
    have := congrArg List.length eL
    simpa using this
  have kk : ∀ (k : Nat) (hk : k < L'.length), KK (G.tupKindC s'.heap (fun _ => false)) arr k = (L'[k]).2.map Sum.inl := by
    intro k hk
    have hk' : k < arr.size := by omega
    have mem : arr[k] ∈ arr.toList := by simp
    obtain ⟨t1, t2⟩ := twin _ mem
    have e3 : arr[k].2 = Value.ref (L'[k]).1 := by
      have h1 : (L'.map fun p => Value.ref p.1)[k]? = (arr.map (·.2)).toList[k]? := by rw [eL]
      rw [List.getElem?_map, List.getElem?_eq_getElem hk] at h1
      simp [hk'] at h1
      exact h1.symm
    unfold KK
    rw [Array.getElem?_eq_getElem hk']
    show (G.tupKeyC s'.heap (fun _ => false) arr[k].1).getD [] = _
    rw [t1, e3, keyOf _ (pL.mem_iff.mp (List.getElem_mem hk))]
    rfl
  have hold : ∀ (b : Addr) (u : Obj), s.heap.get? b = some u → (sortedHeap (s'.heap.push (seqObj "list" vs.toArray 0)) s'.heap.objs.size vs (arr.map (·.2))).get? b = some u := fun b u hb => by
    have h1 := k1 b u hb
    have h2 : b < s'.heap.objs.size := Heap.lt_size h1
    rw [sortedHeap_old (Nat.ne_of_lt h2) (by rw [size_push']; exact Nat.lt_succ_of_lt h2)]
    exact Heap.get?_push_of_some _ h1
  have hz : L'.length ≤ sizeLine := by
    rw [pL.length_eq, sizeLine_eq]
    have := hS.few
    omega
  refine ⟨.ref s'.heap.objs.size, upd H s'.heap.objs.size (.lst (L'.map fun q => V.ref q.1)), ?_, rfl, q L' _ pL ?_ fresh⟩
  · show L2.Inv X pins σ _ { heap := _, gens := s'.gens, drawn := s'.drawn, toks := s'.toks, os := s'.os }
    rw [k3, k4]
    exact laidD I hold k2 ⟨by rw [List.length_map]; exact hz, _, e2, vals, at_⟩
  · rw [List.pairwise_iff_getElem]
    intro i j hi hj hij
    have hsz : (pairsOf vs).size = arr.size := hp2.size_eq.symm
    have le := hst i j (Nat.le_of_lt hij) (by rw [hsz]; omega)
    rw [kk i hi, kk j hj] at le
    exact leI_iff.mpr le
/-- what set's __init__ does to a new set and a tuple of rows -/
theorem set_init_tupT {P : Program} {w : World} {A : Around} {E : Value → Shared → Prop} {s : Shared} {l : Addr} {items : Array Value} (ks : List (Addr × List Int)) {Q : PySem.Fin → Shared → Prop} (hh : A.handled = none) (hT : s.heap.IsTuple l items) (hi : items.toList = ks.map fun p => Value.ref p.1)
    (hk : ∀ p ∈ ks, L2.IsT P w s.heap p.2 p.1) (hl : ks.length < 64) (hu : A.in1.units < cLine)
    (q : ∀ (h' : Heap) (tk : Nat) (L : List (Addr × List Int)) (es : Array (Int × Value)) (ep : Nat) (t : SetTable), SetTR P w h' s.heap.objs.size L es ep t → L2.Got ks ks.length L → (∀ (b : Addr) (o : Obj), s.heap.get? b = some o → h'.get? b = some o) → Q (.done (.ret .none)) { heap := h', gens := s.gens, drawn := s.drawn, toks := tk, os := s.os }) :
    wpAny (model P w) A (Builtin.«set.__init__» { pos := [.ref s.heap.objs.size, .ref l] }) Q E { s with heap := s.heap.push { cls := .type "set", data := .set #[] 0 (SetTable.fresh 0 0 !w.params.followText "set-order") } } := by
  have nw : (s.heap.push { cls := .type "set", data := .set #[] 0 (SetTable.fresh 0 0 !w.params.followText "set-order") }).get? s.heap.objs.size = some { cls := .type "set", data := .set #[] 0 (SetTable.fresh 0 0 !w.params.followText "set-order") } := Heap.get?_push_size _ rfl
  unfold Builtin.«set.__init__»
  refine wpAny_bind (wpAny_pure ?_)
  dsimp only
  have fr := (setTR_fresh (P := P) (w := w) nw)
  have hT1 : (s.heap.push { cls := .type "set", data := .set #[] 0 (SetTable.fresh 0 0 !w.params.followText "set-order") }).IsTuple l items := by
    obtain ⟨o, h1, h2⟩ := hT
    exact ⟨o, Heap.get?_push_of_some _ h1, h2⟩
  have ty : ({ s with heap := s.heap.push { cls := .type "set", data := .set #[] 0 (SetTable.fresh 0 0 !w.params.followText "set-order") } } : Shared).TypeIs (.ref l) "tuple" := by
    obtain ⟨o, h1, h2, _⟩ := hT1
    exact ⟨o, h1, h2⟩
  refine wpAny_bind ?_
  unfold typeNameOfCut
  refine wpAny_bind ?_
  unfold shownTypeOf
  refine wpAny_bind (wpAny_typeOf (T := "set") ⟨_, nw, rfl⟩ ?_)
  rw [if_neg (by decide)]
  refine wpAny_pure ?_
  show wpAny _ _ (pure _) _ _ _
  refine wpAny_pure ?_
  refine wpAny_bind (m := checkCount _ 0 1 _) (wpAny_pure ?_)
  refine wpAny_bind (wpAny_pure ?_)
  refine wpAny_bind ?_
  unfold setUsed
  refine wpAny_bind (wpAny_setState_of nw rfl (SetTR.fits (s := { s with heap := s.heap.push { cls := .type "set", data := .set #[] 0 (SetTable.fresh 0 0 !w.params.followText "set-order") } }) fr) (wpAny_pure ?_))
  rw [if_neg (by simp [SetTable.fresh, SetTable.fill])]
  refine wpAny_bind ?_
  unfold Builtin.Frozenset.updateFrom
  refine wpAny_bind ?_
  unfold Builtin.Frozenset.isAnySet
  refine wpAny_bind (wpAny_isInstance ty F.sub_tuple_set ?_)
  refine wpAny_isInstance ty F.sub_tuple_frozenset ?_
  rw [if_neg (by decide)]
  refine wpAny_bind (wpAny_typeOf ty ?_)
  rw [if_neg (by decide)]
  refine wpAny_bind (wpAny_pyIter_tuple hT1 ?_)
  refine wpAny_bind (wpAny_runValue ?_)
  generalize hm : s.heap.push { cls := .type "set", data := .set #[] 0 (SetTable.fresh 0 0 !w.params.followText "set-order") } = m at nw hT1 ty fr ⊢
  have hsz : m.objs.size = s.heap.objs.size + 1 := by rw [← hm]; exact Heap.size_push _ _
  have hll : l < s.heap.objs.size := by
    obtain ⟨o, h1, _⟩ := hT
    exact Heap.lt_size h1
  have hne : l ≠ m.objs.size := by rw [hsz]; exact Nat.ne_of_lt (Nat.lt_succ_of_lt hll)
  have hns : l ≠ s.heap.objs.size := Nat.ne_of_lt hll
  have hms : m.objs.size ≠ s.heap.objs.size := by rw [hsz]; exact Nat.succ_ne_self _
  have wk := (Walks.tuple (prog := P) (w := w) (A := A.in1) hh m.objs.size l hne items).toS
  have fr2 : SetTR P w (m.push { cls := .type "tuple_iterator", data := .fields #[.ref l, .int 0 0] }) s.heap.objs.size [] #[] 0 (SetTable.fresh 0 0 !w.params.followText "set-order") := setTR_fresh (Heap.get?_push_of_some _ nw)
  have none_at : ∀ b : Addr, s.heap.objs.size ≤ b → s.heap.get? b = none := fun b hb => by
    cases e : s.heap.get? b with
    | none => rfl
    | some o => exact absurd (Heap.lt_size e) (Nat.not_lt.mpr hb)
  refine set_update_tups (A := A) wk s.heap.objs.size ?_ ks ?_ hl ?_ s.heap hk ?_ ?_ ?_ _ 0 _ rfl (Nat.zero_le _) ?_ ?_ ⟨[], _, _, _, fr2, Got.zero ks⟩ ?_
  · simp only [List.mem_cons, List.not_mem_nil, or_false]
    rintro (z | z)
    · exact hms z.symm
    · exact hns z.symm
  · rw [← Array.length_toList, hi, List.length_map]
  · intro i v hv
    rw [← Array.getElem?_toList, hi, List.getElem?_map] at hv
    obtain ⟨p, h1, h2⟩ := Option.map_eq_some_iff.mp hv
    exact ⟨p, h1, h2.symm⟩
  · exact none_at _ (Nat.le_refl _)
  · intro b hb
    rw [List.mem_singleton.mp hb, hsz]
    exact none_at _ (Nat.le_succ _)
  · exact hu
  · exact ⟨⟨_, Heap.get?_push_size _ rfl, by first | exact ⟨rfl, rfl⟩ | trace_state⟩, by
      obtain ⟨o, h1, h2⟩ := hT1
      exact ⟨o, Heap.get?_push_of_some _ h1, h2⟩⟩
  · intro b o hb
    refine Heap.get?_push_of_some _ ?_
    rw [← hm]
    exact Heap.get?_push_of_some _ hb
  · intro s' L es ep t hM hS hG hO
    have hn : items.size = ks.length := by rw [← Array.length_toList, hi, List.length_map]
    rw [hn] at hG
    obtain ⟨h', g', d', t', o'⟩ := s'
    obtain rfl : g' = s.gens := hM.gens
    obtain rfl : d' = s.drawn := hM.drawn
    obtain rfl : o' = s.os := hM.os
    refine wpAny_pure ?_
    exact wpAny_pure (q _ _ L es ep t hS hG hO)
end Z
/-! set(a tuple of rows), sorted of it -/
namespace Z
open PySem PySem.Spec PyProof.Rows L2
open Evl (Ex)
/-- the type's own call: a new set is made, then set's __init__ is told -/
theorem set_called {P : Program} {w : World} {A : Around} {E : Value → Shared → Prop} {s : Shared} {x : Value} {Q : Value → Shared → Prop}
    (q : ∀ s1 : Shared, s1 = { s with heap := s.heap.push { cls := .type "set", data := .set #[] 0 (SetTable.fresh 0 0 !w.params.followText "set-order") } } → ∀ R : PySem.Fin → Shared → Prop, (∀ s2, Q (.ref s.heap.objs.size) s2 → R (.done (.ret .none)) s2) → ∀ E' : Value → Shared → Prop, wpAny (model P w) A.in1.in1 (Builtin.«set.__init__» { pos := [.ref s.heap.objs.size, x] }) R E' s1) :
    wpAny (model P w) A (call (.type "set") [x]) Q E s := by
  have fs := F.called_set
  obtain ⟨_, _, f0⟩ := fs.mro
  have f1 := fs.made
  have f2 := fs.sub
  have f3 := fs.notType
  have f4 := fs.canCreate
  have f5 := F.typeCall_set_1 x
  apply wpAny_call
  apply codeAny_of_tree
  show wpAny _ _ (callAny (.type "set") _) _ _ _
  apply wpAny_pure
  refine And.intro (Code.quiet_builtin _ (by decide +kernel)) ?_
  apply codeAny_builtin F.entry_type_call
  rw [show A.under (Code.builtin "type.__call__" { pos := [Value.type "set", x] }) = A.in1 from Around.under_plain (weight_type_call_type "set" [x] []) rfl]
  unfold Builtin.«type.__call__»
  repeat (any_goals (first | assumption | wp_step))
  have mk := code_set_led1 (P := P) (w := w) (A := A.in1) (E := E) (s := s) x (Q₁ := fun v s1 => v = .ref s.heap.objs.size ∧ s1 = { s with heap := s.heap.push { cls := .type "set", data := .set #[] 0 (SetTable.fresh 0 0 !w.params.followText "set-order") } }) ⟨rfl, rfl⟩
  refine codeAny_mono mk ?_
  rintro (e | fl) s1 hv
  · exact hv
  cases fl with
  | ret v =>
    obtain ⟨rfl, hs1⟩ := hv
    have at1 : s1.TypeIs (.ref s.heap.objs.size) "set" := by
      rw [hs1]
      exact ⟨_, Heap.get?_push_size _ rfl, rfl⟩
    have g1 := fs.init.lookup
    have g2 := fs.init.bind (.ref s.heap.objs.size)
    have told := q s1 hs1
    repeat (any_goals (first | assumption | wp_step))
    refine codeAny_call_builtin fs.init.plain F.entry_set_init (check_set_init_1 at1 (told _ (fun s2 h2 => ?_) _))
    apply wpAny_pure
    repeat (any_goals (first | assumption | wp_step))
  | _ => exact hv.elim
theorem call_set_tupT {P : Program} {w : World} {A : Around} {E : Value → Shared → Prop} {s : Shared} {l : Addr} {items : Array Value} (ks : List (Addr × List Int)) {Q : Value → Shared → Prop} (hh : A.handled = none) (hT : s.heap.IsTuple l items) (hi : items.toList = ks.map fun p => Value.ref p.1)
    (hk : ∀ p ∈ ks, L2.IsT P w s.heap p.2 p.1) (hl : ks.length < 64) (hu : A.units + 64 < cLine)
    (q : ∀ (h' : Heap) (tk : Nat) (L : List (Addr × List Int)) (es : Array (Int × Value)) (ep : Nat) (t : SetTable), SetTR P w h' s.heap.objs.size L es ep t → L2.Got ks ks.length L → (∀ (b : Addr) (o : Obj), s.heap.get? b = some o → h'.get? b = some o) → Q (.ref s.heap.objs.size) { heap := h', gens := s.gens, drawn := s.drawn, toks := tk, os := s.os }) :
    wpAny (model P w) A (call (.type "set") [.ref l]) Q E s := by
  refine set_called fun s1 h1 R hR E' => ?_
  subst h1
  refine set_init_tupT ks hh hT hi hk hl (show A.units + 3 < cLine by omega) fun h' tk L es ep t a b c => hR _ (q h' tk L es ep t a b c)
/-- set(t), t a tuple of few rows -/
def rSetTup (K : Fg) (P : Program) (w : World) : List V → Hp → VK → Prop := fun vs H Q => ∃ (l : Addr) (ks : List (Addr × List Int)), vs = [V.ref l] ∧ SqT K H l (ks.map fun p => V.ref p.1) ∧ (∀ p ∈ ks, SqT K H p.1 (p.2.map V.int)) ∧ ks.length < 64 ∧
  ∀ (r : Addr) (L : List (Addr × List Int)), H r = none → (∀ p ∈ L, p ∈ ks) → (L.map (·.2)).Nodup → (∀ p ∈ ks, p.2 ∈ L.map (·.2)) → Q (.ref r) (upd H r (SetTO P w r L))
theorem vals_addrs : ∀ {ks : List (Addr × List Int)} {us : List Value}, Vals (ks.map fun p => V.ref p.1) us → us = ks.map fun p => Value.ref p.1
  | [], _, .nil => rfl
  | k :: ks, _, .cons a b => by
    have a : _ = Value.ref k.1 := a
    rw [a, vals_addrs b]
    rfl
theorem cr_setTup {X : Cx} (hc : X.calm = true) (hu : X.A.units + 64 < cLine) : CallR X (.type "set") (rSetTup X.K X.prog X.w) := by
  rintro pins s σ H vs us Q I r ⟨l, ks, rfl, ht, hk, hn, q⟩
  rw [Vals.ref1 r]
  obtain ⟨its, rv, tp, _⟩ := I.tuple ht
  refine call_set_tupT (P := X.prog) (w := X.w) ks (I.ok.hd hc) tp (vals_addrs rv) (fun p hp => I.isT (hk p hp)) hn (by omega) fun h' tk L es ep t hS g k => ?_
  refine ⟨.ref s.heap.objs.size, upd H s.heap.objs.size (SetTO X.prog X.w s.heap.objs.size L), laidD I k (Nat.le_refl _) (setTO_new hS.t0), rfl, q _ L (I.hok.fresh (Nat.le_refl _)) (fun p hp => List.mem_of_mem_take (g.sub p hp)) hS.nd fun p hp => g.all p ?_⟩
  rw [List.take_length]
  exact hp
section
variable {K : Fg} {E : L2.St → XK} {tA : TA} {S : Zs} {M : Ms} {Q : QZ} {X : XZ} {P : Program} {w : World}
theorem rows_at {G : Hp} : ∀ {ws : List V} {rows : List (List Int)}, Paired (fun v r => Dz K G v (rowD r)) ws rows → ∃ ks : List (Addr × List Int), ws = ks.map (fun p => V.ref p.1) ∧ rows = ks.map (·.2) ∧ ∀ p ∈ ks, Dz K G (.ref p.1) (rowD p.2)
  | _, _, .nil => ⟨[], rfl, rfl, fun _ h => nomatch h⟩
  | v :: _, r :: _, .cons a b => by
    obtain ⟨ks, h1, h2, h3⟩ := rows_at b
    obtain ⟨p, _, rfl, _, _⟩ := dp_tup a
    refine ⟨(p, r) :: ks, by rw [h1]; rfl, by rw [h2]; rfl, fun x hx => ?_⟩
    rcases List.mem_cons.mp hx with rfl | hx
    · exact a
    · exact h3 x hx
/-- sorted(set(t)), t a tuple of few rows, all different -/
theorem zw_sortSet (h : ZA K E tA S M (fun zs M1 => ∃ rows : List (List Int), zs = [.d (.tuple (rows.map rowD))] ∧ rows.length < 64 ∧ (∀ r ∈ rows, r ≠ []) ∧ rows.Nodup ∧ Q (.d (.list ((sortI rows).map rowD))) M1) X) : ZW K E (tCB (rSortSet K P w) (tCons (tCB (rSetTup K P w) tA) tNil)) S M Q X := fun n σ G H R Qv k kx =>
  h n σ G H R _ (fun vs G1 H1 zs M1 e1 R1 a1 ⟨rows, hz, hl, h0, hn, q⟩ => by
    subst hz
    obtain ⟨v, rfl, av⟩ := zall1 a1
    obtain ⟨p, ws, rfl, h1, h2⟩ := dp_tup av
    obtain ⟨ks, rfl, rfl, h3⟩ := rows_at (dza_rows h2)
    have h4 : ∀ {H' : Hp}, Ex G1 H' → ∀ p ∈ ks, SqT K H' p.1 (p.2.map V.int) := fun e p hp => by
      obtain ⟨t, ht, hs⟩ := dz_row e (h3 p hp)
      cases ht
      exact hs
    refine ⟨p, ks, rfl, Evl.ex_t R1.ex h1, h4 R1.ex, by rw [List.length_map] at hl; exact hl, fun r L hr hs hd ha => ?_⟩
    have R2 := R1.lay (o := SetTO P w r L) hr
    refine ⟨r, L, rfl, upd_same, fun p hp => h4 R2.ex p (hs p hp), fun p hp => h0 _ (List.mem_map.mpr ⟨p, hs p hp, rfl⟩), fun L' r2 pm pw hr2 => ?_⟩
    have gr := ex_gnone R2.ex hr2
    have pr : (L'.map (·.2)).Perm (ks.map (·.2)) := by
      refine (pm.map _).trans ((List.perm_ext_iff_of_nodup hd hn).mpr fun x => ⟨fun hx => ?_, fun hx => ?_⟩)
      · obtain ⟨p, hp, rfl⟩ := List.mem_map.mp hx
        exact List.mem_map.mpr ⟨p, hs p hp, rfl⟩
      · obtain ⟨p, hp, rfl⟩ := List.mem_map.mp hx
        exact ha p hp
    have es : L'.map (·.2) = sortI (ks.map (·.2)) := sortI_uniq pr (List.pairwise_map.mpr pw)
    refine k (.ref r2) _ _ (.d (.list ((sortI (ks.map (·.2))).map rowD))) M1 (e1.trans (Ex.new gr)) (R2.new hr2 (fun _ z => nomatch z)) (Dz.lst (Evl.sq_of upd_same) (dpAll_mono (Ex.new gr) ?_)) q
    rw [← es]
    have go : ∀ l : List (Addr × List Int), (∀ p ∈ l, p ∈ ks) → DzAll K G1 (l.map fun q => V.ref q.1) ((l.map (·.2)).map rowD) := by
      intro l
      induction l with
      | nil => exact fun _ => .nil
      | cons a l ih => exact fun hm => .cons (h3 a (hm a List.mem_cons_self)) (ih fun p hp => hm p (List.mem_cons_of_mem _ hp))
    exact go L' fun p hp => hs p (pm.mem_iff.mp hp)) kx
end
/-! a comprehension within a comprehension: the names of its block -/
theorem lookup_relab {env : Env} {k : NameKind} : ∀ {names : List (Str × NameKind)} {x : Str}, names.lookup x = some k → k = .cell ∨ k = .free →
    (names.map fun (n, k) => if (k == .free && env.scope.kind == .function && env.kindOf n == some .cell) then (n, NameKind.cell) else (n, k)).lookup x = some .cell ∨ (names.map fun (n, k) => if (k == .free && env.scope.kind == .function && env.kindOf n == some .cell) then (n, NameKind.cell) else (n, k)).lookup x = some .free
  | [], _, h, _ => by cases h
  | (n, j) :: r, x, h, hk => by
    rw [List.map_cons]
    by_cases e : x = n
    · subst e
      have h : some j = some k := by rw [List.lookup_cons_self] at h; exact h
      cases h
      dsimp only
      split
      · exact .inl List.lookup_cons_self
      · rw [List.lookup_cons_self]
        rcases hk with rfl | rfl
        · exact .inl rfl
        · exact .inr rfl
    · have b : (x == n) = false := beq_eq_false_iff_ne.mpr e
      have h : r.lookup x = some k := by rw [List.lookup_cons, b] at h; exact h
      have ih := lookup_relab (env := env) h hk
      have f : ∀ (v : Str × NameKind) (t : List (Str × NameKind)), v.1 = n → (v :: t).lookup x = t.lookup x := fun v t hv => by
        obtain ⟨v1, v2⟩ := v
        have hv : v1 = n := hv
        rw [List.lookup_cons, hv, b]
      rw [f _ _ (by dsimp only; split <;> rfl)]
      exact ih
theorem blkOk_in {N : List Str} {sc scope : Scope} {own : List (Str × Nat)} {env : Env} (h : blkC N sc scope own = true) : BlkOk N (relabel sc env) scope own :=
  have b := blkOk_by h
  ⟨b.kind, b.uniq, b.ix, fun y hy e => (b.free y hy e).elim (fun z => lookup_relab z (.inl rfl)) (fun z => lookup_relab z (.inr rfl)), b.own⟩
end Z
set_option autoImplicit true
namespace K03
open PySem PySem.Spec PyProof.Rows L2 Z
local macro_rules | `(tactic| walk_at "zd") => `(tactic| repeat (first | exact allD_nil | refine allD_cons ?_))
local macro_rules | `(tactic| walk_at "zm") => `(tactic| first | exact m0 | exact m1 m0 | exact m1 (m1 m0) | exact m1 (m1 (m1 m0)) | exact m1 (m1 (m1 (m1 m0))))
local macro_rules | `(tactic| walk_at "zu") => `(tactic| first | exact .here | exact .there .here | exact .there (.there .here) | exact .there (.there (.there .here)) | exact .there (.there (.there (.there .here))))
local macro_rules | `(tactic| walk_at "z") => `(tactic| first
  | with_reducible refine zs_seq ?_ | with_reducible refine zs_asg ?_ | with_reducible refine zs_setL ?_ | with_reducible refine zs_next ?_ | with_reducible refine zs_ret ?_ | with_reducible refine zs_retN ?_ | with_reducible refine zs_drop ?_ | with_reducible refine zs_if ?_ | with_reducible refine zs_par ?_
  | ((with_reducible refine' zw_var ?zv ?_); (case zv => rfl)) | with_reducible refine zw_int ?_ | with_reducible refine zw_str ?_ | with_reducible refine zw_bl ?_ | with_reducible refine zw_non ?_
  | with_reducible refine zw_op ?_ | with_reducible refine zw_un ?_ | with_reducible refine zw_tup ?_ | with_reducible refine zw_sl ?_ | with_reducible refine zp_none ?_ | with_reducible refine zp_some ?_ | with_reducible refine zw_m1 ?_
  | with_reducible refine zt_test ?_ | with_reducible refine zt_B ?_ | with_reducible refine zt_not ?_ | with_reducible refine zt_and ?_ | with_reducible refine zt_or ?_ | with_reducible refine zw_andV ?_ | with_reducible refine zw_orV ?_ | with_reducible refine zw_notV ?_ | with_reducible refine zw_if ?_
  | with_reducible refine za_cons ?_ | with_reducible refine za_nil ?_
  | with_reducible refine za_i ?_ | with_reducible refine zo_sub ?_ | with_reducible refine zo_lt ?_ | with_reducible refine zo_le ?_ | with_reducible refine zo_gt ?_ | with_reducible refine zo_ge ?_ | with_reducible refine zu_neg ?_
  | with_reducible refine zt_isi rfl ?_ | with_reducible refine zt_isi2 ?_ | with_reducible refine zw_isX rfl ?_ | with_reducible refine zw_cb ?_ | with_reducible refine zc_int ?_
  | ((with_reducible refine' zo_ixC ?za ?zb ?_); (case za => walk_at "zm"); (case zb => first | exact atI0 | exact atI1 | exact atI2 | exact atI3 | assumption)) | ((with_reducible refine' zo_ix ?zb ?_); (case zb => first | rfl | assumption)) | ((with_reducible refine' zc_len ?zb ?_); (case zb => first | rfl | assumption)) | ((with_reducible refine' zc_lenC ?za ?_); (case za => walk_at "zm"))
  | with_reducible refine zt_tru ?_ | with_reducible refine zw_con (by assumption) ?_ | with_reducible refine' zs_raiseO ?_ | with_reducible refine zs_asgG ?_ | with_reducible refine zw_call0 ?_ | with_reducible refine zw_callC0 ?_ | with_reducible refine zw_make0 ?_ | with_reducible refine zw_methO0 ?_ | with_reducible refine zw_callO0 ?_ | with_reducible refine zw_make ?_ | with_reducible refine zw_methO ?_ | with_reducible refine zw_callO ?_ | with_reducible refine zw_callC ?_ | with_reducible refine zw_call ?_ | with_reducible refine zs_forT ?_ | with_reducible refine zs_forL ?_ | with_reducible refine zs_forR1 ?_ | with_reducible refine zs_forR2 ?_ | with_reducible refine zw_lcR1 ?_ | with_reducible refine zw_lcR2 ?_ | with_reducible refine zt_yes ?_ | with_reducible refine zo_eqI ?_ | with_reducible refine zo_eqS ?_ | with_reducible refine zs_par3 ?_ | with_reducible refine zc_min2 ?_ | with_reducible refine zc_max2 ?_ | with_reducible refine zo_isN ?_ | with_reducible refine zo_notN ?_ | with_reducible refine zo_eqB ?_ | with_reducible refine zo_neB ?_ | with_reducible refine zo_neI ?_ | with_reducible refine zo_neS ?_ | with_reducible refine zo_inTS ?_ | with_reducible refine zo_inLS ?_ | with_reducible refine' zs_raiseS ?_ | with_reducible refine zw_js ?_ | with_reducible refine zj_nil ?_ | with_reducible refine zj_cons ?_ | with_reducible refine zw_chain ?_)
local macro_rules | `(tactic| walk_at "zz") => `(tactic| repeat (walk_at "z"))
local macro_rules | `(tactic| walk_at "ze") => `(tactic| first
  | refine ⟨fun _ => ?_, fun z => Bool.noConfusion z⟩ | refine ⟨fun z => Bool.noConfusion z, fun _ => ?_⟩
  | refine ⟨_, _, zg_tup rfl (zgs_cons (zgs_cons zgs_nil)), ?_⟩ | refine ⟨_, _, zg_tup rfl (zgs_cons (zgs_cons (zgs_cons zgs_nil))), ?_⟩ | refine ⟨_, _, zg_name, ?_⟩
  | refine ⟨_, _, _, rfl, rfl, rfl, ?_⟩ | refine ⟨_, _, rfl, rfl, ?_⟩ | refine ⟨_, rfl, ?_⟩ | exact ⟨_, rfl, rfl⟩)
local macro_rules | `(tactic| walk_at "zf") => `(tactic| first | refine ⟨_, _, _, _, rfl, m0, rfl, ?_⟩ | refine ⟨_, _, rfl, ⟨_, _, m0, rfl⟩, ?_⟩ | refine ⟨_, _, _, _, rfl, (by exact Nat.le_of_ble_eq_true rfl), .here, ?_⟩ | with_reducible refine zs_fld (by assumption) (by assumption) ?_ | with_reducible refine zw_fld (by assumption) (by assumption) ?_ | with_reducible refine zs_fldaug (by assumption) (by assumption) ?_)
local macro_rules | `(tactic| walk_at "zfq") => `(tactic| repeat (first | walk_at "zf" | walk_at "z" | walk_at "ze"))
local macro_rules | `(tactic| walk_at "zq") => `(tactic| repeat (first | walk_at "z" | walk_at "ze"))
local macro_rules | `(tactic| walk_at "zt") => `(tactic| first | (refine ⟨_, allD_nil, (by rw [sizeLine_eq]; first | decide | exact Nat.le_of_ble_eq_true rfl), ?_⟩) | (refine ⟨_, (allD_cons allD_nil), (by rw [sizeLine_eq]; first | decide | exact Nat.le_of_ble_eq_true rfl), ?_⟩) | (refine ⟨_, (allD_cons (allD_cons allD_nil)), (by rw [sizeLine_eq]; first | decide | exact Nat.le_of_ble_eq_true rfl), ?_⟩) | (refine ⟨_, (allD_cons (allD_cons (allD_cons allD_nil))), (by rw [sizeLine_eq]; first | decide | exact Nat.le_of_ble_eq_true rfl), ?_⟩) | (refine ⟨_, (allD_cons (allD_cons (allD_cons (allD_cons allD_nil)))), (by rw [sizeLine_eq]; first | decide | exact Nat.le_of_ble_eq_true rfl), ?_⟩) | (refine ⟨_, (allD_cons (allD_cons (allD_cons (allD_cons (allD_cons allD_nil))))), (by rw [sizeLine_eq]; first | decide | exact Nat.le_of_ble_eq_true rfl), ?_⟩) | (refine ⟨_, (allD_cons (allD_cons (allD_cons (allD_cons (allD_cons (allD_cons allD_nil)))))), (by rw [sizeLine_eq]; first | decide | exact Nat.le_of_ble_eq_true rfl), ?_⟩) | (refine ⟨_, (allD_cons (allD_cons (allD_cons (allD_cons (allD_cons (allD_cons (allD_cons allD_nil))))))), (by rw [sizeLine_eq]; first | decide | exact Nat.le_of_ble_eq_true rfl), ?_⟩) | (refine ⟨_, (allD_cons (allD_cons (allD_cons (allD_cons (allD_cons (allD_cons (allD_cons (allD_cons allD_nil)))))))), (by rw [sizeLine_eq]; first | decide | exact Nat.le_of_ble_eq_true rfl), ?_⟩) | (refine ⟨_, (allD_cons (allD_cons (allD_cons (allD_cons (allD_cons (allD_cons (allD_cons (allD_cons (allD_cons allD_nil))))))))), (by rw [sizeLine_eq]; first | decide | exact Nat.le_of_ble_eq_true rfl), ?_⟩) | (refine ⟨_, (allD_cons (allD_cons (allD_cons (allD_cons (allD_cons (allD_cons (allD_cons (allD_cons (allD_cons (allD_cons allD_nil)))))))))), (by rw [sizeLine_eq]; first | decide | exact Nat.le_of_ble_eq_true rfl), ?_⟩) | (refine ⟨_, (allD_cons (allD_cons (allD_cons (allD_cons (allD_cons (allD_cons (allD_cons (allD_cons (allD_cons (allD_cons (allD_cons allD_nil))))))))))), (by rw [sizeLine_eq]; first | decide | exact Nat.le_of_ble_eq_true rfl), ?_⟩) | (refine ⟨_, (allD_cons (allD_cons (allD_cons (allD_cons (allD_cons (allD_cons (allD_cons (allD_cons (allD_cons (allD_cons (allD_cons (allD_cons allD_nil)))))))))))), (by rw [sizeLine_eq]; first | decide | exact Nat.le_of_ble_eq_true rfl), ?_⟩) | (refine ⟨_, (allD_cons (allD_cons (allD_cons (allD_cons (allD_cons (allD_cons (allD_cons (allD_cons (allD_cons (allD_cons (allD_cons (allD_cons (allD_cons allD_nil))))))))))))), (by rw [sizeLine_eq]; first | decide | exact Nat.le_of_ble_eq_true rfl), ?_⟩) | (refine ⟨_, (allD_cons (allD_cons (allD_cons (allD_cons (allD_cons (allD_cons (allD_cons (allD_cons (allD_cons (allD_cons (allD_cons (allD_cons (allD_cons (allD_cons allD_nil)))))))))))))), (by rw [sizeLine_eq]; first | decide | exact Nat.le_of_ble_eq_true rfl), ?_⟩) | (refine ⟨_, (allD_cons (allD_cons (allD_cons (allD_cons (allD_cons (allD_cons (allD_cons (allD_cons (allD_cons (allD_cons (allD_cons (allD_cons (allD_cons (allD_cons (allD_cons allD_nil))))))))))))))), (by rw [sizeLine_eq]; first | decide | exact Nat.le_of_ble_eq_true rfl), ?_⟩) | (refine ⟨_, (allD_cons (allD_cons (allD_cons (allD_cons (allD_cons (allD_cons (allD_cons (allD_cons (allD_cons (allD_cons (allD_cons (allD_cons (allD_cons (allD_cons (allD_cons (allD_cons allD_nil)))))))))))))))), (by rw [sizeLine_eq]; first | decide | exact Nat.le_of_ble_eq_true rfl), ?_⟩) | (refine ⟨_, (allD_cons (allD_cons (allD_cons (allD_cons (allD_cons (allD_cons (allD_cons (allD_cons (allD_cons (allD_cons (allD_cons (allD_cons (allD_cons (allD_cons (allD_cons (allD_cons (allD_cons allD_nil))))))))))))))))), (by rw [sizeLine_eq]; first | decide | exact Nat.le_of_ble_eq_true rfl), ?_⟩) | (refine ⟨_, (allD_cons (allD_cons (allD_cons (allD_cons (allD_cons (allD_cons (allD_cons (allD_cons (allD_cons (allD_cons (allD_cons (allD_cons (allD_cons (allD_cons (allD_cons (allD_cons (allD_cons (allD_cons allD_nil)))))))))))))))))), (by rw [sizeLine_eq]; first | decide | exact Nat.le_of_ble_eq_true rfl), ?_⟩) | (refine ⟨_, (allD_cons (allD_cons (allD_cons (allD_cons (allD_cons (allD_cons (allD_cons (allD_cons (allD_cons (allD_cons (allD_cons (allD_cons (allD_cons (allD_cons (allD_cons (allD_cons (allD_cons (allD_cons (allD_cons allD_nil))))))))))))))))))), (by rw [sizeLine_eq]; first | decide | exact Nat.le_of_ble_eq_true rfl), ?_⟩) | (refine ⟨_, (allD_cons (allD_cons (allD_cons (allD_cons (allD_cons (allD_cons (allD_cons (allD_cons (allD_cons (allD_cons (allD_cons (allD_cons (allD_cons (allD_cons (allD_cons (allD_cons (allD_cons (allD_cons (allD_cons (allD_cons allD_nil)))))))))))))))))))), (by rw [sizeLine_eq]; first | decide | exact Nat.le_of_ble_eq_true rfl), ?_⟩) | (refine ⟨_, (allD_cons (allD_cons (allD_cons (allD_cons (allD_cons (allD_cons (allD_cons (allD_cons (allD_cons (allD_cons (allD_cons (allD_cons (allD_cons (allD_cons (allD_cons (allD_cons (allD_cons (allD_cons (allD_cons (allD_cons (allD_cons allD_nil))))))))))))))))))))), (by rw [sizeLine_eq]; first | decide | exact Nat.le_of_ble_eq_true rfl), ?_⟩) | (refine ⟨_, (allD_cons (allD_cons (allD_cons (allD_cons (allD_cons (allD_cons (allD_cons (allD_cons (allD_cons (allD_cons (allD_cons (allD_cons (allD_cons (allD_cons (allD_cons (allD_cons (allD_cons (allD_cons (allD_cons (allD_cons (allD_cons (allD_cons allD_nil)))))))))))))))))))))), (by rw [sizeLine_eq]; first | decide | exact Nat.le_of_ble_eq_true rfl), ?_⟩) | (refine ⟨_, (allD_cons (allD_cons (allD_cons (allD_cons (allD_cons (allD_cons (allD_cons (allD_cons (allD_cons (allD_cons (allD_cons (allD_cons (allD_cons (allD_cons (allD_cons (allD_cons (allD_cons (allD_cons (allD_cons (allD_cons (allD_cons (allD_cons (allD_cons allD_nil))))))))))))))))))))))), (by rw [sizeLine_eq]; first | decide | exact Nat.le_of_ble_eq_true rfl), ?_⟩))
local macro_rules | `(tactic| walk_at "z") => `(tactic| first | with_reducible refine zw_callB0 ?_ | with_reducible refine zw_makeE ?_ | with_reducible refine zc_abs ?_ | with_reducible refine zc_gcd ?_ | with_reducible refine zo_isB ?_ | with_reducible refine zo_isntB ?_ | with_reducible refine par_go ?_ | with_reducible refine par_go3 ?_)
local macro_rules | `(tactic| walk_at "z") => `(tactic| first | with_reducible refine zs_forN ?_ | with_reducible refine zw_callE0 ?_ | with_reducible refine zo_leR ?_ | with_reducible refine zw_din ?_ | with_reducible refine zw_dget2 ?_ | with_reducible refine zc_any ?_)
local macro_rules | `(tactic| walk_at "z") => `(tactic| first | with_reducible refine zs_asgF ?_ | with_reducible refine zs_forE ?_ | with_reducible refine zo_band ?_ | with_reducible refine zo_bor ?_ | with_reducible refine zo_bxor ?_ | with_reducible refine zo_shrN ?_ | with_reducible refine zw_fmtB ?_ | with_reducible refine zw_bmS ?_ | with_reducible refine zm_str1 ?_ | with_reducible refine zm_str2 ?_ | with_reducible refine zw_dnewT ?_ | with_reducible refine zw_sortKeys ?_ | with_reducible refine zs_dputT ?_ | with_reducible refine zs_augL ?_ | with_reducible refine zw_methH0 ?_ | with_reducible refine zw_methF ?_ | with_reducible refine zw_makeI ?_)
local macro_rules | `(tactic| walk_at "zf") => `(tactic| first | refine ⟨_, _, _, _, rfl, m1 m0, rfl, ?_⟩ | refine ⟨_, _, rfl, ⟨_, _, m1 m0, rfl⟩, ?_⟩)
local macro_rules | `(tactic| walk_at "zf") => `(tactic| refine ⟨_, _, _, _, rfl, Nat.le_of_ble_eq_true rfl, .there .here, ?_⟩)
local macro_rules | `(tactic| walk_at "z") => `(tactic| first | with_reducible refine zw_callM0 ?_ | with_reducible refine zo_notNC ?_ | with_reducible refine zo_isNC ?_)
local macro_rules | `(tactic| walk_at "z") => `(tactic| first | with_reducible refine zw_dpopK ?_ | with_reducible refine zw_lpop ?_ | with_reducible refine zw_lext ?_)
local macro_rules | `(tactic| walk_at "z") => `(tactic| with_reducible refine zw_sortSet ?_)
def topS (i : Nat) : Stmt := PySem.Challenge.pw_fateboards_k03_across_boards_apart.main.body.getD i (.Pass ⟨0, 0, 0, 0⟩)
abbrev s_wall : Stmt := topS 0
abbrev N_wall : List Str := ["k"]
theorem sc_wall : FnScope N_wall ["k"] (defScope s_wall) := ⟨rfl, rfl, rfl, by decide +kernel, rfl, by decide +kernel, by decide +kernel⟩
abbrev s_states_by_place : Stmt := topS 2
abbrev N_states_by_place : List Str := ["board", "x", "y", "state"]
theorem sc_states_by_place : FnScope N_states_by_place ["board"] (defScope s_states_by_place) := ⟨rfl, rfl, rfl, by decide +kernel, rfl, by decide +kernel, by decide +kernel⟩
abbrev s_corners : Stmt := topS 3
abbrev N_corners : List Str := ["board", "ys", "cell"]
theorem sc_corners : FnScope N_corners ["board"] (defScope s_corners) := ⟨rfl, rfl, rfl, by decide +kernel, rfl, by decide +kernel, by decide +kernel⟩
abbrev s_places_near : Stmt := topS 4
abbrev N_places_near : List Str := ["place", "x", "y", "right", "down"]
theorem sc_places_near : FnScope N_places_near ["place"] (defScope s_places_near) := ⟨rfl, rfl, rfl, by decide +kernel, rfl, by decide +kernel, by decide +kernel⟩
abbrev s_is_between : Stmt := topS 13
abbrev N_is_between : List Str := ["value", "low", "high"]
theorem sc_is_between : FnScope N_is_between ["value", "low", "high"] (defScope s_is_between) := ⟨rfl, rfl, rfl, by decide +kernel, rfl, by decide +kernel, by decide +kernel⟩
abbrev s_lots_of : Stmt := topS 15
abbrev N_lots_of : List Str := ["board"]
theorem sc_lots_of : FnScope N_lots_of ["board"] (defScope s_lots_of) := ⟨rfl, rfl, rfl, by decide +kernel, rfl, by decide +kernel, by decide +kernel⟩
abbrev s_few_lots : Stmt := topS 16
abbrev N_few_lots : List Str := ["board", "many", "most", "taker", "lots", "cell"]
theorem sc_few_lots : FnScope N_few_lots ["board", "many", "most"] (defScope s_few_lots) := ⟨rfl, rfl, rfl, by decide +kernel, rfl, by decide +kernel, by decide +kernel⟩
abbrev s_LotTaker_init : Stmt := inClass (topS 17) 0
abbrev N_LotTaker_init : List Str := ["self", "board", "top", "bottom", "right", "down", "cell"]
theorem sc_LotTaker_init : FnScope N_LotTaker_init ["self", "board"] (defScope s_LotTaker_init) := ⟨rfl, rfl, rfl, by decide +kernel, rfl, by decide +kernel, by decide +kernel⟩
abbrev s_LotTaker_number : Stmt := inClass (topS 17) 1
abbrev N_LotTaker_number : List Str := ["self", "cell"]
theorem sc_LotTaker_number : FnScope N_LotTaker_number ["self", "cell"] (defScope s_LotTaker_number) := ⟨rfl, rfl, rfl, by decide +kernel, rfl, by decide +kernel, by decide +kernel⟩
abbrev s_LotTaker_has : Stmt := inClass (topS 17) 2
abbrev N_LotTaker_has : List Str := ["self", "cell"]
theorem sc_LotTaker_has : FnScope N_LotTaker_has ["self", "cell"] (defScope s_LotTaker_has) := ⟨rfl, rfl, rfl, by decide +kernel, rfl, by decide +kernel, by decide +kernel⟩
abbrev s_LotTaker_take : Stmt := inClass (topS 17) 3
abbrev N_LotTaker_take : List Str := ["self", "cell", "most", "waiting", "lot", "number", "near", "step", "other"]
theorem sc_LotTaker_take : FnScope N_LotTaker_take ["self", "cell", "most"] (defScope s_LotTaker_take) := ⟨rfl, rfl, rfl, by decide +kernel, rfl, by decide +kernel, by decide +kernel⟩
abbrev s_check_board : Stmt := topS 19
abbrev N_check_board : List Str := ["board", "index", "cell"]
theorem sc_check_board : FnScope N_check_board ["board"] (defScope s_check_board) := ⟨rfl, rfl, rfl, by decide +kernel, rfl, by decide +kernel, by decide +kernel⟩
abbrev s_is_cell : Stmt := topS 20
abbrev N_is_cell : List Str := ["value"]
theorem sc_is_cell : FnScope N_is_cell ["value"] (defScope s_is_cell) := ⟨rfl, rfl, rfl, by decide +kernel, rfl, by decide +kernel, by decide +kernel⟩
abbrev s_is_move : Stmt := topS 21
abbrev N_is_move : List Str := ["value"]
theorem sc_is_move : FnScope N_is_move ["value"] (defScope s_is_move) := ⟨rfl, rfl, rfl, by decide +kernel, rfl, by decide +kernel, by decide +kernel⟩
abbrev s_joined : Stmt := topS 22
abbrev N_joined : List Str := ["board", "other", "taken", "x", "y", "_"]
theorem sc_joined : FnScope N_joined ["board", "other"] (defScope s_joined) := ⟨rfl, rfl, rfl, by decide +kernel, rfl, by decide +kernel, by decide +kernel⟩
abbrev s_are_near : Stmt := topS 23
abbrev N_are_near : List Str := ["board", "other", "taken", "x", "y", "_", "place"]
theorem sc_are_near : FnScope N_are_near ["board", "other"] (defScope s_are_near) := ⟨rfl, rfl, rfl, by decide +kernel, rfl, by decide +kernel, by decide +kernel⟩
abbrev s_lots : Stmt := topS 24
abbrev N_lots : List Str := ["board"]
theorem sc_lots : FnScope N_lots ["board"] (defScope s_lots) := ⟨rfl, rfl, rfl, by decide +kernel, rfl, by decide +kernel, by decide +kernel⟩
abbrev s_check_rule : Stmt := topS 26
abbrev N_check_rule : List Str := ["rule"]
theorem sc_check_rule : FnScope N_check_rule ["rule"] (defScope s_check_rule) := ⟨rfl, rfl, rfl, by decide +kernel, rfl, by decide +kernel, by decide +kernel⟩
abbrev s_is_rule : Stmt := topS 27
abbrev N_is_rule : List Str := ["value", "births", "stays", "states"]
theorem sc_is_rule : FnScope N_is_rule ["value"] (defScope s_is_rule) := ⟨rfl, rfl, rfl, by decide +kernel, rfl, by decide +kernel, by decide +kernel⟩
abbrev s_are_counts : Stmt := topS 28
abbrev N_are_counts : List Str := ["value", "least", "count"]
theorem sc_are_counts : FnScope N_are_counts ["value", "least"] (defScope s_are_counts) := ⟨rfl, rfl, rfl, by decide +kernel, rfl, by decide +kernel, by decide +kernel⟩
abbrev s_floor_of : Stmt := topS 33
abbrev N_floor_of : List Str := ["rule", "board"]
theorem sc_floor_of : FnScope N_floor_of ["rule", "board"] (defScope s_floor_of) := ⟨rfl, rfl, rfl, by decide +kernel, rfl, by decide +kernel, by decide +kernel⟩
abbrev s_suits_bits : Stmt := topS 34
abbrev N_suits_bits : List Str := ["board", "left", "top", "right", "bottom"]
theorem sc_suits_bits : FnScope N_suits_bits ["board"] (defScope s_suits_bits) := ⟨rfl, rfl, rfl, by decide +kernel, rfl, by decide +kernel, by decide +kernel⟩
abbrev s_with_margin : Stmt := topS 35
abbrev N_with_margin : List Str := ["box", "left", "top", "right", "bottom"]
theorem sc_with_margin : FnScope N_with_margin ["box"] (defScope s_with_margin) := ⟨rfl, rfl, rfl, by decide +kernel, rfl, by decide +kernel, by decide +kernel⟩
abbrev s_BitFloor_init : Stmt := inClass (topS 36) 0
abbrev N_BitFloor_init : List Str := ["self", "rule", "board", "births", "stays", "states", "count", "right", "bottom", "x", "y", "state"]
theorem sc_BitFloor_init : FnScope N_BitFloor_init ["self", "rule", "board"] (defScope s_BitFloor_init) := ⟨rfl, rfl, rfl, by decide +kernel, rfl, by decide +kernel, by decide +kernel⟩
abbrev s_BitFloor_advance : Stmt := inClass (topS 36) 1
abbrev N_BitFloor_advance : List Str := ["self", "alive", "taken", "plane", "sides", "staying", "born", "later"]
theorem sc_BitFloor_advance : FnScope N_BitFloor_advance ["self"] (defScope s_BitFloor_advance) := ⟨rfl, rfl, rfl, by decide +kernel, rfl, by decide +kernel, by decide +kernel⟩
abbrev s_BitFloor_size : Stmt := inClass (topS 36) 2
abbrev N_BitFloor_size : List Str := ["self", "plane"]
theorem sc_BitFloor_size : FnScope N_BitFloor_size ["self"] (defScope s_BitFloor_size) := ⟨rfl, rfl, rfl, by decide +kernel, rfl, by decide +kernel, by decide +kernel⟩
abbrev s_BitFloor_board : Stmt := inClass (topS 36) 3
abbrev N_BitFloor_board : List Str := ["self", "cells", "index", "plane", "bit", "x", "y"]
theorem sc_BitFloor_board : FnScope N_BitFloor_board ["self"] (defScope s_BitFloor_board) := ⟨rfl, rfl, rfl, by decide +kernel, rfl, by decide +kernel, by decide +kernel⟩
abbrev s_bits : Stmt := topS 37
abbrev N_bits : List Str := ["plane", "text", "last", "found", "at"]
theorem sc_bits : FnScope N_bits ["plane"] (defScope s_bits) := ⟨rfl, rfl, rfl, by decide +kernel, rfl, by decide +kernel, by decide +kernel⟩
abbrev s_counts : Stmt := topS 38
abbrev N_counts : List Str := ["plane", "high", "ones", "twos", "first", "from_ones", "from_twos", "fours", "more_fours"]
theorem sc_counts : FnScope N_counts ["plane", "high"] (defScope s_counts) := ⟨rfl, rfl, rfl, by decide +kernel, rfl, by decide +kernel, by decide +kernel⟩
abbrev s_sum_of_three : Stmt := topS 39
abbrev N_sum_of_three : List Str := ["one", "two", "three", "either"]
theorem sc_sum_of_three : FnScope N_sum_of_three ["one", "two", "three"] (defScope s_sum_of_three) := ⟨rfl, rfl, rfl, by decide +kernel, rfl, by decide +kernel, by decide +kernel⟩
abbrev s_with_counts : Stmt := topS 40
abbrev N_with_counts : List Str := ["counts", "sides", "ones", "twos", "fours", "eights", "found", "count"]
theorem sc_with_counts : FnScope N_with_counts ["counts", "sides"] (defScope s_with_counts) := ⟨rfl, rfl, rfl, by decide +kernel, rfl, by decide +kernel, by decide +kernel⟩
abbrev s_CellFloor_init : Stmt := inClass (topS 41) 0
abbrev N_CellFloor_init : List Str := ["self", "rule", "board"]
theorem sc_CellFloor_init : FnScope N_CellFloor_init ["self", "rule", "board"] (defScope s_CellFloor_init) := ⟨rfl, rfl, rfl, by decide +kernel, rfl, by decide +kernel, by decide +kernel⟩
abbrev s_CellFloor_advance : Stmt := inClass (topS 41) 1
abbrev N_CellFloor_advance : List Str := ["self", "counts", "later", "place", "state", "x", "y"]
theorem sc_CellFloor_advance : FnScope N_CellFloor_advance ["self"] (defScope s_CellFloor_advance) := ⟨rfl, rfl, rfl, by decide +kernel, rfl, by decide +kernel, by decide +kernel⟩
abbrev s_CellFloor_living_around : Stmt := inClass (topS 41) 2
abbrev N_CellFloor_living_around : List Str := ["self", "counts", "x", "y", "state", "place"]
theorem sc_CellFloor_living_around : FnScope N_CellFloor_living_around ["self"] (defScope s_CellFloor_living_around) := ⟨rfl, rfl, rfl, by decide +kernel, rfl, by decide +kernel, by decide +kernel⟩
abbrev s_CellFloor_size : Stmt := inClass (topS 41) 3
abbrev N_CellFloor_size : List Str := ["self"]
theorem sc_CellFloor_size : FnScope N_CellFloor_size ["self"] (defScope s_CellFloor_size) := ⟨rfl, rfl, rfl, by decide +kernel, rfl, by decide +kernel, by decide +kernel⟩
abbrev s_CellFloor_board : Stmt := inClass (topS 41) 4
abbrev N_CellFloor_board : List Str := ["self", "x", "y", "state"]
theorem sc_CellFloor_board : FnScope N_CellFloor_board ["self"] (defScope s_CellFloor_board) := ⟨rfl, rfl, rfl, by decide +kernel, rfl, by decide +kernel, by decide +kernel⟩
abbrev s_places_around : Stmt := topS 42
abbrev N_places_around : List Str := ["x", "y"]
theorem sc_places_around : FnScope N_places_around ["x", "y"] (defScope s_places_around) := ⟨rfl, rfl, rfl, by decide +kernel, rfl, by decide +kernel, by decide +kernel⟩
abbrev s_Run_init : Stmt := inClass (topS 45) 0
abbrev N_Run_init : List Str := ["self", "rule", "board"]
theorem sc_Run_init : FnScope N_Run_init ["self", "rule", "board"] (defScope s_Run_init) := ⟨rfl, rfl, rfl, by decide +kernel, rfl, by decide +kernel, by decide +kernel⟩
abbrev s_Run_advance : Stmt := inClass (topS 45) 1
abbrev N_Run_advance : List Str := ["self"]
theorem sc_Run_advance : FnScope N_Run_advance ["self"] (defScope s_Run_advance) := ⟨rfl, rfl, rfl, by decide +kernel, rfl, by decide +kernel, by decide +kernel⟩
abbrev s_Run_board : Stmt := inClass (topS 45) 2
abbrev N_Run_board : List Str := ["self"]
theorem sc_Run_board : FnScope N_Run_board ["self"] (defScope s_Run_board) := ⟨rfl, rfl, rfl, by decide +kernel, rfl, by decide +kernel, by decide +kernel⟩
abbrev s_Run_move_from : Stmt := inClass (topS 45) 3
abbrev N_Run_move_from : List Str := ["self", "board"]
theorem sc_Run_move_from : FnScope N_Run_move_from ["self", "board"] (defScope s_Run_move_from) := ⟨rfl, rfl, rfl, by decide +kernel, rfl, by decide +kernel, by decide +kernel⟩
abbrev s_board_after : Stmt := topS 46
abbrev N_board_after : List Str := ["rule", "board", "many", "run", "_"]
theorem sc_board_after : FnScope N_board_after ["rule", "board", "many"] (defScope s_board_after) := ⟨rfl, rfl, rfl, by decide +kernel, rfl, by decide +kernel, by decide +kernel⟩
abbrev s_step : Stmt := topS 48
abbrev N_step : List Str := ["rule", "board"]
theorem sc_step : FnScope N_step ["rule", "board"] (defScope s_step) := ⟨rfl, rfl, rfl, by decide +kernel, rfl, by decide +kernel, by decide +kernel⟩
abbrev s_law_are_near : Stmt := topS 50
abbrev N_law_are_near : List Str := ["board", "other", "cells", "cell", "x", "y", "state", "a", "b"]
theorem sc_law_are_near : FnScope N_law_are_near ["board", "other"] (defScope s_law_are_near) := ⟨rfl, rfl, rfl, by decide +kernel, rfl, by decide +kernel, by decide +kernel⟩
abbrev s_law_taken : Stmt := topS 51
abbrev N_law_taken : List Str := ["row", "many", "found", "cell"]
theorem sc_law_taken : FnScope N_law_taken ["row", "many"] (defScope s_law_taken) := ⟨rfl, rfl, rfl, by decide +kernel, rfl, by decide +kernel, by decide +kernel⟩
abbrev s_law_pick : Stmt := topS 52
abbrev N_law_pick : List Str := ["row", "things"]
theorem sc_law_pick : FnScope N_law_pick ["row", "things"] (defScope s_law_pick) := ⟨rfl, rfl, rfl, by decide +kernel, rfl, by decide +kernel, by decide +kernel⟩
abbrev s_law_some_rule : Stmt := topS 53
abbrev N_law_some_rule : List Str := ["row", "way", "births", "k", "stays"]
theorem sc_law_some_rule : FnScope N_law_some_rule ["row"] (defScope s_law_some_rule) := ⟨rfl, rfl, rfl, by decide +kernel, rfl, by decide +kernel, by decide +kernel⟩
abbrev s_law_cells : Stmt := topS 54
abbrev N_law_cells : List Str := ["row", "wide", "high", "states", "found", "x", "y"]
theorem sc_law_cells : FnScope N_law_cells ["row", "wide", "high", "states"] (defScope s_law_cells) := ⟨rfl, rfl, rfl, by decide +kernel, rfl, by decide +kernel, by decide +kernel⟩
abbrev s_law_moved : Stmt := topS 55
abbrev N_law_moved : List Str := ["board", "x", "y", "cell"]
theorem sc_law_moved : FnScope N_law_moved ["board", "x", "y"] (defScope s_law_moved) := ⟨rfl, rfl, rfl, by decide +kernel, rfl, by decide +kernel, by decide +kernel⟩
abbrev s_law_signed : Stmt := topS 56
abbrev N_law_signed : List Str := ["row", "most"]
theorem sc_law_signed : FnScope N_law_signed ["row", "most"] (defScope s_law_signed) := ⟨rfl, rfl, rfl, by decide +kernel, rfl, by decide +kernel, by decide +kernel⟩
abbrev s_law_alike : Stmt := topS 57
abbrev N_law_alike : List Str := ["found", "due", "k"]
theorem sc_law_alike : FnScope N_law_alike ["found", "due"] (defScope s_law_alike) := ⟨rfl, rfl, rfl, by decide +kernel, rfl, by decide +kernel, by decide +kernel⟩
abbrev s_law_lots : Stmt := topS 58
abbrev N_law_lots : List Str := ["board", "left", "found", "lot", "grown", "more", "cell"]
theorem sc_law_lots : FnScope N_law_lots ["board"] (defScope s_law_lots) := ⟨rfl, rfl, rfl, by decide +kernel, rfl, by decide +kernel, by decide +kernel⟩
abbrev s_law : Stmt := topS 59
abbrev N_law : List Str := ["script", "row", "rule", "one", "two", "near", "board", "cell", "other", "told", "k", "j", "whole", "lot"]
theorem sc_law : FnScope N_law ["script"] (defScope s_law) := ⟨rfl, rfl, rfl, by decide +kernel, rfl, by decide +kernel, by decide +kernel⟩
def dBetween (x : PyData) (lo hi : Int) : Bool := match x with | .int i => decide (lo ≤ i) && decide (i ≤ hi) | _ => false
def R_between (ds : List PyData) (o : DOut) : Prop := ∃ x lo hi, ds = [x, .int lo, .int hi] ∧ o = .ok (.bool (dBetween x lo hi))
theorem ok_is_between {P : Program} {w : World} {K : Fg} {mg : Str → Option Value} {base : Heap} {f : Addr} {fd : FuncData} (F : Fun K "is_between" "is_between" s_is_between f fd)
    (m_isinstance : mg "isinstance" = none)
    (m_int : mg "int" = none)
    (m_bool : mg "bool" = none) :
    FnOk P w K mg base (L2.CX P w) 1 f fd ["value", "low", "high"] (spD K 3 R_between) := by
  refine F.okX sc_is_between (fun vs H Q E h => len_D h) (fun cdv A outer s H vs Q E hr h => ⟨_, (pss_cons (ps_if (PW.pt (pw_or (pt_val (pe_callB call_isi (by rfl) m_isinstance bb_isinstance (pa_cons (pv 0) (pa_cons (pe_bltn (v := .ty "bool") (by rfl) m_bool bt_bool rfl) pa_nil))) (fun _ => rfl)) (pw_or1 (pt_not (pt_val (pe_callB call_isi (by rfl) m_isinstance bb_isinstance (pa_cons (pv 0) (pa_cons (pe_bltn (v := .ty "int") (by rfl) m_int bt_int rfl) pa_nil))) (fun _ => rfl)))))) (pss_one (ps_ret pe_bl)) pss_nil)
      (pss_one (ps_ret (pe_chain op_le op_le (pv 1) (pv 0) (pv 2))))),
    fn_D h fun ds o hk hR => ?_⟩)
  try dsimp only [L2.cxOf]
  obtain ⟨x, lo, hi, rfl, rfl⟩ := hR
  walk_at "zz"
  cases x <;> walk_at "zq"
  all_goals try rfl
  rename_i i _ _
  have hb : dBetween (.int i) lo hi = (decide (lo ≤ i) && decide (i ≤ hi)) := rfl
  refine ⟨fun e => ?_, fun e => ?_⟩
  · exact ⟨_, rfl, by rw [hb, e]; rfl⟩
  · walk_at "zq"
    show _ = _
    rw [hb, e]
    rfl
def R_chknum (ds : List PyData) (o : DOut) : Prop := ∃ x lo hi, ds = [.int x, .int lo, .int hi] ∧ lo ≤ x ∧ x ≤ hi ∧ o = .ok .none
abbrev FAR : Int := 1000000000000000000000000000000000000000000000000000000000000
/-- a place or a move -/
abbrev pr (x y : Int) : PyData := .tuple [.int x, .int y]
def InFar (x : Int) : Prop := -FAR ≤ x ∧ x ≤ FAR
def farB (v : PyData) : Bool := dBetween v (-FAR) FAR
def moveB : PyData → Bool
  | .tuple [a, b] => farB a && farB b
  | _ => false
/-- pairs of numbers of any kind -/
def R_ismove (ds : List PyData) (o : DOut) : Prop := (∃ a b, ds = [.tuple [a, b]] ∧ o = .ok (.bool (farB a && farB b))) ∨ (ds = [.list [.int 0, .int 0]] ∧ o = .ok (.bool false))
theorem ok_is_move {P : Program} {w : World} {K : Fg} {mg : Str → Option Value} {base : Heap} {f : Addr} {fd : FuncData} (F : Fun K "is_move" "is_move" s_is_move f fd)
    (m_len : mg "len" = none)
    (m_isinstance : mg "isinstance" = none)
    (m_tuple : mg "tuple" = none)
    (g_FAR : ∃ u, mg "FAR" = some u ∧ RelV (.int 1000000000000000000000000000000000000000000000000000000000000) u)
    (c_is_between : Cal P w K mg base 1 "is_between" (spD K 3 R_between)) :
    FnOk P w K mg base (L2.CX P w) 2 f fd ["value"] (spD K 1 R_ismove) := by
  refine F.okX sc_is_move (fun vs H Q E h => len_D h) (fun cdv A outer s H vs Q E hr h => ⟨_, (pss_cons (ps_if (PW.pt (pw_or (pt_not (pt_val (pe_callB call_isi (by rfl) m_isinstance bb_isinstance (pa_cons (pv 0) (pa_cons (pe_bltn (v := .ty "tuple") (by rfl) m_tuple bt_tuple rfl) pa_nil))) (fun _ => rfl))) (pw_or1 (pt_cmpR (op_neA hr.units) (pe_callB call_len (by rfl) m_len bb_len (pa_cons (pv 0) pa_nil)) pe_int (nomark _))))) (pss_one (ps_ret pe_bl)) pss_nil)
      (pss_one (ps_ret (pe_and (pe_cl c_is_between hr (show 1 ≤ 1 by decide) passL (pa_cons (pe_ix ix_seq (pv 0) pe_int (fun _ _ => rfl)) (pa_cons (pe_un un_neg (pe_glob (by rfl) g_FAR.choose_spec.1 g_FAR.choose_spec.2)) (pa_cons (pe_glob (by rfl) g_FAR.choose_spec.1 g_FAR.choose_spec.2) pa_nil)))) (pe_one (pe_cl c_is_between hr (show 1 ≤ 1 by decide) passL (pa_cons (pe_ix ix_seq (pv 0) pe_int (fun _ _ => rfl)) (pa_cons (pe_un un_neg (pe_glob (by rfl) g_FAR.choose_spec.1 g_FAR.choose_spec.2)) (pa_cons (pe_glob (by rfl) g_FAR.choose_spec.1 g_FAR.choose_spec.2) pa_nil))))))))),
    fn_D h fun ds o hk hR => ?_⟩)
  try dsimp only [L2.cxOf]
  rcases hR with ⟨a, b, rfl, rfl⟩ | ⟨rfl, rfl⟩
  rotate_left
  · walk_at "zq"
    try rfl
  walk_at "zq"
  refine ⟨_, _, by walk_at "zd", rfl, ⟨a, _, _, rfl, rfl⟩, ?_⟩
  rw [show dBetween a (-(1000000000000000000000000000000000000000000000000000000000000)) (1000000000000000000000000000000000000000000000000000000000000) = farB a from rfl]
  cases farB a with
  | false =>
    walk_at "zq"
    try rfl
  | true =>
    walk_at "zq"
    refine ⟨_, _, by walk_at "zd", rfl, ⟨b, _, _, rfl, rfl⟩, ?_⟩
    walk_at "zq"
    try rfl
def R_chkmove (ds : List PyData) (o : DOut) : Prop := ∃ x y, ds = [pr x y] ∧ InFar x ∧ InFar y ∧ o = .ok .none
theorem far_t {x : Int} (h : InFar x) : farB (.int x) = true := by unfold farB dBetween; simp only [decide_eq_true h.1, decide_eq_true h.2]; rfl
theorem far_f {x : Int} (h : ¬ InFar x) : farB (.int x) = false := by
  show (decide (-FAR ≤ x) && decide (x ≤ FAR)) = false
  by_cases h1 : -FAR ≤ x
  · rw [decide_eq_false (fun z => h ⟨h1, z⟩)]; simp
  · rw [decide_eq_false h1]; rfl
/-! ### cells -/
structure Cell where
  x : Int
  y : Int
  s : Int
def Cell.r (c : Cell) : List Int := [c.x, c.y, c.s]
abbrev Cell.d (c : Cell) : PyData := .tuple [.int c.x, .int c.y, .int c.s]
/-- what may stand among a board's rows -/
inductive Wild : PyData → Prop
  | cell (c : Cell) : Wild c.d
  | two (x y : Int) : Wild (pr x y)
  | odd : Wild (.tuple [.bool true, .int 0, .int 1])
  | non : Wild .none
  | lst (l : List Int) : l.length ≤ 10 → Wild (.list (l.map .int))
def okB : PyData → Bool
  | .tuple [a, b, c] => (farB a && farB b) && dBetween c 1 5
  | _ => false
def R_isCell (ds : List PyData) (o : DOut) : Prop := ∃ v, ds = [v] ∧ Wild v ∧ o = .ok (.bool (okB v))
theorem ok_is_cell {P : Program} {w : World} {K : Fg} {mg : Str → Option Value} {base : Heap} {f : Addr} {fd : FuncData} (F : Fun K "_is_cell" "_is_cell" s_is_cell f fd)
    (m_len : mg "len" = none)
    (m_isinstance : mg "isinstance" = none)
    (m_tuple : mg "tuple" = none)
    (c_is_between : Cal P w K mg base 1 "is_between" (spD K 3 R_between))
    (c_is_move : Cal P w K mg base 2 "is_move" (spD K 1 R_ismove)) :
    FnOk P w K mg base (L2.CX P w) 3 f fd ["value"] (spD K 1 R_isCell) := by
  refine F.okX sc_is_cell (fun vs H Q E h => len_D h) (fun cdv A outer s H vs Q E hr h => ⟨_, (pss_cons (ps_if (PW.pt (pw_or (pt_not (pt_val (pe_callB call_isi (by rfl) m_isinstance bb_isinstance (pa_cons (pv 0) (pa_cons (pe_bltn (v := .ty "tuple") (by rfl) m_tuple bt_tuple rfl) pa_nil))) (fun _ => rfl))) (pw_or1 (pt_cmpR (op_neA hr.units) (pe_callB call_len (by rfl) m_len bb_len (pa_cons (pv 0) pa_nil)) pe_int (nomark _))))) (pss_one (ps_ret pe_bl)) pss_nil)
      (pss_one (ps_ret (pe_and (pe_cl c_is_move hr (show 2 ≤ 2 by decide) passL (pa_cons (pe_slice sl_any (pv 0) po_none (po_some pe_int)) pa_nil)) (pe_one (pe_cl c_is_between hr (show 1 ≤ 2 by decide) passL (pa_cons (pe_ix ix_seq (pv 0) pe_int (fun _ _ => rfl)) (pa_cons pe_int (pa_cons pe_int pa_nil))))))))),
    fn_D h fun ds o hk hR => ?_⟩)
  try dsimp only [L2.cxOf]
  obtain ⟨v, rfl, hw, rfl⟩ := hR
  cases hw with
  | cell c =>
    walk_at "zq"
    refine ⟨_, _, by walk_at "zd", rfl, .inl ⟨_, _, rfl, rfl⟩, ?_⟩
    rw [show okB c.d = ((farB (.int c.x) && farB (.int c.y)) && dBetween (.int c.s) 1 5) from rfl]
    cases (farB (.int c.x) && farB (.int c.y)) with
    | false =>
      walk_at "zq"
      try rfl
    | true =>
      walk_at "zq"
      refine ⟨_, _, by walk_at "zd", rfl, ⟨_, _, _, rfl, rfl⟩, ?_⟩
      walk_at "zq"
      try rfl
  | two x y =>
    walk_at "zq"
    try rfl
  | odd =>
    walk_at "zq"
    refine ⟨_, _, by walk_at "zd", rfl, .inl ⟨_, _, rfl, rfl⟩, ?_⟩
    walk_at "zq"
    try rfl
  | non =>
    walk_at "zq"
    try rfl
  | lst l hl =>
    walk_at "zq"
    try rfl
/-- a row's place -/
def xy : PyData → List Int
  | .tuple (.int x :: .int y :: _) => [x, y]
  | _ => []
/-- row i can't stand there -/
def Bad (vs : List PyData) (i : Nat) : Prop := ∃ v, vs[i]? = some v ∧ (okB v = false ∨ (0 < i ∧ ∃ u, vs[i - 1]? = some u ∧ leQ (xy v) (xy u) = true))
def FirstBad (vs : List PyData) (i : Nat) : Prop := Bad vs i ∧ ∀ j, j < i → ¬ Bad vs j
theorem firstBad_uniq {vs : List PyData} {i j : Nat} (h : FirstBad vs i) (hj : Bad vs j) (hb : ∀ k, k < j → ¬ Bad vs k) : i = j := by
  rcases Nat.lt_trichotomy i j with z | z | z
  · exact absurd h.1 (hb _ z)
  · exact z
  · exact absurd hj (h.2 _ z)
theorem bad_lt {vs : List PyData} {i : Nat} (h : Bad vs i) : i < vs.length := by
  obtain ⟨v, hv, _⟩ := h
  exact (List.getElem?_eq_some_iff.mp hv).1
theorem wild_cell {v : PyData} (h : Wild v) (ho : okB v = true) : ∃ c : Cell, v = c.d := by
  cases h with
  | cell c => exact ⟨c, rfl⟩
  | odd => cases ho
  | two x y => cases ho
  | non => cases ho
  | lst l hl => cases ho
theorem leXY (c e : Cell) : leQ (xy c.d) (xy e.d) = leQ [c.x, c.y] [e.x, e.y] := rfl
theorem log_few {n : Nat} (h : n < 1000) : ((n : Int)).natAbs.log2 < 1920 := by
  rw [Int.natAbs_natCast]
  by_cases hz : n = 0
  · subst hz; decide
  · exact Nat.lt_of_lt_of_le ((Nat.log2_lt (n := n) (k := 10) hz).2 (by omega)) (by decide)
def R_chk (C : Addr) (ds : List PyData) (o : DOut) : Prop := ∃ vs, ds = [.tuple vs] ∧ (∀ v ∈ vs, Wild v) ∧ vs.length ≤ 1000 ∧ ((∃ i, FirstBad vs i ∧ o = .ex ⟨C, [("index", .int (i : Nat))]⟩) ∨ ((∀ i, ¬ Bad vs i) ∧ o = .ok .none))
theorem ok_check_board {P : Program} {w : World} {K : Fg} {mg : Str → Option Value} {base : Heap} {f : Addr} {fd : FuncData} {C_BadBoard fI_BadBoard : Addr} (F : Fun K "check_board" "check_board" s_check_board f fd)
    (m_isinstance : mg "isinstance" = none)
    (m_tuple : mg "tuple" = none)
    (m_enumerate : mg "enumerate" = none)
    (r_BadBoard : PySem.SupX.SupTxt P K mg "BadBoard" "BadBoard.__init__" "index" "not a board, first wrong item: " C_BadBoard fI_BadBoard)
    (c__is_cell : Cal P w K mg base 3 "_is_cell" (spD K 1 R_isCell)) :
    FnOk P w K mg base (L2.CX P w) 4 f fd ["board"] (spD K 1 (R_chk C_BadBoard)) := by
  refine F.okX sc_check_board (fun vs H Q E h => len_D h) (fun cdv A outer s H vs Q E hr h => ⟨_, (pss_cons (ps_if (pt_not (pt_val (pe_callB call_isi (by rfl) m_isinstance bb_isinstance (pa_cons (pv 0) (pa_cons (pe_bltn (v := .ty "tuple") (by rfl) m_tuple bt_tuple rfl) pa_nil))) (fun _ => rfl))) (pss_one ps_never) pss_nil)
      (pss_one (ps_for (passes_of rfl) rfl (pi_enumT (by rfl) m_enumerate (pa_cons (pv 0) pa_nil)) (pg_tup rfl (pgs_cons (pg_name (i := 1) sc_check_board.nd rfl (by first | exact Or.inl rfl | exact Or.inr rfl)) (pgs_cons (pg_name (i := 2) sc_check_board.nd rfl (by first | exact Or.inl rfl | exact Or.inr rfl)) pgs_nil))) (pss_cons (ps_if (pt_not (pt_val (pe_cl c__is_cell hr (show 3 ≤ 3 by decide) passL (pa_cons (pv 2) pa_nil)) (fun _ => rfl))) (pss_one (ps_raise rfl (takes_of rfl rfl rfl rfl) (pmk_sup r_BadBoard hr (pa_cons (pv 1) pa_nil)))) pss_nil)
      (pss_one (ps_if (PW.pt (pw_and (pt_cmpR op_gt (pv 1) pe_int (nomark _)) (pw_and1 (pt_cmpR (op_leR hr.units) (pe_slice sl_any (pv 2) po_none (po_some pe_int)) (pe_slice sl_any (pe_ix ix_seq (pv 0) (pe_op op_sub (pv 1) pe_int) (fun _ _ => rfl)) po_none (po_some pe_int)) (nomark _))))) (pss_one (ps_raise rfl (takes_of rfl rfl rfl rfl) (pmk_sup r_BadBoard hr (pa_cons (pv 1) pa_nil)))) pss_nil)))))),
    fn_D h fun ds o hk hR => ?_⟩)
  try dsimp only [L2.cxOf]
  obtain ⟨vs, rfl, hw, hvl, ho⟩ := hR
  walk_at "zq"
  refine ⟨fun i S2 M2 => ∃ c1 c2, S2 = [some (.d (.tuple vs)), c1, c2] ∧ M2 = [] ∧ ∀ j, j < i → ¬ Bad vs j, ⟨_, _, rfl, rfl, fun j h => absurd h (Nat.not_lt_zero _)⟩, ?_, ?_⟩
  · rintro i v S2 M2 hv ⟨c1, c2, rfl, rfl, hn⟩
    have hwv := hw v (List.mem_of_getElem? hv)
    have hex : Bad vs i → o = .ex ⟨C_BadBoard, [("index", .int (i : Nat))]⟩ := fun hb => by
      rcases ho with ⟨k, hk, e⟩ | ⟨hk, e⟩
      · rw [e, firstBad_uniq hk hb hn]
      · exact absurd hb (hk i)
    have hnx : ¬ Bad vs i → ∀ j, j < i + 1 → ¬ Bad vs j := fun hb j hj => by
      rcases Nat.lt_or_eq_of_le (Nat.le_of_lt_succ hj) with z | z
      · exact hn j z
      · rw [z]; exact hb
    walk_at "zq"
    refine ⟨_, _, by walk_at "zd", rfl, ⟨v, rfl, hwv, rfl⟩, ?_⟩
    cases hok : okB v with
    | false =>
      walk_at "zq"
      exact ⟨.inr ⟨_, rfl, log_few (by have := (List.getElem?_eq_some_iff.mp hv).1; omega)⟩, hex ⟨v, hv, .inl hok⟩⟩
    | true =>
      obtain ⟨c, rfl⟩ := wild_cell hwv hok
      walk_at "zq"
      refine ⟨fun h => ?_, fun h => ?_⟩
      · have h : ¬ 0 < i := by simpa using of_decide_eq_false h
        walk_at "zq"
        refine hnx ?_
        rintro ⟨v, hv2, hb⟩
        rw [hv] at hv2
        cases hv2
        rcases hb with z | ⟨z, _⟩
        · rw [hok] at z; cases z
        · exact h z
      · have h : 0 < i := by simpa using of_decide_eq_true h
        have hl := (List.getElem?_eq_some_iff.mp hv).1
        have hu := List.getElem?_eq_getElem (l := vs) (i := i - 1) (by omega)
        generalize vs[i - 1] = u at hu
        have huo : okB u = true := by
          cases z : okB u with
          | true => rfl
          | false => exact absurd ⟨u, hu, .inl z⟩ (hn (i - 1) (by omega))
        obtain ⟨e, rfl⟩ := wild_cell (hw u (List.mem_of_getElem? hu)) huo
        walk_at "zq"
        refine zo_ix (x := .tuple vs) (i := (i : Int) - 1) (d := e.d) (by
          have e2 : (i : Int) - 1 = ((i - 1 : Nat) : Int) := by omega
          rw [e2]
          exact atI_nat hu) ?_
        walk_at "zq"
        refine zo_leR (a := [c.x, c.y]) (b := [e.x, e.y]) ?_
        walk_at "zq"
        cases hq : leQ [c.x, c.y] [e.x, e.y] with
        | true =>
          walk_at "zq"
          exact ⟨.inr ⟨_, rfl, log_few (by have := (List.getElem?_eq_some_iff.mp hv).1; omega)⟩, hex ⟨c.d, hv, .inr ⟨h, e.d, hu, hq⟩⟩⟩
        | false =>
          walk_at "zq"
          refine hnx ?_
          rintro ⟨v, hv2, hb⟩
          rw [hv] at hv2
          cases hv2
          rcases hb with z | ⟨_, u, hu2, z⟩
          · rw [hok] at z; cases z
          · rw [hu] at hu2
            cases hu2
            rw [leXY, hq] at z
            cases z
  · rintro S2 M2 ⟨c1, c2, rfl, rfl, hn⟩
    walk_at "zq"
    rcases ho with ⟨k, hk, e⟩ | ⟨hk, e⟩
    · exact absurd hk.1 (hn k (bad_lt hk.1))
    · exact e
abbrev bD (b : List Cell) : PyData := .tuple (b.map Cell.d)
structure Board (b : List Cell) : Prop where
  len : b.length ≤ 3000
  ok : ∀ c ∈ b, InFar c.x ∧ InFar c.y ∧ 1 ≤ c.s ∧ c.s ≤ 5
  up : b.Pairwise fun c e => c.x < e.x ∨ (c.x = e.x ∧ c.y < e.y)
theorem okB_cell {c : Cell} (h : InFar c.x ∧ InFar c.y ∧ 1 ≤ c.s ∧ c.s ≤ 5) : okB c.d = true := by
  show ((farB (.int c.x) && farB (.int c.y)) && (decide (1 ≤ c.s) && decide (c.s ≤ 5))) = true
  rw [far_t h.1, far_t h.2.1, decide_eq_true h.2.2.1, decide_eq_true h.2.2.2]
  rfl
theorem le_cells (c e : Cell) : leQ (xy e.d) (xy c.d) = true ↔ ¬ (c.x < e.x ∨ (c.x = e.x ∧ c.y < e.y)) := by
  show leQ [e.x, e.y] [c.x, c.y] = true ↔ _
  rw [leQ_two, Bool.or_eq_true, Bool.and_eq_true, decide_eq_true_eq, decide_eq_true_eq, decide_eq_true_eq]
  omega
theorem pw_at {α : Type} {R : α → α → Prop} {l : List α} (h : l.Pairwise R) {i j : Nat} {a b : α} (hij : i < j) (ha : l[i]? = some a) (hb : l[j]? = some b) : R a b := by
  obtain ⟨h1, e1⟩ := List.getElem?_eq_some_iff.mp ha
  obtain ⟨h2, e2⟩ := List.getElem?_eq_some_iff.mp hb
  rw [← e1, ← e2]
  exact List.pairwise_iff_getElem.mp h i j h1 h2 hij
theorem Board.fine {b : List Cell} (h : Board b) (i : Nat) : ¬ Bad (b.map Cell.d) i := by
  rintro ⟨v, hv, hb⟩
  rw [List.getElem?_map] at hv
  obtain ⟨c, hc, rfl⟩ := Option.map_eq_some_iff.mp hv
  rcases hb with z | ⟨hi, u, hu, z⟩
  · rw [okB_cell (h.ok c (List.mem_of_getElem? hc))] at z
    cases z
  · rw [List.getElem?_map] at hu
    obtain ⟨e, he, rfl⟩ := Option.map_eq_some_iff.mp hu
    exact (le_cells e c).mp z (pw_at h.up (by omega) he hc)
theorem Board.wild {b : List Cell} {v : PyData} (h : v ∈ b.map Cell.d) : Wild v := by
  obtain ⟨c, _, rfl⟩ := List.mem_map.mp h
  exact .cell c
theorem Board.chk {b : List Cell} (h : Board b) (hl : b.length ≤ 1000) {C : Addr} : R_chk C [bD b] (.ok .none) := ⟨_, rfl, fun _ hv => Board.wild hv, by rw [List.length_map]; exact hl, .inr ⟨h.fine, rfl⟩⟩
theorem leQ_cells (c e : Cell) (h : e.x < c.x ∨ (e.x = c.x ∧ e.y < c.y)) : leQ [c.x, c.y] [e.x, e.y] = false := by
  rw [leQ_two, Bool.or_eq_false_iff, Bool.and_eq_false_iff, decide_eq_false_iff_not, decide_eq_false_iff_not, decide_eq_false_iff_not]
  omega
/-- what stands at which place -/
def plcs (b : List Cell) : List (List Key × PyData) := rowsP (b.map fun c => ([c.x, c.y], PyData.int c.s))
def R_sbp (ds : List PyData) (c : CD) : Prop := ∃ b, ds = [bD b] ∧ b.length ≤ 5000 ∧ c = .dT (plcs b)
theorem ok_states_by_place {P : Program} {w : World} {K : Fg} {mg : Str → Option Value} {base : Heap} {f : Addr} {fd : FuncData} (F : Fun K "states_by_place" "states_by_place" s_states_by_place f fd) :
    FnOk P w K mg base (L2.CX P w) 1 f fd ["board"] (spE K 1 R_sbp) := by
  refine F.okX sc_states_by_place (fun vs H Q E h => len_E h) (fun cdv A outer s H vs Q E hr h => ⟨_, (pss_one (ps_ret (pe_dcT (own := [("x", 1), ("y", 2), ("state", 3)]) rfl (Nat.lt_of_le_of_lt (Nat.le_add_right _ _) hr.units) sc_states_by_place.nd (pi_tup (pv 0)) (blkOk_by (N := N_states_by_place) (sc := defScope s_states_by_place) (by decide +kernel)) (fun _ _ _ _ _ => (show PG _ _ (gTup K 3 _) from (pg_tup rfl (pgs_cons (pg_name (i := 1) sc_states_by_place.nd rfl (by first | exact Or.inl rfl | exact Or.inr rfl)) (pgs_cons (pg_name (i := 2) sc_states_by_place.nd rfl (by first | exact Or.inl rfl | exact Or.inr rfl)) (pgs_cons (pg_name (i := 3) sc_states_by_place.nd rfl (by first | exact Or.inl rfl | exact Or.inr rfl)) pgs_nil)))))) (fun _ _ _ _ _ => pts_nil) (fun _ _ _ _ _ => (pe_tup (pa_cons (pv 1) (pa_cons (pv 2) pa_nil)))) (fun _ _ _ _ _ => (pv 3))))),
    fn_E h fun ds c hk hR => ?_⟩)
  try dsimp only [L2.cxOf]
  obtain ⟨b, rfl, hb, rfl⟩ := hR
  have hsz : (sizeLine : Nat) = 16777216 := sizeLine_eq
  walk_at "zz"
  refine dcT_map b Cell.d (fun c => [c.x, c.y]) (fun c => .int c.s) ?_
  walk_at "zz"
  refine ⟨rfl, by omega, fun c hc => ⟨_, _, ?_, zg_tup rfl (zgs_cons (zgs_cons (zgs_cons zgs_nil))), fun M2 => ⟨?_, ?_⟩⟩, fun p => ?_⟩
  · simp
  · walk_at "zq"
    walk_at "zt"
    exact ⟨⟨rfl, by simp⟩, rfl⟩
  · walk_at "zq"
    try exact ⟨rfl, rfl⟩
  · exact ⟨p, rfl, m0⟩
def Cell.mv (x y : Int) (c : Cell) : Cell := ⟨c.x + x, c.y + y, c.s⟩
def R_moved (ds : List PyData) (o : DOut) : Prop := ∃ b x y, ds = [bD b, pr x y] ∧ b.length ≤ 5000 ∧ o = .ok (bD (b.map (Cell.mv x y)))
/-- a quarter -/
def Cell.q (c : Cell) : Cell := ⟨-c.y, c.x, c.s⟩
def Cell.fl (c : Cell) : Cell := ⟨-c.x, c.y, c.s⟩
def Cell.qs : Nat → Cell → Cell
  | 0, c => c
  | n + 1, c => (Cell.qs n c).q
def Cell.turn (t : Int) (c : Cell) : Cell := Cell.qs (t % 4).toNat (if t ≥ 4 then c.fl else c)
def R_turnedC (ds : List PyData) (o : DOut) : Prop := ∃ (c : Cell) (t : Int), ds = [c.d, .int t] ∧ 0 ≤ t ∧ t ≤ 7 ∧ o = .ok (c.turn t).d
def R_turnedB (ds : List PyData) (o : DOut) : Prop := ∃ (b : List Cell) (t : Int), ds = [bD b, .int t] ∧ b.length ≤ 5000 ∧ 0 ≤ t ∧ t ≤ 7 ∧ o = .ok (.tuple ((sortI ((b.map (Cell.turn t)).map Cell.r)).map rowD))
theorem rows_d (b : List Cell) : (b.map Cell.r).map rowD = b.map Cell.d := by rw [List.map_map]; rfl
theorem rows_ne {b : List Cell} {r : List Int} (h : r ∈ b.map Cell.r) : r ≠ [] := by
  obtain ⟨c, _, rfl⟩ := List.mem_map.mp h
  intro z
  cases z
/-- the box of a board -/
structure BoxOf (b : List Cell) (x0 y0 x1 y1 : Int) : Prop where
  x0 : ∃ c, b[0]? = some c ∧ c.x = x0
  y0 : IsMin y0 (b.map Cell.y)
  x1 : ∃ c, b[b.length - 1]? = some c ∧ c.x = x1
  y1 : IsMax y1 (b.map Cell.y)
def R_corners (ds : List PyData) (o : DOut) : Prop := ∃ b x0 y0 x1 y1, ds = [bD b] ∧ b.length ≤ 5000 ∧ BoxOf b x0 y0 x1 y1 ∧ o = .ok (.tuple [.int x0, .int y0, .int x1, .int y1])
theorem atI_neg1 {b : List Cell} {c : Cell} (h : b[b.length - 1]? = some c) : atI (b.map Cell.d) (-1) = some c.d := by
  rcases List.eq_nil_or_concat b with rfl | ⟨l, x, rfl⟩
  · cases h
  · rw [List.concat_eq_append] at h ⊢
    simp only [List.length_append, List.length_cons, List.length_nil, Nat.add_sub_cancel, Nat.zero_add] at h
    rw [List.getElem?_append_right (Nat.le_refl _), Nat.sub_self] at h
    cases h
    rw [List.map_append]
    exact atI_last _ _
theorem atI_zero {b : List Cell} {c : Cell} (h : b[0]? = some c) : atI (b.map Cell.d) 0 = some c.d := atI_nat (j := 0) (by rw [List.getElem?_map, h]; rfl)
theorem ok_corners {P : Program} {w : World} {K : Fg} {mg : Str → Option Value} {base : Heap} {f : Addr} {fd : FuncData} (F : Fun K "corners" "corners" s_corners f fd)
    (m_max : mg "max" = none)
    (m_min : mg "min" = none) :
    FnOk P w K mg base (L2.CX P w) 1 f fd ["board"] (spD K 1 R_corners) := by
  refine F.okX sc_corners (fun vs H Q E h => len_D h) (fun cdv A outer s H vs Q E hr h => ⟨_, (pss_cons (ps_setLc (own := [("cell", 2)]) (i := 1) rfl sc_corners.nd rfl rfl (sw_true rfl rfl rfl (by decide +kernel)) (pi_tup (pv 0)) (blkOk_by (N := N_corners) (sc := defScope s_corners) (by decide +kernel)) (fun _ _ _ _ _ => (pg_name (i := 2) sc_corners.nd rfl (by first | exact Or.inl rfl | exact Or.inr rfl))) (fun _ _ _ _ _ => pts_nil) (fun _ _ _ _ _ => (pe_ix (show IxR _ (rIx K) from ix_seq) (pv 2) pe_int (fun _ _ => rfl))))
      (pss_one (ps_ret (pe_tup (pa_cons (pe_ix ix_seq (pe_ix ix_seq (pv 0) pe_int (fun _ _ => rfl)) pe_int (fun _ _ => rfl)) (pa_cons (pe_callB (cr_min rfl) (by rfl) m_min bb_min (pa_cons (pv 1) pa_nil)) (pa_cons (pe_ix ix_seq (pe_ix ix_seq (pv 0) (pe_un un_neg pe_int) (fun _ _ => rfl)) pe_int (fun _ _ => rfl)) (pa_cons (pe_callB (cr_max rfl) (by rfl) m_max bb_max (pa_cons (pv 1) pa_nil)) pa_nil)))))))),
    fn_D h fun ds o hk hR => ?_⟩)
  try dsimp only [L2.cxOf]
  obtain ⟨b, x0, y0, x1, y1, rfl, hb, ⟨⟨c0, h0, rfl⟩, hy0, ⟨c1, h1, rfl⟩, hy1⟩, rfl⟩ := hR
  have hsz : (sizeLine : Nat) = 16777216 := sizeLine_eq
  walk_at "zz"
  refine lcT_map b Cell.d (fun c => .int c.y) ?_
  walk_at "zz"
  refine ⟨rfl, by omega, fun c hc => ⟨_, _, ?_, zg_name, fun D acc => ?_⟩, ?_⟩
  · simp
  · walk_at "zq"
    exact ⟨rfl, rfl⟩
  · rw [show (b.map fun c => PyData.int c.y) = (b.map Cell.y).map .int by rw [List.map_map]; rfl]
    walk_at "zq"
    refine zo_ix (d := c0.d) (atI_zero h0) ?_
    walk_at "zq"
    refine zc_min hy0 ?_
    walk_at "zq"
    refine zo_ix (d := c1.d) (atI_neg1 h1) ?_
    walk_at "zq"
    refine zc_max hy1 ?_
    walk_at "zq"
    walk_at "zt"
    exact ⟨_, rfl, rfl⟩
def R_shifted (ds : List PyData) (o : DOut) : Prop := ∃ b x y, ds = [bD b, pr x y] ∧ Board b ∧ InFar x ∧ InFar y ∧ o = .ok (bD (b.map (Cell.mv x y)))
def R_turned (ds : List PyData) (o : DOut) : Prop := ∃ (b : List Cell) (t : Int), ds = [bD b, .int t] ∧ Board b ∧ 0 ≤ t ∧ t ≤ 7 ∧ o = .ok (.tuple ((sortI ((b.map (Cell.turn t)).map Cell.r)).map rowD))/-! ### rules -/
theorem between_t {x lo hi : Int} (h1 : lo ≤ x) (h2 : x ≤ hi) : dBetween (.int x) lo hi = true := by
  show (decide (lo ≤ x) && decide (x ≤ hi)) = true
  rw [decide_eq_true h1, decide_eq_true h2]
  rfl
structure Rl where
  b : List Nat
  s : List Nat
  n : Nat
abbrev natsD (l : List Nat) : PyData := .tuple (l.map fun (k : Nat) => .int (k : Int))
abbrev Rl.d (r : Rl) : PyData := .tuple [natsD r.b, natsD r.s, .int (r.n : Int)]
structure Rule (r : Rl) : Prop where
  bl : ∀ k ∈ r.b, 1 ≤ k ∧ k ≤ 8
  sl : ∀ k ∈ r.s, k ≤ 8
  bu : r.b.Pairwise (· < ·)
  su : r.s.Pairwise (· < ·)
  n2 : 2 ≤ r.n
  n6 : r.n ≤ 6
theorem asc_len {m : Nat} : ∀ (l : List Nat) (lo : Nat), l.Pairwise (· < ·) → (∀ k ∈ l, lo ≤ k ∧ k ≤ m) → l.length ≤ m + 1 - lo
  | [], _, _, _ => Nat.zero_le _
  | a :: l, lo, h, hb => by
    obtain ⟨h1, h2⟩ := List.pairwise_cons.mp h
    have := asc_len l (a + 1) h2 fun k hk => ⟨h1 k hk, (hb k (List.mem_cons_of_mem _ hk)).2⟩
    have ha := hb a List.mem_cons_self
    rw [List.length_cons]
    omega
theorem Rule.sLen {r : Rl} (h : Rule r) : r.s.length ≤ 9 := asc_len r.s 0 h.su fun k hk => ⟨Nat.zero_le _, h.sl k hk⟩
theorem Rule.bLen {r : Rl} (h : Rule r) : r.b.length ≤ 9 := asc_len r.b 0 h.bu fun k hk => ⟨Nat.zero_le _, (h.bl k hk).2⟩
def R_counts (ds : List PyData) (o : DOut) : Prop := ∃ (l : List Nat) (m : Nat), ds = [natsD l, .int (m : Int)] ∧ (∀ k ∈ l, m ≤ k ∧ k ≤ 8) ∧ l.Pairwise (· < ·) ∧ o = .ok (.bool true)
theorem ok_are_counts {P : Program} {w : World} {K : Fg} {mg : Str → Option Value} {base : Heap} {f : Addr} {fd : FuncData} (F : Fun K "_are_counts" "_are_counts" s_are_counts f fd)
    (m_isinstance : mg "isinstance" = none)
    (m_tuple : mg "tuple" = none)
    (c_is_between : Cal P w K mg base 1 "is_between" (spD K 3 R_between)) :
    FnOk P w K mg base (L2.CX P w) 2 f fd ["value", "least"] (spD K 2 R_counts) := by
  refine F.okX sc_are_counts (fun vs H Q E h => len_D h) (fun cdv A outer s H vs Q E hr h => ⟨_, (pss_cons (ps_if (pt_not (pt_val (pe_callB call_isi (by rfl) m_isinstance bb_isinstance (pa_cons (pv 0) (pa_cons (pe_bltn (v := .ty "tuple") (by rfl) m_tuple bt_tuple rfl) pa_nil))) (fun _ => rfl))) (pss_one (ps_ret pe_bl)) pss_nil)
      (pss_cons (ps_for (passes_of rfl) rfl (pi_tup (pv 0)) (pg_name (i := 2) sc_are_counts.nd rfl (by first | exact Or.inl rfl | exact Or.inr rfl)) (pss_cons (ps_if (pt_not (pt_val (pe_cl c_is_between hr (show 1 ≤ 1 by decide) passL (pa_cons (pv 2) (pa_cons (pv 1) (pa_cons pe_int pa_nil)))) (fun _ => rfl))) (pss_one (ps_ret pe_bl)) pss_nil)
      (pss_one (ps_set (i := 1) sc_are_counts.nd rfl (by first | exact Or.inl rfl | exact Or.inr rfl) (pe_op op_addA (pv 2) pe_int)))))
      (pss_one (ps_ret pe_bl)))),
    fn_D h fun ds o hk hR => ?_⟩)
  try dsimp only [L2.cxOf]
  obtain ⟨l, m, rfl, h1, h2, rfl⟩ := hR
  walk_at "zq"
  refine ⟨fun i S2 M2 => ∃ (m' : Nat) (c : Option ZV), S2 = [some (.d (natsD l)), some (.d (.int (m' : Int))), c] ∧ M2 = [] ∧ ∀ k ∈ l.drop i, m' ≤ k, ⟨m, _, rfl, rfl, fun k hk => (h1 k (by simpa using hk)).1⟩, ?_, ?_⟩
  · rintro i v S2 M2 hv ⟨m', c, rfl, rfl, hm⟩
    rw [List.getElem?_map] at hv
    obtain ⟨k, hk, rfl⟩ := Option.map_eq_some_iff.mp hv
    have hkm := List.mem_of_getElem? hk
    have hi := (List.getElem?_eq_some_iff.mp hk).1
    have hmk : m' ≤ k := hm k (List.mem_of_getElem? (i := 0) (by rw [List.getElem?_drop, Nat.add_zero]; exact hk))
    have hk8 := (h1 k hkm).2
    walk_at "zq"
    refine ⟨_, _, by walk_at "zd", rfl, ⟨_, _, _, rfl, rfl⟩, ?_⟩
    rw [between_t (x := (k : Int)) (by omega) (by omega)]
    walk_at "zq"
    intro j hj
    obtain ⟨a, ha⟩ := List.mem_iff_getElem?.mp hj
    rw [List.getElem?_drop] at ha
    exact pw_at h2 (by omega) hk ha
  · rintro S2 M2 ⟨m', c, rfl, rfl, _⟩
    walk_at "zq"
    try rfl
def R_isRule (ds : List PyData) (o : DOut) : Prop := ∃ r : Rl, ds = [r.d] ∧ Rule r ∧ o = .ok (.bool true)
theorem ok_is_rule {P : Program} {w : World} {K : Fg} {mg : Str → Option Value} {base : Heap} {f : Addr} {fd : FuncData} (F : Fun K "_is_rule" "_is_rule" s_is_rule f fd)
    (m_len : mg "len" = none)
    (m_isinstance : mg "isinstance" = none)
    (m_tuple : mg "tuple" = none)
    (c_is_between : Cal P w K mg base 1 "is_between" (spD K 3 R_between))
    (c__are_counts : Cal P w K mg base 2 "_are_counts" (spD K 2 R_counts)) :
    FnOk P w K mg base (L2.CX P w) 3 f fd ["value"] (spD K 1 R_isRule) := by
  refine F.okX sc_is_rule (fun vs H Q E h => len_D h) (fun cdv A outer s H vs Q E hr h => ⟨_, (pss_cons (ps_if (PW.pt (pw_or (pt_not (pt_val (pe_callB call_isi (by rfl) m_isinstance bb_isinstance (pa_cons (pv 0) (pa_cons (pe_bltn (v := .ty "tuple") (by rfl) m_tuple bt_tuple rfl) pa_nil))) (fun _ => rfl))) (pw_or1 (pt_cmpR (op_neA hr.units) (pe_callB call_len (by rfl) m_len bb_len (pa_cons (pv 0) pa_nil)) pe_int (nomark _))))) (pss_one (ps_ret pe_bl)) pss_nil)
      (pss_cons (ps_asg (pv 0) (pg_tup rfl (pgs_cons (pg_name (i := 1) sc_is_rule.nd rfl (by first | exact Or.inl rfl | exact Or.inr rfl)) (pgs_cons (pg_name (i := 2) sc_is_rule.nd rfl (by first | exact Or.inl rfl | exact Or.inr rfl)) (pgs_cons (pg_name (i := 3) sc_is_rule.nd rfl (by first | exact Or.inl rfl | exact Or.inr rfl)) pgs_nil)))))
      (pss_one (ps_ret (pe_and (pe_cl c__are_counts hr (show 2 ≤ 2 by decide) passL (pa_cons (pv 1) (pa_cons pe_int pa_nil))) (pe_and (pe_cl c__are_counts hr (show 2 ≤ 2 by decide) passL (pa_cons (pv 2) (pa_cons pe_int pa_nil))) (pe_one (pe_cl c_is_between hr (show 1 ≤ 2 by decide) passL (pa_cons (pv 3) (pa_cons pe_int (pa_cons pe_int pa_nil))))))))))),
    fn_D h fun ds o hk hR => ?_⟩)
  try dsimp only [L2.cxOf]
  obtain ⟨r, rfl, hr2, rfl⟩ := hR
  walk_at "zq"
  refine ⟨_, _, by walk_at "zd", rfl, ⟨r.b, 1, rfl, hr2.bl, hr2.bu, rfl⟩, ?_⟩
  walk_at "zq"
  refine ⟨_, _, by walk_at "zd", rfl, ⟨r.s, 0, rfl, fun k hk => ⟨Nat.zero_le _, hr2.sl k hk⟩, hr2.su, rfl⟩, ?_⟩
  walk_at "zq"
  refine ⟨_, _, by walk_at "zd", rfl, ⟨_, _, _, rfl, rfl⟩, ?_⟩
  have h2 := hr2.n2
  have h6 := hr2.n6
  rw [between_t (x := (r.n : Int)) (by omega) (by omega)]
  walk_at "zq"
  first | rfl | exact ⟨_, rfl, rfl⟩
def R_chkRule (ds : List PyData) (o : DOut) : Prop := ∃ r : Rl, ds = [r.d] ∧ Rule r ∧ o = .ok .none
theorem ok_check_rule {P : Program} {w : World} {K : Fg} {mg : Str → Option Value} {base : Heap} {f : Addr} {fd : FuncData} (F : Fun K "check_rule" "check_rule" s_check_rule f fd)
    (c__is_rule : Cal P w K mg base 3 "_is_rule" (spD K 1 R_isRule)) :
    FnOk P w K mg base (L2.CX P w) 4 f fd ["rule"] (spD K 1 R_chkRule) := by
  refine F.okX sc_check_rule (fun vs H Q E h => len_D h) (fun cdv A outer s H vs Q E hr h => ⟨_, (pss_one (ps_if (pt_not (pt_val (pe_cl c__is_rule hr (show 3 ≤ 3 by decide) passL (pa_cons (pv 0) pa_nil)) (fun _ => rfl))) (pss_one ps_never) pss_nil)),
    fn_D h fun ds o hk hR => ?_⟩)
  try dsimp only [L2.cxOf]
  obtain ⟨r, rfl, hr2, rfl⟩ := hR
  walk_at "zq"
  refine ⟨_, _, by walk_at "zd", rfl, ⟨r, rfl, hr2, rfl⟩, ?_⟩
  walk_at "zq"
  try rfl
/-! ### numbers as rows of bits -/
open MB in
def R_sum3 (ds : List PyData) (o : DOut) : Prop := ∃ a b c : Nat, ds = [.int (a : Int), .int (b : Int), .int (c : Int)] ∧ o = .ok (.tuple [.int ((sum3 a b c).1 : Int), .int ((sum3 a b c).2 : Int)])
theorem ok_sum_of_three {P : Program} {w : World} {K : Fg} {mg : Str → Option Value} {base : Heap} {f : Addr} {fd : FuncData} (F : Fun K "_sum_of_three" "_sum_of_three" s_sum_of_three f fd) :
    FnOk P w K mg base (L2.CX P w) 1 f fd ["one", "two", "three"] (spD K 3 R_sum3) := by
  refine F.okX sc_sum_of_three (fun vs H Q E h => len_D h) (fun cdv A outer s H vs Q E hr h => ⟨_, (pss_cons (ps_set (i := 3) sc_sum_of_three.nd rfl (by first | exact Or.inl rfl | exact Or.inr rfl) (pe_op op_xor (pv 0) (pv 1)))
      (pss_one (ps_ret (pe_tup (pa_cons (pe_op op_xor (pv 3) (pv 2)) (pa_cons (pe_op op_or (pe_op op_and (pv 0) (pv 1)) (pe_op op_and (pv 2) (pv 3))) pa_nil)))))),
    fn_D h fun ds o hk hR => ?_⟩)
  try dsimp only [L2.cxOf]
  obtain ⟨a, b, c, rfl, rfl⟩ := hR
  walk_at "zq"
  walk_at "zt"
  first | rfl | exact ⟨_, rfl, rfl⟩
theorem sum3_lt {a b c n : Nat} (ha : a < 2 ^ n) (hb : b < 2 ^ n) (hc : c < 2 ^ n) : (MB.sum3 a b c).1 < 2 ^ n ∧ (MB.sum3 a b c).2 < 2 ^ n :=
  ⟨Nat.xor_lt_two_pow (Nat.xor_lt_two_pow ha hb) hc, Nat.or_lt_two_pow (Nat.and_lt_two_pow _ hb) (Nat.and_lt_two_pow _ (Nat.xor_lt_two_pow ha hb))⟩
theorem shl_lt {a n : Nat} (k : Nat) (h : a < 2 ^ n) : a <<< k < 2 ^ (n + k) := by
  rw [Nat.shiftLeft_eq, Nat.pow_add]
  exact Nat.mul_lt_mul_of_pos_right h (Nat.pow_pos (by decide))
theorem up_lt {a n m : Nat} (h : a < 2 ^ n) (hm : n ≤ m) : a < 2 ^ m := Nat.lt_of_lt_of_le h (Nat.pow_le_pow_right (by decide) hm)
theorem shr_lt {a n : Nat} (k : Nat) (h : a < 2 ^ n) : a >>> k < 2 ^ n := Nat.lt_of_le_of_lt (Nat.shiftRight_le a k) h
open MB in
abbrev figD (q : Figs) : PyData := .tuple [.int (q.a : Int), .int (q.b : Int), .int (q.c : Int), .int (q.d : Int)]
open MB in
def R_counts9 (ds : List PyData) (o : DOut) : Prop := ∃ p h n : Nat, ds = [.int (p : Int), .int (h : Int)] ∧ p < 2 ^ n ∧ n + h ≤ 100000000 ∧ o = .ok (figD (counts p h))
theorem ok_counts {P : Program} {w : World} {K : Fg} {mg : Str → Option Value} {base : Heap} {f : Addr} {fd : FuncData} (F : Fun K "_counts" "_counts" s_counts f fd)
    (c__sum_of_three : Cal P w K mg base 1 "_sum_of_three" (spD K 3 R_sum3)) :
    FnOk P w K mg base (L2.CX P w) 2 f fd ["plane", "high"] (spD K 2 R_counts9) := by
  refine F.okX sc_counts (fun vs H Q E h => len_D h) (fun cdv A outer s H vs Q E hr h => ⟨_, (pss_cons (ps_asg (pe_cl c__sum_of_three hr (show 1 ≤ 1 by decide) passL (pa_cons (pe_op op_shlW (pv 0) pe_int) (pa_cons (pv 0) (pa_cons (pe_op op_shr (pv 0) pe_int) pa_nil)))) (pg_tup rfl (pgs_cons (pg_name (i := 2) sc_counts.nd rfl (by first | exact Or.inl rfl | exact Or.inr rfl)) (pgs_cons (pg_name (i := 3) sc_counts.nd rfl (by first | exact Or.inl rfl | exact Or.inr rfl)) pgs_nil))))
      (pss_cons (ps_asg (pe_cl c__sum_of_three hr (show 1 ≤ 1 by decide) passL (pa_cons (pe_op op_shlW (pv 2) (pv 1)) (pa_cons (pv 2) (pa_cons (pe_op op_shr (pv 2) (pv 1)) pa_nil)))) (pg_tup rfl (pgs_cons (pg_name (i := 4) sc_counts.nd rfl (by first | exact Or.inl rfl | exact Or.inr rfl)) (pgs_cons (pg_name (i := 5) sc_counts.nd rfl (by first | exact Or.inl rfl | exact Or.inr rfl)) pgs_nil))))
      (pss_cons (ps_asg (pe_cl c__sum_of_three hr (show 1 ≤ 1 by decide) passL (pa_cons (pe_op op_shlW (pv 3) (pv 1)) (pa_cons (pv 3) (pa_cons (pe_op op_shr (pv 3) (pv 1)) pa_nil)))) (pg_tup rfl (pgs_cons (pg_name (i := 6) sc_counts.nd rfl (by first | exact Or.inl rfl | exact Or.inr rfl)) (pgs_cons (pg_name (i := 7) sc_counts.nd rfl (by first | exact Or.inl rfl | exact Or.inr rfl)) pgs_nil))))
      (pss_cons (ps_set (i := 8) sc_counts.nd rfl (by first | exact Or.inl rfl | exact Or.inr rfl) (pe_op op_and (pv 5) (pv 6)))
      (pss_one (ps_ret (pe_tup (pa_cons (pv 4) (pa_cons (pe_op op_xor (pv 5) (pv 6)) (pa_cons (pe_op op_xor (pv 7) (pv 8)) (pa_cons (pe_op op_and (pv 7) (pv 8)) pa_nil))))))))))),
    fn_D h fun ds o hk hR => ?_⟩)
  try dsimp only [L2.cxOf]
  obtain ⟨p, h, n, rfl, hp, hn, rfl⟩ := hR
  have b0 := up_lt hp (Nat.le_add_right n 1)
  have b1 := sum3_lt (shl_lt 1 hp) b0 (shr_lt 1 b0)
  have eo : ∀ a b : Nat, (MB.sum3 (p <<< 1) p (p >>> 1)) = (a, b) → a < 2 ^ (n + 1) ∧ b < 2 ^ (n + 1) := fun a b e => by rw [e] at b1; exact b1
  walk_at "zq"
  refine zo_shlN (a := p) (k := 1) (shl_fits hp (by omega)) ?_
  walk_at "zq"
  refine zo_shrN (a := p) (k := 1) ?_
  walk_at "zq"
  refine ⟨_, _, by walk_at "zd", rfl, ⟨_, _, _, rfl, rfl⟩, ?_⟩
  walk_at "zq"
  refine zo_shlN (shl_fits b1.1 (by omega)) ?_
  walk_at "zq"
  refine ⟨_, _, by walk_at "zd", rfl, ⟨_, _, _, rfl, rfl⟩, ?_⟩
  walk_at "zq"
  refine zo_shlN (shl_fits b1.2 (by omega)) ?_
  walk_at "zq"
  refine ⟨_, _, by walk_at "zd", rfl, ⟨_, _, _, rfl, rfl⟩, ?_⟩
  walk_at "zq"
  walk_at "zt"
  first | rfl | exact ⟨_, rfl, rfl⟩
/-- for each figure, who has 0 and 1 there -/
abbrev sideD (w p : Nat) : PyData := .tuple [.int ((w ^^^ p : Nat) : Int), .int (p : Int)]
open MB in
abbrev sidesD (w : Nat) (q : Figs) : PyData := .list [sideD w q.a, sideD w q.b, sideD w q.c, sideD w q.d]
theorem atI_side {w p i : Nat} (h : i < 2) : atI [PyData.int ((w ^^^ p : Nat) : Int), .int (p : Int)] (i : Int) = some (.int ((MB.sel w p i : Nat) : Int)) := by
  rcases Nat.lt_or_ge i 1 with z | z
  · have : i = 0 := by omega
    subst this; rfl
  · have : i = 1 := by omega
    subst this; rfl
open MB in
def R_withC (ds : List PyData) (o : DOut) : Prop := ∃ (cs : List Nat) (w : Nat) (q : Figs), ds = [natsD cs, sidesD w q] ∧ (∀ c ∈ cs, c < 16) ∧ o = .ok (.int ((withC w q cs : Nat) : Int))
theorem withC_take {w : Nat} {q : MB.Figs} {cs : List Nat} {i c : Nat} (h : cs[i]? = some c) : MB.withC w q (cs.take (i + 1)) = MB.withC w q (cs.take i) ||| MB.fit w q c := by
  unfold MB.withC
  rw [List.take_succ, h, List.foldl_append]
  rfl
theorem ok_with_counts {P : Program} {w : World} {K : Fg} {mg : Str → Option Value} {base : Heap} {f : Addr} {fd : FuncData} (F : Fun K "_with_counts" "_with_counts" s_with_counts f fd) :
    FnOk P w K mg base (L2.CX P w) 1 f fd ["counts", "sides"] (spD K 2 R_withC) := by
  refine F.okX sc_with_counts (fun vs H Q E h => len_D h) (fun cdv A outer s H vs Q E hr h => ⟨_, (pss_cons (ps_asg (pv 1) (pg_lst rfl (pgs_cons (pg_name (i := 2) sc_with_counts.nd rfl (by first | exact Or.inl rfl | exact Or.inr rfl)) (pgs_cons (pg_name (i := 3) sc_with_counts.nd rfl (by first | exact Or.inl rfl | exact Or.inr rfl)) (pgs_cons (pg_name (i := 4) sc_with_counts.nd rfl (by first | exact Or.inl rfl | exact Or.inr rfl)) (pgs_cons (pg_name (i := 5) sc_with_counts.nd rfl (by first | exact Or.inl rfl | exact Or.inr rfl)) pgs_nil))))))
      (pss_cons (ps_set (i := 6) sc_with_counts.nd rfl (by first | exact Or.inl rfl | exact Or.inr rfl) pe_int)
      (pss_cons (ps_for (passes_of rfl) rfl (pi_tup (pv 0)) (pg_name (i := 7) sc_with_counts.nd rfl (by first | exact Or.inl rfl | exact Or.inr rfl)) (pss_one (ps_aug (i := 6) sc_with_counts.nd rfl (by first | exact Or.inl rfl | exact Or.inr rfl) (pe_op op_and (pe_op op_and (pe_op op_and (pe_ix ix_seq (pv 2) (pe_op op_and (pv 7) pe_int) (fun _ _ => rfl)) (pe_ix ix_seq (pv 3) (pe_op op_and (pe_op op_shr (pv 7) pe_int) pe_int) (fun _ _ => rfl))) (pe_ix ix_seq (pv 4) (pe_op op_and (pe_op op_shr (pv 7) pe_int) pe_int) (fun _ _ => rfl))) (pe_ix ix_seq (pv 5) (pe_op op_shr (pv 7) pe_int) (fun _ _ => rfl))) ip_or)))
      (pss_one (ps_ret (pv 6)))))),
    fn_D h fun ds o hk hR => ?_⟩)
  try dsimp only [L2.cxOf]
  obtain ⟨cs, w, q, rfl, hc, rfl⟩ := hR
  have t1 : ∀ c : Nat, c &&& 1 = c % 2 := Nat.and_one_is_mod
  walk_at "zz"
  refine ⟨_, _, zg_lst rfl (zgs_cons (zgs_cons (zgs_cons (zgs_cons zgs_nil)))), ?_⟩
  walk_at "zq"
  refine ⟨fun i S2 M2 => ∃ x : Option ZV, S2 = [some (.d (natsD cs)), some (.d (sidesD w q)), some (.d (sideD w q.a)), some (.d (sideD w q.b)), some (.d (sideD w q.c)), some (.d (sideD w q.d)), some (.d (.int ((MB.withC w q (cs.take i) : Nat) : Int))), x] ∧ M2 = [], ⟨_, rfl, rfl⟩, ?_, ?_⟩
  · rintro i v S2 M2 hv ⟨x, rfl, rfl⟩
    rw [List.getElem?_map] at hv
    obtain ⟨c, hcc, rfl⟩ := Option.map_eq_some_iff.mp hv
    have hc16 := hc c (List.mem_of_getElem? hcc)
    refine ⟨_, _, zg_name, ?_⟩
    refine zs_augOr (i := 6) (a := MB.withC w q (cs.take i)) ?_ ?_
    · rfl
    walk_at "zq"
    refine zo_band (a := c) (b := 1) ?_
    rw [t1]
    walk_at "zq"
    refine zo_ix (atI_side (Nat.mod_lt _ (by decide))) ?_
    walk_at "zq"
    refine zo_shrN (a := c) (k := 1) ?_
    walk_at "zq"
    refine zo_band (b := 1) ?_
    rw [t1]
    walk_at "zq"
    refine zo_ix (atI_side (Nat.mod_lt _ (by decide))) ?_
    walk_at "zq"
    refine zo_shrN (a := c) (k := 2) ?_
    walk_at "zq"
    refine zo_band (b := 1) ?_
    rw [t1]
    walk_at "zq"
    refine zo_ix (atI_side (Nat.mod_lt _ (by decide))) ?_
    walk_at "zq"
    refine zo_shrN (a := c) (k := 3) ?_
    walk_at "zq"
    refine zo_ix (atI_side (by rw [Nat.shiftRight_eq_div_pow]; omega)) ?_
    walk_at "zq"
    refine ⟨some (.d (.int (c : Int))), ?_, rfl⟩
    rw [withC_take hcc]
    unfold MB.fit
    rw [Nat.shiftRight_eq_div_pow, Nat.shiftRight_eq_div_pow, Nat.shiftRight_eq_div_pow]
    rfl
  · rintro S2 M2 ⟨x, rfl, rfl⟩
    rw [List.length_map, List.take_length]
    walk_at "zq"
    first | rfl | exact ⟨_, rfl, rfl⟩
/-! ### the ones of a number, by its text -/
theorem binS_len (n : Nat) : (binS n).length = (MB.binL n).length := rfl
theorem binS_at (n j : Nat) (h : j < (MB.binL n).length) : (binS n).cps.getD j 0 = if n.testBit ((MB.binL n).length - 1 - j) then 49 else 48 := by
  have := MB.binL_at n j h
  exact StrLaws.getD_of_getElem? (x := binS n) this
theorem from_nat (l i : Nat) : PySem.fromIndex l ((i : Nat) : Int) = i := by
  unfold PySem.fromIndex
  rw [if_neg (by omega)]
  omega
/-- where the text's next one stands -/
theorem find_bin (p i : Nat) : (Txt.find3 (binS p) ("1" : Str) (i : Int) = -1 ∧ ∀ j, i ≤ j → j < (MB.binL p).length → p.testBit ((MB.binL p).length - 1 - j) = false) ∨
    ∃ k : Nat, Txt.find3 (binS p) ("1" : Str) (i : Int) = (k : Int) ∧ i ≤ k ∧ k < (MB.binL p).length ∧ p.testBit ((MB.binL p).length - 1 - k) = true ∧ ∀ j, i ≤ j → j < k → p.testBit ((MB.binL p).length - 1 - j) = false := by
  have off : ∀ j, j < (MB.binL p).length → (binS p).cps.getD j 0 ≠ 49 → p.testBit ((MB.binL p).length - 1 - j) = false := fun j hj h => by
    rw [binS_at p j hj] at h
    cases z : p.testBit ((MB.binL p).length - 1 - j) with
    | false => rfl
    | true => rw [z] at h; exact absurd rfl h
  have e1 : ("1" : Str) = ⟨#[49]⟩ := rfl
  rw [e1]
  rcases StrLaws.find3_spec (binS p) 49 (i : Int) with ⟨h1, h2⟩ | ⟨k, h1, h2, h3, h4, h5⟩
  · refine .inl ⟨h1, fun j h3 h4 => off j h4 (h2 j (by rw [from_nat]; exact h3) h4)⟩
  · rw [from_nat] at h2
    refine .inr ⟨k, h1, h2, h3, ?_, fun j h6 h7 => off j (Nat.lt_trans h7 h3) (h5 j (by rw [from_nat]; exact h6) h7)⟩
    rw [binS_at p k h3] at h4
    cases z : p.testBit ((MB.binL p).length - 1 - k) with
    | true => rfl
    | false => rw [z] at h4; exact absurd h4 (by decide)
theorem cnt_list (l : List Nat) : cnt 49 l = ((l.count 49 : Nat) : Int) := by
  induction l with
  | nil => rfl
  | cons a l ih =>
    rw [cnt_cons, ih, List.count_cons]
    by_cases h : a = 49
    · subst h; simp; omega
    · rw [if_neg h]
      have : (a == 49) = false := by simpa using h
      rw [this]; simp
theorem count_bin (p : Nat) : Txt.count (binS p) ("1" : Str) = (((MB.ones p).length : Nat) : Int) := by
  have e1 : ("1" : Str) = ⟨#[49]⟩ := rfl
  rw [e1, count_cnt, MB.ones_count]
  exact cnt_list _
abbrev intsD (l : List Nat) : List PyData := l.map fun (k : Nat) => .int (k : Int)
def R_bits (ds : List PyData) (o : DOut) : Prop := ∃ p : Nat, ds = [.int (p : Int)] ∧ (MB.binL p).length ≤ 16000000 ∧ o = .ok (.list (intsD (MB.ones p)))
theorem onesTo_len (p m : Nat) : (MB.onesTo p m).length ≤ m := by
  unfold MB.onesTo
  rw [List.length_map]
  have := List.length_filter_le (fun j => p.testBit ((MB.binL p).length - 1 - j)) (List.range m)
  rw [List.length_range] at this
  exact this
theorem ok_bits {P : Program} {w : World} {K : Fg} {mg : Str → Option Value} {base : Heap} {f : Addr} {fd : FuncData} (F : Fun K "_bits" "_bits" s_bits f fd)
    (m_len : mg "len" = none) :
    FnOk P w K mg base (L2.CX P w) 1 f fd ["plane"] (spD K 1 R_bits) := by
  refine F.okX sc_bits (fun vs H Q E h => len_D h) (fun cdv A outer s H vs Q E hr h => ⟨_, (pss_cons (ps_set (i := 1) sc_bits.nd rfl (by first | exact Or.inl rfl | exact Or.inr rfl) (pe_joined1 (pe_fmtB (pv 0) (pe_joined1 pe_str))))
      (pss_cons (ps_set (i := 2) sc_bits.nd rfl (by first | exact Or.inl rfl | exact Or.inr rfl) (pe_op op_sub (pe_callB call_len (by rfl) m_len bb_len (pa_cons (pv 1) pa_nil)) pe_int))
      (pss_cons (ps_set (i := 3) sc_bits.nd rfl (by first | exact Or.inl rfl | exact Or.inr rfl) (pe_lst pa_nil))
      (pss_cons (ps_set (i := 4) sc_bits.nd rfl (by first | exact Or.inl rfl | exact Or.inr rfl) (pe_bm PySem.F.plainAttrs_str PySem.F.slot_str_find PySem.F.type_str_find mt_find (pv 1) (pa_cons pe_str pa_nil)))
      (pss_cons (ps_while (passes_of rfl) (pt_cmpR op_ge (pv 4) pe_int (nomark _)) (pss_cons (ps_expr (pe_bm PySem.F.plainAttrs_list PySem.F.slot_list_append PySem.F.type_list_append mt_append (pv 3) (pa_cons (pe_op op_sub (pv 2) (pv 4)) pa_nil)))
      (pss_one (ps_set (i := 4) sc_bits.nd rfl (by first | exact Or.inl rfl | exact Or.inr rfl) (pe_bm PySem.F.plainAttrs_str PySem.F.slot_str_find PySem.F.type_str_find mt_find3 (pv 1) (pa_cons pe_str (pa_cons (pe_op op_addA (pv 4) pe_int) pa_nil)))))))
      (pss_one (ps_ret (pv 3)))))))),
    fn_D h fun ds o hk hR => ?_⟩)
  try dsimp only [L2.cxOf]
  obtain ⟨p, rfl, hp, rfl⟩ := hR
  have hsz : (sizeLine : Nat) = 16777216 := sizeLine_eq
  have hl0 := MB.binL_pos p
  walk_at "zq"
  refine ⟨by rw [binS_len]; omega, ?_⟩
  walk_at "zq"
  refine zc_len (dLen_str (by rw [binS_len]; omega)) ?_
  walk_at "zq"
  refine zw_lstC ?_
  walk_at "zq"
  refine ⟨[], rfl, Nat.zero_le _, fun q => ?_⟩
  walk_at "zq"
  rw [find_is_find3, binS_len]
  refine zs_seq (zs_while (fun m S2 M2 => ∃ (j : Nat) (a : Int), S2 = [some (.d (.int (p : Int))), some (.d (.str (binS p))), some (.d (.int (((MB.binL p).length : Nat) - 1))), some (.c q), some (.d (.int a))] ∧ M2 = [(q, true, .lst (intsD (MB.onesTo p j)))] ∧ ((a = -1 ∧ MB.onesTo p j = MB.ones p ∧ m = 0) ∨ (a = (j : Int) ∧ j < (MB.binL p).length ∧ p.testBit ((MB.binL p).length - 1 - j) = true ∧ m = (MB.binL p).length - j))) ?_ ?_)
  · rcases find_bin p 0 with ⟨h1, h2⟩ | ⟨k, h1, h2, h3, h4, h5⟩
    · exact ⟨0, 0, -1, by rw [show (0 : Int) = ((0 : Nat) : Int) from rfl, h1]; rfl, rfl, .inl ⟨rfl, (MB.onesTo_step_no (Nat.zero_le _) (fun j a b => h2 j a b)).symm, rfl⟩⟩
    · refine ⟨_, k, k, by rw [show (0 : Int) = ((0 : Nat) : Int) from rfl, h1]; rfl, ?_, .inr ⟨rfl, h3, h4, rfl⟩⟩
      rw [MB.onesTo_step_no (n := p) (Nat.zero_le k) (fun j a b => h5 j a b)]
      rfl
  · rintro m S2 M2 ⟨j, a, rfl, rfl, h⟩
    walk_at "zq"
    rcases h with ⟨rfl, h1, rfl⟩ | ⟨rfl, h1, h2, rfl⟩
    · refine ⟨fun e => (nomatch e), fun _ => ?_⟩
      refine zs_next ?_
      refine zs_ret (zw_frz ?_)
      walk_at "zq"
      refine ⟨_, _, _, rfl, .here, ?_⟩
      rw [h1]
      first | rfl | exact ⟨_, rfl, rfl⟩
    · rw [decide_eq_true (show (0 : Int) ≤ (j : Int) by omega)]
      refine ⟨fun _ => ?_, fun e => (nomatch e)⟩
      have hj := onesTo_len p j
      walk_at "zz"
      refine zw_append ?_
      walk_at "zz"
      refine ⟨q, rfl, ⟨_, _, m0⟩, ?_⟩
      walk_at "zq"
      refine ⟨_, _, _, _, rfl, .here, ?_, ?_⟩
      · rw [List.length_map]; omega
      walk_at "zq"
      rw [show (j : Int) + 1 = ((j + 1 : Nat) : Int) from rfl]
      have ap : intsD (MB.onesTo p j) ++ [PyData.int (((MB.binL p).length : Nat) - 1 - (j : Int))] = intsD (MB.onesTo p (j + 1)) := by
        rw [MB.onesTo_succ h2]
        unfold intsD
        rw [List.map_append]
        congr 1
        show [_] = [PyData.int _]
        congr 2
        omega
      rcases find_bin p (j + 1) with ⟨f1, f2⟩ | ⟨k, f1, f2, f3, f4, f5⟩
      · exact ⟨0, by omega, j + 1, -1, by rw [f1]; rfl, by rw [ap], .inl ⟨rfl, (MB.onesTo_step_no (by omega) (fun i a b => f2 i a b)).symm, rfl⟩⟩
      · refine ⟨(MB.binL p).length - k, by omega, k, k, by rw [f1]; rfl, ?_, .inr ⟨rfl, f3, f4, rfl⟩⟩
        rw [ap, MB.onesTo_step_no f2 (fun i a b => f5 i a b)]
/-! ### floors -/
def R_margin (ds : List PyData) (o : DOut) : Prop := ∃ l t r b : Int, ds = [.tuple [.int l, .int t, .int r, .int b]] ∧ o = .ok (.tuple [.int (l - 12), .int (t - 12), .int (r + 12), .int (b + 12)])
theorem ok_with_margin {P : Program} {w : World} {K : Fg} {mg : Str → Option Value} {base : Heap} {f : Addr} {fd : FuncData} (F : Fun K "_with_margin" "_with_margin" s_with_margin f fd)
    (g_SPARE : ∃ u, mg "SPARE" = some u ∧ RelV (.int 12) u) :
    FnOk P w K mg base (L2.CX P w) 1 f fd ["box"] (spD K 1 R_margin) := by
  refine F.okX sc_with_margin (fun vs H Q E h => len_D h) (fun cdv A outer s H vs Q E hr h => ⟨_, (pss_cons (ps_asg (pv 0) (pg_tup rfl (pgs_cons (pg_name (i := 1) sc_with_margin.nd rfl (by first | exact Or.inl rfl | exact Or.inr rfl)) (pgs_cons (pg_name (i := 2) sc_with_margin.nd rfl (by first | exact Or.inl rfl | exact Or.inr rfl)) (pgs_cons (pg_name (i := 3) sc_with_margin.nd rfl (by first | exact Or.inl rfl | exact Or.inr rfl)) (pgs_cons (pg_name (i := 4) sc_with_margin.nd rfl (by first | exact Or.inl rfl | exact Or.inr rfl)) pgs_nil))))))
      (pss_one (ps_ret (pe_tup (pa_cons (pe_op op_sub (pv 1) (pe_glob (by rfl) g_SPARE.choose_spec.1 g_SPARE.choose_spec.2)) (pa_cons (pe_op op_sub (pv 2) (pe_glob (by rfl) g_SPARE.choose_spec.1 g_SPARE.choose_spec.2)) (pa_cons (pe_op op_addA (pv 3) (pe_glob (by rfl) g_SPARE.choose_spec.1 g_SPARE.choose_spec.2)) (pa_cons (pe_op op_addA (pv 4) (pe_glob (by rfl) g_SPARE.choose_spec.1 g_SPARE.choose_spec.2)) pa_nil)))))))),
    fn_D h fun ds o hk hR => ?_⟩)
  try dsimp only [L2.cxOf]
  obtain ⟨l, t, r, b, rfl, rfl⟩ := hR
  walk_at "zz"
  refine ⟨_, _, zg_tup rfl (zgs_cons (zgs_cons (zgs_cons (zgs_cons zgs_nil)))), ?_⟩
  walk_at "zq"
  walk_at "zt"
  first | rfl | exact ⟨_, rfl, rfl⟩
/-- a board's box, which suits bits -/
structure Fit (b : List Cell) (x0 y0 x1 y1 : Int) : Prop where
  box : BoxOf b x0 y0 x1 y1
  len : b.length ≤ 3000
  ne : b ≠ []
  fx : -FAR ≤ x0 - 12 ∧ x1 + 12 ≤ FAR
  fy : -FAR ≤ y0 - 12 ∧ y1 + 12 ≤ FAR
  wx : x0 ≤ x1 ∧ x1 - x0 ≤ 2000
  wy : y0 ≤ y1 ∧ y1 - y0 ≤ 2000
  few : (x1 - x0 + 25) * (y1 - y0 + 25) ≤ 5000
def R_suits (ds : List PyData) (o : DOut) : Prop := ∃ b x0 y0 x1 y1, ds = [bD b] ∧ Fit b x0 y0 x1 y1 ∧ o = .ok (.bool true)
theorem ok_suits_bits {P : Program} {w : World} {K : Fg} {mg : Str → Option Value} {base : Heap} {f : Addr} {fd : FuncData} (F : Fun K "_suits_bits" "_suits_bits" s_suits_bits f fd)
    (g_FAR : ∃ u, mg "FAR" = some u ∧ RelV (.int 1000000000000000000000000000000000000000000000000000000000000) u)
    (g_BITS_AT_LEAST : ∃ u, mg "BITS_AT_LEAST" = some u ∧ RelV (.int 5000) u)
    (g_BITS_FOR_A_CELL : ∃ u, mg "BITS_FOR_A_CELL" = some u ∧ RelV (.int 1000) u)
    (m_len : mg "len" = none)
    (c__with_margin : Cal P w K mg base 1 "_with_margin" (spD K 1 R_margin))
    (c_corners : Cal P w K mg base 1 "corners" (spD K 1 R_corners)) :
    FnOk P w K mg base (L2.CX P w) 2 f fd ["board"] (spD K 1 R_suits) := by
  refine F.okX sc_suits_bits (fun vs H Q E h => len_D h) (fun cdv A outer s H vs Q E hr h => ⟨_, (pss_cons (ps_asg (pe_cl c__with_margin hr (show 1 ≤ 1 by decide) passL (pa_cons (pe_cl c_corners hr (show 1 ≤ 1 by decide) passL (pa_cons (pv 0) pa_nil)) pa_nil)) (pg_tup rfl (pgs_cons (pg_name (i := 1) sc_suits_bits.nd rfl (by first | exact Or.inl rfl | exact Or.inr rfl)) (pgs_cons (pg_name (i := 2) sc_suits_bits.nd rfl (by first | exact Or.inl rfl | exact Or.inr rfl)) (pgs_cons (pg_name (i := 3) sc_suits_bits.nd rfl (by first | exact Or.inl rfl | exact Or.inr rfl)) (pgs_cons (pg_name (i := 4) sc_suits_bits.nd rfl (by first | exact Or.inl rfl | exact Or.inr rfl)) pgs_nil))))))
      (pss_cons (ps_if (PW.pt (pw_or (pt_cmpR op_lt (pv 1) (pe_un un_neg (pe_glob (by rfl) g_FAR.choose_spec.1 g_FAR.choose_spec.2)) (nomark _)) (pw_or (pt_cmpR op_lt (pv 2) (pe_un un_neg (pe_glob (by rfl) g_FAR.choose_spec.1 g_FAR.choose_spec.2)) (nomark _)) (pw_or (pt_cmpR op_gt (pv 3) (pe_glob (by rfl) g_FAR.choose_spec.1 g_FAR.choose_spec.2) (nomark _)) (pw_or1 (pt_cmpR op_gt (pv 4) (pe_glob (by rfl) g_FAR.choose_spec.1 g_FAR.choose_spec.2) (nomark _))))))) (pss_one (ps_ret pe_bl)) pss_nil)
      (pss_one (ps_ret (pe_cmpR op_le (pe_op op_mul (pe_op op_addA (pe_op op_sub (pv 3) (pv 1)) pe_int) (pe_op op_addA (pe_op op_sub (pv 4) (pv 2)) pe_int)) (pe_op op_addA (pe_glob (by rfl) g_BITS_AT_LEAST.choose_spec.1 g_BITS_AT_LEAST.choose_spec.2) (pe_op op_mul (pe_glob (by rfl) g_BITS_FOR_A_CELL.choose_spec.1 g_BITS_FOR_A_CELL.choose_spec.2) (pe_callB call_len (by rfl) m_len bb_len (pa_cons (pv 0) pa_nil)))) (nomark _)))))),
    fn_D h fun ds o hk hR => ?_⟩)
  try dsimp only [L2.cxOf]
  obtain ⟨b, x0, y0, x1, y1, rfl, hf, rfl⟩ := hR
  obtain ⟨wx1, wx2⟩ := hf.wx
  obtain ⟨wy1, wy2⟩ := hf.wy
  walk_at "zz"
  refine ⟨_, _, by walk_at "zd", rfl, ⟨b, x0, y0, x1, y1, rfl, by have := hf.len; omega, hf.box, rfl⟩, ?_⟩
  walk_at "zq"
  refine ⟨_, _, by walk_at "zd", rfl, ⟨x0, y0, x1, y1, rfl, rfl⟩, ?_⟩
  walk_at "zz"
  refine ⟨_, _, zg_tup rfl (zgs_cons (zgs_cons (zgs_cons (zgs_cons zgs_nil)))), ?_⟩
  walk_at "zq"
  rw [decide_eq_false (show ¬ (x0 - 12 < -FAR) by have := hf.fx.1; omega)]
  walk_at "zq"
  rw [decide_eq_false (show ¬ (y0 - 12 < -FAR) by have := hf.fy.1; omega)]
  walk_at "zq"
  rw [decide_eq_false (show ¬ (FAR < x1 + 12) by have := hf.fx.2; omega)]
  walk_at "zq"
  rw [decide_eq_false (show ¬ (FAR < y1 + 12) by have := hf.fy.2; omega)]
  walk_at "zq"
  refine zo_mul (.inl (by omega)) ?_
  walk_at "zq"
  refine zo_mul (.inl (by omega)) ?_
  walk_at "zq"
  have few := hf.few
  have e1 : x1 + 12 - (x0 - 12) + 1 = x1 - x0 + 25 := by omega
  have e2 : y1 + 12 - (y0 - 12) + 1 = y1 - y0 + 25 := by omega
  rw [e1, e2, decide_eq_true (by omega)]
def bitFs (r : Rl) (l t : Int) (h w : Nat) (P : List Nat) : List (Str × ZV) := [("births", .d (natsD r.b)), ("stays", .d (natsD (r.s.map (· + 1)))), ("states", .d (.int (r.n : Int))), ("left", .d (.int l)), ("top", .d (.int t)), ("high", .d (.int (h : Int))), ("whole", .d (.int (w : Int))), ("planes", .d (.list (intsD P)))]
def idx (l t : Int) (h : Nat) (c : Cell) : Nat := (c.x - l).toNat * h + (c.y - t).toNat
def pstep (l t : Int) (h : Nat) (P : List Nat) (c : Cell) : List Nat := P.set (c.s - 1).toNat (P.getD (c.s - 1).toNat 0 ||| (1 <<< idx l t h c))
def planes0 (l t : Int) (h : Nat) (b : List Cell) : List Nat := b.foldl (pstep l t h) [0, 0, 0, 0, 0]
theorem pstep_len (l t : Int) (h : Nat) (P : List Nat) (c : Cell) : (pstep l t h P c).length = P.length := List.length_set
theorem planes_len (l t : Int) (h : Nat) : ∀ (b : List Cell) (P : List Nat), (b.foldl (pstep l t h) P).length = P.length
  | [], P => rfl
  | c :: b, P => by rw [List.foldl_cons, planes_len l t h b, pstep_len]
theorem inbox {b : List Cell} {x0 y0 x1 y1 : Int} (h : Board b) (hB : BoxOf b x0 y0 x1 y1) : ∀ c ∈ b, x0 ≤ c.x ∧ c.x ≤ x1 ∧ y0 ≤ c.y ∧ c.y ≤ y1 := by
  intro c hc
  obtain ⟨i, hi⟩ := List.mem_iff_getElem?.mp hc
  have hil := (List.getElem?_eq_some_iff.mp hi).1
  obtain ⟨c0, h0, rfl⟩ := hB.x0
  obtain ⟨c1, h1, rfl⟩ := hB.x1
  refine ⟨?_, ?_, hB.y0.2 _ (List.mem_map_of_mem (f := Cell.y) hc), hB.y1.2 _ (List.mem_map_of_mem (f := Cell.y) hc)⟩
  · rcases Nat.eq_zero_or_pos i with z | z
    · subst z; rw [hi] at h0; cases h0; exact Int.le_refl _
    · have := pw_at h.up z h0 hi
      omega
  · rcases Nat.lt_or_ge i (b.length - 1) with z | z
    · have := pw_at h.up z hi h1
      omega
    · have : i = b.length - 1 := by omega
      subst this; rw [hi] at h1; cases h1; exact Int.le_refl _
def bitFq (r : Rl) (l t : Int) (h w : Nat) (q : Addr) : List (Str × ZV) := [("births", .d (natsD r.b)), ("stays", .d (natsD (r.s.map (· + 1)))), ("states", .d (.int (r.n : Int))), ("left", .d (.int l)), ("top", .d (.int t)), ("high", .d (.int (h : Int))), ("whole", .d (.int (w : Int))), ("planes", .c q)]
theorem idx_lt {l t : Int} {W Hh : Nat} {c : Cell} (h1 : l ≤ c.x) (h2 : c.x < l + W) (h3 : t ≤ c.y) (h4 : c.y < t + Hh) : idx l t Hh c < W * Hh := by
  unfold idx
  have a : (c.x - l).toNat + 1 ≤ W := by omega
  have b : (c.y - t).toNat < Hh := by omega
  have := Nat.mul_le_mul_right Hh a
  rw [Nat.add_mul] at this
  omega
def R_bInit (fs : List (Str × ZV)) (ds : List PyData) (o : DOut) (fs' : List (Str × ZV)) : Prop := ∃ r b x0 y0 x1 y1, fs = [] ∧ ds = [Rl.d r, bD b] ∧ Rule r ∧ Board b ∧ Fit b x0 y0 x1 y1 ∧ o = .ok .none ∧
  fs' = bitFs r (x0 - 12) (y0 - 12) (y1 - y0 + 25).toNat (2 ^ ((x1 - x0 + 25).toNat * (y1 - y0 + 25).toNat) - 1) (planes0 (x0 - 12) (y0 - 12) (y1 - y0 + 25).toNat b)
theorem ok_BitFloor_init {P : Program} {w : World} {K : Fg} {mg : Str → Option Value} {base : Heap} {f : Addr} {fd : FuncData} {C_BitFloor : Addr} (F : Fun K "__init__" "BitFloor.__init__" s_BitFloor_init f fd)
    (na_BitFloor_births : NoAttr K C_BitFloor "births")
    (na_BitFloor_stays : NoAttr K C_BitFloor "stays")
    (m_tuple : mg "tuple" = none)
    (na_BitFloor_states : NoAttr K C_BitFloor "states")
    (na_BitFloor_top : NoAttr K C_BitFloor "top")
    (na_BitFloor_left : NoAttr K C_BitFloor "left")
    (na_BitFloor_high : NoAttr K C_BitFloor "high")
    (na_BitFloor_whole : NoAttr K C_BitFloor "whole")
    (na_BitFloor_planes : NoAttr K C_BitFloor "planes")
    (c__with_margin : Cal P w K mg base 1 "_with_margin" (spD K 1 R_margin))
    (c_corners : Cal P w K mg base 1 "corners" (spD K 1 R_corners))
    (cl_BitFloor : Cls K C_BitFloor) :
    FnOk P w K mg base (L2.CX P w) 2 f fd ["self", "rule", "board"] (spO K C_BitFloor 2 R_bInit) := by
  refine F.okX sc_BitFloor_init (fun vs H Q E h => len_O h) (fun cdv A outer s H vs Q E hr h => ⟨_, (pss_cons (ps_asg (pv 1) (pg_tup rfl (pgs_cons (pg_name (i := 3) sc_BitFloor_init.nd rfl (by first | exact Or.inl rfl | exact Or.inr rfl)) (pgs_cons (pg_name (i := 4) sc_BitFloor_init.nd rfl (by first | exact Or.inl rfl | exact Or.inr rfl)) (pgs_cons (pg_name (i := 5) sc_BitFloor_init.nd rfl (by first | exact Or.inl rfl | exact Or.inr rfl)) pgs_nil)))))
      (pss_cons (ps_fld (pv 0) (pv 3) rfl)
      (pss_cons (ps_fld (pv 0) (pe_callTy call_tuple_of (by rfl) m_tuple bt_tuple (pa_cons (pe_lc (own := [("count", 6)]) rfl sc_BitFloor_init.nd (pi_tup (pv 4)) (blkOk_by (N := N_BitFloor_init) (sc := defScope s_BitFloor_init) (by decide +kernel)) (fun _ _ _ _ _ => (pg_name (i := 6) sc_BitFloor_init.nd rfl (by first | exact Or.inl rfl | exact Or.inr rfl))) (fun _ _ _ _ _ => pts_nil) (fun _ _ _ _ _ => (pe_op (show OpR _ (binaryOp .Add) (rAddA K) from op_addA) (pv 6) pe_int))) pa_nil)) rfl)
      (pss_cons (ps_fld (pv 0) (pv 5) rfl)
      (pss_cons (ps_asg (pe_cl c__with_margin hr (show 1 ≤ 1 by decide) passL (pa_cons (pe_cl c_corners hr (show 1 ≤ 1 by decide) passL (pa_cons (pv 2) pa_nil)) pa_nil)) (pg_tup rfl (pgs_cons (pg_fld (pv 0)) (pgs_cons (pg_fld (pv 0)) (pgs_cons (pg_name (i := 7) sc_BitFloor_init.nd rfl (by first | exact Or.inl rfl | exact Or.inr rfl)) (pgs_cons (pg_name (i := 8) sc_BitFloor_init.nd rfl (by first | exact Or.inl rfl | exact Or.inr rfl)) pgs_nil))))))
      (pss_cons (ps_fld (pv 0) (pe_op op_addA (pe_op op_sub (pv 8) (pe_fld (pv 0) rfl)) pe_int) rfl)
      (pss_cons (ps_fld (pv 0) (pe_op op_sub (pe_op op_shlW pe_int (pe_op op_mul (pe_op op_addA (pe_op op_sub (pv 7) (pe_fld (pv 0) rfl)) pe_int) (pe_fld (pv 0) rfl))) pe_int) rfl)
      (pss_cons (ps_fld (pv 0) (pe_lst (pa_cons pe_int (pa_cons pe_int (pa_cons pe_int (pa_cons pe_int (pa_cons pe_int pa_nil)))))) rfl)
      (pss_one (ps_for (passes_of rfl) rfl (pi_tup (pv 2)) (pg_tup rfl (pgs_cons (pg_name (i := 9) sc_BitFloor_init.nd rfl (by first | exact Or.inl rfl | exact Or.inr rfl)) (pgs_cons (pg_name (i := 10) sc_BitFloor_init.nd rfl (by first | exact Or.inl rfl | exact Or.inr rfl)) (pgs_cons (pg_name (i := 11) sc_BitFloor_init.nd rfl (by first | exact Or.inl rfl | exact Or.inr rfl)) pgs_nil)))) (pss_one (ps_augS (pe_fld (pv 0) rfl) (pe_op op_sub (pv 11) pe_int) get_list (pe_op op_shlW pe_int (pe_op op_sub (pe_op op_addA (pe_op op_mul (pe_op op_sub (pv 9) (pe_fld (pv 0) rfl)) (pe_fld (pv 0) rfl)) (pv 10)) (pe_fld (pv 0) rfl))) ip_or set_list)))))))))))),
    fn_O h fun p fs ds o fs2 hk hR => ?_⟩)
  try dsimp only [L2.cxOf]
  obtain ⟨r, b, x0, y0, x1, y1, rfl, rfl, hr2, hb, hf, rfl, rfl⟩ := hR
  obtain ⟨W, hW⟩ : ∃ W : Nat, x1 - x0 + 25 = (W : Int) := ⟨(x1 - x0 + 25).toNat, by have := hf.wx; omega⟩
  obtain ⟨Hh, hH⟩ : ∃ W : Nat, y1 - y0 + 25 = (W : Int) := ⟨(y1 - y0 + 25).toNat, by have := hf.wy; omega⟩
  have few : W * Hh ≤ 5000 := by
    have := hf.few
    rw [hW, hH] at this
    exact Int.ofNat_le.mp (by simpa using this)
  rw [show (x1 - x0 + 25).toNat = W by omega, show (y1 - y0 + 25).toNat = Hh by omega]
  have eW : x1 + 12 - (x0 - 12) + 1 = (W : Int) := by omega
  have eH : y1 + 12 - (y0 - 12) + 1 = (Hh : Int) := by omega
  obtain ⟨wx1, wx2⟩ := hf.wx
  obtain ⟨wy1, wy2⟩ := hf.wy
  have hsz : (sizeLine : Nat) = 16777216 := sizeLine_eq
  have hsl := hr2.sLen
  walk_at "zfq"
  refine lcT_map r.s (fun (k : Nat) => PyData.int (k : Int)) (fun (k : Nat) => PyData.int ((k + 1 : Nat) : Int)) ?_
  walk_at "zz"
  refine ⟨rfl, by omega, fun c hc => ⟨_, _, ?_, zg_name, fun D acc => ?_⟩, ?_⟩
  · simp
  · walk_at "zq"
    exact ⟨rfl, rfl⟩
  rw [show (r.s.map fun (k : Nat) => PyData.int ((k + 1 : Nat) : Int)) = (r.s.map (· + 1)).map (fun (k : Nat) => .int (k : Int)) by rw [List.map_map]; rfl]
  walk_at "zfq"
  refine zc_tupL ?_
  walk_at "zfq"
  refine ⟨_, _, by walk_at "zd", rfl, ⟨b, x0, y0, x1, y1, rfl, by have := hf.len; omega, hf.box, rfl⟩, ?_⟩
  walk_at "zfq"
  refine ⟨_, _, by walk_at "zd", rfl, ⟨x0, y0, x1, y1, rfl, rfl⟩, ?_⟩
  walk_at "zfq"
  refine zh_tup rfl (zhs_cons (zh_fld cl_BitFloor na_BitFloor_left rfl (Nat.le_of_ble_eq_true rfl) .here (zhs_cons (zh_fld cl_BitFloor na_BitFloor_top rfl (Nat.le_of_ble_eq_true rfl) .here (zhs_cons (zh_name (zhs_cons (zh_name (zhs_nil ?_)))))))))
  walk_at "zfq"
  rw [eW, eH]
  refine zo_mul (.inl ⟨by omega, by omega⟩) ?_
  rw [show (W : Int) * (Hh : Int) = ((W * Hh : Nat) : Int) from (Int.natCast_mul W Hh).symm]
  refine zo_shlN (a := 1) (k := W * Hh) (shl_fits (n := 1) (by decide) (by omega)) ?_
  walk_at "zfq"
  rw [show ((1 <<< (W * Hh) : Nat) : Int) - 1 = ((2 ^ (W * Hh) - 1 : Nat) : Int) by
    rw [Nat.shiftLeft_eq, Nat.one_mul]
    have := Nat.one_le_two_pow (n := W * Hh)
    omega]
  refine zw_lstC ?_
  walk_at "zfq"
  refine ⟨[.int 0, .int 0, .int 0, .int 0, .int 0], rfl, by rw [hsz]; decide, fun q => ?_⟩
  walk_at "zz"
  refine ⟨p, false, _, _, rfl, Nat.le_of_ble_eq_true rfl, .there .here, ?_⟩
  have hin := inbox hb hf.box
  refine zs_frzL (N := fun S2 M2 => M2 = [(q, true, .lst (intsD (planes0 (x0 - 12) (y0 - 12) Hh b))), (p, false, .obj C_BitFloor (bitFq r (x0 - 12) (y0 - 12) Hh (2 ^ (W * Hh) - 1) q))]) ?_ ?_
  · walk_at "zz"
    refine ⟨_, rfl, fun i S2 M2 => ∃ (cx cy cs : Option ZV), S2 = [some (.c p), some (.d r.d), some (.d (bD b)), some (.d (natsD r.b)), some (.d (natsD r.s)), some (.d (.int (r.n : Int))), none, some (.d (.int (x1 + 12))), some (.d (.int (y1 + 12))), cx, cy, cs] ∧ M2 = [(q, true, .lst (intsD (planes0 (x0 - 12) (y0 - 12) Hh (b.take i)))), (p, false, .obj C_BitFloor (bitFq r (x0 - 12) (y0 - 12) Hh (2 ^ (W * Hh) - 1) q))], ⟨_, _, _, rfl, ?_⟩, ?_, ?_⟩
    · rfl
    · rintro i v S2 M2 hv ⟨cx, cy, cs, rfl, rfl⟩
      rw [List.getElem?_map] at hv
      obtain ⟨c, hc, rfl⟩ := Option.map_eq_some_iff.mp hv
      have hcm := List.mem_of_getElem? hc
      obtain ⟨i1, i2, i3, i4⟩ := hin c hcm
      obtain ⟨_, _, s1, s5⟩ := hb.ok c hcm
      have hP : (planes0 (x0 - 12) (y0 - 12) Hh (b.take i)).length = 5 := planes_len _ _ _ _ _
      have hP2 : planes0 (x0 - 12) (y0 - 12) Hh (b.take (i + 1)) = pstep (x0 - 12) (y0 - 12) Hh (planes0 (x0 - 12) (y0 - 12) Hh (b.take i)) c := by
        unfold planes0
        rw [List.take_succ, hc, List.foldl_append]
        rfl
      generalize planes0 (x0 - 12) (y0 - 12) Hh (b.take i) = P at hP hP2 ⊢
      obtain ⟨k, hk⟩ : ∃ k : Nat, c.s - 1 = (k : Int) := ⟨(c.s - 1).toNat, by omega⟩
      have hk5 : k < 5 := by omega
      have hPk : P[k]? = some P[k] := List.getElem?_eq_getElem (by omega)
      have hix := idx_lt (l := x0 - 12) (t := y0 - 12) (W := W) (Hh := Hh) (c := c) (by omega) (by omega) (by omega) (by omega)
      refine ⟨_, _, zg_tup rfl (zgs_cons (zgs_cons (zgs_cons zgs_nil))), ?_⟩
      refine zs_augL ?_
      walk_at "zfq"
      rw [hk]
      refine ⟨q, true, _, k, (P[k] : Nat), rfl, rfl, m0, by rw [List.getElem?_map, hPk]; rfl, ?_⟩
      walk_at "zfq"
      refine zo_mul (.inr ⟨by omega, by omega⟩) ?_
      walk_at "zfq"
      have e3 : (c.x - (x0 - 12)) * (Hh : Int) + c.y - (y0 - 12) = ((idx (x0 - 12) (y0 - 12) Hh c : Nat) : Int) := by
        unfold idx
        rw [Int.natCast_add, Int.natCast_mul, Int.toNat_of_nonneg (by omega), Int.toNat_of_nonneg (by omega)]
        omega
      rw [e3]
      refine zo_shlN (a := 1) (k := idx (x0 - 12) (y0 - 12) Hh c) (shl_fits (n := 1) (by decide) (by omega)) ?_
      refine ⟨_, true, _, _, rfl, .here, ?_, ?_⟩
      · rw [List.length_map, hP]; exact hk5
      refine ⟨_, _, _, rfl, ?_⟩
      have e4 : (intsD P).set k (.int (Builtin.bitOr (P[k] : Nat) ((1 <<< idx (x0 - 12) (y0 - 12) Hh c : Nat) : Int))) = intsD (pstep (x0 - 12) (y0 - 12) Hh P c) := by
        unfold pstep intsD
        rw [bor_nat, hk, Int.toNat_natCast, List.getD_eq_getElem?_getD, hPk, List.map_set]
        rfl
      rw [e4, hP2]
    · rintro S2 M2 ⟨cx, cy, cs, rfl, rfl⟩
      rw [List.length_map, List.take_length]
  · rintro S2 M2 rfl
    exact ⟨q, intsD _, _, p, false, C_BitFloor, _, "planes", _, .here, rfl, .here, rfl, m0⟩
def R_bAdv (fs : List (Str × ZV)) (ds : List PyData) (o : DOut) (fs' : List (Str × ZV)) : Prop := ∃ (r : Rl) (l t : Int) (h n : Nat) (P : List Nat), Rule r ∧ P ≠ [] ∧ P.length ≤ 6 ∧ (∀ p ∈ P, p < 2 ^ n) ∧ n + h ≤ 10000000 ∧ fs = bitFs r l t h (2 ^ n - 1) P ∧ ds = [] ∧ o = .ok .none ∧
  fs' = bitFs r l t h (2 ^ n - 1) (MB.advP r.b (r.s.map (· + 1)) r.n h (2 ^ n - 1) P)
theorem orAll_take {l : List Nat} {i a p : Nat} (h : l[i]? = some p) : MB.orAll (l.take (i + 1)) a = MB.orAll (l.take i) a ||| p := by
  unfold MB.orAll
  rw [List.take_succ, h, List.foldl_append]
  rfl
theorem cut1 (x : PyData) (l : List PyData) : Z.cutD (x :: l) (some 1) none = l := by
  unfold Z.cutD HT.sIx
  simp
theorem cut_to (k : Nat) (l : List PyData) : Z.cutD l none (some ((k : Nat) : Int)) = l.take k := by
  unfold Z.cutD HT.sIx
  simp only [Nat.sub_zero, List.drop_zero]
  rw [if_neg (by omega)]
  by_cases h : k ≤ l.length
  · congr 1
    omega
  · rw [List.take_of_length_le (by omega), List.take_of_length_le (by omega)]
theorem ok_BitFloor_advance {P : Program} {w : World} {K : Fg} {mg : Str → Option Value} {base : Heap} {f : Addr} {fd : FuncData} {C_BitFloor : Addr} (F : Fun K "advance" "BitFloor.advance" s_BitFloor_advance f fd)
    (na_BitFloor_planes : NoAttr K C_BitFloor "planes")
    (na_BitFloor_high : NoAttr K C_BitFloor "high")
    (na_BitFloor_whole : NoAttr K C_BitFloor "whole")
    (na_BitFloor_stays : NoAttr K C_BitFloor "stays")
    (na_BitFloor_births : NoAttr K C_BitFloor "births")
    (na_BitFloor_states : NoAttr K C_BitFloor "states")
    (c__counts : Cal P w K mg base 2 "_counts" (spD K 2 R_counts9))
    (c__with_counts : Cal P w K mg base 1 "_with_counts" (spD K 2 R_withC))
    (cl_BitFloor : Cls K C_BitFloor) :
    FnOk P w K mg base (L2.CX P w) 3 f fd ["self"] (spO K C_BitFloor 0 R_bAdv) := by
  refine F.okX sc_BitFloor_advance (fun vs H Q E h => len_O h) (fun cdv A outer s H vs Q E hr h => ⟨_, (pss_cons (ps_set (i := 1) sc_BitFloor_advance.nd rfl (by first | exact Or.inl rfl | exact Or.inr rfl) (pe_ix ix_seq (pe_fld (pv 0) rfl) pe_int (fun _ _ => rfl)))
      (pss_cons (ps_set (i := 2) sc_BitFloor_advance.nd rfl (by first | exact Or.inl rfl | exact Or.inr rfl) (pv 1))
      (pss_cons (ps_for (passes_of rfl) rfl (pi_list (pe_slice sl_any (pe_fld (pv 0) rfl) (po_some pe_int) po_none)) (pg_name (i := 3) sc_BitFloor_advance.nd rfl (by first | exact Or.inl rfl | exact Or.inr rfl)) (pss_one (ps_aug (i := 2) sc_BitFloor_advance.nd rfl (by first | exact Or.inl rfl | exact Or.inr rfl) (pv 3) ip_or)))
      (pss_cons (ps_setLc (own := [("plane", 3)]) (i := 4) rfl sc_BitFloor_advance.nd rfl rfl (sw_true rfl rfl rfl (by decide +kernel)) (pi_tup (pe_cl c__counts hr (show 2 ≤ 2 by decide) passL (pa_cons (pv 1) (pa_cons (pe_fld (pv 0) rfl) pa_nil)))) (blkOk_by (N := N_BitFloor_advance) (sc := defScope s_BitFloor_advance) (by decide +kernel)) (fun _ _ _ _ _ => (pg_name (i := 3) sc_BitFloor_advance.nd rfl (by first | exact Or.inl rfl | exact Or.inr rfl))) (fun _ _ _ _ _ => pts_nil) (fun _ _ _ _ _ => (pe_tup (pa_cons (pe_op op_xor (show PE _ _ (tFld K (tVar 0) "whole") from pe_fld (pv 0) rfl) (pv 3)) (pa_cons (pv 3) pa_nil)))))
      (pss_cons (ps_set (i := 5) sc_BitFloor_advance.nd rfl (by first | exact Or.inl rfl | exact Or.inr rfl) (pe_op op_and (pv 1) (pe_cl c__with_counts hr (show 1 ≤ 2 by decide) passL (pa_cons (pe_fld (pv 0) rfl) (pa_cons (pv 4) pa_nil)))))
      (pss_cons (ps_set (i := 6) sc_BitFloor_advance.nd rfl (by first | exact Or.inl rfl | exact Or.inr rfl) (pe_op op_and (pe_cl c__with_counts hr (show 1 ≤ 2 by decide) passL (pa_cons (pe_fld (pv 0) rfl) (pa_cons (pv 4) pa_nil))) (pe_op op_xor (pe_fld (pv 0) rfl) (pv 2))))
      (pss_cons (ps_set (i := 7) sc_BitFloor_advance.nd rfl (by first | exact Or.inl rfl | exact Or.inr rfl) (pe_op op_addA (pe_lst (pa_cons (pe_op op_or (pv 5) (pv 6)) (pa_cons (pe_op op_xor (pv 1) (pv 5)) pa_nil))) (pe_slice sl_any (pe_fld (pv 0) rfl) (po_some pe_int) po_none)))
      (pss_one (ps_fld (pv 0) (pe_slice sl_any (pv 7) po_none (po_some (pe_op op_sub (pe_fld (pv 0) rfl) pe_int))) rfl))))))))),
    fn_O h fun p fs ds o fs2 hk hR => ?_⟩)
  try dsimp only [L2.cxOf]
  obtain ⟨r, l, t, h, n, P, hr2, hne, hPl, hP, hn, rfl, rfl, rfl, rfl⟩ := hR
  obtain ⟨a, T, rfl⟩ : ∃ a T, P = a :: T := by cases P with | nil => exact absurd rfl hne | cons a T => exact ⟨a, T, rfl⟩
  have ha := hP a List.mem_cons_self
  have hsz : (sizeLine : Nat) = 16777216 := sizeLine_eq
  walk_at "zfq"
  refine zo_ix (x := .list (intsD (a :: T))) (d := .int (a : Int)) atI0 ?_
  walk_at "zfq"
  rw [show intsD (a :: T) = .int (a : Int) :: intsD T from rfl, cut1]
  have hq : (MB.counts a h).a < 2 ^ n ∨ True := .inr trivial
  generalize hfq : bitFs r l t h (2 ^ n - 1) (a :: T) = fs0
  refine ⟨fun i S2 M2 => ∃ (c3 c4 c5 c6 c7 : Option ZV), S2 = [some (.c p), some (.d (.int (a : Int))), some (.d (.int ((MB.orAll (T.take i) a : Nat) : Int))), c3, c4, c5, c6, c7] ∧ M2 = [(p, false, .obj C_BitFloor fs0)], ⟨_, _, _, _, _, rfl, rfl⟩, ?_, ?_⟩
  · rintro i v S2 M2 hv ⟨c3, c4, c5, c6, c7, rfl, rfl⟩
    rw [List.getElem?_map] at hv
    obtain ⟨x, hx, rfl⟩ := Option.map_eq_some_iff.mp hv
    refine ⟨_, _, zg_name, ?_⟩
    refine zs_augOr (i := 2) (a := MB.orAll (T.take i) a) ?_ ?_
    · rfl
    walk_at "zq"
    refine ⟨some (.d (.int (x : Int))), c4, c5, c6, c7, ?_, rfl⟩
    rw [orAll_take hx]
    rfl
  · rintro S2 M2 ⟨c3, c4, c5, c6, c7, rfl, rfl⟩
    rw [List.length_map, List.take_length]
    subst hfq
    walk_at "zz"
    refine lcT_map [(MB.counts a h).a, (MB.counts a h).b, (MB.counts a h).c, (MB.counts a h).d] (fun (k : Nat) => .int (k : Int)) (fun (k : Nat) => sideD (2 ^ n - 1) k) ?_
    walk_at "zfq"
    refine ⟨_, _, by walk_at "zd", rfl, ⟨a, h, n, rfl, ha, by omega, rfl⟩, ?_⟩
    refine ⟨rfl, by rw [hsz]; exact Nat.le_of_ble_eq_true rfl, fun c hc => ⟨_, _, ?_, zg_name, fun D acc => ?_⟩, ?_⟩
    · simp
    · walk_at "zfq"
      walk_at "zt"
      exact ⟨rfl, rfl⟩
    walk_at "zfq"
    refine ⟨_, _, by walk_at "zd", rfl, ⟨r.s.map (· + 1), 2 ^ n - 1, MB.counts a h, rfl, fun c hc => ?_, rfl⟩, ?_⟩
    · obtain ⟨k, hk, rfl⟩ := List.mem_map.mp hc
      have := hr2.sl k hk
      omega
    walk_at "zfq"
    refine ⟨_, _, by walk_at "zd", rfl, ⟨r.b, 2 ^ n - 1, MB.counts a h, rfl, fun c hc => ?_, rfl⟩, ?_⟩
    · have := hr2.bl c hc
      omega
    walk_at "zfq"
    refine zw_lstC ?_
    walk_at "zfq"
    refine ⟨[.int _, .int _], rfl, by rw [hsz]; exact Nat.le_of_ble_eq_true rfl, fun q => ?_⟩
    refine zw_slC ?_
    walk_at "zfq"
    refine fun q2 => ?_
    rw [show intsD (a :: T) = .int (a : Int) :: intsD T from rfl, cut1]
    rw [List.length_cons] at hPl
    refine za_l (p := q) (p2 := q2) (m1 m0) m0 (by rw [List.length_map, hsz]; simp only [List.length_cons, List.length_nil]; omega) fun q3 => ?_
    refine zs_fld cl_BitFloor na_BitFloor_planes (zw_sl ?_)
    refine zw_frz ?_
    walk_at "zq"
    refine ⟨q3, _, _, rfl, .here, ?_⟩
    walk_at "zq"
    refine zw_fld cl_BitFloor na_BitFloor_states ?_
    walk_at "zq"
    refine ⟨p, false, _, _, rfl, m1 (m1 m0), rfl, ?_⟩
    walk_at "zq"
    refine ⟨p, false, _, _, rfl, Nat.le_of_ble_eq_true rfl, .there (.there .here), ?_⟩
    refine ⟨rfl, ?_⟩
    rw [show (r.n : Int) - 1 = ((r.n - 1 : Nat) : Int) by have := hr2.n2; omega, cut_to]
    have e : ∀ x y : Nat, ([PyData.int (x : Int), .int (y : Int)] ++ intsD T).take (r.n - 1) = intsD ((x :: y :: T).take (r.n - 1)) := fun x y => by
      unfold intsD
      rw [List.map_take]
      rfl
    rw [e]
    exact m1 (m1 m0)
/-- how many ones there are in all -/
def sizeP (P : List Nat) : Nat := (P.map fun p => (MB.ones p).length).sum
theorem sum_cast (f : Nat → Nat) : ∀ P : List Nat, (P.map fun k => ((f k : Nat) : Int)).sum = (((P.map f).sum : Nat) : Int)
  | [] => rfl
  | a :: P => by rw [List.map_cons, List.sum_cons, List.map_cons, List.sum_cons, sum_cast f P, Int.natCast_add]
def R_bSize (fs : List (Str × ZV)) (ds : List PyData) (o : DOut) (fs' : List (Str × ZV)) : Prop := ∃ (r : Rl) (l t : Int) (h w : Nat) (P : List Nat), P.length ≤ 6 ∧ (∀ p ∈ P, (MB.binL p).length ≤ 16000000) ∧ fs = bitFs r l t h w P ∧ ds = [] ∧ o = .ok (.int (sizeP P : Nat)) ∧ fs' = fs
theorem ok_BitFloor_size {P : Program} {w : World} {K : Fg} {mg : Str → Option Value} {base : Heap} {f : Addr} {fd : FuncData} {C_BitFloor : Addr} (F : Fun K "size" "BitFloor.size" s_BitFloor_size f fd)
    (m_sum : mg "sum" = none)
    (na_BitFloor_planes : NoAttr K C_BitFloor "planes")
    (cl_BitFloor : Cls K C_BitFloor) :
    FnOk P w K mg base (L2.CX P w) 1 f fd ["self"] (spO K C_BitFloor 0 R_bSize) := by
  refine F.okX sc_BitFloor_size (fun vs H Q E h => len_O h) (fun cdv A outer s H vs Q E hr h => ⟨_, (pss_one (ps_ret (pe_callB (cr_sum rfl) (by rfl) m_sum bb_sum (pa_cons (pe_lc (own := [("plane", 1)]) rfl sc_BitFloor_size.nd (pi_list (pe_fld (pv 0) rfl)) (blkOk_by (N := N_BitFloor_size) (sc := defScope s_BitFloor_size) (by decide +kernel)) (fun _ _ _ _ _ => (pg_name (i := 1) sc_BitFloor_size.nd rfl (by first | exact Or.inl rfl | exact Or.inr rfl))) (fun _ _ _ _ _ => pts_nil) (fun _ _ _ _ _ => (show PE _ _ (tBM K "str" _ _ _) from (pe_bm PySem.F.plainAttrs_str PySem.F.slot_str_count PySem.F.type_str_count mt_count (pe_joined1 (pe_fmtB (pv 1) (pe_joined1 pe_str))) (pa_cons pe_str pa_nil))))) pa_nil)))),
    fn_O h fun p fs ds o fs2 hk hR => ?_⟩)
  try dsimp only [L2.cxOf]
  obtain ⟨r, l, t, h, w, P, hPl, hP, rfl, rfl, rfl, rfl⟩ := hR
  have hsz : (sizeLine : Nat) = 16777216 := sizeLine_eq
  walk_at "zfq"
  refine lcL_map P (fun (k : Nat) => .int (k : Int)) (fun (k : Nat) => .int (((MB.ones k).length : Nat) : Int)) ?_
  walk_at "zfq"
  refine ⟨rfl, by omega, fun c hc => ⟨_, _, ?_, zg_name, fun D acc => ?_⟩, ?_⟩
  · simp
  · have := hP c hc
    walk_at "zq"
    refine ⟨by rw [binS_len]; omega, ?_⟩
    walk_at "zq"
    rw [count_bin]
    exact ⟨rfl, rfl⟩
  · walk_at "zq"
    rw [show (P.map fun (k : Nat) => PyData.int (((MB.ones k).length : Nat) : Int)) = (P.map fun k => (((MB.ones k).length : Nat) : Int)).map .int by rw [List.map_map]; rfl]
    refine zc_sum ?_
    rw [sum_cast]
    exact ⟨⟨_, rfl, rfl⟩, m0⟩
/-- all cells that the planes show -/
def cellP (l t : Int) (h k b : Nat) : Cell := ⟨(b : Int) / (h : Int) + l, (b : Int) % (h : Int) + t, (k : Int) + 1⟩
def cellsP (l t : Int) (h : Nat) (P : List Nat) : Nat → List Cell
  | 0 => []
  | k + 1 => cellsP l t h P k ++ (MB.ones (P.getD k 0)).map (cellP l t h k)
def R_bBoard (fs : List (Str × ZV)) (ds : List PyData) (o : DOut) (fs' : List (Str × ZV)) : Prop := ∃ (r : Rl) (l t : Int) (h w : Nat) (P : List Nat), P.length ≤ 6 ∧ 1 ≤ h ∧ h ≤ 1000000 ∧ (∀ p ∈ P, (MB.binL p).length ≤ 1000000) ∧ fs = bitFs r l t h w P ∧ ds = [] ∧ o = .ok (.tuple ((sortI ((cellsP l t h P P.length).map Cell.r)).map rowD)) ∧ fs' = fs
theorem ones_len (p : Nat) : (MB.ones p).length ≤ (MB.binL p).length := onesTo_len p _
theorem cellsP_len {l t : Int} {h : Nat} {P : List Nat} (hP : ∀ p ∈ P, (MB.binL p).length ≤ 1000000) : ∀ k, k ≤ P.length → (cellsP l t h P k).length ≤ k * 1000000
  | 0, _ => Nat.zero_le _
  | k + 1, hk => by
    have := cellsP_len (l := l) (t := t) (h := h) hP k (by omega)
    have hg : P.getD k 0 ∈ P := by
      rw [List.getD_eq_getElem?_getD, List.getElem?_eq_getElem (by omega : k < P.length)]
      exact List.getElem_mem _
    have h1 := hP _ hg
    have h2 := ones_len (P.getD k 0)
    show (cellsP l t h P k ++ _).length ≤ _
    rw [List.length_append, List.length_map]
    omega
theorem ok_BitFloor_board {P : Program} {w : World} {K : Fg} {mg : Str → Option Value} {base : Heap} {f : Addr} {fd : FuncData} {C_BitFloor : Addr} (F : Fun K "board" "BitFloor.board" s_BitFloor_board f fd)
    (m_enumerate : mg "enumerate" = none)
    (na_BitFloor_planes : NoAttr K C_BitFloor "planes")
    (m_divmod : mg "divmod" = none)
    (na_BitFloor_high : NoAttr K C_BitFloor "high")
    (na_BitFloor_top : NoAttr K C_BitFloor "top")
    (na_BitFloor_left : NoAttr K C_BitFloor "left")
    (m_tuple : mg "tuple" = none)
    (m_sorted : mg "sorted" = none)
    (c__bits : Cal P w K mg base 1 "_bits" (spD K 1 R_bits))
    (cl_BitFloor : Cls K C_BitFloor) :
    FnOk P w K mg base (L2.CX P w) 2 f fd ["self"] (spO K C_BitFloor 0 R_bBoard) := by
  refine F.okX sc_BitFloor_board (fun vs H Q E h => len_O h) (fun cdv A outer s H vs Q E hr h => ⟨_, (pss_cons (ps_set (i := 1) sc_BitFloor_board.nd rfl (by first | exact Or.inl rfl | exact Or.inr rfl) (pe_lst pa_nil))
      (pss_cons (ps_for (passes_of rfl) rfl (pi_enum (by rfl) m_enumerate (pa_cons (pe_fld (pv 0) rfl) pa_nil)) (pg_tup rfl (pgs_cons (pg_name (i := 2) sc_BitFloor_board.nd rfl (by first | exact Or.inl rfl | exact Or.inr rfl)) (pgs_cons (pg_name (i := 3) sc_BitFloor_board.nd rfl (by first | exact Or.inl rfl | exact Or.inr rfl)) pgs_nil))) (pss_one (ps_for (passes_of rfl) rfl (pi_list (pe_cl c__bits hr (show 1 ≤ 1 by decide) passL (pa_cons (pv 3) pa_nil))) (pg_name (i := 4) sc_BitFloor_board.nd rfl (by first | exact Or.inl rfl | exact Or.inr rfl)) (pss_cons (ps_asg (pe_callB call_divmodW (by rfl) m_divmod bb_divmod (pa_cons (pv 4) (pa_cons (pe_fld (pv 0) rfl) pa_nil))) (pg_tup rfl (pgs_cons (pg_name (i := 5) sc_BitFloor_board.nd rfl (by first | exact Or.inl rfl | exact Or.inr rfl)) (pgs_cons (pg_name (i := 6) sc_BitFloor_board.nd rfl (by first | exact Or.inl rfl | exact Or.inr rfl)) pgs_nil))))
      (pss_one (ps_expr (pe_bm PySem.F.plainAttrs_list PySem.F.slot_list_append PySem.F.type_list_append mt_append (pv 1) (pa_cons (pe_tup (pa_cons (pe_op op_addA (pv 5) (pe_fld (pv 0) rfl)) (pa_cons (pe_op op_addA (pv 6) (pe_fld (pv 0) rfl)) (pa_cons (pe_op op_addA (pv 2) pe_int) pa_nil)))) pa_nil))))))))
      (pss_one (ps_ret (pe_callTy call_tuple_of (by rfl) m_tuple bt_tuple (pa_cons (pe_callB cr_sortC (by rfl) m_sorted bb_sorted (pa_cons (pv 1) pa_nil)) pa_nil)))))),
    fn_O h fun p fs ds o fs2 hk hR => ?_⟩)
  try dsimp only [L2.cxOf]
  obtain ⟨r, l, t, h, w, P, hPl, h1, hh, hP, rfl, rfl, rfl, rfl⟩ := hR
  have hsz : (sizeLine : Nat) = 16777216 := sizeLine_eq
  walk_at "zfq"
  refine zw_lstC ?_
  walk_at "zfq"
  refine ⟨[], rfl, Nat.zero_le _, fun q => ?_⟩
  walk_at "zfq"
  have hlen := cellsP_len (l := l) (t := t) (h := h) hP
  have hlow : ∀ k, k ≤ P.length → (cellsP l t h P k).length ≤ 6000000 := fun k hk => by have := hlen k hk; omega
  refine ⟨fun i S2 M2 => ∃ (c2 c3 c4 c5 c6 : Option ZV), S2 = [some (.c p), some (.c q), c2, c3, c4, c5, c6] ∧ M2 = [(q, true, .lst ((cellsP l t h P i).map Cell.d)), (p, false, .obj C_BitFloor (bitFs r l t h w P))], ⟨_, _, _, _, _, rfl, rfl⟩, ?_, ?_⟩
  · rintro i v S2 M2 hv ⟨c2, c3, c4, c5, c6, rfl, rfl⟩
    rw [List.getElem?_map] at hv
    obtain ⟨x, hx, rfl⟩ := Option.map_eq_some_iff.mp hv
    have hil := (List.getElem?_eq_some_iff.mp hx).1
    have hPx := hP x (List.mem_of_getElem? hx)
    have hox := ones_len x
    have hg : P.getD i 0 = x := by rw [List.getD_eq_getElem?_getD, hx]; rfl
    have hli := hlow i (by omega)
    refine ⟨_, _, zg_tup rfl (zgs_cons (zgs_cons zgs_nil)), ?_⟩
    walk_at "zq"
    refine ⟨_, _, by walk_at "zd", rfl, ⟨x, rfl, by omega, rfl⟩, ?_⟩
    walk_at "zq"
    refine ⟨fun j S2 M2 => ∃ (c4 c5 c6 : Option ZV), S2 = [some (.c p), some (.c q), some (.d (.int (i : Int))), some (.d (.int (x : Int))), c4, c5, c6] ∧ M2 = [(q, true, .lst ((cellsP l t h P i ++ ((MB.ones x).take j).map (cellP l t h i)).map Cell.d)), (p, false, .obj C_BitFloor (bitFs r l t h w P))], ⟨_, _, _, rfl, by simp⟩, ?_, ?_⟩
    · rintro j u S2 M2 hu ⟨c4, c5, c6, rfl, rfl⟩
      rw [List.getElem?_map] at hu
      obtain ⟨b, hb, rfl⟩ := Option.map_eq_some_iff.mp hu
      have hjl := (List.getElem?_eq_some_iff.mp hb).1
      have hbl : b < (MB.binL x).length := by
        rcases Nat.lt_or_ge b (MB.binL x).length with z | z
        · exact z
        · have := (MB.mem_ones x b).mp (List.mem_of_getElem? hb)
          rw [MB.binL_off x b z] at this; cases this
      refine ⟨_, _, zg_name, ?_⟩
      walk_at "zfq"
      refine zc_divmod (divp_small (by omega) (by rw [Int.natAbs_natCast]; exact Nat.lt_of_lt_of_le (show b < 2 ^ 20 by omega) (Nat.pow_le_pow_right (by decide) (by decide)))) ?_
      walk_at "zz"
      refine ⟨_, _, zg_tup rfl (zgs_cons (zgs_cons zgs_nil)), ?_⟩
      walk_at "zz"
      refine zw_append ?_
      walk_at "zz"
      refine ⟨q, rfl, ⟨_, _, m0⟩, ?_⟩
      walk_at "zfq"
      walk_at "zt"
      refine ⟨_, true, _, _, rfl, .here, ?_, ?_⟩
      · rw [List.length_map, List.length_append, List.length_map, List.length_take]; omega
      refine ⟨_, _, _, rfl, ?_⟩
      rw [List.take_succ, hb, List.map_append, List.map_append, List.map_append, List.map_append, List.append_assoc]
      rfl
    · rintro S2 M2 ⟨c4, c5, c6, rfl, rfl⟩
      refine ⟨some (.d (.int (i : Int))), some (.d (.int (x : Int))), c4, c5, c6, rfl, ?_⟩
      rw [List.length_map, List.take_length]
      show _ = [(q, true, CD.lst ((cellsP l t h P i ++ (MB.ones (P.getD i 0)).map (cellP l t h i)).map Cell.d)), _]
      rw [hg]
  · rintro S2 M2 ⟨c2, c3, c4, c5, c6, rfl, rfl⟩
    rw [List.length_map]
    refine zs_ret (zw_cb (za_cons (zw_cb (za_cons (zw_frz ?_)))))
    walk_at "zq"
    refine ⟨q, _, _, rfl, .here, ?_⟩
    walk_at "zq"
    rw [← rows_d]
    refine zc_sortL (fun r hr => rows_ne hr) ?_
    walk_at "zq"
    refine zc_tupL ?_
    exact ⟨⟨_, rfl, rfl⟩, m0⟩
/-! ### the floor of an empty board -/
def cellFs (r : Rl) : List (Str × ZV) := [("births", .d (natsD r.b)), ("stays", .d (natsD r.s)), ("states", .d (.int (r.n : Int))), ("cells", .f [])]
def R_cInit (fs : List (Str × ZV)) (ds : List PyData) (o : DOut) (fs' : List (Str × ZV)) : Prop := ∃ r : Rl, fs = [] ∧ ds = [r.d, bD []] ∧ o = .ok .none ∧ fs' = cellFs r
theorem ok_CellFloor_init {P : Program} {w : World} {K : Fg} {mg : Str → Option Value} {base : Heap} {f : Addr} {fd : FuncData} {C_CellFloor : Addr} (F : Fun K "__init__" "CellFloor.__init__" s_CellFloor_init f fd)
    (na_CellFloor_states : NoAttr K C_CellFloor "states")
    (na_CellFloor_stays : NoAttr K C_CellFloor "stays")
    (na_CellFloor_births : NoAttr K C_CellFloor "births")
    (na_CellFloor_cells : NoAttr K C_CellFloor "cells")
    (c_states_by_place : Cal P w K mg base 1 "states_by_place" (spE K 1 R_sbp))
    (cl_CellFloor : Cls K C_CellFloor) :
    FnOk P w K mg base (L2.CX P w) 2 f fd ["self", "rule", "board"] (spO K C_CellFloor 2 R_cInit) := by
  refine F.okX sc_CellFloor_init (fun vs H Q E h => len_O h) (fun cdv A outer s H vs Q E hr h => ⟨_, (pss_cons (ps_asg (pv 1) (pg_tup rfl (pgs_cons (pg_fld (pv 0)) (pgs_cons (pg_fld (pv 0)) (pgs_cons (pg_fld (pv 0)) pgs_nil)))))
      (pss_one (ps_fld (pv 0) (pe_cl c_states_by_place hr (show 1 ≤ 1 by decide) passL (pa_cons (pv 2) pa_nil)) rfl))),
    fn_O h fun p fs ds o fs2 hk hR => ?_⟩)
  try dsimp only [L2.cxOf]
  obtain ⟨r, rfl, rfl, rfl, rfl⟩ := hR
  walk_at "zfq"
  refine zh_tup rfl (zhs_cons (zh_fld cl_CellFloor na_CellFloor_births rfl (Nat.le_of_ble_eq_true rfl) .here (zhs_cons (zh_fld cl_CellFloor na_CellFloor_stays rfl (Nat.le_of_ble_eq_true rfl) .here (zhs_cons (zh_fld cl_CellFloor na_CellFloor_states rfl (Nat.le_of_ble_eq_true rfl) .here (zhs_nil ?_)))))))
  refine zs_frzD (N := fun S2 M2 => ∃ q : Addr, M2 = [(q, true, .dT []), (p, false, .obj C_CellFloor [("births", .d (natsD r.b)), ("stays", .d (natsD r.s)), ("states", .d (.int (r.n : Int))), ("cells", .c q)])]) ?_ ?_
  · walk_at "zfq"
    refine ⟨_, _, by walk_at "zd", rfl, ⟨[], rfl, Nat.zero_le _, rfl⟩, fun q => ?_⟩
    walk_at "zq"
    refine ⟨p, false, _, _, rfl, Nat.le_of_ble_eq_true rfl, .there .here, ?_⟩
    exact ⟨q, rfl⟩
  · rintro S2 M2 ⟨q, rfl⟩
    exact ⟨q, [], _, p, false, C_CellFloor, _, "cells", _, .here, rfl, .here, rfl, m0⟩
def R_pa (ds : List PyData) (o : DOut) : Prop := ∃ x y : Int, ds = [.int x, .int y] ∧ o = .ok (.tuple [pr (x - 1) (y - 1), pr x (y - 1), pr (x + 1) (y - 1), pr (x - 1) y, pr (x + 1) y, pr (x - 1) (y + 1), pr x (y + 1), pr (x + 1) (y + 1)])
theorem ok_places_around {P : Program} {w : World} {K : Fg} {mg : Str → Option Value} {base : Heap} {f : Addr} {fd : FuncData} (F : Fun K "_places_around" "_places_around" s_places_around f fd) :
    FnOk P w K mg base (L2.CX P w) 1 f fd ["x", "y"] (spD K 2 R_pa) := by
  refine F.okX sc_places_around (fun vs H Q E h => len_D h) (fun cdv A outer s H vs Q E hr h => ⟨_, (pss_one (ps_ret (pe_tup (pa_cons (pe_tup (pa_cons (pe_op op_sub (pv 0) pe_int) (pa_cons (pe_op op_sub (pv 1) pe_int) pa_nil))) (pa_cons (pe_tup (pa_cons (pv 0) (pa_cons (pe_op op_sub (pv 1) pe_int) pa_nil))) (pa_cons (pe_tup (pa_cons (pe_op op_addA (pv 0) pe_int) (pa_cons (pe_op op_sub (pv 1) pe_int) pa_nil))) (pa_cons (pe_tup (pa_cons (pe_op op_sub (pv 0) pe_int) (pa_cons (pv 1) pa_nil))) (pa_cons (pe_tup (pa_cons (pe_op op_addA (pv 0) pe_int) (pa_cons (pv 1) pa_nil))) (pa_cons (pe_tup (pa_cons (pe_op op_sub (pv 0) pe_int) (pa_cons (pe_op op_addA (pv 1) pe_int) pa_nil))) (pa_cons (pe_tup (pa_cons (pv 0) (pa_cons (pe_op op_addA (pv 1) pe_int) pa_nil))) (pa_cons (pe_tup (pa_cons (pe_op op_addA (pv 0) pe_int) (pa_cons (pe_op op_addA (pv 1) pe_int) pa_nil))) pa_nil))))))))))),
    fn_D h fun ds o hk hR => ?_⟩)
  try dsimp only [L2.cxOf]
  obtain ⟨x, y, rfl, rfl⟩ := hR
  walk_at "zq"
  walk_at "zt"
  walk_at "zq"
  walk_at "zt"
  walk_at "zq"
  walk_at "zt"
  walk_at "zq"
  walk_at "zt"
  walk_at "zq"
  walk_at "zt"
  walk_at "zq"
  walk_at "zt"
  walk_at "zq"
  walk_at "zt"
  walk_at "zq"
  walk_at "zt"
  walk_at "zq"
  walk_at "zt"
  first | rfl | exact ⟨_, rfl, rfl⟩
def R_around (fs : List (Str × ZV)) (ds : List PyData) (c : CD) : Prop := ∃ r : Rl, fs = cellFs r ∧ ds = [] ∧ c = .dT []
theorem ok_CellFloor_living_around {P : Program} {w : World} {K : Fg} {mg : Str → Option Value} {base : Heap} {f : Addr} {fd : FuncData} {C_CellFloor : Addr} (F : Fun K "_living_around" "CellFloor._living_around" s_CellFloor_living_around f fd)
    (na_CellFloor_cells : NoAttr K C_CellFloor "cells")
    (c__places_around : Cal P w K mg base 1 "_places_around" (spD K 2 R_pa))
    (cl_CellFloor : Cls K C_CellFloor) :
    FnOk P w K mg base (L2.CX P w) 2 f fd ["self"] (spH K C_CellFloor 0 R_around) := by
  refine F.okX sc_CellFloor_living_around (fun vs H Q E h => len_H h) (fun cdv A outer s H vs Q E hr h => ⟨_, (pss_cons (ps_set (i := 1) sc_CellFloor_living_around.nd rfl (by first | exact Or.inl rfl | exact Or.inr rfl) pe_dnewT)
      (pss_cons (ps_lock0 (ps_for (passes_of rfl) rfl (pi_items (pe_fld (pv 0) rfl)) (pg_tup rfl (pgs_cons (pg_tup rfl (pgs_cons (pg_name (i := 2) sc_CellFloor_living_around.nd rfl (by first | exact Or.inl rfl | exact Or.inr rfl)) (pgs_cons (pg_name (i := 3) sc_CellFloor_living_around.nd rfl (by first | exact Or.inl rfl | exact Or.inr rfl)) pgs_nil))) (pgs_cons (pg_name (i := 4) sc_CellFloor_living_around.nd rfl (by first | exact Or.inl rfl | exact Or.inr rfl)) pgs_nil))) (pss_one (ps_if (pt_cmpR (op_eqA hr.units) (pv 4) pe_int (nomark _)) (pss_one (ps_for (passes_of rfl) rfl (pi_tup (pe_cl c__places_around hr (show 1 ≤ 1 by decide) passL (pa_cons (pv 2) (pa_cons (pv 3) pa_nil)))) (pg_name (i := 5) sc_CellFloor_living_around.nd rfl (by first | exact Or.inl rfl | exact Or.inr rfl)) (pss_one (ps_dput (hu_of hr) (pv 1) (pv 5) (pe_op op_addA (pe_dget2 (hu_of hr) (pv 1) (pv 5) pe_int ⟨rfl, rfl, rfl, rfl⟩) pe_int) rfl)))) pss_nil))))
      (pss_one (ps_ret (pv 1))))),
    fn_H h fun p fs ds c hk hR => ?_⟩)
  try dsimp only [L2.cxOf]
  obtain ⟨r, rfl, rfl, rfl⟩ := hR
  walk_at "zfq"
  refine fun q => ?_
  walk_at "zz"
  refine zs_items0 cl_CellFloor na_CellFloor_cells rfl (m1 m0) rfl ?_
  walk_at "zq"
  exact ⟨m0, m1 m0⟩
def R_cAdv (fs : List (Str × ZV)) (ds : List PyData) (o : DOut) (fs' : List (Str × ZV)) : Prop := ∃ r : Rl, fs = cellFs r ∧ ds = [] ∧ o = .ok .none ∧ fs' = cellFs r
theorem ok_CellFloor_advance {P : Program} {w : World} {K : Fg} {mg : Str → Option Value} {base : Heap} {f : Addr} {fd : FuncData} {C_CellFloor : Addr} (F : Fun K "advance" "CellFloor.advance" s_CellFloor_advance f fd)
    (na_CellFloor_births : NoAttr K C_CellFloor "births")
    (na_CellFloor_cells : NoAttr K C_CellFloor "cells")
    (na_CellFloor_stays : NoAttr K C_CellFloor "stays")
    (na_CellFloor_states : NoAttr K C_CellFloor "states")
    (g_FAR : ∃ u, mg "FAR" = some u ∧ RelV (.int 1000000000000000000000000000000000000000000000000000000000000) u)
    (c_CellFloor_living_around : Mtd P w K mg base 2 C_CellFloor "_living_around" (spH K C_CellFloor 0 R_around))
    (cl_CellFloor : Cls K C_CellFloor) :
    FnOk P w K mg base (L2.CX P w) 4 f fd ["self"] (spO K C_CellFloor 0 R_cAdv) := by
  obtain ⟨f_CellFloor_living_around, fd_CellFloor_living_around, ps_CellFloor_living_around, G_CellFloor_living_around, M_CellFloor_living_around, B_CellFloor_living_around⟩ := c_CellFloor_living_around
  refine F.okX sc_CellFloor_advance (fun vs H Q E h => len_O h) (fun cdv A outer s H vs Q E hr h => ⟨_, (pss_cons (ps_set (i := 1) sc_CellFloor_advance.nd rfl (by first | exact Or.inl rfl | exact Or.inr rfl) (pe_meth0 (pv 0) cl_CellFloor M_CellFloor_living_around G_CellFloor_living_around (hr.mono (show 2 ≤ 3 by decide)) B_CellFloor_living_around .nil passL))
      (pss_cons (ps_set (i := 2) sc_CellFloor_advance.nd rfl (by first | exact Or.inl rfl | exact Or.inr rfl) pe_dnewT)
      (pss_cons (ps_lock (ps_for (passes_of rfl) rfl (pi_keys (pv 1)) (pg_name (i := 3) sc_CellFloor_advance.nd rfl (by first | exact Or.inl rfl | exact Or.inr rfl)) (pss_one (ps_if (PW.pt (pw_and (pt_cmp (pc_dnotin (hu_of hr) (pv 3) (pe_fld (pv 0) rfl))) (pw_and1 (pt_cmpR op_in_seq (pe_dget (hu_of hr) (pv 1) (pv 3) (fun _ _ => rfl)) (pe_fld (pv 0) rfl) (by rfl))))) (pss_one (ps_dput (hu_of hr) (pv 2) (pv 3) pe_int rfl)) pss_nil))))
      (pss_cons (ps_lock0 (ps_for (passes_of rfl) rfl (pi_items (pe_fld (pv 0) rfl)) (pg_tup rfl (pgs_cons (pg_name (i := 3) sc_CellFloor_advance.nd rfl (by first | exact Or.inl rfl | exact Or.inr rfl)) (pgs_cons (pg_name (i := 4) sc_CellFloor_advance.nd rfl (by first | exact Or.inl rfl | exact Or.inr rfl)) pgs_nil))) (pss_one (ps_if (PW.pt (pw_and (pt_cmpR (op_eqA hr.units) (pv 4) pe_int (nomark _)) (pw_and1 (pt_cmpR op_in_seq (pe_dget2 (hu_of hr) (pv 1) (pv 3) pe_int ⟨rfl, rfl, rfl, rfl⟩) (pe_fld (pv 0) rfl) (by rfl))))) (pss_one (ps_dput (hu_of hr) (pv 2) (pv 3) pe_int rfl)) (pss_one (ps_if (pt_cmpR op_lt (pe_op op_addA (pv 4) pe_int) (pe_fld (pv 0) rfl) (nomark _)) (pss_one (ps_dput (hu_of hr) (pv 2) (pv 3) (pe_op op_addA (pv 4) pe_int) rfl)) pss_nil))))))
      (pss_cons (ps_lock (ps_for (passes_of rfl) rfl (pi_keys (pv 2)) (pg_tup rfl (pgs_cons (pg_name (i := 5) sc_CellFloor_advance.nd rfl (by first | exact Or.inl rfl | exact Or.inr rfl)) (pgs_cons (pg_name (i := 6) sc_CellFloor_advance.nd rfl (by first | exact Or.inl rfl | exact Or.inr rfl)) pgs_nil))) (pss_one (ps_if (PW.pt (pw_or (pt_cmpR op_lt (pv 5) (pe_un un_neg (pe_glob (by rfl) g_FAR.choose_spec.1 g_FAR.choose_spec.2)) (nomark _)) (pw_or (pt_cmpR op_gt (pv 5) (pe_glob (by rfl) g_FAR.choose_spec.1 g_FAR.choose_spec.2) (nomark _)) (pw_or (pt_cmpR op_lt (pv 6) (pe_un un_neg (pe_glob (by rfl) g_FAR.choose_spec.1 g_FAR.choose_spec.2)) (nomark _)) (pw_or1 (pt_cmpR op_gt (pv 6) (pe_glob (by rfl) g_FAR.choose_spec.1 g_FAR.choose_spec.2) (nomark _))))))) (pss_one ps_never) pss_nil))))
      (pss_one (ps_fld (pv 0) (pv 2) rfl))))))),
    fn_O h fun p fs ds o fs2 hk hR => ?_⟩)
  try dsimp only [L2.cxOf]
  obtain ⟨r, rfl, rfl, rfl, rfl⟩ := hR
  walk_at "zfq"
  refine ⟨⟨_, _, m0, rfl⟩, ?_⟩
  walk_at "zz"
  refine ⟨false, _, _, _, by walk_at "zd", rfl, m0, ⟨r, rfl, rfl, rfl⟩, fun q => ?_⟩
  walk_at "zz"
  refine fun q2 => ?_
  walk_at "zz"
  refine zs_keys0 (i := 1) rfl (m1 m0) ?_
  walk_at "zz"
  refine zs_items0 cl_CellFloor na_CellFloor_cells rfl (m1 (m1 m0)) rfl ?_
  walk_at "zz"
  refine zs_keys0 (i := 2) rfl m0 ?_
  refine zs_frzD (N := fun S2 M2 => M2 = [(q2, true, .dT []), (q, true, .dT []), (p, false, .obj C_CellFloor [("births", .d (natsD r.b)), ("stays", .d (natsD r.s)), ("states", .d (.int (r.n : Int))), ("cells", .c q2)])]) ?_ ?_
  · refine zs_fld cl_CellFloor na_CellFloor_cells ?_
    walk_at "zz"
    refine ⟨p, false, _, _, rfl, Nat.le_of_ble_eq_true rfl, .there (.there .here), ?_⟩
    rfl
  · rintro S2 M2 rfl
    exact ⟨q2, [], _, p, false, C_CellFloor, _, "cells", _, .here, rfl, .there .here, rfl, m1 m0⟩
def R_cSize (fs : List (Str × ZV)) (ds : List PyData) (o : DOut) (fs' : List (Str × ZV)) : Prop := ∃ r : Rl, fs = cellFs r ∧ ds = [] ∧ o = .ok (.int 0) ∧ fs' = fs
theorem ok_CellFloor_size {P : Program} {w : World} {K : Fg} {mg : Str → Option Value} {base : Heap} {f : Addr} {fd : FuncData} {C_CellFloor : Addr} (F : Fun K "size" "CellFloor.size" s_CellFloor_size f fd)
    (m_len : mg "len" = none)
    (na_CellFloor_cells : NoAttr K C_CellFloor "cells")
    (cl_CellFloor : Cls K C_CellFloor) :
    FnOk P w K mg base (L2.CX P w) 1 f fd ["self"] (spO K C_CellFloor 0 R_cSize) := by
  refine F.okX sc_CellFloor_size (fun vs H Q E h => len_O h) (fun cdv A outer s H vs Q E hr h => ⟨_, (pss_one (ps_ret (pe_callB call_len0 (by rfl) m_len bb_len (pa_cons (pe_fld (pv 0) rfl) pa_nil)))),
    fn_O h fun p fs ds o fs2 hk hR => ?_⟩)
  try dsimp only [L2.cxOf]
  obtain ⟨r, rfl, rfl, rfl, rfl⟩ := hR
  walk_at "zfq"
  refine zc_len0 ?_
  exact ⟨⟨_, rfl, rfl⟩, m0⟩
theorem sortI_nil : sortI [] = [] := by unfold sortI; simp
def R_cBoard (fs : List (Str × ZV)) (ds : List PyData) (o : DOut) (fs' : List (Str × ZV)) : Prop := ∃ r : Rl, fs = cellFs r ∧ ds = [] ∧ o = .ok (bD []) ∧ fs' = fs
theorem ok_CellFloor_board {P : Program} {w : World} {K : Fg} {mg : Str → Option Value} {base : Heap} {f : Addr} {fd : FuncData} {C_CellFloor : Addr} (F : Fun K "board" "CellFloor.board" s_CellFloor_board f fd)
    (m_tuple : mg "tuple" = none)
    (m_sorted : mg "sorted" = none)
    (na_CellFloor_cells : NoAttr K C_CellFloor "cells")
    (cl_CellFloor : Cls K C_CellFloor) :
    FnOk P w K mg base (L2.CX P w) 1 f fd ["self"] (spO K C_CellFloor 0 R_cBoard) := by
  refine F.okX sc_CellFloor_board (fun vs H Q E h => len_O h) (fun cdv A outer s H vs Q E hr h => ⟨_, (pss_one (ps_ret (pe_callTy call_tuple_of (by rfl) m_tuple bt_tuple (pa_cons (pe_callB cr_sortC (by rfl) m_sorted bb_sorted (pa_cons (pe_lock0 (pe_lc (own := [("state", 3), ("x", 1), ("y", 2)]) rfl sc_CellFloor_board.nd (pi_items (pe_fld (pv 0) rfl)) (blkOk_by (N := N_CellFloor_board) (sc := defScope s_CellFloor_board) (by decide +kernel)) (fun _ _ _ _ _ => (show PG _ _ (gTup K 2 _) from (pg_tup rfl (pgs_cons (show PG _ _ (gTup K 2 _) from (pg_tup rfl (pgs_cons (pg_name (i := 1) sc_CellFloor_board.nd rfl (by first | exact Or.inl rfl | exact Or.inr rfl)) (pgs_cons (pg_name (i := 2) sc_CellFloor_board.nd rfl (by first | exact Or.inl rfl | exact Or.inr rfl)) pgs_nil)))) (pgs_cons (pg_name (i := 3) sc_CellFloor_board.nd rfl (by first | exact Or.inl rfl | exact Or.inr rfl)) pgs_nil))))) (fun _ _ _ _ _ => pts_nil) (fun _ _ _ _ _ => (pe_tup (pa_cons (pv 1) (pa_cons (pv 2) (pa_cons (pv 3) pa_nil))))))) pa_nil)) pa_nil)))),
    fn_O h fun p fs ds o fs2 hk hR => ?_⟩)
  try dsimp only [L2.cxOf]
  obtain ⟨r, rfl, rfl, rfl, rfl⟩ := hR
  walk_at "zz"
  refine zw_items0 cl_CellFloor na_CellFloor_cells rfl m0 rfl ?_
  walk_at "zq"
  refine zc_sortL (rows := []) (fun r hr => (nomatch hr)) ?_
  walk_at "zq"
  refine zc_tupL ?_
  rw [sortI_nil]
  exact ⟨⟨_, rfl, rfl⟩, m0⟩
/-! ### a board that is stepped -/
def R_floorOf (CB CC : Addr) (ds : List PyData) (C : Addr) (fs : List (Str × ZV)) : Prop := (∃ r b x0 y0 x1 y1, ds = [Rl.d r, bD b] ∧ Rule r ∧ Board b ∧ Fit b x0 y0 x1 y1 ∧ C = CB ∧
    fs = bitFs r (x0 - 12) (y0 - 12) (y1 - y0 + 25).toNat (2 ^ ((x1 - x0 + 25).toNat * (y1 - y0 + 25).toNat) - 1) (planes0 (x0 - 12) (y0 - 12) (y1 - y0 + 25).toNat b)) ∨
  ∃ r : Rl, ds = [r.d, bD []] ∧ C = CC ∧ fs = cellFs r
theorem ok_floor_of {P : Program} {w : World} {K : Fg} {mg : Str → Option Value} {base : Heap} {f : Addr} {fd : FuncData} {C_BitFloor C_CellFloor : Addr} (F : Fun K "floor_of" "floor_of" s_floor_of f fd)
    (c__suits_bits : Cal P w K mg base 2 "_suits_bits" (spD K 1 R_suits))
    (c_BitFloor_init : Mkr P w K mg base 2 "BitFloor" C_BitFloor (spO K C_BitFloor 2 R_bInit))
    (c_CellFloor_init : Mkr P w K mg base 2 "CellFloor" C_CellFloor (spO K C_CellFloor 2 R_cInit)) :
    FnOk P w K mg base (L2.CX P w) 4 f fd ["rule", "board"] (spB K 2 (R_floorOf C_BitFloor C_CellFloor)) := by
  refine F.okX sc_floor_of (fun vs H Q E h => len_B h) (fun cdv A outer s H vs Q E hr h => ⟨_, (pss_cons (ps_if (PW.pt (pw_and (pt_truth (pv 1) (fun _ => rfl)) (pw_and1 (pt_val (pe_cl c__suits_bits hr (show 2 ≤ 3 by decide) passL (pa_cons (pv 1) pa_nil)) (fun _ => rfl))))) (pss_one (ps_ret (pe_mkr (j := 2) c_BitFloor_init (hr.mono (by decide)) (by decide) passL (pa_cons (pv 0) (pa_cons (pv 1) pa_nil))))) pss_nil)
      (pss_one (ps_ret (pe_mkr (j := 2) c_CellFloor_init (hr.mono (by decide)) (by decide) passL (pa_cons (pv 0) (pa_cons (pv 1) pa_nil)))))),
    fn_B h fun ds C2 fs hk hR => ?_⟩)
  try dsimp only [L2.cxOf]
  rcases hR with ⟨r, b, x0, y0, x1, y1, rfl, hr2, hb, hf, rfl, rfl⟩ | ⟨r, rfl, rfl, rfl⟩
  · obtain ⟨c, l, rfl⟩ : ∃ c l, b = c :: l := by cases b with | nil => exact absurd rfl hf.ne | cons c l => exact ⟨c, l, rfl⟩
    walk_at "zq"
    refine ⟨_, _, by walk_at "zd", rfl, ⟨c :: l, _, _, _, _, rfl, hf, rfl⟩, ?_⟩
    walk_at "zq"
    refine ⟨_, _, by walk_at "zd", rfl, ⟨r, c :: l, x0, y0, x1, y1, rfl, rfl, hr2, hb, hf, rfl, rfl⟩, fun q => ?_⟩
    exact ⟨q, rfl, m0⟩
  · walk_at "zq"
    refine ⟨_, _, by walk_at "zd", rfl, ⟨r, rfl, rfl, rfl, rfl⟩, fun q => ?_⟩
    exact ⟨q, rfl, m0⟩
abbrev runFs (r : Rl) (s m : Int) : FsF := fun q => [("rule", .d r.d), ("floor", .c q), ("spare", .d (.int s)), ("many", .d (.int m))]
def R_rInit (CB CC : Addr) (ds : List PyData) (fs : FsF) (cd : CD) : Prop := (∃ r b x0 y0 x1 y1, ds = [Rl.d r, bD b] ∧ Rule r ∧ Board b ∧ Fit b x0 y0 x1 y1 ∧ fs = runFs r 12 (b.length : Nat) ∧
    cd = .obj CB (bitFs r (x0 - 12) (y0 - 12) (y1 - y0 + 25).toNat (2 ^ ((x1 - x0 + 25).toNat * (y1 - y0 + 25).toNat) - 1) (planes0 (x0 - 12) (y0 - 12) (y1 - y0 + 25).toNat b))) ∨
  ∃ r : Rl, ds = [r.d, bD []] ∧ fs = runFs r 12 0 ∧ cd = .obj CC (cellFs r)
theorem ok_Run_init {P : Program} {w : World} {K : Fg} {mg : Str → Option Value} {base : Heap} {f : Addr} {fd : FuncData} {C_BitFloor C_CellFloor C_Run : Addr} (F : Fun K "__init__" "Run.__init__" s_Run_init f fd)
    (na_Run_rule : NoAttr K C_Run "rule")
    (na_Run_floor : NoAttr K C_Run "floor")
    (na_Run_spare : NoAttr K C_Run "spare")
    (g_SPARE : ∃ u, mg "SPARE" = some u ∧ RelV (.int 12) u)
    (na_Run_many : NoAttr K C_Run "many")
    (m_len : mg "len" = none)
    (c_floor_of : Cal P w K mg base 4 "floor_of" (spB K 2 (R_floorOf C_BitFloor C_CellFloor)))
    (cl_Run : Cls K C_Run) :
    FnOk P w K mg base (L2.CX P w) 5 f fd ["self", "rule", "board"] (spI K C_Run 2 (R_rInit C_BitFloor C_CellFloor)) := by
  refine F.okX sc_Run_init (fun vs H Q E h => len_I h) (fun cdv A outer s H vs Q E hr h => ⟨_, (pss_cons (ps_fld (pv 0) (pv 1) rfl)
      (pss_cons (ps_fld (pv 0) (pe_cl c_floor_of hr (show 4 ≤ 4 by decide) passL (pa_cons (pv 1) (pa_cons (pv 2) pa_nil))) rfl)
      (pss_cons (ps_fld (pv 0) (pe_glob (by rfl) g_SPARE.choose_spec.1 g_SPARE.choose_spec.2) rfl)
      (pss_one (ps_fld (pv 0) (pe_callB call_len (by rfl) m_len bb_len (pa_cons (pv 2) pa_nil)) rfl))))),
    fn_I h fun p ds fs cd hk hR => ?_⟩)
  try dsimp only [L2.cxOf]
  rcases hR with ⟨r, b, x0, y0, x1, y1, rfl, hr2, hb, hf, rfl, rfl⟩ | ⟨r, rfl, rfl, rfl⟩
  · walk_at "zfq"
    refine ⟨_, _, _, by walk_at "zd", rfl, .inl ⟨r, b, x0, y0, x1, y1, rfl, hr2, hb, hf, rfl, rfl⟩, fun q => ?_⟩
    walk_at "zfq"
    rw [List.length_map]
    exact ⟨q, .inr (List.Sublist.refl _)⟩
  · walk_at "zfq"
    refine ⟨_, _, _, by walk_at "zd", rfl, .inr ⟨r, rfl, rfl, rfl⟩, fun q => ?_⟩
    walk_at "zfq"
    exact ⟨q, .inr (List.Sublist.refl _)⟩
def R_rAdv (CB CC : Addr) (fs : FsF) (cd : CD) (ds : List PyData) (d : PyData) (fs' : FsF) (cd' : CD) : Prop := ∃ (r : Rl) (s m : Int), fs = runFs r s m ∧ ds = [] ∧ d = .none ∧ 1 ≤ s ∧ m ≤ 3000 ∧ ((∃ (l t : Int) (h n : Nat) (P : List Nat), Rule r ∧ P ≠ [] ∧ P.length ≤ 6 ∧ (∀ p ∈ P, p < 2 ^ n) ∧ n + h ≤ 10000000 ∧
    (MB.advP r.b (r.s.map (· + 1)) r.n h (2 ^ n - 1) P).length ≤ 6 ∧ (∀ p ∈ MB.advP r.b (r.s.map (· + 1)) r.n h (2 ^ n - 1) P, p < 2 ^ n) ∧
    cd = .obj CB (bitFs r l t h (2 ^ n - 1) P) ∧ cd' = .obj CB (bitFs r l t h (2 ^ n - 1) (MB.advP r.b (r.s.map (· + 1)) r.n h (2 ^ n - 1) P)) ∧
    fs' = runFs r (s - 1) (sizeP (MB.advP r.b (r.s.map (· + 1)) r.n h (2 ^ n - 1) P) : Nat)) ∨
  (cd = .obj CC (cellFs r) ∧ cd' = .obj CC (cellFs r) ∧ fs' = runFs r (s - 1) 0))
theorem binL_fits {p n : Nat} (h : p < 2 ^ n) : (MB.binL p).length ≤ n + 1 := by
  rw [MB.binL_len]
  rcases Nat.eq_zero_or_pos p with z | z
  · subst z; simp
  · have := (Nat.log2_lt (by omega : p ≠ 0)).mpr h
    omega
def R_rBoard (CB CC : Addr) (fs : FsF) (cd : CD) (ds : List PyData) (d : PyData) (fs' : FsF) (cd' : CD) : Prop := ∃ (r : Rl) (s m : Int), fs = runFs r s m ∧ ds = [] ∧ fs' = fs ∧ cd' = cd ∧ ((∃ (l t : Int) (h w : Nat) (P : List Nat), P.length ≤ 6 ∧ 1 ≤ h ∧ h ≤ 1000000 ∧ (∀ p ∈ P, (MB.binL p).length ≤ 1000000) ∧ cd = .obj CB (bitFs r l t h w P) ∧
    d = .tuple ((sortI ((cellsP l t h P P.length).map Cell.r)).map rowD)) ∨ (cd = .obj CC (cellFs r) ∧ d = bD []))
theorem runFs_inj {r r' : Rl} {s s' m m' : Int} (h : runFs r s m = runFs r' s' m') : r.d = r'.d ∧ s = s' ∧ m = m' := by
  have h := congrFun h 0
  simp only [runFs, List.cons.injEq, Prod.mk.injEq, ZV.d.injEq, PyData.int.injEq, true_and, and_true] at h
  exact h
/-- one step, where need be on a floor laid anew -/
def R_rAdv2 (CB CC : Addr) (fs : FsF) (cd : CD) (ds : List PyData) (d : PyData) (fs' : FsF) (cd' : CD) : Prop := R_rAdv CB CC fs cd ds d fs' cd' ∨
  ∃ (r : Rl) (m : Int) (bi : List Cell) (C1 : Addr) (fs1 : List (Str × ZV)), fs = runFs r 0 m ∧ ds = [] ∧ d = .none ∧ m ≤ 3000 ∧ R_rBoard CB CC fs cd [] (bD bi) fs cd ∧ R_floorOf CB CC [r.d, bD bi] C1 fs1 ∧ R_rAdv CB CC (runFs r 12 m) (.obj C1 fs1) [] .none fs' cd'
theorem ok_Run_advance {P : Program} {w : World} {K : Fg} {mg : Str → Option Value} {base : Heap} {f : Addr} {fd : FuncData} {C_BitFloor C_CellFloor C_Run : Addr} (F : Fun K "advance" "Run.advance" s_Run_advance f fd)
    (na_Run_many : NoAttr K C_Run "many")
    (g_MOST_CELLS : ∃ u, mg "MOST_CELLS" = some u ∧ RelV (.int 3000) u)
    (na_Run_spare : NoAttr K C_Run "spare")
    (na_Run_floor : NoAttr K C_Run "floor")
    (na_Run_rule : NoAttr K C_Run "rule")
    (g_SPARE : ∃ u, mg "SPARE" = some u ∧ RelV (.int 12) u)
    (c_floor_of : Cal P w K mg base 4 "floor_of" (spB K 2 (R_floorOf C_BitFloor C_CellFloor)))
    (c_CellFloor_board : Mtd P w K mg base 1 C_CellFloor "board" (spO K C_CellFloor 0 R_cBoard))
    (c_BitFloor_board : Mtd P w K mg base 2 C_BitFloor "board" (spO K C_BitFloor 0 R_bBoard))
    (c_CellFloor_advance : Mtd P w K mg base 4 C_CellFloor "advance" (spO K C_CellFloor 0 R_cAdv))
    (c_BitFloor_advance : Mtd P w K mg base 3 C_BitFloor "advance" (spO K C_BitFloor 0 R_bAdv))
    (c_CellFloor_size : Mtd P w K mg base 1 C_CellFloor "size" (spO K C_CellFloor 0 R_cSize))
    (c_BitFloor_size : Mtd P w K mg base 1 C_BitFloor "size" (spO K C_BitFloor 0 R_bSize))
    (cl_BitFloor : Cls K C_BitFloor)
    (cl_CellFloor : Cls K C_CellFloor)
    (cl_Run : Cls K C_Run) :
    FnOk P w K mg base (L2.CX P w) 6 f fd ["self"] (spF K C_Run 0 (R_rAdv2 C_BitFloor C_CellFloor)) := by
  obtain ⟨f_CellFloor_board, fd_CellFloor_board, ps_CellFloor_board, G_CellFloor_board, M_CellFloor_board, B_CellFloor_board⟩ := c_CellFloor_board
  obtain ⟨f_BitFloor_board, fd_BitFloor_board, ps_BitFloor_board, G_BitFloor_board, M_BitFloor_board, B_BitFloor_board⟩ := c_BitFloor_board
  obtain ⟨f_CellFloor_advance, fd_CellFloor_advance, ps_CellFloor_advance, G_CellFloor_advance, M_CellFloor_advance, B_CellFloor_advance⟩ := c_CellFloor_advance
  obtain ⟨f_BitFloor_advance, fd_BitFloor_advance, ps_BitFloor_advance, G_BitFloor_advance, M_BitFloor_advance, B_BitFloor_advance⟩ := c_BitFloor_advance
  obtain ⟨f_CellFloor_size, fd_CellFloor_size, ps_CellFloor_size, G_CellFloor_size, M_CellFloor_size, B_CellFloor_size⟩ := c_CellFloor_size
  obtain ⟨f_BitFloor_size, fd_BitFloor_size, ps_BitFloor_size, G_BitFloor_size, M_BitFloor_size, B_BitFloor_size⟩ := c_BitFloor_size
  refine F.okX sc_Run_advance (fun vs H Q E h => len_F h) (fun cdv A outer s H vs Q E hr h => ⟨_, (pss_cons (ps_if (pt_cmpR op_gt (pe_fld (pv 0) rfl) (pe_glob (by rfl) g_MOST_CELLS.choose_spec.1 g_MOST_CELLS.choose_spec.2) (nomark _)) (pss_one ps_never) pss_nil)
      (pss_cons (ps_if (pt_cmpR (op_eqA hr.units) (pe_fld (pv 0) rfl) pe_int (nomark _)) (pss_cons (ps_fld (pv 0) (pe_cl c_floor_of hr (show 4 ≤ 5 by decide) passL (pa_cons (pe_fld (pv 0) rfl) (pa_cons (pe_or2 (pe_meth0 (pe_fld (pv 0) rfl) cl_BitFloor M_BitFloor_board G_BitFloor_board (hr.mono (show 2 ≤ 5 by decide)) B_BitFloor_board .nil passL)
        (pe_meth0 (pe_fld (pv 0) rfl) cl_CellFloor M_CellFloor_board G_CellFloor_board (hr.mono (show 1 ≤ 5 by decide)) B_CellFloor_board .nil passL)) pa_nil))) rfl)
      (pss_one (ps_fld (pv 0) (pe_glob (by rfl) g_SPARE.choose_spec.1 g_SPARE.choose_spec.2) rfl))) pss_nil)
      (pss_cons (ps_expr (pe_or2 (pe_meth0 (pe_fld (pv 0) rfl) cl_BitFloor M_BitFloor_advance G_BitFloor_advance (hr.mono (show 3 ≤ 5 by decide)) B_BitFloor_advance .nil passL)
        (pe_meth0 (pe_fld (pv 0) rfl) cl_CellFloor M_CellFloor_advance G_CellFloor_advance (hr.mono (show 4 ≤ 5 by decide)) B_CellFloor_advance .nil passL)))
      (pss_cons (ps_fldaug (pv 0) pe_int in_sub)
      (pss_one (ps_fld (pv 0) (pe_or2 (pe_meth0 (pe_fld (pv 0) rfl) cl_BitFloor M_BitFloor_size G_BitFloor_size (hr.mono (show 1 ≤ 5 by decide)) B_BitFloor_size .nil passL)
        (pe_meth0 (pe_fld (pv 0) rfl) cl_CellFloor M_CellFloor_size G_CellFloor_size (hr.mono (show 1 ≤ 5 by decide)) B_CellFloor_size .nil passL)) rfl)))))),
    fn_F h fun p q fs cd ds d fs2 cd2 hk hR => ?_⟩)
  try dsimp only [L2.cxOf]
  have hmr : ∃ (r : Rl) (s m : Int), fs = runFs r s m ∧ ds = [] ∧ d = .none ∧ m ≤ 3000 ∧ ((1 ≤ s ∧ R_rAdv C_BitFloor C_CellFloor (runFs r s m) cd [] .none fs2 cd2) ∨
      (s = 0 ∧ ∃ (bi : List Cell) (C1 : Addr) (fs1 : List (Str × ZV)), R_rBoard C_BitFloor C_CellFloor (runFs r 0 m) cd [] (bD bi) (runFs r 0 m) cd ∧ R_floorOf C_BitFloor C_CellFloor [r.d, bD bi] C1 fs1 ∧ R_rAdv C_BitFloor C_CellFloor (runFs r 12 m) (.obj C1 fs1) [] .none fs2 cd2)) := by
    rcases hR with hA | ⟨r, m, bi, C1, fs1, rfl, rfl, rfl, h4, hB, hF, hA⟩
    · obtain ⟨r, s, m, rfl, rfl, rfl, h3, h4, _⟩ := id hA
      exact ⟨r, s, m, rfl, rfl, rfl, h4, .inl ⟨h3, hA⟩⟩
    · exact ⟨r, 0, m, rfl, rfl, rfl, h4, .inr ⟨rfl, bi, C1, fs1, hB, hF, hA⟩⟩
  clear hR
  obtain ⟨r, s, m, rfl, rfl, rfl, hm, hc⟩ := hmr
  walk_at "zfq"
  rw [decide_eq_false (show ¬ (3000 < m) by omega)]
  iterate 3 (first | walk_at "zf" | walk_at "z" | walk_at "ze")
  refine zs_nx (N := fun S2 M2 => S2 = [some (.c p)] ∧ ∃ (q' : Addr) (bq : Bool) (s' : Int) (cd1 : CD), Two (p, false, .obj C_Run (runFs r s' m q')) (q', bq, cd1) M2 ∧ R_rAdv C_BitFloor C_CellFloor (runFs r s' m) cd1 [] .none fs2 cd2) ?_ ?_
  · rcases hc with ⟨hs, hA⟩ | ⟨rfl, bi, C1, fs1, hB, hF, hA⟩
    · walk_at "zfq"
      rw [decide_eq_false (show ¬ (s = 0) by omega)]
      walk_at "zfq"
      exact ⟨rfl, q, false, s, cd, .inl (List.Sublist.refl _), hA⟩
    · walk_at "zfq"
      obtain ⟨r1, s1, m1', _, _, _, _, hB⟩ := hB
      rcases hB with ⟨l, t, h, w, P, hPl, h1, hh, hP, rfl, e⟩ | ⟨rfl, e⟩
      · refine zw_orl ?_
        walk_at "zfq"
        refine ⟨⟨_, _, m1 m0, rfl⟩, ?_⟩
        walk_at "zz"
        refine ⟨false, _, _, _, _, _, by walk_at "zd", rfl, ⟨r1, l, t, h, w, P, hPl, h1, hh, hP, rfl, rfl, rfl, rfl⟩, .there .here, ?_⟩
        rw [← e]
        walk_at "zfq"
        refine ⟨_, _, _, by walk_at "zd", rfl, hF, fun q2 => ?_⟩
        walk_at "zfq"
        exact ⟨rfl, q2, true, 12, _, .inr (.cons₂ _ (.cons₂ _ (.cons _ .slnil))), hA⟩
      · refine zw_orr ?_
        walk_at "zfq"
        refine ⟨⟨_, _, m1 m0, rfl⟩, ?_⟩
        walk_at "zz"
        refine ⟨false, _, _, _, _, _, by walk_at "zd", rfl, ⟨r1, rfl, rfl, rfl, rfl⟩, .there .here, ?_⟩
        rw [← e]
        walk_at "zfq"
        refine ⟨_, _, _, by walk_at "zd", rfl, hF, fun q2 => ?_⟩
        walk_at "zfq"
        exact ⟨rfl, q2, true, 12, _, .inr (.cons₂ _ (.cons₂ _ (.cons _ .slnil))), hA⟩
  rintro S2 M2 ⟨rfl, q', bq, s', cd1, h2, hA⟩
  refine zs_two h2 ?_
  clear h2 hc hm cd q
  obtain ⟨r2, s2, m2, e2, _, _, hs, hm, hc⟩ := hA
  obtain ⟨_, rfl, rfl⟩ := runFs_inj e2
  rw [e2]
  clear e2
  rcases hc with ⟨l, t, h, n, P, hr2, hne, hPl, hP, hn, hQl, hQ, rfl, rfl, rfl⟩ | ⟨rfl, rfl, rfl⟩
  · refine zs_seq (zs_drop (zw_orl ?_))
    walk_at "zfq"
    refine ⟨⟨_, _, m1 m0, rfl⟩, ?_⟩
    walk_at "zz"
    refine ⟨bq, _, _, _, _, _, by walk_at "zd", rfl, ⟨r2, l, t, h, n, P, hr2, hne, hPl, hP, hn, rfl, rfl, rfl, rfl⟩, .there .here, ?_⟩
    walk_at "zz"
    refine zs_fldsub cl_Run na_Run_spare ?_
    walk_at "zz"
    refine ⟨p, s', rfl, ⟨_, _, m0, rfl⟩, ?_⟩
    walk_at "zz"
    refine ⟨1, false, _, _, rfl, Nat.le_of_ble_eq_true rfl, .here, ?_⟩
    walk_at "zz"
    refine zs_fld cl_Run na_Run_many (zw_orl ?_)
    walk_at "zfq"
    refine ⟨⟨_, _, m1 m0, rfl⟩, ?_⟩
    walk_at "zz"
    refine ⟨bq, _, _, _, _, _, by walk_at "zd", rfl, ⟨r2, l, t, h, _, _, hQl, fun p hp => ?_, rfl, rfl, rfl, rfl⟩, .there .here, ?_⟩
    · have := binL_fits (hQ p hp)
      omega
    walk_at "zfq"
    exact ⟨rfl, q', bq, .inl (List.Sublist.refl _)⟩
  · refine zs_seq (zs_drop (zw_orr ?_))
    walk_at "zfq"
    refine ⟨⟨_, _, m1 m0, rfl⟩, ?_⟩
    walk_at "zz"
    refine ⟨bq, _, _, _, _, _, by walk_at "zd", rfl, ⟨r2, rfl, rfl, rfl, rfl⟩, .there .here, ?_⟩
    walk_at "zz"
    refine zs_fldsub cl_Run na_Run_spare ?_
    walk_at "zz"
    refine ⟨p, s', rfl, ⟨_, _, m0, rfl⟩, ?_⟩
    walk_at "zz"
    refine ⟨1, false, _, _, rfl, Nat.le_of_ble_eq_true rfl, .here, ?_⟩
    walk_at "zz"
    refine zs_fld cl_Run na_Run_many (zw_orr ?_)
    walk_at "zfq"
    refine ⟨⟨_, _, m1 m0, rfl⟩, ?_⟩
    walk_at "zz"
    refine ⟨bq, _, _, _, _, _, by walk_at "zd", rfl, ⟨r2, rfl, rfl, rfl, rfl⟩, .there .here, ?_⟩
    walk_at "zfq"
    exact ⟨rfl, q', bq, .inl (List.Sublist.refl _)⟩
theorem ok_Run_board {P : Program} {w : World} {K : Fg} {mg : Str → Option Value} {base : Heap} {f : Addr} {fd : FuncData} {C_BitFloor C_CellFloor C_Run : Addr} (F : Fun K "board" "Run.board" s_Run_board f fd)
    (na_Run_floor : NoAttr K C_Run "floor")
    (c_CellFloor_board : Mtd P w K mg base 1 C_CellFloor "board" (spO K C_CellFloor 0 R_cBoard))
    (c_BitFloor_board : Mtd P w K mg base 2 C_BitFloor "board" (spO K C_BitFloor 0 R_bBoard))
    (cl_BitFloor : Cls K C_BitFloor)
    (cl_CellFloor : Cls K C_CellFloor)
    (cl_Run : Cls K C_Run) :
    FnOk P w K mg base (L2.CX P w) 3 f fd ["self"] (spF K C_Run 0 (R_rBoard C_BitFloor C_CellFloor)) := by
  obtain ⟨f_CellFloor_board, fd_CellFloor_board, ps_CellFloor_board, G_CellFloor_board, M_CellFloor_board, B_CellFloor_board⟩ := c_CellFloor_board
  obtain ⟨f_BitFloor_board, fd_BitFloor_board, ps_BitFloor_board, G_BitFloor_board, M_BitFloor_board, B_BitFloor_board⟩ := c_BitFloor_board
  refine F.okX sc_Run_board (fun vs H Q E h => len_F h) (fun cdv A outer s H vs Q E hr h => ⟨_, (pss_one (ps_ret (pe_or2 (pe_meth0 (pe_fld (pv 0) rfl) cl_BitFloor M_BitFloor_board G_BitFloor_board (hr.mono (show 2 ≤ 2 by decide)) B_BitFloor_board .nil passL)
        (pe_meth0 (pe_fld (pv 0) rfl) cl_CellFloor M_CellFloor_board G_CellFloor_board (hr.mono (show 1 ≤ 2 by decide)) B_CellFloor_board .nil passL)))),
    fn_F h fun p q fs cd ds d fs2 cd2 hk hR => ?_⟩)
  try dsimp only [L2.cxOf]
  obtain ⟨r, s, m, rfl, rfl, rfl, rfl, hc⟩ := hR
  walk_at "zfq"
  rcases hc with ⟨l, t, h, w, P, hPl, h1, hh, hP, rfl, rfl⟩ | ⟨rfl, rfl⟩
  · refine zw_orl ?_
    walk_at "zfq"
    refine ⟨⟨_, _, m1 m0, rfl⟩, ?_⟩
    walk_at "zz"
    refine ⟨false, _, _, _, _, _, by walk_at "zd", rfl, ⟨r, l, t, h, w, P, hPl, h1, hh, hP, rfl, rfl, rfl, rfl⟩, .there .here, ?_⟩
    exact ⟨rfl, q, false, .inl (List.Sublist.refl _)⟩
  · refine zw_orr ?_
    walk_at "zfq"
    refine ⟨⟨_, _, m1 m0, rfl⟩, ?_⟩
    walk_at "zz"
    refine ⟨false, _, _, _, _, _, by walk_at "zd", rfl, ⟨r, rfl, rfl, rfl, rfl⟩, .there .here, ?_⟩
    exact ⟨rfl, q, false, .inl (List.Sublist.refl _)⟩
/-! ### boards as what they hold -/
open MB (Fl next nextS nb liv Rep)
abbrev lt2 (a b : Cell) : Prop := a.x < b.x ∨ (a.x = b.x ∧ a.y < b.y)
def isAt (x y : Int) (c : Cell) : Bool := decide (c.x = x) && decide (c.y = y)
theorem isAt_iff {x y : Int} {c : Cell} : isAt x y c = true ↔ c.x = x ∧ c.y = y := by
  unfold isAt
  rw [Bool.and_eq_true, decide_eq_true_iff, decide_eq_true_iff]
/-- the state that a board has at a place -/
def stOf (b : List Cell) : Fl := fun x y => match b.find? (isAt x y) with | some c => c.s | none => 0
structure Told (f : Fl) (b : List Cell) : Prop where
  up : b.Pairwise lt2
  mem : ∀ c : Cell, c ∈ b ↔ (f c.x c.y = c.s ∧ c.s ≠ 0)
theorem cell_eta {a b : Cell} (h1 : a.x = b.x) (h2 : a.y = b.y) (h3 : a.s = b.s) : a = b := by cases a; cases b; simp_all
theorem up_inj {b : List Cell} (h : b.Pairwise lt2) {a c : Cell} (ha : a ∈ b) (hc : c ∈ b) (hx : a.x = c.x) (hy : a.y = c.y) : a = c := by
  obtain ⟨i, hi⟩ := List.mem_iff_getElem?.mp ha
  obtain ⟨j, hj⟩ := List.mem_iff_getElem?.mp hc
  rcases Nat.lt_trichotomy i j with z | z | z
  · have := pw_at h z hi hj; omega
  · subst z; rw [hi] at hj; exact Option.some.inj hj
  · have := pw_at h z hj hi; omega
theorem up_nodup {b : List Cell} (h : b.Pairwise lt2) : b.Nodup := h.imp fun hab e => by subst e; omega
theorem st_some {b : List Cell} (h : b.Pairwise lt2) {c : Cell} (hc : c ∈ b) : stOf b c.x c.y = c.s := by
  unfold stOf
  cases hf : b.find? (isAt c.x c.y) with
  | none => exact absurd (isAt_iff.mpr ⟨rfl, rfl⟩) (List.find?_eq_none.mp hf c hc)
  | some e =>
    have h1 := isAt_iff.mp (List.find?_some hf)
    rw [up_inj h (List.mem_of_find?_eq_some hf) hc h1.1 h1.2]
theorem st_none {b : List Cell} {x y : Int} (h : ∀ c ∈ b, ¬ (c.x = x ∧ c.y = y)) : stOf b x y = 0 := by
  unfold stOf
  cases hf : b.find? (isAt x y) with
  | none => rfl
  | some e => exact absurd (isAt_iff.mp (List.find?_some hf)) (h e (List.mem_of_find?_eq_some hf))
theorem st_mem {b : List Cell} {x y : Int} (h : stOf b x y ≠ 0) : (⟨x, y, stOf b x y⟩ : Cell) ∈ b := by
  unfold stOf at h ⊢
  cases hf : b.find? (isAt x y) with
  | none => rw [hf] at h; exact absurd rfl h
  | some e =>
    have h1 := isAt_iff.mp (List.find?_some hf)
    have : (⟨x, y, e.s⟩ : Cell) = e := cell_eta h1.1.symm h1.2.symm rfl
    show (⟨x, y, e.s⟩ : Cell) ∈ b
    rw [this]
    exact List.mem_of_find?_eq_some hf
theorem told_board {b : List Cell} (h : Board b) : Told (stOf b) b := by
  refine ⟨h.up, fun c => ⟨fun hc => ⟨st_some h.up hc, ?_⟩, fun hc => ?_⟩⟩
  · have := (h.ok c hc).2.2.1; omega
  · have := st_mem (b := b) (x := c.x) (y := c.y) (by rw [hc.1]; exact hc.2)
    rw [hc.1] at this
    exact this
theorem told_st {f : Fl} {b : List Cell} (h : Told f b) : stOf b = f := by
  funext x y
  by_cases z : f x y = 0
  · rw [z]
    refine st_none fun c hc e => ?_
    obtain ⟨h1, h2⟩ := (h.mem c).mp hc
    rw [e.1, e.2, z] at h1
    exact h2 h1.symm
  · have hc := (h.mem ⟨x, y, f x y⟩).mpr ⟨rfl, z⟩
    exact st_some h.up hc
theorem told_perm {f : Fl} {b L : List Cell} (h : Told f b) (hn : L.Nodup) (hm : ∀ c, c ∈ L ↔ (f c.x c.y = c.s ∧ c.s ≠ 0)) : b.Perm L :=
  (List.perm_ext_iff_of_nodup (up_nodup h.up) hn).mpr fun c => (h.mem c).trans (hm c).symm
theorem leI_cells {a b : Cell} (h : lt2 a b) : leI a.r b.r = true := by
  unfold leI Cell.r
  simp only [List.map_cons, List.map_nil, PyProof.Rows.lexLt, PyProof.Rows.itemLt]
  rcases h with h | ⟨h1, h2⟩
  · have n1 : ¬ b.x < a.x := by omega
    have n2 : ¬ b.x = a.x := by omega
    simp [n1, n2, h]
  · have n1 : ¬ b.y < a.y := by omega
    have n2 : ¬ b.y = a.y := by omega
    rw [h1]
    simp [n1, n2, h2]
theorem told_sort {f : Fl} {b L : List Cell} (h : Told f b) (hn : L.Nodup) (hm : ∀ c, c ∈ L ↔ (f c.x c.y = c.s ∧ c.s ≠ 0)) : sortI (L.map Cell.r) = b.map Cell.r :=
  (sortI_uniq ((told_perm h hn hm).map _) (List.pairwise_map.mpr (h.up.imp leI_cells))).symm
theorem told_uniq {f : Fl} {a b : List Cell} (ha : Told f a) (hb : Told f b) : a = b :=
  List.Perm.eq_of_pairwise (le := lt2) (fun x y _ _ h1 h2 => by omega) ha.up hb.up (told_perm ha (up_nodup hb.up) hb.mem)
/-! ### a board out of a box -/
def boxL (f : Fl) (l t : Int) (W H : Nat) : List Cell := (List.range W).flatMap fun (i : Nat) => ((List.range H).map fun (j : Nat) => (⟨l + (i : Int), t + (j : Int), f (l + (i : Int)) (t + (j : Int))⟩ : Cell)).filter fun c => decide (c.s ≠ 0)
theorem mem_boxL {f : Fl} {l t : Int} {W H : Nat} {c : Cell} : c ∈ boxL f l t W H ↔ (l ≤ c.x ∧ c.x < l + W ∧ t ≤ c.y ∧ c.y < t + H) ∧ f c.x c.y = c.s ∧ c.s ≠ 0 := by
  unfold boxL
  simp only [List.mem_flatMap, List.mem_range, List.mem_filter, List.mem_map, decide_eq_true_iff]
  constructor
  · rintro ⟨i, hi, ⟨j, hj, rfl⟩, hs⟩
    exact ⟨⟨by dsimp only; omega, by dsimp only; omega, by dsimp only; omega, by dsimp only; omega⟩, rfl, hs⟩
  · rintro ⟨⟨h1, h2, h3, h4⟩, h5, h6⟩
    refine ⟨(c.x - l).toNat, by omega, ⟨(c.y - t).toNat, by omega, ?_⟩, h6⟩
    have e1 : l + ((c.x - l).toNat : Int) = c.x := by omega
    have e2 : t + ((c.y - t).toNat : Int) = c.y := by omega
    rw [e1, e2]
    exact cell_eta rfl rfl h5
theorem boxL_up (f : Fl) (l t : Int) (W H : Nat) : (boxL f l t W H).Pairwise lt2 := by
  unfold boxL
  rw [List.pairwise_flatMap]
  refine ⟨fun i _ => ?_, ?_⟩
  · refine List.Pairwise.filter _ ?_
    rw [List.pairwise_map]
    exact List.pairwise_lt_range.imp fun h => .inr ⟨rfl, by dsimp only; omega⟩
  · refine List.pairwise_lt_range.imp fun {a b} h x hx y hy => ?_
    obtain ⟨_, _, rfl⟩ := List.mem_map.mp (List.mem_filter.mp hx).1
    obtain ⟨_, _, rfl⟩ := List.mem_map.mp (List.mem_filter.mp hy).1
    exact .inl (by dsimp only; omega)
theorem boxL_len (f : Fl) (l t : Int) (H : Nat) : ∀ W : Nat, (boxL f l t W H).length ≤ W * H
  | 0 => Nat.zero_le _
  | W + 1 => by
    have := boxL_len f l t H W
    unfold boxL at this ⊢
    rw [List.range_succ, List.flatMap_append, List.length_append]
    simp only [List.flatMap_cons, List.flatMap_nil, List.append_nil]
    refine Nat.le_trans (Nat.add_le_add this (Nat.le_trans (List.length_filter_le _ _) (Nat.le_of_eq (by rw [List.length_map, List.length_range])))) ?_
    rw [Nat.add_mul]; omega
/-- all that is held lies in a box, and is a state -/
structure Sm (f : Fl) (l t : Int) (w h : Nat) : Prop where
  sup : ∀ x y, f x y ≠ 0 → l ≤ x ∧ x < l + w ∧ t ≤ y ∧ y < t + h
  rng : ∀ x y, 0 ≤ f x y ∧ f x y ≤ 5
theorem Sm.told {f : Fl} {l t : Int} {w h : Nat} (S : Sm f l t w h) : Told f (boxL f l t w h) :=
  ⟨boxL_up _ _ _ _ _, fun c => mem_boxL.trans ⟨fun z => z.2, fun z => ⟨S.sup c.x c.y (by rw [z.1]; exact z.2), z⟩⟩⟩
theorem Sm.len {f : Fl} {l t : Int} {w h : Nat} (S : Sm f l t w h) {b : List Cell} (T : Told f b) : b.length ≤ w * h := by
  rw [told_uniq T S.told]
  exact boxL_len _ _ _ _ _
/-- small and not beyond reach -/
structure Sml (f : Fl) (l t : Int) (w h : Nat) : Prop extends Sm f l t w h where
  near : -(2 ^ 120) ≤ l ∧ l ≤ 2 ^ 120 ∧ -(2 ^ 120) ≤ t ∧ t ≤ 2 ^ 120
  few : w ≤ 40 ∧ h ≤ 40
theorem Sml.len {f : Fl} {l t : Int} {w h : Nat} (S : Sml f l t w h) {b : List Cell} (T : Told f b) : b.length ≤ 1600 :=
  Nat.le_trans (S.toSm.len T) (Nat.mul_le_mul S.few.1 S.few.2)
theorem Sml.board {f : Fl} {l t : Int} {w h : Nat} (S : Sml f l t w h) {b : List Cell} (T : Told f b) : Board b := by
  have hn := S.near
  have hf := S.few
  refine ⟨Nat.le_trans (S.len T) (by decide), fun c hc => ?_, T.up⟩
  obtain ⟨h1, h2⟩ := (T.mem c).mp hc
  have hs := S.sup c.x c.y (by rw [h1]; exact h2)
  have hr := S.rng c.x c.y
  have hF : FAR = 10 ^ 60 := rfl
  unfold InFar
  rw [hF]
  omega
theorem min_ex : ∀ ns : List Int, ns ≠ [] → ∃ m, IsMin m ns
  | [], h => absurd rfl h
  | [a], _ => ⟨a, by simp, fun y hy => by have : y = a := by simpa using hy
                                          omega⟩
  | a :: b :: r, _ => by
    obtain ⟨m, h1, h2⟩ := min_ex (b :: r) (by simp)
    by_cases h : a ≤ m
    · refine ⟨a, by simp, fun y hy => ?_⟩
      rcases List.mem_cons.mp hy with z | z
      · omega
      · have := h2 y z; omega
    · refine ⟨m, List.mem_cons_of_mem _ h1, fun y hy => ?_⟩
      rcases List.mem_cons.mp hy with z | z
      · omega
      · exact h2 y z
theorem max_ex : ∀ ns : List Int, ns ≠ [] → ∃ m, IsMax m ns
  | [], h => absurd rfl h
  | [a], _ => ⟨a, by simp, fun y hy => by have : y = a := by simpa using hy
                                          omega⟩
  | a :: b :: r, _ => by
    obtain ⟨m, h1, h2⟩ := max_ex (b :: r) (by simp)
    by_cases h : m ≤ a
    · refine ⟨a, by simp, fun y hy => ?_⟩
      rcases List.mem_cons.mp hy with z | z
      · omega
      · have := h2 y z; omega
    · refine ⟨m, List.mem_cons_of_mem _ h1, fun y hy => ?_⟩
      rcases List.mem_cons.mp hy with z | z
      · omega
      · exact h2 y z
theorem box_ex {b : List Cell} (h : b ≠ []) : ∃ x0 y0 x1 y1, BoxOf b x0 y0 x1 y1 := by
  have hl := List.length_pos_iff.mpr h
  have hm : b.map Cell.y ≠ [] := fun z => h (List.map_eq_nil_iff.mp z)
  obtain ⟨y0, h0⟩ := min_ex _ hm
  obtain ⟨y1, h1⟩ := max_ex _ hm
  exact ⟨_, y0, _, y1, ⟨_, List.getElem?_eq_getElem hl, rfl⟩, h0, ⟨_, List.getElem?_eq_getElem (by omega), rfl⟩, h1⟩
theorem Sml.fit {f : Fl} {l t : Int} {w h : Nat} (S : Sml f l t w h) {b : List Cell} (T : Told f b) (hne : b ≠ []) : ∃ x0 y0 x1 y1, Fit b x0 y0 x1 y1 := by
  obtain ⟨x0, y0, x1, y1, hB⟩ := box_ex hne
  have hin := inbox (S.board T) hB
  have hs : ∀ c ∈ b, l ≤ c.x ∧ c.x < l + w ∧ t ≤ c.y ∧ c.y < t + h := fun c hc => by
    obtain ⟨h1, h2⟩ := (T.mem c).mp hc
    exact S.sup c.x c.y (by rw [h1]; exact h2)
  obtain ⟨c0, e0, rfl⟩ := hB.x0
  obtain ⟨c1, e1, rfl⟩ := hB.x1
  have a0 := hs c0 (List.mem_of_getElem? e0)
  have a1 := hs c1 (List.mem_of_getElem? e1)
  have a01 := hin c0 (List.mem_of_getElem? e0)
  obtain ⟨c2, m2, e2⟩ := List.mem_map.mp hB.y0.1
  obtain ⟨c3, m3, e3⟩ := List.mem_map.mp hB.y1.1
  have a2 := hs c2 m2
  have a3 := hs c3 m3
  have hn := S.near
  have hf := S.few
  have hF : FAR = 10 ^ 60 := rfl
  have wx : c0.x ≤ c1.x ∧ c1.x - c0.x ≤ 39 := by omega
  have wy : y0 ≤ y1 ∧ y1 - y0 ≤ 39 := by omega
  refine ⟨_, y0, _, y1, hB, by have := S.len T; omega, hne, by rw [hF]; omega, by rw [hF]; omega, by omega, by omega, ?_⟩
  have p1 : c1.x - c0.x + 25 ≤ 64 := by omega
  have p2 : y1 - y0 + 25 ≤ 64 := by omega
  have := Int.mul_le_mul p1 p2 (by omega) (by decide)
  omega
/-! ### what comes next -/
def nx (r : Rl) (f : Fl) : Fl := next r.b r.s (r.n : Int) f
def nxs (r : Rl) : Nat → Fl → Fl
  | 0, f => f
  | k + 1, f => nx r (nxs r k f)
theorem Rule.no0 {r : Rl} (h : Rule r) : 0 ∉ r.b := fun z => absurd (h.bl 0 z).1 (by decide)
theorem nx_rng {r : Rl} (hr : Rule r) {f : Fl} (h : ∀ x y, 0 ≤ f x y ∧ f x y ≤ 5) : ∀ x y, 0 ≤ nx r f x y ∧ nx r f x y ≤ 5 := by
  intro x y
  have := h x y
  have h6 := hr.n6
  unfold nx MB.next MB.nextS
  split
  · split <;> omega
  · split
    · omega
    · split <;> omega
theorem Sm.next {r : Rl} (hr : Rule r) {f : Fl} {l t : Int} {w h : Nat} (S : Sm f l t w h) : Sm (nx r f) (l - 1) (t - 1) (w + 2) (h + 2) := by
  refine ⟨fun x y hx => ?_, nx_rng hr S.rng⟩
  have := MB.next_sup (l := l - 1) (t := t - 1) (W := w + 2) (H := h + 2) (m := 0) (f := f) (births := r.b) (stays := r.s) (states := (r.n : Int)) hr.no0 (fun x y h => by have := S.sup x y h; omega) x y hx
  omega
theorem Sm.nexts {r : Rl} (hr : Rule r) {f : Fl} {l t : Int} {w h : Nat} (S : Sm f l t w h) : ∀ k : Nat, Sm (nxs r k f) (l - k) (t - k) (w + 2 * k) (h + 2 * k)
  | 0 => by
    rw [Int.natCast_zero, Int.sub_zero, Int.sub_zero]
    exact S
  | k + 1 => by
    have := (S.nexts hr k).next hr
    rw [show l - ((k + 1 : Nat) : Int) = l - (k : Int) - 1 by omega, show t - ((k + 1 : Nat) : Int) = t - (k : Int) - 1 by omega, show w + 2 * (k + 1) = w + 2 * k + 2 by omega, show h + 2 * (k + 1) = h + 2 * k + 2 by omega]
    exact this
theorem nx_zero {r : Rl} (hr : Rule r) : nx r (fun _ _ => 0) = fun _ _ => 0 := by
  funext x y
  unfold nx MB.next MB.nextS
  rw [if_pos rfl]
  exact if_neg hr.no0
theorem nxs_zero {r : Rl} (hr : Rule r) : ∀ k, nxs r k (fun _ _ => 0) = fun _ _ => 0
  | 0 => rfl
  | k + 1 => by
    show nx r (nxs r k _) = _
    rw [nxs_zero hr k, nx_zero hr]
theorem st_nil : stOf [] = fun _ _ => 0 := rfl
theorem told_nil : Told (fun _ _ => 0) [] := ⟨List.Pairwise.nil, fun c => ⟨fun h => (nomatch h), fun h => absurd h.1.symm h.2⟩⟩
/-! ### planes -/
theorem idx_div {l t : Int} {H : Nat} {c : Cell} (h1 : l ≤ c.x) (h3 : t ≤ c.y) (h4 : c.y < t + H) : l + ((idx l t H c / H : Nat) : Int) = c.x ∧ t + ((idx l t H c % H : Nat) : Int) = c.y := by
  unfold idx
  obtain ⟨e1, e2⟩ := MB.divmod_off (c.x - l).toNat (c.y - t).toNat H (by omega)
  rw [e1, e2]
  omega
theorem idx_of {l t : Int} {H i : Nat} {s : Int} (hH : 0 < H) : idx l t H ⟨l + (i / H : Nat), t + (i % H : Nat), s⟩ = i := by
  unfold idx
  dsimp only
  have e : ∀ (a : Int) (k : Nat), (a + (k : Int) - a).toNat = k := fun a k => by omega
  rw [e, e, Nat.mul_comm]
  exact Nat.div_add_mod i H
theorem fold_planes (l t : Int) (H : Nat) : ∀ (b : List Cell) (P : List Nat), (∀ c ∈ b, 1 ≤ c.s ∧ (c.s - 1).toNat < P.length) → ∀ (k p : Nat), (b.foldl (pstep l t H) P)[k]? = some p → ∃ p0, P[k]? = some p0 ∧ ∀ i, p.testBit i = (p0.testBit i || b.any fun c => decide (c.s = (k : Int) + 1) && decide (idx l t H c = i))
  | [], P, _, k, p, h => ⟨p, h, fun i => by simp⟩
  | c :: b, P, hb, k, p, h => by
    rw [List.foldl_cons] at h
    obtain ⟨hc1, hc2⟩ := hb c List.mem_cons_self
    obtain ⟨p1, h1, h2⟩ := fold_planes l t H b (pstep l t H P c) (fun e he => by rw [pstep_len]; exact hb e (List.mem_cons_of_mem _ he)) k p h
    unfold pstep at h1
    rw [List.getElem?_set] at h1
    by_cases z : (c.s - 1).toNat = k
    · rw [if_pos z, if_pos hc2] at h1
      have hPk : P[k]? = some P[(c.s - 1).toNat] := by rw [← z]; exact List.getElem?_eq_getElem hc2
      refine ⟨_, hPk, fun i => ?_⟩
      have e : p1 = P[(c.s - 1).toNat] ||| (1 <<< idx l t H c) := by
        rw [List.getD_eq_getElem?_getD, List.getElem?_eq_getElem hc2] at h1
        exact (Option.some.inj h1).symm
      rw [h2 i, e, Nat.testBit_or, List.any_cons, decide_eq_true (show c.s = (k : Int) + 1 by omega), Bool.true_and, Nat.one_shiftLeft, Nat.testBit_two_pow, Bool.or_assoc]
    · rw [if_neg z] at h1
      refine ⟨p1, h1, fun i => ?_⟩
      rw [h2 i, List.any_cons, decide_eq_false (show ¬ c.s = (k : Int) + 1 by omega), Bool.false_and, Bool.false_or]
theorem planes_rep {b : List Cell} {x0 y0 x1 y1 : Int} (hb : Board b) (hf : Fit b x0 y0 x1 y1) :
    Rep (stOf b) (x0 - 12) (y0 - 12) (x1 - x0 + 25).toNat (y1 - y0 + 25).toNat 12 (planes0 (x0 - 12) (y0 - 12) (y1 - y0 + 25).toNat b) := by
  have hin := inbox hb hf.box
  have wx := hf.wx
  have wy := hf.wy
  have hlen : (planes0 (x0 - 12) (y0 - 12) (y1 - y0 + 25).toNat b).length = 5 := planes_len _ _ _ _ _
  have hst : ∀ x y, stOf b x y ≠ 0 → 1 ≤ stOf b x y ∧ stOf b x y ≤ 5 := fun x y h => (hb.ok _ (st_mem h)).2.2
  refine ⟨fun x y h => ?_, fun k p hk i => ?_, fun x y => ?_⟩
  · have := hin _ (st_mem h)
    dsimp only at this
    omega
  · have hk5 : k < 5 := by rw [← hlen]; exact (List.getElem?_eq_some_iff.mp hk).1
    obtain ⟨p0, h0, h1⟩ := fold_planes _ _ _ b [0, 0, 0, 0, 0] (fun c hc => by have := (hb.ok c hc).2.2; exact ⟨this.1, by simp only [List.length_cons, List.length_nil]; omega⟩) k p hk
    have hz : p0 = 0 := by
      match k, hk5, h0 with
      | 0, _, h0 | 1, _, h0 | 2, _, h0 | 3, _, h0 | 4, _, h0 => exact (Option.some.inj h0).symm
    rw [h1 i, hz, Nat.zero_testBit, Bool.false_or, Bool.eq_iff_iff, List.any_eq_true, decide_eq_true_iff]
    constructor
    · rintro ⟨c, hc, h⟩
      rw [Bool.and_eq_true, decide_eq_true_iff, decide_eq_true_iff] at h
      have hi := hin c hc
      obtain ⟨e1, e2⟩ := idx_div (l := x0 - 12) (t := y0 - 12) (H := (y1 - y0 + 25).toNat) (c := c) (by omega) (by omega) (by omega)
      rw [← h.2, e1, e2, st_some hb.up hc]
      exact h.1
    · intro h
      have hm := st_mem (b := b) (x := x0 - 12 + ((i / (y1 - y0 + 25).toNat : Nat) : Int)) (y := y0 - 12 + ((i % (y1 - y0 + 25).toNat : Nat) : Int)) (by rw [h]; omega)
      refine ⟨_, hm, ?_⟩
      rw [idx_of (by omega), decide_eq_true rfl, Bool.and_true, decide_eq_true_iff]
      exact h
  · rw [hlen]
    by_cases z : stOf b x y = 0
    · rw [z]; decide
    · have := hst x y z; omega
section
variable {f : Fl} {l t : Int} {W H m : Nat} {P : List Nat}
theorem rep_lt (R : Rep f l t W H m P) (hH : 0 < H) : ∀ p ∈ P, p < 2 ^ (W * H) := by
  intro p hp
  obtain ⟨k, hk⟩ := List.getElem?_of_mem hp
  refine Nat.lt_pow_two_of_testBit p fun i hi => ?_
  rw [R.bit k p hk i, decide_eq_false_iff_not]
  intro e
  have := R.sup _ _ (show f (l + ((i / H : Nat) : Int)) (t + ((i % H : Nat) : Int)) ≠ 0 by rw [e]; omega)
  have hu : i / H < W := by omega
  have := (Nat.div_lt_iff_lt_mul hH).mp hu
  omega
theorem adv_len (b s : List Nat) (n h w : Nat) (P : List Nat) : (MB.advP b s n h w P).length ≤ n - 1 := by
  unfold MB.advP
  exact List.length_take_le _ _
theorem adv_ne (b s : List Nat) (n h w : Nat) (P : List Nat) (hn : 2 ≤ n) : MB.advP b s n h w P ≠ [] := by
  obtain ⟨k, rfl⟩ : ∃ k, n = k + 2 := ⟨n - 2, by omega⟩
  unfold MB.advP
  intro z
  cases z
theorem mem_cells (hH : 0 < H) {c : Cell} : ∀ n, c ∈ cellsP l t H P n ↔ ∃ k, k < n ∧ ∃ i, (P.getD k 0).testBit i = true ∧ c = cellP l t H k i
  | 0 => ⟨fun h => (nomatch h), fun ⟨_, h, _⟩ => absurd h (Nat.not_lt_zero _)⟩
  | n + 1 => by
    show c ∈ cellsP l t H P n ++ _ ↔ _
    rw [List.mem_append, mem_cells hH n, List.mem_map]
    constructor
    · rintro (⟨k, hk, h⟩ | ⟨i, hi, rfl⟩)
      · exact ⟨k, by omega, h⟩
      · exact ⟨n, by omega, i, (MB.mem_ones _ _).mp hi, rfl⟩
    · rintro ⟨k, hk, i, h1, rfl⟩
      rcases Nat.lt_or_ge k n with z | z
      · exact .inl ⟨k, z, i, h1, rfl⟩
      · have : k = n := by omega
        subst this
        exact .inr ⟨i, (MB.mem_ones _ _).mpr h1, rfl⟩
theorem cellP_x (k i : Nat) : (cellP l t H k i).x = l + ((i / H : Nat) : Int) ∧ (cellP l t H k i).y = t + ((i % H : Nat) : Int) := by
  unfold cellP
  dsimp only
  exact ⟨by rw [Int.natCast_ediv, Int.add_comm], by rw [Int.natCast_emod, Int.add_comm]⟩
theorem cellP_inj {k a b : Nat} (h : cellP l t H k a = cellP l t H k b) : a = b := by
  have h1 := congrArg Cell.x h
  have h2 := congrArg Cell.y h
  rw [(cellP_x k a).1, (cellP_x k b).1] at h1
  rw [(cellP_x k a).2, (cellP_x k b).2] at h2
  have e1 : a / H = b / H := by omega
  have e2 : a % H = b % H := by omega
  rw [← Nat.div_add_mod a H, ← Nat.div_add_mod b H, e1, e2]
theorem cells_nodup (hH : 0 < H) : ∀ n, (cellsP l t H P n).Nodup
  | 0 => List.Pairwise.nil
  | n + 1 => by
    show (cellsP l t H P n ++ _).Nodup
    rw [List.nodup_append]
    refine ⟨cells_nodup hH n, ?_, ?_⟩
    · refine List.pairwise_map.mpr ((MB.ones_nodup _).imp fun hab e => hab (cellP_inj e))
    · intro a ha b hb e
      subst e
      obtain ⟨k, hk, i, _, rfl⟩ := (mem_cells hH n).mp ha
      obtain ⟨j, _, e⟩ := List.mem_map.mp hb
      have := congrArg Cell.s e
      unfold cellP at this
      dsimp only at this
      omega
theorem rep_mem (R : Rep f l t W H m P) (hH : 0 < H) (c : Cell) : c ∈ cellsP l t H P P.length ↔ (f c.x c.y = c.s ∧ c.s ≠ 0) := by
  rw [mem_cells hH]
  constructor
  · rintro ⟨k, hk, i, h, rfl⟩
    rw [List.getD_eq_getElem?_getD, List.getElem?_eq_getElem hk] at h
    have := R.bit k _ (List.getElem?_eq_getElem hk) i
    rw [show P[k].testBit i = true from h] at this
    rw [(cellP_x k i).1, (cellP_x k i).2, of_decide_eq_true this.symm]
    exact ⟨rfl, by unfold cellP; dsimp only; omega⟩
  · rintro ⟨h1, h2⟩
    have hs := R.sup c.x c.y (by rw [h1]; exact h2)
    have hr := R.rng c.x c.y
    rw [h1] at hr
    have hk : (c.s - 1).toNat < P.length := by omega
    obtain ⟨e1, e2⟩ := idx_div (l := l) (t := t) (H := H) (c := c) (by omega) (by omega) (by omega)
    refine ⟨(c.s - 1).toNat, hk, idx l t H c, ?_, ?_⟩
    · rw [List.getD_eq_getElem?_getD, List.getElem?_eq_getElem hk]
      show P[(c.s - 1).toNat].testBit _ = true
      rw [R.bit _ _ (List.getElem?_eq_getElem hk), e1, e2, h1, decide_eq_true_iff]
      omega
    · refine cell_eta ?_ ?_ ?_
      · rw [(cellP_x _ _).1, e1]
      · rw [(cellP_x _ _).2, e2]
      · unfold cellP; dsimp only; omega
theorem rep_sort (R : Rep f l t W H m P) (hH : 0 < H) {b : List Cell} (T : Told f b) : sortI ((cellsP l t H P P.length).map Cell.r) = b.map Cell.r :=
  told_sort T (cells_nodup hH _) (rep_mem R hH)
theorem cellsP_size : ∀ n, n ≤ P.length → (cellsP l t H P n).length = sizeP (P.take n)
  | 0, _ => rfl
  | n + 1, hn => by
    show (cellsP l t H P n ++ _).length = _
    rw [List.length_append, cellsP_size n (by omega), List.length_map, List.take_add_one, List.getD_eq_getElem?_getD, List.getElem?_eq_getElem (by omega : n < P.length)]
    unfold sizeP
    rw [List.map_append, List.sum_append]
    simp
theorem rep_size (R : Rep f l t W H m P) (hH : 0 < H) {b : List Cell} (T : Told f b) : sizeP P = b.length := by
  have h1 := cellsP_size (l := l) (t := t) (H := H) (P := P) P.length (Nat.le_refl _)
  rw [List.take_length] at h1
  rw [← h1]
  exact (told_perm T (cells_nodup hH _) (rep_mem R hH)).length_eq.symm
end
/-! ### moved and turned -/
def mvF (x0 y0 : Int) (f : Fl) : Fl := fun x y => f (x - x0) (y - y0)
def qF (f : Fl) : Fl := fun x y => f y (-x)
def flF (f : Fl) : Fl := fun x y => f (-x) y
def qsF : Nat → Fl → Fl
  | 0, f => f
  | n + 1, f => qF (qsF n f)
def turnF (t : Int) (f : Fl) : Fl := qsF (t % 4).toNat (if t ≥ 4 then flF f else f)
theorem told_mv {f : Fl} {b : List Cell} (T : Told f b) (x0 y0 : Int) : Told (mvF x0 y0 f) (b.map (Cell.mv x0 y0)) := by
  refine ⟨List.pairwise_map.mpr (T.up.imp fun {a b} h => by
    show a.x + x0 < b.x + x0 ∨ (a.x + x0 = b.x + x0 ∧ a.y + y0 < b.y + y0)
    omega), fun c => ?_⟩
  rw [List.mem_map]
  constructor
  · rintro ⟨e, he, rfl⟩
    have := (T.mem e).mp he
    unfold Cell.mv mvF
    dsimp only
    rw [Int.add_sub_cancel, Int.add_sub_cancel]
    exact this
  · intro h
    refine ⟨⟨c.x - x0, c.y - y0, c.s⟩, (T.mem _).mpr h, ?_⟩
    unfold Cell.mv
    exact cell_eta (by dsimp only; omega) (by dsimp only; omega) rfl
theorem Sm.mv {f : Fl} {l t : Int} {w h : Nat} (S : Sm f l t w h) (x0 y0 : Int) : Sm (mvF x0 y0 f) (l + x0) (t + y0) w h :=
  ⟨fun x y hx => by have := S.sup _ _ hx; omega, fun x y => S.rng _ _⟩
/-- the cells of a turned board -/
def Has (f : Fl) (L : List Cell) : Prop := ∀ c, c ∈ L ↔ (f c.x c.y = c.s ∧ c.s ≠ 0)
theorem has_q {f : Fl} {L : List Cell} (h : Has f L) : Has (qF f) (L.map Cell.q) := by
  intro c
  rw [List.mem_map]
  constructor
  · rintro ⟨e, he, rfl⟩
    have := (h e).mp he
    unfold Cell.q qF
    dsimp only
    rw [Int.neg_neg]
    exact this
  · intro hc
    refine ⟨⟨c.y, -c.x, c.s⟩, (h _).mpr hc, ?_⟩
    unfold Cell.q
    exact cell_eta (by dsimp only; omega) rfl rfl
theorem has_fl {f : Fl} {L : List Cell} (h : Has f L) : Has (flF f) (L.map Cell.fl) := by
  intro c
  rw [List.mem_map]
  constructor
  · rintro ⟨e, he, rfl⟩
    have := (h e).mp he
    unfold Cell.fl flF
    dsimp only
    rw [Int.neg_neg]
    exact this
  · intro hc
    refine ⟨⟨-c.x, c.y, c.s⟩, (h _).mpr hc, ?_⟩
    unfold Cell.fl
    exact cell_eta (by dsimp only; omega) rfl rfl
theorem has_qs {f : Fl} {L : List Cell} (h : Has f L) : ∀ n, Has (qsF n f) (L.map (Cell.qs n))
  | 0 => by rw [show Cell.qs 0 = id from rfl, List.map_id]; exact h
  | n + 1 => by
    have := has_q (has_qs h n)
    rw [List.map_map] at this
    exact this
theorem has_turn {f : Fl} {L : List Cell} (h : Has f L) (t : Int) : Has (turnF t f) (L.map (Cell.turn t)) := by
  unfold turnF Cell.turn
  by_cases z : t ≥ 4
  · rw [if_pos z]
    have := has_qs (has_fl h) (t % 4).toNat
    rw [List.map_map] at this
    simp only [if_pos z]
    exact this
  · rw [if_neg z]
    simp only [if_neg z]
    exact has_qs h _
theorem nodup_map {α β : Type} {g : α → β} (hg : ∀ a b, g a = g b → a = b) {L : List α} (h : L.Nodup) : (L.map g).Nodup := List.pairwise_map.mpr (h.imp fun hab e => hab (hg _ _ e))
theorem q_inj (a b : Cell) (h : a.q = b.q) : a = b := by
  unfold Cell.q at h
  injection h with h1 h2 h3
  exact cell_eta h2 (by omega) h3
theorem fl_inj (a b : Cell) (h : a.fl = b.fl) : a = b := by
  unfold Cell.fl at h
  injection h with h1 h2 h3
  exact cell_eta (by omega) h2 h3
theorem qs_inj : ∀ (n : Nat) (a b : Cell), a.qs n = b.qs n → a = b
  | 0, a, b, h => h
  | n + 1, a, b, h => qs_inj n a b (q_inj _ _ h)
theorem turn_inj (t : Int) (a b : Cell) (h : a.turn t = b.turn t) : a = b := by
  unfold Cell.turn at h
  have := qs_inj _ _ _ h
  split at this
  · exact fl_inj _ _ this
  · exact this
theorem told_turn {f : Fl} {b d : List Cell} (T : Told f b) (t : Int) (D : Told (turnF t f) d) : sortI ((b.map (Cell.turn t)).map Cell.r) = d.map Cell.r :=
  told_sort D (nodup_map (turn_inj t) (up_nodup T.up)) (has_turn T.mem t)
theorem nx_mv (r : Rl) (x0 y0 : Int) (f : Fl) : nx r (mvF x0 y0 f) = mvF x0 y0 (nx r f) := by
  funext x y
  have e : ∀ a b, liv (mvF x0 y0 f) a b = liv f (a - x0) (b - y0) := fun _ _ => rfl
  have en : MB.nb (mvF x0 y0 f) x y = MB.nb f (x - x0) (y - y0) := by
    unfold MB.nb
    simp only [e]
    rw [show x - 1 - x0 = x - x0 - 1 by omega, show x + 1 - x0 = x - x0 + 1 by omega, show y - 1 - y0 = y - y0 - 1 by omega, show y + 1 - y0 = y - y0 + 1 by omega]
  show MB.nextS _ _ _ (f (x - x0) (y - y0)) (MB.nb (mvF x0 y0 f) x y) = _
  rw [en]
  rfl
theorem nx_q (r : Rl) (f : Fl) : nx r (qF f) = qF (nx r f) := by
  funext x y
  have e : ∀ a b, liv (qF f) a b = liv f b (-a) := fun _ _ => rfl
  have en : MB.nb (qF f) x y = MB.nb f y (-x) := by
    unfold MB.nb
    simp only [e]
    rw [show -(x - 1) = -x + 1 by omega, show -(x + 1) = -x - 1 by omega]
    omega
  show MB.nextS _ _ _ (f y (-x)) (MB.nb (qF f) x y) = _
  rw [en]
  rfl
theorem nx_fl (r : Rl) (f : Fl) : nx r (flF f) = flF (nx r f) := by
  funext x y
  have e : ∀ a b, liv (flF f) a b = liv f (-a) b := fun _ _ => rfl
  have en : MB.nb (flF f) x y = MB.nb f (-x) y := by
    unfold MB.nb
    simp only [e]
    rw [show -(x - 1) = -x + 1 by omega, show -(x + 1) = -x - 1 by omega]
    omega
  show MB.nextS _ _ _ (f (-x) y) (MB.nb (flF f) x y) = _
  rw [en]
  rfl
theorem nx_qs (r : Rl) (f : Fl) : ∀ n, nx r (qsF n f) = qsF n (nx r f)
  | 0 => rfl
  | n + 1 => by
    show nx r (qF (qsF n f)) = qF (qsF n (nx r f))
    rw [nx_q, nx_qs r f n]
theorem nx_turn (r : Rl) (t : Int) (f : Fl) : nx r (turnF t f) = turnF t (nx r f) := by
  unfold turnF
  rw [nx_qs]
  split
  · rw [nx_fl]
  · rfl
theorem nxs_mv (r : Rl) (x0 y0 : Int) (f : Fl) : ∀ k, nxs r k (mvF x0 y0 f) = mvF x0 y0 (nxs r k f)
  | 0 => rfl
  | k + 1 => by
    show nx r (nxs r k _) = mvF x0 y0 (nx r (nxs r k f))
    rw [nxs_mv r x0 y0 f k, nx_mv]
theorem nxs_turn (r : Rl) (t : Int) (f : Fl) : ∀ k, nxs r k (turnF t f) = turnF t (nxs r k f)
  | 0 => rfl
  | k + 1 => by
    show nx r (nxs r k _) = turnF t (nx r (nxs r k f))
    rw [nxs_turn r t f k, nx_turn]
theorem Sm.q {f : Fl} {l t : Int} {w h : Nat} (S : Sm f l t w h) : ∃ l' t', (l' = 1 - t - h ∧ t' = l) ∧ Sm (qF f) l' t' h w :=
  ⟨_, _, ⟨rfl, rfl⟩, fun x y hx => by have := S.sup _ _ hx; omega, fun x y => S.rng _ _⟩
theorem Sm.fl {f : Fl} {l t : Int} {w h : Nat} (S : Sm f l t w h) : ∃ l' t', (l' = 1 - l - w ∧ t' = t) ∧ Sm (flF f) l' t' w h :=
  ⟨_, _, ⟨rfl, rfl⟩, fun x y hx => by have := S.sup _ _ hx; omega, fun x y => S.rng _ _⟩
/-- a board within a square, not far -/
structure Sq (f : Fl) (n : Nat) (B : Int) : Prop where
  ex : ∃ l t, Sm f l t n n ∧ -B ≤ l ∧ l ≤ B ∧ -B ≤ t ∧ t ≤ B
theorem Sq.q {f : Fl} {n : Nat} {B : Int} (S : Sq f n B) : Sq (qF f) n (B + n + 1) := by
  obtain ⟨l, t, hS, hb⟩ := S.ex
  obtain ⟨l', t', ⟨rfl, rfl⟩, h⟩ := hS.q
  exact ⟨_, _, h, by omega, by omega, by omega, by omega⟩
theorem Sq.fl {f : Fl} {n : Nat} {B : Int} (S : Sq f n B) : Sq (flF f) n (B + n + 1) := by
  obtain ⟨l, t, hS, hb⟩ := S.ex
  obtain ⟨l', t', ⟨rfl, rfl⟩, h⟩ := hS.fl
  exact ⟨_, _, h, by omega, by omega, by omega, by omega⟩
theorem Sq.qs {f : Fl} {n : Nat} {B : Int} (S : Sq f n B) : ∀ k : Nat, Sq (qsF k f) n (B + k * (n + 1))
  | 0 => by
    rw [show B + ((0 : Nat) : Int) * ((n : Int) + 1) = B by simp]
    exact S
  | k + 1 => by
    have := (S.qs k).q
    rw [show B + ((k + 1 : Nat) : Int) * ((n : Int) + 1) = B + (k : Int) * ((n : Int) + 1) + n + 1 by rw [Int.natCast_add, Int.add_mul]; omega]
    exact this
theorem Sq.mono {f : Fl} {n : Nat} {B B' : Int} (S : Sq f n B) (h : B ≤ B') : Sq f n B' := by
  obtain ⟨l, t, hS, hb⟩ := S.ex
  exact ⟨l, t, hS, by omega, by omega, by omega, by omega⟩
theorem Sq.turn {f : Fl} {n : Nat} {B : Int} (S : Sq f n B) (h : n ≤ 20) (t : Int) : Sq (turnF t f) n (B + 100) := by
  have hm0 := Int.emod_nonneg t (show (4 : Int) ≠ 0 by decide)
  have hm1 := Int.emod_lt_of_pos t (show (0 : Int) < 4 by decide)
  have key : ∀ (g : Fl) (B' : Int), Sq g n B' → Sq (qsF (t % 4).toNat g) n (B' + 63) := fun g B' hg => by
    refine (hg.qs (t % 4).toNat).mono ?_
    have h1 : (((t % 4).toNat : Nat) : Int) ≤ 3 := by omega
    have h2 : (n : Int) + 1 ≤ 21 := by omega
    have := Int.mul_le_mul h1 h2 (by omega) (by decide)
    omega
  unfold turnF
  split
  · exact (key _ _ S.fl).mono (by omega)
  · exact (key _ _ S).mono (by omega)
theorem Sq.mv {f : Fl} {n : Nat} {B : Int} (S : Sq f n B) (x y : Int) (hx : -10 ≤ x ∧ x ≤ 10) (hy : -10 ≤ y ∧ y ≤ 10) : Sq (mvF x y f) n (B + 10) := by
  obtain ⟨l, t, hS, hb⟩ := S.ex
  exact ⟨_, _, hS.mv x y, by omega, by omega, by omega, by omega⟩
theorem Sq.sml {r : Rl} (hr : Rule r) {f : Fl} {n : Nat} {B : Int} (S : Sq f n B) (hn : n ≤ 20) (hB : B ≤ 2 ^ 119) {k : Nat} (hk : k ≤ 10) : ∃ l t w h, Sml (nxs r k f) l t w h := by
  obtain ⟨l, t, hS, hb⟩ := S.ex
  exact ⟨_, _, _, _, hS.nexts hr k, by omega, by omega⟩
/-- all that a board becomes in so many steps is small -/
def Go (r : Rl) (f : Fl) (k : Nat) : Prop := ∀ j, j ≤ k → ∃ l t w h, Sml (nxs r j f) l t w h
theorem Go.board {r : Rl} {f : Fl} {k : Nat} (G : Go r f k) {j : Nat} (hj : j ≤ k) {b : List Cell} (T : Told (nxs r j f) b) : Board b := by
  obtain ⟨l, t, w, h, S⟩ := G j hj
  exact S.board T
theorem Go.len {r : Rl} {f : Fl} {k : Nat} (G : Go r f k) {j : Nat} (hj : j ≤ k) {b : List Cell} (T : Told (nxs r j f) b) : b.length ≤ 1600 := by
  obtain ⟨l, t, w, h, S⟩ := G j hj
  exact S.len T
theorem Go.ex {r : Rl} {f : Fl} {k : Nat} (G : Go r f k) {j : Nat} (hj : j ≤ k) : ∃ b, Told (nxs r j f) b := by
  obtain ⟨l, t, w, h, S⟩ := G j hj
  exact ⟨_, S.told⟩
/-- the planes after so many steps -/
def pls (r : Rl) (H N : Nat) (P : List Nat) : Nat → List Nat
  | 0 => P
  | k + 1 => MB.advP r.b (r.s.map (· + 1)) r.n H (2 ^ N - 1) (pls r H N P k)
theorem pls_len {r : Rl} (hr : Rule r) {H N : Nat} {P : List Nat} (hP : P.length = 5) : ∀ k, (pls r H N P k).length ≤ 5
  | 0 => Nat.le_of_eq hP
  | k + 1 => by
    have := adv_len r.b (r.s.map (· + 1)) r.n H (2 ^ N - 1) (pls r H N P k)
    have h6 := hr.n6
    show (MB.advP _ _ _ _ _ _).length ≤ 5
    omega
theorem pls_ne {r : Rl} (hr : Rule r) {H N : Nat} {P : List Nat} (hP : P ≠ []) : ∀ k, pls r H N P k ≠ []
  | 0 => hP
  | k + 1 => adv_ne _ _ _ _ _ _ hr.n2
theorem pls_rep {r : Rl} (hr : Rule r) {f : Fl} {l t : Int} {W H m : Nat} {P : List Nat} (hH : 0 < H) (hP : P ≠ []) (R : Rep f l t W H m P) : ∀ k, k ≤ m → Rep (nxs r k f) l t W H (m - k) (pls r H (W * H) P k)
  | 0, _ => R
  | k + 1, hk => by
    have := pls_rep hr hH hP R k (by omega)
    rw [show m - k = (m - (k + 1)) + 1 by omega] at this
    exact MB.adv_rep hr.n2 hH (pls_ne hr hP k) hr.bl hr.sl this
/-! ### runs of few steps -/
structure RunS (CB CC : Addr) (r : Rl) (b : List Cell) (k : Nat) (cds : Nat → CD) (ms : Nat → Int) : Prop where
  init : R_rInit CB CC [r.d, bD b] (runFs r 12 (ms 0)) (cds 0)
  adv : ∀ i, i < k → R_rAdv CB CC (runFs r (12 - (i : Int)) (ms i)) (cds i) [] .none (runFs r (12 - ((i + 1 : Nat) : Int)) (ms (i + 1))) (cds (i + 1))
  board : ∀ i, i ≤ k → ∀ bi, Told (nxs r i (stOf b)) bi → R_rBoard CB CC (runFs r (12 - (i : Int)) (ms i)) (cds i) [] (bD bi) (runFs r (12 - (i : Int)) (ms i)) (cds i)
  many : ∀ i, i ≤ k → ∀ bi, Told (nxs r i (stOf b)) bi → ms i = (bi.length : Nat)
theorem Go.fit {r : Rl} {b : List Cell} {k : Nat} (G : Go r (stOf b) k) (T : Told (stOf b) b) (hne : b ≠ []) : ∃ x0 y0 x1 y1, Fit b x0 y0 x1 y1 := by
  obtain ⟨l, t, w, h, S⟩ := G 0 (Nat.zero_le _)
  exact S.fit T hne
theorem run_s (CB CC : Addr) {r : Rl} (hr2 : Rule r) {b : List Cell} {k : Nat} (G : Go r (stOf b) k) (hk : k ≤ 12) (hT : Told (stOf b) b) : ∃ cds ms, RunS CB CC r b k cds ms := by
  by_cases hne : b = []
  · subst hne
    have h0 : ∀ i bi, Told (nxs r i (stOf [])) bi → bi = [] := fun i bi h => by
      rw [st_nil, nxs_zero hr2] at h
      exact told_uniq h told_nil
    refine ⟨fun _ => .obj CC (cellFs r), fun _ => 0, .inr ⟨r, rfl, rfl, rfl⟩, fun i hi => ?_, fun i hi bi h => ?_, fun i hi bi h => ?_⟩
    · exact ⟨r, 12 - (i : Int), 0, rfl, rfl, rfl, by omega, by omega, .inr ⟨rfl, rfl, by rw [show 12 - (i : Int) - 1 = 12 - ((i + 1 : Nat) : Int) by omega]⟩⟩
    · rw [h0 i bi h]
      exact ⟨r, _, 0, rfl, rfl, rfl, rfl, .inr ⟨rfl, rfl⟩⟩
    · rw [h0 i bi h]
      rfl
  · obtain ⟨x0, y0, x1, y1, hf⟩ := G.fit hT hne
    have hb : Board b := G.board (Nat.zero_le _) hT
    have R := planes_rep hb hf
    have hP5 : (planes0 (x0 - 12) (y0 - 12) (y1 - y0 + 25).toNat b).length = 5 := planes_len _ _ _ _ _
    have hinit : R_rInit CB CC [r.d, bD b] (runFs r 12 (b.length : Nat)) (.obj CB (bitFs r (x0 - 12) (y0 - 12) (y1 - y0 + 25).toNat (2 ^ ((x1 - x0 + 25).toNat * (y1 - y0 + 25).toNat) - 1) (planes0 (x0 - 12) (y0 - 12) (y1 - y0 + 25).toNat b))) := .inl ⟨r, b, x0, y0, x1, y1, rfl, hr2, hb, hf, rfl, rfl⟩
    have hH : 0 < (y1 - y0 + 25).toNat := by have := hf.wy; omega
    have few : (x1 - x0 + 25).toNat * (y1 - y0 + 25).toNat ≤ 5000 := by
      have h1 := hf.few
      have h2 := hf.wx
      have h3 := hf.wy
      rw [show x1 - x0 + 25 = (((x1 - x0 + 25).toNat : Nat) : Int) by omega, show y1 - y0 + 25 = (((y1 - y0 + 25).toNat : Nat) : Int) by omega] at h1
      exact Int.ofNat_le.mp (by simpa using h1)
    have hW : 0 < (x1 - x0 + 25).toNat := by have := hf.wx; omega
    have hle := Nat.mul_le_mul_right (y1 - y0 + 25).toNat hW
    generalize (y1 - y0 + 25).toNat = H at R hP5 hH few hle hinit
    generalize (x1 - x0 + 25).toNat = W at R few hle hinit
    generalize planes0 (x0 - 12) (y0 - 12) H b = P at R hP5 hinit
    generalize x0 - 12 = L at R hinit
    generalize y0 - 12 = T at R hinit
    have hPne : P ≠ [] := fun z => by rw [z] at hP5; cases hP5
    have rep := fun i hi => pls_rep hr2 hH hPne R i hi
    have len := pls_len (H := H) (N := W * H) hr2 hP5
    have ne := pls_ne (H := H) (N := W * H) hr2 hPne
    have hlt : ∀ i, i ≤ 12 → ∀ p ∈ pls r H (W * H) P i, p < 2 ^ (W * H) := fun i hi => rep_lt (rep i hi) hH
    have sz : ∀ i, i ≤ k → ∀ bi, Told (nxs r i (stOf b)) bi → sizeP (pls r H (W * H) P i) = bi.length := fun i hi bi h => rep_size (rep i (by omega)) hH h
    refine ⟨fun i => .obj CB (bitFs r L T H (2 ^ (W * H) - 1) (pls r H (W * H) P i)), fun i => (sizeP (pls r H (W * H) P i) : Nat), ?_, fun i hi => ?_, fun i hi bi h => ?_, fun i hi bi h => by rw [sz i hi bi h]⟩
    · show R_rInit CB CC _ (runFs r 12 ((sizeP (pls r H (W * H) P 0) : Nat) : Int)) _
      rw [sz 0 (Nat.zero_le _) b hT]
      exact hinit
    · obtain ⟨bi, Ti⟩ := G.ex (show i ≤ k by omega)
      have hl := G.len (show i ≤ k by omega) Ti
      have hs := sz i (by omega) bi Ti
      refine ⟨r, 12 - (i : Int), _, rfl, rfl, rfl, by omega, by omega, .inl ⟨L, T, H, W * H, _, hr2, ne i, by have := len i; omega, hlt i (by omega), by omega, by have := len (i + 1); exact Nat.le_trans this (by decide), hlt (i + 1) (by omega), rfl, rfl, ?_⟩⟩
      rw [show 12 - (i : Int) - 1 = 12 - ((i + 1 : Nat) : Int) by omega]
      rfl
    · refine ⟨r, _, _, rfl, rfl, rfl, rfl, .inl ⟨L, T, H, _, _, by have := len i; omega, hH, by omega, fun p hp => by have := binL_fits (hlt i (by omega) p hp); omega, rfl, ?_⟩⟩
      rw [rep_sort (rep i (by omega)) hH h, rows_d]

/-! ### runs of any length: a floor laid anew after twelve steps -/
theorem rInit_floor {CB CC : Addr} {ds : List PyData} {fs : FsF} {cd : CD} (h : R_rInit CB CC ds fs cd) : ∃ C1 fs1, cd = .obj C1 fs1 ∧ R_floorOf CB CC ds C1 fs1 := by
  rcases h with ⟨r, b, x0, y0, x1, y1, rfl, hr2, hb, hf, rfl, rfl⟩ | ⟨r, rfl, rfl, rfl⟩
  · exact ⟨_, _, rfl, .inl ⟨r, b, x0, y0, x1, y1, rfl, hr2, hb, hf, rfl, rfl⟩⟩
  · exact ⟨_, _, rfl, .inr ⟨r, rfl, rfl, rfl⟩⟩
/-- what is left of the margin behind i steps -/
def spr (i : Nat) : Int := if i = 0 then 12 else 11 - (((i - 1) % 12 : Nat) : Int)
structure RunAt (CB CC : Addr) (r : Rl) (b : List Cell) (k : Nat) (cds : Nat → CD) (ms : Nat → Int) : Prop where
  init : R_rInit CB CC [r.d, bD b] (runFs r 12 (ms 0)) (cds 0)
  adv : ∀ i, i < k → R_rAdv2 CB CC (runFs r (spr i) (ms i)) (cds i) [] .none (runFs r (spr (i + 1)) (ms (i + 1))) (cds (i + 1))
  board : ∀ i, i ≤ k → ∀ bi, Told (nxs r i (stOf b)) bi → R_rBoard CB CC (runFs r (spr i) (ms i)) (cds i) [] (bD bi) (runFs r (spr i) (ms i)) (cds i)
  many : ∀ i, i ≤ k → ∀ bi, Told (nxs r i (stOf b)) bi → ms i = (bi.length : Nat)
theorem nxs_add (r : Rl) (f : Fl) (k : Nat) : ∀ j, nxs r j (nxs r k f) = nxs r (j + k) f
  | 0 => by rw [Nat.zero_add]; rfl
  | j + 1 => by
    rw [show j + 1 + k = (j + k) + 1 by omega]
    show nx r (nxs r j (nxs r k f)) = nx r (nxs r (j + k) f)
    rw [nxs_add r f k j]
theorem rBoard_s {CB CC : Addr} {r : Rl} {s s' m m' : Int} {cd : CD} {d : PyData} (h : R_rBoard CB CC (runFs r s m) cd [] d (runFs r s m) cd) : R_rBoard CB CC (runFs r s' m') cd [] d (runFs r s' m') cd := by
  obtain ⟨r1, s1, m1, e, _, _, _, h⟩ := h
  have e1 := (runFs_inj e).1
  have hr : ∀ a c : Int, runFs r a c = runFs r1 a c := fun a c => by unfold runFs; rw [e1]
  refine ⟨r1, s', m', hr _ _, rfl, rfl, rfl, ?_⟩
  exact h
/-- the floor that step i stands on, and how many steps it has made -/
def sg (i : Nat) : Nat := (i - 1) / 12
def tm (i : Nat) : Nat := if i = 0 then 0 else (i - 1) % 12 + 1
theorem sg_tm (i : Nat) : tm i + 12 * sg i = i ∧ tm i ≤ 12 ∧ spr i = 12 - (tm i : Int) := by
  unfold sg tm spr
  split
  · omega
  · omega
theorem sg_same {i : Nat} (h : tm i < 12) : sg (i + 1) = sg i ∧ tm (i + 1) = tm i + 1 := by
  unfold sg tm at *
  split at h
  · rename_i z
    subst z
    exact ⟨rfl, rfl⟩
  · rename_i z
    rw [if_neg (by omega), if_neg z]
    omega
theorem sg_next {i : Nat} (h : tm i = 12) : sg (i + 1) = sg i + 1 ∧ tm (i + 1) = 1 := by
  unfold sg tm at *
  split at h
  · omega
  · rename_i z
    rw [if_neg (by omega)]
    omega
theorem run_at (CB CC : Addr) {r : Rl} (hr2 : Rule r) {b : List Cell} {k : Nat} (G : Go r (stOf b) k) (hT : Told (stOf b) b) : ∃ cds ms, RunAt CB CC r b k cds ms := by
  have hseg : ∀ q : Nat, ∃ X : List Cell × (Nat → CD) × (Nat → Int), 12 * q ≤ k → Told (nxs r (12 * q) (stOf b)) X.1 ∧ RunS CB CC r X.1 (min 12 (k - 12 * q)) X.2.1 X.2.2 := fun q => by
    by_cases z : 12 * q ≤ k
    · obtain ⟨bq, Tq⟩ := G.ex z
      have eq := told_st Tq
      have Gq : Go r (stOf bq) (min 12 (k - 12 * q)) := fun j hj => by
        rw [eq, nxs_add]
        exact G (j + 12 * q) (by omega)
      obtain ⟨cds, ms, R⟩ := run_s CB CC hr2 Gq (Nat.min_le_left _ _) (by rw [eq]; exact Tq)
      exact ⟨(bq, cds, ms), fun _ => ⟨Tq, R⟩⟩
    · exact ⟨([], fun _ => .lst [], fun _ => 0), fun h => absurd h z⟩
  obtain ⟨F, hF⟩ := Classical.skolem.mp hseg
  have up : ∀ i, i ≤ k → 12 * sg i ≤ k ∧ tm i ≤ min 12 (k - 12 * sg i) := fun i hi => by
    have := sg_tm i
    omega
  have told : ∀ i, i ≤ k → ∀ bi, Told (nxs r i (stOf b)) bi → Told (nxs r (tm i) (stOf (F (sg i)).1)) bi := fun i hi bi h => by
    rw [told_st (hF (sg i) (up i hi).1).1, nxs_add, (sg_tm i).1]
    exact h
  have many : ∀ i, i ≤ k → ∀ bi, Told (nxs r i (stOf b)) bi → (F (sg i)).2.2 (tm i) = (bi.length : Nat) := fun i hi bi h => (hF (sg i) (up i hi).1).2.many (tm i) (up i hi).2 bi (told i hi bi h)
  have board : ∀ i, i ≤ k → ∀ bi, Told (nxs r i (stOf b)) bi → R_rBoard CB CC (runFs r (spr i) ((F (sg i)).2.2 (tm i))) ((F (sg i)).2.1 (tm i)) [] (bD bi) (runFs r (spr i) ((F (sg i)).2.2 (tm i))) ((F (sg i)).2.1 (tm i)) := fun i hi bi h => by
    rw [(sg_tm i).2.2]
    exact (hF (sg i) (up i hi).1).2.board (tm i) (up i hi).2 bi (told i hi bi h)
  refine ⟨fun i => (F (sg i)).2.1 (tm i), fun i => (F (sg i)).2.2 (tm i), ?_, fun i hi => ?_, board, many⟩
  · have h0 := hF 0 (Nat.zero_le _)
    have e : (F 0).1 = b := told_uniq h0.1 hT
    have := h0.2.init
    rw [e] at this
    exact this
  · by_cases z : tm i < 12
    · obtain ⟨e1, e2⟩ := sg_same z
      have h := (hF (sg i) (up i (by omega)).1).2.adv (tm i) (by have := up (i + 1) (by omega); omega)
      refine .inl ?_
      show R_rAdv CB CC (runFs r (spr i) ((F (sg i)).2.2 (tm i))) ((F (sg i)).2.1 (tm i)) [] .none (runFs r (spr (i + 1)) ((F (sg (i + 1))).2.2 (tm (i + 1)))) ((F (sg (i + 1))).2.1 (tm (i + 1)))
      rw [(sg_tm i).2.2, (sg_tm (i + 1)).2.2, e1, e2]
      exact h
    · have z : tm i = 12 := by have := sg_tm i; omega
      obtain ⟨e1, e2⟩ := sg_next z
      have hi12 : i = 12 * (sg i + 1) := by have := sg_tm i; omega
      obtain ⟨hq, hR⟩ := hF (sg i + 1) (by omega)
      have hq2 : Told (nxs r i (stOf b)) (F (sg i + 1)).1 := by rw [hi12]; rw [← hi12]; rw [← hi12] at hq; exact hq
      have hm := many i (by omega) _ hq2
      have hm2 : (F (sg i + 1)).2.2 0 = ((F (sg i + 1)).1.length : Nat) := hR.many 0 (Nat.zero_le _) _ (by
        show Told (stOf (F (sg i + 1)).1) _
        rw [told_st hq]; exact hq)
      have hlen := G.len (show i ≤ k by omega) hq2
      obtain ⟨C1, fs1, h1, h2⟩ := rInit_floor hR.init
      have hadv := hR.adv 0 (by have := up (i + 1) (by omega); omega)
      have hb := board i (by omega) _ hq2
      refine .inr ⟨r, (F (sg i)).2.2 (tm i), (F (sg i + 1)).1, C1, fs1, ?_, rfl, rfl, by omega, hb, h2, ?_⟩
      · rw [(sg_tm i).2.2, z]; rfl
      · show R_rAdv CB CC (runFs r 12 ((F (sg i)).2.2 (tm i))) (.obj C1 fs1) [] .none (runFs r (spr (i + 1)) ((F (sg (i + 1))).2.2 (tm (i + 1)))) ((F (sg (i + 1))).2.1 (tm (i + 1)))
        rw [hm, ← hm2, ← h1, (sg_tm (i + 1)).2.2, e1, e2]
        exact hadv
/-! ### steps, few and many -/
def R_after (ds : List PyData) (o : DOut) : Prop := ∃ (r : Rl) (b : List Cell) (k : Nat) (b' : List Cell), ds = [r.d, bD b, .int (k : Int)] ∧ Rule r ∧ Go r (stOf b) k ∧ k ≤ 2000 ∧ Told (stOf b) b ∧ Told (nxs r k (stOf b)) b' ∧ o = .ok (bD b')
theorem ok_board_after {P : Program} {w : World} {K : Fg} {mg : Str → Option Value} {base : Heap} {f : Addr} {fd : FuncData} {C_BitFloor C_CellFloor C_Run : Addr} (F : Fun K "board_after" "board_after" s_board_after f fd)
    (m_range : mg "range" = none)
    (c_Run_init : Mkr P w K mg base 5 "Run" C_Run (spI K C_Run 2 (R_rInit C_BitFloor C_CellFloor)))
    (c_Run_advance : Mtd P w K mg base 6 C_Run "advance" (spF K C_Run 0 (R_rAdv2 C_BitFloor C_CellFloor)))
    (c_Run_board : Mtd P w K mg base 3 C_Run "board" (spF K C_Run 0 (R_rBoard C_BitFloor C_CellFloor)))
    (cl_Run : Cls K C_Run) :
    FnOk P w K mg base (L2.CX P w) 7 f fd ["rule", "board", "many"] (spD K 3 R_after) := by
  obtain ⟨f_Run_advance, fd_Run_advance, ps_Run_advance, G_Run_advance, M_Run_advance, B_Run_advance⟩ := c_Run_advance
  obtain ⟨f_Run_board, fd_Run_board, ps_Run_board, G_Run_board, M_Run_board, B_Run_board⟩ := c_Run_board
  refine F.okX sc_board_after (fun vs H Q E h => len_D h) (fun cdv A outer s H vs Q E hr h => ⟨_, (pss_cons (ps_if (pt_cmpR (op_eqA hr.units) (pv 2) pe_int (nomark _)) (pss_one (ps_ret (pv 1))) pss_nil)
      (pss_cons (ps_set (i := 3) sc_board_after.nd rfl (by first | exact Or.inl rfl | exact Or.inr rfl) (pe_mkr (j := 5) c_Run_init (hr.mono (by decide)) (by decide) passL (pa_cons (pv 0) (pa_cons (pv 1) pa_nil))))
      (pss_cons (ps_for (passes_of rfl) rfl (pi_range1 (by rfl) m_range (pa_cons (pv 2) pa_nil)) (pg_name (i := 4) sc_board_after.nd rfl (by first | exact Or.inl rfl | exact Or.inr rfl)) (pss_one (ps_expr (pe_meth0 (pv 3) cl_Run M_Run_advance G_Run_advance (hr.mono (show 6 ≤ 6 by decide)) B_Run_advance .nil passL))))
      (pss_one (ps_ret (pe_meth0 (pv 3) cl_Run M_Run_board G_Run_board (hr.mono (show 3 ≤ 6 by decide)) B_Run_board .nil passL)))))),
    fn_D h fun ds o hk hR => ?_⟩)
  try dsimp only [L2.cxOf]
  obtain ⟨r, b, k, b', rfl, hr2, G, hk, hT, hT', rfl⟩ := hR
  walk_at "zfq"
  rcases Nat.eq_zero_or_pos k with z | z
  · subst z
    have : b' = b := told_uniq hT' hT
    subst this
    walk_at "zfq"
    first | rfl | exact ⟨_, rfl, rfl⟩
  · obtain ⟨cds, ms, RA⟩ := run_at C_BitFloor C_CellFloor hr2 G hT
    rw [decide_eq_false (show ¬ ((k : Int) = 0) by omega)]
    walk_at "zfq"
    refine ⟨_, _, _, by walk_at "zd", rfl, RA.init, fun p q => ?_⟩
    walk_at "zfq"
    refine ⟨by omega, by omega, fun i S2 M2 => ∃ (c4 : Option ZV) (q : Addr), S2 = [some (.d r.d), some (.d (bD b)), some (.d (.int (k : Int))), some (.c p), c4] ∧ M2 = [(p, true, .obj C_Run (runFs r (spr i) (ms i) q)), (q, true, cds i)], ⟨_, q, rfl, rfl⟩, ?_, ?_⟩
    · rintro i S2 M2 hi ⟨c4, q, rfl, rfl⟩
      rw [Int.toNat_natCast] at hi
      walk_at "zfq"
      refine ⟨⟨_, _, m0, rfl⟩, ?_⟩
      walk_at "zz"
      refine ⟨q, _, _, _, _, _, _, [], by walk_at "zd", rfl, .refl _, RA.adv i hi, fun q' => ?_⟩
      walk_at "zz"
      exact ⟨_, q', rfl, rfl⟩
    · rintro S2 M2 ⟨c4, q, rfl, rfl⟩
      rw [Int.toNat_natCast]
      walk_at "zfq"
      refine ⟨⟨_, _, m0, rfl⟩, ?_⟩
      walk_at "zz"
      refine ⟨q, _, _, _, _, _, _, [], by walk_at "zd", rfl, .refl _, RA.board k (Nat.le_refl k) b' hT', fun q' => ?_⟩
      first | exact ⟨_, rfl, rfl⟩ | rfl
def R_step (ds : List PyData) (o : DOut) : Prop := ∃ (r : Rl) (b b' : List Cell), ds = [r.d, bD b] ∧ Rule r ∧ Go r (stOf b) 1 ∧ Told (stOf b) b ∧ Told (nx r (stOf b)) b' ∧ b.length ≤ 1000 ∧ o = .ok (bD b')
theorem ok_step {P : Program} {w : World} {K : Fg} {mg : Str → Option Value} {base : Heap} {f : Addr} {fd : FuncData} {C_BadBoard : Addr} (F : Fun K "step" "step" s_step f fd)
    (c_check_rule : Cal P w K mg base 4 "check_rule" (spD K 1 R_chkRule))
    (c_check_board : Cal P w K mg base 4 "check_board" (spD K 1 (R_chk C_BadBoard)))
    (c_board_after : Cal P w K mg base 7 "board_after" (spD K 3 R_after)) :
    FnOk P w K mg base (L2.CX P w) 8 f fd ["rule", "board"] (spD K 2 R_step) := by
  refine F.okX sc_step (fun vs H Q E h => len_D h) (fun cdv A outer s H vs Q E hr h => ⟨_, (pss_cons (ps_expr (pe_cl c_check_rule hr (show 4 ≤ 7 by decide) passL (pa_cons (pv 0) pa_nil)))
      (pss_cons (ps_expr (pe_cl c_check_board hr (show 4 ≤ 7 by decide) passL (pa_cons (pv 1) pa_nil)))
      (pss_one (ps_ret (pe_cl c_board_after hr (show 7 ≤ 7 by decide) passL (pa_cons (pv 0) (pa_cons (pv 1) (pa_cons pe_int pa_nil)))))))),
    fn_D h fun ds o hk hR => ?_⟩)
  try dsimp only [L2.cxOf]
  obtain ⟨r, b, b', rfl, hr2, G, hT, hT', hl, rfl⟩ := hR
  walk_at "zq"
  refine ⟨_, _, by walk_at "zd", rfl, ⟨r, rfl, hr2, rfl⟩, ?_⟩
  walk_at "zq"
  refine ⟨_, _, by walk_at "zd", rfl, (G.board (Nat.zero_le _) hT).chk hl, ?_⟩
  walk_at "zq"
  refine ⟨_, _, by walk_at "zd", rfl, ⟨r, b, 1, b', rfl, hr2, G, by omega, hT, hT', rfl⟩, ?_⟩
  first | rfl | exact ⟨_, rfl, rfl⟩
/-! ### lots: mathematics -/
instance decCell : DecidableEq Cell := fun a c => decidable_of_iff (a.x = c.x ∧ a.y = c.y ∧ a.s = c.s) ⟨fun h => by cases a; cases c; obtain ⟨h1, h2, h3⟩ := h; dsimp only at h1 h2 h3; rw [h1, h2, h3], fun h => by rw [h]; exact ⟨rfl, rfl, rfl⟩⟩
def nearC (c e : Cell) : Prop := (e.x - c.x ≤ 2 ∧ c.x - e.x ≤ 2) ∧ (e.y - c.y ≤ 2 ∧ c.y - e.y ≤ 2)
instance (c e : Cell) : Decidable (nearC c e) := inferInstanceAs (Decidable ((e.x - c.x ≤ 2 ∧ c.x - e.x ≤ 2) ∧ (e.y - c.y ≤ 2 ∧ c.y - e.y ≤ 2)))
theorem nearC.symm {c e : Cell} (h : nearC c e) : nearC e c := ⟨⟨h.1.2, h.1.1⟩, ⟨h.2.2, h.2.1⟩⟩
/-- cells that hang together -/
inductive Rch (b : List Cell) : Cell → Cell → Prop
  | here (c : Cell) : Rch b c c
  | step {c e g : Cell} : Rch b c e → g ∈ b → nearC e g → Rch b c g
theorem Rch.trans {b : List Cell} {c e g : Cell} (h : Rch b c e) (h2 : Rch b e g) : Rch b c g := by
  induction h2 with
  | here => exact h
  | step _ hg hn ih => exact .step ih hg hn
theorem Rch.symm {b : List Cell} {c e : Cell} (h : Rch b c e) (hc : c ∈ b) : Rch b e c ∧ e ∈ b := by
  induction h with
  | here => exact ⟨.here _, hc⟩
  | @step e g _ hg hn ih => exact ⟨(Rch.step (.here g) ih.2 hn.symm).trans ih.1, hg⟩
theorem Rch.le {b d : List Cell} {c e : Cell} (h : Rch b c e) (hs : ∀ g ∈ b, g ∈ d) : Rch d c e := by
  induction h with
  | here => exact .here _
  | step _ hg hn ih => exact .step ih (hs _ hg) hn
/-- within a part that nothing outside is near of -/
theorem Rch.within {b d : List Cell} {c e : Cell} (h : Rch b c e) (hc : c ∈ d) (hd : ∀ e ∈ d, ∀ g ∈ b, nearC e g → g ∈ d) : Rch d c e ∧ e ∈ d := by
  induction h with
  | here => exact ⟨.here _, hc⟩
  | step _ hg hn ih =>
    have := hd _ ih.2 _ hg hn
    exact ⟨.step ih.1 this hn, this⟩
structure IsLot (b : List Cell) (c : Cell) (L : List Cell) : Prop where
  sub : L.Sublist b
  mem : ∀ e, e ∈ L ↔ e ∈ b ∧ Rch b c e
theorem lot_ex (b : List Cell) (c : Cell) : ∃ L, IsLot b c L :=
  ⟨b.filter fun e => @decide (Rch b c e) (Classical.propDecidable _), List.filter_sublist, fun e => by rw [List.mem_filter]; exact and_congr Iff.rfl (@decide_eq_true_iff _ (Classical.propDecidable _))⟩
theorem up_eq {a b : List Cell} (ha : a.Pairwise lt2) (hb : b.Pairwise lt2) (h : ∀ c, c ∈ a ↔ c ∈ b) : a = b :=
  List.Perm.eq_of_pairwise (le := lt2) (fun x y _ _ h1 h2 => by unfold lt2 at h1 h2; omega) ha hb ((List.perm_ext_iff_of_nodup (up_nodup ha) (up_nodup hb)).mpr h)
theorem IsLot.uniq {b : List Cell} {c : Cell} {L M : List Cell} (hu : b.Pairwise lt2) (h : IsLot b c L) (h2 : IsLot b c M) : L = M :=
  up_eq (hu.sublist h.sub) (hu.sublist h2.sub) fun e => (h.mem e).trans (h2.mem e).symm
theorem IsLot.within {b d : List Cell} {c : Cell} {L : List Cell} (hu : b.Pairwise lt2) (h : IsLot b c L) (hs : d.Sublist b) (hc : c ∈ d) (hd : ∀ e ∈ d, ∀ g ∈ b, nearC e g → g ∈ d) : IsLot d c L := by
  obtain ⟨L', h'⟩ := lot_ex d c
  have e : L = L' := up_eq (hu.sublist h.sub) (hu.sublist (h'.sub.trans hs)) fun e => by
    rw [h.mem, h'.mem]
    exact ⟨fun ⟨_, q⟩ => ⟨(q.within hc hd).2, (q.within hc hd).1⟩, fun ⟨q1, q2⟩ => ⟨hs.subset q1, q2.le fun g hg => hs.subset hg⟩⟩
  rw [e]
  exact h'
/-- the lots that the first i cells are in -/
structure Lt (b : List Cell) (i : Nat) (ls : List (List Cell)) : Prop where
  lot : ∀ L ∈ ls, ∃ c ∈ b.take i, IsLot b c L ∧ L.head? = some c
  all : ∀ c ∈ b.take i, ∃ L ∈ ls, c ∈ L
  up : ls.Pairwise fun L M => ∃ c e, L.head? = some c ∧ M.head? = some e ∧ lt2 c e
theorem Lt.nil (b : List Cell) : Lt b 0 [] := ⟨fun _ h => (nomatch h), fun c h => by simp at h, .nil⟩
theorem take_next {b : List Cell} {i : Nat} {c : Cell} (h : b[i]? = some c) : b.take (i + 1) = b.take i ++ [c] := by
  rw [List.take_add_one, h]
  rfl
theorem Lt.skip {b : List Cell} {i : Nat} {ls : List (List Cell)} {c : Cell} (T : Lt b i ls) (h : b[i]? = some c) (hc : ∃ L ∈ ls, c ∈ L) : Lt b (i + 1) ls := by
  refine ⟨fun L hL => ?_, fun e he => ?_, T.up⟩
  · obtain ⟨e, he, q⟩ := T.lot L hL
    exact ⟨e, by rw [take_next h]; exact List.mem_append_left _ he, q⟩
  · rw [take_next h] at he
    rcases List.mem_append.mp he with he | he
    · exact T.all e he
    · obtain rfl := List.mem_singleton.mp he
      exact hc
/-- a cell in none of them is near none of them -/
theorem Lt.out {b : List Cell} {i : Nat} {ls : List (List Cell)} (T : Lt b i ls) {c e : Cell} (hc : c ∈ b) (h : ¬ ∃ L ∈ ls, c ∈ L) (hr : Rch b c e) : ¬ ∃ L ∈ ls, e ∈ L := by
  rintro ⟨L, hL, he⟩
  obtain ⟨a, _, hl, _⟩ := T.lot L hL
  exact h ⟨L, hL, (hl.mem c).mpr ⟨hc, ((hl.mem e).mp he).2.trans (hr.symm hc).1⟩⟩
theorem Lt.add {b : List Cell} {i : Nat} {ls : List (List Cell)} {c : Cell} {L : List Cell} (hu : b.Pairwise lt2) (T : Lt b i ls) (h : b[i]? = some c) (hc : ¬ ∃ L ∈ ls, c ∈ L) (hl : IsLot b c L) : Lt b (i + 1) (ls ++ [L]) := by
  have hcb : c ∈ b := List.mem_of_getElem? h
  have cL : c ∈ L := (hl.mem c).mpr ⟨hcb, .here c⟩
  have hd : L.head? = some c := by
    cases L with
    | nil => exact (nomatch cL)
    | cons a t =>
      rcases List.mem_cons.mp cL with e | ht
      · rw [e]
        rfl
      · have hat : lt2 a c := (List.pairwise_cons.mp (hu.sublist hl.sub)).1 c ht
        have ha := (hl.mem a).mp List.mem_cons_self
        obtain ⟨j, hj⟩ := List.mem_iff_getElem?.mp ha.1
        have hji : j < i := by
          rcases Nat.lt_trichotomy j i with z | z | z
          · exact z
          · subst z
            rw [h] at hj
            cases hj
            unfold lt2 at hat
            omega
          · have := pw_at hu z h hj
            unfold lt2 at hat this
            omega
        have : a ∈ b.take i := List.mem_iff_getElem?.mpr ⟨j, by rw [List.getElem?_take_of_lt hji]; exact hj⟩
        exact absurd (T.all a this) (T.out hcb hc ha.2)
  refine ⟨fun M hM => ?_, fun e he => ?_, ?_⟩
  · rw [take_next h]
    rcases List.mem_append.mp hM with hM | hM
    · obtain ⟨e, he, q⟩ := T.lot M hM
      exact ⟨e, List.mem_append_left _ he, q⟩
    · obtain rfl := List.mem_singleton.mp hM
      exact ⟨c, List.mem_append_right _ (List.mem_singleton.mpr rfl), hl, hd⟩
  · rw [take_next h] at he
    rcases List.mem_append.mp he with he | he
    · obtain ⟨M, hM, q⟩ := T.all e he
      exact ⟨M, List.mem_append_left _ hM, q⟩
    · obtain rfl := List.mem_singleton.mp he
      exact ⟨L, List.mem_append_right _ (List.mem_singleton.mpr rfl), cL⟩
  · refine List.pairwise_append.mpr ⟨T.up, List.pairwise_singleton _ _, fun M hM N hN => ?_⟩
    obtain rfl := List.mem_singleton.mp hN
    obtain ⟨e, he, _, hh⟩ := T.lot M hM
    refine ⟨e, c, hh, hd, ?_⟩
    obtain ⟨j, hj⟩ := List.mem_iff_getElem?.mp he
    have hji : j < i := by
      have := (List.getElem?_eq_some_iff.mp hj).1
      rw [List.length_take] at this
      omega
    rw [List.getElem?_take_of_lt hji] at hj
    exact pw_at hu hji hj h
theorem Lt.mem_of {b : List Cell} {i : Nat} {ls ms : List (List Cell)} (hu : b.Pairwise lt2) (T : Lt b i ls) (U : Lt b i ms) {L : List Cell} (h : L ∈ ls) : L ∈ ms := by
  obtain ⟨c, hc, hl, _⟩ := T.lot L h
  obtain ⟨M, hM, cM⟩ := U.all c hc
  obtain ⟨e, he, hm, _⟩ := U.lot M hM
  have hec := (hm.mem c).mp cM
  have heb : e ∈ b := List.mem_of_mem_take he
  have : L = M := up_eq (hu.sublist hl.sub) (hu.sublist hm.sub) fun g => by
    rw [hl.mem, hm.mem]
    exact ⟨fun ⟨q1, q2⟩ => ⟨q1, hec.2.trans q2⟩, fun ⟨q1, q2⟩ => ⟨q1, (hec.2.symm heb).1.trans q2⟩⟩
  rw [this]
  exact hM
theorem Lt.uniq {b : List Cell} {i : Nat} {ls ms : List (List Cell)} (hu : b.Pairwise lt2) (T : Lt b i ls) (U : Lt b i ms) : ls = ms := by
  have irr : ∀ L : List Cell, ¬ ∃ c e, L.head? = some c ∧ L.head? = some e ∧ lt2 c e := by
    rintro L ⟨c, e, h1, h2, h3⟩
    rw [h1] at h2
    cases h2
    unfold lt2 at h3
    omega
  have nd : ∀ {xs : List (List Cell)}, Lt b i xs → xs.Nodup := fun V => V.up.imp fun h e => by subst e; exact irr _ h
  refine List.Perm.eq_of_pairwise (fun x y _ _ h1 h2 => ?_) T.up U.up ((List.perm_ext_iff_of_nodup (nd T) (nd U)).mpr fun L => ⟨T.mem_of hu U, U.mem_of hu T⟩)
  obtain ⟨c, e, a1, a2, a3⟩ := h1
  obtain ⟨c', e', b1, b2, b3⟩ := h2
  rw [a1] at b2
  rw [a2] at b1
  cases b1
  cases b2
  unfold lt2 at a3 b3
  omega
theorem lots_ex {b : List Cell} (hu : b.Pairwise lt2) : ∀ i, i ≤ b.length → ∃ ls, Lt b i ls
  | 0, _ => ⟨[], .nil b⟩
  | i + 1, h => by
    obtain ⟨ls, T⟩ := lots_ex hu i (by omega)
    have hi := List.getElem?_eq_getElem (l := b) (i := i) (by omega)
    by_cases hc : ∃ L ∈ ls, b[i] ∈ L
    · exact ⟨ls, T.skip hi hc⟩
    · obtain ⟨L, hl⟩ := lot_ex b b[i]
      exact ⟨_, T.add hu hi hc hl⟩
/-! ### lots: the cells that are left, by numbers -/
def num (hi : Int) (c : Cell) : Int := c.x * hi + c.y
/-- the steps to what is near -/
def stepsD (hi : Int) : List PyData := gridL (fun i j => .int ((-2 + (i : Int)) * hi + (-2 + (j : Int)))) 5 5 0
abbrev lotFs (hi : Int) : FsF := fun q => [("high", .d (.int hi)), ("steps", .d (.list (stepsD hi))), ("left", .c q)]
def leftD (hi : Int) (cs : List Cell) : List (Key × PyData) := cs.map fun c => (.inl (num hi c), c.d)
/-- the numbers tell the cells apart, and what is near -/
structure Num (hi : Int) (b : List Cell) : Prop where
  far : ∀ c ∈ b, InFar c.x ∧ InFar c.y
  hi1 : 3 ≤ hi ∧ hi ≤ 2 ^ 202
  near : ∀ c ∈ b, ∀ e ∈ b, ∀ a d : Int, (-2 ≤ a ∧ a ≤ 2) → (-2 ≤ d ∧ d ≤ 2) → num hi e = num hi c + (a * hi + d) → e.x = c.x + a ∧ e.y = c.y + d
  up : b.Pairwise fun c e => c.x < e.x ∨ (c.x = e.x ∧ c.y < e.y)
theorem num_of {b : List Cell} (hB : Board b) {y0 y1 : Int} (h : ∀ c ∈ b, y0 ≤ c.y ∧ c.y ≤ y1) (h01 : y0 ≤ y1) (hF : InFar y0 ∧ InFar y1) : Num (y1 - y0 + 3) b := by
  have hFar : FAR = 10 ^ 60 := rfl
  refine ⟨fun c hc => ⟨(hB.ok c hc).1, (hB.ok c hc).2.1⟩, ?_, fun c hc e he a d ha hd hn => ?_, hB.up⟩
  · obtain ⟨h1, h2⟩ := hF
    unfold InFar at h1 h2
    rw [hFar] at h1 h2
    omega
  · have h1 := h c hc
    have h2 := h e he
    unfold num at hn
    generalize hH : y1 - y0 + 3 = H at hn
    have e0 : (e.x - c.x - a) * H = c.y + d - e.y := by
      rw [Int.sub_mul, Int.sub_mul]
      omega
    have e1 : e.x - c.x - a = 0 := by
      rcases Int.lt_trichotomy (e.x - c.x - a) 0 with z | z | z
      · have := Int.mul_le_mul_of_nonneg_right (show e.x - c.x - a ≤ -1 by omega) (show 0 ≤ H by omega)
        omega
      · exact z
      · have := Int.mul_le_mul_of_nonneg_right (show 1 ≤ e.x - c.x - a by omega) (show 0 ≤ H by omega)
        omega
    rw [e1, Int.zero_mul] at e0
    omega
theorem Num.inj {hi : Int} {b : List Cell} (N : Num hi b) {c e : Cell} (hc : c ∈ b) (he : e ∈ b) (h : num hi e = num hi c) : e = c := by
  have := N.near c hc e he 0 0 (by omega) (by omega) (by rw [h]; omega)
  obtain ⟨i, hi1⟩ := List.mem_iff_getElem?.mp hc
  obtain ⟨j, hj1⟩ := List.mem_iff_getElem?.mp he
  rcases Nat.lt_trichotomy i j with z | z | z
  · have := pw_at N.up z hi1 hj1
    omega
  · subst z
    rw [hi1] at hj1
    exact (Option.some.inj hj1).symm
  · have := pw_at N.up z hj1 hi1
    omega
theorem Num.nodup {hi : Int} {b : List Cell} (N : Num hi b) : b.Nodup := N.up.imp fun h e => by subst e; omega
def R_num (fs : List (Str × ZV)) (ds : List PyData) (o : DOut) (fs' : List (Str × ZV)) : Prop := ∃ (hi : Int) (c : Cell), fs.lookup ("high" : Str) = some (.d (.int hi)) ∧ ds = [c.d] ∧ (3 ≤ hi ∧ hi ≤ 2 ^ 202) ∧ InFar c.x ∧ o = .ok (.int (num hi c)) ∧ fs' = fs
theorem ok_LotTaker_number {P : Program} {w : World} {K : Fg} {mg : Str → Option Value} {base : Heap} {f : Addr} {fd : FuncData} {C_LotTaker : Addr} (F : Fun K "_number" "LotTaker._number" s_LotTaker_number f fd)
    (na_LotTaker_high : NoAttr K C_LotTaker "high")
    (cl_LotTaker : Cls K C_LotTaker) :
    FnOk P w K mg base (L2.CX P w) 1 f fd ["self", "cell"] (spO K C_LotTaker 1 R_num) := by
  refine F.okX sc_LotTaker_number (fun vs H Q E h => len_O h) (fun cdv A outer s H vs Q E hr h => ⟨_, (pss_one (ps_ret (pe_op op_addA (pe_op op_mulW (pe_ix ix_seq (pv 1) pe_int (fun _ _ => rfl)) (pe_fld (pv 0) rfl)) (pe_ix ix_seq (pv 1) pe_int (fun _ _ => rfl))))),
    fn_O h fun p fs ds o fs2 hk hR => ?_⟩)
  try dsimp only [L2.cxOf]
  obtain ⟨hi, c, hl, rfl, h1, h2, rfl, rfl⟩ := hR
  have hFar : FAR = 10 ^ 60 := rfl
  unfold InFar at h2
  rw [hFar] at h2
  walk_at "zq"
  refine zw_fld (by assumption) (by assumption) ?_
  walk_at "zq"
  refine ⟨_, _, _, _, rfl, m0, hl, ?_⟩
  refine zo_mulW (wide_mul (a := 202) (b := 204) (by omega) (by omega) (by decide) (by decide) (by decide)) ?_
  walk_at "zq"
  first | exact ⟨⟨_, rfl, rfl⟩, m0⟩ | trace_state
def R_lotInit (ds : List PyData) (fs : FsF) (cd : CD) : Prop := ∃ (b : List Cell) (hi : Int), ds = [bD b] ∧ Board b ∧ Num hi b ∧ ((b = [] ∧ hi = 3) ∨ ∃ x0 y0 x1 y1, BoxOf b x0 y0 x1 y1 ∧ hi = y1 - y0 + 3) ∧ fs = lotFs hi ∧ cd = .dK (leftD hi b)
theorem ok_LotTaker_init {P : Program} {w : World} {K : Fg} {mg : Str → Option Value} {base : Heap} {f : Addr} {fd : FuncData} {C_LotTaker : Addr} (F : Fun K "__init__" "LotTaker.__init__" s_LotTaker_init f fd)
    (na_LotTaker_high : NoAttr K C_LotTaker "high")
    (na_LotTaker_steps : NoAttr K C_LotTaker "steps")
    (m_range : mg "range" = none)
    (na_LotTaker_left : NoAttr K C_LotTaker "left")
    (c_corners : Cal P w K mg base 1 "corners" (spD K 1 R_corners))
    (c_LotTaker_number : Mtd P w K mg base 1 C_LotTaker "_number" (spO K C_LotTaker 1 R_num))
    (cl_LotTaker : Cls K C_LotTaker) :
    FnOk P w K mg base (L2.CX P w) 2 f fd ["self", "board"] (spI K C_LotTaker 1 R_lotInit) := by
  obtain ⟨f_LotTaker_number, fd_LotTaker_number, ps_LotTaker_number, G_LotTaker_number, M_LotTaker_number, B_LotTaker_number⟩ := c_LotTaker_number
  refine F.okX sc_LotTaker_init (fun vs H Q E h => len_I h) (fun cdv A outer s H vs Q E hr h => ⟨_, (pss_cons (ps_asg (pe_tup (pa_cons pe_int (pa_cons pe_int pa_nil))) (pg_tup rfl (pgs_cons (pg_name (i := 2) sc_LotTaker_init.nd rfl (by first | exact Or.inl rfl | exact Or.inr rfl)) (pgs_cons (pg_name (i := 3) sc_LotTaker_init.nd rfl (by first | exact Or.inl rfl | exact Or.inr rfl)) pgs_nil))))
      (pss_cons (ps_if (pt_truth (pv 1) (fun _ => rfl)) (pss_one (ps_asg (pe_odd (pe_cl c_corners hr (show 1 ≤ 1 by decide) passL (pa_cons (pv 1) pa_nil))) (pg_tup rfl (pgs_cons (pg_name (i := 2) sc_LotTaker_init.nd rfl (by first | exact Or.inl rfl | exact Or.inr rfl)) (pgs_cons (pg_name (i := 3) sc_LotTaker_init.nd rfl (by first | exact Or.inl rfl | exact Or.inr rfl)) pgs_nil))))) pss_nil)
      (pss_cons (ps_fld (pv 0) (pe_op op_addA (pe_op op_sub (pv 3) (pv 2)) pe_int) rfl)
      (pss_cons (ps_fld (pv 0) (pe_lc2 (own := [("right", 4), ("down", 5)]) (vs1 := [5]) rfl sc_LotTaker_init.nd (pi_range2 (by rfl) m_range (pa_cons (pe_un un_neg pe_int) (pa_cons pe_int pa_nil))) (blkOk_by (N := N_LotTaker_init) (sc := defScope s_LotTaker_init) (by decide +kernel)) (by decide) (fun _ _ _ _ _ => (pg_name (i := 4) sc_LotTaker_init.nd rfl (by first | exact Or.inl rfl | exact Or.inr rfl))) (fun _ _ _ _ _ => pts_nil) (fun _ _ _ _ _ => (pi_range2 (by rfl) m_range (pa_cons (pe_un un_neg pe_int) (pa_cons pe_int pa_nil)))) (fun _ _ _ _ _ => (pg_name (i := 5) sc_LotTaker_init.nd rfl (by first | exact Or.inl rfl | exact Or.inr rfl))) (fun _ _ _ _ _ => pts_nil) (fun _ _ _ _ _ => (pe_op (show OpR _ (binaryOp .Add) (rAddA K) from op_addA) (pe_op op_mulW (pv 4) (show PE _ _ (tFld K (tVar 0) "high") from pe_fld (pv 0) rfl)) (pv 5)))) rfl)
      (pss_one (ps_fld (pv 0) (pe_dc (own := [("cell", 6)]) rfl sc_LotTaker_init.nd (pi_tup (pv 1)) (blkOk_by (N := N_LotTaker_init) (sc := defScope s_LotTaker_init) (by decide +kernel)) (fun _ _ _ _ _ => (pg_name (i := 6) sc_LotTaker_init.nd rfl (by first | exact Or.inl rfl | exact Or.inr rfl))) (fun _ _ _ _ _ => pts_nil) (fun _ _ _ _ _ => (pe_meth (pv 0) cl_LotTaker M_LotTaker_number G_LotTaker_number (hr.mono (show 1 ≤ 1 by decide)) B_LotTaker_number .nil passL (pa_cons (pv 6) pa_nil))) (fun _ _ _ _ _ => (pv 6))) rfl)))))),
    fn_I h fun p ds fs cd hk hR => ?_⟩)
  try dsimp only [L2.cxOf]
  obtain ⟨b, hi, rfl, hB, N, hh, rfl, rfl⟩ := hR
  have hsz : (sizeLine : Nat) = 16777216 := sizeLine_eq
  walk_at "zfq"
  walk_at "zt"
  refine ⟨_, _, zg_tup rfl (zgs_cons (zgs_cons zgs_nil)), ?_⟩
  refine zs_seq (zs_nx (N := fun S2 M2 => (∃ y0 y1 : Int, InFar y0 ∧ InFar y1 ∧ hi = y1 - y0 + 3 ∧ S2 = [some (.c p), some (.d (bD b)), some (.d (.int y0)), some (.d (.int y1)), none, none, none]) ∧ M2 = [(p, false, .obj C_LotTaker [])]) ?_ ?_)
  · walk_at "zq"
    refine ⟨fun ht => ?_, fun ht => ?_⟩
    · rcases hh with ⟨rfl, _⟩ | ⟨x0, y0, x1, y1, hbox, hy⟩
      · exact absurd ht (by simp)
      · walk_at "zq"
        refine zw_odd (a := .int x0) (b := .int y0) (c := .int x1) (d := .int y1) ?_
        walk_at "zq"
        refine ⟨_, _, allD_cons allD_nil, rfl, ⟨b, x0, y0, x1, y1, rfl, by have := hB.len; omega, hbox, rfl⟩, ?_⟩
        walk_at "zq"
        refine ⟨rfl, ?_⟩
        refine ⟨_, _, zg_tup rfl (zgs_cons (zgs_cons zgs_nil)), ?_⟩
        have hm1 := hbox.y0.1
        have hm2 := hbox.y1.1
        obtain ⟨c1, hc1, e1⟩ := List.mem_map.mp hm1
        obtain ⟨c2, hc2, e2⟩ := List.mem_map.mp hm2
        exact ⟨⟨y0, y1, by rw [← e1]; exact (N.far c1 hc1).2, by rw [← e2]; exact (N.far c2 hc2).2, hy, rfl⟩, rfl⟩
    · walk_at "zq"
      have h0 : b = [] := by
        cases b with
        | nil => rfl
        | cons _ _ => exact absurd ht (by simp)
      rcases hh with ⟨_, h3⟩ | ⟨x0, y0, x1, y1, hbox, hy⟩
      · exact ⟨⟨0, 0, by unfold InFar; rw [show FAR = 10 ^ 60 from rfl]; omega, by unfold InFar; rw [show FAR = 10 ^ 60 from rfl]; omega, h3, rfl⟩, rfl⟩
      · have hm1 := hbox.y0.1
        rw [h0] at hm1
        exact (nomatch hm1)
  rintro S2 M2 ⟨⟨y0, y1, f0, f1, hy, rfl⟩, rfl⟩
  walk_at "zfq"
  show ZW K _ _ _ [(p, false, CD.obj C_LotTaker [("high", .d (.int (y1 - y0 + 3)))])] _ _
  rw [← hy]
  refine zw_lc2RM (a := -2) (b := 3) (a1 := -2) (b1 := 3) (r := 4) (d := 5) (fun i j => .int ((-2 + (i : Int)) * hi + (-2 + (j : Int)))) (by decide) (by decide) rfl rfl (by rw [sizeLine_eq]; decide) (by decide) (by decide) ?_ (fun S2 M2 => ?_) (fun i j D acc hi hj => ?_) ?_
  · walk_at "zq"
    exact ⟨rfl, rfl⟩
  · walk_at "zq"
    exact ⟨rfl, rfl⟩
  · walk_at "zfq"
    refine zo_mulW (wide_mul (a := 2) (b := 204) (by omega) (by have := N.hi1; omega) (by decide) (by decide) (by decide)) ?_
    walk_at "zq"
    exact ⟨rfl, rfl⟩
  walk_at "zfq"
  show ZW K _ _ _ [(p, false, CD.obj C_LotTaker [("high", .d (.int hi)), ("steps", .d (.list (stepsD hi)))])] _ _
  refine zw_dcK ?_
  walk_at "zq"
  refine ⟨b.map Cell.d, b.map fun c => (num hi c, c.d), rfl, by rw [List.length_map]; have := hB.len; omega, by rw [List.length_map, List.length_map], fun i x r hx hr => ?_, fun q => ?_⟩
  · rw [List.getElem?_map] at hx hr
    obtain ⟨c, hc, rfl⟩ := Option.map_eq_some_iff.mp hx
    rw [hc] at hr
    cases hr
    refine ⟨_, _, ?_, zg_name, fun D kvs => ⟨?_, ?_⟩⟩
    · simp
    · walk_at "zfq"
      refine ⟨⟨_, _, m1 m0, rfl⟩, ?_⟩
      walk_at "zfq"
      refine ⟨_, _, _, _, _, _, allD_cons allD_nil, rfl, ⟨hi, c, rfl, rfl, N.hi1, (N.far c (List.mem_of_getElem? hc)).1, rfl, rfl⟩, .there .here, ?_⟩
      exact ⟨rfl, rfl⟩
    · walk_at "zfq"
      exact ⟨rfl, rfl⟩
  walk_at "zfq"
  rw [rowsK_id (by
    rw [List.map_map]
    refine List.Pairwise.map _ (fun c e h => h) ?_
    refine (Num.nodup N).imp_of_mem fun hc he hne h => hne (N.inj he hc h))]
  rw [List.map_map]
  exact ⟨q, .inr (List.Sublist.refl _)⟩
theorem heldK_left (hi : Int) (cs : List Cell) (n : Int) : heldK (leftD hi cs) (.inl n) = (cs.find? fun e => decide (num hi e = n)).map Cell.d := by
  unfold heldK leftD
  rw [List.find?_map, Option.map_map]
  have : ((fun kv : Key × PyData => decide (kv.1 = (.inl n : Key))) ∘ fun c : Cell => ((.inl (num hi c), c.d) : Key × PyData)) = fun e => decide (num hi e = n) := by
    funext e
    show decide ((.inl (num hi e) : Key) = .inl n) = _
    by_cases z : num hi e = n
    · rw [z, decide_eq_true rfl, decide_eq_true rfl]
    · rw [decide_eq_false z, decide_eq_false fun y => z (Sum.inl.inj y)]
  rw [this]
  rfl
theorem Num.find {hi : Int} {b : List Cell} (N : Num hi b) {cs : List Cell} (hs : ∀ e ∈ cs, e ∈ b) {c : Cell} (hc : c ∈ b) : (cs.find? fun e => decide (num hi e = num hi c)) = if c ∈ cs then some c else none := by
  split
  · rename_i h
    cases hf : cs.find? fun e => decide (num hi e = num hi c) with
    | none => exact absurd (decide_eq_true rfl) (List.find?_eq_none.mp hf c h)
    | some e =>
      have h1 := List.find?_some hf
      rw [N.inj hc (hs e (List.mem_of_find?_eq_some hf)) (of_decide_eq_true h1)]
  · rename_i h
    refine List.find?_eq_none.mpr fun e he z => h ?_
    rw [← N.inj hc (hs e he) (of_decide_eq_true z)]
    exact he
theorem dropD_left {hi : Int} {b : List Cell} (N : Num hi b) {cs : List Cell} (hs : ∀ e ∈ cs, e ∈ b) {c : Cell} (hc : c ∈ b) : dropD (leftD hi cs) (.inl (num hi c)) = leftD hi (cs.filter fun e => decide (e ≠ c)) := by
  unfold dropD leftD
  rw [List.filter_map]
  congr 1
  refine List.filter_congr fun e he => ?_
  show decide ((.inl (num hi e) : Key) ≠ .inl (num hi c)) = decide (e ≠ c)
  by_cases z : e = c
  · subst z
    simp
  · have y : ¬ num hi e = num hi c := fun y => z (N.inj hc (hs e he) y)
    simp [z, y]
def R_has (fs : FsF) (cd : CD) (ds : List PyData) (d : PyData) (fs' : FsF) (cd' : CD) : Prop := ∃ (hi : Int) (b cs : List Cell) (c : Cell), fs = lotFs hi ∧ cd = .dK (leftD hi cs) ∧ Num hi b ∧ (∀ e ∈ cs, e ∈ b) ∧ c ∈ b ∧ ds = [c.d] ∧ d = .bool (decide (c ∈ cs)) ∧ fs' = fs ∧ cd' = cd
theorem ok_LotTaker_has {P : Program} {w : World} {K : Fg} {mg : Str → Option Value} {base : Heap} {f : Addr} {fd : FuncData} {C_LotTaker : Addr} (F : Fun K "has" "LotTaker.has" s_LotTaker_has f fd)
    (na_LotTaker_left : NoAttr K C_LotTaker "left")
    (c_LotTaker_number : Mtd P w K mg base 1 C_LotTaker "_number" (spO K C_LotTaker 1 R_num))
    (cl_LotTaker : Cls K C_LotTaker) :
    FnOk P w K mg base (L2.CX P w) 3 f fd ["self", "cell"] (spF K C_LotTaker 1 R_has) := by
  obtain ⟨f_LotTaker_number, fd_LotTaker_number, ps_LotTaker_number, G_LotTaker_number, M_LotTaker_number, B_LotTaker_number⟩ := c_LotTaker_number
  refine F.okX sc_LotTaker_has (fun vs H Q E h => len_F h) (fun cdv A outer s H vs Q E hr h => ⟨_, (pss_one (ps_ret (pe_cmp (pc_din (hu_of hr) (pe_meth (pv 0) cl_LotTaker M_LotTaker_number G_LotTaker_number (hr.mono (show 1 ≤ 2 by decide)) B_LotTaker_number .nil passL (pa_cons (pv 1) pa_nil)) (pe_fld (pv 0) rfl))))),
    fn_F h fun p q fs cd ds d fs2 cd2 hk hR => ?_⟩)
  try dsimp only [L2.cxOf]
  obtain ⟨hi, b, cs, c, rfl, rfl, N, hs, hc, rfl, rfl, rfl, rfl⟩ := hR
  refine zs_ret (zw_dinK (zw_methO0 ?_))
  walk_at "zfq"
  refine ⟨⟨_, _, m0, rfl⟩, ?_⟩
  walk_at "zfq"
  refine ⟨_, _, _, _, _, _, allD_cons allD_nil, rfl, ⟨hi, c, rfl, rfl, N.hi1, (N.far c hc).1, rfl, rfl⟩, .here, ?_⟩
  refine ⟨_, rfl, ?_⟩
  walk_at "zfq"
  refine ⟨_, _, _, rfl, m1 m0, ?_⟩
  rw [heldK_left, N.find hs hc]
  by_cases h : c ∈ cs
  · rw [if_pos h, decide_eq_true h]
    exact ⟨rfl, q, false, .inl (List.Sublist.refl _)⟩
  · rw [if_neg h, decide_eq_false h]
    exact ⟨rfl, q, false, .inl (List.Sublist.refl _)⟩
/-! ### taking a lot: mathematics -/
structure TakeI (cs : List Cell) (c : Cell) (A W : List Cell) : Prop where
  nd : A.Nodup
  sub : ∀ e ∈ A, e ∈ cs
  wa : ∀ e ∈ W, e ∈ A
  wl : W.length ≤ A.length
  me : c ∈ A
  rch : ∀ e ∈ A, Rch cs c e
  cl : ∀ e ∈ A, e ∉ W → ∀ g ∈ cs, nearC e g → g ∈ A
theorem TakeI.next {cs : List Cell} {c e : Cell} {A W L : List Cell} (T : TakeI cs c A (W ++ [e])) (hn : L.Nodup) (hm : ∀ g, g ∈ L ↔ (g ∈ cs ∧ g ∉ A) ∧ nearC e g) : TakeI cs c (A ++ L) (W ++ L) := by
  have he : e ∈ A := T.wa e (by simp)
  refine ⟨List.nodup_append.mpr ⟨T.nd, hn, fun x hx y hy z => ?_⟩, fun x hx => ?_, fun x hx => ?_, by have := T.wl; simp only [List.length_append, List.length_singleton] at this ⊢; omega, List.mem_append_left _ T.me, fun x hx => ?_, fun x hx hw g hg hng => ?_⟩
  · subst z
    exact ((hm x).mp hy).1.2 hx
  · rcases List.mem_append.mp hx with h | h
    · exact T.sub x h
    · exact ((hm x).mp h).1.1
  · rcases List.mem_append.mp hx with h | h
    · exact List.mem_append_left _ (T.wa x (List.mem_append_left _ h))
    · exact List.mem_append_right _ h
  · rcases List.mem_append.mp hx with h | h
    · exact T.rch x h
    · exact .step (T.rch e he) ((hm x).mp h).1.1 ((hm x).mp h).2
  · by_cases hgA : g ∈ A
    · exact List.mem_append_left _ hgA
    rcases List.mem_append.mp hx with h | h
    · by_cases z : x = e
      · subst z
        exact List.mem_append_right _ ((hm g).mpr ⟨⟨hg, hgA⟩, hng⟩)
      · refine List.mem_append_left _ (T.cl x h (fun q => ?_) g hg hng)
        rcases List.mem_append.mp q with q | q
        · exact hw (List.mem_append_left _ q)
        · exact z (List.mem_singleton.mp q)
    · exact absurd (List.mem_append_right _ h) hw
theorem TakeI.start {cs : List Cell} {c : Cell} (hc : c ∈ cs) : TakeI cs c [c] [c] :=
  ⟨List.pairwise_singleton _ _, fun e h => by rw [List.mem_singleton.mp h]; exact hc, fun e h => h, Nat.le_refl _, List.mem_singleton.mpr rfl, fun e h => by rw [List.mem_singleton.mp h]; exact .here c, fun e h q => absurd h q⟩
theorem TakeI.done {cs : List Cell} {c : Cell} {A L : List Cell} (hu : cs.Pairwise lt2) (T : TakeI cs c A []) (hL : IsLot cs c L) : sortI (A.map Cell.r) = L.map Cell.r ∧ ∀ e, e ∈ A ↔ e ∈ L := by
  have hm : ∀ e, e ∈ A ↔ e ∈ L := fun e => by
    rw [hL.mem]
    refine ⟨fun h => ⟨T.sub e h, T.rch e h⟩, fun h => ?_⟩
    exact (h.2.within (d := A) T.me fun x hx g hg hn => T.cl x hx (fun z => nomatch z) g hg hn).2
  have hp : L.Perm A := (List.perm_ext_iff_of_nodup (up_nodup (hu.sublist hL.sub)) T.nd).mpr fun e => (hm e).symm
  exact ⟨(sortI_uniq (hp.map _) (List.pairwise_map.mpr ((hu.sublist hL.sub).imp leI_cells))).symm, hm⟩
/-- the steps, as pairs -/
def prs : List (Int × Int) := (List.range 25).map fun k => (-2 + ((k / 5 : Nat) : Int), -2 + ((k % 5 : Nat) : Int))
theorem steps_prs (hi : Int) : stepsD hi = prs.map fun a => .int (a.1 * hi + a.2) := rfl
theorem prs_in : ∀ a ∈ prs, (-2 ≤ a.1 ∧ a.1 ≤ 2) ∧ (-2 ≤ a.2 ∧ a.2 ≤ 2) := by decide
theorem prs_nd : prs.Pairwise (· ≠ ·) := by decide
theorem in_prs {a d : Int} (ha : -2 ≤ a ∧ a ≤ 2) (hd : -2 ≤ d ∧ d ≤ 2) : (a, d) ∈ prs := by
  refine List.mem_map.mpr ⟨((a + 2) * 5 + (d + 2)).toNat, List.mem_range.mpr (by omega), ?_⟩
  have h1 : ((a + 2) * 5 + (d + 2)).toNat / 5 = (a + 2).toNat := by omega
  have h2 : ((a + 2) * 5 + (d + 2)).toNat % 5 = (d + 2).toNat := by omega
  rw [h1, h2]
  exact Prod.ext (by show _ = a; omega) (by show _ = d; omega)
def hit (hi : Int) (left : List Cell) (e : Cell) (a : Int × Int) : Option Cell := left.find? fun g => decide (num hi g = num hi e + (a.1 * hi + a.2))
theorem hit_of {hi : Int} {b : List Cell} (N : Num hi b) {left : List Cell} (hs : ∀ g ∈ left, g ∈ b) {e g : Cell} (he : e ∈ b) {a : Int × Int} (ha : a ∈ prs) (h : hit hi left e a = some g) : g ∈ left ∧ g.x = e.x + a.1 ∧ g.y = e.y + a.2 := by
  have h1 := List.mem_of_find?_eq_some h
  have h2 : num hi g = num hi e + (a.1 * hi + a.2) := of_decide_eq_true (List.find?_some (p := fun g => decide (num hi g = num hi e + (a.1 * hi + a.2))) h)
  exact ⟨h1, N.near e he g (hs g h1) a.1 a.2 (prs_in a ha).1 (prs_in a ha).2 h2⟩
def nearL (hi : Int) (left : List Cell) (e : Cell) (ps : List (Int × Int)) : List Cell := ps.filterMap (hit hi left e)
theorem nearL_next {hi : Int} {left : List Cell} {e : Cell} {i : Nat} {a : Int × Int} (h : prs[i]? = some a) : nearL hi left e (prs.take (i + 1)) = nearL hi left e (prs.take i) ++ (hit hi left e a).toList := by
  unfold nearL
  rw [List.take_add_one, h, List.filterMap_append]
  congr 1
theorem nearL_nd {hi : Int} {b : List Cell} (N : Num hi b) {left : List Cell} (hs : ∀ g ∈ left, g ∈ b) {e : Cell} (he : e ∈ b) : (nearL hi left e prs).Nodup := by
  refine List.pairwise_filterMap.mpr (prs_nd.imp_of_mem fun {a a'} h1 h2 hne g hg g' hg' z => hne ?_)
  subst z
  have q1 := hit_of N hs he h1 hg
  have q2 := hit_of N hs he h2 hg'
  exact Prod.ext (by omega) (by omega)
theorem mem_nearL {hi : Int} {b : List Cell} (N : Num hi b) {left : List Cell} (hs : ∀ g ∈ left, g ∈ b) {e : Cell} (he : e ∈ b) (g : Cell) : g ∈ nearL hi left e prs ↔ g ∈ left ∧ nearC e g := by
  unfold nearL
  rw [List.mem_filterMap]
  constructor
  · rintro ⟨a, ha, h⟩
    obtain ⟨h1, h2, h3⟩ := hit_of N hs he ha h
    have := prs_in a ha
    exact ⟨h1, by unfold nearC; omega⟩
  · rintro ⟨h1, h2⟩
    unfold nearC at h2
    refine ⟨(g.x - e.x, g.y - e.y), in_prs (by omega) (by omega), ?_⟩
    have hq : num hi e + ((g.x - e.x) * hi + (g.y - e.y)) = num hi g := by
      unfold num
      rw [Int.sub_mul]
      omega
    unfold hit
    dsimp only
    rw [hq, N.find hs (hs g h1), if_pos h1]
theorem fewer {cs A L : List Cell} (hc : cs.Nodup) (hn : L.Nodup) (hm : ∀ g ∈ L, g ∈ cs ∧ g ∉ A) : (cs.filter fun e => decide (e ∉ A ++ L)).length + L.length = (cs.filter fun e => decide (e ∉ A)).length := by
  have h1 : (cs.filter fun e => decide (e ∉ A ++ L)) = (cs.filter fun e => decide (e ∉ A)).filter fun e => decide (e ∉ L) := by
    rw [List.filter_filter]
    refine List.filter_congr fun e _ => ?_
    by_cases h1 : e ∈ A <;> by_cases h2 : e ∈ L <;> simp [h1, h2]
  have h2 : ((cs.filter fun e => decide (e ∉ A)).filter fun e => decide (e ∈ L)).Perm L := by
    refine (List.perm_ext_iff_of_nodup ((hc.filter _).filter _) hn).mpr fun g => ?_
    rw [List.mem_filter, List.mem_filter]
    simp only [decide_eq_true_iff]
    exact ⟨fun q => q.2, fun q => ⟨hm g q, q⟩⟩
  rw [h1, ← h2.length_eq]
  have h3 := List.length_eq_countP_add_countP (fun e => decide (e ∈ L)) (l := cs.filter fun e => decide (e ∉ A))
  rw [List.countP_eq_length_filter, List.countP_eq_length_filter] at h3
  have h4 : (fun e : Cell => decide (e ∉ L)) = fun a => decide ¬decide (a ∈ L) = true := by
    funext e
    by_cases q : e ∈ L <;> simp [q]
  rw [h4]
  omega
theorem nodup_take {L : List Cell} (hn : L.Nodup) {i : Nat} {g : Cell} (h : L[i]? = some g) : g ∉ L.take i := fun z => by
  obtain ⟨j, hj⟩ := List.mem_iff_getElem?.mp z
  have hji : j < i := by
    have := (List.getElem?_eq_some_iff.mp hj).1
    rw [List.length_take] at this
    omega
  rw [List.getElem?_take_of_lt hji] at hj
  exact pw_at hn hji hj h rfl
theorem left_next {cs A L : List Cell} {i : Nat} {g : Cell} (h : L[i]? = some g) : (cs.filter fun e => decide (e ∉ A ++ L.take i)).filter (fun e => decide (e ≠ g)) = cs.filter fun e => decide (e ∉ A ++ L.take (i + 1)) := by
  rw [List.filter_filter, take_next h]
  refine List.filter_congr fun e _ => ?_
  by_cases h1 : e = g <;> by_cases h2 : e ∈ A <;> by_cases h3 : e ∈ L.take i <;> simp [h1, h2, h3]
def R_take (fs : FsF) (cd : CD) (ds : List PyData) (d : PyData) (fs' : FsF) (cd' : CD) : Prop := ∃ (hi most : Int) (b cs L : List Cell) (c : Cell), fs = lotFs hi ∧ cd = .dK (leftD hi cs) ∧ Num hi b ∧ cs.Sublist b ∧ b.length ≤ 3000 ∧ c ∈ cs ∧ (cs.length : Int) ≤ most ∧ IsLot cs c L ∧ ds = [c.d, .int most] ∧ d = bD L ∧ fs' = lotFs hi ∧ cd' = .dK (leftD hi (cs.filter fun e => decide (e ∉ L)))
theorem ok_LotTaker_take {P : Program} {w : World} {K : Fg} {mg : Str → Option Value} {base : Heap} {f : Addr} {fd : FuncData} {C_LotTaker : Addr} (F : Fun K "take" "LotTaker.take" s_LotTaker_take f fd)
    (na_LotTaker_left : NoAttr K C_LotTaker "left")
    (m_len : mg "len" = none)
    (na_LotTaker_steps : NoAttr K C_LotTaker "steps")
    (m_tuple : mg "tuple" = none)
    (m_sorted : mg "sorted" = none)
    (c_LotTaker_number : Mtd P w K mg base 1 C_LotTaker "_number" (spO K C_LotTaker 1 R_num))
    (cl_LotTaker : Cls K C_LotTaker) :
    FnOk P w K mg base (L2.CX P w) 4 f fd ["self", "cell", "most"] (spF K C_LotTaker 2 R_take) := by
  obtain ⟨f_LotTaker_number, fd_LotTaker_number, ps_LotTaker_number, G_LotTaker_number, M_LotTaker_number, B_LotTaker_number⟩ := c_LotTaker_number
  refine F.okX sc_LotTaker_take (fun vs H Q E h => len_F h) (fun cdv A outer s H vs Q E hr h => ⟨_, (pss_cons (ps_set (i := 3) sc_LotTaker_take.nd rfl (by first | exact Or.inl rfl | exact Or.inr rfl) (pe_lst (pa_cons (pe_meth (pv 0) cl_LotTaker M_LotTaker_number G_LotTaker_number (hr.mono (show 1 ≤ 3 by decide)) B_LotTaker_number .nil passL (pa_cons (pv 1) pa_nil)) pa_nil)))
      (pss_cons (ps_set (i := 4) sc_LotTaker_take.nd rfl (by first | exact Or.inl rfl | exact Or.inr rfl) (pe_lst (pa_cons (pe_dpop1 (pe_fld (pv 0) rfl) (pe_ix ix_seq (pv 3) pe_int (fun _ _ => rfl)) ⟨rfl, rfl, rfl, rfl⟩) pa_nil)))
      (pss_cons (ps_while (passes_of rfl) (PW.pt (pw_and (pt_truth (pv 3) (fun _ => rfl)) (pw_and1 (pt_cmpR op_le (pe_callB call_len (by rfl) m_len bb_len (pa_cons (pv 4) pa_nil)) (pv 2) (nomark _))))) (pss_cons (ps_set (i := 5) sc_LotTaker_take.nd rfl (by first | exact Or.inl rfl | exact Or.inr rfl) (pe_bm0 PySem.F.plainAttrs_list PySem.F.slot_list_pop PySem.F.type_list_pop mt_pop (pv 3)))
      (pss_cons (ps_setLc (own := [("step", 7)]) (i := 6) rfl sc_LotTaker_take.nd rfl rfl (sw_true rfl rfl rfl (by decide +kernel)) (pi_list (pe_fld (pv 0) rfl)) (blkOk_by (N := N_LotTaker_take) (sc := defScope s_LotTaker_take) (by decide +kernel)) (fun _ _ _ _ _ => (pg_name (i := 7) sc_LotTaker_take.nd rfl (by first | exact Or.inl rfl | exact Or.inr rfl))) (fun _ _ _ _ _ => (pts_one (pt_cmp (pc_din (hu_of hr) (pe_op (show OpR _ (binaryOp .Add) (rAddA K) from op_addA) (pv 5) (pv 7)) (show PE _ _ (tFld K (tVar 0) "left") from pe_fld (pv 0) rfl))))) (fun _ _ _ _ _ => (pe_op (show OpR _ (binaryOp .Add) (rAddA K) from op_addA) (pv 5) (pv 7))))
      (pss_cons (ps_expr (pe_bm PySem.F.plainAttrs_list PySem.F.slot_list_extend PySem.F.type_list_extend mt_extend (pv 4) (pa_cons (pe_lc (own := [("other", 8)]) rfl sc_LotTaker_take.nd (pi_list (pv 6)) (blkOk_by (N := N_LotTaker_take) (sc := defScope s_LotTaker_take) (by decide +kernel)) (fun _ _ _ _ _ => (pg_name (i := 8) sc_LotTaker_take.nd rfl (by first | exact Or.inl rfl | exact Or.inr rfl))) (fun _ _ _ _ _ => pts_nil) (fun _ _ _ _ _ => (show PE _ _ (tDPop1 _ _) from (pe_dpop1 (show PE _ _ (tFld K (tVar 0) "left") from pe_fld (pv 0) rfl) (pv 8) ⟨rfl, rfl, rfl, rfl⟩)))) pa_nil)))
      (pss_one (ps_expr (pe_bm PySem.F.plainAttrs_list PySem.F.slot_list_extend PySem.F.type_list_extend mt_extend (pv 3) (pa_cons (pv 6) pa_nil))))))))
      (pss_one (ps_ret (pe_callTy call_tuple_of (by rfl) m_tuple bt_tuple (pa_cons (pe_callB cr_sortC (by rfl) m_sorted bb_sorted (pa_cons (pv 4) pa_nil)) pa_nil))))))),
    fn_F h fun p q fs cd ds d fs2 cd2 hk hR => ?_⟩)
  try dsimp only [L2.cxOf]
  obtain ⟨hi, most, b, cs, L, c, rfl, rfl, N, hs, hl, hc, hm, hL, rfl, rfl, rfl, rfl⟩ := hR
  have hsz : (sizeLine : Nat) = 16777216 := sizeLine_eq
  walk_at "zfq"
  refine zw_lstC ?_
  walk_at "zfq"
  refine ⟨⟨_, _, m0, rfl⟩, ?_⟩
  walk_at "zfq"
  refine ⟨_, _, _, _, _, _, allD_cons allD_nil, rfl, ⟨hi, c, rfl, rfl, N.hi1, (N.far c (hs.subset hc)).1, rfl, rfl⟩, .here, ?_⟩
  walk_at "zfq"
  refine ⟨_, allD_cons allD_nil, by rw [hsz]; exact Nat.le_of_ble_eq_true rfl, fun w => ?_⟩
  walk_at "zfq"
  refine zw_lstC ?_
  walk_at "zfq"
  refine ⟨⟨_, _, m1 (m1 m0)⟩, ?_⟩
  walk_at "zfq"
  refine ⟨_, _, _, _, _, rfl, (by rw [heldK_left, N.find (fun e h => hs.subset h) (hs.subset hc), if_pos hc]; rfl), .there (.there .here), ?_⟩
  rw [dropD_left N (fun e h => hs.subset h) (hs.subset hc)]
  walk_at "zfq"
  refine ⟨_, allD_cons allD_nil, by rw [hsz]; exact Nat.le_of_ble_eq_true rfl, fun o => ?_⟩
  walk_at "zfq"
  refine zs_while (fun m S2 M2 => ∃ (A W : List Cell) (c5 c6 c7 c8 : Option ZV), S2 = [some (.c p), some (.d c.d), some (.d (.int most)), some (.c w), some (.c o), c5, c6, c7, c8] ∧ M2 = [(o, true, .lst (A.map Cell.d)), (w, true, .lst (W.map fun e => .int (num hi e))), (p, false, .obj C_LotTaker (lotFs hi q)), (q, false, .dK (leftD hi (cs.filter fun e => decide (e ∉ A))))] ∧ m = 2 * (cs.filter fun e => decide (e ∉ A)).length + W.length ∧ TakeI cs c A W) ⟨_, [c], [c], none, none, none, none, rfl, ?_, rfl, .start hc⟩ ?_
  · have : (cs.filter fun e => decide (e ∉ [c])) = cs.filter fun e => decide (e ≠ c) := List.filter_congr fun e _ => by simp
    rw [this]
    rfl
  rintro m S2 M2 ⟨A, W, c5, c6, c7, c8, rfl, rfl, rfl, T⟩
  have hA : A.length ≤ cs.length := by
    have := fewer (A := []) (N.nodup.sublist hs) T.nd fun g hg => ⟨T.sub g hg, fun z => nomatch z⟩
    have h2 := List.length_filter_le (fun e => decide (e ∉ ([] : List Cell))) cs
    omega
  have hcl : cs.length ≤ 3000 := Nat.le_trans hs.length_le hl
  rcases List.eq_nil_or_concat W with rfl | ⟨W, e, rfl⟩
  · refine zt_and (zt_truC ?_)
    walk_at "zfq"
    refine ⟨_, _, _, rfl, m1 m0, ?_⟩
    walk_at "zfq"
    have hrow : ∀ B : List Cell, B.map Cell.d = (B.map Cell.r).map rowD := fun B => by
      rw [List.map_map]
      rfl
    have hup : cs.Pairwise lt2 := N.up.sublist hs
    refine zc_sortO (rows := A.map Cell.r) (by rw [← hrow]; exact m0) (fun r hr => by obtain ⟨x, _, rfl⟩ := List.mem_map.mp hr; exact List.cons_ne_nil _ _) ?_
    rw [(T.done hup hL).1, ← hrow]
    walk_at "zfq"
    rw [show (cs.filter fun e => decide (e ∉ A)) = cs.filter fun e => decide (e ∉ L) from List.filter_congr fun e _ => by
      have := (T.done hup hL).2 e
      by_cases z : e ∈ L
      · simp [z, this.mpr z]
      · have y : e ∉ A := fun y => z (this.mp y)
        simp [z, y]]
    refine zc_tupL ?_
    exact ⟨rfl, q, false, .inl (.cons _ (.cons _ (List.Sublist.refl _)))⟩
  rw [List.concat_eq_append] at T ⊢
  refine zt_and (zt_truC ?_)
  walk_at "zfq"
  refine ⟨_, _, _, rfl, m1 m0, ?_⟩
  rw [show (!(List.map (fun e => PyData.int (num hi e)) (W ++ [e])).isEmpty) = true by simp]
  walk_at "zfq"
  rw [decide_eq_true (show (((List.map Cell.d A).length : Nat) : Int) ≤ most by rw [List.length_map]; omega)]
  refine ⟨fun _ => ?_, fun z => nomatch z⟩
  rw [show (W ++ [e]).map (fun e => PyData.int (num hi e)) = W.map (fun e => PyData.int (num hi e)) ++ [.int (num hi e)] by simp]
  walk_at "zfq"
  refine ⟨_, _, _, _, _, rfl, .there .here, ?_⟩
  walk_at "zfq"
  refine zw_lcO ?_
  walk_at "zfq"
  refine ⟨_, _, _, _, rfl, m1 (m1 m0), rfl, stepsD hi, .inl rfl, by rw [hsz]; exact Nat.le_of_ble_eq_true rfl, fun i acc M' => acc = (nearL hi (cs.filter fun g => decide (g ∉ A)) e (prs.take i)).map (fun g => .int (num hi g)) ∧ M' = [(o, true, CD.lst (List.map Cell.d A)), (w, true, CD.lst (List.map (fun e => PyData.int (num hi e)) W)), (p, false, CD.obj C_LotTaker (lotFs hi q)), (q, false, CD.dK (leftD hi (List.filter (fun e => decide (e ∉ A)) cs)))], ⟨rfl, rfl⟩, fun i acc M' _ => .inl rfl, fun i x hx => ?_, ?_⟩
  · rw [steps_prs, List.getElem?_map] at hx
    obtain ⟨a, ha, rfl⟩ := Option.map_eq_some_iff.mp hx
    rintro acc M' D ⟨rfl, rfl⟩
    refine ⟨_, _, ?_, zg_name, ?_⟩
    · simp
    refine zt_B (zw_dinK ?_)
    walk_at "zfq"
    refine ⟨_, _, _, _, rfl, m1 (m1 (m1 m0)), rfl, ?_⟩
    refine ⟨_, _, _, rfl, m1 (m1 (m1 (m1 m0))), ?_⟩
    rw [heldK_left]
    have hnx := nearL_next (hi := hi) (left := cs.filter fun g => decide (g ∉ A)) (e := e) ha
    unfold hit at hnx
    cases hq : (cs.filter fun g => decide (g ∉ A)).find? fun g => decide (num hi g = num hi e + (a.1 * hi + a.2)) with
    | none =>
      rw [hq] at hnx
      refine ⟨false, rfl, fun _ => ⟨_, rfl, ?_, rfl⟩, fun z => nomatch z⟩
      rw [hnx]
      simp
    | some g =>
      rw [hq] at hnx
      refine ⟨true, rfl, (fun z => nomatch z), fun _ => ?_⟩
      walk_at "zfq"
      refine ⟨?_, rfl⟩
      rw [hnx, List.map_append]
      have := of_decide_eq_true (List.find?_some (p := fun g => decide (num hi g = num hi e + (a.1 * hi + a.2))) hq)
      rw [← this]
      rfl
  rintro acc M' n ⟨rfl, rfl⟩
  rw [show prs.take (stepsD hi).length = prs from rfl]
  have heA : e ∈ A := T.wa e (by simp)
  have hlb : ∀ g ∈ (cs.filter fun g => decide (g ∉ A)), g ∈ b := fun g hg => hs.subset (List.mem_filter.mp hg).1
  have hnd := nearL_nd N hlb (hs.subset (T.sub e heA))
  have hmem : ∀ g, g ∈ nearL hi (cs.filter fun g => decide (g ∉ A)) e prs ↔ (g ∈ cs ∧ g ∉ A) ∧ nearC e g := fun g => by
    rw [mem_nearL N hlb (hs.subset (T.sub e heA)), List.mem_filter]
    simp only [decide_eq_true_iff]
  generalize hNL : nearL hi (cs.filter fun g => decide (g ∉ A)) e prs = NL at hnd hmem
  have hfew := fewer (A := A) (N.nodup.sublist hs) hnd fun g hg => ((hmem g).mp hg).1
  have hfl := List.length_filter_le (fun e => decide (e ∉ A)) cs
  have hWl : W.length ≤ 3000 := by
    have := T.wl
    rw [List.length_append, List.length_singleton] at this
    omega
  refine zs_post (N := fun S2 M2 => (∃ c5 c6 c7 c8 : Option ZV, S2 = [some (.c p), some (.d c.d), some (.d (.int most)), some (.c w), some (.c o), c5, c6, c7, c8]) ∧ ∃ x y, M2 = [x, y, (o, true, CD.lst ((A ++ NL).map Cell.d)), (w, true, CD.lst ((W ++ NL).map fun e => PyData.int (num hi e))), (p, false, CD.obj C_LotTaker (lotFs hi q)), (q, false, CD.dK (leftD hi (List.filter (fun e => decide (e ∉ A ++ NL)) cs)))]) ?_ ?_
  · walk_at "zfq"
    refine ⟨⟨_, _, m1 m0⟩, ?_⟩
    refine zw_lcO ?_
    walk_at "zfq"
    refine ⟨NL.map fun g => .int (num hi g), .inr ⟨n, true, rfl, m0⟩, by rw [List.length_map]; omega, fun i acc M' => acc = (NL.take i).map Cell.d ∧ M' = [(n, true, CD.lst (NL.map fun g => PyData.int (num hi g))), (o, true, CD.lst (List.map Cell.d A)), (w, true, CD.lst (List.map (fun e => PyData.int (num hi e)) W)), (p, false, CD.obj C_LotTaker (lotFs hi q)), (q, false, CD.dK (leftD hi (List.filter (fun e => decide (e ∉ A ++ NL.take i)) cs)))], ⟨rfl, by rw [List.take_zero, List.append_nil]⟩, ?_, fun i x hx => ?_, ?_⟩
    · rintro i acc M' ⟨_, rfl⟩
      exact .inr ⟨n, true, rfl, m0⟩
    · rw [List.getElem?_map] at hx
      obtain ⟨g, hg, rfl⟩ := Option.map_eq_some_iff.mp hx
      rintro acc M' D ⟨rfl, rfl⟩
      refine ⟨_, _, ?_, zg_name, ?_⟩
      · simp
      have hgm := (hmem g).mp (List.mem_of_getElem? hg)
      have hgn := nodup_take hnd hg
      have hsb : ∀ x ∈ (cs.filter fun e => decide (e ∉ A ++ NL.take i)), x ∈ b := fun x hx => hs.subset (List.mem_filter.mp hx).1
      have hgl : g ∈ (cs.filter fun e => decide (e ∉ A ++ NL.take i)) := List.mem_filter.mpr ⟨hgm.1.1, by simp [hgm.1.2, hgn]⟩
      walk_at "zfq"
      refine ⟨_, _, _, _, rfl, m1 (m1 (m1 (m1 m0))), rfl, ?_⟩
      refine ⟨_, rfl, ⟨_, _, m1 (m1 (m1 (m1 (m1 m0))))⟩, ?_⟩
      walk_at "zfq"
      refine ⟨_, _, _, _, _, rfl, (by rw [heldK_left, N.find hsb (hs.subset hgm.1.1), if_pos hgl]; rfl), .there (.there (.there (.there (.there .here)))), ?_⟩
      rw [dropD_left N hsb (hs.subset hgm.1.1), left_next hg]
      refine ⟨_, _, rfl, rfl, ?_, rfl⟩
      rw [take_next hg, List.map_append]
      rfl
    rintro acc M' D ⟨rfl, rfl⟩
    rw [List.length_map, List.take_length]
    refine ⟨_, _, _, _, _, _, rfl, m0, by rw [List.length_map, List.length_map]; omega, .there (.there .here), ?_⟩
    walk_at "zfq"
    refine ⟨⟨_, _, m1 (m1 (m1 m0))⟩, ?_⟩
    walk_at "zfq"
    refine ⟨_, _, _, _, _, _, rfl, m1 m0, by rw [List.length_map, List.length_map]; omega, .there (.there (.there .here)), ?_⟩
    rw [List.map_append, List.map_append]
    exact ⟨⟨_, _, _, _, rfl⟩, _, _, rfl⟩
  rintro S2 M2 ⟨⟨d5, d6, d7, d8, rfl⟩, x, y, rfl⟩
  refine ⟨_, .cons _ (.cons _ (List.Sublist.refl _)), _, ?_, A ++ NL, W ++ NL, d5, d6, d7, d8, rfl, rfl, rfl, T.next hnd hmem⟩
  rw [List.length_append, List.length_append, List.length_singleton]
  omega
theorem mem_lots {ls : List (List Cell)} {e : Cell} : e ∈ ls.flatten ↔ ∃ L ∈ ls, e ∈ L := List.mem_flatten
def R_few (ds : List PyData) (o : DOut) : Prop := ∃ (b : List Cell) (ls : List (List Cell)), ds = [bD b, .int (b.length : Nat), .int (b.length : Nat)] ∧ Board b ∧ Lt b b.length ls ∧ o = .ok (.list (ls.map bD))
def leftOf (b : List Cell) (ls : List (List Cell)) : List Cell := b.filter fun e => decide (e ∉ ls.flatten)
theorem left_add (b : List Cell) (ls : List (List Cell)) (L : List Cell) : (leftOf b ls).filter (fun e => decide (e ∉ L)) = leftOf b (ls ++ [L]) := by
  unfold leftOf
  rw [List.filter_filter]
  refine List.filter_congr fun e _ => ?_
  by_cases h1 : e ∈ ls.flatten <;> by_cases h2 : e ∈ L <;> simp_all
theorem board_num {b : List Cell} (hB : Board b) : ∃ hi, Num hi b ∧ ((b = [] ∧ hi = 3) ∨ ∃ x0 y0 x1 y1, BoxOf b x0 y0 x1 y1 ∧ hi = y1 - y0 + 3) := by
  by_cases h : b = []
  · subst h
    exact ⟨3, ⟨fun c hc => (nomatch hc), by omega, fun c hc => (nomatch hc), .nil⟩, .inl ⟨rfl, rfl⟩⟩
  · obtain ⟨x0, y0, x1, y1, hb⟩ := box_ex h
    obtain ⟨c1, hc1, e1⟩ := List.mem_map.mp hb.y0.1
    obtain ⟨c2, hc2, e2⟩ := List.mem_map.mp hb.y1.1
    refine ⟨_, num_of hB (fun c hc => ⟨hb.y0.2 _ (List.mem_map_of_mem hc), hb.y1.2 _ (List.mem_map_of_mem hc)⟩) (by rw [← e2]; exact hb.y0.2 _ (List.mem_map_of_mem hc2)) ⟨by rw [← e1]; exact (hB.ok c1 hc1).2.1, by rw [← e2]; exact (hB.ok c2 hc2).2.1⟩, .inr ⟨x0, y0, x1, y1, hb, rfl⟩⟩
theorem ok_few_lots {P : Program} {w : World} {K : Fg} {mg : Str → Option Value} {base : Heap} {f : Addr} {fd : FuncData} {C_LotTaker : Addr} (F : Fun K "few_lots" "few_lots" s_few_lots f fd)
    (m_len : mg "len" = none)
    (c_LotTaker_init : Mkr P w K mg base 2 "LotTaker" C_LotTaker (spI K C_LotTaker 1 R_lotInit))
    (c_LotTaker_has : Mtd P w K mg base 3 C_LotTaker "has" (spF K C_LotTaker 1 R_has))
    (c_LotTaker_take : Mtd P w K mg base 4 C_LotTaker "take" (spF K C_LotTaker 2 R_take))
    (cl_LotTaker : Cls K C_LotTaker) :
    FnOk P w K mg base (L2.CX P w) 5 f fd ["board", "many", "most"] (spD K 3 R_few) := by
  obtain ⟨f_LotTaker_has, fd_LotTaker_has, ps_LotTaker_has, G_LotTaker_has, M_LotTaker_has, B_LotTaker_has⟩ := c_LotTaker_has
  obtain ⟨f_LotTaker_take, fd_LotTaker_take, ps_LotTaker_take, G_LotTaker_take, M_LotTaker_take, B_LotTaker_take⟩ := c_LotTaker_take
  refine F.okX sc_few_lots (fun vs H Q E h => len_D h) (fun cdv A outer s H vs Q E hr h => ⟨_, (pss_cons (ps_set (i := 3) sc_few_lots.nd rfl (by first | exact Or.inl rfl | exact Or.inr rfl) (pe_mkr (j := 2) c_LotTaker_init (hr.mono (by decide)) (by decide) passL (pa_cons (pv 0) pa_nil)))
      (pss_cons (ps_set (i := 4) sc_few_lots.nd rfl (by first | exact Or.inl rfl | exact Or.inr rfl) (pe_lst pa_nil))
      (pss_cons (ps_for (passes_of rfl) rfl (pi_tup (pv 0)) (pg_name (i := 5) sc_few_lots.nd rfl (by first | exact Or.inl rfl | exact Or.inr rfl)) (pss_one (ps_if (PW.pt (pw_and (pt_cmpR op_le (pe_callB call_len (by rfl) m_len bb_len (pa_cons (pv 4) pa_nil)) (pv 1) (nomark _)) (pw_and1 (pt_val (pe_meth (pv 3) cl_LotTaker M_LotTaker_has G_LotTaker_has (hr.mono (show 3 ≤ 4 by decide)) B_LotTaker_has .nil passL (pa_cons (pv 5) pa_nil)) (fun _ => rfl))))) (pss_cons (ps_expr (pe_bm PySem.F.plainAttrs_list PySem.F.slot_list_append PySem.F.type_list_append mt_append (pv 4) (pa_cons (pe_meth (pv 3) cl_LotTaker M_LotTaker_take G_LotTaker_take (hr.mono (show 4 ≤ 4 by decide)) B_LotTaker_take .nil passL (pa_cons (pv 5) (pa_cons (pe_ifExp (pt_truth (pv 4) (fun _ => rfl)) (pe_callB call_len (by rfl) m_len bb_len (pa_cons (pv 0) pa_nil)) (pv 2)) pa_nil))) pa_nil)))
      (pss_one (ps_if (pt_cmpR op_gt (pe_callB call_len (by rfl) m_len bb_len (pa_cons (pe_ix ix_seq (pv 4) pe_int (fun _ _ => rfl)) pa_nil)) (pv 2) (nomark _)) (pss_one (ps_ret (pv 4))) pss_nil))) pss_nil)))
      (pss_one (ps_ret (pv 4)))))),
    fn_D h fun ds o hk hR => ?_⟩)
  try dsimp only [L2.cxOf]
  obtain ⟨b, ls, rfl, hB, hT, rfl⟩ := hR
  have hsz : (sizeLine : Nat) = 16777216 := sizeLine_eq
  obtain ⟨hi, N, hh⟩ := board_num hB
  walk_at "zfq"
  refine ⟨_, lotFs hi, .dK (leftD hi b), by walk_at "zd", rfl, ⟨b, hi, rfl, hB, N, hh, rfl, rfl⟩, fun p q => ?_⟩
  walk_at "zfq"
  refine zw_lstC ?_
  walk_at "zfq"
  refine ⟨[], allD_nil, Nat.zero_le _, fun l => ?_⟩
  refine zs_perm (M' := [(p, true, .obj C_LotTaker (lotFs hi q)), (q, true, .dK (leftD hi b)), (l, true, .lst [])]) ?_ ?_
  · exact (List.Perm.swap _ _ _).trans (List.Perm.cons _ (List.Perm.swap _ _ _))
  walk_at "zfq"
  refine ⟨fun i S M => ∃ (ms : List (List Cell)) (q : Addr) (c5 : Option ZV), S = [some (.d (bD b)), some (.d (.int (b.length : Nat))), some (.d (.int (b.length : Nat))), some (.c p), some (.c l), c5] ∧ M = [(p, true, .obj C_LotTaker (lotFs hi q)), (q, true, .dK (leftD hi (leftOf b ms))), (l, true, .lst (ms.map bD))] ∧ Lt b i ms ∧ ms.length ≤ i, ⟨[], q, none, rfl, ?_, .nil b, Nat.le_refl _⟩, fun i x S M hx hI => ?_, ?_⟩
  · rw [show leftOf b [] = b from List.filter_eq_self.mpr fun e _ => by simp]
    rfl
  · rw [List.getElem?_map] at hx
    obtain ⟨c, hc, rfl⟩ := Option.map_eq_some_iff.mp hx
    obtain ⟨ms, q, c5, rfl, rfl, T, hms⟩ := hI
    have hil := (List.getElem?_eq_some_iff.mp hc).1
    have hcb : c ∈ b := List.mem_of_getElem? hc
    have hsub : (leftOf b ms).Sublist b := List.filter_sublist
    refine ⟨_, _, zg_name, ?_⟩
    walk_at "zfq"
    rw [decide_eq_true (show (((ms.map bD).length : Nat) : Int) ≤ (b.length : Nat) by rw [List.length_map]; omega)]
    walk_at "zfq"
    refine ⟨⟨_, _, m0, rfl⟩, ?_⟩
    walk_at "zfq"
    refine ⟨q, lotFs hi, _, _, _, lotFs hi, _, _, allD_cons allD_nil, rfl, .refl _, ⟨hi, b, leftOf b ms, c, rfl, rfl, N, fun e he => hsub.subset he, hcb, rfl, rfl, rfl, rfl⟩, fun q1 => ?_⟩
    refine ⟨_, rfl, fun h => ?_, fun h => ?_⟩
    · have hcl : c ∈ leftOf b ms := of_decide_eq_true h
      have hno : ¬ ∃ L ∈ ms, c ∈ L := fun z => of_decide_eq_true (List.mem_filter.mp hcl).2 (mem_lots.mpr z)
      obtain ⟨L, hL⟩ := lot_ex b c
      have hLw := hL.within hB.up hsub hcl fun e he g hg hn => List.mem_filter.mpr ⟨hg, by
        have h1 := (List.mem_filter.mp he).2
        refine decide_eq_true fun z => T.out (hsub.subset he) (fun z => of_decide_eq_true h1 (mem_lots.mpr z)) (.step (.here e) hg hn) (mem_lots.mp z)⟩
      walk_at "zfq"
      refine zw_append ?_
      walk_at "zfq"
      refine ⟨⟨_, _, m1 (m1 m0)⟩, ?_⟩
      walk_at "zfq"
      refine ⟨⟨_, _, m0, rfl⟩, ?_⟩
      refine za_cons (zw_var rfl (za_cons (zw_cut (z0 := .d (.int (b.length : Nat))) (M0 := [(p, true, CD.obj C_LotTaker (lotFs hi q1)), (q1, true, CD.dK (leftD hi (leftOf b ms))), (l, true, CD.lst (List.map bD ms))]) ?_ ?_)))
      · refine zw_if (zt_truC ?_)
        walk_at "zfq"
        refine ⟨_, _, _, rfl, m1 (m1 m0), fun _ => ?_, fun _ => ?_⟩
        · walk_at "zfq"
          rw [List.length_map]
          exact ⟨rfl, rfl⟩
        · walk_at "zfq"
          exact ⟨rfl, rfl⟩
      walk_at "zfq"
      have hlm : (leftOf b ms).length ≤ b.length := hsub.length_le
      refine ⟨q1, lotFs hi, _, _, _, lotFs hi, _, _, allD_cons (allD_cons allD_nil), rfl, .refl _, ⟨hi, _, b, leftOf b ms, L, c, rfl, rfl, N, hsub, hB.len, hcl, by omega, hLw, rfl, rfl, rfl, rfl⟩, fun q2 => ?_⟩
      rw [left_add]
      refine ⟨_, true, _, _, rfl, .there (.there .here), by rw [List.length_map]; have := hB.len; omega, ?_⟩
      walk_at "zfq"
      have T2 := T.add hB.up hc hno hL
      have hF : ∃ F, (ms ++ [L])[0]? = some F := by
        cases ms with
        | nil => exact ⟨L, rfl⟩
        | cons a t => exact ⟨a, rfl⟩
      obtain ⟨F, hF⟩ := hF
      obtain ⟨f, _, hFl, _⟩ := T2.lot F (List.mem_of_getElem? hF)
      have hFb := hFl.sub.length_le
      have hat : (List.map bD ms ++ [bD L])[0]? = some (bD F) := by
        rw [show List.map bD ms ++ [bD L] = (ms ++ [L]).map bD by rw [List.map_append]; rfl, List.getElem?_map, hF]
        rfl
      refine zo_ixC (m1 (m1 m0)) (atI_nat (j := 0) hat) ?_
      walk_at "zfq"
      rw [decide_eq_false (show ¬ ((b.length : Nat) : Int) < ((F.map Cell.d).length : Nat) by rw [List.length_map]; omega)]
      walk_at "zfq"
      refine ⟨ms ++ [L], q2, _, rfl, ?_, T2, by rw [List.length_append, List.length_singleton]; omega⟩
      rw [List.map_append]
      rfl
    · have hno : ∃ L ∈ ms, c ∈ L := Classical.byContradiction fun z => of_decide_eq_false h (List.mem_filter.mpr ⟨hcb, decide_eq_true fun y => z (mem_lots.mp y)⟩)
      walk_at "zfq"
      refine ⟨ms, q1, _, rfl, rfl, T.skip hc hno, by omega⟩
  rintro S M ⟨ms, q, c5, rfl, rfl, T, _⟩
  rw [List.length_map] at T
  obtain rfl := T.uniq hB.up hT
  refine zs_ret (zw_frz ?_)
  walk_at "zq"
  refine ⟨_, _, _, rfl, .there (.there .here), ?_⟩
  first | rfl | exact ⟨_, rfl, rfl⟩
def R_lotsOf (ds : List PyData) (o : DOut) : Prop := ∃ (b : List Cell) (ls : List (List Cell)), ds = [bD b] ∧ Board b ∧ Lt b b.length ls ∧ o = .ok (.list (ls.map bD))
theorem ok_lots_of {P : Program} {w : World} {K : Fg} {mg : Str → Option Value} {base : Heap} {f : Addr} {fd : FuncData} (F : Fun K "lots_of" "lots_of" s_lots_of f fd)
    (m_len : mg "len" = none)
    (c_few_lots : Cal P w K mg base 5 "few_lots" (spD K 3 R_few)) :
    FnOk P w K mg base (L2.CX P w) 6 f fd ["board"] (spD K 1 R_lotsOf) := by
  refine F.okX sc_lots_of (fun vs H Q E h => len_D h) (fun cdv A outer s H vs Q E hr h => ⟨_, (pss_one (ps_ret (pe_cl c_few_lots hr (show 5 ≤ 5 by decide) passL (pa_cons (pv 0) (pa_cons (pe_callB call_len (by rfl) m_len bb_len (pa_cons (pv 0) pa_nil)) (pa_cons (pe_callB call_len (by rfl) m_len bb_len (pa_cons (pv 0) pa_nil)) pa_nil)))))),
    fn_D h fun ds o hk hR => ?_⟩)
  try dsimp only [L2.cxOf]
  obtain ⟨b, ls, rfl, hB, hT, rfl⟩ := hR
  walk_at "zfq"
  rw [List.length_map]
  refine ⟨_, _, by walk_at "zd", rfl, ⟨b, ls, rfl, hB, hT, rfl⟩, ?_⟩
  first | rfl | exact ⟨_, rfl, rfl⟩
def R_lots (ds : List PyData) (o : DOut) : Prop := ∃ (b : List Cell) (ls : List (List Cell)), ds = [bD b] ∧ Board b ∧ Lt b b.length ls ∧ b.length ≤ 1000 ∧ o = .ok (.tuple (ls.map bD))
theorem ok_lots {P : Program} {w : World} {K : Fg} {mg : Str → Option Value} {base : Heap} {f : Addr} {fd : FuncData} {C_BadBoard : Addr} (F : Fun K "lots" "lots" s_lots f fd)
    (m_tuple : mg "tuple" = none)
    (c_check_board : Cal P w K mg base 4 "check_board" (spD K 1 (R_chk C_BadBoard)))
    (c_lots_of : Cal P w K mg base 6 "lots_of" (spD K 1 R_lotsOf)) :
    FnOk P w K mg base (L2.CX P w) 7 f fd ["board"] (spD K 1 R_lots) := by
  refine F.okX sc_lots (fun vs H Q E h => len_D h) (fun cdv A outer s H vs Q E hr h => ⟨_, (pss_cons (ps_expr (pe_cl c_check_board hr (show 4 ≤ 6 by decide) passL (pa_cons (pv 0) pa_nil)))
      (pss_one (ps_ret (pe_callTy call_tuple_of (by rfl) m_tuple bt_tuple (pa_cons (pe_cl c_lots_of hr (show 6 ≤ 6 by decide) passL (pa_cons (pv 0) pa_nil)) pa_nil))))),
    fn_D h fun ds o hk hR => ?_⟩)
  try dsimp only [L2.cxOf]
  obtain ⟨b, ls, rfl, hB, hT, hl, rfl⟩ := hR
  walk_at "zfq"
  refine ⟨_, _, by walk_at "zd", rfl, hB.chk hl, ?_⟩
  walk_at "zfq"
  refine ⟨_, _, by walk_at "zd", rfl, ⟨b, ls, rfl, hB, hT, rfl⟩, ?_⟩
  walk_at "zfq"
  refine zc_tupL ?_
  first | rfl | exact ⟨_, rfl, rfl⟩
theorem keyI_inj {a b : List Int} (h : keyI a = keyI b) : a = b := (List.map_inj_right fun _ _ e => Sum.inl.inj e).mp h
theorem put_new {kvs : List (List Key × PyData)} {k : List Key} (d : PyData) (h : k ∉ kvs.map (·.1)) : putP kvs k d = kvs ++ [(k, d)] := by
  unfold putP
  rw [if_neg]
  intro z
  obtain ⟨kv, h1, h2⟩ := List.any_eq_true.mp z
  exact h (List.mem_map.mpr ⟨kv, h1, of_decide_eq_true h2⟩)
theorem snoc_ind {α : Type} {P : List α → Prop} (h0 : P []) (h1 : ∀ l a, P l → P (l ++ [a])) (l : List α) : P l := by
  have : ∀ l : List α, P l.reverse := fun l => by
    induction l with
    | nil => exact h0
    | cons a l ih => rw [List.reverse_cons]; exact h1 _ _ ih
  have h := this l.reverse
  rw [List.reverse_reverse] at h
  exact h
abbrev cellKV (c : Cell) : List Key × PyData := (keyI [c.x, c.y], .int c.s)
theorem plcs_map (b : List Cell) : b.Pairwise lt2 → plcs b = b.map cellKV := by
  refine snoc_ind (P := fun b => b.Pairwise lt2 → plcs b = b.map cellKV) (fun _ => rfl) (fun b c ih h => ?_) b
  obtain ⟨h1, _, h2⟩ := List.pairwise_append.mp h
  have e : plcs (b ++ [c]) = putP (plcs b) (keyI [c.x, c.y]) (.int c.s) := by
    unfold plcs rowsP
    rw [List.map_append, List.foldl_append]
    rfl
  rw [e, ih h1, put_new, List.map_append]
  · rfl
  · intro z
    rw [List.map_map] at z
    obtain ⟨a, ha, hk⟩ := List.mem_map.mp z
    have hk : [a.x, a.y] = [c.x, c.y] := keyI_inj hk
    injection hk with k1 k2
    injection k2 with k2 _
    have := h2 a ha c (List.mem_singleton.mpr rfl)
    omega
theorem plcs_some {b : List Cell} (h : b.Pairwise lt2) (x y : Int) : (heldP (plcs b) (keyI [x, y])).isSome = b.any (isAt x y) := by
  rw [plcs_map b h]
  unfold heldP
  rw [List.find?_map]
  have e : ((fun kv : List Key × PyData => decide (kv.1 = keyI [x, y])) ∘ cellKV) = isAt x y := by
    funext c
    rw [Bool.eq_iff_iff, isAt_iff]
    show decide (keyI [c.x, c.y] = keyI [x, y]) = true ↔ _
    rw [decide_eq_true_iff]
    constructor
    · intro z
      have z : [c.x, c.y] = [x, y] := keyI_inj z
      injection z with k1 k2
      injection k2 with k2 _
      exact ⟨k1, k2⟩
    · rintro ⟨rfl, rfl⟩
      rfl
  rw [e, Option.isSome_map, Option.isSome_map, List.isSome_find?]
/-- whether a board has a cell near a place -/
def nearAt (b : List Cell) (c : Cell) : Bool := b.any fun e => decide (nearC c e)
def nearB (b d : List Cell) : Bool := b.any (nearAt d)
/-- the places near a place, as pairs -/
def ring (x y : Int) : List (Int × Int) := prs.map fun a => (x + a.1, y + a.2)
theorem ring_grid (x y : Int) : gridL (fun i j => pr (x + (-2 + (i : Nat))) (y + (-2 + (j : Nat)))) 5 5 0 = (ring x y).map fun a => pr a.1 a.2 := rfl
theorem ring_any (b : List Cell) (c : Cell) : ((ring c.x c.y).any fun a => b.any (isAt a.1 a.2)) = nearAt b c := by
  rw [Bool.eq_iff_iff]
  unfold nearAt ring
  rw [List.any_map]
  simp only [List.any_eq_true, Function.comp]
  constructor
  · rintro ⟨a, ha, e, he, h⟩
    have h := isAt_iff.mp h
    have := prs_in a ha
    exact ⟨e, he, decide_eq_true (by unfold nearC; omega)⟩
  · rintro ⟨e, he, h⟩
    have h := of_decide_eq_true h
    unfold nearC at h
    refine ⟨(e.x - c.x, e.y - c.y), in_prs (by omega) (by omega), e, he, isAt_iff.mpr ?_⟩
    dsimp only
    omega
def R_places (ds : List PyData) (o : DOut) : Prop := ∃ x y : Int, ds = [pr x y] ∧ o = .ok (.list (gridL (fun i j => pr (x + (-2 + (i : Nat))) (y + (-2 + (j : Nat)))) 5 5 0))
theorem ok_places_near {P : Program} {w : World} {K : Fg} {mg : Str → Option Value} {base : Heap} {f : Addr} {fd : FuncData} (F : Fun K "places_near" "places_near" s_places_near f fd)
    (m_range : mg "range" = none) :
    FnOk P w K mg base (L2.CX P w) 1 f fd ["place"] (spD K 1 R_places) := by
  refine F.okX sc_places_near (fun vs H Q E h => len_D h) (fun cdv A outer s H vs Q E hr h => ⟨_, (pss_cons (ps_asg (pv 0) (pg_tup rfl (pgs_cons (pg_name (i := 1) sc_places_near.nd rfl (by first | exact Or.inl rfl | exact Or.inr rfl)) (pgs_cons (pg_name (i := 2) sc_places_near.nd rfl (by first | exact Or.inl rfl | exact Or.inr rfl)) pgs_nil))))
      (pss_one (ps_ret (pe_lc2 (own := [("right", 3), ("down", 4)]) (vs1 := [4]) rfl sc_places_near.nd (pi_range2 (by rfl) m_range (pa_cons (pe_un un_neg pe_int) (pa_cons pe_int pa_nil))) (blkOk_by (N := N_places_near) (sc := defScope s_places_near) (by decide +kernel)) (by decide) (fun _ _ _ _ _ => (pg_name (i := 3) sc_places_near.nd rfl (by first | exact Or.inl rfl | exact Or.inr rfl))) (fun _ _ _ _ _ => pts_nil) (fun _ _ _ _ _ => (pi_range2 (by rfl) m_range (pa_cons (pe_un un_neg pe_int) (pa_cons pe_int pa_nil)))) (fun _ _ _ _ _ => (pg_name (i := 4) sc_places_near.nd rfl (by first | exact Or.inl rfl | exact Or.inr rfl))) (fun _ _ _ _ _ => pts_nil) (fun _ _ _ _ _ => (pe_tup (pa_cons (pe_op (show OpR _ (binaryOp .Add) (rAddA K) from op_addA) (pv 1) (pv 3)) (pa_cons (pe_op (show OpR _ (binaryOp .Add) (rAddA K) from op_addA) (pv 2) (pv 4)) pa_nil)))))))),
    fn_D h fun ds o hk hR => ?_⟩)
  try dsimp only [L2.cxOf]
  obtain ⟨x, y, rfl, rfl⟩ := hR
  walk_at "zq"
  refine zw_lc2R (a := -2) (b := 3) (a1 := -2) (b1 := 3) (r := 3) (d := 4) (fun i j => pr (x + (-2 + (i : Nat))) (y + (-2 + (j : Nat)))) (by decide) (by decide) rfl rfl (by rw [sizeLine_eq]; decide) (by decide) (by decide) ?_ (fun S2 M2 => ?_) (fun i j M2 hi hj => ?_) ?_
  · walk_at "zq"
    exact ⟨rfl, rfl⟩
  · walk_at "zq"
    exact ⟨rfl, rfl⟩
  · walk_at "zq"
    walk_at "zt"
    exact ⟨rfl, rfl⟩
  · exact ⟨_, rfl, rfl⟩
def R_near (ds : List PyData) (o : DOut) : Prop := ∃ b d : List Cell, ds = [bD b, bD d] ∧ Board b ∧ Board d ∧ b.length ≤ 1000 ∧ d.length ≤ 1000 ∧ o = .ok (.bool (nearB b d))
theorem ok_are_near {P : Program} {w : World} {K : Fg} {mg : Str → Option Value} {base : Heap} {f : Addr} {fd : FuncData} {C_BadBoard : Addr} (F : Fun K "are_near" "are_near" s_are_near f fd)
    (m_any : mg "any" = none)
    (c_check_board : Cal P w K mg base 4 "check_board" (spD K 1 (R_chk C_BadBoard)))
    (c_states_by_place : Cal P w K mg base 1 "states_by_place" (spE K 1 R_sbp))
    (c_places_near : Cal P w K mg base 1 "places_near" (spD K 1 R_places)) :
    FnOk P w K mg base (L2.CX P w) 5 f fd ["board", "other"] (spD K 2 R_near) := by
  refine F.okX sc_are_near (fun vs H Q E h => len_D h) (fun cdv A outer s H vs Q E hr h => ⟨_, (pss_cons (ps_expr (pe_cl c_check_board hr (show 4 ≤ 4 by decide) passL (pa_cons (pv 0) pa_nil)))
      (pss_cons (ps_expr (pe_cl c_check_board hr (show 4 ≤ 4 by decide) passL (pa_cons (pv 1) pa_nil)))
      (pss_cons (ps_set (i := 2) sc_are_near.nd rfl (by first | exact Or.inl rfl | exact Or.inr rfl) (pe_cl c_states_by_place hr (show 1 ≤ 4 by decide) passL (pa_cons (pv 1) pa_nil)))
      (pss_cons (ps_for (passes_of rfl) rfl (pi_tup (pv 0)) (pg_tup rfl (pgs_cons (pg_name (i := 3) sc_are_near.nd rfl (by first | exact Or.inl rfl | exact Or.inr rfl)) (pgs_cons (pg_name (i := 4) sc_are_near.nd rfl (by first | exact Or.inl rfl | exact Or.inr rfl)) (pgs_cons (pg_name (i := 5) sc_are_near.nd rfl (by first | exact Or.inl rfl | exact Or.inr rfl)) pgs_nil)))) (pss_one (ps_if (pt_val (pe_callB (cr_any rfl) (by rfl) m_any bb_any (pa_cons (pe_lc (own := [("place", 6)]) rfl sc_are_near.nd (pi_list (pe_cl c_places_near hr (show 1 ≤ 4 by decide) passL (pa_cons (pe_tup (pa_cons (pv 3) (pa_cons (pv 4) pa_nil))) pa_nil))) (blkOk_by (N := N_are_near) (sc := defScope s_are_near) (by decide +kernel)) (fun _ _ _ _ _ => (pg_name (i := 6) sc_are_near.nd rfl (by first | exact Or.inl rfl | exact Or.inr rfl))) (fun _ _ _ _ _ => pts_nil) (fun _ _ _ _ _ => (pe_cmp (pc_din (hu_of hr) (pv 6) (pv 2))))) pa_nil)) (fun _ => rfl)) (pss_one (ps_ret pe_bl)) pss_nil)))
      (pss_one (ps_ret pe_bl)))))),
    fn_D h fun ds o hk hR => ?_⟩)
  try dsimp only [L2.cxOf]
  obtain ⟨b, d, rfl, hb, hd, l1, l2, rfl⟩ := hR
  have hsz : (sizeLine : Nat) = 16777216 := sizeLine_eq
  walk_at "zq"
  refine ⟨_, _, by walk_at "zd", rfl, hb.chk l1, ?_⟩
  walk_at "zq"
  refine ⟨_, _, by walk_at "zd", rfl, hd.chk l2, ?_⟩
  walk_at "zq"
  refine ⟨_, _, by walk_at "zd", rfl, ⟨d, rfl, by omega, rfl⟩, fun p => ?_⟩
  walk_at "zq"
  refine ⟨fun i S M => (∃ c3 c4 c5 c6 : Option ZV, S = [some (.d (bD b)), some (.d (bD d)), some (.c p), c3, c4, c5, c6]) ∧ M = [(p, true, .dT (plcs d))] ∧ ∀ c ∈ b.take i, nearAt d c = false, ⟨⟨_, _, _, _, rfl⟩, rfl, fun c h => by simp at h⟩, fun i x S M hx hI => ?_, ?_⟩
  · rw [List.getElem?_map] at hx
    obtain ⟨c, hc, rfl⟩ := Option.map_eq_some_iff.mp hx
    obtain ⟨⟨c3, c4, c5, c6, rfl⟩, rfl, hI⟩ := hI
    refine ⟨_, _, zg_tup rfl (zgs_cons (zgs_cons (zgs_cons zgs_nil))), ?_⟩
    walk_at "zq"
    refine lcL_map (ring c.x c.y) (fun a => pr a.1 a.2) (fun a => .bool (d.any (isAt a.1 a.2))) ?_
    walk_at "zq"
    walk_at "zt"
    walk_at "zq"
    refine ⟨_, _, by walk_at "zd", rfl, ⟨c.x, c.y, rfl, rfl⟩, ?_⟩
    refine ⟨by rw [ring_grid], by rw [hsz]; exact Nat.le_of_ble_eq_true rfl, fun a ha => ⟨_, _, ?_, zg_name, fun D acc => ?_⟩, ?_⟩
    · simp
    · refine zw_din ?_
      walk_at "zq"
      refine ⟨a.1, [a.2], rfl, ?_⟩
      walk_at "zq"
      refine ⟨_, _, _, rfl, m1 m0, ?_⟩
      rw [plcs_some hd.up]
      exact ⟨rfl, rfl⟩
    rw [show ((ring c.x c.y).map fun a => PyData.bool (d.any (isAt a.1 a.2))) = ((ring c.x c.y).map fun a => d.any (isAt a.1 a.2)).map .bool by rw [List.map_map]; rfl]
    walk_at "zq"
    rw [show ((ring c.x c.y).map fun a => d.any (isAt a.1 a.2)).any id = nearAt d c by rw [← ring_any, List.any_map]; rfl]
    cases hn : nearAt d c with
    | true =>
      walk_at "zq"
      have : nearB b d = true := List.any_eq_true.mpr ⟨c, List.mem_of_getElem? hc, hn⟩
      rw [this]
      try exact ⟨_, rfl, rfl⟩
    | false =>
      walk_at "zq"
      refine ⟨⟨_, _, _, _, rfl⟩, rfl, fun e he => ?_⟩
      rw [take_next hc] at he
      rcases List.mem_append.mp he with he | he
      · exact hI e he
      · rw [List.mem_singleton.mp he]
        exact hn
  · rintro S M ⟨⟨c3, c4, c5, c6, rfl⟩, rfl, hI⟩
    rw [List.length_map, List.take_length] at hI
    walk_at "zq"
    have : nearB b d = false := List.any_eq_false.mpr fun c hc => by rw [hI c hc]; exact Bool.false_ne_true
    rw [this]
    try exact ⟨_, rfl, rfl⟩
def meet (b e : List Cell) : Bool := e.any fun c => b.any (isAt c.x c.y)
def bothD (b e : List Cell) : PyData := .tuple ((sortI ((b ++ e).map Cell.r)).map rowD)
def R_joined (ds : List PyData) (o : DOut) : Prop := ∃ b e, ds = [bD b, bD e] ∧ Board b ∧ Board e ∧ b.length ≤ 1000 ∧ e.length ≤ 1000 ∧ meet b e = false ∧ o = .ok (bothD b e)
theorem ok_joined {P : Program} {w : World} {K : Fg} {mg : Str → Option Value} {base : Heap} {f : Addr} {fd : FuncData} {C_BadBoard C_Clash : Addr} (F : Fun K "joined" "joined" s_joined f fd)
    (m_any : mg "any" = none)
    (r_Clash : Rsr K mg "Clash" C_Clash)
    (m_tuple : mg "tuple" = none)
    (m_sorted : mg "sorted" = none)
    (c_check_board : Cal P w K mg base 4 "check_board" (spD K 1 (R_chk C_BadBoard)))
    (c_states_by_place : Cal P w K mg base 1 "states_by_place" (spE K 1 R_sbp)) :
    FnOk P w K mg base (L2.CX P w) 5 f fd ["board", "other"] (spD K 2 R_joined) := by
  refine F.okX sc_joined (fun vs H Q E h => len_D h) (fun cdv A outer s H vs Q E hr h => ⟨_, (pss_cons (ps_expr (pe_cl c_check_board hr (show 4 ≤ 4 by decide) passL (pa_cons (pv 0) pa_nil)))
      (pss_cons (ps_expr (pe_cl c_check_board hr (show 4 ≤ 4 by decide) passL (pa_cons (pv 1) pa_nil)))
      (pss_cons (ps_set (i := 2) sc_joined.nd rfl (by first | exact Or.inl rfl | exact Or.inr rfl) (pe_cl c_states_by_place hr (show 1 ≤ 4 by decide) passL (pa_cons (pv 0) pa_nil)))
      (pss_cons (ps_if (pt_val (pe_callB (cr_any rfl) (by rfl) m_any bb_any (pa_cons (pe_lc (own := [("x", 3), ("y", 4), ("_", 5)]) rfl sc_joined.nd (pi_tup (pv 1)) (blkOk_by (N := N_joined) (sc := defScope s_joined) (by decide +kernel)) (fun _ _ _ _ _ => (show PG _ _ (gTup K 3 _) from (pg_tup rfl (pgs_cons (pg_name (i := 3) sc_joined.nd rfl (by first | exact Or.inl rfl | exact Or.inr rfl)) (pgs_cons (pg_name (i := 4) sc_joined.nd rfl (by first | exact Or.inl rfl | exact Or.inr rfl)) (pgs_cons (pg_name (i := 5) sc_joined.nd rfl (by first | exact Or.inl rfl | exact Or.inr rfl)) pgs_nil)))))) (fun _ _ _ _ _ => pts_nil) (fun _ _ _ _ _ => (pe_cmp (pc_din (hu_of hr) (pe_tup (pa_cons (pv 3) (pa_cons (pv 4) pa_nil))) (pv 2))))) pa_nil)) (fun _ => rfl)) (pss_one (ps_raise rfl (takes_of rfl rfl rfl rfl) (pmk_own PySem.F.excBase_ValueError r_Clash.xi r_Clash.g r_Clash.k (raises_own r_Clash.ex r_Clash.ty) rfl))) pss_nil)
      (pss_one (ps_ret (pe_callTy call_tuple_of (by rfl) m_tuple bt_tuple (pa_cons (pe_callB cr_sortC (by rfl) m_sorted bb_sorted (pa_cons (pe_op op_addA (pv 0) (pv 1)) pa_nil)) pa_nil)))))))),
    fn_D h fun ds o hk hR => ?_⟩)
  try dsimp only [L2.cxOf]
  obtain ⟨b, e, rfl, hb, he, l1, l2, hm, rfl⟩ := hR
  have hsz : (sizeLine : Nat) = 16777216 := sizeLine_eq
  walk_at "zq"
  refine ⟨_, _, by walk_at "zd", rfl, hb.chk l1, ?_⟩
  walk_at "zq"
  refine ⟨_, _, by walk_at "zd", rfl, he.chk l2, ?_⟩
  walk_at "zq"
  refine ⟨_, _, by walk_at "zd", rfl, ⟨b, rfl, by omega, rfl⟩, fun p => ?_⟩
  walk_at "zq"
  refine lcT_map e Cell.d (fun c => .bool (b.any (isAt c.x c.y))) ?_
  walk_at "zz"
  refine ⟨rfl, by omega, fun c hc => ⟨_, _, ?_, zg_tup rfl (zgs_cons (zgs_cons (zgs_cons zgs_nil))), fun D acc => ?_⟩, ?_⟩
  · simp
  · walk_at "zq"
    walk_at "zt"
    refine ⟨c.x, [c.y], rfl, ?_⟩
    walk_at "zq"
    refine ⟨_, _, _, rfl, m1 m0, ?_⟩
    rw [plcs_some hb.up]
    exact ⟨rfl, rfl⟩
  · rw [show (e.map fun c => PyData.bool (b.any (isAt c.x c.y))) = (e.map fun c => b.any (isAt c.x c.y)).map .bool by rw [List.map_map]; rfl]
    walk_at "zq"
    rw [show (e.map fun c => b.any (isAt c.x c.y)).any id = meet b e by rw [List.any_map]; rfl, hm]
    walk_at "zq"
    refine za_t (by rw [List.length_map, List.length_map]; omega) ?_
    walk_at "zq"
    rw [← List.map_append, ← rows_d]
    refine zc_sortT (fun r hr => rows_ne hr) ?_
    walk_at "zq"
    refine zc_tupL ?_
    exact ⟨_, rfl, rfl⟩
/-- numbers, texts, None, and tuples and lists of such -/
def al : Nat → PyData → Bool
  | 0, _ => false
  | _ + 1, .int _ => true
  | _ + 1, .bool _ => true
  | _ + 1, .str _ => true
  | _ + 1, .none => true
  | n + 1, .tuple xs => decide (xs.length ≤ 1000) && xs.all (al n)
  | n + 1, .list xs => decide (xs.length ≤ 1000) && xs.all (al n)
  | _ + 1, _ => false
def R_alike (n : Nat) (ds : List PyData) (o : DOut) : Prop := ∃ d, ds = [d, d] ∧ al n d = true ∧ o = .ok (.bool true)
theorem alike_vac {P : Program} {w : World} {K : Fg} {mg : Str → Option Value} {base : Heap} {f : Addr} {fd : FuncData} (F : Fun K "_law_alike" "_law_alike" s_law_alike f fd) : FnOk P w K mg base (L2.CX P w) 1 f fd ["found", "due"] (spD K 2 (R_alike 0)) := by
  refine F.okX sc_law_alike (fun vs H Q E h => len_D h) (fun cdv A outer s H vs Q E hr h => ?_)
  obtain ⟨G, ds, o, e, hk, hd, ⟨d, _, h2, _⟩, _⟩ := h
  cases h2
theorem ok_law_alike {P : Program} {w : World} {K : Fg} {mg : Str → Option Value} {base : Heap} {f : Addr} {fd : FuncData} {j : Nat} {n : Nat} (F : Fun K "_law_alike" "_law_alike" s_law_alike f fd)
    (m_isinstance : mg "isinstance" = none)
    (m_list : mg "list" = none)
    (m_tuple : mg "tuple" = none)
    (m_len : mg "len" = none)
    (m_range : mg "range" = none)
    (m_str : mg "str" = none)
    (m_bool : mg "bool" = none)
    (m_int : mg "int" = none)
    (c__law_alike : Cal P w K mg base j "_law_alike" (spD K 2 (R_alike n))) :
    FnOk P w K mg base (L2.CX P w) (j+1) f fd ["found", "due"] (spD K 2 (R_alike (n + 1))) := by
  refine F.okX sc_law_alike (fun vs H Q E h => len_D h) (fun cdv A outer s H vs Q E hr h => ⟨_, (pss_cons (ps_if (pt_val (pe_callB call_isiT (by rfl) m_isinstance bb_isinstance (pa_cons (pv 1) (pa_cons (pe_tup (pa_cons (pe_bltn (v := .ty "tuple") (by rfl) m_tuple bt_tuple rfl) (pa_cons (pe_bltn (v := .ty "list") (by rfl) m_list bt_list rfl) pa_nil))) pa_nil))) (fun _ => rfl)) (pss_cons (ps_if (PW.pt (pw_or (pt_not (pt_val (pe_callB call_isiT (by rfl) m_isinstance bb_isinstance (pa_cons (pv 0) (pa_cons (pe_tup (pa_cons (pe_bltn (v := .ty "tuple") (by rfl) m_tuple bt_tuple rfl) (pa_cons (pe_bltn (v := .ty "list") (by rfl) m_list bt_list rfl) pa_nil))) pa_nil))) (fun _ => rfl))) (pw_or1 (pt_cmpR (op_neA hr.units) (pe_callB call_isi (by rfl) m_isinstance bb_isinstance (pa_cons (pv 0) (pa_cons (pe_bltn (v := .ty "list") (by rfl) m_list bt_list rfl) pa_nil))) (pe_callB call_isi (by rfl) m_isinstance bb_isinstance (pa_cons (pv 1) (pa_cons (pe_bltn (v := .ty "list") (by rfl) m_list bt_list rfl) pa_nil))) (nomark _))))) (pss_one (ps_ret pe_bl)) pss_nil)
      (pss_cons (ps_if (pt_cmpR (op_neA hr.units) (pe_callB call_len (by rfl) m_len bb_len (pa_cons (pv 0) pa_nil)) (pe_callB call_len (by rfl) m_len bb_len (pa_cons (pv 1) pa_nil)) (nomark _)) (pss_one (ps_ret pe_bl)) pss_nil)
      (pss_one (ps_ret (pe_cmpR (op_eqA hr.units) (pe_lc (own := [("k", 2)]) rfl sc_law_alike.nd (pi_range1 (by rfl) m_range (pa_cons (pe_callB call_len (by rfl) m_len bb_len (pa_cons (pv 1) pa_nil)) pa_nil)) (blkOk_by (N := N_law_alike) (sc := defScope s_law_alike) (by decide +kernel)) (fun _ _ _ _ _ => (pg_name (i := 2) sc_law_alike.nd rfl (by first | exact Or.inl rfl | exact Or.inr rfl))) (fun _ _ _ _ _ => (pts_one (pt_not (pt_val (pe_cl c__law_alike hr (Nat.le_refl _) passL (pa_cons (pe_ix (show IxR _ (rIx K) from ix_seq) (pv 0) (pv 2) (fun _ _ => rfl)) (pa_cons (pe_ix (show IxR _ (rIx K) from ix_seq) (pv 1) (pv 2) (fun _ _ => rfl)) pa_nil))) (fun _ => rfl))))) (fun _ _ _ _ _ => (pv 2))) (pe_lst pa_nil) (nomark _)))))) pss_nil)
      (pss_cons (ps_if (PW.pt (pw_or (pt_cmpR op_isN (pv 1) pe_non (nomark _)) (pw_or1 (pt_val (pe_callB call_isi (by rfl) m_isinstance bb_isinstance (pa_cons (pv 1) (pa_cons (pe_bltn (v := .ty "str") (by rfl) m_str bt_str rfl) pa_nil))) (fun _ => rfl))))) (pss_one (ps_ret (pe_and (pe_cmpR (op_eqA hr.units) (pv 0) (pv 1) (nomark _)) (pe_one (pe_cmpR (op_eqA hr.units) (pe_callB call_isi (by rfl) m_isinstance bb_isinstance (pa_cons (pv 0) (pa_cons (pe_bltn (v := .ty "str") (by rfl) m_str bt_str rfl) pa_nil))) (pe_callB call_isi (by rfl) m_isinstance bb_isinstance (pa_cons (pv 1) (pa_cons (pe_bltn (v := .ty "str") (by rfl) m_str bt_str rfl) pa_nil))) (nomark _)))))) pss_nil)
      (pss_one (ps_ret (pe_and (pe_callB call_isi (by rfl) m_isinstance bb_isinstance (pa_cons (pv 0) (pa_cons (pe_bltn (v := .ty "int") (by rfl) m_int bt_int rfl) pa_nil))) (pe_and (pe_cmpR (op_eqA hr.units) (pe_callB call_isi (by rfl) m_isinstance bb_isinstance (pa_cons (pv 0) (pa_cons (pe_bltn (v := .ty "bool") (by rfl) m_bool bt_bool rfl) pa_nil))) (pe_callB call_isi (by rfl) m_isinstance bb_isinstance (pa_cons (pv 1) (pa_cons (pe_bltn (v := .ty "bool") (by rfl) m_bool bt_bool rfl) pa_nil))) (nomark _)) (pe_one (pe_cmpR (op_eqA hr.units) (pv 0) (pv 1) (nomark _))))))))),
    fn_D h fun ds o hk hR => ?_⟩)
  try dsimp only [L2.cxOf]
  obtain ⟨d, rfl, ha, rfl⟩ := hR
  walk_at "zz"
  cases d with
  | tuple xs =>
    have ha2 : xs.length ≤ 1000 ∧ ∀ x ∈ xs, al n x = true := by
      have h : (decide (xs.length ≤ 1000) && xs.all (al n)) = true := ha
      rw [Bool.and_eq_true, List.all_eq_true] at h
      exact ⟨of_decide_eq_true h.1, h.2⟩
    walk_at "zq"
    rw [decide_eq_true rfl]
    walk_at "zq"
    refine ⟨by omega, by rw [sizeLine_eq]; omega, fun i acc M' => acc = [] ∧ M' = [], ⟨rfl, rfl⟩, ?_, ?_⟩
    · rintro i hi acc M2 D ⟨rfl, rfl⟩
      have hi2 : i < xs.length := by omega
      have hat : atI xs (0 + (i : Int)) = some xs[i] := by rw [Int.zero_add]; exact atI_nat (List.getElem?_eq_getElem hi2)
      refine ⟨_, _, ?_, zg_name, ?_⟩
      · simp
      · walk_at "zq"
        refine ⟨_, _, allD_cons (allD_cons allD_nil), rfl, ⟨_, rfl, ha2.2 _ (List.getElem_mem hi2), rfl⟩, ?_⟩
        walk_at "zq"
        exact ⟨rfl, rfl⟩
    · rintro acc M2 ⟨rfl, rfl⟩
      walk_at "zq"
      refine zw_lstD ?_
      walk_at "zq"
      walk_at "zt"
      refine zo_eqDD rfl rfl ?_
      exact ⟨_, rfl, rfl⟩
  | list xs =>
    have ha2 : xs.length ≤ 1000 ∧ ∀ x ∈ xs, al n x = true := by
      have h : (decide (xs.length ≤ 1000) && xs.all (al n)) = true := ha
      rw [Bool.and_eq_true, List.all_eq_true] at h
      exact ⟨of_decide_eq_true h.1, h.2⟩
    walk_at "zq"
    rw [decide_eq_true rfl]
    walk_at "zq"
    refine ⟨by omega, by rw [sizeLine_eq]; omega, fun i acc M' => acc = [] ∧ M' = [], ⟨rfl, rfl⟩, ?_, ?_⟩
    · rintro i hi acc M2 D ⟨rfl, rfl⟩
      have hi2 : i < xs.length := by omega
      have hat : atI xs (0 + (i : Int)) = some xs[i] := by rw [Int.zero_add]; exact atI_nat (List.getElem?_eq_getElem hi2)
      refine ⟨_, _, ?_, zg_name, ?_⟩
      · simp
      · walk_at "zq"
        refine ⟨_, _, allD_cons (allD_cons allD_nil), rfl, ⟨_, rfl, ha2.2 _ (List.getElem_mem hi2), rfl⟩, ?_⟩
        walk_at "zq"
        exact ⟨rfl, rfl⟩
    · rintro acc M2 ⟨rfl, rfl⟩
      walk_at "zq"
      refine zw_lstD ?_
      walk_at "zq"
      walk_at "zt"
      refine zo_eqDD rfl rfl ?_
      exact ⟨_, rfl, rfl⟩
  | str x =>
    walk_at "zq"
    rw [decide_eq_true rfl]
    walk_at "zq"
    all_goals rfl
  | int i =>
    walk_at "zq"
    rw [decide_eq_true rfl]
  | bool i =>
    walk_at "zq"
    rw [show (i == i) = true by cases i <;> rfl]
    try walk_at "zq"
    all_goals first | rfl | exact ⟨_, rfl, rfl⟩
  | none =>
    walk_at "zq"
    refine zo_eqDD rfl rfl ?_
    walk_at "zq"
    rfl
  | _ => cases ha
def R_lmoved (ds : List PyData) (o : DOut) : Prop := ∃ b x y, ds = [bD b, .int x, .int y] ∧ b.length ≤ 1000 ∧ o = .ok (bD (b.map (Cell.mv x y)))
theorem ok_law_moved {P : Program} {w : World} {K : Fg} {mg : Str → Option Value} {base : Heap} {f : Addr} {fd : FuncData} (F : Fun K "_law_moved" "_law_moved" s_law_moved f fd)
    (m_tuple : mg "tuple" = none) :
    FnOk P w K mg base (L2.CX P w) 1 f fd ["board", "x", "y"] (spD K 3 R_lmoved) := by
  refine F.okX sc_law_moved (fun vs H Q E h => len_D h) (fun cdv A outer s H vs Q E hr h => ⟨_, (pss_one (ps_ret (pe_callTy call_tuple_of (by rfl) m_tuple bt_tuple (pa_cons (pe_lc (own := [("cell", 3)]) rfl sc_law_moved.nd (pi_tup (pv 0)) (blkOk_by (N := N_law_moved) (sc := defScope s_law_moved) (by decide +kernel)) (fun _ _ _ _ _ => (pg_name (i := 3) sc_law_moved.nd rfl (by first | exact Or.inl rfl | exact Or.inr rfl))) (fun _ _ _ _ _ => pts_nil) (fun _ _ _ _ _ => (pe_tup (pa_cons (pe_op (show OpR _ (binaryOp .Add) (rAddA K) from op_addA) (pe_ix (show IxR _ (rIx K) from ix_seq) (pv 3) pe_int (fun _ _ => rfl)) (pv 1)) (pa_cons (pe_op (show OpR _ (binaryOp .Add) (rAddA K) from op_addA) (pe_ix (show IxR _ (rIx K) from ix_seq) (pv 3) pe_int (fun _ _ => rfl)) (pv 2)) (pa_cons (pe_ix (show IxR _ (rIx K) from ix_seq) (pv 3) pe_int (fun _ _ => rfl)) pa_nil)))))) pa_nil)))),
    fn_D h fun ds o hk hR => ?_⟩)
  try dsimp only [L2.cxOf]
  obtain ⟨b, x, y, rfl, hb, rfl⟩ := hR
  have hsz : (sizeLine : Nat) = 16777216 := sizeLine_eq
  walk_at "zq"
  refine lcT_map b Cell.d (fun c => (c.mv x y).d) ?_
  walk_at "zz"
  refine ⟨rfl, by omega, fun c hc => ⟨_, _, ?_, zg_name, fun D acc => ?_⟩, ?_⟩
  · simp
  · walk_at "zq"
    walk_at "zt"
    exact ⟨rfl, rfl⟩
  · walk_at "zq"
    refine zc_tupL ?_
    exact ⟨_, rfl, by unfold bD; rw [List.map_map]; rfl⟩
def Wd (x : Int) : Prop := x.natAbs.log2 < 9000
theorem wd_of {x : Int} (h : x.natAbs < 2 ^ 200) : Wd x := by
  unfold Wd
  by_cases hz : x.natAbs = 0
  · rw [hz]; decide
  · exact Nat.lt_of_lt_of_le ((Nat.log2_lt hz).2 h) (by decide)
/-- a draw's row: the script, the cell's number, the seed, the rest -/
structure RowS where
  ns : List Int
  i : Int
  s : Int
  r : Int
  hi : 0 ≤ i
  hs : 0 ≤ s
  ht : s < 2147483647
def RowS.d (t : RowS) : List PyData := [.list (t.ns.map .int), .int t.i, .int t.s, .int t.r]
def RowS.cell (t : RowS) : Int := t.ns.getD t.i.toNat 0
def RowS.draw (t : RowS) (many : Int) : Int := if 0 < t.r then t.r % many else if (t.ns.length : Int) < t.i + 1 then (t.s * 48271 + 11) % 2147483647 / 7 % many else t.cell % many
theorem mod_ok (a : Int) : 0 ≤ a % 2147483647 ∧ a % 2147483647 < 2147483647 := ⟨Int.emod_nonneg _ (by decide), Int.emod_lt_of_pos _ (by decide)⟩
def RowS.next (t : RowS) (many : Int) : RowS := if 0 < t.r then { t with r := t.r / many } else if (t.ns.length : Int) < t.i + 1 then ⟨t.ns, t.i + 1, (t.s * 48271 + 11) % 2147483647, t.r, by have := t.hi; omega, (mod_ok _).1, (mod_ok _).2⟩
  else ⟨t.ns, t.i + 1, (t.s * 48271 + t.cell + 11) % 2147483647, if 10 ^ 18 ≤ t.cell then t.cell / many else t.r, by have := t.hi; omega, (mod_ok _).1, (mod_ok _).2⟩
theorem RowS.draw_lt (t : RowS) {many : Int} (h : 0 < many) : 0 ≤ t.draw many ∧ t.draw many < many := by
  unfold RowS.draw
  split
  · exact ⟨Int.emod_nonneg _ (by omega), Int.emod_lt_of_pos _ h⟩
  · split <;> exact ⟨Int.emod_nonneg _ (by omega), Int.emod_lt_of_pos _ h⟩
def R_taken (xs ds : List PyData) (F : DOut → List PyData → Prop) : Prop := ∃ (t : RowS) (many : Int), xs = t.d ∧ ds = [.int many] ∧ 0 < many ∧ many.natAbs.log2 < 9000 ∧ ∀ (v : Int) (t' : RowS), 0 ≤ v → v < many → F (.ok (.int v)) t'.d
theorem ok_law_taken {P : Program} {w : World} {K : Fg} {mg : Str → Option Value} {base : Heap} {f : Addr} {fd : FuncData} (F : Fun K "_law_taken" "_law_taken" s_law_taken f fd)
    (m_int : mg "int" = none)
    (m_len : mg "len" = none) :
    FnOk P w K mg base (L2.CX P w) 1 f fd ["row", "many"] (spC K 1 R_taken) := by
  refine F.okX sc_law_taken (fun vs H Q E h => len_C h) (fun cdv A outer s H vs Q E hr h => ⟨_, (pss_cons (ps_if (pt_cmpR op_gt (pe_ix ix_seq (pv 0) pe_int (fun _ _ => rfl)) pe_int (nomark _)) (pss_cons (ps_set (i := 2) sc_law_taken.nd rfl (by first | exact Or.inl rfl | exact Or.inr rfl) (pe_op op_mod (pe_callTy (call_int1.or call_int_str) (by rfl) m_int bt_int (pa_cons (pe_ix ix_seq (pv 0) pe_int (fun _ _ => rfl)) pa_nil)) (pv 1)))
      (pss_cons (ps_asg (pe_op op_fdivW (pe_ix ix_seq (pv 0) pe_int (fun _ _ => rfl)) (pv 1)) (pg_sub (pv 0) pe_int set_list))
      (pss_one (ps_ret (pv 2))))) pss_nil)
      (pss_cons (ps_asg (pe_op op_addA (pe_ix ix_seq (pv 0) pe_int (fun _ _ => rfl)) pe_int) (pg_sub (pv 0) pe_int set_list))
      (pss_cons (ps_if (pt_cmpR op_gt (pe_ix ix_seq (pv 0) pe_int (fun _ _ => rfl)) (pe_callB call_len (by rfl) m_len bb_len (pa_cons (pe_ix ix_seq (pv 0) pe_int (fun _ _ => rfl)) pa_nil)) (nomark _)) (pss_cons (ps_asg (pe_op op_mod (pe_callTy (call_int1.or call_int_str) (by rfl) m_int bt_int (pa_cons (pe_op op_addA (pe_op op_mul (pe_ix ix_seq (pv 0) pe_int (fun _ _ => rfl)) pe_int) pe_int) pa_nil)) pe_int) (pg_sub (pv 0) pe_int set_list))
      (pss_one (ps_ret (pe_op op_mod (pe_callTy (call_int1.or call_int_str) (by rfl) m_int bt_int (pa_cons (pe_op op_fdivW (pe_ix ix_seq (pv 0) pe_int (fun _ _ => rfl)) pe_int) pa_nil)) (pv 1))))) pss_nil)
      (pss_cons (ps_set (i := 3) sc_law_taken.nd rfl (by first | exact Or.inl rfl | exact Or.inr rfl) (pe_ix ix_seq (pe_ix ix_seq (pv 0) pe_int (fun _ _ => rfl)) (pe_op op_sub (pe_ix ix_seq (pv 0) pe_int (fun _ _ => rfl)) pe_int) (fun _ _ => rfl)))
      (pss_cons (ps_asg (pe_op op_mod (pe_callTy (call_int1.or call_int_str) (by rfl) m_int bt_int (pa_cons (pe_op op_addA (pe_op op_addA (pe_op op_mul (pe_ix ix_seq (pv 0) pe_int (fun _ _ => rfl)) pe_int) (pv 3)) pe_int) pa_nil)) pe_int) (pg_sub (pv 0) pe_int set_list))
      (pss_cons (ps_if (pt_cmpR op_ge (pv 3) (pe_op op_pow pe_int pe_int) (nomark _)) (pss_one (ps_asg (pe_op op_fdivW (pv 3) (pv 1)) (pg_sub (pv 0) pe_int set_list))) pss_nil)
      (pss_one (ps_ret (pe_op op_mod (pe_callTy (call_int1.or call_int_str) (by rfl) m_int bt_int (pa_cons (pv 3) pa_nil)) (pv 1)))))))))),
    fn_C h fun p xs ds F hk hR => ?_⟩)
  try dsimp only [L2.cxOf]
  obtain ⟨t, many, rfl, rfl, hm, hm2, hF⟩ := hR
  have hG := hF _ (t.next many) (t.draw_lt hm).1 (t.draw_lt hm).2
  clear hF
  have hi := t.hi
  have hs := t.hs
  have ht := t.ht
  walk_at "zz"
  refine ⟨_, rfl, fun hb => ?_, fun hb => ?_⟩
  · have hb : 0 < t.r := of_decide_eq_true hb
    have e1 : t.draw many = t.r % many := if_pos hb
    have e2 : (t.next many).d = [.list (t.ns.map .int), .int t.i, .int t.s, .int (t.r / many)] := by unfold RowS.next; rw [if_pos hb]; rfl
    walk_at "zz"
    refine zo_mod hm ?_
    walk_at "zz"
    refine zo_fdivW ⟨hm, hm2⟩ ?_
    refine ⟨_, rfl, ?_⟩
    walk_at "zz"
    refine ⟨p, false, _, 3, 3, _, rfl, rfl, rfl, .here, ?_⟩
    walk_at "zz"
    exact ⟨_, _, rfl, by rw [e1] at hG; exact hG, by rw [e2]; exact m0⟩
  · have hb : ¬ 0 < t.r := of_decide_eq_false hb
    walk_at "zz"
    refine ⟨_, rfl, ?_⟩
    walk_at "zz"
    refine ⟨p, false, _, 1, 1, _, rfl, rfl, rfl, .here, ?_⟩
    walk_at "zz"
    refine ⟨_, rfl, fun hc => ?_, fun hc => ?_⟩
    · have hc : (t.ns.length : Int) < t.i + 1 := by simpa using of_decide_eq_true hc
      have e1 : t.draw many = (t.s * 48271 + 11) % 2147483647 / 7 % many := by unfold RowS.draw; rw [if_neg hb, if_pos hc]
      have e2 : (t.next many).d = [.list (t.ns.map .int), .int (t.i + 1), .int ((t.s * 48271 + 11) % 2147483647), .int t.r] := by unfold RowS.next; rw [if_neg hb, if_pos hc]; rfl
      walk_at "zz"
      refine zo_mul (.inl ⟨by omega, by omega⟩) ?_
      walk_at "zz"
      refine zo_mod (by decide) ?_
      refine ⟨_, rfl, ?_⟩
      walk_at "zz"
      refine ⟨p, false, _, 2, 2, _, rfl, rfl, rfl, .here, ?_⟩
      walk_at "zz"
      refine zo_fdivW ⟨by decide, by decide⟩ ?_
      walk_at "zz"
      refine zo_mod hm ?_
      exact ⟨_, _, rfl, by rw [e1] at hG; exact hG, by rw [e2]; exact m0⟩
    · have hc : ¬ (t.ns.length : Int) < t.i + 1 := fun z => absurd (of_decide_eq_false hc) (by simpa using z)
      have hg : t.ns[t.i.toNat]? = some t.cell := by
        unfold RowS.cell
        rw [List.getD_eq_getElem?_getD]
        rw [List.getElem?_eq_getElem (by omega)]
        rfl
      have hat : atI (t.ns.map PyData.int) (t.i + 1 - 1) = some (.int t.cell) := by
        have e : t.i + 1 - 1 = ((t.i.toNat : Nat) : Int) := by omega
        rw [e]
        exact atI_nat (by rw [List.getElem?_map, hg]; rfl)
      have e1 : t.draw many = t.cell % many := by unfold RowS.draw; rw [if_neg hb, if_neg hc]
      have e2 : (t.next many).d = [.list (t.ns.map .int), .int (t.i + 1), .int ((t.s * 48271 + t.cell + 11) % 2147483647), .int (if 10 ^ 18 ≤ t.cell then t.cell / many else t.r)] := by unfold RowS.next; rw [if_neg hb, if_neg hc]; rfl
      walk_at "zz"
      refine zo_mul (.inl ⟨by omega, by omega⟩) ?_
      walk_at "zz"
      refine zo_mod (by decide) ?_
      refine ⟨_, rfl, ?_⟩
      walk_at "zz"
      refine ⟨p, false, _, 2, 2, _, rfl, rfl, rfl, .here, ?_⟩
      walk_at "zz"
      refine zo_pow ⟨by decide, by decide, by decide⟩ ?_
      walk_at "zz"
      refine ⟨_, rfl, fun hd => ?_, fun hd => ?_⟩
      · have hd : (10 : Int) ^ 18 ≤ t.cell := of_decide_eq_true hd
        rw [if_pos hd] at e2
        walk_at "zz"
        refine zo_fdivW ⟨hm, hm2⟩ ?_
        refine ⟨_, rfl, ?_⟩
        walk_at "zz"
        refine ⟨p, false, _, 3, 3, _, rfl, rfl, rfl, .here, ?_⟩
        walk_at "zz"
        refine zo_mod hm ?_
        exact ⟨_, _, rfl, by rw [e1] at hG; exact hG, by rw [e2]; exact m0⟩
      · have hd : ¬ (10 : Int) ^ 18 ≤ t.cell := of_decide_eq_false hd
        rw [if_neg hd] at e2
        walk_at "zz"
        refine zo_mod hm ?_
        exact ⟨_, _, rfl, by rw [e1] at hG; exact hG, by rw [e2]; exact m0⟩
theorem log_small {n : Nat} (h : n < 2 ^ 100) : ((n : Int)).natAbs.log2 < 9000 := by
  rw [Int.natAbs_natCast]
  by_cases hz : n = 0
  · subst hz; decide
  · exact Nat.lt_of_lt_of_le ((Nat.log2_lt hz).2 h) (by decide)
def R_signed (xs ds : List PyData) (F : DOut → List PyData → Prop) : Prop := ∃ (t : RowS) (most : Int), xs = t.d ∧ ds = [.int most] ∧ 0 ≤ most ∧ most ≤ 2 ^ 90 ∧ ∀ (v : Int) (t' : RowS), -most ≤ v → v ≤ most → F (.ok (.int v)) t'.d
theorem ok_law_signed {P : Program} {w : World} {K : Fg} {mg : Str → Option Value} {base : Heap} {f : Addr} {fd : FuncData} (F : Fun K "_law_signed" "_law_signed" s_law_signed f fd)
    (c__law_taken : Cal P w K mg base 1 "_law_taken" (spC K 1 R_taken)) :
    FnOk P w K mg base (L2.CX P w) 2 f fd ["row", "most"] (spC K 1 R_signed) := by
  refine F.okX sc_law_signed (fun vs H Q E h => len_C h) (fun cdv A outer s H vs Q E hr h => ⟨_, (pss_one (ps_ret (pe_op op_sub (pe_cl c__law_taken hr (show 1 ≤ 1 by decide) passL (pa_cons (pv 0) (pa_cons (pe_op op_addA (pe_op op_mul pe_int (pv 1)) pe_int) pa_nil))) (pv 1)))),
    fn_C h fun p xs ds F hk hR => ?_⟩)
  try dsimp only [L2.cxOf]
  obtain ⟨t, most, rfl, rfl, h0, h1, hF⟩ := hR
  walk_at "zq"
  refine zo_mul (.inl ⟨by decide, by decide⟩) ?_
  walk_at "zq"
  refine ⟨_, _, _, _, _, rfl, m0, allD_cons allD_nil, rfl, ⟨t, 2 * most + 1, rfl, rfl, by omega, wd_of (by omega), fun v t' h2 h3 => ⟨_, _, rfl, .here, ?_⟩⟩⟩
  walk_at "zq"
  exact ⟨_, _, rfl, hF (v - most) t' (by omega) (by omega), m0⟩
def R_pick (xs ds : List PyData) (F : DOut → List PyData → Prop) : Prop := ∃ (t : RowS) (things : List PyData), xs = t.d ∧ ds = [.list things] ∧ things ≠ [] ∧ things.length < 1000 ∧ ∀ (i : Nat) (v : PyData) (t' : RowS), things[i]? = some v → F (.ok v) t'.d
theorem ok_law_pick {P : Program} {w : World} {K : Fg} {mg : Str → Option Value} {base : Heap} {f : Addr} {fd : FuncData} (F : Fun K "_law_pick" "_law_pick" s_law_pick f fd)
    (m_len : mg "len" = none)
    (c__law_taken : Cal P w K mg base 1 "_law_taken" (spC K 1 R_taken)) :
    FnOk P w K mg base (L2.CX P w) 2 f fd ["row", "things"] (spC K 1 R_pick) := by
  refine F.okX sc_law_pick (fun vs H Q E h => len_C h) (fun cdv A outer s H vs Q E hr h => ⟨_, (pss_one (ps_ret (pe_ix ix_seq (pv 1) (pe_cl c__law_taken hr (show 1 ≤ 1 by decide) passL (pa_cons (pv 0) (pa_cons (pe_callB call_len (by rfl) m_len bb_len (pa_cons (pv 1) pa_nil)) pa_nil))) (fun _ _ => rfl)))),
    fn_C h fun p xs ds F hk hR => ?_⟩)
  try dsimp only [L2.cxOf]
  obtain ⟨t, things, rfl, rfl, hne, hl, hF⟩ := hR
  walk_at "zq"
  have hp : 0 < things.length := List.length_pos_iff.mpr hne
  refine ⟨_, _, _, _, _, rfl, m0, allD_cons allD_nil, rfl, ⟨t, things.length, rfl, rfl, by omega, log_small (by omega), fun v t' h0 hv => ⟨_, _, rfl, .here, ?_⟩⟩⟩
  have hi : v.toNat < things.length := by omega
  have hv2 : atI things v = some things[v.toNat] := by
    have e : v = ((v.toNat : Nat) : Int) := by omega
    have h := atI_nat (xs := things) (List.getElem?_eq_getElem hi)
    rw [← e] at h
    exact h
  refine zo_ix hv2 ?_
  exact ⟨_, _, rfl, hF v.toNat _ t' (List.getElem?_eq_getElem hi), m0⟩
/-- the cells drawn so far: the columns below i, and of column i the rows below j -/
structure Grid (g n : Nat) (b : List Cell) (i j : Nat) : Prop where
  len : b.length ≤ g * i + j
  ok : ∀ c ∈ b, (0 ≤ c.x ∧ (c.x < i ∨ (c.x = i ∧ c.y < j))) ∧ (0 ≤ c.y ∧ c.y < g) ∧ 1 ≤ c.s ∧ c.s < n
  up : b.Pairwise lt2
theorem Grid.skip {g n : Nat} {b : List Cell} {i j : Nat} (h : Grid g n b i j) : Grid g n b i (j + 1) := ⟨by have := h.len; omega, fun c hc => by have := h.ok c hc; omega, h.up⟩
theorem Grid.line {g n : Nat} {b : List Cell} {i : Nat} (h : Grid g n b i g) : Grid g n b (i + 1) 0 := ⟨by have := h.len; rw [Nat.mul_add]; omega, fun c hc => by have := h.ok c hc; omega, h.up⟩
theorem Grid.put {g n : Nat} {b : List Cell} {i j : Nat} {s : Int} (h : Grid g n b i j) (hj : j < g) (h1 : 1 ≤ s) (h5 : s < n) : Grid g n (b ++ [⟨i, j, s⟩]) i (j + 1) := by
  refine ⟨?_, fun c hc => ?_, ?_⟩
  · have := h.len
    rw [List.length_append]
    simp
    omega
  · rcases List.mem_append.mp hc with z | z
    · have := h.ok c z; omega
    · have : c = ⟨i, j, s⟩ := by simpa using z
      subst this
      dsimp only
      omega
  · rw [List.pairwise_append]
    refine ⟨h.up, by simp, fun c hc e he => ?_⟩
    have : e = ⟨i, j, s⟩ := by simpa using he
    subst this
    have := h.ok c hc
    unfold lt2
    dsimp only
    omega
def R_cells (xs ds : List PyData) (F : DOut → List PyData → Prop) : Prop := ∃ (t : RowS) (wi g n : Nat), xs = t.d ∧ ds = [.int (wi : Int), .int (g : Int), .int (n : Int)] ∧ wi ≤ 5 ∧ g ≤ 5 ∧ 2 ≤ n ∧ n ≤ 6 ∧ ∀ (b : List Cell) (t' : RowS), Grid g n b wi 0 → F (.ok (bD b)) t'.d
theorem ok_law_cells {P : Program} {w : World} {K : Fg} {mg : Str → Option Value} {base : Heap} {f : Addr} {fd : FuncData} (F : Fun K "_law_cells" "_law_cells" s_law_cells f fd)
    (m_range : mg "range" = none)
    (m_tuple : mg "tuple" = none)
    (c__law_taken : Cal P w K mg base 1 "_law_taken" (spC K 1 R_taken)) :
    FnOk P w K mg base (L2.CX P w) 2 f fd ["row", "wide", "high", "states"] (spC K 3 R_cells) := by
  refine F.okX sc_law_cells (fun vs H Q E h => len_C h) (fun cdv A outer s H vs Q E hr h => ⟨_, (pss_cons (ps_set (i := 4) sc_law_cells.nd rfl (by first | exact Or.inl rfl | exact Or.inr rfl) (pe_lst pa_nil))
      (pss_cons (ps_for (passes_of rfl) rfl (pi_range1 (by rfl) m_range (pa_cons (pv 1) pa_nil)) (pg_name (i := 5) sc_law_cells.nd rfl (by first | exact Or.inl rfl | exact Or.inr rfl)) (pss_one (ps_for (passes_of rfl) rfl (pi_range1 (by rfl) m_range (pa_cons (pv 2) pa_nil)) (pg_name (i := 6) sc_law_cells.nd rfl (by first | exact Or.inl rfl | exact Or.inr rfl)) (pss_one (ps_if (pt_cmpR (op_eqA hr.units) (pe_cl c__law_taken hr (show 1 ≤ 1 by decide) passL (pa_cons (pv 0) (pa_cons pe_int pa_nil))) pe_int (nomark _)) (pss_one (ps_expr (pe_bm PySem.F.plainAttrs_list PySem.F.slot_list_append PySem.F.type_list_append mt_append (pv 4) (pa_cons (pe_tup (pa_cons (pv 5) (pa_cons (pv 6) (pa_cons (pe_op op_addA pe_int (pe_ifExp (pt_cmpR (op_eqA hr.units) (pe_cl c__law_taken hr (show 1 ≤ 1 by decide) passL (pa_cons (pv 0) (pa_cons pe_int pa_nil))) pe_int (nomark _)) (pe_cl c__law_taken hr (show 1 ≤ 1 by decide) passL (pa_cons (pv 0) (pa_cons (pe_op op_sub (pv 3) pe_int) pa_nil))) pe_int)) pa_nil)))) pa_nil)))) pss_nil)))))
      (pss_one (ps_ret (pe_callTy call_tuple_of (by rfl) m_tuple bt_tuple (pa_cons (pv 4) pa_nil)))))),
    fn_C h fun p xs ds F hk hR => ?_⟩)
  try dsimp only [L2.cxOf]
  obtain ⟨t, wi, g, n, rfl, rfl, hwi, hg, hn2, hn6, hF⟩ := hR
  have hsz : (sizeLine : Nat) = 16777216 := sizeLine_eq
  walk_at "zq"
  refine zw_lstC ?_
  walk_at "zq"
  walk_at "zt"
  intro q
  walk_at "zq"
  refine ⟨by omega, by omega, fun i S2 M2 => ∃ (t : RowS) (b : List Cell) (c5 c6 : Option ZV), S2 = [some (.c p), some (.d (.int (wi : Int))), some (.d (.int (g : Int))), some (.d (.int (n : Int))), some (.c q), c5, c6] ∧ M2 = [(q, true, .lst (b.map Cell.d)), (p, false, .lst t.d)] ∧ Grid g n b i 0, ⟨t, [], _, _, rfl, rfl, ⟨by simp, fun c h => (nomatch h), .nil⟩⟩, ?_, ?_⟩
  · rintro i S2 M2 hi ⟨t, b, c5, c6, rfl, rfl, hG⟩
    have hi : i < wi := by omega
    walk_at "zq"
    refine ⟨by omega, by omega, fun j S2 M2 => ∃ (t : RowS) (b : List Cell) (c6 : Option ZV), S2 = [some (.c p), some (.d (.int (wi : Int))), some (.d (.int (g : Int))), some (.d (.int (n : Int))), some (.c q), some (.d (.int i)), c6] ∧ M2 = [(q, true, .lst (b.map Cell.d)), (p, false, .lst t.d)] ∧ Grid g n b i j, ⟨t, b, _, by rw [Int.zero_add]; rfl, rfl, hG⟩, ?_, ?_⟩
    · rintro j S2 M2 hj ⟨t, b, c6, rfl, rfl, hG⟩
      have hj : j < g := by omega
      have hbl := hG.len
      have h55 := Nat.mul_le_mul hg (Nat.le_of_lt (Nat.lt_of_lt_of_le hi hwi))
      walk_at "zq"
      refine ⟨_, _, _, _, _, rfl, m1 m0, allD_cons allD_nil, rfl, ⟨t, 2, rfl, rfl, by decide, by decide, fun v t1 h0 hv => ⟨_, _, rfl, .there .here, ?_⟩⟩⟩
      walk_at "zq"
      refine ⟨fun h => ?_, fun h => ?_⟩
      · walk_at "zq"
        refine zw_append ?_
        walk_at "zq"
        refine ⟨⟨_, _, m0⟩, ?_⟩
        walk_at "zq"
        refine ⟨_, _, _, _, _, rfl, m1 m0, allD_cons allD_nil, rfl, ⟨t1, 3, rfl, rfl, by decide, by decide, fun v t2 h0 hv => ⟨_, _, rfl, .there .here, ?_⟩⟩⟩
        walk_at "zq"
        refine ⟨fun h => ?_, fun h => ?_⟩
        · walk_at "zq"
          refine ⟨_, _, _, _, _, rfl, m1 m0, allD_cons allD_nil, rfl, ⟨t2, (n : Int) - 1, rfl, rfl, by omega, wd_of (by omega), fun v t3 h0 hv => ⟨_, _, rfl, .there .here, ?_⟩⟩⟩
          walk_at "zq"
          walk_at "zt"
          refine ⟨_, _, _, _, rfl, .here, by rw [List.length_map]; omega, ?_⟩
          walk_at "zq"
          exact ⟨t3, b ++ [⟨i, j, 1 + v⟩], some (.d (.int j)), by rw [Int.zero_add]; rfl, by simp, hG.put hj (by omega) (by omega)⟩
        · walk_at "zq"
          walk_at "zt"
          refine ⟨_, _, _, _, rfl, .here, by rw [List.length_map]; omega, ?_⟩
          walk_at "zq"
          exact ⟨t2, b ++ [⟨i, j, 1⟩], some (.d (.int j)), by rw [Int.zero_add]; rfl, by simp, hG.put hj (by omega) (by omega)⟩
      · walk_at "zq"
        try exact ⟨_, _, _, rfl, rfl, hG.skip⟩
    · rintro S2 M2 ⟨t, b, c6, rfl, rfl, hG⟩
      rw [Int.toNat_natCast] at hG
      try exact ⟨_, _, _, _, rfl, rfl, hG.line⟩
  · rintro S2 M2 ⟨t, b, c5, c6, rfl, rfl, hG⟩
    rw [Int.toNat_natCast] at hG
    walk_at "zq"
    refine zc_tupC m0 ?_
    exact ⟨_, _, rfl, hF b t hG, m1 m0⟩
def R_someRule (xs ds : List PyData) (F : DOut → List PyData → Prop) : Prop := ∃ t : RowS, xs = t.d ∧ ds = [] ∧ ∀ (r : Rl) (t' : RowS), Rule r → F (.ok r.d) t'.d
def Asc (lo i : Nat) (l : List Nat) : Prop := l.Pairwise (· < ·) ∧ ∀ k ∈ l, lo ≤ k ∧ k < lo + i
theorem asc0 {lo : Nat} : Asc lo 0 [] := ⟨.nil, fun k h => (nomatch h)⟩
theorem Asc.skip {lo i : Nat} {l : List Nat} (h : Asc lo i l) : Asc lo (i + 1) l := ⟨h.1, fun k hk => by have := h.2 k hk; omega⟩
theorem Asc.put {lo i : Nat} {l : List Nat} (h : Asc lo i l) : Asc lo (i + 1) (l ++ [lo + i]) := by
  refine ⟨List.pairwise_append.mpr ⟨h.1, by simp, fun a ha b hb => ?_⟩, fun k hk => ?_⟩
  · have : b = lo + i := by simpa using hb
    have := h.2 a ha
    omega
  · rcases List.mem_append.mp hk with z | z
    · have := h.2 k z; omega
    · have : k = lo + i := by simpa using z
      omega
theorem ok_law_some_rule {P : Program} {w : World} {K : Fg} {mg : Str → Option Value} {base : Heap} {f : Addr} {fd : FuncData} (F : Fun K "_law_some_rule" "_law_some_rule" s_law_some_rule f fd)
    (m_tuple : mg "tuple" = none)
    (m_range : mg "range" = none)
    (c__law_taken : Cal P w K mg base 1 "_law_taken" (spC K 1 R_taken))
    (c__law_pick : Cal P w K mg base 2 "_law_pick" (spC K 1 R_pick)) :
    FnOk P w K mg base (L2.CX P w) 3 f fd ["row"] (spC K 0 R_someRule) := by
  refine F.okX sc_law_some_rule (fun vs H Q E h => len_C h) (fun cdv A outer s H vs Q E hr h => ⟨_, (pss_cons (ps_set (i := 1) sc_law_some_rule.nd rfl (by first | exact Or.inl rfl | exact Or.inr rfl) (pe_cl c__law_taken hr (show 1 ≤ 2 by decide) passL (pa_cons (pv 0) (pa_cons pe_int pa_nil))))
      (pss_cons (ps_if (pt_cmpR op_lt (pv 1) pe_int (nomark _)) (pss_one (ps_ret (pe_tup (pa_cons (pe_tup (pa_cons pe_int pa_nil)) (pa_cons (pe_tup (pa_cons pe_int (pa_cons pe_int pa_nil))) (pa_cons pe_int pa_nil)))))) pss_nil)
      (pss_cons (ps_set (i := 2) sc_law_some_rule.nd rfl (by first | exact Or.inl rfl | exact Or.inr rfl) (pe_callTy call_tuple_of (by rfl) m_tuple bt_tuple (pa_cons (pe_lc (own := [("k", 3)]) rfl sc_law_some_rule.nd (pi_range2 (by rfl) m_range (pa_cons pe_int (pa_cons pe_int pa_nil))) (blkOk_by (N := N_law_some_rule) (sc := defScope s_law_some_rule) (by decide +kernel)) (fun _ _ _ _ _ => (pg_name (i := 3) sc_law_some_rule.nd rfl (by first | exact Or.inl rfl | exact Or.inr rfl))) (fun _ _ _ _ _ => (pts_one (pt_cmpR (show OpR _ (compareOp .Eq) (rEqA K) from (op_eqA hr.units)) (pe_cl c__law_taken hr (show 1 ≤ 2 by decide) passL (pa_cons (pv 0) (pa_cons pe_int pa_nil))) pe_int (nomark _)))) (fun _ _ _ _ _ => (pv 3))) pa_nil)))
      (pss_cons (ps_set (i := 4) sc_law_some_rule.nd rfl (by first | exact Or.inl rfl | exact Or.inr rfl) (pe_callTy call_tuple_of (by rfl) m_tuple bt_tuple (pa_cons (pe_lc (own := [("k", 3)]) rfl sc_law_some_rule.nd (pi_range1 (by rfl) m_range (pa_cons pe_int pa_nil)) (blkOk_by (N := N_law_some_rule) (sc := defScope s_law_some_rule) (by decide +kernel)) (fun _ _ _ _ _ => (pg_name (i := 3) sc_law_some_rule.nd rfl (by first | exact Or.inl rfl | exact Or.inr rfl))) (fun _ _ _ _ _ => (pts_one (pt_cmpR (show OpR _ (compareOp .Eq) (rEqA K) from (op_eqA hr.units)) (pe_cl c__law_taken hr (show 1 ≤ 2 by decide) passL (pa_cons (pv 0) (pa_cons pe_int pa_nil))) pe_int (nomark _)))) (fun _ _ _ _ _ => (pv 3))) pa_nil)))
      (pss_one (ps_ret (pe_tup (pa_cons (pv 2) (pa_cons (pv 4) (pa_cons (pe_cl c__law_pick hr (show 2 ≤ 2 by decide) passL (pa_cons (pv 0) (pa_cons (pe_lst (pa_cons pe_int (pa_cons pe_int (pa_cons pe_int (pa_cons pe_int (pa_cons pe_int pa_nil)))))) pa_nil))) pa_nil)))))))))),
    fn_C h fun p xs ds F hk hR => ?_⟩)
  try dsimp only [L2.cxOf]
  obtain ⟨t, rfl, rfl, hF⟩ := hR
  have hsz : (sizeLine : Nat) = 16777216 := sizeLine_eq
  walk_at "zq"
  refine ⟨_, _, _, _, _, rfl, m0, allD_cons allD_nil, rfl, ⟨t, 6, rfl, rfl, by decide, by decide, fun v t1 h0 hv => ⟨_, _, rfl, .here, ?_⟩⟩⟩
  clear t
  walk_at "zq"
  refine ⟨fun h => ?_, fun h => ?_⟩
  · walk_at "zq"
    walk_at "zt"
    walk_at "zq"
    walk_at "zt"
    walk_at "zq"
    walk_at "zt"
    exact ⟨_, _, rfl, hF ⟨[3], [2, 3], 2⟩ t1 ⟨by decide, by decide, by decide, by decide, by decide, by decide⟩, m0⟩
  · walk_at "zq"
    refine ⟨2, 9, rfl, ⟨by decide, by decide, by decide, by decide⟩, by rw [hsz]; decide, fun i acc M' => ∃ (t : RowS) (l : List Nat), acc = (l.map fun (k : Nat) => .int (k : Int)) ∧ M' = [(p, false, .lst t.d)] ∧ Asc 2 i l, ⟨t1, [], rfl, rfl, asc0⟩, ?_, ?_⟩
    · rintro i hi acc M2 D ⟨t, l, rfl, rfl, hA⟩
      refine ⟨_, _, ?_, zg_name, ?_⟩
      · simp
      · walk_at "zq"
        refine ⟨p, _, _, _, _, rfl, m1 m0, allD_cons allD_nil, rfl, ⟨t, 4, rfl, rfl, by decide, by decide, fun u t2 h0 hu => ⟨_, _, rfl, .there .here, ?_⟩⟩⟩
        walk_at "zq"
        refine ⟨fun hb => ⟨_, rfl, t2, l, rfl, rfl, hA.skip⟩, fun hb => ?_⟩
        walk_at "zq"
        exact ⟨t2, l ++ [2 + i], by simp, rfl, hA.put⟩
    · rintro acc M2 ⟨t, l, rfl, rfl, hA⟩
      replace hA : Asc 2 7 l := hA
      walk_at "zq"
      refine zc_tupL ?_
      walk_at "zq"
      refine ⟨by decide, by rw [hsz]; decide, fun i acc M' => ∃ (t : RowS) (l : List Nat), acc = (l.map fun (k : Nat) => .int (k : Int)) ∧ M' = [(p, false, .lst t.d)] ∧ Asc 0 i l, ⟨t, [], rfl, rfl, asc0⟩, ?_, ?_⟩
      · rintro i hi acc M2 D ⟨t, s, rfl, rfl, hS⟩
        refine ⟨_, _, ?_, zg_name, ?_⟩
        · simp
        · walk_at "zq"
          refine ⟨p, _, _, _, _, rfl, m1 m0, allD_cons allD_nil, rfl, ⟨t, 3, rfl, rfl, by decide, by decide, fun u t2 h0 hu => ⟨_, _, rfl, .there .here, ?_⟩⟩⟩
          walk_at "zq"
          refine ⟨fun hb => ⟨_, rfl, t2, s, rfl, rfl, hS.skip⟩, fun hb => ?_⟩
          walk_at "zq"
          exact ⟨t2, s ++ [0 + i], by simp, rfl, hS.put⟩
      · rintro acc M2 ⟨t, s, rfl, rfl, hS⟩
        replace hS : Asc 0 9 s := hS
        walk_at "zq"
        refine zc_tupL ?_
        walk_at "zq"
        refine zw_lstD ?_
        walk_at "zq"
        walk_at "zt"
        walk_at "zq"
        refine ⟨p, _, _, _, _, rfl, m0, allD_cons allD_nil, rfl, ⟨t, _, rfl, rfl, by simp, by simp, fun i v t2 hv => ⟨_, _, rfl, .here, ?_⟩⟩⟩
        obtain ⟨n, rfl, hn2, hn6⟩ : ∃ n : Nat, v = .int (n : Int) ∧ 2 ≤ n ∧ n ≤ 6 := by
          have hm := List.mem_of_getElem? hv
          simp only [List.mem_cons, List.not_mem_nil, or_false] at hm
          rcases hm with rfl | rfl | rfl | rfl | rfl
          · exact ⟨2, rfl, by decide, by decide⟩
          · exact ⟨2, rfl, by decide, by decide⟩
          · exact ⟨3, rfl, by decide, by decide⟩
          · exact ⟨4, rfl, by decide, by decide⟩
          · exact ⟨6, rfl, by decide, by decide⟩
        walk_at "zq"
        walk_at "zt"
        exact ⟨_, _, rfl, hF ⟨l, s, n⟩ t2 ⟨fun k hk => by have := hA.2 k hk; omega, fun k hk => by have := hS.2 k hk; omega, hA.1, hS.1, hn2, hn6⟩, m0⟩
theorem put_old {kvs : List (List Key × PyData)} {k : List Key} (d : PyData) (h : k ∈ kvs.map (·.1)) : (putP kvs k d).map (·.1) = kvs.map (·.1) := by
  unfold putP
  rw [if_pos]
  · rw [List.map_map]
    refine List.map_congr_left fun kv _ => ?_
    show (if kv.1 = k then (kv.1, d) else kv).1 = kv.1
    split <;> rfl
  · obtain ⟨kv, h1, h2⟩ := List.mem_map.mp h
    exact List.any_eq_true.mpr ⟨kv, h1, decide_eq_true h2⟩
theorem held_key {kvs : List (List Key × PyData)} {k : List Key} : (heldP kvs k).isSome = true ↔ k ∈ kvs.map (·.1) := by
  unfold heldP
  rw [Option.isSome_map, List.isSome_find?, List.any_eq_true]
  constructor
  · rintro ⟨kv, h1, h2⟩
    exact List.mem_map.mpr ⟨kv, h1, of_decide_eq_true h2⟩
  · intro h
    obtain ⟨kv, h1, h2⟩ := List.mem_map.mp h
    exact ⟨kv, h1, decide_eq_true h2⟩
theorem put_keys (kvs : List (List Key × PyData)) (k : List Key) (d : PyData) (k' : List Key) : k' ∈ (putP kvs k d).map (·.1) ↔ k' ∈ kvs.map (·.1) ∨ k' = k := by
  by_cases h : k ∈ kvs.map (·.1)
  · rw [put_old d h]
    exact ⟨.inl, fun z => z.elim id fun e => by rw [e]; exact h⟩
  · rw [put_new d h, List.map_append, List.mem_append]
    simp
theorem rows_keys (rows : List (List Int × PyData)) (k : List Key) : k ∈ (rowsP rows).map (·.1) ↔ ∃ r ∈ rows, keyI r.1 = k := by
  refine snoc_ind (P := fun rows => k ∈ (rowsP rows).map (·.1) ↔ ∃ r ∈ rows, keyI r.1 = k) ?_ (fun rows r ih => ?_) rows
  · exact ⟨fun h => (nomatch h), fun ⟨_, h, _⟩ => (nomatch h)⟩
  · have e : rowsP (rows ++ [r]) = putP (rowsP rows) (keyI r.1) r.2 := by
      unfold rowsP
      rw [List.foldl_append]
      rfl
    rw [e, put_keys, ih]
    constructor
    · rintro (⟨q, h1, h2⟩ | h)
      · exact ⟨q, List.mem_append_left _ h1, h2⟩
      · exact ⟨r, by simp, h.symm⟩
    · rintro ⟨q, h1, h2⟩
      rcases List.mem_append.mp h1 with h1 | h1
      · exact .inl ⟨q, h1, h2⟩
      · rw [List.mem_singleton.mp h1] at h2
        exact .inr h2.symm
/-- the places of some cells -/
def plcT (b : List Cell) : List (List Int × PyData) := b.map fun c => ([c.x, c.y], .bool true)
theorem plcT_some (b : List Cell) (x y : Int) : (heldP (rowsP (plcT b)) (keyI [x, y])).isSome = b.any (isAt x y) := by
  rw [Bool.eq_iff_iff, held_key, rows_keys, List.any_eq_true]
  constructor
  · rintro ⟨r, h1, h2⟩
    obtain ⟨c, hc, rfl⟩ := List.mem_map.mp h1
    have z : [c.x, c.y] = [x, y] := keyI_inj h2
    injection z with k1 k2
    injection k2 with k2 _
    exact ⟨c, hc, isAt_iff.mpr ⟨k1, k2⟩⟩
  · rintro ⟨c, hc, h⟩
    obtain ⟨rfl, rfl⟩ := isAt_iff.mp h
    exact ⟨_, List.mem_map_of_mem hc, rfl⟩
def fives : List Int := [-2, -1, 0, 1, 2]
theorem in_fives {a : Int} : a ∈ fives ↔ -2 ≤ a ∧ a ≤ 2 := by
  unfold fives
  simp only [List.mem_cons, List.not_mem_nil, or_false]
  omega
theorem near_no {d : List Cell} {c : Cell} (h : ∀ a ∈ fives, ∀ e ∈ fives, d.any (isAt (c.x + a) (c.y + e)) = false) : nearAt d c = false := by
  unfold nearAt
  refine List.any_eq_false.mpr fun g hg z => ?_
  have z := of_decide_eq_true z
  unfold nearC at z
  have := List.any_eq_false.mp (h (g.x - c.x) (in_fives.mpr (by omega)) (g.y - c.y) (in_fives.mpr (by omega))) g hg
  exact this (isAt_iff.mpr (by omega))
theorem near_yes {d : List Cell} {c : Cell} {a e : Int} (ha : a ∈ fives) (he : e ∈ fives) (h : d.any (isAt (c.x + a) (c.y + e)) = true) : nearAt d c = true := by
  obtain ⟨g, hg, h⟩ := List.any_eq_true.mp h
  have h := isAt_iff.mp h
  have h1 := in_fives.mp ha
  have h2 := in_fives.mp he
  exact List.any_eq_true.mpr ⟨g, hg, decide_eq_true (by unfold nearC; omega)⟩
theorem take_nextI {b : List Int} {i : Nat} {c : Int} (h : b[i]? = some c) : b.take (i + 1) = b.take i ++ [c] := by
  rw [List.take_add_one, h]
  rfl
def R_lnear (ds : List PyData) (o : DOut) : Prop := ∃ b d : List Cell, ds = [bD b, bD d] ∧ b.length ≤ 1000 ∧ d.length ≤ 1000 ∧ o = .ok (.bool (nearB b d))
theorem ok_law_are_near {P : Program} {w : World} {K : Fg} {mg : Str → Option Value} {base : Heap} {f : Addr} {fd : FuncData} (F : Fun K "_law_are_near" "_law_are_near" s_law_are_near f fd)
    (m_dict : mg "dict" = none) :
    FnOk P w K mg base (L2.CX P w) 1 f fd ["board", "other"] (spD K 2 R_lnear) := by
  refine F.okX sc_law_are_near (fun vs H Q E h => len_D h) (fun cdv A outer s H vs Q E hr h => ⟨_, (pss_cons (ps_set (i := 2) sc_law_are_near.nd rfl (by first | exact Or.inl rfl | exact Or.inr rfl) (pe_callTy (call_dictT rfl hr.units) (by rfl) m_dict bt_dict (pa_cons (pe_lc (own := [("cell", 3)]) rfl sc_law_are_near.nd (pi_tup (pv 1)) (blkOk_by (N := N_law_are_near) (sc := defScope s_law_are_near) (by decide +kernel)) (fun _ _ _ _ _ => (pg_name (i := 3) sc_law_are_near.nd rfl (by first | exact Or.inl rfl | exact Or.inr rfl))) (fun _ _ _ _ _ => pts_nil) (fun _ _ _ _ _ => (pe_tup (pa_cons (pe_slice (show SlR _ (rSlAny K) from sl_any) (pv 3) po_none (po_some pe_int)) (pa_cons pe_bl pa_nil))))) pa_nil)))
      (pss_cons (ps_for (passes_of rfl) rfl (pi_tup (pv 0)) (pg_tup rfl (pgs_cons (pg_name (i := 4) sc_law_are_near.nd rfl (by first | exact Or.inl rfl | exact Or.inr rfl)) (pgs_cons (pg_name (i := 5) sc_law_are_near.nd rfl (by first | exact Or.inl rfl | exact Or.inr rfl)) (pgs_cons (pg_name (i := 6) sc_law_are_near.nd rfl (by first | exact Or.inl rfl | exact Or.inr rfl)) pgs_nil)))) (pss_one (ps_for (passes_of rfl) rfl (pi_list (pe_lst (pa_cons (pe_un un_neg pe_int) (pa_cons (pe_un un_neg pe_int) (pa_cons pe_int (pa_cons pe_int (pa_cons pe_int pa_nil))))))) (pg_name (i := 7) sc_law_are_near.nd rfl (by first | exact Or.inl rfl | exact Or.inr rfl)) (pss_one (ps_for (passes_of rfl) rfl (pi_list (pe_lst (pa_cons (pe_un un_neg pe_int) (pa_cons (pe_un un_neg pe_int) (pa_cons pe_int (pa_cons pe_int (pa_cons pe_int pa_nil))))))) (pg_name (i := 8) sc_law_are_near.nd rfl (by first | exact Or.inl rfl | exact Or.inr rfl)) (pss_one (ps_if (pt_cmp (pc_din (hu_of hr) (pe_tup (pa_cons (pe_op op_addA (pv 4) (pv 7)) (pa_cons (pe_op op_addA (pv 5) (pv 8)) pa_nil))) (pv 2))) (pss_one (ps_ret pe_bl)) pss_nil)))))))
      (pss_one (ps_ret pe_bl)))),
    fn_D h fun ds o hk hR => ?_⟩)
  try dsimp only [L2.cxOf]
  obtain ⟨b, d, rfl, l1, l2, rfl⟩ := hR
  have hsz : (sizeLine : Nat) = 16777216 := sizeLine_eq
  walk_at "zq"
  refine lcT_map d Cell.d (fun c => .tuple [rowD [c.x, c.y], .bool true]) ?_
  walk_at "zq"
  refine ⟨rfl, by omega, fun c hc => ⟨_, _, ?_, zg_name, fun D acc => ?_⟩, ?_⟩
  · simp
  · walk_at "zq"
    walk_at "zt"
    exact ⟨rfl, rfl⟩
  rw [show (d.map fun c => PyData.tuple [rowD [c.x, c.y], .bool true]) = (plcT d).map fun r => .tuple [rowD r.1, r.2] by unfold plcT; rw [List.map_map]; rfl]
  walk_at "zq"
  refine zc_dict (fun r hr => ?_) fun q => ?_
  · obtain ⟨c, _, rfl⟩ := List.mem_map.mp hr
    exact List.cons_ne_nil _ _
  walk_at "zq"
  refine ⟨fun i S M => (∃ c3 c4 c5 c6 c7 c8 : Option ZV, S = [some (.d (bD b)), some (.d (bD d)), some (.c q), c3, c4, c5, c6, c7, c8]) ∧ M = [(q, true, .dT (rowsP (plcT d)))] ∧ ∀ c ∈ b.take i, nearAt d c = false, ⟨⟨_, _, _, _, _, _, rfl⟩, rfl, fun c h => by simp at h⟩, fun i x S M hx hI => ?_, ?_⟩
  · rw [List.getElem?_map] at hx
    obtain ⟨c, hc, rfl⟩ := Option.map_eq_some_iff.mp hx
    obtain ⟨⟨c3, c4, c5, c6, c7, c8, rfl⟩, rfl, hI⟩ := hI
    have hcb := List.mem_of_getElem? hc
    refine ⟨_, _, zg_tup rfl (zgs_cons (zgs_cons (zgs_cons zgs_nil))), ?_⟩
    walk_at "zq"
    refine zw_lstD ?_
    walk_at "zq"
    refine ⟨_, by walk_at "zd", by rw [hsz]; exact Nat.le_of_ble_eq_true rfl, fives.map .int, rfl, ?_⟩
    refine ⟨fun j S M => (∃ c7 c8 : Option ZV, S = [some (.d (bD b)), some (.d (bD d)), some (.c q), c3, some (.d (.int c.x)), some (.d (.int c.y)), some (.d (.int c.s)), c7, c8]) ∧ M = [(q, true, .dT (rowsP (plcT d)))] ∧ ∀ a ∈ fives.take j, ∀ e ∈ fives, d.any (isAt (c.x + a) (c.y + e)) = false, ⟨⟨_, _, rfl⟩, rfl, fun a h => by simp at h⟩, fun j x S M hx hJ => ?_, ?_⟩
    · rw [List.getElem?_map] at hx
      obtain ⟨a, ha, rfl⟩ := Option.map_eq_some_iff.mp hx
      obtain ⟨⟨c7, c8, rfl⟩, rfl, hJ⟩ := hJ
      have ha5 := List.mem_of_getElem? ha
      refine ⟨_, _, zg_name, ?_⟩
      walk_at "zq"
      refine zw_lstD ?_
      walk_at "zq"
      refine ⟨_, by walk_at "zd", by rw [hsz]; exact Nat.le_of_ble_eq_true rfl, fives.map .int, rfl, ?_⟩
      refine ⟨fun k S M => (∃ c8 : Option ZV, S = [some (.d (bD b)), some (.d (bD d)), some (.c q), c3, some (.d (.int c.x)), some (.d (.int c.y)), some (.d (.int c.s)), some (.d (.int a)), c8]) ∧ M = [(q, true, .dT (rowsP (plcT d)))] ∧ ∀ e ∈ fives.take k, d.any (isAt (c.x + a) (c.y + e)) = false, ⟨⟨_, rfl⟩, rfl, fun a h => by simp at h⟩, fun k x S M hx hK => ?_, ?_⟩
      · rw [List.getElem?_map] at hx
        obtain ⟨e, he, rfl⟩ := Option.map_eq_some_iff.mp hx
        obtain ⟨⟨c8, rfl⟩, rfl, hK⟩ := hK
        have he5 := List.mem_of_getElem? he
        refine ⟨_, _, zg_name, ?_⟩
        refine zs_if (zt_B (zw_din ?_))
        walk_at "zq"
        walk_at "zt"
        refine ⟨c.x + a, [c.y + e], rfl, ?_⟩
        walk_at "zq"
        refine ⟨_, _, _, rfl, m0, ?_⟩
        rw [plcT_some]
        cases hn : d.any (isAt (c.x + a) (c.y + e)) with
        | true =>
          walk_at "zq"
          have : nearB b d = true := List.any_eq_true.mpr ⟨c, hcb, near_yes ha5 he5 hn⟩
          rw [this]
        | false =>
          walk_at "zq"
          refine ⟨⟨_, rfl⟩, rfl, fun g hg => ?_⟩
          rw [take_nextI he] at hg
          rcases List.mem_append.mp hg with hg | hg
          · exact hK g hg
          · rw [List.mem_singleton.mp hg]
            exact hn
      · rintro S M ⟨⟨c8, rfl⟩, rfl, hK⟩
        rw [List.length_map, List.take_length] at hK
        refine ⟨⟨_, _, rfl⟩, rfl, fun g hg => ?_⟩
        rw [take_nextI ha] at hg
        rcases List.mem_append.mp hg with hg | hg
        · exact hJ g hg
        · rw [List.mem_singleton.mp hg]
          exact hK
    · rintro S M ⟨⟨c7, c8, rfl⟩, rfl, hJ⟩
      rw [List.length_map, List.take_length] at hJ
      refine ⟨⟨_, _, _, _, _, _, rfl⟩, rfl, fun g hg => ?_⟩
      rw [take_next hc] at hg
      rcases List.mem_append.mp hg with hg | hg
      · exact hI g hg
      · rw [List.mem_singleton.mp hg]
        exact near_no hJ
  · rintro S M ⟨⟨c3, c4, c5, c6, c7, c8, rfl⟩, rfl, hI⟩
    rw [List.length_map, List.take_length] at hI
    walk_at "zq"
    have : nearB b d = false := List.any_eq_false.mpr fun c hc => by rw [hI c hc]; exact Bool.false_ne_true
    rw [this]
    try exact ⟨_, rfl, rfl⟩
/-! ### lots by hand -/
theorem lay_cells : ∀ b : List Cell, PyData.canLayAll0 (b.map Cell.d) = true
  | [] => rfl
  | _ :: r => by simp [PyData.canLayAll0, PyData.canLay0, lay_cells r]
theorem deep_cells : ∀ b : List Cell, PyData.depthAll (b.map Cell.d) ≤ 2
  | [] => by simp [PyData.depthAll]
  | _ :: r => by
    have := deep_cells r
    simp [PyData.depthAll, PyData.depth]
    omega
theorem shp_bD (b : List Cell) : SeqAt.shaped (bD b) = true := by
  have := deep_cells b
  simp [SeqAt.shaped, PyData.canLay0, PyData.depth, lay_cells]
  omega
theorem shp_bL (b : List Cell) : SeqAt.shaped (.list (b.map Cell.d)) = true := by
  have := deep_cells b
  simp [SeqAt.shaped, PyData.canLay0, PyData.depth, lay_cells]
  omega
theorem eqv_bD (b : List Cell) : PyData.eqv (bD b) (.tuple []) = b.isEmpty := by cases b <;> rfl
theorem eqv_bL (b : List Cell) : PyData.eqv (.list (b.map Cell.d)) (.list []) = b.isEmpty := by cases b <;> rfl
theorem eqv_cells (a c : Cell) : PyData.eqv a.d c.d = decide (a = c) := by
  show ((a.x == c.x) && ((a.y == c.y) && ((a.s == c.s) && true))) = _
  rw [Bool.eq_iff_iff, decide_eq_true_iff]
  simp only [Bool.and_eq_true, beq_iff_eq, and_true]
  constructor
  · rintro ⟨h1, h2, h3⟩
    cases a; cases c
    simp_all
  · rintro rfl
    exact ⟨rfl, rfl, rfl⟩
theorem eqvAll_cells : ∀ b c : List Cell, PyData.eqvAll (b.map Cell.d) (c.map Cell.d) = decide (b = c)
  | [], [] => rfl
  | [], _ :: _ => rfl
  | _ :: _, [] => rfl
  | a :: b, e :: c => by
    show (PyData.eqv a.d e.d && PyData.eqvAll (b.map Cell.d) (c.map Cell.d)) = _
    rw [eqv_cells, eqvAll_cells b c, Bool.eq_iff_iff]
    simp
theorem eqv_bDs (b c : List Cell) : PyData.eqv (bD b) (bD c) = decide (b = c) := eqvAll_cells b c
theorem plain_cells : ∀ b : List Cell, PyData.plainAll (b.map Cell.d) = true
  | [] => rfl
  | c :: r => by
    show (PyData.plain c.d && PyData.plainAll (r.map Cell.d)) = true
    rw [plain_cells r]
    rfl
theorem any_cells (b : List Cell) (c : Cell) : ((b.map Cell.d).any fun y => y.eqv c.d) = decide (c ∈ b) := by
  rw [List.any_map, Bool.eq_iff_iff, List.any_eq_true, decide_eq_true_iff]
  constructor
  · rintro ⟨e, he, h⟩
    have h : PyData.eqv e.d c.d = true := h
    rw [eqv_cells] at h
    rw [← of_decide_eq_true h]
    exact he
  · intro h
    refine ⟨c, h, ?_⟩
    show PyData.eqv c.d c.d = true
    rw [eqv_cells]
    exact decide_eq_true rfl
theorem lt_leave {b : List Cell} {ms : List (List Cell)} : ∀ (k i : Nat), i + k = b.length → Lt b i ms → (leftOf b ms = [] → Lt b b.length ms) ∧ ∀ c t, leftOf b ms = c :: t → ∃ j, i ≤ j ∧ b[j]? = some c ∧ Lt b j ms
  | 0, i, hk, T => by
    obtain rfl : i = b.length := by omega
    refine ⟨fun _ => T, fun c t h => ?_⟩
    have hc : c ∈ leftOf b ms := by rw [h]; exact List.mem_cons_self
    have h1 := List.mem_filter.mp hc
    exact absurd (T.all c (by rw [List.take_length]; exact h1.1)) fun z => of_decide_eq_true h1.2 (mem_lots.mpr z)
  | k + 1, i, hk, T => by
    have hi := List.getElem?_eq_getElem (l := b) (i := i) (by omega)
    by_cases hc : ∃ L ∈ ms, b[i] ∈ L
    · have ih := lt_leave k (i + 1) (by omega) (T.skip hi hc)
      exact ⟨ih.1, fun c t h => by
        obtain ⟨j, h1, h2⟩ := ih.2 c t h
        exact ⟨j, by omega, h2⟩⟩
    · have hm : b[i] ∈ leftOf b ms := List.mem_filter.mpr ⟨List.mem_of_getElem? hi, decide_eq_true fun z => hc (mem_lots.mp z)⟩
      refine ⟨fun z => by rw [z] at hm; exact (nomatch hm), fun c t h => ⟨i, Nat.le_refl _, ?_, T⟩⟩
      -- what stands ahead of it is taken
      have hsplit : leftOf b ms = leftOf (b.take i) ms ++ leftOf (b.drop i) ms := by
        unfold leftOf
        rw [← List.filter_append, List.take_append_drop]
      have h0 : leftOf (b.take i) ms = [] := List.filter_eq_nil_iff.mpr fun e he z => of_decide_eq_true z (mem_lots.mpr (T.all e he))
      have h1 : b.drop i = b[i] :: b.drop (i + 1) := List.drop_eq_getElem_cons (by omega)
      rw [hsplit, h0, h1, List.nil_append] at h
      unfold leftOf at h
      rw [List.filter_cons_of_pos (p := fun e => decide (e ∉ ms.flatten)) (decide_eq_true fun z => hc (mem_lots.mp z))] at h
      rw [hi]
      injection h with h _
      rw [h]
/-- a lot that grows by what is near it -/
theorem TakeI.grow {cs : List Cell} {c : Cell} {A : List Cell} (hcs : cs.Nodup) (T : TakeI cs c A A) : ((cs.filter fun e => decide (e ∉ A)).filter (nearAt A) = [] → TakeI cs c A []) ∧ TakeI cs c (A ++ (cs.filter fun e => decide (e ∉ A)).filter (nearAt A)) (A ++ (cs.filter fun e => decide (e ∉ A)).filter (nearAt A)) := by
  have hmem : ∀ g, g ∈ (cs.filter fun e => decide (e ∉ A)).filter (nearAt A) ↔ (g ∈ cs ∧ g ∉ A) ∧ nearAt A g = true := fun g => by
    rw [List.mem_filter, List.mem_filter]
    simp only [decide_eq_true_iff]
  refine ⟨fun h => ⟨T.nd, T.sub, fun e z => (nomatch z), Nat.zero_le _, T.me, T.rch, fun e he _ g hg hn => Classical.byContradiction fun z => ?_⟩, ⟨List.nodup_append.mpr ⟨T.nd, (hcs.filter _).filter _, fun x hx y hy z => ?_⟩, fun x hx => ?_, fun x hx => hx, Nat.le_refl _, List.mem_append_left _ T.me, fun x hx => ?_, fun x hx hw => absurd hx hw⟩⟩
  · have : g ∈ (cs.filter fun e => decide (e ∉ A)).filter (nearAt A) := (hmem g).mpr ⟨⟨hg, z⟩, List.any_eq_true.mpr ⟨e, he, decide_eq_true hn.symm⟩⟩
    rw [h] at this
    exact (nomatch this)
  · subst z
    exact ((hmem x).mp hy).1.2 hx
  · rcases List.mem_append.mp hx with h | h
    · exact T.sub x h
    · exact ((hmem x).mp h).1.1
  · rcases List.mem_append.mp hx with h | h
    · exact T.rch x h
    · obtain ⟨⟨h1, _⟩, h3⟩ := (hmem x).mp h
      obtain ⟨e, he, hn⟩ := List.any_eq_true.mp h3
      exact .step (T.rch e he) h1 (of_decide_eq_true hn : nearC x e).symm
theorem TakeI.all {cs : List Cell} {c : Cell} (hc : c ∈ cs) : TakeI cs c [c] [c] := .start hc
theorem alike_cells : ∀ b c : List Cell, PySem.W.alikeAll (b.map Cell.d) (c.map Cell.d) = true
  | [], _ => by simp [PySem.W.alikeAll]
  | _ :: _, [] => by simp [PySem.W.alikeAll]
  | b :: bs, c :: cs => by
    have := alike_cells bs cs
    simp only [List.map_cons, PySem.W.alikeAll, PySem.W.alike, this, Bool.and_true]
theorem lots_le {L M : List Cell} (h : ∃ c e, L.head? = some c ∧ M.head? = some e ∧ lt2 c e) : PySem.W.dataLe false id (bD L) (bD M) = true := by
  obtain ⟨c, e, h1, h2, h3⟩ := h
  cases L with
  | nil => cases h1
  | cons a L =>
    cases M with
    | nil => cases h2
    | cons d M =>
      cases h1
      cases h2
      show (!PyProof.Rows.lexLt itemOrd (PySem.W.keyToks (.tuple (Cell.d e :: M.map Cell.d))) (PySem.W.keyToks (.tuple (Cell.d c :: L.map Cell.d)))) = true
      simp only [PySem.W.keyToks, PySem.W.keyToksAll, List.cons_append, List.nil_append, PyProof.Rows.lexLt, PyProof.Rows.itemLt]
      rcases h3 with h | ⟨h1, h2⟩
      · have n1 : ¬ e.x < c.x := by omega
        have n2 : ¬ e.x = c.x := by omega
        simp [n1, n2, h]
      · have n1 : ¬ e.y < c.y := by omega
        have n2 : ¬ e.y = c.y := by omega
        rw [h1]
        simp [n1, n2, h2]
def R_llots (ds : List PyData) (o : DOut) : Prop := ∃ (b : List Cell) (ls : List (List Cell)), ds = [bD b] ∧ b.length ≤ 100 ∧ b.Pairwise lt2 ∧ Lt b b.length ls ∧ o = .ok (.tuple (ls.map bD))
theorem ok_law_lots {P : Program} {w : World} {K : Fg} {mg : Str → Option Value} {base : Heap} {f : Addr} {fd : FuncData} (F : Fun K "_law_lots" "_law_lots" s_law_lots f fd)
    (m_list : mg "list" = none)
    (m_tuple : mg "tuple" = none)
    (m_sorted : mg "sorted" = none)
    (c__law_are_near : Cal P w K mg base 1 "_law_are_near" (spD K 2 R_lnear)) :
    FnOk P w K mg base (L2.CX P w) 2 f fd ["board"] (spD K 1 R_llots) := by
  refine F.okX sc_law_lots (fun vs H Q E h => len_D h) (fun cdv A outer s H vs Q E hr h => ⟨_, (pss_cons (ps_par (i := 1) (j := 2) rfl sc_law_lots.nd rfl rfl (by decide) rfl rfl (pa_cons (pe_callTy call_list_of (by rfl) m_list bt_list (pa_cons (pv 0) pa_nil)) (pa_cons (pe_lst pa_nil) pa_nil)) (by rfl))
      (pss_cons (ps_while (passes_of rfl) (pt_cmpR (op_neA hr.units) (pv 1) (pe_lst pa_nil) (nomark _)) (pss_cons (ps_asg (pe_tup (pa_cons (pe_lst (pa_cons (pe_ix ix_seq (pv 1) pe_int (fun _ _ => rfl)) pa_nil)) (pa_cons pe_bl pa_nil))) (pg_tup rfl (pgs_cons (pg_name (i := 3) sc_law_lots.nd rfl (by first | exact Or.inl rfl | exact Or.inr rfl)) (pgs_cons (pg_name (i := 4) sc_law_lots.nd rfl (by first | exact Or.inl rfl | exact Or.inr rfl)) pgs_nil))))
      (pss_cons (ps_set (i := 1) sc_law_lots.nd rfl (by first | exact Or.inl rfl | exact Or.inr rfl) (pe_slice sl_any (pv 1) (po_some pe_int) po_none))
      (pss_cons (ps_while (passes_of rfl) (pt_truth (pv 4) (fun _ => rfl)) (pss_cons (ps_set (i := 5) sc_law_lots.nd rfl (by first | exact Or.inl rfl | exact Or.inr rfl) (pe_lc (own := [("cell", 6)]) rfl sc_law_lots.nd (pi_list (pv 1)) (blkOk_by (N := N_law_lots) (sc := defScope s_law_lots) (by decide +kernel)) (fun _ _ _ _ _ => (pg_name (i := 6) sc_law_lots.nd rfl (by first | exact Or.inl rfl | exact Or.inr rfl))) (fun _ _ _ _ _ => (pts_one (pt_val (pe_cl c__law_are_near hr (show 1 ≤ 1 by decide) passL (pa_cons (pe_tup (pa_cons (pv 6) pa_nil)) (pa_cons (pe_callTy (show CallR _ (.type "tuple") (rTupOf K) from call_tuple_of) (by rfl) m_tuple bt_tuple (pa_cons (pv 3) pa_nil)) pa_nil))) (fun _ => rfl)))) (fun _ _ _ _ _ => (pv 6))))
      (pss_one (ps_asg (pe_tup (pa_cons (pe_cmpR (op_neA hr.units) (pv 5) (pe_lst pa_nil) (nomark _)) (pa_cons (pe_op op_catD (pv 3) (pv 5)) (pa_cons (pe_lc (own := [("cell", 6)]) rfl sc_law_lots.nd (pi_list (pv 1)) (blkOk_by (N := N_law_lots) (sc := defScope s_law_lots) (by decide +kernel)) (fun _ _ _ _ _ => (pg_name (i := 6) sc_law_lots.nd rfl (by first | exact Or.inl rfl | exact Or.inr rfl))) (fun _ _ _ _ _ => (pts_one (pt_cmpR (show OpR _ (compareOp .NotIn) (rInD K true) from op_ninD hr.units) (pv 6) (pv 5) (by rfl)))) (fun _ _ _ _ _ => (pv 6))) pa_nil)))) (pg_tup rfl (pgs_cons (pg_name (i := 4) sc_law_lots.nd rfl (by first | exact Or.inl rfl | exact Or.inr rfl)) (pgs_cons (pg_name (i := 3) sc_law_lots.nd rfl (by first | exact Or.inl rfl | exact Or.inr rfl)) (pgs_cons (pg_name (i := 1) sc_law_lots.nd rfl (by first | exact Or.inl rfl | exact Or.inr rfl)) pgs_nil))))))))
      (pss_one (ps_expr (pe_bm PySem.F.plainAttrs_list PySem.F.slot_list_append PySem.F.type_list_append mt_append (pv 2) (pa_cons (pe_callTy call_tuple_of (by rfl) m_tuple bt_tuple (pa_cons (pe_callB cr_sortC (by rfl) m_sorted bb_sorted (pa_cons (pv 3) pa_nil)) pa_nil)) pa_nil))))))))
      (pss_one (ps_ret (pe_callTy call_tuple_of (by rfl) m_tuple bt_tuple (pa_cons (pe_callB (cr_sortD hr.units) (by rfl) m_sorted bb_sorted (pa_cons (pv 2) pa_nil)) pa_nil)))))),
    fn_D h fun ds o hk hR => ?_⟩)
  try dsimp only [L2.cxOf]
  obtain ⟨b, ls, rfl, hl, hu, T, rfl⟩ := hR
  have hsz : (sizeLine : Nat) = 16777216 := sizeLine_eq
  walk_at "zq"
  refine zc_listD ?_
  walk_at "zq"
  refine zw_lstC ?_
  walk_at "zq"
  refine ⟨[], allD_nil, Nat.zero_le _, fun l => ?_⟩
  walk_at "zq"
  refine zs_while (fun m S2 M2 => ∃ (ms : List (List Cell)) (i : Nat) (c3 c4 c5 c6 : Option ZV), S2 = [some (.d (bD b)), some (.d (.list ((leftOf b ms).map Cell.d))), some (.c l), c3, c4, c5, c6] ∧ M2 = [(l, true, .lst (ms.map bD))] ∧ m = (leftOf b ms).length ∧ i ≤ b.length ∧ ms.length ≤ i ∧ Lt b i ms) ⟨_, [], 0, none, none, none, none, ?_, rfl, rfl, Nat.zero_le _, Nat.le_refl _, .nil b⟩ ?_
  · rw [show leftOf b [] = b from List.filter_eq_self.mpr fun e _ => by simp]
    rfl
  rintro m S2 M2 ⟨ms, i, c3, c4, c5, c6, rfl, rfl, rfl, hi, hms, V⟩
  refine zt_test (zw_op ?_)
  walk_at "zq"
  refine zw_lstD ?_
  walk_at "zq"
  refine ⟨[], allD_nil, Nat.zero_le _, ?_⟩
  refine zo_neDD (shp_bL _) rfl ?_
  rw [eqv_bL]
  refine ⟨_, rfl, fun h => ?_, fun h => ?_⟩
  · cases hcs : leftOf b ms with
    | nil => rw [hcs] at h; cases h
    | cons c t =>
      obtain ⟨j, hij, hj, U⟩ := (lt_leave (b.length - i) i (by omega) V).2 c t hcs
      have hcu : (leftOf b ms).Pairwise lt2 := hu.sublist List.filter_sublist
      have hsub : (leftOf b ms).Sublist b := List.filter_sublist
      have hlc := hsub.length_le
      have hcm : c ∈ leftOf b ms := by rw [hcs]; exact List.mem_cons_self
      rw [hcs] at hlc
      rw [List.length_cons] at hlc
      walk_at "zq"
      refine zw_lstD ?_
      walk_at "zq"
      have hat : atI ((c :: t).map Cell.d) 0 = some c.d := atI_nat (j := 0) rfl
      refine zo_ix hat ?_
      walk_at "zq"
      refine ⟨_, allD_cons allD_nil, by rw [hsz]; exact Nat.le_of_ble_eq_true rfl, ?_⟩
      walk_at "zq"
      walk_at "zt"
      refine ⟨_, _, zg_tup rfl (zgs_cons (zgs_cons zgs_nil)), ?_⟩
      walk_at "zq"
      have hcut : Z.cutD ((c :: t).map Cell.d) (some 1) none = t.map Cell.d := cut1 _ _
      rw [hcut]
      refine (zs_while (fun m S2 M2 => ∃ (A : List Cell) (g : Bool) (c5 c6 : Option ZV), S2 = [some (.d (bD b)), some (.d (.list (((leftOf b ms).filter fun e => decide (e ∉ A)).map Cell.d))), some (.c l), some (.d (.list (A.map Cell.d))), some (.d (.bool g)), c5, c6] ∧ M2 = [(l, true, .lst (ms.map bD))] ∧ m = ((leftOf b ms).filter fun e => decide (e ∉ A)).length + (if g then 1 else 0) ∧ TakeI (leftOf b ms) c A (if g then A else [])) ⟨_, [c], true, c5, c6, ?_, rfl, rfl, .start hcm⟩ ?_)
      · have : ((leftOf b ms).filter fun e => decide (e ∉ [c])) = t := by
          have hnd := up_nodup hcu
          rw [hcs] at hnd ⊢
          rw [List.filter_cons_of_neg (by simp)]
          exact List.filter_eq_self.mpr fun e he => decide_eq_true fun z => (List.pairwise_cons.mp hnd).1 e he (List.mem_singleton.mp z).symm
        rw [this]
        rfl
      rintro m S2 M2 ⟨A, g, c5, c6, rfl, rfl, rfl, W⟩
      have hAl : A.length ≤ (leftOf b ms).length := by
        have := fewer (A := []) (up_nodup hcu) W.nd fun g hg => ⟨W.sub g hg, fun z => nomatch z⟩
        have h2 := List.length_filter_le (fun e => decide (e ∉ ([] : List Cell))) (leftOf b ms)
        omega
      have hbl := hsub.length_le
      have hRl := List.length_filter_le (fun e => decide (e ∉ A)) (leftOf b ms)
      have hgr := TakeI.grow (up_nodup hcu) (A := A) (c := c)
      generalize hR : ((leftOf b ms).filter fun e => decide (e ∉ A)) = R at hgr hRl ⊢
      have hml := List.length_filter_le (nearAt A) R
      cases g with
      | true =>
        walk_at "zq"
        refine lcL_fm R Cell.d Cell.d (nearAt A) ?_
        walk_at "zq"
        refine ⟨rfl, by omega, fun e he => ⟨_, _, ?_, zg_name, fun D acc => ⟨?_, fun _ => ?_⟩⟩, ?_⟩
        · simp
        · refine zt_B (zw_call0 ?_)
          walk_at "zq"
          walk_at "zt"
          walk_at "zq"
          refine zc_tupL ?_
          walk_at "zq"
          refine ⟨_, _, by walk_at "zd", rfl, ⟨[e], A, rfl, by show 1 ≤ 1000; decide, by omega, rfl⟩, _, rfl, ?_, rfl⟩
          show (nearAt A e || false) = nearAt A e
          rw [Bool.or_false]
        · walk_at "zq"
          exact ⟨rfl, rfl⟩
        generalize hmo : R.filter (nearAt A) = mo at hgr hml ⊢
        have hW : TakeI (leftOf b ms) c A A := W
        have hmm : ∀ g ∈ mo, g ∈ leftOf b ms ∧ g ∉ A := fun g hg => by
          rw [← hmo, ← hR] at hg
          have h1 := List.mem_filter.mp (List.mem_filter.mp hg).1
          exact ⟨h1.1, of_decide_eq_true h1.2⟩
        have hmn : mo.Nodup := by
          rw [← hmo, ← hR]
          exact ((up_nodup hcu).filter _).filter _
        have hfew := fewer (A := A) (up_nodup hcu) hmn hmm
        have hfil : (R.filter fun e => decide (e ∉ mo)) = (leftOf b ms).filter fun e => decide (e ∉ A ++ mo) := by
          rw [← hR, List.filter_filter]
          refine List.filter_congr fun e _ => ?_
          by_cases h1 : e ∈ A <;> by_cases h2 : e ∈ mo <;> simp [h1, h2]
        walk_at "zq"
        refine zw_lstD ?_
        walk_at "zq"
        refine ⟨[], allD_nil, Nat.zero_le _, ?_⟩
        refine zo_neDD (shp_bL _) rfl ?_
        rw [eqv_bL]
        walk_at "zq"
        refine zo_catD (by rw [List.length_map, List.length_map]; omega) ?_
        rw [← List.map_append]
        walk_at "zq"
        refine lcL_fm R Cell.d Cell.d (fun e => decide (e ∉ mo)) ?_
        walk_at "zq"
        refine ⟨rfl, by omega, fun e he => ⟨_, _, ?_, zg_name, fun D acc => ⟨?_, fun _ => ?_⟩⟩, ?_⟩
        · simp
        · walk_at "zq"
          refine zo_inD (plain_cells mo) rfl (by simp [PyData.depth, PyData.depthAll]) ?_
          rw [any_cells]
          refine ⟨_, rfl, ?_, rfl⟩
          by_cases q : e ∈ mo <;> simp [q]
        · walk_at "zq"
          exact ⟨rfl, rfl⟩
        rw [hfil]
        walk_at "zq"
        refine ⟨_, allD_cons (allD_cons (allD_cons allD_nil)), by rw [hsz]; exact Nat.le_of_ble_eq_true rfl, ?_⟩
        refine ⟨_, _, zg_tup rfl (zgs_cons (zgs_cons (zgs_cons zgs_nil))), ?_⟩
        refine ⟨_, ?_, A ++ mo, !mo.isEmpty, _, _, rfl, rfl, rfl, ?_⟩
        · rw [hR] at hfew
          generalize ((leftOf b ms).filter fun e => decide (e ∉ A ++ mo)).length = z at hfew ⊢
          cases mo with
          | nil =>
            show z + 0 < R.length + 1
            rw [List.length_nil] at hfew
            omega
          | cons g mo =>
            show z + 1 < R.length + 1
            rw [List.length_cons] at hfew
            omega
        · cases mo with
          | nil => rw [List.append_nil]; exact (hgr hW).1 rfl
          | cons g mo => exact (hgr hW).2
      | false =>
        have hW : TakeI (leftOf b ms) c A [] := W
        obtain ⟨L, hL⟩ := lot_ex b c
        have hno : ¬ ∃ L ∈ ms, c ∈ L := fun z => of_decide_eq_true (List.mem_filter.mp hcm).2 (mem_lots.mpr z)
        have hLw := hL.within hu hsub hcm fun e he g hg hn => List.mem_filter.mpr ⟨hg, by
          have h1 := (List.mem_filter.mp he).2
          refine decide_eq_true fun z => V.out (hsub.subset he) (fun z => of_decide_eq_true h1 (mem_lots.mpr z)) (.step (.here e) hg hn) (mem_lots.mp z)⟩
        have hd := hW.done hcu hLw
        have hRL : R = leftOf b (ms ++ [L]) := by
          rw [← left_add, ← hR]
          refine List.filter_congr fun e _ => ?_
          have := hd.2 e
          by_cases z : e ∈ L
          · simp [z, this.mpr z]
          · have y : e ∉ A := fun y => z (this.mp y)
            simp [z, y]
        walk_at "zq"
        refine zw_append ?_
        walk_at "zq"
        refine ⟨⟨_, _, m0⟩, ?_⟩
        walk_at "zq"
        have hrow : ∀ B : List Cell, B.map Cell.d = (B.map Cell.r).map rowD := fun B => by
          rw [List.map_map]
          rfl
        rw [hrow A]
        refine zc_sortL (fun r hr => by obtain ⟨x, _, rfl⟩ := List.mem_map.mp hr; exact List.cons_ne_nil _ _) ?_
        rw [hd.1, ← hrow]
        walk_at "zq"
        refine zc_tupL ?_
        refine ⟨_, _, _, _, rfl, .here, by rw [List.length_map]; omega, ?_⟩
        rw [hRL]
        refine ⟨_, ?_, ms ++ [L], j + 1, _, _, _, _, rfl, ?_, rfl, ?_, ?_, U.add hu hj hno hL⟩
        · have h1 := fewer (A := []) (up_nodup hcu) hW.nd fun g hg => ⟨hW.sub g hg, fun z => nomatch z⟩
          rw [List.nil_append, hR] at h1
          have h2 := List.length_filter_le (fun e => decide (e ∉ ([] : List Cell))) (leftOf b ms)
          have h3 := List.length_pos_of_mem hW.me
          rw [← hRL, ← hcs]
          omega
        · rw [List.map_append, ← hrow L]
          rfl
        · have := (List.getElem?_eq_some_iff.mp hj).1
          omega
        · rw [List.length_append, List.length_singleton]
          omega
  · have h0 : leftOf b ms = [] := by
      cases hcs : leftOf b ms with
      | nil => rfl
      | cons c t => rw [hcs] at h; cases h
    have U := (lt_leave (b.length - i) i (by omega) V).1 h0
    obtain rfl := U.uniq hu T
    walk_at "zq"
    refine zc_sortD m0 ?_ ?_ ?_ ?_ ?_
    · rintro d hd d' hd'
      obtain ⟨L, _, rfl⟩ := List.mem_map.mp hd
      obtain ⟨M, _, rfl⟩ := List.mem_map.mp hd'
      show PySem.W.alike (.tuple (L.map Cell.d)) (.tuple (M.map Cell.d)) = true
      simp only [PySem.W.alike]
      exact alike_cells L M
    · refine .inl fun d hd => ?_
      obtain ⟨L, hL, rfl⟩ := List.mem_map.mp hd
      obtain ⟨c, _, _, hh⟩ := U.lot L hL
      cases L with
      | nil => cases hh
      | cons a L => exact ⟨_, _, rfl⟩
    · intro d hd
      obtain ⟨L, _, rfl⟩ := List.mem_map.mp hd
      have := deep_cells L
      simp only [PyData.depth]
      omega
    · exact List.pairwise_map.mpr (U.up.imp lots_le)
    walk_at "zq"
    refine zc_tupL ?_
    exact ⟨_, rfl, rfl⟩
/-! ### boards apart: mathematics -/
def addF (f g : Fl) : Fl := fun x y => if f x y = 0 then g x y else f x y
def Apart (f g : Fl) : Prop := ∀ x y a c, f x y ≠ 0 → g a c ≠ 0 → ¬ ((a - x ≤ 2 ∧ x - a ≤ 2) ∧ (c - y ≤ 2 ∧ y - c ≤ 2))
theorem nx_local {r : Rl} {f g : Fl} {x y : Int} (h : ∀ a c : Int, (a - x ≤ 1 ∧ x - a ≤ 1) → (c - y ≤ 1 ∧ y - c ≤ 1) → f a c = g a c) : nx r f x y = nx r g x y := by
  have hl : ∀ a c : Int, (a - x ≤ 1 ∧ x - a ≤ 1) → (c - y ≤ 1 ∧ y - c ≤ 1) → MB.liv f a c = MB.liv g a c := fun a c ha hc => by
    unfold MB.liv
    rw [h a c ha hc]
  unfold nx MB.next MB.nb
  rw [h x y (by omega) (by omega), hl (x - 1) (y - 1) (by omega) (by omega), hl (x - 1) y (by omega) (by omega), hl (x - 1) (y + 1) (by omega) (by omega), hl x (y - 1) (by omega) (by omega), hl x (y + 1) (by omega) (by omega), hl (x + 1) (y - 1) (by omega) (by omega), hl (x + 1) y (by omega) (by omega), hl (x + 1) (y + 1) (by omega) (by omega)]
theorem Apart.side {f g : Fl} (A : Apart f g) (x y : Int) : (∀ a c : Int, (a - x ≤ 1 ∧ x - a ≤ 1) → (c - y ≤ 1 ∧ y - c ≤ 1) → f a c = 0) ∨ ∀ a c : Int, (a - x ≤ 1 ∧ x - a ≤ 1) → (c - y ≤ 1 ∧ y - c ≤ 1) → g a c = 0 := by
  refine Classical.byContradiction fun z => ?_
  refine z (.inl fun a c ha hc => Classical.byContradiction fun h1 => z (.inr fun a' c' ha' hc' => Classical.byContradiction fun h2 => ?_))
  exact A a c a' c' h1 h2 (by omega)
theorem nx_none {r : Rl} (hr : Rule r) {f : Fl} {x y : Int} (h : ∀ a c : Int, (a - x ≤ 1 ∧ x - a ≤ 1) → (c - y ≤ 1 ∧ y - c ≤ 1) → f a c = 0) : nx r f x y = 0 := by
  rw [nx_local (g := fun _ _ => 0) h, nx_zero hr]
theorem Apart.nx {r : Rl} (hr : Rule r) {f g : Fl} (A : Apart f g) : nx r (addF f g) = addF (nx r f) (nx r g) ∧ ∀ x y, nx r f x y = 0 ∨ nx r g x y = 0 := by
  refine ⟨funext fun x => funext fun y => ?_, fun x y => ?_⟩
  · show K03.nx r (addF f g) x y = if K03.nx r f x y = 0 then K03.nx r g x y else K03.nx r f x y
    rcases A.side x y with h | h
    · rw [nx_none hr h, if_pos rfl]
      exact nx_local fun a c ha hc => by
        unfold addF
        rw [if_pos (h a c ha hc)]
    · rw [nx_none hr h, nx_local (f := addF f g) (g := f) fun a c ha hc => by
        unfold addF
        split
        · rename_i z
          rw [h a c ha hc, z]
        · rfl]
      split
      · assumption
      · rfl
  · rcases A.side x y with h | h
    · exact .inl (nx_none hr h)
    · exact .inr (nx_none hr h)
theorem Apart.apart {f g : Fl} (A : Apart f g) (x y : Int) : f x y = 0 ∨ g x y = 0 := by
  by_cases h : f x y = 0
  · exact .inl h
  · exact .inr (Classical.byContradiction fun z => A x y x y h z (by omega))
theorem near_apart {b d : List Cell} (T : Told (stOf b) b) (U : Told (stOf d) d) (h : nearB b d = false) : Apart (stOf b) (stOf d) := fun x y a c h1 h2 h3 => by
  have c1 := (T.mem ⟨x, y, stOf b x y⟩).mpr ⟨rfl, h1⟩
  have c2 := (U.mem ⟨a, c, stOf d a c⟩).mpr ⟨rfl, h2⟩
  have h4 := List.any_eq_false.mp h _ c1
  exact h4 (List.any_eq_true.mpr ⟨_, c2, decide_eq_true h3⟩)
theorem joined_told {f g : Fl} (hd : ∀ x y, f x y = 0 ∨ g x y = 0) {b d e : List Cell} (T : Told f b) (U : Told g d) (V : Told (addF f g) e) : bothD b d = bD e ∧ meet b d = false := by
  have dis : ∀ c ∈ b, ∀ c' ∈ d, ¬ (c.x = c'.x ∧ c.y = c'.y) := fun c hc c' hc' z => by
    have h1 := (T.mem c).mp hc
    have h2 := (U.mem c').mp hc'
    rw [← z.1, ← z.2] at h2
    rcases hd c.x c.y with h | h
    · exact h1.2 (by rw [← h1.1]; exact h)
    · exact h2.2 (by rw [← h2.1]; exact h)
  constructor
  · unfold bothD
    rw [told_sort V (List.nodup_append.mpr ⟨up_nodup T.up, up_nodup U.up, fun x hx y hy z => dis x hx y hy (by rw [z]; exact ⟨rfl, rfl⟩)⟩) fun c => ?_, rows_d]
    rw [List.mem_append, T.mem, U.mem]
    unfold addF
    constructor
    · rintro (⟨h1, h2⟩ | ⟨h1, h2⟩)
      · rw [if_neg (by rw [h1]; exact h2)]
        exact ⟨h1, h2⟩
      · rcases hd c.x c.y with h | h
        · rw [if_pos h]
          exact ⟨h1, h2⟩
        · exact absurd (h1.symm.trans h) h2
    · split
      · exact .inr
      · exact .inl
  · refine List.any_eq_false.mpr fun c hc z => ?_
    obtain ⟨e', he', h⟩ := List.any_eq_true.mp z
    have h := isAt_iff.mp h
    exact dis e' he' c hc h
/-! ### lots apart, lots together -/
theorem lots_apart {b : List Cell} {i : Nat} {ls : List (List Cell)} (hu : b.Pairwise lt2) (T : Lt b i ls) {j k : Nat} {L M : List Cell} (hjk : j ≠ k) (hj : ls[j]? = some L) (hk : ls[k]? = some M) : nearB L M = false := by
  refine List.any_eq_false.mpr fun c hc z => ?_
  obtain ⟨e, he, h⟩ := List.any_eq_true.mp z
  have h : nearC c e := of_decide_eq_true h
  obtain ⟨c0, h0, hL, hh⟩ := T.lot L (List.mem_of_getElem? hj)
  obtain ⟨e0, h1, hM, hh1⟩ := T.lot M (List.mem_of_getElem? hk)
  have hcm := (hL.mem c).mp hc
  have hem := (hM.mem e).mp he
  have r1 : Rch b c0 e := .step hcm.2 hem.1 h
  have same : ∀ g, g ∈ L ↔ g ∈ M := fun g => by
    rw [hL.mem, hM.mem]
    have b0 := List.mem_of_mem_take h0
    have b1 := List.mem_of_mem_take h1
    have r2 : Rch b e0 c0 := hem.2.trans (r1.symm b0).1
    exact ⟨fun ⟨q1, q2⟩ => ⟨q1, r2.trans q2⟩, fun ⟨q1, q2⟩ => ⟨q1, (r2.symm b1).1.trans q2⟩⟩
  obtain rfl : L = M := up_eq (hu.sublist hL.sub) (hu.sublist hM.sub) same
  have no : ¬ ∃ c e, L.head? = some c ∧ L.head? = some e ∧ lt2 c e := by
    rintro ⟨c, e, h1, h2, h3⟩
    rw [h1] at h2
    cases h2
    unfold lt2 at h3
    omega
  rcases Nat.lt_trichotomy j k with q | q | q
  · exact no (pw_at T.up q hj hk)
  · exact hjk q
  · exact no (pw_at T.up q hk hj)
theorem lots_whole {b : List Cell} {ls : List (List Cell)} (hu : b.Pairwise lt2) (T : Lt b b.length ls) : sortI (ls.flatten.map Cell.r) = b.map Cell.r := by
  have hm : ∀ c, c ∈ b ↔ c ∈ ls.flatten := fun c => by
    rw [List.mem_flatten]
    constructor
    · intro h
      exact T.all c (by rw [List.take_length]; exact h)
    · rintro ⟨L, hL, hc⟩
      obtain ⟨_, _, h, _⟩ := T.lot L hL
      exact h.sub.subset hc
  have hn : ls.flatten.Nodup := by
    refine List.pairwise_flatten.mpr ⟨fun L hL => ?_, ?_⟩
    · obtain ⟨_, _, h, _⟩ := T.lot L hL
      exact up_nodup (hu.sublist h.sub)
    · rw [List.pairwise_iff_getElem]
      intro j k hj hk hjk c hc e he z
      subst z
      have h := lots_apart hu T (Nat.ne_of_lt hjk) (List.getElem?_eq_getElem hj) (List.getElem?_eq_getElem hk)
      have h2 := List.any_eq_false.mp h c hc
      exact h2 (List.any_eq_true.mpr ⟨c, he, decide_eq_true (by unfold nearC; omega)⟩)
  have hp : b.Perm ls.flatten := (List.perm_ext_iff_of_nodup (up_nodup hu) hn).mpr hm
  exact (sortI_uniq (hp.map _) (List.pairwise_map.mpr (hu.imp leI_cells))).symm
/-! ### the law's facts -/
theorem told_up {b : List Cell} (h : b.Pairwise lt2) (hs : ∀ c ∈ b, c.s ≠ 0) : Told (stOf b) b := by
  refine ⟨h, fun c => ⟨fun hc => ⟨st_some h hc, hs c hc⟩, fun hc => ?_⟩⟩
  have := st_mem (b := b) (x := c.x) (y := c.y) (by rw [hc.1]; exact hc.2)
  rw [hc.1] at this
  exact this
theorem Grid.toldW {wi g n : Nat} {b : List Cell} (h : Grid g n b wi 0) : Told (stOf b) b := told_up h.up fun c hc => by have := h.ok c hc; omega
theorem Grid.smW {wi g n : Nat} {b : List Cell} (h : Grid g n b wi 0) (hn : n ≤ 6) : Sm (stOf b) 0 0 wi g := by
  refine ⟨fun x y hx => ?_, fun x y => ?_⟩
  · have := h.ok _ (st_mem hx)
    dsimp only at this
    omega
  · by_cases z : stOf b x y = 0
    · rw [z]; decide
    · have := h.ok _ (st_mem z)
      dsimp only at this
      omega
theorem Sm.wide {f : Fl} {l t l' t' : Int} {w h w' h' : Nat} (S : Sm f l t w h) (hl : l' ≤ l ∧ l + w ≤ l' + w') (ht : t' ≤ t ∧ t + h ≤ t' + h') : Sm f l' t' w' h' :=
  ⟨fun x y z => by have := S.sup x y z; omega, S.rng⟩
/-- the places that both of the law's boards stand in -/
abbrev Law (f : Fl) : Prop := Sm f (-7) (-7) 18 18
theorem Law.sq {f : Fl} (S : Law f) : Sq f 18 100 := ⟨_, _, S, by omega, by omega, by omega, by omega⟩
theorem Law.go {r : Rl} (hr : Rule r) {f : Fl} (S : Law f) : Go r f 1 := fun j hj => S.sq.sml hr (by decide) (by decide) (by omega)
theorem Law.len {f : Fl} (S : Law f) {b : List Cell} (T : Told f b) : b.length ≤ 400 := Nat.le_trans (Sm.len S T) (by decide)
theorem Law.len1 {r : Rl} (hr : Rule r) {f : Fl} (S : Law f) {b : List Cell} (T : Told (nx r f) b) : b.length ≤ 400 := Nat.le_trans ((Sm.next hr S).len T) (by decide)
theorem Law.add {f g : Fl} (S : Law f) (U : Law g) : Law (addF f g) := by
  refine ⟨fun x y z => ?_, fun x y => ?_⟩
  · unfold addF at z
    split at z
    · exact U.sup x y z
    · exact S.sup x y z
  · unfold addF
    split
    · exact U.rng x y
    · exact S.rng x y
theorem apart_facts {r : Rl} (hr : Rule r) {b d : List Cell} (T : Told (stOf b) b) (U : Told (stOf d) d) (S1 : Law (stOf b)) (S2 : Law (stOf d)) (h : nearB b d = false) :
    ∃ e e2 b2 d2, R_joined [bD b, bD d] (.ok (bD e)) ∧ R_step [r.d, bD e] (.ok (bD e2)) ∧ R_step [r.d, bD b] (.ok (bD b2)) ∧ R_step [r.d, bD d] (.ok (bD d2)) ∧ R_joined [bD b2, bD d2] (.ok (bD e2)) ∧ e2.length ≤ 400 := by
  have A := near_apart T U h
  have S3 := Law.add S1 S2
  have G1 := Law.go hr S1
  have G2 := Law.go hr S2
  have G3 := Law.go hr S3
  obtain ⟨e, E0⟩ := G3.ex (Nat.zero_le 1)
  obtain ⟨e2, E1⟩ := G3.ex (Nat.le_refl 1)
  obtain ⟨b2, B1⟩ := G1.ex (Nat.le_refl 1)
  obtain ⟨d2, D1⟩ := G2.ex (Nat.le_refl 1)
  have E0 : Told (addF (stOf b) (stOf d)) e := E0
  have E1 : Told (nx r (addF (stOf b) (stOf d))) e2 := E1
  have B1 : Told (nx r (stOf b)) b2 := B1
  have D1 : Told (nx r (stOf d)) d2 := D1
  have hA := Apart.nx hr A
  have j1 := joined_told A.apart T U E0
  have j2 := joined_told hA.2 B1 D1 (by rw [← hA.1]; exact E1)
  have es := told_st E0
  have l1 := Law.len S1 T
  have l2 := Law.len S2 U
  have l3 := Law.len S3 E0
  have l4 := Law.len1 hr S3 E1
  have l5 := Law.len1 hr S1 B1
  have l6 := Law.len1 hr S2 D1
  refine ⟨e, e2, b2, d2, ⟨b, d, rfl, G1.board (Nat.zero_le _) T, G2.board (Nat.zero_le _) U, by omega, by omega, j1.2, by rw [j1.1]⟩, ⟨r, e, e2, rfl, hr, by rw [es]; exact G3, by rw [es]; exact E0, by rw [es]; exact E1, by omega, rfl⟩, ⟨r, b, b2, rfl, hr, G1, T, B1, by omega, rfl⟩, ⟨r, d, d2, rfl, hr, G2, U, D1, by omega, rfl⟩, ⟨b2, d2, rfl, G1.board (Nat.le_refl 1) B1, G2.board (Nat.le_refl 1) D1, by omega, by omega, j2.2, by rw [j2.1]⟩, l4⟩
/-- the law's two boards -/
theorem law_boards {n : Nat} (hn : n ≤ 6) {b0 d0 : List Cell} (h : Grid 4 n b0 3 0) (k : Grid 3 n d0 4 0) {x y : Int} (hx : -7 ≤ x ∧ x ≤ 7) (hy : -7 ≤ y ∧ y ≤ 7) :
    Told (stOf b0) b0 ∧ Law (stOf b0) ∧ Told (stOf (d0.map (Cell.mv x y))) (d0.map (Cell.mv x y)) ∧ Law (stOf (d0.map (Cell.mv x y))) := by
  have T := told_mv k.toldW x y
  refine ⟨h.toldW, (h.smW hn).wide (by omega) (by omega), ?_⟩
  rw [told_st T]
  exact ⟨T, ((k.smW hn).mv x y).wide (by omega) (by omega)⟩
/-- the board of both, the first one's cells where both have one -/
def mixB (b d : List Cell) : List Cell := b ++ d.filter fun c => !(b.any (isAt c.x c.y))
theorem mix_told {b d e : List Cell} (T : Told (stOf b) b) (U : Told (stOf d) d) (V : Told (addF (stOf b) (stOf d)) e) : (mixB b d).Nodup ∧ sortI ((mixB b d).map Cell.r) = e.map Cell.r ∧ e.length = (mixB b d).length := by
  have hx : ∀ c : Cell, (b.any (isAt c.x c.y)) = true ↔ stOf b c.x c.y ≠ 0 := fun c => by
    rw [List.any_eq_true]
    constructor
    · rintro ⟨e, he, h⟩
      have h := isAt_iff.mp h
      have h1 := (T.mem e).mp he
      rw [← h.1, ← h.2, h1.1]
      exact h1.2
    · intro h
      exact ⟨⟨c.x, c.y, stOf b c.x c.y⟩, (T.mem _).mpr ⟨rfl, h⟩, isAt_iff.mpr ⟨rfl, rfl⟩⟩
  have hm : ∀ c, c ∈ mixB b d ↔ (addF (stOf b) (stOf d) c.x c.y = c.s ∧ c.s ≠ 0) := fun c => by
    unfold mixB addF
    rw [List.mem_append, List.mem_filter, T.mem, U.mem]
    by_cases z : stOf b c.x c.y = 0
    · have hf : b.any (isAt c.x c.y) = false := Bool.eq_false_iff.mpr fun q => (hx c).mp q z
      rw [if_pos z, hf, z]
      constructor
      · rintro (⟨h1, h2⟩ | ⟨h1, _⟩)
        · exact absurd h1.symm h2
        · exact h1
      · exact fun h => .inr ⟨h, rfl⟩
    · have hf : b.any (isAt c.x c.y) = true := (hx c).mpr z
      rw [if_neg z, hf]
      constructor
      · rintro (h | ⟨_, h⟩)
        · exact h
        · cases h
      · exact .inl
  have hn : (mixB b d).Nodup := by
    refine List.nodup_append.mpr ⟨up_nodup T.up, (up_nodup U.up).filter _, fun x hx1 y hy z => ?_⟩
    subst z
    have h1 := (List.mem_filter.mp hy).2
    have h2 : b.any (isAt x.x x.y) = true := List.any_eq_true.mpr ⟨x, hx1, isAt_iff.mpr ⟨rfl, rfl⟩⟩
    rw [h2] at h1
    cases h1
  exact ⟨hn, told_sort V hn hm, (told_perm V hn hm).length_eq⟩
/-! ### the law -/
theorem near_comm (b d : List Cell) : nearB b d = nearB d b := by
  have go : ∀ b d : List Cell, nearB b d = true → nearB d b = true := fun b d h => by
    obtain ⟨c, hc, h1⟩ := List.any_eq_true.mp h
    obtain ⟨e, he, h2⟩ := List.any_eq_true.mp h1
    have h2 : nearC c e := of_decide_eq_true h2
    refine List.any_eq_true.mpr ⟨e, he, List.any_eq_true.mpr ⟨c, hc, decide_eq_true ?_⟩⟩
    unfold nearC at h2 ⊢
    omega
  rw [Bool.eq_iff_iff]
  exact ⟨go b d, go d b⟩
theorem Board.sub {b c : List Cell} (h : Board b) (s : c.Sublist b) : Board c := ⟨Nat.le_trans s.length_le h.len, fun e he => h.ok e (s.subset he), h.up.sublist s⟩
theorem flat_len : ∀ {ls : List (List Cell)}, (∀ L ∈ ls, L ≠ []) → ls.length ≤ ls.flatten.length
  | [], _ => Nat.le_refl _
  | L :: ls, h => by
    have h1 := flat_len fun M hM => h M (List.mem_cons_of_mem _ hM)
    have h2 := List.length_pos_iff.mpr (h L List.mem_cons_self)
    rw [List.flatten_cons, List.length_append, List.length_cons]
    omega
theorem al_cells (n : Nat) : ∀ b : List Cell, (b.map Cell.d).all (al (n + 2)) = true
  | [] => rfl
  | c :: r => by
    rw [List.map_cons, List.all_cons, al_cells n r]
    rfl
theorem al_bD {n : Nat} {b : List Cell} (h : b.length ≤ 1000) : al (n + 3) (bD b) = true := by
  show (decide ((b.map Cell.d).length ≤ 1000) && (b.map Cell.d).all (al (n + 2))) = true
  rw [al_cells, decide_eq_true (by rw [List.length_map]; exact h)]
  rfl
theorem al_lots {n : Nat} {ls : List (List Cell)} (h : ls.length ≤ 1000) (hl : ∀ L ∈ ls, L.length ≤ 1000) : al (n + 4) (.tuple (ls.map bD)) = true := by
  show (decide ((ls.map bD).length ≤ 1000) && (ls.map bD).all (al (n + 3))) = true
  rw [decide_eq_true (by rw [List.length_map]; exact h), Bool.true_and, List.all_eq_true]
  intro d hd
  obtain ⟨L, hL, rfl⟩ := List.mem_map.mp hd
  exact al_bD (hl L hL)
theorem r_inj {a b : Cell} (h : a.r = b.r) : a = b := by
  cases a; cases b
  unfold Cell.r at h
  simp_all
/-- the board of both, and its lots -/
theorem whole_facts {r : Rl} (hr : Rule r) {b d : List Cell} (T : Told (stOf b) b) (U : Told (stOf d) d) (S1 : Law (stOf b)) (S2 : Law (stOf d)) (hb : b.length ≤ 12) (hd : d.length ≤ 12) :
    ∃ (e : List Cell) (ls : List (List Cell)), (∀ x ∈ (mixB b d).map Cell.r, x ≠ []) ∧ ((mixB b d).map Cell.r).Nodup ∧ ((mixB b d).map Cell.r).length < 64 ∧ sortI ((mixB b d).map Cell.r) = e.map Cell.r ∧ Board e ∧ e.length ≤ 24 ∧ Lt e e.length ls ∧ al 5 (.tuple (ls.map bD)) = true ∧
      (∀ L ∈ ls, Board L ∧ L.length ≤ 24) ∧ ls.length ≤ 24 ∧ ls.flatten.length ≤ 24 := by
  have G3 := Law.go hr (Law.add S1 S2)
  obtain ⟨e, E0⟩ := G3.ex (Nat.zero_le 1)
  have E0 : Told (addF (stOf b) (stOf d)) e := E0
  obtain ⟨m1, m2, m3⟩ := mix_told T U E0
  have hB := G3.board (Nat.zero_le _) E0
  have hml : (mixB b d).length ≤ 24 := by
    unfold mixB
    rw [List.length_append]
    have := List.length_filter_le (fun c : Cell => !(b.any (isAt c.x c.y))) d
    omega
  obtain ⟨ls, hT⟩ := lots_ex hB.up e.length (Nat.le_refl _)
  have hw := congrArg List.length (lots_whole hB.up hT)
  rw [(sortI_perm _).length_eq, List.length_map, List.length_map] at hw
  have hL : ∀ L ∈ ls, L.Sublist e ∧ L ≠ [] := fun L hL => by
    obtain ⟨c, _, q1, q2⟩ := hT.lot L hL
    exact ⟨q1.sub, fun z => by rw [z] at q2; cases q2⟩
  have hn := flat_len fun L h => (hL L h).2
  have hLl : ∀ L ∈ ls, L.length ≤ 24 := fun L h => by have := (hL L h).1.length_le; omega
  refine ⟨e, ls, fun x hx => ?_, ?_, ?_, m2, hB, by omega, hT, al_lots (by omega) (fun L h => by have := hLl L h; omega), fun L h => ⟨hB.sub (hL L h).1, hLl L h⟩, by omega, by omega⟩
  · obtain ⟨c, _, rfl⟩ := List.mem_map.mp hx
    exact List.cons_ne_nil _ _
  · exact List.pairwise_map.mpr (m1.imp fun h z => h (r_inj z))
  · rw [List.length_map]
    omega
theorem plain_places : ∀ b : List Cell, PyData.plainAll (b.map fun e => pr e.x e.y) = true
  | [] => rfl
  | c :: r => by
    show (PyData.plain (pr c.x c.y) && PyData.plainAll (r.map fun e => pr e.x e.y)) = true
    rw [plain_places r]
    rfl
theorem any_places (b : List Cell) (x y : Int) : ((b.map fun e => pr e.x e.y).any fun z => z.eqv (pr x y)) = b.any (isAt x y) := by
  rw [List.any_map]
  congr 1
  funext e
  show ((e.x == x) && ((e.y == y) && true)) = (decide (e.x = x) && decide (e.y = y))
  rw [Bool.and_true]
  rfl
def R_law (ds : List PyData) (o : DOut) : Prop := ∃ ns : List Int, ds = [.list (ns.map .int)] ∧ o = .ok (.bool true)
theorem ok_law {P : Program} {w : World} {K : Fg} {mg : Str → Option Value} {base : Heap} {f : Addr} {fd : FuncData} (F : Fun K "law" "law" s_law f fd)
    (m_tuple : mg "tuple" = none)
    (m_sorted : mg "sorted" = none)
    (m_set : mg "set" = none)
    (m_range : mg "range" = none)
    (m_len : mg "len" = none)
    (c__law_some_rule : Cal P w K mg base 3 "_law_some_rule" (spC K 0 R_someRule))
    (c__law_moved : Cal P w K mg base 1 "_law_moved" (spD K 3 R_lmoved))
    (c__law_signed : Cal P w K mg base 2 "_law_signed" (spC K 1 R_signed))
    (c__law_cells : Cal P w K mg base 2 "_law_cells" (spC K 3 R_cells))
    (c__law_are_near : Cal P w K mg base 1 "_law_are_near" (spD K 2 R_lnear))
    (c__law_alike : Cal P w K mg base 6 "_law_alike" (spD K 2 (R_alike 5)))
    (c_are_near : Cal P w K mg base 5 "are_near" (spD K 2 R_near))
    (c_step : Cal P w K mg base 8 "step" (spD K 2 R_step))
    (c_joined : Cal P w K mg base 5 "joined" (spD K 2 R_joined))
    (c_lots : Cal P w K mg base 7 "lots" (spD K 1 R_lots))
    (c__law_lots : Cal P w K mg base 2 "_law_lots" (spD K 1 R_llots)) :
    FnOk P w K mg base (L2.CX P w) 10 f fd ["script"] (spD K 1 R_law) := by
  refine F.okX sc_law (fun vs H Q E h => len_D h) (fun cdv A outer s H vs Q E hr h => ⟨_, (pss_cons (ps_set (i := 1) sc_law.nd rfl (by first | exact Or.inl rfl | exact Or.inr rfl) (pe_lst (pa_cons (pv 0) (pa_cons pe_int (pa_cons pe_int (pa_cons pe_int pa_nil))))))
      (pss_cons (ps_set (i := 2) sc_law.nd rfl (by first | exact Or.inl rfl | exact Or.inr rfl) (pe_cl c__law_some_rule hr (show 3 ≤ 9 by decide) passL (pa_cons (pv 1) pa_nil)))
      (pss_cons (ps_asg (pe_tup (pa_cons (pe_cl c__law_cells hr (show 2 ≤ 9 by decide) passL (pa_cons (pv 1) (pa_cons pe_int (pa_cons pe_int (pa_cons (pe_ix ix_seq (pv 2) pe_int (fun _ _ => rfl)) pa_nil))))) (pa_cons (pe_cl c__law_moved hr (show 1 ≤ 9 by decide) passL (pa_cons (pe_cl c__law_cells hr (show 2 ≤ 9 by decide) passL (pa_cons (pv 1) (pa_cons pe_int (pa_cons pe_int (pa_cons (pe_ix ix_seq (pv 2) pe_int (fun _ _ => rfl)) pa_nil))))) (pa_cons (pe_cl c__law_signed hr (show 2 ≤ 9 by decide) passL (pa_cons (pv 1) (pa_cons pe_int pa_nil))) (pa_cons (pe_cl c__law_signed hr (show 2 ≤ 9 by decide) passL (pa_cons (pv 1) (pa_cons pe_int pa_nil))) pa_nil)))) pa_nil))) (pg_tup rfl (pgs_cons (pg_name (i := 3) sc_law.nd rfl (by first | exact Or.inl rfl | exact Or.inr rfl)) (pgs_cons (pg_name (i := 4) sc_law.nd rfl (by first | exact Or.inl rfl | exact Or.inr rfl)) pgs_nil))))
      (pss_cons (ps_set (i := 5) sc_law.nd rfl (by first | exact Or.inl rfl | exact Or.inr rfl) (pe_cl c__law_are_near hr (show 1 ≤ 9 by decide) passL (pa_cons (pv 3) (pa_cons (pv 4) pa_nil))))
      (pss_cons (ps_if (pt_not (pt_val (pe_cl c__law_alike hr (show 6 ≤ 9 by decide) passL (pa_cons (pe_lst (pa_cons (pe_cl c_are_near hr (show 5 ≤ 9 by decide) passL (pa_cons (pv 3) (pa_cons (pv 4) pa_nil))) (pa_cons (pe_cl c_are_near hr (show 5 ≤ 9 by decide) passL (pa_cons (pv 4) (pa_cons (pv 3) pa_nil))) pa_nil))) (pa_cons (pe_lst (pa_cons (pv 5) (pa_cons (pv 5) pa_nil))) pa_nil))) (fun _ => rfl))) (pss_one (ps_ret pe_bl)) pss_nil)
      (pss_cons (ps_if (PW.pt (pw_and (pt_not (pt_truth (pv 5) (fun _ => rfl))) (pw_and1 (pt_cmpR (op_neA hr.units) (pe_cl c_step hr (show 8 ≤ 9 by decide) passL (pa_cons (pv 2) (pa_cons (pe_cl c_joined hr (show 5 ≤ 9 by decide) passL (pa_cons (pv 3) (pa_cons (pv 4) pa_nil))) pa_nil))) (pe_cl c_joined hr (show 5 ≤ 9 by decide) passL (pa_cons (pe_cl c_step hr (show 8 ≤ 9 by decide) passL (pa_cons (pv 2) (pa_cons (pv 3) pa_nil))) (pa_cons (pe_cl c_step hr (show 8 ≤ 9 by decide) passL (pa_cons (pv 2) (pa_cons (pv 4) pa_nil))) pa_nil))) (nomark _))))) (pss_one (ps_ret pe_bl)) pss_nil)
      (pss_cons (ps_set (i := 6) sc_law.nd rfl (by first | exact Or.inl rfl | exact Or.inr rfl) (pe_callTy call_tuple_of (by rfl) m_tuple bt_tuple (pa_cons (pe_callB (cr_sortSet rfl) (by rfl) m_sorted bb_sorted (pa_cons (pe_callTy (cr_setTup rfl hr.units) (by rfl) m_set bt_set (pa_cons (pe_op op_addA (pv 3) (pe_callTy call_tuple_of (by rfl) m_tuple bt_tuple (pa_cons (pe_lc (own := [("cell", 7)]) rfl sc_law.nd (pi_tup (pv 4)) (blkOk_by (N := N_law) (sc := defScope s_law) (by decide +kernel)) (fun _ _ _ _ _ => (pg_name (i := 7) sc_law.nd rfl (by first | exact Or.inl rfl | exact Or.inr rfl))) (fun _ _ _ _ _ => (pts_one (pt_cmpR (show OpR _ (compareOp .NotIn) (rInD K true) from op_ninD hr.units) (pe_slice (show SlR _ (rSlAny K) from sl_any) (pv 7) po_none (po_some pe_int)) (show PE _ _ (tLc (iTup K _) _ _ _ [8]) from (pe_lc (own := [("other", 8)]) rfl sc_law.nd (pi_tup (pv 3)) (blkOk_in (N := N_law) (by decide +kernel)) (fun _ _ _ _ _ => (pg_name (i := 8) sc_law.nd rfl (by first | exact Or.inl rfl | exact Or.inr rfl))) (fun _ _ _ _ _ => pts_nil) (fun _ _ _ _ _ => (pe_slice (show SlR _ (rSlAny K) from sl_any) (pv 8) po_none (po_some pe_int))))) (by rfl)))) (fun _ _ _ _ _ => (pv 7))) pa_nil))) pa_nil)) pa_nil)) pa_nil)))
      (pss_cons (ps_set (i := 9) sc_law.nd rfl (by first | exact Or.inl rfl | exact Or.inr rfl) (pe_cl c_lots hr (show 7 ≤ 9 by decide) passL (pa_cons (pv 6) pa_nil)))
      (pss_cons (ps_if (pt_not (pt_val (pe_cl c__law_alike hr (show 6 ≤ 9 by decide) passL (pa_cons (pv 9) (pa_cons (pe_cl c__law_lots hr (show 2 ≤ 9 by decide) passL (pa_cons (pv 6) pa_nil)) pa_nil))) (fun _ => rfl))) (pss_one (ps_ret pe_bl)) pss_nil)
      (pss_cons (ps_for (passes_of rfl) rfl (pi_range1 (by rfl) m_range (pa_cons (pe_callB call_len (by rfl) m_len bb_len (pa_cons (pv 9) pa_nil)) pa_nil)) (pg_name (i := 10) sc_law.nd rfl (by first | exact Or.inl rfl | exact Or.inr rfl)) (pss_one (ps_for (passes_of rfl) rfl (pi_range1 (by rfl) m_range (pa_cons (pv 10) pa_nil)) (pg_name (i := 11) sc_law.nd rfl (by first | exact Or.inl rfl | exact Or.inr rfl)) (pss_one (ps_if (pt_val (pe_cl c_are_near hr (show 5 ≤ 9 by decide) passL (pa_cons (pe_ix ix_seq (pv 9) (pv 10) (fun _ _ => rfl)) (pa_cons (pe_ix ix_seq (pv 9) (pv 11) (fun _ _ => rfl)) pa_nil))) (fun _ => rfl)) (pss_one (ps_ret pe_bl)) pss_nil)))))
      (pss_cons (ps_set (i := 12) sc_law.nd rfl (by first | exact Or.inl rfl | exact Or.inr rfl) (pe_tup pa_nil))
      (pss_cons (ps_for (passes_of rfl) rfl (pi_tup (pv 9)) (pg_name (i := 13) sc_law.nd rfl (by first | exact Or.inl rfl | exact Or.inr rfl)) (pss_one (ps_set (i := 12) sc_law.nd rfl (by first | exact Or.inl rfl | exact Or.inr rfl) (pe_op op_addA (pv 12) (pv 13)))))
      (pss_one (ps_ret (pe_cmpR (op_eqA hr.units) (pe_callTy call_tuple_of (by rfl) m_tuple bt_tuple (pa_cons (pe_callB cr_sortC (by rfl) m_sorted bb_sorted (pa_cons (pv 12) pa_nil)) pa_nil)) (pv 6) (nomark _)))))))))))))))),
    fn_D h fun ds o hk hR => ?_⟩)
  try dsimp only [L2.cxOf]
  obtain ⟨ns, rfl, rfl⟩ := hR
  have hsz : (sizeLine : Nat) = 16777216 := sizeLine_eq
  let t0 : RowS := ⟨ns, 0, 10803, 0, by decide, by decide, by decide⟩
  walk_at "zq"
  refine zw_lstC ?_
  walk_at "zq"
  walk_at "zt"
  intro p
  walk_at "zq"
  refine ⟨p, _, _, _, _, rfl, m0, allD_nil, rfl, ⟨t0, rfl, rfl, fun r t1 hr2 => ⟨_, _, rfl, .here, ?_⟩⟩⟩
  walk_at "zq"
  refine ⟨p, _, _, _, _, rfl, m0, allD_cons (allD_cons (allD_cons allD_nil)), rfl, ⟨t1, 3, 4, r.n, rfl, rfl, by decide, by decide, hr2.n2, hr2.n6, fun b t2 hG1 => ⟨_, _, rfl, .here, ?_⟩⟩⟩
  walk_at "zq"
  have hl1 := hG1.len
  refine ⟨p, _, _, _, _, rfl, m0, allD_cons (allD_cons (allD_cons allD_nil)), rfl, ⟨t2, 4, 3, r.n, rfl, rfl, by decide, by decide, hr2.n2, hr2.n6, fun d0 t3 hG2 => ⟨_, _, rfl, .here, ?_⟩⟩⟩
  have hl2 := hG2.len
  walk_at "zq"
  refine ⟨p, _, _, _, _, rfl, m0, allD_cons allD_nil, rfl, ⟨t3, 7, rfl, rfl, by decide, by decide, fun x t4 hx0 hx1 => ⟨_, _, rfl, .here, ?_⟩⟩⟩
  walk_at "zq"
  refine ⟨p, _, _, _, _, rfl, m0, allD_cons allD_nil, rfl, ⟨t4, 7, rfl, rfl, by decide, by decide, fun y t5 hy0 hy1 => ⟨_, _, rfl, .here, ?_⟩⟩⟩
  obtain ⟨T, S1, U, S2⟩ := law_boards hr2.n6 hG1 hG2 (x := x) (y := y) ⟨hx0, hx1⟩ ⟨hy0, hy1⟩
  walk_at "zq"
  refine ⟨_, _, by walk_at "zd", rfl, ⟨d0, x, y, rfl, by omega, rfl⟩, ?_⟩
  walk_at "zq"
  have hl3 : (d0.map (Cell.mv x y)).length ≤ 12 := by rw [List.length_map]; omega
  have hl1 : b.length ≤ 12 := by omega
  generalize d0.map (Cell.mv x y) = d at T S1 U S2 hl3 ⊢
  clear hG1 hG2 hl2 t0 t1 t2 t3 t4 hx0 hx1 hy0 hy1
  refine ⟨_, allD_cons (allD_cons allD_nil), by rw [hsz]; exact Nat.le_of_ble_eq_true rfl, ?_⟩
  refine ⟨_, _, zg_tup rfl (zgs_cons (zgs_cons zgs_nil)), ?_⟩
  walk_at "zq"
  have hB1 := (Law.go hr2 S1).board (Nat.zero_le _) T
  have hB2 := (Law.go hr2 S2).board (Nat.zero_le _) U
  refine ⟨_, _, by walk_at "zd", rfl, ⟨b, d, rfl, by omega, by omega, rfl⟩, ?_⟩
  walk_at "zq"
  refine zw_lstD ?_
  walk_at "zq"
  refine ⟨_, _, by walk_at "zd", rfl, ⟨b, d, rfl, hB1, hB2, by omega, by omega, rfl⟩, ?_⟩
  walk_at "zq"
  refine ⟨_, .bool (nearB b d), by walk_at "zd", rfl, ⟨d, b, rfl, hB2, hB1, by omega, by omega, by rw [near_comm]⟩, ?_⟩
  walk_at "zq"
  walk_at "zt"
  walk_at "zq"
  refine zw_lstD ?_
  walk_at "zq"
  walk_at "zt"
  walk_at "zq"
  refine ⟨_, _, by walk_at "zd", rfl, ⟨_, rfl, rfl, rfl⟩, ?_⟩
  iterate 3 (first | walk_at "ze" | walk_at "z")
  refine zs_seq (zs_nx (N := fun S2 M2 => S2 = [some (.d (.list (ns.map .int))), some (.c p), some (.d r.d), some (.d (bD b)), some (.d (bD d)), some (.d (.bool (nearB b d))), none, none, none, none, none, none, none, none] ∧ M2 = [(p, true, .lst t5.d)]) ?_ ?_)
  · cases hN : nearB b d with
    | true =>
      walk_at "zq"
      exact ⟨rfl, rfl⟩
    | false =>
      obtain ⟨e, e2, b2, d2, f1, f2, f3, f4, f5, f6⟩ := apart_facts hr2 T U S1 S2 hN
      walk_at "zq"
      refine ⟨_, _, by walk_at "zd", rfl, f1, ?_⟩
      walk_at "zq"
      refine ⟨_, _, by walk_at "zd", rfl, f2, ?_⟩
      walk_at "zq"
      refine ⟨_, _, by walk_at "zd", rfl, f3, ?_⟩
      walk_at "zq"
      refine ⟨_, _, by walk_at "zd", rfl, f4, ?_⟩
      walk_at "zq"
      refine ⟨_, _, by walk_at "zd", rfl, f5, ?_⟩
      refine zo_neDD (shp_bD _) (shp_bD _) ?_
      rw [eqv_bDs, decide_eq_true rfl]
      walk_at "zq"
      exact ⟨rfl, rfl⟩
  rintro S2 M2 ⟨rfl, rfl⟩
  obtain ⟨e, ls, w1, w2, w3, w4, hBe, hle, hLt, hal, hLs, hln, hfl⟩ := whole_facts hr2 T U S1 S2 hl1 hl3
  clear T U S1 S2 hB1 hB2 hr2
  walk_at "zq"
  refine lcT_fm d Cell.d Cell.d (fun c => !(b.any (isAt c.x c.y))) ?_
  walk_at "zq"
  refine ⟨rfl, by omega, fun c hc => ⟨_, _, ?_, zg_name, fun D acc => ⟨?_, fun _ => ?_⟩⟩, ?_⟩
  · simp
  · walk_at "zq"
    refine lcT_map b Cell.d (fun e => pr e.x e.y) ?_
    walk_at "zq"
    refine ⟨rfl, by omega, fun e he => ⟨_, _, ?_, zg_name, fun D2 acc2 => ?_⟩, ?_⟩
    · simp
    · walk_at "zq"
      exact ⟨rfl, rfl⟩
    · refine zo_inD (plain_places b) rfl (show PyData.depth (pr c.x c.y) ≤ 60 by simp [PyData.depth, PyData.depthAll]) ?_
      exact ⟨_, rfl, congrArg Bool.not (any_places b c.x c.y), rfl⟩
  · walk_at "zq"
    exact ⟨rfl, rfl⟩
  have hrow : ∀ B : List Cell, (B.map Cell.r).map rowD = B.map Cell.d := fun B => by
    rw [List.map_map]
    rfl
  have hfd := List.length_filter_le (fun c : Cell => !(b.any (isAt c.x c.y))) d
  walk_at "zq"
  refine zc_tupL ?_
  refine za_t (xs := b.map Cell.d) (by rw [hsz, List.length_map, List.length_map]; omega) ?_
  walk_at "zq"
  refine ⟨(mixB b d).map Cell.r, ?_, w3, w1, w2, ?_⟩
  · rw [hrow, mixB, List.map_append]
  rw [w4, hrow]
  clear w1 w2 w3 w4 hfd
  walk_at "zq"
  refine zc_tupL ?_
  walk_at "zq"
  refine ⟨_, _, by walk_at "zd", rfl, ⟨e, ls, rfl, hBe, hLt, by omega, rfl⟩, ?_⟩
  walk_at "zq"
  refine ⟨_, _, by walk_at "zd", rfl, ⟨e, ls, rfl, by omega, hBe.up, hLt, rfl⟩, ?_⟩
  walk_at "zq"
  refine ⟨_, _, by walk_at "zd", rfl, ⟨_, rfl, hal, rfl⟩, ?_⟩
  walk_at "zq"
  refine ⟨by rw [List.length_map]; omega, by rw [List.length_map]; omega, fun i S2 M2 => ∃ c10 c11 : Option ZV, S2 = [some (.d (.list (ns.map .int))), some (.c p), some (.d r.d), some (.d (bD b)), some (.d (bD d)), some (.d (.bool (nearB b d))), some (.d (bD e)), none, none, some (.d (.tuple (ls.map bD))), c10, c11, none, none] ∧ M2 = [(p, true, .lst t5.d)], ⟨_, _, rfl, rfl⟩, ?_, ?_⟩
  · rintro i S2 M2 hi ⟨c10, c11, rfl, rfl⟩
    have hi : i < ls.length := by rw [List.length_map] at hi; omega
    have h1 := List.getElem?_eq_getElem hi
    refine ⟨_, _, zg_name, ?_⟩
    rw [Int.zero_add]
    walk_at "zq"
    refine ⟨by omega, by omega, fun j S2 M2 => ∃ c11 : Option ZV, S2 = [some (.d (.list (ns.map .int))), some (.c p), some (.d r.d), some (.d (bD b)), some (.d (bD d)), some (.d (.bool (nearB b d))), some (.d (bD e)), none, none, some (.d (.tuple (ls.map bD))), some (.d (.int (i : Int))), c11, none, none] ∧ M2 = [(p, true, .lst t5.d)], ⟨_, rfl, rfl⟩, ?_, ?_⟩
    · rintro j S2 M2 hj ⟨c11, rfl, rfl⟩
      have hj : j < i := by omega
      have h2 := List.getElem?_eq_getElem (show j < ls.length by omega)
      refine ⟨_, _, zg_name, ?_⟩
      rw [Int.zero_add]
      walk_at "zq"
      refine zo_ix (atI_nat (j := i) (by rw [List.getElem?_map, h1]; rfl)) ?_
      walk_at "zq"
      refine zo_ix (atI_nat (j := j) (by rw [List.getElem?_map, h2]; rfl)) ?_
      walk_at "zq"
      have q1 := hLs _ (List.getElem_mem hi)
      have q2 := hLs _ (List.mem_of_getElem? h2)
      refine ⟨_, _, by walk_at "zd", rfl, ⟨ls[i], ls[j], rfl, q1.1, q2.1, by omega, by omega, rfl⟩, ?_⟩
      rw [lots_apart hBe.up hLt (show i ≠ j by omega) h1 h2]
      walk_at "zq"
      first | rfl | exact ⟨_, rfl, rfl⟩
    · rintro S2 M2 ⟨c11, rfl, rfl⟩
      exact ⟨_, _, rfl, rfl⟩
  rintro S2 M2 ⟨c10, c11, rfl, rfl⟩
  walk_at "zq"
  walk_at "zt"
  walk_at "zq"
  refine ⟨fun i S2 M2 => ∃ c13 : Option ZV, S2 = [some (.d (.list (ns.map .int))), some (.c p), some (.d r.d), some (.d (bD b)), some (.d (bD d)), some (.d (.bool (nearB b d))), some (.d (bD e)), none, none, some (.d (.tuple (ls.map bD))), c10, c11, some (.d (bD (ls.take i).flatten)), c13] ∧ M2 = [(p, true, .lst t5.d)], ⟨_, rfl, rfl⟩, ?_, ?_⟩
  · rintro i x S2 M2 hx ⟨c13, rfl, rfl⟩
    rw [List.getElem?_map] at hx
    obtain ⟨L, hL, rfl⟩ := Option.map_eq_some_iff.mp hx
    have q1 := (hLs L (List.mem_of_getElem? hL)).2
    have q2 := congrArg (fun l => l.flatten.length) (List.take_append_drop i ls)
    rw [List.flatten_append, List.length_append] at q2
    refine ⟨_, _, zg_name, ?_⟩
    walk_at "zq"
    refine za_t (xs := (ls.take i).flatten.map Cell.d) (ys := L.map Cell.d) (by rw [hsz, List.length_map, List.length_map]; omega) ?_
    rw [← List.map_append, show (ls.take i).flatten ++ L = (ls.take (i + 1)).flatten by rw [List.take_add_one, hL, List.flatten_append]; simp]
    exact ⟨_, rfl, rfl⟩
  rintro S2 M2 ⟨c13, rfl, rfl⟩
  rw [List.length_map, List.take_length]
  walk_at "zq"
  rw [show bD ls.flatten = .tuple ((ls.flatten.map Cell.r).map rowD) by rw [hrow]]
  refine zc_sortT (fun x hx => by obtain ⟨c, _, rfl⟩ := List.mem_map.mp hx; exact List.cons_ne_nil _ _) ?_
  rw [lots_whole hBe.up hLt, hrow e]
  walk_at "zq"
  refine zc_tupL ?_
  walk_at "zq"
  refine zo_eqDD (shp_bD _) (shp_bD _) ?_
  rw [eqv_bDs, decide_eq_true rfl]
  exact ⟨_, rfl, rfl⟩
end K03
namespace K03
open PySem PySem.Spec PyProof.Rows L2 Z
end K03
namespace K03
open PySem PySem.Spec PyProof.Rows L2 Z
theorem all_mk {l : PySem.W.OpenLaw} {w : World} {K : Fg} {h : Heap} {mg : Str → Option Value} {fa C_BitFloor C_CellFloor C_LotTaker C_Run C_BadBoard C_Clash fI_BadBoard f_is_between f_is_move f_is_cell f_check_board f_states_by_place f_corners f_are_counts f_is_rule f_check_rule f_sum_of_three f_counts f_with_counts f_bits f_with_margin f_suits_bits f_BitFloor_init f_BitFloor_advance f_BitFloor_size f_BitFloor_board f_CellFloor_init f_places_around f_CellFloor_living_around f_CellFloor_advance f_CellFloor_size f_CellFloor_board f_floor_of f_Run_init f_Run_advance f_Run_board f_board_after f_step f_LotTaker_number f_LotTaker_init f_LotTaker_has f_LotTaker_take f_few_lots f_lots_of f_lots f_places_near f_are_near f_joined f_law_alike f_law_moved f_law_taken f_law_signed f_law_pick f_law_cells f_law_some_rule f_law_are_near f_law_lots f_law : Addr} (X : K.In h) (G : h.Ns mainGlobals mg) (hfa : mg "law" = some (.ref fa))
    {t_FAR : Tok}
    {t_SPARE : Tok}
    {t_BITS_AT_LEAST : Tok}
    {t_BITS_FOR_A_CELL : Tok}
    {t_MOST_CELLS : Tok}
    {nm_BadBoard q_BadBoard_ : Str} {N_BadBoard : Addr} {bs_BadBoard bm_BadBoard : List Value} {sn_BadBoard : List Str} {sub_BadBoard : List Value} {ab_BadBoard : Bool} {col_BadBoard : Option Bool} {dd_BadBoard : Option Addr} {m0_BadBoard m1_BadBoard m2_BadBoard m3_BadBoard m5_BadBoard : Option Value}
    {oc_BadBoard doc_BadBoard pm_BadBoard ct_BadBoard : Value} {od_BadBoard an_BadBoard : Option Addr} {cda_BadBoard cc_BadBoard : Addr} {osl_BadBoard : Array (Option Value)} {p1_BadBoard p2_BadBoard ya_BadBoard yb_BadBoard yc_BadBoard yd_BadBoard ye_BadBoard yg_BadBoard yh_BadBoard yi_BadBoard yk_BadBoard yl_BadBoard ym_BadBoard yn_BadBoard yo_BadBoard : Pos} {j_BadBoard : Nat}
    {ccl_BadBoard : Value} {cdd_BadBoard : Option Addr} {vs_BadBoard : Array Value} {ccs_BadBoard csl_BadBoard : Array (Option Value)} {cl_BadBoard : Value} {cld_BadBoard : Option Addr} {file_BadBoard : Str} {tf_BadBoard : Tok}
    {od_is_between an_is_between : Option Addr} {sl_is_between : Array (Option Value)} {oc_is_between kV_is_between dc_is_between pm_is_between cd_is_between ct_is_between : Value}
    {od_is_move an_is_move : Option Addr} {sl_is_move : Array (Option Value)} {oc_is_move kV_is_move dc_is_move pm_is_move cd_is_move ct_is_move : Value}
    {od_is_cell an_is_cell : Option Addr} {sl_is_cell : Array (Option Value)} {oc_is_cell kV_is_cell dc_is_cell pm_is_cell cd_is_cell ct_is_cell : Value}
    {od_check_board an_check_board : Option Addr} {sl_check_board : Array (Option Value)} {oc_check_board kV_check_board dc_check_board pm_check_board cd_check_board ct_check_board : Value}
    {od_states_by_place an_states_by_place : Option Addr} {sl_states_by_place : Array (Option Value)} {oc_states_by_place kV_states_by_place dc_states_by_place pm_states_by_place cd_states_by_place ct_states_by_place : Value}
    {od_corners an_corners : Option Addr} {sl_corners : Array (Option Value)} {oc_corners kV_corners dc_corners pm_corners cd_corners ct_corners : Value}
    {od_are_counts an_are_counts : Option Addr} {sl_are_counts : Array (Option Value)} {oc_are_counts kV_are_counts dc_are_counts pm_are_counts cd_are_counts ct_are_counts : Value}
    {od_is_rule an_is_rule : Option Addr} {sl_is_rule : Array (Option Value)} {oc_is_rule kV_is_rule dc_is_rule pm_is_rule cd_is_rule ct_is_rule : Value}
    {od_check_rule an_check_rule : Option Addr} {sl_check_rule : Array (Option Value)} {oc_check_rule kV_check_rule dc_check_rule pm_check_rule cd_check_rule ct_check_rule : Value}
    {od_sum_of_three an_sum_of_three : Option Addr} {sl_sum_of_three : Array (Option Value)} {oc_sum_of_three kV_sum_of_three dc_sum_of_three pm_sum_of_three cd_sum_of_three ct_sum_of_three : Value}
    {od_counts an_counts : Option Addr} {sl_counts : Array (Option Value)} {oc_counts kV_counts dc_counts pm_counts cd_counts ct_counts : Value}
    {od_with_counts an_with_counts : Option Addr} {sl_with_counts : Array (Option Value)} {oc_with_counts kV_with_counts dc_with_counts pm_with_counts cd_with_counts ct_with_counts : Value}
    {od_bits an_bits : Option Addr} {sl_bits : Array (Option Value)} {oc_bits kV_bits dc_bits pm_bits cd_bits ct_bits : Value}
    {od_with_margin an_with_margin : Option Addr} {sl_with_margin : Array (Option Value)} {oc_with_margin kV_with_margin dc_with_margin pm_with_margin cd_with_margin ct_with_margin : Value}
    {od_suits_bits an_suits_bits : Option Addr} {sl_suits_bits : Array (Option Value)} {oc_suits_bits kV_suits_bits dc_suits_bits pm_suits_bits cd_suits_bits ct_suits_bits : Value}
    {od_BitFloor_init an_BitFloor_init : Option Addr} {sl_BitFloor_init : Array (Option Value)} {oc_BitFloor_init kV_BitFloor_init dc_BitFloor_init pm_BitFloor_init cd_BitFloor_init ct_BitFloor_init : Value}
    {od_BitFloor_advance an_BitFloor_advance : Option Addr} {sl_BitFloor_advance : Array (Option Value)} {oc_BitFloor_advance kV_BitFloor_advance dc_BitFloor_advance pm_BitFloor_advance cd_BitFloor_advance ct_BitFloor_advance : Value}
    {od_BitFloor_size an_BitFloor_size : Option Addr} {sl_BitFloor_size : Array (Option Value)} {oc_BitFloor_size kV_BitFloor_size dc_BitFloor_size pm_BitFloor_size cd_BitFloor_size ct_BitFloor_size : Value}
    {od_BitFloor_board an_BitFloor_board : Option Addr} {sl_BitFloor_board : Array (Option Value)} {oc_BitFloor_board kV_BitFloor_board dc_BitFloor_board pm_BitFloor_board cd_BitFloor_board ct_BitFloor_board : Value}
    {od_CellFloor_init an_CellFloor_init : Option Addr} {sl_CellFloor_init : Array (Option Value)} {oc_CellFloor_init kV_CellFloor_init dc_CellFloor_init pm_CellFloor_init cd_CellFloor_init ct_CellFloor_init : Value}
    {od_places_around an_places_around : Option Addr} {sl_places_around : Array (Option Value)} {oc_places_around kV_places_around dc_places_around pm_places_around cd_places_around ct_places_around : Value}
    {od_CellFloor_living_around an_CellFloor_living_around : Option Addr} {sl_CellFloor_living_around : Array (Option Value)} {oc_CellFloor_living_around kV_CellFloor_living_around dc_CellFloor_living_around pm_CellFloor_living_around cd_CellFloor_living_around ct_CellFloor_living_around : Value}
    {od_CellFloor_advance an_CellFloor_advance : Option Addr} {sl_CellFloor_advance : Array (Option Value)} {oc_CellFloor_advance kV_CellFloor_advance dc_CellFloor_advance pm_CellFloor_advance cd_CellFloor_advance ct_CellFloor_advance : Value}
    {od_CellFloor_size an_CellFloor_size : Option Addr} {sl_CellFloor_size : Array (Option Value)} {oc_CellFloor_size kV_CellFloor_size dc_CellFloor_size pm_CellFloor_size cd_CellFloor_size ct_CellFloor_size : Value}
    {od_CellFloor_board an_CellFloor_board : Option Addr} {sl_CellFloor_board : Array (Option Value)} {oc_CellFloor_board kV_CellFloor_board dc_CellFloor_board pm_CellFloor_board cd_CellFloor_board ct_CellFloor_board : Value}
    {od_floor_of an_floor_of : Option Addr} {sl_floor_of : Array (Option Value)} {oc_floor_of kV_floor_of dc_floor_of pm_floor_of cd_floor_of ct_floor_of : Value}
    {od_Run_init an_Run_init : Option Addr} {sl_Run_init : Array (Option Value)} {oc_Run_init kV_Run_init dc_Run_init pm_Run_init cd_Run_init ct_Run_init : Value}
    {od_Run_advance an_Run_advance : Option Addr} {sl_Run_advance : Array (Option Value)} {oc_Run_advance kV_Run_advance dc_Run_advance pm_Run_advance cd_Run_advance ct_Run_advance : Value}
    {od_Run_board an_Run_board : Option Addr} {sl_Run_board : Array (Option Value)} {oc_Run_board kV_Run_board dc_Run_board pm_Run_board cd_Run_board ct_Run_board : Value}
    {od_board_after an_board_after : Option Addr} {sl_board_after : Array (Option Value)} {oc_board_after kV_board_after dc_board_after pm_board_after cd_board_after ct_board_after : Value}
    {od_step an_step : Option Addr} {sl_step : Array (Option Value)} {oc_step kV_step dc_step pm_step cd_step ct_step : Value}
    {od_LotTaker_number an_LotTaker_number : Option Addr} {sl_LotTaker_number : Array (Option Value)} {oc_LotTaker_number kV_LotTaker_number dc_LotTaker_number pm_LotTaker_number cd_LotTaker_number ct_LotTaker_number : Value}
    {od_LotTaker_init an_LotTaker_init : Option Addr} {sl_LotTaker_init : Array (Option Value)} {oc_LotTaker_init kV_LotTaker_init dc_LotTaker_init pm_LotTaker_init cd_LotTaker_init ct_LotTaker_init : Value}
    {od_LotTaker_has an_LotTaker_has : Option Addr} {sl_LotTaker_has : Array (Option Value)} {oc_LotTaker_has kV_LotTaker_has dc_LotTaker_has pm_LotTaker_has cd_LotTaker_has ct_LotTaker_has : Value}
    {od_LotTaker_take an_LotTaker_take : Option Addr} {sl_LotTaker_take : Array (Option Value)} {oc_LotTaker_take kV_LotTaker_take dc_LotTaker_take pm_LotTaker_take cd_LotTaker_take ct_LotTaker_take : Value}
    {od_few_lots an_few_lots : Option Addr} {sl_few_lots : Array (Option Value)} {oc_few_lots kV_few_lots dc_few_lots pm_few_lots cd_few_lots ct_few_lots : Value}
    {od_lots_of an_lots_of : Option Addr} {sl_lots_of : Array (Option Value)} {oc_lots_of kV_lots_of dc_lots_of pm_lots_of cd_lots_of ct_lots_of : Value}
    {od_lots an_lots : Option Addr} {sl_lots : Array (Option Value)} {oc_lots kV_lots dc_lots pm_lots cd_lots ct_lots : Value}
    {od_places_near an_places_near : Option Addr} {sl_places_near : Array (Option Value)} {oc_places_near kV_places_near dc_places_near pm_places_near cd_places_near ct_places_near : Value}
    {od_are_near an_are_near : Option Addr} {sl_are_near : Array (Option Value)} {oc_are_near kV_are_near dc_are_near pm_are_near cd_are_near ct_are_near : Value}
    {od_joined an_joined : Option Addr} {sl_joined : Array (Option Value)} {oc_joined kV_joined dc_joined pm_joined cd_joined ct_joined : Value}
    {od_law_alike an_law_alike : Option Addr} {sl_law_alike : Array (Option Value)} {oc_law_alike kV_law_alike dc_law_alike pm_law_alike cd_law_alike ct_law_alike : Value}
    {od_law_moved an_law_moved : Option Addr} {sl_law_moved : Array (Option Value)} {oc_law_moved kV_law_moved dc_law_moved pm_law_moved cd_law_moved ct_law_moved : Value}
    {od_law_taken an_law_taken : Option Addr} {sl_law_taken : Array (Option Value)} {oc_law_taken kV_law_taken dc_law_taken pm_law_taken cd_law_taken ct_law_taken : Value}
    {od_law_signed an_law_signed : Option Addr} {sl_law_signed : Array (Option Value)} {oc_law_signed kV_law_signed dc_law_signed pm_law_signed cd_law_signed ct_law_signed : Value}
    {od_law_pick an_law_pick : Option Addr} {sl_law_pick : Array (Option Value)} {oc_law_pick kV_law_pick dc_law_pick pm_law_pick cd_law_pick ct_law_pick : Value}
    {od_law_cells an_law_cells : Option Addr} {sl_law_cells : Array (Option Value)} {oc_law_cells kV_law_cells dc_law_cells pm_law_cells cd_law_cells ct_law_cells : Value}
    {od_law_some_rule an_law_some_rule : Option Addr} {sl_law_some_rule : Array (Option Value)} {oc_law_some_rule kV_law_some_rule dc_law_some_rule pm_law_some_rule cd_law_some_rule ct_law_some_rule : Value}
    {od_law_are_near an_law_are_near : Option Addr} {sl_law_are_near : Array (Option Value)} {oc_law_are_near kV_law_are_near dc_law_are_near pm_law_are_near cd_law_are_near ct_law_are_near : Value}
    {od_law_lots an_law_lots : Option Addr} {sl_law_lots : Array (Option Value)} {oc_law_lots kV_law_lots dc_law_lots pm_law_lots cd_law_lots ct_law_lots : Value}
    {od_law an_law : Option Addr} {sl_law : Array (Option Value)} {oc_law kV_law dc_law pm_law cd_law ct_law : Value}
    (a_BitFloor : PySem.W.nsIn K mainGlobals "BitFloor" = some (some (.ref C_BitFloor)))
    (pg_BitFloor : PySem.W.plainGet K C_BitFloor Str.empty = true)
    (hd_BitFloor : PySem.W.hasDictIn K C_BitFloor = true)
    (po_BitFloor : PySem.W.plainOver K C_BitFloor = true)
    (sa_BitFloor : PySem.W.findIn K (.ref C_BitFloor) "__setattr__" = some (some (.builtin "object.__setattr__")))
    (mk_BitFloor : PySem.W.makesIn K C_BitFloor = true)
    (kc_BitFloor : PySem.W.keepIn K (.ref C_BitFloor) = true)
    (a_CellFloor : PySem.W.nsIn K mainGlobals "CellFloor" = some (some (.ref C_CellFloor)))
    (pg_CellFloor : PySem.W.plainGet K C_CellFloor Str.empty = true)
    (hd_CellFloor : PySem.W.hasDictIn K C_CellFloor = true)
    (po_CellFloor : PySem.W.plainOver K C_CellFloor = true)
    (sa_CellFloor : PySem.W.findIn K (.ref C_CellFloor) "__setattr__" = some (some (.builtin "object.__setattr__")))
    (mk_CellFloor : PySem.W.makesIn K C_CellFloor = true)
    (kc_CellFloor : PySem.W.keepIn K (.ref C_CellFloor) = true)
    (a_LotTaker : PySem.W.nsIn K mainGlobals "LotTaker" = some (some (.ref C_LotTaker)))
    (pg_LotTaker : PySem.W.plainGet K C_LotTaker Str.empty = true)
    (hd_LotTaker : PySem.W.hasDictIn K C_LotTaker = true)
    (po_LotTaker : PySem.W.plainOver K C_LotTaker = true)
    (sa_LotTaker : PySem.W.findIn K (.ref C_LotTaker) "__setattr__" = some (some (.builtin "object.__setattr__")))
    (mk_LotTaker : PySem.W.makesIn K C_LotTaker = true)
    (kc_LotTaker : PySem.W.keepIn K (.ref C_LotTaker) = true)
    (a_Run : PySem.W.nsIn K mainGlobals "Run" = some (some (.ref C_Run)))
    (pg_Run : PySem.W.plainGet K C_Run Str.empty = true)
    (hd_Run : PySem.W.hasDictIn K C_Run = true)
    (po_Run : PySem.W.plainOver K C_Run = true)
    (sa_Run : PySem.W.findIn K (.ref C_Run) "__setattr__" = some (some (.builtin "object.__setattr__")))
    (mk_Run : PySem.W.makesIn K C_Run = true)
    (kc_Run : PySem.W.keepIn K (.ref C_Run) = true)
    (z_isinstance : PySem.W.nsIn K mainGlobals "isinstance" = some none)
    (z_int : PySem.W.nsIn K mainGlobals "int" = some none)
    (z_bool : PySem.W.nsIn K mainGlobals "bool" = some none)
    (z_len : PySem.W.nsIn K mainGlobals "len" = some none)
    (z_tuple : PySem.W.nsIn K mainGlobals "tuple" = some none)
    (z_FAR : PySem.W.nsIn K mainGlobals "FAR" = some (some (.int 1000000000000000000000000000000000000000000000000000000000000 t_FAR)))
    (z_enumerate : PySem.W.nsIn K mainGlobals "enumerate" = some none)
    (z_max : PySem.W.nsIn K mainGlobals "max" = some none)
    (z_min : PySem.W.nsIn K mainGlobals "min" = some none)
    (z_SPARE : PySem.W.nsIn K mainGlobals "SPARE" = some (some (.int 12 t_SPARE)))
    (z_BITS_AT_LEAST : PySem.W.nsIn K mainGlobals "BITS_AT_LEAST" = some (some (.int 5000 t_BITS_AT_LEAST)))
    (z_BITS_FOR_A_CELL : PySem.W.nsIn K mainGlobals "BITS_FOR_A_CELL" = some (some (.int 1000 t_BITS_FOR_A_CELL)))
    (na_BitFloor_births : PySem.W.findIn K (.ref C_BitFloor) "births" = some none)
    (na_BitFloor_stays : PySem.W.findIn K (.ref C_BitFloor) "stays" = some none)
    (na_BitFloor_states : PySem.W.findIn K (.ref C_BitFloor) "states" = some none)
    (na_BitFloor_top : PySem.W.findIn K (.ref C_BitFloor) "top" = some none)
    (na_BitFloor_left : PySem.W.findIn K (.ref C_BitFloor) "left" = some none)
    (na_BitFloor_high : PySem.W.findIn K (.ref C_BitFloor) "high" = some none)
    (na_BitFloor_whole : PySem.W.findIn K (.ref C_BitFloor) "whole" = some none)
    (na_BitFloor_planes : PySem.W.findIn K (.ref C_BitFloor) "planes" = some none)
    (z_sum : PySem.W.nsIn K mainGlobals "sum" = some none)
    (z_divmod : PySem.W.nsIn K mainGlobals "divmod" = some none)
    (z_sorted : PySem.W.nsIn K mainGlobals "sorted" = some none)
    (na_CellFloor_states : PySem.W.findIn K (.ref C_CellFloor) "states" = some none)
    (na_CellFloor_stays : PySem.W.findIn K (.ref C_CellFloor) "stays" = some none)
    (na_CellFloor_births : PySem.W.findIn K (.ref C_CellFloor) "births" = some none)
    (na_CellFloor_cells : PySem.W.findIn K (.ref C_CellFloor) "cells" = some none)
    (na_Run_rule : PySem.W.findIn K (.ref C_Run) "rule" = some none)
    (na_Run_floor : PySem.W.findIn K (.ref C_Run) "floor" = some none)
    (na_Run_spare : PySem.W.findIn K (.ref C_Run) "spare" = some none)
    (na_Run_many : PySem.W.findIn K (.ref C_Run) "many" = some none)
    (z_MOST_CELLS : PySem.W.nsIn K mainGlobals "MOST_CELLS" = some (some (.int 3000 t_MOST_CELLS)))
    (z_range : PySem.W.nsIn K mainGlobals "range" = some none)
    (na_LotTaker_high : PySem.W.findIn K (.ref C_LotTaker) "high" = some none)
    (na_LotTaker_steps : PySem.W.findIn K (.ref C_LotTaker) "steps" = some none)
    (na_LotTaker_left : PySem.W.findIn K (.ref C_LotTaker) "left" = some none)
    (z_any : PySem.W.nsIn K mainGlobals "any" = some none)
    (z_list : PySem.W.nsIn K mainGlobals "list" = some none)
    (z_str : PySem.W.nsIn K mainGlobals "str" = some none)
    (z_dict : PySem.W.nsIn K mainGlobals "dict" = some none)
    (z_set : PySem.W.nsIn K mainGlobals "set" = some none)
    (a_BadBoard : PySem.W.nsIn K mainGlobals "BadBoard" = some (some (.ref C_BadBoard)))
    (kC_BadBoard : PySem.W.keepIn K (.ref C_BadBoard) = true)
    (exC_BadBoard : PySem.W.subIn K (.ref C_BadBoard) (.type "BaseException") = some true)
    (tyC_BadBoard : PySem.W.typeIn K (.ref C_BadBoard) = some (.type "type"))
    (hdC_BadBoard : PySem.W.hasDictIn K C_BadBoard = true)
    (a_Clash : PySem.W.nsIn K mainGlobals "Clash" = some (some (.ref C_Clash)))
    (kC_Clash : PySem.W.keepIn K (.ref C_Clash) = true)
    (exC_Clash : PySem.W.subIn K (.ref C_Clash) (.type "BaseException") = some true)
    (tyC_Clash : PySem.W.typeIn K (.ref C_Clash) = some (.type "type"))
    (hdC_Clash : PySem.W.hasDictIn K C_Clash = true)
    (q_BadBoard : PySem.W.excInitIn K C_BadBoard [.type "ValueError", .type "Exception", .type "BaseException", .type "object"] "ValueError.__new__" = true)
    (cls_BadBoard : K.lookup C_BadBoard = some (excClassObj nm_BadBoard q_BadBoard_ C_BadBoard N_BadBoard bs_BadBoard bm_BadBoard true sn_BadBoard sub_BadBoard ab_BadBoard col_BadBoard dd_BadBoard m0_BadBoard m1_BadBoard m2_BadBoard m3_BadBoard m5_BadBoard "ValueError.__new__"))
    (bm_BadBoard : PySem.HandSPX.refsVE bm_BadBoard = true)
    (sa_BadBoard : PySem.W.findIn K (.ref C_BadBoard) "__setattr__" = some (some (.builtin "object.__setattr__")))
    (noN_BadBoard : PySem.W.findIn K (.ref C_BadBoard) "index" = some none)
    (iC_BadBoard : PySem.W.findIn K (.ref C_BadBoard) "__init__" = some (some (.ref fI_BadBoard)))
    (tC_BadBoard : PySem.W.typeIn K (.ref fI_BadBoard) = some (.type "function"))
    (veC_BadBoard : PySem.W.subIn K (.ref C_BadBoard) (.type "ValueError") = some true)
    (ms_BadBoard : PySem.W.mroIn K C_BadBoard (.ref C_BadBoard) = some true)
    (si_BadBoard : PySem.W.ks_superIn K C_BadBoard C_BadBoard "__init__" = some (some (.builtin "ValueError.__init__")))
    (op_super : PySem.W.nsIn K cStatics "thirdparty.any" = some none)
    (su_super : PySem.W.nsIn K mainGlobals "super" = some none)
    (l_BadBoard : K.lookup fI_BadBoard = some ⟨oc_BadBoard, od_BadBoard, .func (PySem.W.ksFn "__init__" "BadBoard.__init__" (PySem.SupX.sA "index" p1_BadBoard p2_BadBoard) (PySem.SupX.sB "index" "not a board, first wrong item: " j_BadBoard ⟨ya_BadBoard, yb_BadBoard, yc_BadBoard, yd_BadBoard, ye_BadBoard, yg_BadBoard, yh_BadBoard, yi_BadBoard, yk_BadBoard, yl_BadBoard, ym_BadBoard, yn_BadBoard, yo_BadBoard⟩) (PySem.SupX.sS "index") .none .none doc_BadBoard pm_BadBoard an_BadBoard (.ref cda_BadBoard) ct_BadBoard cc_BadBoard), osl_BadBoard⟩)
    (c_BadBoard : PySem.W.codeIn K (.ref cda_BadBoard) "BadBoard.__init__" = true)
    (cf_BadBoard : K.lookup cda_BadBoard = some ⟨ccl_BadBoard, cdd_BadBoard, .fields vs_BadBoard, ccs_BadBoard⟩)
    (vf_BadBoard : vs_BadBoard[2]? = some (.str file_BadBoard tf_BadBoard))
    (fe_BadBoard : ((l.prog.main.file : Str) == file_BadBoard) = true)
    (cc_BadBoard_ : K.lookup cc_BadBoard = some ⟨cl_BadBoard, cld_BadBoard, .cell (some (.ref C_BadBoard)), csl_BadBoard⟩)
    (ev_BadBoard : PySem.SupX.EvOk "index" "not a board, first wrong item: " j_BadBoard ⟨ya_BadBoard, yb_BadBoard, yc_BadBoard, yd_BadBoard, ye_BadBoard, yg_BadBoard, yh_BadBoard, yi_BadBoard, yk_BadBoard, yl_BadBoard, ym_BadBoard, yn_BadBoard, yo_BadBoard⟩)
    (tp_BadBoard : (l.prog.main.scope.names.lookup ("super" : Str)).isSome = false)
    (x_Clash : PySem.W.excIn K C_Clash [Value.type "ValueError", Value.type "Exception", Value.type "BaseException", Value.type "object"] "ValueError.__new__" = true)
    (sxB : PySem.W.subIn K (.ref C_BadBoard) (.ref C_BadBoard) = some true)
    (gaB : PySem.W.findIn K (.ref C_BadBoard) "__getattribute__" = some (some (.builtin "BaseException.__getattribute__")))
    (gtB : PySem.W.findIn K (.ref C_BadBoard) "__getattr__" = some none)
    (caB : PySem.W.findIn K (.ref C_BadBoard) "__class__" = some (some (.builtin "object.__class__")))
    (cmB : PySem.W.mroIn K C_BadBoard (.type "object") = some true)
    (cn1 : PySem.W.specialIn K (.builtin "object.__class__") "__get__" = some (some (.builtin "getset_descriptor.__get__")))
    (ct1 : PySem.W.takesIn K (.builtin "object.__class__") = some true)
    (a_is_between : PySem.W.nsIn K mainGlobals "is_between" = some (some (.ref f_is_between)))
    (l_is_between : K.lookup f_is_between = some ⟨oc_is_between, od_is_between, .func (PySem.W.fnOf "is_between" "is_between" (defArgs s_is_between) (defBody s_is_between) (defScope s_is_between) .none kV_is_between dc_is_between pm_is_between an_is_between cd_is_between ct_is_between), sl_is_between⟩)
    (c_is_between : PySem.W.codeIn K cd_is_between "is_between" = true)
    (k_is_between : PySem.W.keepIn K (.ref f_is_between) = true)
    (a_is_move : PySem.W.nsIn K mainGlobals "is_move" = some (some (.ref f_is_move)))
    (l_is_move : K.lookup f_is_move = some ⟨oc_is_move, od_is_move, .func (PySem.W.fnOf "is_move" "is_move" (defArgs s_is_move) (defBody s_is_move) (defScope s_is_move) .none kV_is_move dc_is_move pm_is_move an_is_move cd_is_move ct_is_move), sl_is_move⟩)
    (c_is_move : PySem.W.codeIn K cd_is_move "is_move" = true)
    (k_is_move : PySem.W.keepIn K (.ref f_is_move) = true)
    (a_is_cell : PySem.W.nsIn K mainGlobals "_is_cell" = some (some (.ref f_is_cell)))
    (l_is_cell : K.lookup f_is_cell = some ⟨oc_is_cell, od_is_cell, .func (PySem.W.fnOf "_is_cell" "_is_cell" (defArgs s_is_cell) (defBody s_is_cell) (defScope s_is_cell) .none kV_is_cell dc_is_cell pm_is_cell an_is_cell cd_is_cell ct_is_cell), sl_is_cell⟩)
    (c_is_cell : PySem.W.codeIn K cd_is_cell "_is_cell" = true)
    (k_is_cell : PySem.W.keepIn K (.ref f_is_cell) = true)
    (a_check_board : PySem.W.nsIn K mainGlobals "check_board" = some (some (.ref f_check_board)))
    (l_check_board : K.lookup f_check_board = some ⟨oc_check_board, od_check_board, .func (PySem.W.fnOf "check_board" "check_board" (defArgs s_check_board) (defBody s_check_board) (defScope s_check_board) .none kV_check_board dc_check_board pm_check_board an_check_board cd_check_board ct_check_board), sl_check_board⟩)
    (c_check_board : PySem.W.codeIn K cd_check_board "check_board" = true)
    (k_check_board : PySem.W.keepIn K (.ref f_check_board) = true)
    (a_states_by_place : PySem.W.nsIn K mainGlobals "states_by_place" = some (some (.ref f_states_by_place)))
    (l_states_by_place : K.lookup f_states_by_place = some ⟨oc_states_by_place, od_states_by_place, .func (PySem.W.fnOf "states_by_place" "states_by_place" (defArgs s_states_by_place) (defBody s_states_by_place) (defScope s_states_by_place) .none kV_states_by_place dc_states_by_place pm_states_by_place an_states_by_place cd_states_by_place ct_states_by_place), sl_states_by_place⟩)
    (c_states_by_place : PySem.W.codeIn K cd_states_by_place "states_by_place" = true)
    (k_states_by_place : PySem.W.keepIn K (.ref f_states_by_place) = true)
    (a_corners : PySem.W.nsIn K mainGlobals "corners" = some (some (.ref f_corners)))
    (l_corners : K.lookup f_corners = some ⟨oc_corners, od_corners, .func (PySem.W.fnOf "corners" "corners" (defArgs s_corners) (defBody s_corners) (defScope s_corners) .none kV_corners dc_corners pm_corners an_corners cd_corners ct_corners), sl_corners⟩)
    (c_corners : PySem.W.codeIn K cd_corners "corners" = true)
    (k_corners : PySem.W.keepIn K (.ref f_corners) = true)
    (a_are_counts : PySem.W.nsIn K mainGlobals "_are_counts" = some (some (.ref f_are_counts)))
    (l_are_counts : K.lookup f_are_counts = some ⟨oc_are_counts, od_are_counts, .func (PySem.W.fnOf "_are_counts" "_are_counts" (defArgs s_are_counts) (defBody s_are_counts) (defScope s_are_counts) .none kV_are_counts dc_are_counts pm_are_counts an_are_counts cd_are_counts ct_are_counts), sl_are_counts⟩)
    (c_are_counts : PySem.W.codeIn K cd_are_counts "_are_counts" = true)
    (k_are_counts : PySem.W.keepIn K (.ref f_are_counts) = true)
    (a_is_rule : PySem.W.nsIn K mainGlobals "_is_rule" = some (some (.ref f_is_rule)))
    (l_is_rule : K.lookup f_is_rule = some ⟨oc_is_rule, od_is_rule, .func (PySem.W.fnOf "_is_rule" "_is_rule" (defArgs s_is_rule) (defBody s_is_rule) (defScope s_is_rule) .none kV_is_rule dc_is_rule pm_is_rule an_is_rule cd_is_rule ct_is_rule), sl_is_rule⟩)
    (c_is_rule : PySem.W.codeIn K cd_is_rule "_is_rule" = true)
    (k_is_rule : PySem.W.keepIn K (.ref f_is_rule) = true)
    (a_check_rule : PySem.W.nsIn K mainGlobals "check_rule" = some (some (.ref f_check_rule)))
    (l_check_rule : K.lookup f_check_rule = some ⟨oc_check_rule, od_check_rule, .func (PySem.W.fnOf "check_rule" "check_rule" (defArgs s_check_rule) (defBody s_check_rule) (defScope s_check_rule) .none kV_check_rule dc_check_rule pm_check_rule an_check_rule cd_check_rule ct_check_rule), sl_check_rule⟩)
    (c_check_rule : PySem.W.codeIn K cd_check_rule "check_rule" = true)
    (k_check_rule : PySem.W.keepIn K (.ref f_check_rule) = true)
    (a_sum_of_three : PySem.W.nsIn K mainGlobals "_sum_of_three" = some (some (.ref f_sum_of_three)))
    (l_sum_of_three : K.lookup f_sum_of_three = some ⟨oc_sum_of_three, od_sum_of_three, .func (PySem.W.fnOf "_sum_of_three" "_sum_of_three" (defArgs s_sum_of_three) (defBody s_sum_of_three) (defScope s_sum_of_three) .none kV_sum_of_three dc_sum_of_three pm_sum_of_three an_sum_of_three cd_sum_of_three ct_sum_of_three), sl_sum_of_three⟩)
    (c_sum_of_three : PySem.W.codeIn K cd_sum_of_three "_sum_of_three" = true)
    (k_sum_of_three : PySem.W.keepIn K (.ref f_sum_of_three) = true)
    (a_counts : PySem.W.nsIn K mainGlobals "_counts" = some (some (.ref f_counts)))
    (l_counts : K.lookup f_counts = some ⟨oc_counts, od_counts, .func (PySem.W.fnOf "_counts" "_counts" (defArgs s_counts) (defBody s_counts) (defScope s_counts) .none kV_counts dc_counts pm_counts an_counts cd_counts ct_counts), sl_counts⟩)
    (c_counts : PySem.W.codeIn K cd_counts "_counts" = true)
    (k_counts : PySem.W.keepIn K (.ref f_counts) = true)
    (a_with_counts : PySem.W.nsIn K mainGlobals "_with_counts" = some (some (.ref f_with_counts)))
    (l_with_counts : K.lookup f_with_counts = some ⟨oc_with_counts, od_with_counts, .func (PySem.W.fnOf "_with_counts" "_with_counts" (defArgs s_with_counts) (defBody s_with_counts) (defScope s_with_counts) .none kV_with_counts dc_with_counts pm_with_counts an_with_counts cd_with_counts ct_with_counts), sl_with_counts⟩)
    (c_with_counts : PySem.W.codeIn K cd_with_counts "_with_counts" = true)
    (k_with_counts : PySem.W.keepIn K (.ref f_with_counts) = true)
    (a_bits : PySem.W.nsIn K mainGlobals "_bits" = some (some (.ref f_bits)))
    (l_bits : K.lookup f_bits = some ⟨oc_bits, od_bits, .func (PySem.W.fnOf "_bits" "_bits" (defArgs s_bits) (defBody s_bits) (defScope s_bits) .none kV_bits dc_bits pm_bits an_bits cd_bits ct_bits), sl_bits⟩)
    (c_bits : PySem.W.codeIn K cd_bits "_bits" = true)
    (k_bits : PySem.W.keepIn K (.ref f_bits) = true)
    (a_with_margin : PySem.W.nsIn K mainGlobals "_with_margin" = some (some (.ref f_with_margin)))
    (l_with_margin : K.lookup f_with_margin = some ⟨oc_with_margin, od_with_margin, .func (PySem.W.fnOf "_with_margin" "_with_margin" (defArgs s_with_margin) (defBody s_with_margin) (defScope s_with_margin) .none kV_with_margin dc_with_margin pm_with_margin an_with_margin cd_with_margin ct_with_margin), sl_with_margin⟩)
    (c_with_margin : PySem.W.codeIn K cd_with_margin "_with_margin" = true)
    (k_with_margin : PySem.W.keepIn K (.ref f_with_margin) = true)
    (a_suits_bits : PySem.W.nsIn K mainGlobals "_suits_bits" = some (some (.ref f_suits_bits)))
    (l_suits_bits : K.lookup f_suits_bits = some ⟨oc_suits_bits, od_suits_bits, .func (PySem.W.fnOf "_suits_bits" "_suits_bits" (defArgs s_suits_bits) (defBody s_suits_bits) (defScope s_suits_bits) .none kV_suits_bits dc_suits_bits pm_suits_bits an_suits_bits cd_suits_bits ct_suits_bits), sl_suits_bits⟩)
    (c_suits_bits : PySem.W.codeIn K cd_suits_bits "_suits_bits" = true)
    (k_suits_bits : PySem.W.keepIn K (.ref f_suits_bits) = true)
    (a_BitFloor_init : PySem.W.findIn K (.ref C_BitFloor) "__init__" = some (some (.ref f_BitFloor_init)))
    (i_BitFloor_init : PySem.W.isFn K (.ref f_BitFloor_init) = true)
    (l_BitFloor_init : K.lookup f_BitFloor_init = some ⟨oc_BitFloor_init, od_BitFloor_init, .func (PySem.W.fnOf "__init__" "BitFloor.__init__" (defArgs s_BitFloor_init) (defBody s_BitFloor_init) (defScope s_BitFloor_init) .none kV_BitFloor_init dc_BitFloor_init pm_BitFloor_init an_BitFloor_init cd_BitFloor_init ct_BitFloor_init), sl_BitFloor_init⟩)
    (c_BitFloor_init : PySem.W.codeIn K cd_BitFloor_init "BitFloor.__init__" = true)
    (k_BitFloor_init : PySem.W.keepIn K (.ref f_BitFloor_init) = true)
    (a_BitFloor_advance : PySem.W.findIn K (.ref C_BitFloor) "advance" = some (some (.ref f_BitFloor_advance)))
    (i_BitFloor_advance : PySem.W.isFn K (.ref f_BitFloor_advance) = true)
    (l_BitFloor_advance : K.lookup f_BitFloor_advance = some ⟨oc_BitFloor_advance, od_BitFloor_advance, .func (PySem.W.fnOf "advance" "BitFloor.advance" (defArgs s_BitFloor_advance) (defBody s_BitFloor_advance) (defScope s_BitFloor_advance) .none kV_BitFloor_advance dc_BitFloor_advance pm_BitFloor_advance an_BitFloor_advance cd_BitFloor_advance ct_BitFloor_advance), sl_BitFloor_advance⟩)
    (c_BitFloor_advance : PySem.W.codeIn K cd_BitFloor_advance "BitFloor.advance" = true)
    (k_BitFloor_advance : PySem.W.keepIn K (.ref f_BitFloor_advance) = true)
    (a_BitFloor_size : PySem.W.findIn K (.ref C_BitFloor) "size" = some (some (.ref f_BitFloor_size)))
    (i_BitFloor_size : PySem.W.isFn K (.ref f_BitFloor_size) = true)
    (l_BitFloor_size : K.lookup f_BitFloor_size = some ⟨oc_BitFloor_size, od_BitFloor_size, .func (PySem.W.fnOf "size" "BitFloor.size" (defArgs s_BitFloor_size) (defBody s_BitFloor_size) (defScope s_BitFloor_size) .none kV_BitFloor_size dc_BitFloor_size pm_BitFloor_size an_BitFloor_size cd_BitFloor_size ct_BitFloor_size), sl_BitFloor_size⟩)
    (c_BitFloor_size : PySem.W.codeIn K cd_BitFloor_size "BitFloor.size" = true)
    (k_BitFloor_size : PySem.W.keepIn K (.ref f_BitFloor_size) = true)
    (a_BitFloor_board : PySem.W.findIn K (.ref C_BitFloor) "board" = some (some (.ref f_BitFloor_board)))
    (i_BitFloor_board : PySem.W.isFn K (.ref f_BitFloor_board) = true)
    (l_BitFloor_board : K.lookup f_BitFloor_board = some ⟨oc_BitFloor_board, od_BitFloor_board, .func (PySem.W.fnOf "board" "BitFloor.board" (defArgs s_BitFloor_board) (defBody s_BitFloor_board) (defScope s_BitFloor_board) .none kV_BitFloor_board dc_BitFloor_board pm_BitFloor_board an_BitFloor_board cd_BitFloor_board ct_BitFloor_board), sl_BitFloor_board⟩)
    (c_BitFloor_board : PySem.W.codeIn K cd_BitFloor_board "BitFloor.board" = true)
    (k_BitFloor_board : PySem.W.keepIn K (.ref f_BitFloor_board) = true)
    (a_CellFloor_init : PySem.W.findIn K (.ref C_CellFloor) "__init__" = some (some (.ref f_CellFloor_init)))
    (i_CellFloor_init : PySem.W.isFn K (.ref f_CellFloor_init) = true)
    (l_CellFloor_init : K.lookup f_CellFloor_init = some ⟨oc_CellFloor_init, od_CellFloor_init, .func (PySem.W.fnOf "__init__" "CellFloor.__init__" (defArgs s_CellFloor_init) (defBody s_CellFloor_init) (defScope s_CellFloor_init) .none kV_CellFloor_init dc_CellFloor_init pm_CellFloor_init an_CellFloor_init cd_CellFloor_init ct_CellFloor_init), sl_CellFloor_init⟩)
    (c_CellFloor_init : PySem.W.codeIn K cd_CellFloor_init "CellFloor.__init__" = true)
    (k_CellFloor_init : PySem.W.keepIn K (.ref f_CellFloor_init) = true)
    (a_places_around : PySem.W.nsIn K mainGlobals "_places_around" = some (some (.ref f_places_around)))
    (l_places_around : K.lookup f_places_around = some ⟨oc_places_around, od_places_around, .func (PySem.W.fnOf "_places_around" "_places_around" (defArgs s_places_around) (defBody s_places_around) (defScope s_places_around) .none kV_places_around dc_places_around pm_places_around an_places_around cd_places_around ct_places_around), sl_places_around⟩)
    (c_places_around : PySem.W.codeIn K cd_places_around "_places_around" = true)
    (k_places_around : PySem.W.keepIn K (.ref f_places_around) = true)
    (a_CellFloor_living_around : PySem.W.findIn K (.ref C_CellFloor) "_living_around" = some (some (.ref f_CellFloor_living_around)))
    (i_CellFloor_living_around : PySem.W.isFn K (.ref f_CellFloor_living_around) = true)
    (l_CellFloor_living_around : K.lookup f_CellFloor_living_around = some ⟨oc_CellFloor_living_around, od_CellFloor_living_around, .func (PySem.W.fnOf "_living_around" "CellFloor._living_around" (defArgs s_CellFloor_living_around) (defBody s_CellFloor_living_around) (defScope s_CellFloor_living_around) .none kV_CellFloor_living_around dc_CellFloor_living_around pm_CellFloor_living_around an_CellFloor_living_around cd_CellFloor_living_around ct_CellFloor_living_around), sl_CellFloor_living_around⟩)
    (c_CellFloor_living_around : PySem.W.codeIn K cd_CellFloor_living_around "CellFloor._living_around" = true)
    (k_CellFloor_living_around : PySem.W.keepIn K (.ref f_CellFloor_living_around) = true)
    (a_CellFloor_advance : PySem.W.findIn K (.ref C_CellFloor) "advance" = some (some (.ref f_CellFloor_advance)))
    (i_CellFloor_advance : PySem.W.isFn K (.ref f_CellFloor_advance) = true)
    (l_CellFloor_advance : K.lookup f_CellFloor_advance = some ⟨oc_CellFloor_advance, od_CellFloor_advance, .func (PySem.W.fnOf "advance" "CellFloor.advance" (defArgs s_CellFloor_advance) (defBody s_CellFloor_advance) (defScope s_CellFloor_advance) .none kV_CellFloor_advance dc_CellFloor_advance pm_CellFloor_advance an_CellFloor_advance cd_CellFloor_advance ct_CellFloor_advance), sl_CellFloor_advance⟩)
    (c_CellFloor_advance : PySem.W.codeIn K cd_CellFloor_advance "CellFloor.advance" = true)
    (k_CellFloor_advance : PySem.W.keepIn K (.ref f_CellFloor_advance) = true)
    (a_CellFloor_size : PySem.W.findIn K (.ref C_CellFloor) "size" = some (some (.ref f_CellFloor_size)))
    (i_CellFloor_size : PySem.W.isFn K (.ref f_CellFloor_size) = true)
    (l_CellFloor_size : K.lookup f_CellFloor_size = some ⟨oc_CellFloor_size, od_CellFloor_size, .func (PySem.W.fnOf "size" "CellFloor.size" (defArgs s_CellFloor_size) (defBody s_CellFloor_size) (defScope s_CellFloor_size) .none kV_CellFloor_size dc_CellFloor_size pm_CellFloor_size an_CellFloor_size cd_CellFloor_size ct_CellFloor_size), sl_CellFloor_size⟩)
    (c_CellFloor_size : PySem.W.codeIn K cd_CellFloor_size "CellFloor.size" = true)
    (k_CellFloor_size : PySem.W.keepIn K (.ref f_CellFloor_size) = true)
    (a_CellFloor_board : PySem.W.findIn K (.ref C_CellFloor) "board" = some (some (.ref f_CellFloor_board)))
    (i_CellFloor_board : PySem.W.isFn K (.ref f_CellFloor_board) = true)
    (l_CellFloor_board : K.lookup f_CellFloor_board = some ⟨oc_CellFloor_board, od_CellFloor_board, .func (PySem.W.fnOf "board" "CellFloor.board" (defArgs s_CellFloor_board) (defBody s_CellFloor_board) (defScope s_CellFloor_board) .none kV_CellFloor_board dc_CellFloor_board pm_CellFloor_board an_CellFloor_board cd_CellFloor_board ct_CellFloor_board), sl_CellFloor_board⟩)
    (c_CellFloor_board : PySem.W.codeIn K cd_CellFloor_board "CellFloor.board" = true)
    (k_CellFloor_board : PySem.W.keepIn K (.ref f_CellFloor_board) = true)
    (a_floor_of : PySem.W.nsIn K mainGlobals "floor_of" = some (some (.ref f_floor_of)))
    (l_floor_of : K.lookup f_floor_of = some ⟨oc_floor_of, od_floor_of, .func (PySem.W.fnOf "floor_of" "floor_of" (defArgs s_floor_of) (defBody s_floor_of) (defScope s_floor_of) .none kV_floor_of dc_floor_of pm_floor_of an_floor_of cd_floor_of ct_floor_of), sl_floor_of⟩)
    (c_floor_of : PySem.W.codeIn K cd_floor_of "floor_of" = true)
    (k_floor_of : PySem.W.keepIn K (.ref f_floor_of) = true)
    (a_Run_init : PySem.W.findIn K (.ref C_Run) "__init__" = some (some (.ref f_Run_init)))
    (i_Run_init : PySem.W.isFn K (.ref f_Run_init) = true)
    (l_Run_init : K.lookup f_Run_init = some ⟨oc_Run_init, od_Run_init, .func (PySem.W.fnOf "__init__" "Run.__init__" (defArgs s_Run_init) (defBody s_Run_init) (defScope s_Run_init) .none kV_Run_init dc_Run_init pm_Run_init an_Run_init cd_Run_init ct_Run_init), sl_Run_init⟩)
    (c_Run_init : PySem.W.codeIn K cd_Run_init "Run.__init__" = true)
    (k_Run_init : PySem.W.keepIn K (.ref f_Run_init) = true)
    (a_Run_advance : PySem.W.findIn K (.ref C_Run) "advance" = some (some (.ref f_Run_advance)))
    (i_Run_advance : PySem.W.isFn K (.ref f_Run_advance) = true)
    (l_Run_advance : K.lookup f_Run_advance = some ⟨oc_Run_advance, od_Run_advance, .func (PySem.W.fnOf "advance" "Run.advance" (defArgs s_Run_advance) (defBody s_Run_advance) (defScope s_Run_advance) .none kV_Run_advance dc_Run_advance pm_Run_advance an_Run_advance cd_Run_advance ct_Run_advance), sl_Run_advance⟩)
    (c_Run_advance : PySem.W.codeIn K cd_Run_advance "Run.advance" = true)
    (k_Run_advance : PySem.W.keepIn K (.ref f_Run_advance) = true)
    (a_Run_board : PySem.W.findIn K (.ref C_Run) "board" = some (some (.ref f_Run_board)))
    (i_Run_board : PySem.W.isFn K (.ref f_Run_board) = true)
    (l_Run_board : K.lookup f_Run_board = some ⟨oc_Run_board, od_Run_board, .func (PySem.W.fnOf "board" "Run.board" (defArgs s_Run_board) (defBody s_Run_board) (defScope s_Run_board) .none kV_Run_board dc_Run_board pm_Run_board an_Run_board cd_Run_board ct_Run_board), sl_Run_board⟩)
    (c_Run_board : PySem.W.codeIn K cd_Run_board "Run.board" = true)
    (k_Run_board : PySem.W.keepIn K (.ref f_Run_board) = true)
    (a_board_after : PySem.W.nsIn K mainGlobals "board_after" = some (some (.ref f_board_after)))
    (l_board_after : K.lookup f_board_after = some ⟨oc_board_after, od_board_after, .func (PySem.W.fnOf "board_after" "board_after" (defArgs s_board_after) (defBody s_board_after) (defScope s_board_after) .none kV_board_after dc_board_after pm_board_after an_board_after cd_board_after ct_board_after), sl_board_after⟩)
    (c_board_after : PySem.W.codeIn K cd_board_after "board_after" = true)
    (k_board_after : PySem.W.keepIn K (.ref f_board_after) = true)
    (a_step : PySem.W.nsIn K mainGlobals "step" = some (some (.ref f_step)))
    (l_step : K.lookup f_step = some ⟨oc_step, od_step, .func (PySem.W.fnOf "step" "step" (defArgs s_step) (defBody s_step) (defScope s_step) .none kV_step dc_step pm_step an_step cd_step ct_step), sl_step⟩)
    (c_step : PySem.W.codeIn K cd_step "step" = true)
    (k_step : PySem.W.keepIn K (.ref f_step) = true)
    (a_LotTaker_number : PySem.W.findIn K (.ref C_LotTaker) "_number" = some (some (.ref f_LotTaker_number)))
    (i_LotTaker_number : PySem.W.isFn K (.ref f_LotTaker_number) = true)
    (l_LotTaker_number : K.lookup f_LotTaker_number = some ⟨oc_LotTaker_number, od_LotTaker_number, .func (PySem.W.fnOf "_number" "LotTaker._number" (defArgs s_LotTaker_number) (defBody s_LotTaker_number) (defScope s_LotTaker_number) .none kV_LotTaker_number dc_LotTaker_number pm_LotTaker_number an_LotTaker_number cd_LotTaker_number ct_LotTaker_number), sl_LotTaker_number⟩)
    (c_LotTaker_number : PySem.W.codeIn K cd_LotTaker_number "LotTaker._number" = true)
    (k_LotTaker_number : PySem.W.keepIn K (.ref f_LotTaker_number) = true)
    (a_LotTaker_init : PySem.W.findIn K (.ref C_LotTaker) "__init__" = some (some (.ref f_LotTaker_init)))
    (i_LotTaker_init : PySem.W.isFn K (.ref f_LotTaker_init) = true)
    (l_LotTaker_init : K.lookup f_LotTaker_init = some ⟨oc_LotTaker_init, od_LotTaker_init, .func (PySem.W.fnOf "__init__" "LotTaker.__init__" (defArgs s_LotTaker_init) (defBody s_LotTaker_init) (defScope s_LotTaker_init) .none kV_LotTaker_init dc_LotTaker_init pm_LotTaker_init an_LotTaker_init cd_LotTaker_init ct_LotTaker_init), sl_LotTaker_init⟩)
    (c_LotTaker_init : PySem.W.codeIn K cd_LotTaker_init "LotTaker.__init__" = true)
    (k_LotTaker_init : PySem.W.keepIn K (.ref f_LotTaker_init) = true)
    (a_LotTaker_has : PySem.W.findIn K (.ref C_LotTaker) "has" = some (some (.ref f_LotTaker_has)))
    (i_LotTaker_has : PySem.W.isFn K (.ref f_LotTaker_has) = true)
    (l_LotTaker_has : K.lookup f_LotTaker_has = some ⟨oc_LotTaker_has, od_LotTaker_has, .func (PySem.W.fnOf "has" "LotTaker.has" (defArgs s_LotTaker_has) (defBody s_LotTaker_has) (defScope s_LotTaker_has) .none kV_LotTaker_has dc_LotTaker_has pm_LotTaker_has an_LotTaker_has cd_LotTaker_has ct_LotTaker_has), sl_LotTaker_has⟩)
    (c_LotTaker_has : PySem.W.codeIn K cd_LotTaker_has "LotTaker.has" = true)
    (k_LotTaker_has : PySem.W.keepIn K (.ref f_LotTaker_has) = true)
    (a_LotTaker_take : PySem.W.findIn K (.ref C_LotTaker) "take" = some (some (.ref f_LotTaker_take)))
    (i_LotTaker_take : PySem.W.isFn K (.ref f_LotTaker_take) = true)
    (l_LotTaker_take : K.lookup f_LotTaker_take = some ⟨oc_LotTaker_take, od_LotTaker_take, .func (PySem.W.fnOf "take" "LotTaker.take" (defArgs s_LotTaker_take) (defBody s_LotTaker_take) (defScope s_LotTaker_take) .none kV_LotTaker_take dc_LotTaker_take pm_LotTaker_take an_LotTaker_take cd_LotTaker_take ct_LotTaker_take), sl_LotTaker_take⟩)
    (c_LotTaker_take : PySem.W.codeIn K cd_LotTaker_take "LotTaker.take" = true)
    (k_LotTaker_take : PySem.W.keepIn K (.ref f_LotTaker_take) = true)
    (a_few_lots : PySem.W.nsIn K mainGlobals "few_lots" = some (some (.ref f_few_lots)))
    (l_few_lots : K.lookup f_few_lots = some ⟨oc_few_lots, od_few_lots, .func (PySem.W.fnOf "few_lots" "few_lots" (defArgs s_few_lots) (defBody s_few_lots) (defScope s_few_lots) .none kV_few_lots dc_few_lots pm_few_lots an_few_lots cd_few_lots ct_few_lots), sl_few_lots⟩)
    (c_few_lots : PySem.W.codeIn K cd_few_lots "few_lots" = true)
    (k_few_lots : PySem.W.keepIn K (.ref f_few_lots) = true)
    (a_lots_of : PySem.W.nsIn K mainGlobals "lots_of" = some (some (.ref f_lots_of)))
    (l_lots_of : K.lookup f_lots_of = some ⟨oc_lots_of, od_lots_of, .func (PySem.W.fnOf "lots_of" "lots_of" (defArgs s_lots_of) (defBody s_lots_of) (defScope s_lots_of) .none kV_lots_of dc_lots_of pm_lots_of an_lots_of cd_lots_of ct_lots_of), sl_lots_of⟩)
    (c_lots_of : PySem.W.codeIn K cd_lots_of "lots_of" = true)
    (k_lots_of : PySem.W.keepIn K (.ref f_lots_of) = true)
    (a_lots : PySem.W.nsIn K mainGlobals "lots" = some (some (.ref f_lots)))
    (l_lots : K.lookup f_lots = some ⟨oc_lots, od_lots, .func (PySem.W.fnOf "lots" "lots" (defArgs s_lots) (defBody s_lots) (defScope s_lots) .none kV_lots dc_lots pm_lots an_lots cd_lots ct_lots), sl_lots⟩)
    (c_lots : PySem.W.codeIn K cd_lots "lots" = true)
    (k_lots : PySem.W.keepIn K (.ref f_lots) = true)
    (a_places_near : PySem.W.nsIn K mainGlobals "places_near" = some (some (.ref f_places_near)))
    (l_places_near : K.lookup f_places_near = some ⟨oc_places_near, od_places_near, .func (PySem.W.fnOf "places_near" "places_near" (defArgs s_places_near) (defBody s_places_near) (defScope s_places_near) .none kV_places_near dc_places_near pm_places_near an_places_near cd_places_near ct_places_near), sl_places_near⟩)
    (c_places_near : PySem.W.codeIn K cd_places_near "places_near" = true)
    (k_places_near : PySem.W.keepIn K (.ref f_places_near) = true)
    (a_are_near : PySem.W.nsIn K mainGlobals "are_near" = some (some (.ref f_are_near)))
    (l_are_near : K.lookup f_are_near = some ⟨oc_are_near, od_are_near, .func (PySem.W.fnOf "are_near" "are_near" (defArgs s_are_near) (defBody s_are_near) (defScope s_are_near) .none kV_are_near dc_are_near pm_are_near an_are_near cd_are_near ct_are_near), sl_are_near⟩)
    (c_are_near : PySem.W.codeIn K cd_are_near "are_near" = true)
    (k_are_near : PySem.W.keepIn K (.ref f_are_near) = true)
    (a_joined : PySem.W.nsIn K mainGlobals "joined" = some (some (.ref f_joined)))
    (l_joined : K.lookup f_joined = some ⟨oc_joined, od_joined, .func (PySem.W.fnOf "joined" "joined" (defArgs s_joined) (defBody s_joined) (defScope s_joined) .none kV_joined dc_joined pm_joined an_joined cd_joined ct_joined), sl_joined⟩)
    (c_joined : PySem.W.codeIn K cd_joined "joined" = true)
    (k_joined : PySem.W.keepIn K (.ref f_joined) = true)
    (a_law_alike : PySem.W.nsIn K mainGlobals "_law_alike" = some (some (.ref f_law_alike)))
    (l_law_alike : K.lookup f_law_alike = some ⟨oc_law_alike, od_law_alike, .func (PySem.W.fnOf "_law_alike" "_law_alike" (defArgs s_law_alike) (defBody s_law_alike) (defScope s_law_alike) .none kV_law_alike dc_law_alike pm_law_alike an_law_alike cd_law_alike ct_law_alike), sl_law_alike⟩)
    (c_law_alike : PySem.W.codeIn K cd_law_alike "_law_alike" = true)
    (k_law_alike : PySem.W.keepIn K (.ref f_law_alike) = true)
    (a_law_moved : PySem.W.nsIn K mainGlobals "_law_moved" = some (some (.ref f_law_moved)))
    (l_law_moved : K.lookup f_law_moved = some ⟨oc_law_moved, od_law_moved, .func (PySem.W.fnOf "_law_moved" "_law_moved" (defArgs s_law_moved) (defBody s_law_moved) (defScope s_law_moved) .none kV_law_moved dc_law_moved pm_law_moved an_law_moved cd_law_moved ct_law_moved), sl_law_moved⟩)
    (c_law_moved : PySem.W.codeIn K cd_law_moved "_law_moved" = true)
    (k_law_moved : PySem.W.keepIn K (.ref f_law_moved) = true)
    (a_law_taken : PySem.W.nsIn K mainGlobals "_law_taken" = some (some (.ref f_law_taken)))
    (l_law_taken : K.lookup f_law_taken = some ⟨oc_law_taken, od_law_taken, .func (PySem.W.fnOf "_law_taken" "_law_taken" (defArgs s_law_taken) (defBody s_law_taken) (defScope s_law_taken) .none kV_law_taken dc_law_taken pm_law_taken an_law_taken cd_law_taken ct_law_taken), sl_law_taken⟩)
    (c_law_taken : PySem.W.codeIn K cd_law_taken "_law_taken" = true)
    (k_law_taken : PySem.W.keepIn K (.ref f_law_taken) = true)
    (a_law_signed : PySem.W.nsIn K mainGlobals "_law_signed" = some (some (.ref f_law_signed)))
    (l_law_signed : K.lookup f_law_signed = some ⟨oc_law_signed, od_law_signed, .func (PySem.W.fnOf "_law_signed" "_law_signed" (defArgs s_law_signed) (defBody s_law_signed) (defScope s_law_signed) .none kV_law_signed dc_law_signed pm_law_signed an_law_signed cd_law_signed ct_law_signed), sl_law_signed⟩)
    (c_law_signed : PySem.W.codeIn K cd_law_signed "_law_signed" = true)
    (k_law_signed : PySem.W.keepIn K (.ref f_law_signed) = true)
    (a_law_pick : PySem.W.nsIn K mainGlobals "_law_pick" = some (some (.ref f_law_pick)))
    (l_law_pick : K.lookup f_law_pick = some ⟨oc_law_pick, od_law_pick, .func (PySem.W.fnOf "_law_pick" "_law_pick" (defArgs s_law_pick) (defBody s_law_pick) (defScope s_law_pick) .none kV_law_pick dc_law_pick pm_law_pick an_law_pick cd_law_pick ct_law_pick), sl_law_pick⟩)
    (c_law_pick : PySem.W.codeIn K cd_law_pick "_law_pick" = true)
    (k_law_pick : PySem.W.keepIn K (.ref f_law_pick) = true)
    (a_law_cells : PySem.W.nsIn K mainGlobals "_law_cells" = some (some (.ref f_law_cells)))
    (l_law_cells : K.lookup f_law_cells = some ⟨oc_law_cells, od_law_cells, .func (PySem.W.fnOf "_law_cells" "_law_cells" (defArgs s_law_cells) (defBody s_law_cells) (defScope s_law_cells) .none kV_law_cells dc_law_cells pm_law_cells an_law_cells cd_law_cells ct_law_cells), sl_law_cells⟩)
    (c_law_cells : PySem.W.codeIn K cd_law_cells "_law_cells" = true)
    (k_law_cells : PySem.W.keepIn K (.ref f_law_cells) = true)
    (a_law_some_rule : PySem.W.nsIn K mainGlobals "_law_some_rule" = some (some (.ref f_law_some_rule)))
    (l_law_some_rule : K.lookup f_law_some_rule = some ⟨oc_law_some_rule, od_law_some_rule, .func (PySem.W.fnOf "_law_some_rule" "_law_some_rule" (defArgs s_law_some_rule) (defBody s_law_some_rule) (defScope s_law_some_rule) .none kV_law_some_rule dc_law_some_rule pm_law_some_rule an_law_some_rule cd_law_some_rule ct_law_some_rule), sl_law_some_rule⟩)
    (c_law_some_rule : PySem.W.codeIn K cd_law_some_rule "_law_some_rule" = true)
    (k_law_some_rule : PySem.W.keepIn K (.ref f_law_some_rule) = true)
    (a_law_are_near : PySem.W.nsIn K mainGlobals "_law_are_near" = some (some (.ref f_law_are_near)))
    (l_law_are_near : K.lookup f_law_are_near = some ⟨oc_law_are_near, od_law_are_near, .func (PySem.W.fnOf "_law_are_near" "_law_are_near" (defArgs s_law_are_near) (defBody s_law_are_near) (defScope s_law_are_near) .none kV_law_are_near dc_law_are_near pm_law_are_near an_law_are_near cd_law_are_near ct_law_are_near), sl_law_are_near⟩)
    (c_law_are_near : PySem.W.codeIn K cd_law_are_near "_law_are_near" = true)
    (k_law_are_near : PySem.W.keepIn K (.ref f_law_are_near) = true)
    (a_law_lots : PySem.W.nsIn K mainGlobals "_law_lots" = some (some (.ref f_law_lots)))
    (l_law_lots : K.lookup f_law_lots = some ⟨oc_law_lots, od_law_lots, .func (PySem.W.fnOf "_law_lots" "_law_lots" (defArgs s_law_lots) (defBody s_law_lots) (defScope s_law_lots) .none kV_law_lots dc_law_lots pm_law_lots an_law_lots cd_law_lots ct_law_lots), sl_law_lots⟩)
    (c_law_lots : PySem.W.codeIn K cd_law_lots "_law_lots" = true)
    (k_law_lots : PySem.W.keepIn K (.ref f_law_lots) = true)
    (a_law : PySem.W.nsIn K mainGlobals "law" = some (some (.ref f_law)))
    (l_law : K.lookup f_law = some ⟨oc_law, od_law, .func (PySem.W.fnOf "law" "law" (defArgs s_law) (defBody s_law) (defScope s_law) .none kV_law dc_law pm_law an_law cd_law ct_law), sl_law⟩)
    (c_law : PySem.W.codeIn K cd_law "law" = true)
    (k_law : PySem.W.keepIn K (.ref f_law) = true) :
    ∃ fd : FuncData, (∀ (s : Shared) (v : Value), BindsTo s fd ⟨[v], []⟩ [("script", v)]) ∧ ∀ base : Heap, K.In base → base.Ns mainGlobals mg → FnOk l.prog w K mg base (L2.CX l.prog w) 10 fa fd ["script"] (spD K 1 R_law) := by
  have e := hfa.symm.trans (PySem.W.mg_of X G a_law)
  cases e
  have g_BitFloor := PySem.W.mg_of X G a_BitFloor
  have cl_BitFloor : Cls K C_BitFloor := ⟨pg_BitFloor, hd_BitFloor, po_BitFloor, sa_BitFloor⟩
  have g_CellFloor := PySem.W.mg_of X G a_CellFloor
  have cl_CellFloor : Cls K C_CellFloor := ⟨pg_CellFloor, hd_CellFloor, po_CellFloor, sa_CellFloor⟩
  have g_LotTaker := PySem.W.mg_of X G a_LotTaker
  have cl_LotTaker : Cls K C_LotTaker := ⟨pg_LotTaker, hd_LotTaker, po_LotTaker, sa_LotTaker⟩
  have g_Run := PySem.W.mg_of X G a_Run
  have cl_Run : Cls K C_Run := ⟨pg_Run, hd_Run, po_Run, sa_Run⟩
  have m_isinstance := PySem.W.mg_none_of X G z_isinstance
  have m_int := PySem.W.mg_none_of X G z_int
  have m_bool := PySem.W.mg_none_of X G z_bool
  have m_len := PySem.W.mg_none_of X G z_len
  have m_tuple := PySem.W.mg_none_of X G z_tuple
  have g_FAR : ∃ u, mg "FAR" = some u ∧ RelV (.int 1000000000000000000000000000000000000000000000000000000000000) u := ⟨_, PySem.W.mg_of X G z_FAR, _, rfl⟩
  have m_enumerate := PySem.W.mg_none_of X G z_enumerate
  have m_max := PySem.W.mg_none_of X G z_max
  have m_min := PySem.W.mg_none_of X G z_min
  have g_SPARE : ∃ u, mg "SPARE" = some u ∧ RelV (.int 12) u := ⟨_, PySem.W.mg_of X G z_SPARE, _, rfl⟩
  have g_BITS_AT_LEAST : ∃ u, mg "BITS_AT_LEAST" = some u ∧ RelV (.int 5000) u := ⟨_, PySem.W.mg_of X G z_BITS_AT_LEAST, _, rfl⟩
  have g_BITS_FOR_A_CELL : ∃ u, mg "BITS_FOR_A_CELL" = some u ∧ RelV (.int 1000) u := ⟨_, PySem.W.mg_of X G z_BITS_FOR_A_CELL, _, rfl⟩
  have m_sum := PySem.W.mg_none_of X G z_sum
  have m_divmod := PySem.W.mg_none_of X G z_divmod
  have m_sorted := PySem.W.mg_none_of X G z_sorted
  have g_MOST_CELLS : ∃ u, mg "MOST_CELLS" = some u ∧ RelV (.int 3000) u := ⟨_, PySem.W.mg_of X G z_MOST_CELLS, _, rfl⟩
  have m_range := PySem.W.mg_none_of X G z_range
  have m_any := PySem.W.mg_none_of X G z_any
  have m_list := PySem.W.mg_none_of X G z_list
  have m_str := PySem.W.mg_none_of X G z_str
  have m_dict := PySem.W.mg_none_of X G z_dict
  have m_set := PySem.W.mg_none_of X G z_set
  have gx_BadBoard := PySem.W.mg_of X G a_BadBoard
  have gx_Clash := PySem.W.mg_of X G a_Clash
  have r_BadBoard : PySem.SupX.SupTxt l.prog K mg "BadBoard" "BadBoard.__init__" "index" "not a board, first wrong item: " C_BadBoard fI_BadBoard := { nm := ⟨by decide +kernel, by decide +kernel, by decide +kernel, by decide +kernel, fun _ _ => rfl, fun _ _ => rfl, by decide +kernel, by decide +kernel, fun _ _ _ _ _ _ _ _ _ _ _ _ _ _ => rfl⟩, gC := gx_BadBoard, cls := ⟨_, _, _, _, _, _, _, _, _, _, _, _, _, _, _, cls_BadBoard, bm_BadBoard⟩, q := q_BadBoard, sa := sa_BadBoard, noN := noN_BadBoard, iC := iC_BadBoard, tC := tC_BadBoard, kC := kC_BadBoard, exC := exC_BadBoard, veC := veC_BadBoard, tyC := tyC_BadBoard, hdC := hdC_BadBoard, ms := ms_BadBoard, si := si_BadBoard, op := op_super, su := su_super, fn := ⟨_, _, _, _, _, _, _, _, _, _, _, _, _, l_BadBoard, c_BadBoard, ⟨_, _, _, _, _, _, cf_BadBoard, vf_BadBoard, fe_BadBoard⟩, ⟨_, _, _, cc_BadBoard_⟩, ev_BadBoard⟩, top := tp_BadBoard, pz := by decide +kernel }
  have r_Clash : Rsr K mg "Clash" C_Clash := ⟨x_Clash, gx_Clash, kC_Clash, exC_Clash, tyC_Clash⟩
  have h_exmB := PySem.W.exm_ref exC_BadBoard hdC_BadBoard tyC_BadBoard sxB
  have h_excB := (⟨gaB, gtB, exC_BadBoard, hdC_BadBoard, caB, cn1, ct1, cmB⟩ : ExcC K C_BadBoard)
  have F_is_between := fun_mk (st := s_is_between) l_is_between c_is_between k_is_between
  have b_is_between := F_is_between.binds (ps := ["value", "low", "high"]) fun _ _ _ _ _ _ us hl => match us, hl with | [_, _, _], _ => rfl
  have F_is_move := fun_mk (st := s_is_move) l_is_move c_is_move k_is_move
  have b_is_move := F_is_move.binds (ps := ["value"]) fun _ _ _ _ _ _ us hl => match us, hl with | [_], _ => rfl
  have F_is_cell := fun_mk (st := s_is_cell) l_is_cell c_is_cell k_is_cell
  have b_is_cell := F_is_cell.binds (ps := ["value"]) fun _ _ _ _ _ _ us hl => match us, hl with | [_], _ => rfl
  have F_check_board := fun_mk (st := s_check_board) l_check_board c_check_board k_check_board
  have b_check_board := F_check_board.binds (ps := ["board"]) fun _ _ _ _ _ _ us hl => match us, hl with | [_], _ => rfl
  have F_states_by_place := fun_mk (st := s_states_by_place) l_states_by_place c_states_by_place k_states_by_place
  have b_states_by_place := F_states_by_place.binds (ps := ["board"]) fun _ _ _ _ _ _ us hl => match us, hl with | [_], _ => rfl
  have F_corners := fun_mk (st := s_corners) l_corners c_corners k_corners
  have b_corners := F_corners.binds (ps := ["board"]) fun _ _ _ _ _ _ us hl => match us, hl with | [_], _ => rfl
  have F_are_counts := fun_mk (st := s_are_counts) l_are_counts c_are_counts k_are_counts
  have b_are_counts := F_are_counts.binds (ps := ["value", "least"]) fun _ _ _ _ _ _ us hl => match us, hl with | [_, _], _ => rfl
  have F_is_rule := fun_mk (st := s_is_rule) l_is_rule c_is_rule k_is_rule
  have b_is_rule := F_is_rule.binds (ps := ["value"]) fun _ _ _ _ _ _ us hl => match us, hl with | [_], _ => rfl
  have F_check_rule := fun_mk (st := s_check_rule) l_check_rule c_check_rule k_check_rule
  have b_check_rule := F_check_rule.binds (ps := ["rule"]) fun _ _ _ _ _ _ us hl => match us, hl with | [_], _ => rfl
  have F_sum_of_three := fun_mk (st := s_sum_of_three) l_sum_of_three c_sum_of_three k_sum_of_three
  have b_sum_of_three := F_sum_of_three.binds (ps := ["one", "two", "three"]) fun _ _ _ _ _ _ us hl => match us, hl with | [_, _, _], _ => rfl
  have F_counts := fun_mk (st := s_counts) l_counts c_counts k_counts
  have b_counts := F_counts.binds (ps := ["plane", "high"]) fun _ _ _ _ _ _ us hl => match us, hl with | [_, _], _ => rfl
  have F_with_counts := fun_mk (st := s_with_counts) l_with_counts c_with_counts k_with_counts
  have b_with_counts := F_with_counts.binds (ps := ["counts", "sides"]) fun _ _ _ _ _ _ us hl => match us, hl with | [_, _], _ => rfl
  have F_bits := fun_mk (st := s_bits) l_bits c_bits k_bits
  have b_bits := F_bits.binds (ps := ["plane"]) fun _ _ _ _ _ _ us hl => match us, hl with | [_], _ => rfl
  have F_with_margin := fun_mk (st := s_with_margin) l_with_margin c_with_margin k_with_margin
  have b_with_margin := F_with_margin.binds (ps := ["box"]) fun _ _ _ _ _ _ us hl => match us, hl with | [_], _ => rfl
  have F_suits_bits := fun_mk (st := s_suits_bits) l_suits_bits c_suits_bits k_suits_bits
  have b_suits_bits := F_suits_bits.binds (ps := ["board"]) fun _ _ _ _ _ _ us hl => match us, hl with | [_], _ => rfl
  have F_BitFloor_init := fun_mk (st := s_BitFloor_init) l_BitFloor_init c_BitFloor_init k_BitFloor_init
  have b_BitFloor_init := F_BitFloor_init.binds (ps := ["self", "rule", "board"]) fun _ _ _ _ _ _ us hl => match us, hl with | [_, _, _], _ => rfl
  have F_BitFloor_advance := fun_mk (st := s_BitFloor_advance) l_BitFloor_advance c_BitFloor_advance k_BitFloor_advance
  have b_BitFloor_advance := F_BitFloor_advance.binds (ps := ["self"]) fun _ _ _ _ _ _ us hl => match us, hl with | [_], _ => rfl
  have F_BitFloor_size := fun_mk (st := s_BitFloor_size) l_BitFloor_size c_BitFloor_size k_BitFloor_size
  have b_BitFloor_size := F_BitFloor_size.binds (ps := ["self"]) fun _ _ _ _ _ _ us hl => match us, hl with | [_], _ => rfl
  have F_BitFloor_board := fun_mk (st := s_BitFloor_board) l_BitFloor_board c_BitFloor_board k_BitFloor_board
  have b_BitFloor_board := F_BitFloor_board.binds (ps := ["self"]) fun _ _ _ _ _ _ us hl => match us, hl with | [_], _ => rfl
  have F_CellFloor_init := fun_mk (st := s_CellFloor_init) l_CellFloor_init c_CellFloor_init k_CellFloor_init
  have b_CellFloor_init := F_CellFloor_init.binds (ps := ["self", "rule", "board"]) fun _ _ _ _ _ _ us hl => match us, hl with | [_, _, _], _ => rfl
  have F_places_around := fun_mk (st := s_places_around) l_places_around c_places_around k_places_around
  have b_places_around := F_places_around.binds (ps := ["x", "y"]) fun _ _ _ _ _ _ us hl => match us, hl with | [_, _], _ => rfl
  have F_CellFloor_living_around := fun_mk (st := s_CellFloor_living_around) l_CellFloor_living_around c_CellFloor_living_around k_CellFloor_living_around
  have b_CellFloor_living_around := F_CellFloor_living_around.binds (ps := ["self"]) fun _ _ _ _ _ _ us hl => match us, hl with | [_], _ => rfl
  have F_CellFloor_advance := fun_mk (st := s_CellFloor_advance) l_CellFloor_advance c_CellFloor_advance k_CellFloor_advance
  have b_CellFloor_advance := F_CellFloor_advance.binds (ps := ["self"]) fun _ _ _ _ _ _ us hl => match us, hl with | [_], _ => rfl
  have F_CellFloor_size := fun_mk (st := s_CellFloor_size) l_CellFloor_size c_CellFloor_size k_CellFloor_size
  have b_CellFloor_size := F_CellFloor_size.binds (ps := ["self"]) fun _ _ _ _ _ _ us hl => match us, hl with | [_], _ => rfl
  have F_CellFloor_board := fun_mk (st := s_CellFloor_board) l_CellFloor_board c_CellFloor_board k_CellFloor_board
  have b_CellFloor_board := F_CellFloor_board.binds (ps := ["self"]) fun _ _ _ _ _ _ us hl => match us, hl with | [_], _ => rfl
  have F_floor_of := fun_mk (st := s_floor_of) l_floor_of c_floor_of k_floor_of
  have b_floor_of := F_floor_of.binds (ps := ["rule", "board"]) fun _ _ _ _ _ _ us hl => match us, hl with | [_, _], _ => rfl
  have F_Run_init := fun_mk (st := s_Run_init) l_Run_init c_Run_init k_Run_init
  have b_Run_init := F_Run_init.binds (ps := ["self", "rule", "board"]) fun _ _ _ _ _ _ us hl => match us, hl with | [_, _, _], _ => rfl
  have F_Run_advance := fun_mk (st := s_Run_advance) l_Run_advance c_Run_advance k_Run_advance
  have b_Run_advance := F_Run_advance.binds (ps := ["self"]) fun _ _ _ _ _ _ us hl => match us, hl with | [_], _ => rfl
  have F_Run_board := fun_mk (st := s_Run_board) l_Run_board c_Run_board k_Run_board
  have b_Run_board := F_Run_board.binds (ps := ["self"]) fun _ _ _ _ _ _ us hl => match us, hl with | [_], _ => rfl
  have F_board_after := fun_mk (st := s_board_after) l_board_after c_board_after k_board_after
  have b_board_after := F_board_after.binds (ps := ["rule", "board", "many"]) fun _ _ _ _ _ _ us hl => match us, hl with | [_, _, _], _ => rfl
  have F_step := fun_mk (st := s_step) l_step c_step k_step
  have b_step := F_step.binds (ps := ["rule", "board"]) fun _ _ _ _ _ _ us hl => match us, hl with | [_, _], _ => rfl
  have F_LotTaker_number := fun_mk (st := s_LotTaker_number) l_LotTaker_number c_LotTaker_number k_LotTaker_number
  have b_LotTaker_number := F_LotTaker_number.binds (ps := ["self", "cell"]) fun _ _ _ _ _ _ us hl => match us, hl with | [_, _], _ => rfl
  have F_LotTaker_init := fun_mk (st := s_LotTaker_init) l_LotTaker_init c_LotTaker_init k_LotTaker_init
  have b_LotTaker_init := F_LotTaker_init.binds (ps := ["self", "board"]) fun _ _ _ _ _ _ us hl => match us, hl with | [_, _], _ => rfl
  have F_LotTaker_has := fun_mk (st := s_LotTaker_has) l_LotTaker_has c_LotTaker_has k_LotTaker_has
  have b_LotTaker_has := F_LotTaker_has.binds (ps := ["self", "cell"]) fun _ _ _ _ _ _ us hl => match us, hl with | [_, _], _ => rfl
  have F_LotTaker_take := fun_mk (st := s_LotTaker_take) l_LotTaker_take c_LotTaker_take k_LotTaker_take
  have b_LotTaker_take := F_LotTaker_take.binds (ps := ["self", "cell", "most"]) fun _ _ _ _ _ _ us hl => match us, hl with | [_, _, _], _ => rfl
  have F_few_lots := fun_mk (st := s_few_lots) l_few_lots c_few_lots k_few_lots
  have b_few_lots := F_few_lots.binds (ps := ["board", "many", "most"]) fun _ _ _ _ _ _ us hl => match us, hl with | [_, _, _], _ => rfl
  have F_lots_of := fun_mk (st := s_lots_of) l_lots_of c_lots_of k_lots_of
  have b_lots_of := F_lots_of.binds (ps := ["board"]) fun _ _ _ _ _ _ us hl => match us, hl with | [_], _ => rfl
  have F_lots := fun_mk (st := s_lots) l_lots c_lots k_lots
  have b_lots := F_lots.binds (ps := ["board"]) fun _ _ _ _ _ _ us hl => match us, hl with | [_], _ => rfl
  have F_places_near := fun_mk (st := s_places_near) l_places_near c_places_near k_places_near
  have b_places_near := F_places_near.binds (ps := ["place"]) fun _ _ _ _ _ _ us hl => match us, hl with | [_], _ => rfl
  have F_are_near := fun_mk (st := s_are_near) l_are_near c_are_near k_are_near
  have b_are_near := F_are_near.binds (ps := ["board", "other"]) fun _ _ _ _ _ _ us hl => match us, hl with | [_, _], _ => rfl
  have F_joined := fun_mk (st := s_joined) l_joined c_joined k_joined
  have b_joined := F_joined.binds (ps := ["board", "other"]) fun _ _ _ _ _ _ us hl => match us, hl with | [_, _], _ => rfl
  have F_law_alike := fun_mk (st := s_law_alike) l_law_alike c_law_alike k_law_alike
  have b_law_alike := F_law_alike.binds (ps := ["found", "due"]) fun _ _ _ _ _ _ us hl => match us, hl with | [_, _], _ => rfl
  have F_law_moved := fun_mk (st := s_law_moved) l_law_moved c_law_moved k_law_moved
  have b_law_moved := F_law_moved.binds (ps := ["board", "x", "y"]) fun _ _ _ _ _ _ us hl => match us, hl with | [_, _, _], _ => rfl
  have F_law_taken := fun_mk (st := s_law_taken) l_law_taken c_law_taken k_law_taken
  have b_law_taken := F_law_taken.binds (ps := ["row", "many"]) fun _ _ _ _ _ _ us hl => match us, hl with | [_, _], _ => rfl
  have F_law_signed := fun_mk (st := s_law_signed) l_law_signed c_law_signed k_law_signed
  have b_law_signed := F_law_signed.binds (ps := ["row", "most"]) fun _ _ _ _ _ _ us hl => match us, hl with | [_, _], _ => rfl
  have F_law_pick := fun_mk (st := s_law_pick) l_law_pick c_law_pick k_law_pick
  have b_law_pick := F_law_pick.binds (ps := ["row", "things"]) fun _ _ _ _ _ _ us hl => match us, hl with | [_, _], _ => rfl
  have F_law_cells := fun_mk (st := s_law_cells) l_law_cells c_law_cells k_law_cells
  have b_law_cells := F_law_cells.binds (ps := ["row", "wide", "high", "states"]) fun _ _ _ _ _ _ us hl => match us, hl with | [_, _, _, _], _ => rfl
  have F_law_some_rule := fun_mk (st := s_law_some_rule) l_law_some_rule c_law_some_rule k_law_some_rule
  have b_law_some_rule := F_law_some_rule.binds (ps := ["row"]) fun _ _ _ _ _ _ us hl => match us, hl with | [_], _ => rfl
  have F_law_are_near := fun_mk (st := s_law_are_near) l_law_are_near c_law_are_near k_law_are_near
  have b_law_are_near := F_law_are_near.binds (ps := ["board", "other"]) fun _ _ _ _ _ _ us hl => match us, hl with | [_, _], _ => rfl
  have F_law_lots := fun_mk (st := s_law_lots) l_law_lots c_law_lots k_law_lots
  have b_law_lots := F_law_lots.binds (ps := ["board"]) fun _ _ _ _ _ _ us hl => match us, hl with | [_], _ => rfl
  have F_law := fun_mk (st := s_law) l_law c_law k_law
  refine ⟨PySem.W.fnOf "law" "law" (defArgs s_law) (defBody s_law) (defScope s_law) .none kV_law dc_law pm_law an_law cd_law ct_law, fun s v => .of_eq rfl, fun base _ _ => ?_⟩
  have c_is_between : Cal l.prog w K mg base 1 "is_between" (spD K 3 R_between) := ⟨_, _, _, ok_is_between F_is_between (m_isinstance := m_isinstance) (m_int := m_int) (m_bool := m_bool), PySem.W.mg_of X G a_is_between, k_is_between, b_is_between⟩
  have c_is_move : Cal l.prog w K mg base 2 "is_move" (spD K 1 R_ismove) := ⟨_, _, _, ok_is_move F_is_move (m_len := m_len) (m_isinstance := m_isinstance) (m_tuple := m_tuple) (g_FAR := g_FAR) (c_is_between := c_is_between), PySem.W.mg_of X G a_is_move, k_is_move, b_is_move⟩
  have c__is_cell : Cal l.prog w K mg base 3 "_is_cell" (spD K 1 R_isCell) := ⟨_, _, _, ok_is_cell F_is_cell (m_len := m_len) (m_isinstance := m_isinstance) (m_tuple := m_tuple) (c_is_between := c_is_between) (c_is_move := c_is_move), PySem.W.mg_of X G a_is_cell, k_is_cell, b_is_cell⟩
  have c_check_board : Cal l.prog w K mg base 4 "check_board" (spD K 1 (R_chk C_BadBoard)) := ⟨_, _, _, ok_check_board F_check_board (m_isinstance := m_isinstance) (m_tuple := m_tuple) (m_enumerate := m_enumerate) (r_BadBoard := r_BadBoard) (c__is_cell := c__is_cell), PySem.W.mg_of X G a_check_board, k_check_board, b_check_board⟩
  have c_states_by_place : Cal l.prog w K mg base 1 "states_by_place" (spE K 1 R_sbp) := ⟨_, _, _, ok_states_by_place F_states_by_place , PySem.W.mg_of X G a_states_by_place, k_states_by_place, b_states_by_place⟩
  have c_corners : Cal l.prog w K mg base 1 "corners" (spD K 1 R_corners) := ⟨_, _, _, ok_corners F_corners (m_max := m_max) (m_min := m_min), PySem.W.mg_of X G a_corners, k_corners, b_corners⟩
  have c__are_counts : Cal l.prog w K mg base 2 "_are_counts" (spD K 2 R_counts) := ⟨_, _, _, ok_are_counts F_are_counts (m_isinstance := m_isinstance) (m_tuple := m_tuple) (c_is_between := c_is_between), PySem.W.mg_of X G a_are_counts, k_are_counts, b_are_counts⟩
  have c__is_rule : Cal l.prog w K mg base 3 "_is_rule" (spD K 1 R_isRule) := ⟨_, _, _, ok_is_rule F_is_rule (m_len := m_len) (m_isinstance := m_isinstance) (m_tuple := m_tuple) (c_is_between := c_is_between) (c__are_counts := c__are_counts), PySem.W.mg_of X G a_is_rule, k_is_rule, b_is_rule⟩
  have c_check_rule : Cal l.prog w K mg base 4 "check_rule" (spD K 1 R_chkRule) := ⟨_, _, _, ok_check_rule F_check_rule (c__is_rule := c__is_rule), PySem.W.mg_of X G a_check_rule, k_check_rule, b_check_rule⟩
  have c__sum_of_three : Cal l.prog w K mg base 1 "_sum_of_three" (spD K 3 R_sum3) := ⟨_, _, _, ok_sum_of_three F_sum_of_three , PySem.W.mg_of X G a_sum_of_three, k_sum_of_three, b_sum_of_three⟩
  have c__counts : Cal l.prog w K mg base 2 "_counts" (spD K 2 R_counts9) := ⟨_, _, _, ok_counts F_counts (c__sum_of_three := c__sum_of_three), PySem.W.mg_of X G a_counts, k_counts, b_counts⟩
  have c__with_counts : Cal l.prog w K mg base 1 "_with_counts" (spD K 2 R_withC) := ⟨_, _, _, ok_with_counts F_with_counts , PySem.W.mg_of X G a_with_counts, k_with_counts, b_with_counts⟩
  have c__bits : Cal l.prog w K mg base 1 "_bits" (spD K 1 R_bits) := ⟨_, _, _, ok_bits F_bits (m_len := m_len), PySem.W.mg_of X G a_bits, k_bits, b_bits⟩
  have c__with_margin : Cal l.prog w K mg base 1 "_with_margin" (spD K 1 R_margin) := ⟨_, _, _, ok_with_margin F_with_margin (g_SPARE := g_SPARE), PySem.W.mg_of X G a_with_margin, k_with_margin, b_with_margin⟩
  have c__suits_bits : Cal l.prog w K mg base 2 "_suits_bits" (spD K 1 R_suits) := ⟨_, _, _, ok_suits_bits F_suits_bits (g_FAR := g_FAR) (g_BITS_AT_LEAST := g_BITS_AT_LEAST) (g_BITS_FOR_A_CELL := g_BITS_FOR_A_CELL) (m_len := m_len) (c__with_margin := c__with_margin) (c_corners := c_corners), PySem.W.mg_of X G a_suits_bits, k_suits_bits, b_suits_bits⟩
  have c_BitFloor_init : Mkr l.prog w K mg base 2 "BitFloor" C_BitFloor (spO K C_BitFloor 2 R_bInit) := ⟨_, _, _, ok_BitFloor_init F_BitFloor_init (na_BitFloor_births := na_BitFloor_births) (na_BitFloor_stays := na_BitFloor_stays) (m_tuple := m_tuple) (na_BitFloor_states := na_BitFloor_states) (na_BitFloor_top := na_BitFloor_top) (na_BitFloor_left := na_BitFloor_left) (na_BitFloor_high := na_BitFloor_high) (na_BitFloor_whole := na_BitFloor_whole) (na_BitFloor_planes := na_BitFloor_planes) (c__with_margin := c__with_margin) (c_corners := c_corners) (cl_BitFloor := cl_BitFloor), ⟨mk_BitFloor, a_BitFloor_init, i_BitFloor_init, kc_BitFloor⟩, g_BitFloor, b_BitFloor_init⟩
  have c_BitFloor_advance : Mtd l.prog w K mg base 3 C_BitFloor "advance" (spO K C_BitFloor 0 R_bAdv) := ⟨_, _, _, ok_BitFloor_advance F_BitFloor_advance (na_BitFloor_planes := na_BitFloor_planes) (na_BitFloor_high := na_BitFloor_high) (na_BitFloor_whole := na_BitFloor_whole) (na_BitFloor_stays := na_BitFloor_stays) (na_BitFloor_births := na_BitFloor_births) (na_BitFloor_states := na_BitFloor_states) (c__counts := c__counts) (c__with_counts := c__with_counts) (cl_BitFloor := cl_BitFloor), ⟨a_BitFloor_advance, i_BitFloor_advance, k_BitFloor_advance⟩, b_BitFloor_advance⟩
  have c_BitFloor_size : Mtd l.prog w K mg base 1 C_BitFloor "size" (spO K C_BitFloor 0 R_bSize) := ⟨_, _, _, ok_BitFloor_size F_BitFloor_size (m_sum := m_sum) (na_BitFloor_planes := na_BitFloor_planes) (cl_BitFloor := cl_BitFloor), ⟨a_BitFloor_size, i_BitFloor_size, k_BitFloor_size⟩, b_BitFloor_size⟩
  have c_BitFloor_board : Mtd l.prog w K mg base 2 C_BitFloor "board" (spO K C_BitFloor 0 R_bBoard) := ⟨_, _, _, ok_BitFloor_board F_BitFloor_board (m_enumerate := m_enumerate) (na_BitFloor_planes := na_BitFloor_planes) (m_divmod := m_divmod) (na_BitFloor_high := na_BitFloor_high) (na_BitFloor_top := na_BitFloor_top) (na_BitFloor_left := na_BitFloor_left) (m_tuple := m_tuple) (m_sorted := m_sorted) (c__bits := c__bits) (cl_BitFloor := cl_BitFloor), ⟨a_BitFloor_board, i_BitFloor_board, k_BitFloor_board⟩, b_BitFloor_board⟩
  have c_CellFloor_init : Mkr l.prog w K mg base 2 "CellFloor" C_CellFloor (spO K C_CellFloor 2 R_cInit) := ⟨_, _, _, ok_CellFloor_init F_CellFloor_init (na_CellFloor_states := na_CellFloor_states) (na_CellFloor_stays := na_CellFloor_stays) (na_CellFloor_births := na_CellFloor_births) (na_CellFloor_cells := na_CellFloor_cells) (c_states_by_place := c_states_by_place) (cl_CellFloor := cl_CellFloor), ⟨mk_CellFloor, a_CellFloor_init, i_CellFloor_init, kc_CellFloor⟩, g_CellFloor, b_CellFloor_init⟩
  have c__places_around : Cal l.prog w K mg base 1 "_places_around" (spD K 2 R_pa) := ⟨_, _, _, ok_places_around F_places_around , PySem.W.mg_of X G a_places_around, k_places_around, b_places_around⟩
  have c_CellFloor_living_around : Mtd l.prog w K mg base 2 C_CellFloor "_living_around" (spH K C_CellFloor 0 R_around) := ⟨_, _, _, ok_CellFloor_living_around F_CellFloor_living_around (na_CellFloor_cells := na_CellFloor_cells) (c__places_around := c__places_around) (cl_CellFloor := cl_CellFloor), ⟨a_CellFloor_living_around, i_CellFloor_living_around, k_CellFloor_living_around⟩, b_CellFloor_living_around⟩
  have c_CellFloor_advance : Mtd l.prog w K mg base 4 C_CellFloor "advance" (spO K C_CellFloor 0 R_cAdv) := ⟨_, _, _, ok_CellFloor_advance F_CellFloor_advance (na_CellFloor_births := na_CellFloor_births) (na_CellFloor_cells := na_CellFloor_cells) (na_CellFloor_stays := na_CellFloor_stays) (na_CellFloor_states := na_CellFloor_states) (g_FAR := g_FAR) (c_CellFloor_living_around := c_CellFloor_living_around) (cl_CellFloor := cl_CellFloor), ⟨a_CellFloor_advance, i_CellFloor_advance, k_CellFloor_advance⟩, b_CellFloor_advance⟩
  have c_CellFloor_size : Mtd l.prog w K mg base 1 C_CellFloor "size" (spO K C_CellFloor 0 R_cSize) := ⟨_, _, _, ok_CellFloor_size F_CellFloor_size (m_len := m_len) (na_CellFloor_cells := na_CellFloor_cells) (cl_CellFloor := cl_CellFloor), ⟨a_CellFloor_size, i_CellFloor_size, k_CellFloor_size⟩, b_CellFloor_size⟩
  have c_CellFloor_board : Mtd l.prog w K mg base 1 C_CellFloor "board" (spO K C_CellFloor 0 R_cBoard) := ⟨_, _, _, ok_CellFloor_board F_CellFloor_board (m_tuple := m_tuple) (m_sorted := m_sorted) (na_CellFloor_cells := na_CellFloor_cells) (cl_CellFloor := cl_CellFloor), ⟨a_CellFloor_board, i_CellFloor_board, k_CellFloor_board⟩, b_CellFloor_board⟩
  have c_floor_of : Cal l.prog w K mg base 4 "floor_of" (spB K 2 (R_floorOf C_BitFloor C_CellFloor)) := ⟨_, _, _, ok_floor_of F_floor_of (c__suits_bits := c__suits_bits) (c_BitFloor_init := c_BitFloor_init) (c_CellFloor_init := c_CellFloor_init), PySem.W.mg_of X G a_floor_of, k_floor_of, b_floor_of⟩
  have c_Run_init : Mkr l.prog w K mg base 5 "Run" C_Run (spI K C_Run 2 (R_rInit C_BitFloor C_CellFloor)) := ⟨_, _, _, ok_Run_init F_Run_init (na_Run_rule := na_Run_rule) (na_Run_floor := na_Run_floor) (na_Run_spare := na_Run_spare) (g_SPARE := g_SPARE) (na_Run_many := na_Run_many) (m_len := m_len) (c_floor_of := c_floor_of) (cl_Run := cl_Run), ⟨mk_Run, a_Run_init, i_Run_init, kc_Run⟩, g_Run, b_Run_init⟩
  have c_Run_advance : Mtd l.prog w K mg base 6 C_Run "advance" (spF K C_Run 0 (R_rAdv2 C_BitFloor C_CellFloor)) := ⟨_, _, _, ok_Run_advance F_Run_advance (na_Run_many := na_Run_many) (g_MOST_CELLS := g_MOST_CELLS) (na_Run_spare := na_Run_spare) (na_Run_floor := na_Run_floor) (na_Run_rule := na_Run_rule) (g_SPARE := g_SPARE) (c_floor_of := c_floor_of) (c_CellFloor_board := c_CellFloor_board) (c_BitFloor_board := c_BitFloor_board) (c_CellFloor_advance := c_CellFloor_advance) (c_BitFloor_advance := c_BitFloor_advance) (c_CellFloor_size := c_CellFloor_size) (c_BitFloor_size := c_BitFloor_size) (cl_BitFloor := cl_BitFloor) (cl_CellFloor := cl_CellFloor) (cl_Run := cl_Run), ⟨a_Run_advance, i_Run_advance, k_Run_advance⟩, b_Run_advance⟩
  have c_Run_board : Mtd l.prog w K mg base 3 C_Run "board" (spF K C_Run 0 (R_rBoard C_BitFloor C_CellFloor)) := ⟨_, _, _, ok_Run_board F_Run_board (na_Run_floor := na_Run_floor) (c_CellFloor_board := c_CellFloor_board) (c_BitFloor_board := c_BitFloor_board) (cl_BitFloor := cl_BitFloor) (cl_CellFloor := cl_CellFloor) (cl_Run := cl_Run), ⟨a_Run_board, i_Run_board, k_Run_board⟩, b_Run_board⟩
  have c_board_after : Cal l.prog w K mg base 7 "board_after" (spD K 3 R_after) := ⟨_, _, _, ok_board_after F_board_after (m_range := m_range) (c_Run_init := c_Run_init) (c_Run_advance := c_Run_advance) (c_Run_board := c_Run_board) (cl_Run := cl_Run), PySem.W.mg_of X G a_board_after, k_board_after, b_board_after⟩
  have c_step : Cal l.prog w K mg base 8 "step" (spD K 2 R_step) := ⟨_, _, _, ok_step F_step (c_check_rule := c_check_rule) (c_check_board := c_check_board) (c_board_after := c_board_after), PySem.W.mg_of X G a_step, k_step, b_step⟩
  have c_LotTaker_number : Mtd l.prog w K mg base 1 C_LotTaker "_number" (spO K C_LotTaker 1 R_num) := ⟨_, _, _, ok_LotTaker_number F_LotTaker_number (na_LotTaker_high := na_LotTaker_high) (cl_LotTaker := cl_LotTaker), ⟨a_LotTaker_number, i_LotTaker_number, k_LotTaker_number⟩, b_LotTaker_number⟩
  have c_LotTaker_init : Mkr l.prog w K mg base 2 "LotTaker" C_LotTaker (spI K C_LotTaker 1 R_lotInit) := ⟨_, _, _, ok_LotTaker_init F_LotTaker_init (na_LotTaker_high := na_LotTaker_high) (na_LotTaker_steps := na_LotTaker_steps) (m_range := m_range) (na_LotTaker_left := na_LotTaker_left) (c_corners := c_corners) (c_LotTaker_number := c_LotTaker_number) (cl_LotTaker := cl_LotTaker), ⟨mk_LotTaker, a_LotTaker_init, i_LotTaker_init, kc_LotTaker⟩, g_LotTaker, b_LotTaker_init⟩
  have c_LotTaker_has : Mtd l.prog w K mg base 3 C_LotTaker "has" (spF K C_LotTaker 1 R_has) := ⟨_, _, _, ok_LotTaker_has F_LotTaker_has (na_LotTaker_left := na_LotTaker_left) (c_LotTaker_number := c_LotTaker_number) (cl_LotTaker := cl_LotTaker), ⟨a_LotTaker_has, i_LotTaker_has, k_LotTaker_has⟩, b_LotTaker_has⟩
  have c_LotTaker_take : Mtd l.prog w K mg base 4 C_LotTaker "take" (spF K C_LotTaker 2 R_take) := ⟨_, _, _, ok_LotTaker_take F_LotTaker_take (na_LotTaker_left := na_LotTaker_left) (m_len := m_len) (na_LotTaker_steps := na_LotTaker_steps) (m_tuple := m_tuple) (m_sorted := m_sorted) (c_LotTaker_number := c_LotTaker_number) (cl_LotTaker := cl_LotTaker), ⟨a_LotTaker_take, i_LotTaker_take, k_LotTaker_take⟩, b_LotTaker_take⟩
  have c_few_lots : Cal l.prog w K mg base 5 "few_lots" (spD K 3 R_few) := ⟨_, _, _, ok_few_lots F_few_lots (m_len := m_len) (c_LotTaker_init := c_LotTaker_init) (c_LotTaker_has := c_LotTaker_has) (c_LotTaker_take := c_LotTaker_take) (cl_LotTaker := cl_LotTaker), PySem.W.mg_of X G a_few_lots, k_few_lots, b_few_lots⟩
  have c_lots_of : Cal l.prog w K mg base 6 "lots_of" (spD K 1 R_lotsOf) := ⟨_, _, _, ok_lots_of F_lots_of (m_len := m_len) (c_few_lots := c_few_lots), PySem.W.mg_of X G a_lots_of, k_lots_of, b_lots_of⟩
  have c_lots : Cal l.prog w K mg base 7 "lots" (spD K 1 R_lots) := ⟨_, _, _, ok_lots F_lots (m_tuple := m_tuple) (c_check_board := c_check_board) (c_lots_of := c_lots_of), PySem.W.mg_of X G a_lots, k_lots, b_lots⟩
  have c_places_near : Cal l.prog w K mg base 1 "places_near" (spD K 1 R_places) := ⟨_, _, _, ok_places_near F_places_near (m_range := m_range), PySem.W.mg_of X G a_places_near, k_places_near, b_places_near⟩
  have c_are_near : Cal l.prog w K mg base 5 "are_near" (spD K 2 R_near) := ⟨_, _, _, ok_are_near F_are_near (m_any := m_any) (c_check_board := c_check_board) (c_states_by_place := c_states_by_place) (c_places_near := c_places_near), PySem.W.mg_of X G a_are_near, k_are_near, b_are_near⟩
  have c_joined : Cal l.prog w K mg base 5 "joined" (spD K 2 R_joined) := ⟨_, _, _, ok_joined F_joined (m_any := m_any) (r_Clash := r_Clash) (m_tuple := m_tuple) (m_sorted := m_sorted) (c_check_board := c_check_board) (c_states_by_place := c_states_by_place), PySem.W.mg_of X G a_joined, k_joined, b_joined⟩
  have z0_law_alike : Cal l.prog w K mg base 1 "_law_alike" (spD K 2 (R_alike 0)) := ⟨_, _, _, alike_vac F_law_alike, PySem.W.mg_of X G a_law_alike, k_law_alike, b_law_alike⟩
  have z1_law_alike : Cal l.prog w K mg base 2 "_law_alike" (spD K 2 (R_alike 1)) := ⟨_, _, _, ok_law_alike (j := 1) (n := 0) F_law_alike (m_isinstance := m_isinstance) (m_list := m_list) (m_tuple := m_tuple) (m_len := m_len) (m_range := m_range) (m_str := m_str) (m_bool := m_bool) (m_int := m_int) (c__law_alike := z0_law_alike), PySem.W.mg_of X G a_law_alike, k_law_alike, b_law_alike⟩
  have z2_law_alike : Cal l.prog w K mg base 3 "_law_alike" (spD K 2 (R_alike 2)) := ⟨_, _, _, ok_law_alike (j := 2) (n := 1) F_law_alike (m_isinstance := m_isinstance) (m_list := m_list) (m_tuple := m_tuple) (m_len := m_len) (m_range := m_range) (m_str := m_str) (m_bool := m_bool) (m_int := m_int) (c__law_alike := z1_law_alike), PySem.W.mg_of X G a_law_alike, k_law_alike, b_law_alike⟩
  have z3_law_alike : Cal l.prog w K mg base 4 "_law_alike" (spD K 2 (R_alike 3)) := ⟨_, _, _, ok_law_alike (j := 3) (n := 2) F_law_alike (m_isinstance := m_isinstance) (m_list := m_list) (m_tuple := m_tuple) (m_len := m_len) (m_range := m_range) (m_str := m_str) (m_bool := m_bool) (m_int := m_int) (c__law_alike := z2_law_alike), PySem.W.mg_of X G a_law_alike, k_law_alike, b_law_alike⟩
  have z4_law_alike : Cal l.prog w K mg base 5 "_law_alike" (spD K 2 (R_alike 4)) := ⟨_, _, _, ok_law_alike (j := 4) (n := 3) F_law_alike (m_isinstance := m_isinstance) (m_list := m_list) (m_tuple := m_tuple) (m_len := m_len) (m_range := m_range) (m_str := m_str) (m_bool := m_bool) (m_int := m_int) (c__law_alike := z3_law_alike), PySem.W.mg_of X G a_law_alike, k_law_alike, b_law_alike⟩
  have z5_law_alike : Cal l.prog w K mg base 6 "_law_alike" (spD K 2 (R_alike 5)) := ⟨_, _, _, ok_law_alike (j := 5) (n := 4) F_law_alike (m_isinstance := m_isinstance) (m_list := m_list) (m_tuple := m_tuple) (m_len := m_len) (m_range := m_range) (m_str := m_str) (m_bool := m_bool) (m_int := m_int) (c__law_alike := z4_law_alike), PySem.W.mg_of X G a_law_alike, k_law_alike, b_law_alike⟩
  have c__law_alike := z5_law_alike
  have c__law_moved : Cal l.prog w K mg base 1 "_law_moved" (spD K 3 R_lmoved) := ⟨_, _, _, ok_law_moved F_law_moved (m_tuple := m_tuple), PySem.W.mg_of X G a_law_moved, k_law_moved, b_law_moved⟩
  have c__law_taken : Cal l.prog w K mg base 1 "_law_taken" (spC K 1 R_taken) := ⟨_, _, _, ok_law_taken F_law_taken (m_int := m_int) (m_len := m_len), PySem.W.mg_of X G a_law_taken, k_law_taken, b_law_taken⟩
  have c__law_signed : Cal l.prog w K mg base 2 "_law_signed" (spC K 1 R_signed) := ⟨_, _, _, ok_law_signed F_law_signed (c__law_taken := c__law_taken), PySem.W.mg_of X G a_law_signed, k_law_signed, b_law_signed⟩
  have c__law_pick : Cal l.prog w K mg base 2 "_law_pick" (spC K 1 R_pick) := ⟨_, _, _, ok_law_pick F_law_pick (m_len := m_len) (c__law_taken := c__law_taken), PySem.W.mg_of X G a_law_pick, k_law_pick, b_law_pick⟩
  have c__law_cells : Cal l.prog w K mg base 2 "_law_cells" (spC K 3 R_cells) := ⟨_, _, _, ok_law_cells F_law_cells (m_range := m_range) (m_tuple := m_tuple) (c__law_taken := c__law_taken), PySem.W.mg_of X G a_law_cells, k_law_cells, b_law_cells⟩
  have c__law_some_rule : Cal l.prog w K mg base 3 "_law_some_rule" (spC K 0 R_someRule) := ⟨_, _, _, ok_law_some_rule F_law_some_rule (m_tuple := m_tuple) (m_range := m_range) (c__law_taken := c__law_taken) (c__law_pick := c__law_pick), PySem.W.mg_of X G a_law_some_rule, k_law_some_rule, b_law_some_rule⟩
  have c__law_are_near : Cal l.prog w K mg base 1 "_law_are_near" (spD K 2 R_lnear) := ⟨_, _, _, ok_law_are_near F_law_are_near (m_dict := m_dict), PySem.W.mg_of X G a_law_are_near, k_law_are_near, b_law_are_near⟩
  have c__law_lots : Cal l.prog w K mg base 2 "_law_lots" (spD K 1 R_llots) := ⟨_, _, _, ok_law_lots F_law_lots (m_list := m_list) (m_tuple := m_tuple) (m_sorted := m_sorted) (c__law_are_near := c__law_are_near), PySem.W.mg_of X G a_law_lots, k_law_lots, b_law_lots⟩
  exact ok_law F_law (m_tuple := m_tuple) (m_sorted := m_sorted) (m_set := m_set) (m_range := m_range) (m_len := m_len) (c__law_some_rule := c__law_some_rule) (c__law_moved := c__law_moved) (c__law_signed := c__law_signed) (c__law_cells := c__law_cells) (c__law_are_near := c__law_are_near) (c__law_alike := c__law_alike) (c_are_near := c_are_near) (c_step := c_step) (c_joined := c_joined) (c_lots := c_lots) (c__law_lots := c__law_lots)
theorem dpa_ints {K : Fg} {G : Hp} : ∀ ns : List Int, DzAll K G (ns.map V.int) (ns.map PyData.int)
  | [] => .nil
  | n :: ns => .cons (Dz.int n) (dpa_ints ns)
theorem walk {l : PySem.W.OpenLaw} {q : Program} {loose : List Str} {XP : (Str → Option Value) → Heap → Prop} {YP : World → Heap → Prop} {d : DefRec} {K : Params → PySem.W.Frag} (hn : l.most = some 63) (hdf : d.params.defaults = [])
    (hY : ∀ (w : World) (h : Heap), YP w h → (K w.params).In h)
    (F : ∀ (w : World) (mg : Str → Option Value) (fa : Addr) (h : Heap), (K w.params).In h → h.Ns mainGlobals mg → mg d.name = some (.ref fa) →
      ∃ fd : FuncData, (∀ (s : Shared) (u : Value), BindsTo s fd ⟨[u], []⟩ [("script", u)]) ∧ ∀ base : Heap, (K w.params).In base → base.Ns mainGlobals mg → FnOk l.prog w (K w.params) mg base (L2.CX l.prog w) 10 fa fd ["script"] (spD (K w.params) 1 R_law)) :
    PySem.W.WalkO q loose XP YP l.row.toRowW d [] (fun f vs => PySem.call f vs) :=
  L2.walk_of (n := 63) (k := 10) (x := "script") (CX := fun w => L2.CX l.prog w) (sp := fun w => spD (K w.params) 1 R_law) hn (by decide) hdf ⟨rfl, by decide, by decide⟩ hY F
    (fun w H a ns hl _ hS => ⟨H, [.list (ns.map .int)], .ok (.bool true), fun _ _ z => z, rfl, .cons (.lst hS (dpa_ints ns)) .nil, ⟨ns, rfl, rfl⟩, fun d hd v G' H' _ av => by cases hd; exact dp_bl av, fun x hx => (nomatch hx)⟩)
    fun w H s e s' z => by obtain ⟨_, _, _, _, _, _, _, _, _, _, _, _, z⟩ := z; exact z
end K03
open PySem PySem.W PyProof.Rows in
set_option maxRecDepth 100000 in
set_option maxHeartbeats 0 in
theorem PySem.Challenge.cw_fateboards_k03_across_boards_apart_holds : PySem.Challenge.rw_fateboards_k03_across_boards_apart.Holds := by
  w_on; o_law; k_head; (case hw => w_witness2)
  k_fill
  refine K03.walk (l := PySem.Challenge.rw_fateboards_k03_across_boards_apart) rfl rfl (fun w h Y => PySem.W.kIn_of Y) ?F
  case F =>
    intro w mg fa h KX G hmg
    refine' K03.all_mk KX G hmg ?a_BitFloor ?pg_BitFloor ?hd_BitFloor ?po_BitFloor ?sa_BitFloor ?mk_BitFloor ?kc_BitFloor ?a_CellFloor ?pg_CellFloor ?hd_CellFloor ?po_CellFloor ?sa_CellFloor ?mk_CellFloor ?kc_CellFloor ?a_LotTaker ?pg_LotTaker ?hd_LotTaker ?po_LotTaker ?sa_LotTaker ?mk_LotTaker ?kc_LotTaker ?a_Run ?pg_Run ?hd_Run ?po_Run ?sa_Run ?mk_Run ?kc_Run ?z_isinstance ?z_int ?z_bool ?z_len ?z_tuple ?z_FAR ?z_enumerate ?z_max ?z_min ?z_SPARE ?z_BITS_AT_LEAST ?z_BITS_FOR_A_CELL ?na_BitFloor_births ?na_BitFloor_stays ?na_BitFloor_states ?na_BitFloor_top ?na_BitFloor_left ?na_BitFloor_high ?na_BitFloor_whole ?na_BitFloor_planes ?z_sum ?z_divmod ?z_sorted ?na_CellFloor_states ?na_CellFloor_stays ?na_CellFloor_births ?na_CellFloor_cells ?na_Run_rule ?na_Run_floor ?na_Run_spare ?na_Run_many ?z_MOST_CELLS ?z_range ?na_LotTaker_high ?na_LotTaker_steps ?na_LotTaker_left ?z_any ?z_list ?z_str ?z_dict ?z_set ?a_BadBoard ?kC_BadBoard ?exC_BadBoard ?tyC_BadBoard ?hdC_BadBoard ?a_Clash ?kC_Clash ?exC_Clash ?tyC_Clash ?hdC_Clash ?q_BadBoard ?cls_BadBoard ?bm_BadBoard ?sa_BadBoard ?noN_BadBoard ?iC_BadBoard ?tC_BadBoard ?veC_BadBoard ?ms_BadBoard ?si_BadBoard ?op_super ?su_super ?l_BadBoard ?c_BadBoard ?cf_BadBoard ?vf_BadBoard ?fe_BadBoard ?cc_BadBoard_ ?ev_BadBoard ?tp_BadBoard ?x_Clash ?sxB ?gaB ?gtB ?caB ?cmB ?cn1 ?ct1 ?a_is_between ?l_is_between ?c_is_between ?k_is_between ?a_is_move ?l_is_move ?c_is_move ?k_is_move ?a_is_cell ?l_is_cell ?c_is_cell ?k_is_cell ?a_check_board ?l_check_board ?c_check_board ?k_check_board ?a_states_by_place ?l_states_by_place ?c_states_by_place ?k_states_by_place ?a_corners ?l_corners ?c_corners ?k_corners ?a_are_counts ?l_are_counts ?c_are_counts ?k_are_counts ?a_is_rule ?l_is_rule ?c_is_rule ?k_is_rule ?a_check_rule ?l_check_rule ?c_check_rule ?k_check_rule ?a_sum_of_three ?l_sum_of_three ?c_sum_of_three ?k_sum_of_three ?a_counts ?l_counts ?c_counts ?k_counts ?a_with_counts ?l_with_counts ?c_with_counts ?k_with_counts ?a_bits ?l_bits ?c_bits ?k_bits ?a_with_margin ?l_with_margin ?c_with_margin ?k_with_margin ?a_suits_bits ?l_suits_bits ?c_suits_bits ?k_suits_bits ?a_BitFloor_init ?i_BitFloor_init ?l_BitFloor_init ?c_BitFloor_init ?k_BitFloor_init ?a_BitFloor_advance ?i_BitFloor_advance ?l_BitFloor_advance ?c_BitFloor_advance ?k_BitFloor_advance ?a_BitFloor_size ?i_BitFloor_size ?l_BitFloor_size ?c_BitFloor_size ?k_BitFloor_size ?a_BitFloor_board ?i_BitFloor_board ?l_BitFloor_board ?c_BitFloor_board ?k_BitFloor_board ?a_CellFloor_init ?i_CellFloor_init ?l_CellFloor_init ?c_CellFloor_init ?k_CellFloor_init ?a_places_around ?l_places_around ?c_places_around ?k_places_around ?a_CellFloor_living_around ?i_CellFloor_living_around ?l_CellFloor_living_around ?c_CellFloor_living_around ?k_CellFloor_living_around ?a_CellFloor_advance ?i_CellFloor_advance ?l_CellFloor_advance ?c_CellFloor_advance ?k_CellFloor_advance ?a_CellFloor_size ?i_CellFloor_size ?l_CellFloor_size ?c_CellFloor_size ?k_CellFloor_size ?a_CellFloor_board ?i_CellFloor_board ?l_CellFloor_board ?c_CellFloor_board ?k_CellFloor_board ?a_floor_of ?l_floor_of ?c_floor_of ?k_floor_of ?a_Run_init ?i_Run_init ?l_Run_init ?c_Run_init ?k_Run_init ?a_Run_advance ?i_Run_advance ?l_Run_advance ?c_Run_advance ?k_Run_advance ?a_Run_board ?i_Run_board ?l_Run_board ?c_Run_board ?k_Run_board ?a_board_after ?l_board_after ?c_board_after ?k_board_after ?a_step ?l_step ?c_step ?k_step ?a_LotTaker_number ?i_LotTaker_number ?l_LotTaker_number ?c_LotTaker_number ?k_LotTaker_number ?a_LotTaker_init ?i_LotTaker_init ?l_LotTaker_init ?c_LotTaker_init ?k_LotTaker_init ?a_LotTaker_has ?i_LotTaker_has ?l_LotTaker_has ?c_LotTaker_has ?k_LotTaker_has ?a_LotTaker_take ?i_LotTaker_take ?l_LotTaker_take ?c_LotTaker_take ?k_LotTaker_take ?a_few_lots ?l_few_lots ?c_few_lots ?k_few_lots ?a_lots_of ?l_lots_of ?c_lots_of ?k_lots_of ?a_lots ?l_lots ?c_lots ?k_lots ?a_places_near ?l_places_near ?c_places_near ?k_places_near ?a_are_near ?l_are_near ?c_are_near ?k_are_near ?a_joined ?l_joined ?c_joined ?k_joined ?a_law_alike ?l_law_alike ?c_law_alike ?k_law_alike ?a_law_moved ?l_law_moved ?c_law_moved ?k_law_moved ?a_law_taken ?l_law_taken ?c_law_taken ?k_law_taken ?a_law_signed ?l_law_signed ?c_law_signed ?k_law_signed ?a_law_pick ?l_law_pick ?c_law_pick ?k_law_pick ?a_law_cells ?l_law_cells ?c_law_cells ?k_law_cells ?a_law_some_rule ?l_law_some_rule ?c_law_some_rule ?k_law_some_rule ?a_law_are_near ?l_law_are_near ?c_law_are_near ?k_law_are_near ?a_law_lots ?l_law_lots ?c_law_lots ?k_law_lots ?a_law ?l_law ?c_law ?k_law
    (case a_BitFloor => k_is)
    (case pg_BitFloor => k_is)
    (case hd_BitFloor => k_is)
    (case po_BitFloor => k_is)
    (case sa_BitFloor => k_is)
    (case mk_BitFloor => k_is)
    (case kc_BitFloor => k_is)
    (case a_CellFloor => k_is)
    (case pg_CellFloor => k_is)
    (case hd_CellFloor => k_is)
    (case po_CellFloor => k_is)
    (case sa_CellFloor => k_is)
    (case mk_CellFloor => k_is)
    (case kc_CellFloor => k_is)
    (case a_LotTaker => k_is)
    (case pg_LotTaker => k_is)
    (case hd_LotTaker => k_is)
    (case po_LotTaker => k_is)
    (case sa_LotTaker => k_is)
    (case mk_LotTaker => k_is)
    (case kc_LotTaker => k_is)
    (case a_Run => k_is)
    (case pg_Run => k_is)
    (case hd_Run => k_is)
    (case po_Run => k_is)
    (case sa_Run => k_is)
    (case mk_Run => k_is)
    (case kc_Run => k_is)
    (case z_isinstance => k_is)
    (case z_int => k_is)
    (case z_bool => k_is)
    (case z_len => k_is)
    (case z_tuple => k_is)
    (case z_FAR => k_is)
    (case z_enumerate => k_is)
    (case z_max => k_is)
    (case z_min => k_is)
    (case z_SPARE => k_is)
    (case z_BITS_AT_LEAST => k_is)
    (case z_BITS_FOR_A_CELL => k_is)
    (case na_BitFloor_births => k_is)
    (case na_BitFloor_stays => k_is)
    (case na_BitFloor_states => k_is)
    (case na_BitFloor_top => k_is)
    (case na_BitFloor_left => k_is)
    (case na_BitFloor_high => k_is)
    (case na_BitFloor_whole => k_is)
    (case na_BitFloor_planes => k_is)
    (case z_sum => k_is)
    (case z_divmod => k_is)
    (case z_sorted => k_is)
    (case na_CellFloor_states => k_is)
    (case na_CellFloor_stays => k_is)
    (case na_CellFloor_births => k_is)
    (case na_CellFloor_cells => k_is)
    (case na_Run_rule => k_is)
    (case na_Run_floor => k_is)
    (case na_Run_spare => k_is)
    (case na_Run_many => k_is)
    (case z_MOST_CELLS => k_is)
    (case z_range => k_is)
    (case na_LotTaker_high => k_is)
    (case na_LotTaker_steps => k_is)
    (case na_LotTaker_left => k_is)
    (case z_any => k_is)
    (case z_list => k_is)
    (case z_str => k_is)
    (case z_dict => k_is)
    (case z_set => k_is)
    (case a_BadBoard => k_is)
    (case kC_BadBoard => k_is)
    (case exC_BadBoard => k_is)
    (case tyC_BadBoard => k_is)
    (case hdC_BadBoard => k_is)
    (case a_Clash => k_is)
    (case kC_Clash => k_is)
    (case exC_Clash => k_is)
    (case tyC_Clash => k_is)
    (case hdC_Clash => k_is)
    (case q_BadBoard => first | kx_is | k_is)
    (case cls_BadBoard => k_is)
    (case bm_BadBoard => first | rfl | decide +kernel | k_is)
    (case sa_BadBoard => k_is)
    (case noN_BadBoard => k_is)
    (case iC_BadBoard => k_is)
    (case tC_BadBoard => k_is)
    (case veC_BadBoard => k_is)
    (case ms_BadBoard => k_is)
    (case si_BadBoard => first | ks_is | k_is)
    (case op_super => k_is)
    (case su_super => k_is)
    (case l_BadBoard => k_is)
    (case c_BadBoard => k_is)
    (case cf_BadBoard => k_is)
    (case vf_BadBoard => first | rfl | decide +kernel | k_is)
    (case fe_BadBoard => first | rfl | decide +kernel | k_is)
    (case cc_BadBoard_ => k_is)
    (case ev_BadBoard => exact ⟨_, fun env => rfl⟩)
    (case tp_BadBoard => first | rfl | decide +kernel | k_is)
    (case x_Clash => first | k_exc | kx_is)
    (case sxB => k_is)
    (case gaB => k_is)
    (case gtB => k_is)
    (case caB => k_is)
    (case cmB => k_is)
    (case cn1 => k_is)
    (case ct1 => k_is)
    (case a_is_between => k_is)
    (case l_is_between => k_is)
    (case c_is_between => k_is)
    (case k_is_between => k_is)
    (case a_is_move => k_is)
    (case l_is_move => k_is)
    (case c_is_move => k_is)
    (case k_is_move => k_is)
    (case a_is_cell => k_is)
    (case l_is_cell => k_is)
    (case c_is_cell => k_is)
    (case k_is_cell => k_is)
    (case a_check_board => k_is)
    (case l_check_board => k_is)
    (case c_check_board => k_is)
    (case k_check_board => k_is)
    (case a_states_by_place => k_is)
    (case l_states_by_place => k_is)
    (case c_states_by_place => k_is)
    (case k_states_by_place => k_is)
    (case a_corners => k_is)
    (case l_corners => k_is)
    (case c_corners => k_is)
    (case k_corners => k_is)
    (case a_are_counts => k_is)
    (case l_are_counts => k_is)
    (case c_are_counts => k_is)
    (case k_are_counts => k_is)
    (case a_is_rule => k_is)
    (case l_is_rule => k_is)
    (case c_is_rule => k_is)
    (case k_is_rule => k_is)
    (case a_check_rule => k_is)
    (case l_check_rule => k_is)
    (case c_check_rule => k_is)
    (case k_check_rule => k_is)
    (case a_sum_of_three => k_is)
    (case l_sum_of_three => k_is)
    (case c_sum_of_three => k_is)
    (case k_sum_of_three => k_is)
    (case a_counts => k_is)
    (case l_counts => k_is)
    (case c_counts => k_is)
    (case k_counts => k_is)
    (case a_with_counts => k_is)
    (case l_with_counts => k_is)
    (case c_with_counts => k_is)
    (case k_with_counts => k_is)
    (case a_bits => k_is)
    (case l_bits => k_is)
    (case c_bits => k_is)
    (case k_bits => k_is)
    (case a_with_margin => k_is)
    (case l_with_margin => k_is)
    (case c_with_margin => k_is)
    (case k_with_margin => k_is)
    (case a_suits_bits => k_is)
    (case l_suits_bits => k_is)
    (case c_suits_bits => k_is)
    (case k_suits_bits => k_is)
    (case a_BitFloor_init => k_is)
    (case i_BitFloor_init => k_is)
    (case l_BitFloor_init => k_is)
    (case c_BitFloor_init => k_is)
    (case k_BitFloor_init => k_is)
    (case a_BitFloor_advance => k_is)
    (case i_BitFloor_advance => k_is)
    (case l_BitFloor_advance => k_is)
    (case c_BitFloor_advance => k_is)
    (case k_BitFloor_advance => k_is)
    (case a_BitFloor_size => k_is)
    (case i_BitFloor_size => k_is)
    (case l_BitFloor_size => k_is)
    (case c_BitFloor_size => k_is)
    (case k_BitFloor_size => k_is)
    (case a_BitFloor_board => k_is)
    (case i_BitFloor_board => k_is)
    (case l_BitFloor_board => k_is)
    (case c_BitFloor_board => k_is)
    (case k_BitFloor_board => k_is)
    (case a_CellFloor_init => k_is)
    (case i_CellFloor_init => k_is)
    (case l_CellFloor_init => k_is)
    (case c_CellFloor_init => k_is)
    (case k_CellFloor_init => k_is)
    (case a_places_around => k_is)
    (case l_places_around => k_is)
    (case c_places_around => k_is)
    (case k_places_around => k_is)
    (case a_CellFloor_living_around => k_is)
    (case i_CellFloor_living_around => k_is)
    (case l_CellFloor_living_around => k_is)
    (case c_CellFloor_living_around => k_is)
    (case k_CellFloor_living_around => k_is)
    (case a_CellFloor_advance => k_is)
    (case i_CellFloor_advance => k_is)
    (case l_CellFloor_advance => k_is)
    (case c_CellFloor_advance => k_is)
    (case k_CellFloor_advance => k_is)
    (case a_CellFloor_size => k_is)
    (case i_CellFloor_size => k_is)
    (case l_CellFloor_size => k_is)
    (case c_CellFloor_size => k_is)
    (case k_CellFloor_size => k_is)
    (case a_CellFloor_board => k_is)
    (case i_CellFloor_board => k_is)
    (case l_CellFloor_board => k_is)
    (case c_CellFloor_board => k_is)
    (case k_CellFloor_board => k_is)
    (case a_floor_of => k_is)
    (case l_floor_of => k_is)
    (case c_floor_of => k_is)
    (case k_floor_of => k_is)
    (case a_Run_init => k_is)
    (case i_Run_init => k_is)
    (case l_Run_init => k_is)
    (case c_Run_init => k_is)
    (case k_Run_init => k_is)
    (case a_Run_advance => k_is)
    (case i_Run_advance => k_is)
    (case l_Run_advance => k_is)
    (case c_Run_advance => k_is)
    (case k_Run_advance => k_is)
    (case a_Run_board => k_is)
    (case i_Run_board => k_is)
    (case l_Run_board => k_is)
    (case c_Run_board => k_is)
    (case k_Run_board => k_is)
    (case a_board_after => k_is)
    (case l_board_after => k_is)
    (case c_board_after => k_is)
    (case k_board_after => k_is)
    (case a_step => k_is)
    (case l_step => k_is)
    (case c_step => k_is)
    (case k_step => k_is)
    (case a_LotTaker_number => k_is)
    (case i_LotTaker_number => k_is)
    (case l_LotTaker_number => k_is)
    (case c_LotTaker_number => k_is)
    (case k_LotTaker_number => k_is)
    (case a_LotTaker_init => k_is)
    (case i_LotTaker_init => k_is)
    (case l_LotTaker_init => k_is)
    (case c_LotTaker_init => k_is)
    (case k_LotTaker_init => k_is)
    (case a_LotTaker_has => k_is)
    (case i_LotTaker_has => k_is)
    (case l_LotTaker_has => k_is)
    (case c_LotTaker_has => k_is)
    (case k_LotTaker_has => k_is)
    (case a_LotTaker_take => k_is)
    (case i_LotTaker_take => k_is)
    (case l_LotTaker_take => k_is)
    (case c_LotTaker_take => k_is)
    (case k_LotTaker_take => k_is)
    (case a_few_lots => k_is)
    (case l_few_lots => k_is)
    (case c_few_lots => k_is)
    (case k_few_lots => k_is)
    (case a_lots_of => k_is)
    (case l_lots_of => k_is)
    (case c_lots_of => k_is)
    (case k_lots_of => k_is)
    (case a_lots => k_is)
    (case l_lots => k_is)
    (case c_lots => k_is)
    (case k_lots => k_is)
    (case a_places_near => k_is)
    (case l_places_near => k_is)
    (case c_places_near => k_is)
    (case k_places_near => k_is)
    (case a_are_near => k_is)
    (case l_are_near => k_is)
    (case c_are_near => k_is)
    (case k_are_near => k_is)
    (case a_joined => k_is)
    (case l_joined => k_is)
    (case c_joined => k_is)
    (case k_joined => k_is)
    (case a_law_alike => k_is)
    (case l_law_alike => k_is)
    (case c_law_alike => k_is)
    (case k_law_alike => k_is)
    (case a_law_moved => k_is)
    (case l_law_moved => k_is)
    (case c_law_moved => k_is)
    (case k_law_moved => k_is)
    (case a_law_taken => k_is)
    (case l_law_taken => k_is)
    (case c_law_taken => k_is)
    (case k_law_taken => k_is)
    (case a_law_signed => k_is)
    (case l_law_signed => k_is)
    (case c_law_signed => k_is)
    (case k_law_signed => k_is)
    (case a_law_pick => k_is)
    (case l_law_pick => k_is)
    (case c_law_pick => k_is)
    (case k_law_pick => k_is)
    (case a_law_cells => k_is)
    (case l_law_cells => k_is)
    (case c_law_cells => k_is)
    (case k_law_cells => k_is)
    (case a_law_some_rule => k_is)
    (case l_law_some_rule => k_is)
    (case c_law_some_rule => k_is)
    (case k_law_some_rule => k_is)
    (case a_law_are_near => k_is)
    (case l_law_are_near => k_is)
    (case c_law_are_near => k_is)
    (case k_law_are_near => k_is)
    (case a_law_lots => k_is)
    (case l_law_lots => k_is)
    (case c_law_lots => k_is)
    (case k_law_lots => k_is)
    (case a_law => k_is)
    (case l_law => k_is)
    (case c_law => k_is)
    (case k_law => k_is)
