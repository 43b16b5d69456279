import PyProof.Rows.All
import Wide.All
import OpenK.AllK
import Wide.FinOn
import HandS.ForMost
import HandS.Deep
import HandS.Evl
import KE.KDictKeyed
import HandS.IsInst
import HandS.TupAny
import HandS.FStr
import HandS.Codes
import HandS.WordsExc
import HandS.ExcOwn
import HandS.TupLe
import HandS.Wide
import HandS.RaiseMore
import HandS.Style
import KE.KExcSuper
import HandS.ForExc
import KE.KExcIs
import HandS.ExcIs
import HandS.ExcField
import HandS.Gcd
import KE.GoesEnum
import HandS.DictComp
import KE.KDictPairs
import KE.KSortTupUse
import PyProof.FString3
import PyProof.Rows.StrIntSpec
import PyProof.StrLawsFrom
import PyProof.Rows.RegReprOcc
import HandS.WideBits
import HandS.StrMore
import KE.OsArith
import HandS.Iter
import HandS.TryOnly
import HandS.DictTup
import KE.KDictCopyH
import KE.KDictSum
import HandS.TupMul
import KE.DataMinMax
import PyProof.P3Eq
import KE.DatumOrd
import KE.SortData
import HandS.TupSets
import HandS.Replace
import HandS.Conv
import HandS.More
import HandS.SortInts
import KE.KMathGC
import HandS.TupLen
import KE.DataCmp
import PySem.Challenge.RW_fateboards_k26_whole_what_came_before
set_option Elab.async false
set_option linter.all false
set_option maxRecDepth 100000
set_option maxHeartbeats 4000000
set_option autoImplicit false
namespace Z
open PySem PySem.Spec PyProof.Rows L2
open Evl (Ex)
/-! ### dicts keyed by tuples of whole numbers and of such tuples -/
mutual
def nk : PyData → Option NestedKey
  | .int i => some (.num i)
  | .tuple ds => (nkAll ds).map .tup
  | _ => none
def nkAll : List PyData → Option (List NestedKey)
  | [] => some []
  | d :: ds => match nk d, nkAll ds with
    | some k, some ks => some (k :: ks)
    | _, _ => none
end
theorem nk_str (x : Str) : nk (.str x) = none := by simp [nk]
mutual
/-- a value that is a key: whole numbers, tuples that are told -/
inductive NKV (H : Hp) : V → NestedKey → Prop
  | int (i : Int) : NKV H (.int i) (.num i)
  | tup {p : Addr} {vs : List V} {ks : List NestedKey} (at_ : H p = some (.tup vs)) (all : NKAll H vs ks) : NKV H (.ref p) (.tup ks)
inductive NKAll (H : Hp) : List V → List NestedKey → Prop
  | nil : NKAll H [] []
  | cons {u : V} {us : List V} {k : NestedKey} {ks : List NestedKey} (hd : NKV H u k) (tl : NKAll H us ks) : NKAll H (u :: us) (k :: ks)
end
mutual
theorem NKV.mono {H H' : Hp} (e : ∀ a xs, H a = some (.tup xs) → H' a = some (.tup xs)) : ∀ {v : V} {k : NestedKey}, NKV H v k → NKV H' v k
  | _, _, .int i => .int i
  | _, _, .tup a r => .tup (e _ _ a) (NKAll.mono e r)
theorem NKAll.mono {H H' : Hp} (e : ∀ a xs, H a = some (.tup xs) → H' a = some (.tup xs)) : ∀ {vs : List V} {ks : List NestedKey}, NKAll H vs ks → NKAll H' vs ks
  | _, _, .nil => .nil
  | _, _, .cons a b => .cons (NKV.mono e a) (NKAll.mono e b)
end
section
variable {P : Program} {w : World} {H : Hp} {h : Heap}
mutual
theorem NKV.is (ok : HOk P w H h) : ∀ {v : V} {k : NestedKey} {u : Value}, NKV H v k → RelV v u → NestedIs h k u
  | _, _, u, .int i, r => by
    obtain ⟨t, rfl⟩ : ∃ t, u = .int i t := r
    exact .int i t
  | _, _, u, .tup (p := p) (vs := vs) a b, r => by
    cases (show u = Value.ref p from r)
    obtain ⟨_, its, rr, o, h1, h2, n, h3⟩ := (show ObjOk P w H h p (.tup vs) from ok p _ a)
    exact .tup h1 h2 h3 (NKAll.is ok b (by simpa using rr))
theorem NKAll.is (ok : HOk P w H h) : ∀ {vs : List V} {ks : List NestedKey} {us : List Value}, NKAll H vs ks → Vals vs us → NestedAll h ks us
  | _, _, _, .nil, .nil => .nil
  | _, _, _, .cons a b, .cons r s => .cons (NKV.is ok a r) (NKAll.is ok b s)
end
end
/-! the hash of such a key asks no world -/
mutual
def plainN : NestedKey → Bool
  | .num _ => true
  | .tup ks => plainNs ks
  | _ => false
def plainNs : List NestedKey → Bool
  | [] => true
  | k :: ks => plainN k && plainNs ks
end
mutual
def hashN : NestedKey → Int
  | .num i => hashInt i
  | .tup ks => reduceHash (Builtin.Tuple.tupleHashOf (hashNs ks))
  | _ => 0
def hashNs : List NestedKey → List Int
  | [] => []
  | k :: ks => hashN k :: hashNs ks
end
mutual
theorem hash_plain (w : World) : ∀ k : NestedKey, plainN k = true → k.hash w = hashN k
  | .num i, _ => by rw [NestedKey.hash, hashN]
  | .tup ks, h => by
    rw [plainN] at h
    rw [NestedKey.hash, hashN, hashes_plain w ks h]
  | .none, h => by rw [plainN] at h <;> first | exact nomatch h | (intros; exact NestedKey.noConfusion)
  | .text _, h => by rw [plainN] at h <;> first | exact nomatch h | (intros; exact NestedKey.noConfusion)
theorem hashes_plain (w : World) : ∀ ks : List NestedKey, plainNs ks = true → NestedKey.hashes w ks = hashNs ks
  | [], _ => by rw [NestedKey.hashes, hashNs]
  | k :: ks, h => by
    rw [plainNs, Bool.and_eq_true] at h
    rw [NestedKey.hashes, hashNs, hash_plain w k h.1, hashes_plain w ks h.2]
end
/-! the dict -/
/-- at p stands a dict of such keys, each with the address of its tuple -/
def DnOk (p : Addr) (ws : List (NestedKey × Addr × V)) (h : Heap) : Prop := ws.length ≤ sizeLine ∧ (p == sysModules) = false ∧ (∀ x ∈ ws, plainN x.1 = true ∧ x.1.depth ≤ 8) ∧ ∃ xs : List (NestedKey × Addr × Value),
  Paired (fun (a : NestedKey × Addr × V) (b : NestedKey × Addr × Value) => a.1 = b.1 ∧ a.2.1 = b.2.1 ∧ RelV a.2.2 b.2.2) ws xs ∧
  ∃ o es ep, h.get? p = some o ∧ o.ExactDict ∧ o.data = .dict es ep ∧ es.toList = xs.map (fun x => ⟨hashN x.1, .ref x.2.1, x.2.2⟩) ∧ (xs.map (·.1)).Nodup
def dnO (p : Addr) (ws : List (NestedKey × Addr × V)) : HO := .ext (DnOk p ws)
section
variable {P : Program} {w : World} {H : Hp} {h : Heap} {p : Addr} {ws : List (NestedKey × Addr × V)}
theorem dn_at (ok : HOk P w H h) (e : H p = some (dnO p ws)) : DnOk p ws h := (show ObjOk P w H h p (dnO p ws) from ok p _ e).1
/-- what the library says of it, where the keys' tuples are told -/
theorem DnOk.dict (x : DnOk p ws h) (hk : ∀ y ∈ ws, NestedIs h y.1 (.ref y.2.1)) : ws.length ≤ sizeLine ∧ (p == sysModules) = false ∧ ∃ xs : List (NestedKey × Addr × Value),
    Paired (fun (a : NestedKey × Addr × V) (b : NestedKey × Addr × Value) => a.1 = b.1 ∧ a.2.1 = b.2.1 ∧ RelV a.2.2 b.2.2) ws xs ∧ h.DictOfH (nestedKind P w) p xs := by
  obtain ⟨a, b, c, xs, r, o, es, ep, h1, h2, h3, h4, h5⟩ := x
  have each : ∀ {l : List (NestedKey × Addr × V)} {m : List (NestedKey × Addr × Value)}, Paired (fun (a : NestedKey × Addr × V) (b : NestedKey × Addr × Value) => a.1 = b.1 ∧ a.2.1 = b.2.1 ∧ RelV a.2.2 b.2.2) l m →
      (∀ y ∈ l, (plainN y.1 = true ∧ y.1.depth ≤ 8) ∧ NestedIs h y.1 (.ref y.2.1)) → ∀ x ∈ m, plainN x.1 = true ∧ x.1.depth ≤ 8 ∧ NestedIs h x.1 (.ref x.2.1) := by
    intro l m q
    induction q with
    | nil => exact fun _ x hx => nomatch hx
    | @cons y z ys zs hq t ih =>
      intro hl x hx
      rcases List.mem_cons.mp hx with e | hx
      · subst e
        have := hl y List.mem_cons_self
        rw [hq.1, hq.2.1] at this
        exact ⟨this.1.1, this.1.2, this.2⟩
      · exact ih (fun y hy => hl y (List.mem_cons_of_mem _ hy)) x hx
  have all := each r fun y hy => ⟨c y hy, hk y hy⟩
  refine ⟨a, b, xs, r, o, es, ep, h1, h2, h3, ?_, fun x hx => ⟨(all x hx).2.2, (all x hx).2.1⟩, h5⟩
  rw [h4]
  refine List.map_congr_left fun x hx => ?_
  show (⟨hashN x.1, .ref x.2.1, x.2.2⟩ : DictEntry) = ⟨x.1.hash w, .ref x.2.1, x.2.2⟩
  rw [hash_plain w x.1 (all x hx).1]
end
/-! what is held, and what is written -/
abbrev NW := List (NestedKey × Addr × V)
abbrev NX := List (NestedKey × Addr × Value)
abbrev SameN : NestedKey × Addr × V → NestedKey × Addr × Value → Prop := fun a b => a.1 = b.1 ∧ a.2.1 = b.2.1 ∧ RelV a.2.2 b.2.2
def heldN (ws : NW) (k : NestedKey) : Option V := (ws.find? fun x => decide (x.1 = k)).map fun x => x.2.2
def storeN (ws : NW) (k : NestedKey) (b : Addr) (v : V) : NW := if (heldN ws k).isSome then ws.map fun x => if x.1 = k then (x.1, x.2.1, v) else x else ws ++ [(k, b, v)]
theorem paired_app {α β : Type} {F : α → β → Prop} : ∀ {l : List α} {m : List β} {a : α} {b : β}, Paired F l m → F a b → Paired F (l ++ [a]) (m ++ [b])
  | _, _, _, _, .nil, h => .cons h .nil
  | _, _, _, _, .cons x y, h => .cons x (paired_app y h)
section
variable {X : Cx} {pins : List (Addr × Obj)} {σ : L2.St} {H : Hp} {s : Shared} {p b : Addr} {v : V} {u : Value} {A : Around} {E : Value → Shared → Prop} {ws : NW} {k : NestedKey}
/-- the dict, and all its keys told -/
structure DnH (H : Hp) (p : Addr) (ws : NW) : Prop where
  at_ : H p = some (dnO p ws)
  keys : ∀ x ∈ ws, NKV H (.ref x.2.1) x.1
theorem DnH.of (d : DnH H p ws) (I : Inv X pins σ H s) : ws.length ≤ sizeLine ∧ (p == sysModules) = false ∧ ∃ xs : NX, Paired SameN ws xs ∧ s.heap.DictOfH (nestedKind X.prog X.w) p xs :=
  (dn_at I.hok d.at_).dict fun y hy => NKV.is I.hok (d.keys y hy) rfl
end
/-! what is asked of such a dict in a text -/
def tNewN : TE := fun _ H Q => ∀ p, H p = none → Q (.ref p) (upd H p (dnO p []))
def tGetN (td tk : TE) : TE := fun σ H Q => td σ H fun x H1 => tk σ H1 fun y H2 => ∃ p ws b k v, x = .ref p ∧ y = .ref b ∧ DnH H2 p ws ∧ NKV H2 (.ref b) k ∧ k.depth ≤ 8 ∧ heldN ws k = some v ∧ Q v H2
def sPutN (td tk tv : TE) : TS := fun D σ H => tv σ H fun z H1 => td σ H1 fun x H2 => tk σ H2 fun y H3 => ∃ p ws b k, x = .ref p ∧ y = .ref b ∧ DnH H3 p ws ∧ NKV H3 (.ref b) k ∧ k.depth ≤ 8 ∧ ws.length < sizeLine ∧ D.nx σ (upd H3 p (dnO p (storeN ws k b z)))
section
variable {X : Cx} {o i e : Expr} {pos pos2 : Pos} {td tk tv : TE}
/-- D.get(key, x) -/
def tGet2N (td tk tx : TE) : TE := fun σ H Q => td σ H fun x H1 => ∃ p ws1, x = .ref p ∧ DnH H1 p ws1 ∧ tk σ H1 fun y H2 => tx σ H2 fun z H3 => ∃ ws b k, y = .ref b ∧ DnH H3 p ws ∧ NKV H3 (.ref b) k ∧ k.depth ≤ 8 ∧ Q ((heldN ws k).getD z) H3
end
end Z
namespace Z
open PySem PySem.Spec PyProof.Rows L2
open Evl (Ex)
/-! ### data in a growing frozen part G of the heap H; own cells beside it -/
/-- a tuple that is told: as it was made, or a constant row that begins with a text -/
def TupR (K : PySem.W.Frag) (G : Hp) (a : Addr) (xs : List V) : Prop := G a = some (.tup xs) ∨ (SqT K G a xs ∧ ∃ s r, xs = V.str s :: r)
/-! data that stands in G: of its tuples it is known how they were made (so they can be keys) -/
mutual
inductive Dz (K : PySem.W.Frag) (G : Hp) : V → PyData → Prop
  | int (i : Int) : Dz K G (.int i) (.int i)
  | str (x : Str) : Dz K G (.str x) (.str x)
  | bl (b : Bool) : Dz K G (.bl b) (.bool b)
  | non : Dz K G .non .none
  | tup {p : Addr} {vs : List V} {zs : List PyData} (at_ : TupR K G p vs) (all : DzAll K G vs zs) : Dz K G (.ref p) (.tuple zs)
  | lst {p : Addr} {vs : List V} {zs : List PyData} (at_ : SqL K G p vs) (all : DzAll K G vs zs) : Dz K G (.ref p) (.list zs)
inductive DzAll (K : PySem.W.Frag) (G : Hp) : List V → List PyData → Prop
  | nil : DzAll K G [] []
  | cons {u : V} {us : List V} {z : PyData} {zs : List PyData} (hd : Dz K G u z) (tl : DzAll K G us zs) : DzAll K G (u :: us) (z :: zs)
end
theorem TupR.sq {K : PySem.W.Frag} {G : Hp} {a : Addr} {xs : List V} (h : TupR K G a xs) : SqT K G a xs := h.elim Evl.st_of And.left
theorem TupR.mono {K : PySem.W.Frag} {G G' : Hp} {a : Addr} {xs : List V} (e : Ex G G') (h : TupR K G a xs) : TupR K G' a xs := h.elim (fun q => .inl (e _ _ q)) fun q => .inr ⟨Evl.ex_t e q.1, q.2⟩
/-- what is raised, as data: its class, its fields -/
structure XD where
  cls : Addr
  fs : List (Str × PyData)
/-- d | c an own cell | e a caught exception, its class, its dict, what it is | f a dict, o an object that nobody writes any more | l, t a list, a tuple of such -/
inductive ZV where
  | d (x : PyData)
  | c (p : Addr)
  | f (kvs : List (List Key × PyData))
  | e (a : Addr) (cls : Value) (dd : Option Addr) (x : XD)
  | o (C : Addr) (fs : List (Str × ZV))
  | l (zs : List ZV)
  | t (zs : List ZV)
abbrev Fg := PySem.W.Frag
abbrev Zs : Type := List (Option ZV)
def XAt (K : Fg) (G : Hp) (cls : Value) (d : Option Addr) (x : XD) : Prop := cls = .ref x.cls ∧ match x.fs with
  | [] => d = none
  | f :: fs => ∃ dd fv, d = some dd ∧ G dd = some (.xd fv) ∧ Paired (fun (a : Str × V) (b : Str × PyData) => a.1 = b.1 ∧ Dz K G a.2 b.2) fv (f :: fs)
/-! what stands in G and holds more than data -/
mutual
inductive Fz (K : Fg) (G : Hp) : V → ZV → Prop
  | d {v : V} {x : PyData} (h : Dz K G v x) : Fz K G v (.d x)
  | f {p : Addr} {ws : List (List Key × V)} {kvs : List (List Key × PyData)} (at_ : G p = some (.dT ws)) (h : Paired (fun (a : List Key × V) (b : List Key × PyData) => a.1 = b.1 ∧ Dz K G a.2 b.2) ws kvs) : Fz K G (.ref p) (.f kvs)
  | o {p C : Addr} {dx : Addr} {fv : List (Str × V)} {fs : List (Str × ZV)} (at_ : G p = some (.ins C dx fv)) (h : FzF K G fv fs) : Fz K G (.ref p) (.o C fs)
  | l {p : Addr} {ws : List V} {zs : List ZV} (at_ : G p = some (.lst ws)) (h : FzAll K G ws zs) : Fz K G (.ref p) (.l zs)
  | t {p : Addr} {ws : List V} {zs : List ZV} (at_ : G p = some (.tup ws)) (h : FzAll K G ws zs) : Fz K G (.ref p) (.t zs)
inductive FzAll (K : Fg) (G : Hp) : List V → List ZV → Prop
  | nil : FzAll K G [] []
  | cons {u : V} {us : List V} {z : ZV} {zs : List ZV} (hd : Fz K G u z) (tl : FzAll K G us zs) : FzAll K G (u :: us) (z :: zs)
inductive FzF (K : Fg) (G : Hp) : List (Str × V) → List (Str × ZV) → Prop
  | nil : FzF K G [] []
  | cons {m : Str} {u : V} {us : List (Str × V)} {z : ZV} {zs : List (Str × ZV)} (hd : Fz K G u z) (tl : FzF K G us zs) : FzF K G ((m, u) :: us) ((m, z) :: zs)
end
def ZV.at (K : Fg) (G : Hp) (v : V) : ZV → Prop
  | .d x => Dz K G v x
  | .c p => v = .ref p
  | .f kvs => ∃ p ws, v = .ref p ∧ G p = some (.dT ws) ∧ Paired (fun (a : List Key × V) (b : List Key × PyData) => a.1 = b.1 ∧ Dz K G a.2 b.2) ws kvs
  | .e a cls dd x => v = .ref a ∧ XAt K G cls dd x
  | .o C fs => Fz K G v (.o C fs)
  | .l zs => Fz K G v (.l zs)
  | .t zs => Fz K G v (.t zs)
abbrev ZAll (K : Fg) (G : Hp) : List V → List ZV → Prop := Paired (fun v z => ZV.at K G v z)
inductive CD where
  | lst (xs : List PyData)
  | obj (C : Addr) (fs : List (Str × ZV))
  | dT (kvs : List (List Key × PyData))
  | dK (kvs : List (Key × PyData))
  | lz (zs : List ZV)
  | dz (kvs : List (List Key × ZV))
  | lk (od : Obj) (ws : List (List Key × V)) (kvs : List (List Key × ZV))
  | dN (kvs : List (PyData × PyData))
def CD.at (K : Fg) (G H : Hp) (p : Addr) : CD → Prop
  | .lst xs => ∃ ws, H p = some (.lst ws) ∧ DzAll K G ws xs
  | .obj C fs => ∃ dx fv, H p = some (.ins C dx fv) ∧ H dx = some (.own p) ∧ G dx = none ∧ Paired (fun (a : Str × V) (b : Str × ZV) => a.1 = b.1 ∧ ZV.at K G a.2 b.2) fv fs
  | .dT kvs => ∃ ws, H p = some (.dT ws) ∧ Paired (fun (a : List Key × V) (b : List Key × PyData) => a.1 = b.1 ∧ Dz K G a.2 b.2) ws kvs
  | .dK kvs => ∃ ws, H p = some (.dK ws) ∧ Paired (fun (a : Key × V) (b : Key × PyData) => a.1 = b.1 ∧ Dz K G a.2 b.2) ws kvs
  | .lz zs => ∃ ws, H p = some (.lst ws) ∧ ZAll K G ws zs
  | .lk od ws kvs => H p = some (.frz od (.dT ws)) ∧ Paired (fun (a : List Key × V) (b : List Key × ZV) => a.1 = b.1 ∧ ZV.at K G a.2 b.2) ws kvs
  | .dz kvs => ∃ ws, H p = some (.dT ws) ∧ Paired (fun (a : List Key × V) (b : List Key × ZV) => a.1 = b.1 ∧ ZV.at K G a.2 b.2) ws kvs
  | .dN kvs => ∃ ws, H p = some (dnO p ws) ∧ Paired (fun (a : NestedKey × Addr × V) (b : PyData × PyData) => nk b.1 = some a.1 ∧ Dz K G (.ref a.2.1) b.1 ∧ Dz K G a.2.2 b.2) ws kvs
abbrev Ms : Type := List (Addr × Bool × CD)
mutual
theorem dp_mono {K : Fg} {G G' : Hp} (e : Ex G G') : ∀ {d : PyData} {v : V}, Dz K G v d → Dz K G' v d
  | _, _, .non => .non
  | _, _, .bl b => .bl b
  | _, _, .int i => .int i
  | _, _, .str s => .str s
  | _, _, .lst s a => .lst (Evl.ex_l e s) (dpAll_mono e a)
  | _, _, .tup s a => .tup (s.mono e) (dpAll_mono e a)
theorem dpAll_mono {K : Fg} {G G' : Hp} (e : Ex G G') : ∀ {ds : List PyData} {vs : List V}, DzAll K G vs ds → DzAll K G' vs ds
  | _, _, .nil => .nil
  | _, _, .cons a b => .cons (dp_mono e a) (dpAll_mono e b)
end
mutual
theorem dz_dp {K : Fg} {G : Hp} : ∀ {d : PyData} {v : V}, Dz K G v d → L2.Dp K G v d
  | _, _, .non => .non
  | _, _, .bl b => .bl b
  | _, _, .int i => .int i
  | _, _, .str s => .str s
  | _, _, .lst s a => .lst s (dzAll_dp a)
  | _, _, .tup s a => .tup s.sq (dzAll_dp a)
theorem dzAll_dp {K : Fg} {G : Hp} : ∀ {ds : List PyData} {vs : List V}, DzAll K G vs ds → L2.DpAll K G vs ds
  | _, _, .nil => .nil
  | _, _, .cons a b => .cons (dz_dp a) (dzAll_dp b)
end
theorem paired_mono {α β : Type} {F F' : α → β → Prop} (h : ∀ a b, F a b → F' a b) : ∀ {l : List α} {m : List β}, Paired F l m → Paired F' l m
  | _, _, .nil => .nil
  | _, _, .cons a b => .cons (h _ _ a) (paired_mono h b)
theorem xat_mono {K : Fg} {G G' : Hp} (e : Ex G G') {cls : Value} {d : Option Addr} {x : XD} (h : XAt K G cls d x) : XAt K G' cls d x := by
  obtain ⟨h1, h2⟩ := h
  refine ⟨h1, ?_⟩
  split at h2
  · exact h2
  · obtain ⟨dd, fv, q1, q2, q3⟩ := h2
    exact ⟨dd, fv, q1, e _ _ q2, paired_mono (fun a b q => ⟨q.1, dp_mono e q.2⟩) q3⟩
mutual
theorem fz_mono {K : Fg} {G G' : Hp} (e : Ex G G') : ∀ {z : ZV} {v : V}, Fz K G v z → Fz K G' v z
  | _, _, .d h => .d (dp_mono e h)
  | _, _, .f a h => .f (e _ _ a) (paired_mono (fun _ _ q => ⟨q.1, dp_mono e q.2⟩) h)
  | _, _, .o a h => .o (e _ _ a) (fzF_mono e h)
  | _, _, .l a h => .l (e _ _ a) (fzAll_mono e h)
  | _, _, .t a h => .t (e _ _ a) (fzAll_mono e h)
theorem fzAll_mono {K : Fg} {G G' : Hp} (e : Ex G G') : ∀ {zs : List ZV} {vs : List V}, FzAll K G vs zs → FzAll K G' vs zs
  | _, _, .nil => .nil
  | _, _, .cons a b => .cons (fz_mono e a) (fzAll_mono e b)
theorem fzF_mono {K : Fg} {G G' : Hp} (e : Ex G G') : ∀ {zs : List (Str × ZV)} {vs : List (Str × V)}, FzF K G vs zs → FzF K G' vs zs
  | _, _, .nil => .nil
  | _, _, .cons a b => .cons (fz_mono e a) (fzF_mono e b)
end
theorem ZV.mono {K : Fg} {G G' : Hp} (e : Ex G G') {v : V} : ∀ {z : ZV}, ZV.at K G v z → ZV.at K G' v z
  | .d _, h => dp_mono e h
  | .c _, h => h
  | .f _, ⟨p, ws, h1, h2, h3⟩ => ⟨p, ws, h1, e _ _ h2, paired_mono (fun a b q => ⟨q.1, dp_mono e q.2⟩) h3⟩
  | .e _ _ _ _, h => ⟨h.1, xat_mono e h.2⟩
  | .o _ _, h => fz_mono e h
  | .l _, h => fz_mono e h
  | .t _, h => fz_mono e h
theorem zall_mono {K : Fg} {G G' : Hp} (e : Ex G G') : ∀ {zs : List ZV} {vs : List V}, ZAll K G vs zs → ZAll K G' vs zs
  | _, _, .nil => .nil
  | _, _, .cons a b => .cons (ZV.mono e a) (zall_mono e b)
/-- a cell's content stands, where its own addresses do -/
theorem CD.stay {K : Fg} {G G' H H' : Hp} {p : Addr} {c : CD} (h : CD.at K G H p c) (e : Ex G G') (hp : ∀ o, H p = some o → H' p = some o) (hd : ∀ a x, H a = some (.own x) → H' a = some (.own x) ∧ (G a = none → G' a = none)) : CD.at K G' H' p c := by
  cases c with
  | lst xs => obtain ⟨ws, h1, h2⟩ := h; exact ⟨ws, hp _ h1, dpAll_mono e h2⟩
  | obj C fs =>
    obtain ⟨dx, fv, h1, h2, h3, h4⟩ := h
    exact ⟨dx, fv, hp _ h1, (hd _ _ h2).1, (hd _ _ h2).2 h3, paired_mono (fun a b q => ⟨q.1, ZV.mono e q.2⟩) h4⟩
  | dT kvs => obtain ⟨ws, h1, h2⟩ := h; exact ⟨ws, hp _ h1, paired_mono (fun a b q => ⟨q.1, dp_mono e q.2⟩) h2⟩
  | dK kvs => obtain ⟨ws, h1, h2⟩ := h; exact ⟨ws, hp _ h1, paired_mono (fun a b q => ⟨q.1, dp_mono e q.2⟩) h2⟩
  | lz zs => obtain ⟨ws, h1, h2⟩ := h; exact ⟨ws, hp _ h1, zall_mono e h2⟩
  | lk od ws kvs => obtain ⟨h1, h2⟩ := h; exact ⟨hp _ h1, paired_mono (fun a b q => ⟨q.1, ZV.mono e q.2⟩) h2⟩
  | dz kvs => obtain ⟨ws, h1, h2⟩ := h; exact ⟨ws, hp _ h1, paired_mono (fun a b q => ⟨q.1, ZV.mono e q.2⟩) h2⟩
  | dN kvs => obtain ⟨ws, h1, h2⟩ := h; exact ⟨ws, hp _ h1, paired_mono (fun a b q => ⟨q.1, dp_mono e q.2.1, dp_mono e q.2.2⟩) h2⟩
theorem CD.there {K : Fg} {G H : Hp} {p : Addr} {c : CD} (h : CD.at K G H p c) : ∃ o, H p = some o ∧ (∀ x, o ≠ .own x) ∧ ∀ xs, o ≠ .tup xs := by
  cases c with
  | lst xs => obtain ⟨ws, h1, _⟩ := h; exact ⟨_, h1, (fun _ q => nomatch q), fun _ q => nomatch q⟩
  | obj C fs => obtain ⟨dx, fv, h1, _⟩ := h; exact ⟨_, h1, (fun _ q => nomatch q), fun _ q => nomatch q⟩
  | dT kvs => obtain ⟨ws, h1, _⟩ := h; exact ⟨_, h1, (fun _ q => nomatch q), fun _ q => nomatch q⟩
  | dK kvs => obtain ⟨ws, h1, _⟩ := h; exact ⟨_, h1, (fun _ q => nomatch q), fun _ q => nomatch q⟩
  | lz zs => obtain ⟨ws, h1, _⟩ := h; exact ⟨_, h1, (fun _ q => nomatch q), fun _ q => nomatch q⟩
  | lk od ws kvs => obtain ⟨h1, _⟩ := h; exact ⟨_, h1, (fun _ q => nomatch q), fun _ q => nomatch q⟩
  | dz kvs => obtain ⟨ws, h1, _⟩ := h; exact ⟨_, h1, (fun _ q => nomatch q), fun _ q => nomatch q⟩
  | dN kvs => obtain ⟨ws, h1, _⟩ := h; exact ⟨_, h1, (fun _ q => nomatch q), fun _ q => nomatch q⟩
/-- what is not frozen, or a tuple that came to be known -/
theorem gn_none {G H : Hp} {a : Addr} {u : HO} (e : Ex G H) (f : G a = none ∨ ∃ xs, G a = some (.tup xs)) (h : H a = some u) (nt : ∀ xs, u ≠ .tup xs) : G a = none := by
  rcases f with f | ⟨xs, f⟩
  · exact f
  · have := e _ _ f
    rw [h] at this
    exact absurd (Option.some.inj this) (nt xs)
theorem gn_trans {G G' : Hp} {a : Addr} (e : Ex G G') (f : G a = none ∨ ∃ xs, G a = some (.tup xs)) (g : G a = none → G' a = none ∨ ∃ xs, G' a = some (.tup xs)) : G' a = none ∨ ∃ xs, G' a = some (.tup xs) := by
  rcases f with f | ⟨xs, f⟩
  · exact g f
  · exact .inr ⟨xs, e _ _ f⟩
/-! ### the state, seen from the entry n of the def -/
structure Sn where
  G : Hp
  H : Hp
  A : List Addr
structure Rel (K : Fg) (n : Sn) (S : Zs) (M : Ms) (σ : L2.St) (G H : Hp) : Prop where
  ex : Ex G H
  len : σ.length = S.length
  sl : ∀ (i : Nat) (z : ZV), S[i]? = some (some z) → ∃ v, σ[i]? = some (some v) ∧ ZV.at K G v z
  nd : (M.map (·.1)).Nodup
  ce : ∀ p b c, (p, b, c) ∈ M → G p = none ∧ CD.at K G H p c
  g0 : Ex n.G G
  h0 : ∀ a o, n.H a = some o → a ∉ n.A → H a = some o
  lv : ∀ a o, n.H a = some o → ∃ o', H a = some o'
  f0 : ∀ a o, n.H a = some o → n.G a = none → G a = none ∨ ∃ xs, G a = some (.tup xs)
  a0 : ∀ p c, (p, false, c) ∈ M → p ∈ n.A
  o0 : ∀ p c, (p, true, c) ∈ M → n.H p = none
section
variable {K : Fg} {n : Sn} {S S' : Zs} {M M' : Ms} {σ σ' : L2.St} {G G' H H' : Hp} {p : Addr} {o : HO}
theorem ex_upd (e : Ex G H) (hp : G p = none) : Ex G (upd H p o) := fun a u h => by
  rw [upd_ne (ne_of_none h hp)]
  exact e a u h
theorem ex_both (e : Ex G H) : Ex (upd G p o) (upd H p o) := fun a u h => by
  by_cases q : a = p
  · subst q
    rw [upd_same] at h ⊢
    exact h
  · rw [upd_ne q] at h ⊢
    exact e a u h
theorem ex_gnone (e : Ex G H) (h : H p = none) : G p = none := Evl.fresh_back e h
/-- a new frozen thing -/
theorem Rel.new (R : Rel K n S M σ G H) (hp : H p = none) (hno : ∀ x, o ≠ .own x) : Rel K n S M σ (upd G p o) (upd H p o) where
  ex := ex_both R.ex
  len := R.len
  sl := fun i z e => by
    obtain ⟨v, h1, h2⟩ := R.sl i z e
    exact ⟨v, h1, ZV.mono (Ex.new (ex_gnone R.ex hp)) h2⟩
  nd := R.nd
  ce := fun q b c hm => by
    obtain ⟨h1, h2⟩ := R.ce q b c hm
    obtain ⟨u, hu, _⟩ := CD.there h2
    have qp : q ≠ p := ne_of_none hu hp
    refine ⟨by rw [upd_ne qp]; exact h1, CD.stay h2 (Ex.new (ex_gnone R.ex hp)) (fun o' h => by rw [upd_ne qp]; exact h) fun a x h => ?_⟩
    have ap : a ≠ p := ne_of_none h hp
    exact ⟨by rw [upd_ne ap]; exact h, fun g => by rw [upd_ne ap]; exact g⟩
  g0 := R.g0.trans (Ex.new (ex_gnone R.ex hp))
  h0 := fun a u h1 h2 => by
    have q := R.h0 a u h1 h2
    rw [upd_ne (ne_of_none q hp)]
    exact q
  lv := fun a u h1 => by
    obtain ⟨o', q⟩ := R.lv a u h1
    exact ⟨o', by rw [upd_ne (ne_of_none q hp)]; exact q⟩
  f0 := fun a u h1 h2 => by
    obtain ⟨o', q⟩ := R.lv a u h1
    rw [upd_ne (ne_of_none q hp)]
    exact R.f0 a u h1 h2
  a0 := R.a0
  o0 := R.o0
theorem Rel.fresh (R : Rel K n S M σ G H) (hp : H p = none) : n.H p = none := by
  cases e : n.H p with
  | none => rfl
  | some u =>
    obtain ⟨o', q⟩ := R.lv p u e
    rw [hp] at q
    cases q
theorem Rel.notin (R : Rel K n S M σ G H) (hp : H p = none) : p ∉ M.map (·.1) := fun hm => by
  obtain ⟨⟨q, b, c⟩, h1, h2⟩ := List.mem_map.mp hm
  obtain ⟨u, hu, _⟩ := CD.there (R.ce q b c h1).2
  have e : q = p := h2
  rw [e, hp] at hu
  cases hu
/-- an object laid beside (its own dict ..): neither frozen nor a cell -/
theorem Rel.lay (R : Rel K n S M σ G H) (hp : H p = none) : Rel K n S M σ G (upd H p o) where
  ex := ex_upd R.ex (ex_gnone R.ex hp)
  len := R.len
  sl := R.sl
  nd := R.nd
  ce := fun q b c hm => by
    obtain ⟨h1, h2⟩ := R.ce q b c hm
    obtain ⟨u, hu, _⟩ := CD.there h2
    have qp : q ≠ p := ne_of_none hu hp
    refine ⟨h1, CD.stay h2 (Ex.refl G) (fun o' h => by rw [upd_ne qp]; exact h) fun a x h => ?_⟩
    exact ⟨by rw [upd_ne (ne_of_none h hp)]; exact h, fun g => g⟩
  g0 := R.g0
  h0 := fun a u h1 h2 => by
    have q := R.h0 a u h1 h2
    rw [upd_ne (ne_of_none q hp)]
    exact q
  lv := fun a u h1 => by
    obtain ⟨o', q⟩ := R.lv a u h1
    exact ⟨o', by rw [upd_ne (ne_of_none q hp)]; exact q⟩
  f0 := R.f0
  a0 := R.a0
  o0 := R.o0
/-- what was laid beside becomes a cell -/
theorem Rel.cell {c : CD} (R : Rel K n S M σ G H) (hn : n.H p = none) (hm : p ∉ M.map (·.1)) (hg : G p = none) (hc : CD.at K G H p c) : Rel K n S ((p, true, c) :: M) σ G H where
  ex := R.ex
  len := R.len
  sl := R.sl
  nd := List.nodup_cons.mpr ⟨hm, R.nd⟩
  ce := fun q b c' h => by
    rcases List.mem_cons.mp h with e | h
    · cases e
      exact ⟨hg, hc⟩
    · exact R.ce q b c' h
  g0 := R.g0
  h0 := R.h0
  lv := R.lv
  f0 := R.f0
  a0 := fun q c' h => by
    rcases List.mem_cons.mp h with e | h
    · cases e
    · exact R.a0 q c' h
  o0 := fun q c' h => by
    rcases List.mem_cons.mp h with e | h
    · cases e
      exact hn
    · exact R.o0 q c' h
theorem Rel.newLst {ws : List V} {xs : List PyData} (R : Rel K n S M σ G H) (hp : H p = none) (h : DzAll K G ws xs) : Rel K n S ((p, true, .lst xs) :: M) σ G (upd H p (.lst ws)) :=
  (R.lay hp).cell (R.fresh hp) (R.notin hp) (ex_gnone R.ex hp) ⟨ws, upd_same, h⟩
/-- one entry of the cells is changed, is taken out -/
inductive Upd1 (p : Addr) (b : Bool) (c c' : CD) : Ms → Ms → Prop
  | here {M : Ms} : Upd1 p b c c' ((p, b, c) :: M) ((p, b, c') :: M)
  | there {q : Addr × Bool × CD} {M M' : Ms} : Upd1 p b c c' M M' → Upd1 p b c c' (q :: M) (q :: M')
inductive Rem1 (p : Addr) (b : Bool) (c : CD) : Ms → Ms → Prop
  | here {M : Ms} : Rem1 p b c ((p, b, c) :: M) M
  | there {q : Addr × Bool × CD} {M M' : Ms} : Rem1 p b c M M' → Rem1 p b c (q :: M) (q :: M')
theorem Upd1.mem {b : Bool} {c c' : CD} (u : Upd1 p b c c' M M') : (p, b, c) ∈ M := by
  induction u with
  | here => exact List.mem_cons_self
  | there _ ih => exact List.mem_cons_of_mem _ ih
theorem Upd1.fst {b : Bool} {c c' : CD} (u : Upd1 p b c c' M M') : M'.map (·.1) = M.map (·.1) := by
  induction u with
  | here => rfl
  | there _ ih => simp only [List.map_cons, ih]
theorem Upd1.of {b : Bool} {c c' : CD} (u : Upd1 p b c c' M M') (nd : (M.map (·.1)).Nodup) : ∀ q b' e, (q, b', e) ∈ M' → (q = p ∧ b' = b ∧ e = c') ∨ (q ≠ p ∧ (q, b', e) ∈ M) := by
  induction u with
  | here =>
    intro q b' e h
    rcases List.mem_cons.mp h with z | h
    · cases z
      exact .inl ⟨rfl, rfl, rfl⟩
    · refine .inr ⟨fun z => ?_, List.mem_cons_of_mem _ h⟩
      have hp := List.mem_map_of_mem (f := (·.1)) h
      have hp : q ∈ _ := hp
      rw [z] at hp
      exact (List.nodup_cons.mp nd).1 hp
  | @there r M M' v ih =>
    intro q b' e h
    rcases List.mem_cons.mp h with z | h
    · subst z
      refine .inr ⟨fun z => ?_, List.mem_cons_self⟩
      have z : q = p := z
      have hp := List.mem_map_of_mem (f := (·.1)) v.mem
      rw [← z] at hp
      exact (List.nodup_cons.mp nd).1 hp
    · rcases ih (List.nodup_cons.mp nd).2 q b' e h with z | ⟨z1, z2⟩
      · exact .inl z
      · exact .inr ⟨z1, List.mem_cons_of_mem _ z2⟩
theorem Rem1.mem {b : Bool} {c : CD} (u : Rem1 p b c M M') : (p, b, c) ∈ M := by
  induction u with
  | here => exact List.mem_cons_self
  | there _ ih => exact List.mem_cons_of_mem _ ih
theorem Rem1.sub {b : Bool} {c : CD} (u : Rem1 p b c M M') : M'.Sublist M := by
  induction u with
  | here => exact List.sublist_cons_self _ _
  | there _ ih => exact ih.cons₂ _
theorem Rem1.ne {b : Bool} {c : CD} (u : Rem1 p b c M M') (nd : (M.map (·.1)).Nodup) : ∀ q ∈ M', q.1 ≠ p := by
  induction u with
  | here =>
    intro q h z
    rw [← z] at nd
    exact (List.nodup_cons.mp nd).1 (List.mem_map_of_mem (f := (·.1)) h)
  | @there r M M' v ih =>
    intro q h
    rcases List.mem_cons.mp h with z | h
    · intro e
      have hp := List.mem_map_of_mem (f := (·.1)) v.mem
      rw [z] at e
      rw [← e] at hp
      exact (List.nodup_cons.mp nd).1 hp
    · exact ih (List.nodup_cons.mp nd).2 q h
/-- a cell is written -/
theorem Rel.put {b : Bool} {c c' : CD} (R : Rel K n S M σ G H) (u : Upd1 p b c c' M M') (hno : ∀ x, H p ≠ some (.own x)) (hc : CD.at K G (upd H p o) p c') : Rel K n S M' σ G (upd H p o) := by
  have hm := u.mem
  obtain ⟨hg, hcd⟩ := R.ce p b c hm
  obtain ⟨u0, hu0, _⟩ := CD.there hcd
  have np : ∀ a o', n.H a = some o' → a ∉ n.A → a ≠ p := fun a o' h1 h2 z => by
    subst z
    cases b with
    | false => exact h2 (R.a0 _ _ hm)
    | true => rw [R.o0 _ _ hm] at h1; cases h1
  refine ⟨ex_upd R.ex hg, R.len, R.sl, by rw [u.fst]; exact R.nd, fun q b' e h => ?_, R.g0, fun a o' h1 h2 => ?_, fun a o' h1 => ?_, R.f0, fun q e h => ?_, fun q e h => ?_⟩
  · rcases u.of R.nd q b' e h with ⟨rfl, rfl, rfl⟩ | ⟨z1, z2⟩
    · exact ⟨hg, hc⟩
    · obtain ⟨h1, h2⟩ := R.ce q b' e z2
      refine ⟨h1, CD.stay h2 (Ex.refl G) (fun o' h => by rw [upd_ne z1]; exact h) fun a x h => ⟨?_, fun g => g⟩⟩
      rw [upd_ne (fun z => hno x (by rw [← z]; exact h))]
      exact h
  · rw [upd_ne (np a o' h1 h2)]
    exact R.h0 a o' h1 h2
  · by_cases z : a = p
    · subst z
      exact ⟨_, upd_same⟩
    · obtain ⟨o2, q⟩ := R.lv a o' h1
      exact ⟨o2, by rw [upd_ne z]; exact q⟩
  · rcases u.of R.nd q false e h with ⟨rfl, z, _⟩ | ⟨_, z⟩
    · subst z
      exact R.a0 _ _ hm
    · exact R.a0 q e z
  · rcases u.of R.nd q true e h with ⟨rfl, z, _⟩ | ⟨_, z⟩
    · subst z
      exact R.o0 _ _ hm
    · exact R.o0 q e z
theorem Rel.putLst {b : Bool} {xs ys : List PyData} {ws : List V} (R : Rel K n S M σ G H) (u : Upd1 p b (.lst xs) (.lst ys) M M') (h : DzAll K G ws ys) : Rel K n S M' σ G (upd H p (.lst ws)) := by
  obtain ⟨_, vs, h1, _⟩ := R.ce p b _ u.mem
  exact R.put u (fun x z => by rw [h1] at z; cases z) ⟨ws, upd_same, h⟩
/-- an own list that nobody will change any more -/
theorem Rel.frz {xs : List PyData} (R : Rel K n S M σ G H) (u : Rem1 p true (.lst xs) M M') : ∃ G', Ex G G' ∧ Rel K n S M' σ G' H ∧ Dz K G' (.ref p) (.list xs) := by
  obtain ⟨hg, ws, h1, h2⟩ := R.ce p true _ u.mem
  refine ⟨upd G p (.lst ws), Ex.new hg, ⟨fun a o' h => ?_, R.len, fun i z e => ?_, R.nd.sublist (u.sub.map _), fun q b c h => ?_, R.g0.trans (Ex.new hg), R.h0, R.lv, fun a o' q1 q2 => ?_, fun q c h => R.a0 q c (u.sub.subset h), fun q c h => R.o0 q c (u.sub.subset h)⟩, ?_⟩
  · by_cases z : a = p
    · subst z
      rw [upd_same] at h
      rw [h1]; exact h
    · rw [upd_ne z] at h
      exact R.ex a o' h
  · obtain ⟨v, q1, q2⟩ := R.sl i z e
    exact ⟨v, q1, ZV.mono (Ex.new hg) q2⟩
  · obtain ⟨q1, q2⟩ := R.ce q b c (u.sub.subset h)
    have z := u.ne R.nd _ h
    refine ⟨by rw [upd_ne z]; exact q1, CD.stay q2 (Ex.new hg) (fun o' h => h) fun a x h => ⟨h, fun g => ?_⟩⟩
    rw [upd_ne (fun z => by rw [z, h1] at h; cases h)]
    exact g
  · have z : a ≠ p := fun z => by rw [z, R.o0 _ _ u.mem] at q1; cases q1
    rw [upd_ne z]
    exact R.f0 a o' q1 q2
  · exact .lst (Evl.sq_of upd_same) (dpAll_mono (Ex.new hg) h2)
/-- a tuple that stands in the heap comes to be known -/
theorem Rel.tell {xs : List V} (R : Rel K n S M σ G H) (h : H p = some (.tup xs)) : ∃ G', Ex G G' ∧ Rel K n S M σ G' H ∧ G' p = some (.tup xs) := by
  cases hg : G p with
  | some o =>
    have := R.ex _ _ hg
    rw [h] at this
    cases this
    exact ⟨G, Ex.refl G, R, hg⟩
  | none =>
    refine ⟨upd G p (.tup xs), Ex.new hg, ⟨fun a o' e => ?_, R.len, fun i z e => ?_, R.nd, fun q b c hm => ?_, R.g0.trans (Ex.new hg), R.h0, R.lv, fun a o' q1 q2 => ?_, R.a0, R.o0⟩, upd_same⟩
    · by_cases z : a = p
      · subst z; rw [upd_same] at e; rw [h]; exact e
      · rw [upd_ne z] at e; exact R.ex a o' e
    · obtain ⟨v, q1, q2⟩ := R.sl i z e
      exact ⟨v, q1, ZV.mono (Ex.new hg) q2⟩
    · obtain ⟨q1, q2⟩ := R.ce q b c hm
      obtain ⟨u, hu, no, nt⟩ := CD.there q2
      have z : q ≠ p := fun z => by rw [z, h] at hu; exact nt _ (Option.some.inj hu).symm
      refine ⟨by rw [upd_ne z]; exact q1, CD.stay q2 (Ex.new hg) (fun o' h => h) fun a x h' => ⟨h', fun g => ?_⟩⟩
      rw [upd_ne (fun z => by rw [z, h] at h'; cases h')]
      exact g
    · by_cases z : a = p
      · subst z; exact .inr ⟨xs, upd_same⟩
      · rw [upd_ne z]; exact R.f0 a o' q1 q2
/-- slots -/
theorem Rel.set {i : Nat} {v : V} {z : ZV} (R : Rel K n S M σ G H) (h : ZV.at K G v z) : Rel K n (S.set i (some z)) M (σ.set i (some v)) G H := by
  refine ⟨R.ex, by simp [R.len], fun j z' e => ?_, R.nd, R.ce, R.g0, R.h0, R.lv, R.f0, R.a0, R.o0⟩
  by_cases q : i = j
  · subst q
    rw [List.getElem?_set] at e
    simp only [if_true] at e
    split at e
    · rename_i hl
      cases e
      exact ⟨v, by rw [List.getElem?_set]; simp [R.len, hl], h⟩
    · cases e
  · rw [List.getElem?_set_ne q] at e
    obtain ⟨u, h1, h2⟩ := R.sl j z' e
    exact ⟨u, by rw [List.getElem?_set_ne q]; exact h1, h2⟩
theorem Rel.unset {i : Nat} (R : Rel K n S M σ G H) : Rel K n (S.set i none) M (σ.set i none) G H := by
  refine ⟨R.ex, by simp [R.len], fun j z' e => ?_, R.nd, R.ce, R.g0, R.h0, R.lv, R.f0, R.a0, R.o0⟩
  by_cases q : i = j
  · subst q
    rw [List.getElem?_set] at e
    simp only [if_true] at e
    split at e <;> cases e
  · rw [List.getElem?_set_ne q] at e
    obtain ⟨u, h1, h2⟩ := R.sl j z' e
    exact ⟨u, by rw [List.getElem?_set_ne q]; exact h1, h2⟩
/-- cells may be forgotten -/
theorem Rel.drop (R : Rel K n S M σ G H) (h : M'.Sublist M) : Rel K n S M' σ G H :=
  ⟨R.ex, R.len, R.sl, R.nd.sublist (h.map _), fun p b c q => R.ce p b c (h.subset q), R.g0, R.h0, R.lv, R.f0, fun p c q => R.a0 p c (h.subset q), fun p c q => R.o0 p c (h.subset q)⟩
end
/-! ### what a call leaves: A the cells it may write -/
structure Ext (A : List Addr) (G H G' H' : Hp) : Prop where
  g : Ex G G'
  h : ∀ a o, H a = some o → a ∉ A → H' a = some o
  l : ∀ a o, H a = some o → ∃ o', H' a = some o'
  x : Ex G' H'
  f : ∀ a o, H a = some o → G a = none → G' a = none ∨ ∃ xs, G' a = some (.tup xs)
section
variable {K : Fg} {n : Sn} {S S' : Zs} {M M' : Ms} {σ σ' : L2.St} {G G' H H' : Hp} {p : Addr}
theorem Rel.ext (R : Rel K n S M σ G H) : Ext n.A n.G n.H G H := ⟨R.g0, R.h0, R.lv, R.ex, R.f0⟩
/-- behind a call that writes no cell -/
theorem Rel.call (R : Rel K n S M σ G H) (e : Ext [] G H G' H') : Rel K n S M σ G' H' := by
  have hh : Ex H H' := fun a o h => e.h a o h (by simp)
  refine ⟨e.x, R.len, fun i z q => ?_, R.nd, fun q b c hm => ?_, R.g0.trans e.g, fun a o h1 h2 => hh a o (R.h0 a o h1 h2), fun a o h1 => ?_, fun a o h1 h2 => ?_, R.a0, R.o0⟩
  · obtain ⟨v, h1, h2⟩ := R.sl i z q
    exact ⟨v, h1, ZV.mono e.g h2⟩
  · obtain ⟨h1, h2⟩ := R.ce q b c hm
    obtain ⟨u, hu, _, nt⟩ := CD.there h2
    exact ⟨gn_none e.x (e.f q u hu h1) (hh _ _ hu) nt, CD.stay h2 e.g (fun o h => hh _ _ h) fun a x h => ⟨hh _ _ h, fun g => gn_none e.x (e.f a _ h g) (hh _ _ h) (fun _ z => nomatch z)⟩⟩
  · obtain ⟨o', q⟩ := R.lv a o h1
    exact e.l a o' q
  · obtain ⟨o', q⟩ := R.lv a o h1
    exact gn_trans e.g (R.f0 a o h1 h2) (e.f a o' q)
/-- behind a call that writes one cell -/
theorem Rel.call1 {b : Bool} {c c' : CD} (R : Rel K n S M σ G H) (e : Ext [p] G H G' H') (u : Upd1 p b c c' M M') (hd : ∀ a x, H a = some (.own x) → H' a = some (.own x)) (hc : CD.at K G' H' p c') : Rel K n S M' σ G' H' := by
  have hm := u.mem
  obtain ⟨hg, hcd⟩ := R.ce p b c hm
  obtain ⟨u0, hu0, _⟩ := CD.there hcd
  refine ⟨e.x, R.len, fun i z q => ?_, by rw [u.fst]; exact R.nd, fun q b' e' h => ?_, R.g0.trans e.g, fun a o h1 h2 => ?_, fun a o h1 => ?_, fun a o h1 h2 => ?_, fun q e' h => ?_, fun q e' h => ?_⟩
  · obtain ⟨v, h1, h2⟩ := R.sl i z q
    exact ⟨v, h1, ZV.mono e.g h2⟩
  · rcases u.of R.nd q b' e' h with ⟨rfl, rfl, rfl⟩ | ⟨z1, z2⟩
    · obtain ⟨u2, hu2, _, nt⟩ := CD.there hc
      exact ⟨gn_none e.x (e.f q _ hu0 hg) hu2 nt, hc⟩
    · obtain ⟨h1, h2⟩ := R.ce q b' e' z2
      obtain ⟨u1, hu1, _, nt⟩ := CD.there h2
      exact ⟨gn_none e.x (e.f q u1 hu1 h1) (e.h _ _ hu1 (by simpa using z1)) nt, CD.stay h2 e.g (fun o h => e.h _ _ h (by simpa using z1)) fun a x h => ⟨hd a x h, fun g => gn_none e.x (e.f a _ h g) (hd a x h) (fun _ z => nomatch z)⟩⟩
  · have np : a ∉ [p] := by
      intro z
      have z : a = p := by simpa using z
      subst z
      cases b with
      | false => exact h2 (R.a0 _ _ hm)
      | true => rw [R.o0 _ _ hm] at h1; cases h1
    exact e.h a o (R.h0 a o h1 h2) np
  · obtain ⟨o', q⟩ := R.lv a o h1
    exact e.l a o' q
  · obtain ⟨o', q⟩ := R.lv a o h1
    exact gn_trans e.g (R.f0 a o h1 h2) (e.f a o' q)
  · rcases u.of R.nd q false e' h with ⟨rfl, z, _⟩ | ⟨_, z⟩
    · subst z
      exact R.a0 _ _ hm
    · exact R.a0 q e' z
  · rcases u.of R.nd q true e' h with ⟨rfl, z, _⟩ | ⟨_, z⟩
    · subst z
      exact R.o0 _ _ hm
    · exact R.o0 q e' z
end
end Z
namespace Z
open PySem PySem.Spec PyProof.Rows L2
open Evl (Ex)
/-! ### the judgements: readings over data -/
abbrev QZ := ZV → Ms → Prop
abbrev XZ := XD → Zs → Ms → Prop
def XOk (K : Fg) (E : XK) (n : Sn) (σ : L2.St) (G : Hp) (X : XZ) : Prop := ∀ cls d G' H' x S' M', Ex G G' → Rel K n S' M' σ G' H' → XAt K G' cls d x → X x S' M' → E cls d H'
def ZW (K : Fg) (E : L2.St → XK) (te : TE) (S : Zs) (M : Ms) (Q : QZ) (X : XZ) : Prop := ∀ (n : Sn) (σ : L2.St) (G H : Hp), Rel K n S M σ G H → ∀ Qv : VK,
  (∀ v G' H' z M', Ex G G' → Rel K n S M' σ G' H' → ZV.at K G' v z → Q z M' → Qv v H') → XOk K (E σ) n σ G X → te σ H Qv
def ZA (K : Fg) (E : L2.St → XK) (ta : TA) (S : Zs) (M : Ms) (Q : List ZV → Ms → Prop) (X : XZ) : Prop := ∀ (n : Sn) (σ : L2.St) (G H : Hp), Rel K n S M σ G H → ∀ Qv : List V → Hp → Prop,
  (∀ vs G' H' zs M', Ex G G' → Rel K n S M' σ G' H' → ZAll K G' vs zs → Q zs M' → Qv vs H') → XOk K (E σ) n σ G X → ta σ H Qv
def ZT (K : Fg) (E : L2.St → XK) (tt : TT) (S : Zs) (M : Ms) (Q : Bool → Ms → Prop) (X : XZ) : Prop := ∀ (n : Sn) (σ : L2.St) (G H : Hp), Rel K n S M σ G H → ∀ Qv : Bool → Hp → Prop,
  (∀ b G' H' M', Ex G G' → Rel K n S M' σ G' H' → Q b M' → Qv b H') → XOk K (E σ) n σ G X → tt σ H Qv
structure ZP where
  nx : Zs → Ms → Prop
  rt : QZ
  bk : Zs → Ms → Prop
  ct : Zs → Ms → Prop
  ex : XZ
structure DOk (K : Fg) (E : L2.St → XK) (n : Sn) (G : Hp) (P : ZP) (D : Ends) : Prop where
  nx : ∀ σ' G' H' S' M', Ex G G' → Rel K n S' M' σ' G' H' → P.nx S' M' → D.nx σ' H'
  rt : ∀ v σ' G' H' z S' M', Ex G G' → Rel K n S' M' σ' G' H' → ZV.at K G' v z → P.rt z M' → D.rt v H'
  bk : ∀ σ' G' H' S' M', Ex G G' → Rel K n S' M' σ' G' H' → P.bk S' M' → D.bk σ' H'
  ct : ∀ σ' G' H' S' M', Ex G G' → Rel K n S' M' σ' G' H' → P.ct S' M' → D.ct σ' H'
  ex : ∀ cls d σ' G' H' x S' M', Ex G G' → Rel K n S' M' σ' G' H' → XAt K G' cls d x → P.ex x S' M' → E σ' cls d H'
theorem DOk.mono {K : Fg} {E : L2.St → XK} {n : Sn} {G G' : Hp} {P : ZP} {D : Ends} (k : DOk K E n G P D) (e : Ex G G') : DOk K E n G' P D :=
  ⟨fun a b c d f g => k.nx a b c d f (e.trans g), fun a b c d f h i g => k.rt a b c d f h i (e.trans g), fun a b c d f g => k.bk a b c d f (e.trans g), fun a b c d f g => k.ct a b c d f (e.trans g), fun a b c d f h i j g => k.ex a b c d f h i j (e.trans g)⟩
def ZS (K : Fg) (E : L2.St → XK) (t : TS) (S : Zs) (M : Ms) (P : ZP) : Prop := ∀ (n : Sn) (σ : L2.St) (G H : Hp), Rel K n S M σ G H → ∀ D, DOk K E n G P D → t D σ H
section
variable {K : Fg} {E : L2.St → XK} {e0 : XK} {te ta tb tc : TE} {tA : TA} {t u : TT} {S S' : Zs} {M M' : Ms} {Q : QZ} {X : XZ} {n : Sn} {σ : L2.St} {G G' H H' : Hp}
theorem XOk.mono (h : XOk K e0 n σ G X) (e : Ex G G') : XOk K e0 n σ G' X := fun cls d G2 H2 x S2 M2 e2 => h cls d G2 H2 x S2 M2 (e.trans e2)
theorem ZW.imp {Q' : QZ} (h : ZW K E te S M Q X) (i : ∀ z M', Q z M' → Q' z M') : ZW K E te S M Q' X := fun n σ G H R Qv q x => h n σ G H R Qv (fun v G' H' z M' e R' a b => q v G' H' z M' e R' a (i _ _ b)) x
/-! ### expressions -/
theorem zw_var {i : Nat} {z : ZV} (h : S[i]? = some (some z)) (q : Q z M) : ZW K E (tVar i) S M Q X := fun n σ G H R Qv k _ => by
  obtain ⟨v, h1, h2⟩ := R.sl i z h
  exact ⟨v, h1, k v G H z M (Ex.refl G) R h2 q⟩
theorem zw_c {v : V} {d : PyData} (h : ∀ H, Dz K H v d) (q : Q (.d d) M) : ZW K E (tC v) S M Q X := fun n σ G H R Qv k _ => k v G H (.d d) M (Ex.refl G) R (h G) q
theorem zw_int {i : Int} (q : Q (.d (.int i)) M) : ZW K E (tC (.int i)) S M Q X := zw_c (fun _ => .int i) q
theorem zw_str {x : Str} (q : Q (.d (.str x)) M) : ZW K E (tC (.str x)) S M Q X := zw_c (fun _ => .str x) q
theorem zw_bl {b : Bool} (q : Q (.d (.bool b)) M) : ZW K E (tC (.bl b)) S M Q X := zw_c (fun _ => .bl b) q
theorem zw_non (q : Q (.d .none) M) : ZW K E (tC .non) S M Q X := zw_c (fun _ => .non) q
/-- an operation on values, over data -/
def ZO (K : Fg) (r : R2) (x y : ZV) (M : Ms) (Q : QZ) : Prop := ∀ (n : Sn) (S : Zs) (σ : L2.St) (G H : Hp), Rel K n S M σ G H → ∀ v u, ZV.at K G v x → ZV.at K G u y → ∀ Qv : VK,
  (∀ w G' H' z M', Ex G G' → Rel K n S M' σ G' H' → ZV.at K G' w z → Q z M' → Qv w H') → r v u H Qv
theorem zw_op {r : R2} (h : ZW K E ta S M (fun x M1 => ZW K E tb S M1 (fun y M2 => ZO K r x y M2 Q) X) X) : ZW K E (tOp r ta tb) S M Q X := fun n σ G H R Qv k kx =>
  h n σ G H R _ (fun v G1 H1 x M1 e1 R1 a1 h1 => h1 n σ G1 H1 R1 _ (fun u G2 H2 y M2 e2 R2 a2 h2 => h2 n S σ G2 H2 R2 v u (ZV.mono e2 a1) a2 Qv
    fun w G3 H3 z M3 e3 R3 a3 q => k w G3 H3 z M3 ((e1.trans e2).trans e3) R3 a3 q) (kx.mono e1)) kx
def ZU (K : Fg) (r : V → Hp → VK → Prop) (x : ZV) (M : Ms) (Q : QZ) : Prop := ∀ (n : Sn) (S : Zs) (σ : L2.St) (G H : Hp), Rel K n S M σ G H → ∀ v, ZV.at K G v x → ∀ Qv : VK,
  (∀ w G' H' z M', Ex G G' → Rel K n S M' σ G' H' → ZV.at K G' w z → Q z M' → Qv w H') → r v H Qv
theorem zw_un {r : V → Hp → VK → Prop} (h : ZW K E ta S M (fun x M1 => ZU K r x M1 Q) X) : ZW K E (tUn r ta) S M Q X := fun n σ G H R Qv k kx =>
  h n σ G H R _ (fun v G1 H1 x M1 e1 R1 a1 h1 => h1 n S σ G1 H1 R1 v a1 Qv fun w G3 H3 z M3 e3 R3 a3 q => k w G3 H3 z M3 (e1.trans e3) R3 a3 q) kx
/-- the plain ones: a value that is there already, nothing made -/
theorem zo_val {r : R2} {x y : ZV} {z : ZV} (h : ∀ G H v u, Ex G H → ZV.at K G v x → ZV.at K G u y → ∃ w, ZV.at K G w z ∧ ∀ Qv : VK, Qv w H → r v u H Qv) (q : Q z M) : ZO K r x y M Q := fun n S σ G H R v u a b Qv k => by
  obtain ⟨w, h1, h2⟩ := h G H v u R.ex a b
  exact h2 Qv (k w G H z M (Ex.refl G) R h1 q)
theorem dp_int {G : Hp} {v : V} {i : Int} (h : Dz K G v (.int i)) : v = .int i := by cases h; rfl
theorem dp_str {G : Hp} {v : V} {i : Str} (h : Dz K G v (.str i)) : v = .str i := by cases h; rfl
theorem dp_bl {G : Hp} {v : V} {i : Bool} (h : Dz K G v (.bool i)) : v = .bl i := by cases h; rfl
theorem dp_non {G : Hp} {v : V} (h : Dz K G v .none) : v = .non := by cases h; rfl
theorem dp_tup {G : Hp} {v : V} {ds : List PyData} (h : Dz K G v (.tuple ds)) : ∃ a xs, v = .ref a ∧ SqT K G a xs ∧ DzAll K G xs ds := by cases h with | tup s a => exact ⟨_, _, rfl, s.sq, a⟩
theorem dp_lst {G : Hp} {v : V} {ds : List PyData} (h : Dz K G v (.list ds)) : ∃ a xs, v = .ref a ∧ SqL K G a xs ∧ DzAll K G xs ds := by cases h with | lst s a => exact ⟨_, _, rfl, s, a⟩
theorem dpa_len {G : Hp} : ∀ {vs : List V} {ds : List PyData}, DzAll K G vs ds → vs.length = ds.length
  | _, _, .nil => rfl
  | _, _, .cons _ b => by simp [dpa_len b]
theorem dpa_get {G : Hp} : ∀ {vs : List V} {ds : List PyData} {i : Nat} {d : PyData}, DzAll K G vs ds → ds[i]? = some d → ∃ v, vs[i]? = some v ∧ Dz K G v d
  | _, _, _, _, .nil, h => by simp at h
  | _, _, 0, _, .cons a _, h => by simp at h; subst h; exact ⟨_, rfl, a⟩
  | _, _, i + 1, _, .cons _ b, h => by
    obtain ⟨v, h1, h2⟩ := dpa_get (i := i) b (by simpa using h)
    exact ⟨v, by simpa using h1, h2⟩
theorem dpa_app {G : Hp} : ∀ {vs ws : List V} {ds es : List PyData}, DzAll K G vs ds → DzAll K G ws es → DzAll K G (vs ++ ws) (ds ++ es)
  | _, _, _, _, .nil, h => h
  | _, _, _, _, .cons a b, h => .cons a (dpa_app b h)
theorem dpa_take {G : Hp} : ∀ {vs : List V} {ds : List PyData} (k : Nat), DzAll K G vs ds → DzAll K G (vs.take k) (ds.take k)
  | _, _, 0, _ => .nil
  | _, _, _ + 1, .nil => .nil
  | _, _, k + 1, .cons a b => .cons a (dpa_take k b)
theorem dpa_drop {G : Hp} : ∀ {vs : List V} {ds : List PyData} (k : Nat), DzAll K G vs ds → DzAll K G (vs.drop k) (ds.drop k)
  | _, _, 0, h => h
  | _, _, _ + 1, .nil => .nil
  | _, _, k + 1, .cons _ b => dpa_drop k b
theorem dpa_one {G : Hp} {v : V} {d : PyData} (h : Dz K G v d) : DzAll K G [v] [d] := .cons h .nil
theorem dpa_set {G : Hp} {v : V} {d : PyData} (h : Dz K G v d) : ∀ {vs : List V} {ds : List PyData} (k : Nat), DzAll K G vs ds → DzAll K G (vs.set k v) (ds.set k d)
  | _, _, _, .nil => .nil
  | _, _, 0, .cons _ b => .cons h b
  | _, _, k + 1, .cons a b => .cons a (dpa_set h k b)
theorem zall_d {G : Hp} : ∀ {vs : List V} {ds : List PyData}, ZAll K G vs (ds.map .d) → DzAll K G vs ds
  | [], [], .nil => .nil
  | _ :: _, _ :: _, .cons a b => .cons a (zall_d b)
theorem zo_I0 {g : Int → Int → V} {gd : Int → Int → PyData} {i j : Int} (hg : ∀ H, Dz K H (g i j) (gd i j)) (q : Q (.d (gd i j)) M) : ZO K (rI0 g) (.d (.int i)) (.d (.int j)) M Q :=
  zo_val (z := .d (gd i j)) (fun G H v u _ a b => ⟨g i j, hg G, fun Qv h => ⟨i, j, dp_int a, dp_int b, h⟩⟩) q
theorem zo_I {C : Int → Int → Prop} {g : Int → Int → V} {gd : Int → Int → PyData} {i j : Int} (hg : ∀ H, Dz K H (g i j) (gd i j)) (hc : C i j) (q : Q (.d (gd i j)) M) : ZO K (rI C g) (.d (.int i)) (.d (.int j)) M Q :=
  zo_val (z := .d (gd i j)) (fun G H v u _ a b => ⟨g i j, hg G, fun Qv h => ⟨i, j, dp_int a, dp_int b, hc, h⟩⟩) q
theorem zo_add {i j : Int} (q : Q (.d (.int (i + j))) M) : ZO K (rI0 fun i j => .int (i + j)) (.d (.int i)) (.d (.int j)) M Q := zo_I0 (gd := fun i j => .int (i + j)) (fun _ => .int _) q
theorem zo_sub {i j : Int} (q : Q (.d (.int (i - j))) M) : ZO K (rI0 fun i j => .int (i - j)) (.d (.int i)) (.d (.int j)) M Q := zo_I0 (gd := fun i j => .int (i - j)) (fun _ => .int _) q
theorem zo_mul {i j : Int} (hc : CMul i j) (q : Q (.d (.int (i * j))) M) : ZO K (rI CMul fun i j => .int (i * j)) (.d (.int i)) (.d (.int j)) M Q := zo_I (gd := fun i j => .int (i * j)) (fun _ => .int _) hc q
theorem zo_mod {i j : Int} (hc : 0 < j) (q : Q (.d (.int (i % j))) M) : ZO K (rI (fun _ j => 0 < j) fun i j => .int (i % j)) (.d (.int i)) (.d (.int j)) M Q := zo_I (C := fun _ j => 0 < j) (gd := fun i j => .int (i % j)) (fun _ => .int _) hc q
theorem zo_pow {i j : Int} (hc : CPow i j) (q : Q (.d (.int (i ^ j.toNat))) M) : ZO K (rI CPow fun i j => .int (i ^ j.toNat)) (.d (.int i)) (.d (.int j)) M Q := zo_I (gd := fun i j => .int (i ^ j.toNat)) (fun _ => .int _) hc q
theorem zo_lt {i j : Int} (q : Q (.d (.bool (decide (i < j)))) M) : ZO K (rI0 fun i j => .bl (decide (i < j))) (.d (.int i)) (.d (.int j)) M Q := zo_I0 (gd := fun i j => .bool (decide (i < j))) (fun _ => .bl _) q
theorem zo_le {i j : Int} (q : Q (.d (.bool (decide (i ≤ j)))) M) : ZO K (rI0 fun i j => .bl (decide (i ≤ j))) (.d (.int i)) (.d (.int j)) M Q := zo_I0 (gd := fun i j => .bool (decide (i ≤ j))) (fun _ => .bl _) q
theorem zo_gt {i j : Int} (q : Q (.d (.bool (decide (j < i)))) M) : ZO K (rI0 fun i j => .bl (decide (j < i))) (.d (.int i)) (.d (.int j)) M Q := zo_I0 (gd := fun i j => .bool (decide (j < i))) (fun _ => .bl _) q
theorem zo_ge {i j : Int} (q : Q (.d (.bool (decide (j ≤ i)))) M) : ZO K (rI0 fun i j => .bl (decide (j ≤ i))) (.d (.int i)) (.d (.int j)) M Q := zo_I0 (gd := fun i j => .bool (decide (j ≤ i))) (fun _ => .bl _) q
theorem zu_neg {i : Int} (q : Q (.d (.int (-i))) M) : ZU K (rU fun i => .int (-i)) (.d (.int i)) M Q := fun n S σ G H R v a Qv k => ⟨i, dp_int a, k _ G H (.d (.int (-i))) M (Ex.refl G) R (.int _) q⟩
/-- == over data -/
theorem zo_eq {x y : PyData} (hx : SeqAt.shaped x = true) (hy : SeqAt.shaped y = true) (q : Q (.d (.bool (PyData.eqv x y))) M) : ZO K (rEqD K) (.d x) (.d y) M Q :=
  zo_val (z := .d (.bool (PyData.eqv x y))) (fun G H v u e a b => ⟨_, .bl _, fun Qv h => ⟨x, y, dz_dp (dp_mono e a), dz_dp (dp_mono e b), hx, hy, h⟩⟩) q
theorem zo_ne {x y : PyData} (hx : SeqAt.shaped x = true) (hy : SeqAt.shaped y = true) (q : Q (.d (.bool (!PyData.eqv x y))) M) : ZO K (rNeD K) (.d x) (.d y) M Q :=
  zo_val (z := .d (.bool (!PyData.eqv x y))) (fun G H v u e a b => ⟨_, .bl _, fun Qv h => ⟨x, y, dz_dp (dp_mono e a), dz_dp (dp_mono e b), hx, hy, h⟩⟩) q
abbrev rAddS1 : R2 := fun x y H Q => ∃ i j, x = .str i ∧ y = .str j ∧ i.length + j.length ≤ sizeLine ∧ Q (.str (i ++ j)) H
/-! ### arguments, displays -/
theorem za_nil {Q : List ZV → Ms → Prop} (q : Q [] M) : ZA K E tNil S M Q X := fun n σ G H R Qv k _ => k [] G H [] M (Ex.refl G) R .nil q
theorem za_cons {Q : List ZV → Ms → Prop} (h : ZW K E te S M (fun x M1 => ZA K E tA S M1 (fun zs M2 => Q (x :: zs) M2) X) X) : ZA K E (tCons te tA) S M Q X := fun n σ G H R Qv k kx =>
  h n σ G H R _ (fun v G1 H1 x M1 e1 R1 a1 h1 => h1 n σ G1 H1 R1 _ (fun vs G2 H2 zs M2 e2 R2 a2 q => k (v :: vs) G2 H2 (x :: zs) M2 (e1.trans e2) R2 (.cons (ZV.mono e2 a1) a2) q) (kx.mono e1)) kx
/-- all plain data -/
def AllD (zs : List ZV) (ds : List PyData) : Prop := zs = ds.map .d
theorem allD_nil : AllD [] [] := rfl
theorem allD_cons {d : PyData} {zs : List ZV} {ds : List PyData} (h : AllD zs ds) : AllD (.d d :: zs) (d :: ds) := by unfold AllD at *; rw [h]; rfl
theorem zw_tup (h : ZA K E tA S M (fun zs M1 => ∃ ds, AllD zs ds ∧ ds.length ≤ sizeLine ∧ Q (.d (.tuple ds)) M1) X) : ZW K E (tTup tA) S M Q X := fun n σ G H R Qv k kx =>
  h n σ G H R _ (fun vs G1 H1 zs M1 e1 R1 a1 ⟨ds, hd, hl, q⟩ => by
    have a2 : DzAll K G1 vs ds := zall_d (by rw [← hd]; exact a1)
    refine ⟨by rw [dpa_len a2]; exact hl, fun p hp => ?_⟩
    have g := ex_gnone R1.ex hp
    exact k (.ref p) _ _ (.d (.tuple ds)) M1 (e1.trans (Ex.new g)) (R1.new hp (fun _ z => nomatch z)) (.tup (.inl upd_same) (dpAll_mono (Ex.new g) a2)) q) kx
/-- a list: frozen at once | a cell -/
theorem zw_lstD (h : ZA K E tA S M (fun zs M1 => ∃ ds, AllD zs ds ∧ ds.length ≤ sizeLine ∧ Q (.d (.list ds)) M1) X) : ZW K E (tLst tA) S M Q X := fun n σ G H R Qv k kx =>
  h n σ G H R _ (fun vs G1 H1 zs M1 e1 R1 a1 ⟨ds, hd, hl, q⟩ => by
    have a2 : DzAll K G1 vs ds := zall_d (by rw [← hd]; exact a1)
    refine ⟨by rw [dpa_len a2]; exact hl, fun p hp => ?_⟩
    have g := ex_gnone R1.ex hp
    exact k (.ref p) _ _ (.d (.list ds)) M1 (e1.trans (Ex.new g)) (R1.new hp (fun _ z => nomatch z)) (.lst (Evl.sq_of upd_same) (dpAll_mono (Ex.new g) a2)) q) kx
theorem zw_lstC (h : ZA K E tA S M (fun zs M1 => ∃ ds, AllD zs ds ∧ ds.length ≤ sizeLine ∧ ∀ p, Q (.c p) ((p, true, .lst ds) :: M1)) X) : ZW K E (tLst tA) S M Q X := fun n σ G H R Qv k kx =>
  h n σ G H R _ (fun vs G1 H1 zs M1 e1 R1 a1 ⟨ds, hd, hl, q⟩ => by
    have a2 : DzAll K G1 vs ds := zall_d (by rw [← hd]; exact a1)
    exact ⟨by rw [dpa_len a2]; exact hl, fun p hp => k (.ref p) _ _ (.c p) _ e1 (R1.newLst hp a2) rfl (q p)⟩) kx
/-- an own list is taken as data from here on -/
theorem zw_frz (h : ZW K E te S M (fun z M1 => ∃ p xs M2, z = .c p ∧ Rem1 p true (.lst xs) M1 M2 ∧ Q (.d (.list xs)) M2) X) : ZW K E te S M Q X := fun n σ G H R Qv k kx =>
  h n σ G H R _ (fun v G1 H1 z M1 e1 R1 a1 ⟨p, xs, M2, hz, hr, q⟩ => by
    subst hz
    obtain ⟨G2, e2, R2, d2⟩ := R1.frz hr
    have ev : v = .ref p := a1
    subst ev
    exact k _ G2 H1 (.d (.list xs)) M2 (e1.trans e2) R2 d2 q) kx
/-! ### tests, and, or, not, if .. else -/
theorem zt_test {Q : Bool → Ms → Prop} (h : ZW K E te S M (fun z M1 => ∃ b, z = .d (.bool b) ∧ Q b M1) X) : ZT K E (tTest te) S M Q X := fun n σ G H R Qv k kx =>
  h n σ G H R _ (fun v G1 H1 z M1 e1 R1 a1 ⟨b, hz, q⟩ => by subst hz; exact ⟨b, dp_bl a1, k b G1 H1 M1 e1 R1 q⟩) kx
theorem zt_B {Q : Bool → Ms → Prop} (h : ZW K E te S M (fun z M1 => ∃ b, z = .d (.bool b) ∧ Q b M1) X) : ZT K E (tB te) S M Q X := fun n σ G H R Qv k kx =>
  h n σ G H R _ (fun v G1 H1 z M1 e1 R1 a1 ⟨b, hz, q⟩ => by subst hz; exact ⟨b, dp_bl a1, k b G1 H1 M1 e1 R1 q⟩) kx
/-- a value's truth -/
def dTru : PyData → Option Bool
  | .none => some false
  | .bool b => some b
  | .int i => some (i != 0)
  | .str y => if y.length ≤ sizeLine then some ((y.length : Int) != 0) else none
  | .list xs => some (!xs.isEmpty)
  | .tuple xs => some (!xs.isEmpty)
  | .dict _ => none
theorem dTru_ok {K : Fg} {G : Hp} {v : V} {d : PyData} {b : Bool} (h : Dz K G v d) (e : dTru d = some b) : TruV K v G b := by
  cases h with
  | non => exact (Option.some.inj e).symm
  | bl x => exact (Option.some.inj e).symm
  | int i => exact (Option.some.inj e).symm
  | str y =>
    simp only [dTru] at e
    split at e
    · rename_i hl; exact ⟨hl, (Option.some.inj e).symm⟩
    · cases e
  | lst s a =>
    refine .inl ⟨_, s, ?_⟩
    have := dpa_len a
    have e := Option.some.inj e
    rw [← e]
    cases a <;> rfl
  | tup s a =>
    refine .inr (.inl ⟨_, s.sq, ?_⟩)
    have e := Option.some.inj e
    rw [← e]
    cases a <;> rfl
theorem truV_mono {K : Fg} {G H : Hp} (e : Ex G H) {v : V} {b : Bool} (h : TruV K v G b) : TruV K v H b := by
  cases v with
  | ref p =>
    rcases h with ⟨xs, s, z⟩ | ⟨xs, s, z⟩ | ⟨kvs, s, z⟩
    · exact .inl ⟨xs, Evl.ex_l e s, z⟩
    · exact .inr (.inl ⟨xs, Evl.ex_t e s, z⟩)
    · exact .inr (.inr ⟨kvs, e _ _ s, z⟩)
  | _ => exact h
theorem zt_tru {Q : Bool → Ms → Prop} (h : ZW K E te S M (fun z M1 => ∃ d b, z = .d d ∧ dTru d = some b ∧ Q b M1) X) : ZT K E (fun σ H Q => te σ H fun x H' => ∃ k, TruV K x H' k ∧ Q k H') S M Q X := fun n σ G H R Qv k kx =>
  h n σ G H R _ (fun v G1 H1 z M1 e1 R1 a1 ⟨d, b, hz, hb, q⟩ => by subst hz; exact ⟨b, truV_mono R1.ex (dTru_ok a1 hb), k b G1 H1 M1 e1 R1 q⟩) kx
theorem zt_not {Q : Bool → Ms → Prop} (h : ZT K E t S M (fun b M1 => Q (!b) M1) X) : ZT K E (tNot t) S M Q X := fun n σ G H R Qv k kx =>
  h n σ G H R _ (fun b G1 H1 M1 e1 R1 q => k (!b) G1 H1 M1 e1 R1 q) kx
theorem zt_and {Q : Bool → Ms → Prop} (h : ZT K E t S M (fun b M1 => (b = false → Q false M1) ∧ (b = true → ZT K E u S M1 Q X)) X) : ZT K E (tAnd t u) S M Q X := fun n σ G H R Qv k kx =>
  h n σ G H R _ (fun b G1 H1 M1 e1 R1 q => by
    cases b with
    | true =>
      show u σ H1 Qv
      exact q.2 rfl n σ G1 H1 R1 Qv (fun b G2 H2 M2 e2 R2 q2 => k b G2 H2 M2 (e1.trans e2) R2 q2) (kx.mono e1)
    | false =>
      show Qv false H1
      exact k false G1 H1 M1 e1 R1 (q.1 rfl)) kx
theorem zt_or {Q : Bool → Ms → Prop} (h : ZT K E t S M (fun b M1 => (b = true → Q true M1) ∧ (b = false → ZT K E u S M1 Q X)) X) : ZT K E (tOr t u) S M Q X := fun n σ G H R Qv k kx =>
  h n σ G H R _ (fun b G1 H1 M1 e1 R1 q => by
    cases b with
    | true =>
      show Qv true H1
      exact k true G1 H1 M1 e1 R1 (q.1 rfl)
    | false =>
      show u σ H1 Qv
      exact q.2 rfl n σ G1 H1 R1 Qv (fun b G2 H2 M2 e2 R2 q2 => k b G2 H2 M2 (e1.trans e2) R2 q2) (kx.mono e1)) kx
theorem zw_andV (h : ZW K E ta S M (fun z M1 => ∃ b, z = .d (.bool b) ∧ (b = false → Q (.d (.bool false)) M1) ∧ (b = true → ZW K E tb S M1 Q X)) X) : ZW K E (tAndV ta tb) S M Q X := fun n σ G H R Qv k kx =>
  h n σ G H R _ (fun v G1 H1 z M1 e1 R1 a1 ⟨b, hz, q⟩ => by
    subst hz
    refine ⟨b, dp_bl a1, ?_⟩
    cases b with
    | true =>
      show tb σ H1 Qv
      exact q.2 rfl n σ G1 H1 R1 Qv (fun w G2 H2 z M2 e2 R2 a2 q2 => k w G2 H2 z M2 (e1.trans e2) R2 a2 q2) (kx.mono e1)
    | false =>
      show Qv (.bl false) H1
      exact k _ G1 H1 (.d (.bool false)) M1 e1 R1 (Dz.bl false) (q.1 rfl)) kx
theorem zw_orV (h : ZW K E ta S M (fun z M1 => ∃ b, z = .d (.bool b) ∧ (b = true → Q (.d (.bool true)) M1) ∧ (b = false → ZW K E tb S M1 Q X)) X) : ZW K E (tOrV ta tb) S M Q X := fun n σ G H R Qv k kx =>
  h n σ G H R _ (fun v G1 H1 z M1 e1 R1 a1 ⟨b, hz, q⟩ => by
    subst hz
    refine ⟨b, dp_bl a1, ?_⟩
    cases b with
    | true =>
      show Qv (.bl true) H1
      exact k _ G1 H1 (.d (.bool true)) M1 e1 R1 (Dz.bl true) (q.1 rfl)
    | false =>
      show tb σ H1 Qv
      exact q.2 rfl n σ G1 H1 R1 Qv (fun w G2 H2 z M2 e2 R2 a2 q2 => k w G2 H2 z M2 (e1.trans e2) R2 a2 q2) (kx.mono e1)) kx
theorem zw_notV (h : ZW K E ta S M (fun z M1 => ∃ b, z = .d (.bool b) ∧ Q (.d (.bool (!b))) M1) X) : ZW K E (tNotV ta) S M Q X := fun n σ G H R Qv k kx =>
  h n σ G H R _ (fun v G1 H1 z M1 e1 R1 a1 ⟨b, hz, q⟩ => by subst hz; exact ⟨b, dp_bl a1, k _ G1 H1 (.d (.bool (!b))) M1 e1 R1 (Dz.bl (!b)) q⟩) kx
theorem zw_if (h : ZT K E t S M (fun b M1 => (b = true → ZW K E ta S M1 Q X) ∧ (b = false → ZW K E tb S M1 Q X)) X) : ZW K E (tIf t ta tb) S M Q X := fun n σ G H R Qv k kx =>
  h n σ G H R _ (fun b G1 H1 M1 e1 R1 q => by
    cases b with
    | true =>
      show ta σ H1 Qv
      exact q.1 rfl n σ G1 H1 R1 Qv (fun w G2 H2 z M2 e2 R2 a2 q2 => k w G2 H2 z M2 (e1.trans e2) R2 a2 q2) (kx.mono e1)
    | false =>
      show tb σ H1 Qv
      exact q.2 rfl n σ G1 H1 R1 Qv (fun w G2 H2 z M2 e2 R2 a2 q2 => k w G2 H2 z M2 (e1.trans e2) R2 a2 q2) (kx.mono e1)) kx
end
end Z
namespace Z
open PySem PySem.Spec PyProof.Rows L2
open Evl (Ex)
section
variable {K : Fg} {E : L2.St → XK} {e0 : XK} {te ta tb tc : TE} {tA : TA} {tt : TT} {t u : TS} {S S' : Zs} {M M' : Ms} {P : ZP} {Q : QZ} {X : XZ} {n : Sn} {σ : L2.St} {G G' H H' : Hp}
/-! ### statements -/
theorem DOk.xok {D : Ends} (k : DOk K E n G P D) : XOk K (E σ) n σ G P.ex := fun cls d G' H' x S' M' e R a b => k.ex cls d σ G' H' x S' M' e R a b
theorem zs_next (h : P.nx S M) : ZS K E tNext S M P := fun n σ G H R D k => k.nx σ G H S M (Ex.refl G) R h
theorem zs_seq (h : ZS K E t S M { P with nx := fun S' M' => ZS K E u S' M' P }) : ZS K E (tSeq t u) S M P := fun n σ G H R D k =>
  h n σ G H R _ ⟨fun σ' G' H' S' M' e R' z => z n σ' G' H' R' D (k.mono e), k.rt, k.bk, k.ct, k.ex⟩
theorem zs_asg {i : Nat} (h : ZW K E te S M (fun z M1 => P.nx (S.set i (some z)) M1) P.ex) : ZS K E (tAsg te (gName i)) S M P := fun n σ G H R D k =>
  h n σ G H R _ (fun v G1 H1 z M1 e1 R1 a1 q => k.nx _ G1 H1 _ M1 e1 (R1.set a1) q) k.xok
theorem zs_drop (h : ZW K E te S M (fun _ M1 => P.nx S M1) P.ex) : ZS K E (tDrop te) S M P := fun n σ G H R D k =>
  h n σ G H R _ (fun v G1 H1 z M1 e1 R1 a1 q => k.nx _ G1 H1 S M1 e1 R1 q) k.xok
theorem zs_ret (h : ZW K E te S M P.rt P.ex) : ZS K E (tRet te) S M P := fun n σ G H R D k =>
  h n σ G H R _ (fun v G1 H1 z M1 e1 R1 a1 q => k.rt v σ G1 H1 z S M1 e1 R1 a1 q) k.xok
theorem zs_retN (h : P.rt (.d .none) M) : ZS K E tRetN S M P := fun n σ G H R D k => k.rt .non σ G H (.d .none) S M (Ex.refl G) R Dz.non h
theorem zs_if (h : ZT K E tt S M (fun b M1 => (b = true → ZS K E t S M1 P) ∧ (b = false → ZS K E u S M1 P)) P.ex) : ZS K E (tIfS tt t u) S M P := fun n σ G H R D k =>
  h n σ G H R _ (fun b G1 H1 M1 e1 R1 q => by
    cases b with
    | true =>
      show t D σ H1
      exact q.1 rfl n σ G1 H1 R1 D (k.mono e1)
    | false =>
      show u D σ H1
      exact q.2 rfl n σ G1 H1 R1 D (k.mono e1)) k.xok
theorem zs_aug {i : Nat} {f : Int → Int → Int} {a : Int} (hs : S[i]? = some (some (.d (.int a)))) (h : ZW K E te S M (fun z M1 => ∃ b, z = .d (.int b) ∧ P.nx (S.set i (some (.d (.int (f a b))))) M1) P.ex) : ZS K E (tAug i te (ipI f)) S M P := fun n σ G H R D k => by
  obtain ⟨v, h1, h2⟩ := R.sl i _ hs
  have e := dp_int h2
  subst e
  refine ⟨_, h1, h n σ G H R _ (fun v G1 H1 z M1 e1 R1 a1 ⟨b, hz, q⟩ => ?_) k.xok⟩
  subst hz
  exact ⟨a, b, rfl, dp_int a1, k.nx _ G1 H1 _ M1 e1 (R1.set (v := .int (f a b)) (z := .d (.int (f a b))) (Dz.int _)) q⟩
/-- a row[i] = e over an own list -/
theorem zs_setL {to ti : TE} (h : ZW K E te S M (fun z M1 => ∃ d, z = .d d ∧ ZW K E to S M1 (fun o M2 => ZW K E ti S M2 (fun y M3 => ∃ p b xs k j M4, o = .c p ∧ y = .d (.int k) ∧ ixN xs.length k = some j ∧ Upd1 p b (.lst xs) (.lst (xs.set j d)) M3 M4 ∧ P.nx S M4) P.ex) P.ex) P.ex) :
    ZS K E (tAsg te (gSub to ti rSetL)) S M P := fun n σ G H R D k =>
  h n σ G H R _ (fun v G1 H1 z M1 e1 R1 a1 ⟨d, hz, h2⟩ => by
    subst hz
    refine h2 n σ G1 H1 R1 _ (fun o G2 H2 zo M2 e2 R2 a2 h3 => h3 n σ G2 H2 R2 _ (fun y G3 H3 zi M3 e3 R3 a3 ⟨p, b, xs, kk, j, M4, ho, hy, hj, hu, q⟩ => ?_) (XOk.mono k.xok ((e1.trans e2)))) (XOk.mono k.xok e1)
    subst ho hy
    have ev : o = .ref p := a2
    subst ev
    obtain ⟨_, ws, h4, h5⟩ := R3.ce p b _ hu.mem
    exact ⟨p, ws, kk, j, rfl, dp_int a3, h4, by rw [dpa_len h5]; exact hj, k.nx _ G3 _ S M4 ((e1.trans e2).trans e3) (R3.putLst hu (dpa_set (dp_mono (e2.trans e3) a1) j h5)) q⟩) k.xok
theorem zs_par {i j : Nat} (h : ZA K E tA S M (fun zs M1 => ∃ z w, zs = [z, w] ∧ P.nx ((S.set i (some z)).set j (some w)) M1) P.ex) : ZS K E (tPar i j tA) S M P := fun n σ G H R D k =>
  h n σ G H R _ (fun vs G1 H1 zs M1 e1 R1 a1 ⟨z, w, hz, q⟩ => by
    subst hz
    cases a1 with
    | cons a b => cases b with | cons b c => cases c; exact ⟨_, _, rfl, k.nx _ G1 H1 _ M1 e1 ((R1.set a).set b) q⟩) k.xok
/-! ### the defs' promises -/
inductive DOut where
  | ok (d : PyData)
  | ex (x : XD)
/-- a def over data: R its graph -/
def spD (K : Fg) (k : Nat) (R : List PyData → DOut → Prop) : Sp := fun vs H Q E => ∃ (G : Hp) (ds : List PyData) (o : DOut), Ex G H ∧ ds.length = k ∧ DzAll K G vs ds ∧ R ds o ∧
  (∀ d, o = .ok d → ∀ v G' H', Ext [] G H G' H' → Dz K G' v d → Q v H') ∧ (∀ x, o = .ex x → ∀ cls dd G' H', Ext [] G H G' H' → XAt K G' cls dd x → E cls dd H')
/-- a def whose first argument is an own list, which it may write -/
def spC (K : Fg) (k : Nat) (R : List PyData → List PyData → (DOut → List PyData → Prop) → Prop) : Sp := fun vs H Q E => ∃ (G : Hp) (p : Addr) (xs : List PyData) (us : List V) (ds : List PyData) (F : DOut → List PyData → Prop), vs = .ref p :: us ∧ ds.length = k ∧ Ex G H ∧ G p = none ∧ CD.at K G H p (.lst xs) ∧ DzAll K G us ds ∧ R xs ds F ∧
  (∀ o ys, F o ys → (∀ d, o = .ok d → ∀ v G' H', Ext [p] G H G' H' → (∀ a x, H a = some (.own x) → H' a = some (.own x)) → CD.at K G' H' p (.lst ys) → Dz K G' v d → Q v H') ∧
  (∀ x, o = .ex x → ∀ cls dd G' H', Ext [p] G H G' H' → (∀ a x, H a = some (.own x) → H' a = some (.own x)) → CD.at K G' H' p (.lst ys) → XAt K G' cls dd x → E cls dd H'))
/-- a method of an own object: fields before and behind -/
def spO (K : Fg) (C : Addr) (k : Nat) (R : List (Str × ZV) → List PyData → DOut → List (Str × ZV) → Prop) : Sp := fun vs H Q E => ∃ (G : Hp) (p : Addr) (fs : List (Str × ZV)) (us : List V) (ds : List PyData) (o : DOut) (fs' : List (Str × ZV)), vs = .ref p :: us ∧ ds.length = k ∧ Ex G H ∧ G p = none ∧ CD.at K G H p (.obj C fs) ∧ DzAll K G us ds ∧ R fs ds o fs' ∧
  (∀ d, o = .ok d → ∀ v G' H', Ext [p] G H G' H' → (∀ a x, H a = some (.own x) → H' a = some (.own x)) → CD.at K G' H' p (.obj C fs') → Dz K G' v d → Q v H') ∧
  (∀ x, o = .ex x → ∀ cls dd G' H', Ext [p] G H G' H' → (∀ a x, H a = some (.own x) → H' a = some (.own x)) → CD.at K G' H' p (.obj C fs') → XAt K G' cls dd x → E cls dd H')
def PFn (o : DOut) : ZP := ⟨fun _ _ => o = .ok .none, fun z _ => ∃ d, z = .d d ∧ o = .ok d, fun _ _ => False, fun _ _ => False, fun x _ _ => o = .ex x⟩
def PFc (p : Addr) (o : DOut) (c : CD) : ZP := ⟨fun _ M => o = .ok .none ∧ (p, false, c) ∈ M, fun z M => (∃ d, z = .d d ∧ o = .ok d) ∧ (p, false, c) ∈ M, fun _ _ => False, fun _ _ => False, fun x _ M => o = .ex x ∧ (p, false, c) ∈ M⟩
def PFl (p : Addr) (F : DOut → List PyData → Prop) : ZP := ⟨fun _ M => ∃ ys, F (.ok .none) ys ∧ (p, false, .lst ys) ∈ M, fun z M => ∃ d ys, z = .d d ∧ F (.ok d) ys ∧ (p, false, .lst ys) ∈ M, fun _ _ => False, fun _ _ => False, fun x _ M => ∃ ys, F (.ex x) ys ∧ (p, false, .lst ys) ∈ M⟩
def stS (ds : List PyData) : Zs := ds.map fun d => some (.d d)
theorem stS_get {vs : List V} {ds : List PyData} (h : DzAll K G vs ds) (k : Nat) : ∀ (i : Nat) (z : ZV), (stS ds ++ List.replicate k none)[i]? = some (some z) → ∃ v, (vs.map some ++ List.replicate k none)[i]? = some (some v) ∧ ZV.at K G v z := fun i z e => by
  have hl := dpa_len h
  by_cases hi : i < ds.length
  · rw [List.getElem?_append_left (by simpa [stS] using hi)] at e
    simp only [stS, List.getElem?_map] at e
    cases q : ds[i]? with
    | none => rw [q] at e; cases e
    | some d =>
      rw [q] at e
      simp only [Option.map_some, Option.some.injEq] at e
      subst e
      obtain ⟨v, h1, h2⟩ := dpa_get h q
      refine ⟨v, ?_, h2⟩
      rw [List.getElem?_append_left (by simpa [hl] using hi), List.getElem?_map, h1]
      rfl
  · rw [List.getElem?_append_right (by simpa [stS] using hi), List.getElem?_replicate] at e
    split at e <;> cases e
theorem rel_start {N : List Str} {vs : List V} {ds : List PyData} (e : Ex G H) (h : DzAll K G vs ds) : Rel K ⟨G, H, []⟩ (stS ds ++ List.replicate (N.length - ds.length) none) [] (L2.start N vs) G H where
  ex := e
  len := by unfold L2.start; simp [stS, dpa_len h]
  sl := fun i z q => by
    unfold L2.start
    rw [dpa_len h]
    exact stS_get h _ i z q
  nd := List.nodup_nil
  ce := fun _ _ _ q => by simp at q
  g0 := Ex.refl G
  h0 := fun _ _ q _ => q
  lv := fun _ o q => ⟨o, q⟩
  f0 := fun _ _ _ q => .inl q
  a0 := fun _ _ q => by simp at q
  o0 := fun _ _ q => by simp at q
theorem rel_startC {N : List Str} {p : Addr} {c : CD} {vs : List V} {ds : List PyData} (e : Ex G H) (hp : G p = none) (hc : CD.at K G H p c) (h : DzAll K G vs ds) :
    Rel K ⟨G, H, [p]⟩ (some (.c p) :: (stS ds ++ List.replicate (N.length - (ds.length + 1)) none)) [(p, false, c)] (L2.start N (.ref p :: vs)) G H where
  ex := e
  len := by unfold L2.start; simp [stS, dpa_len h]
  sl := fun i z q => by
    unfold L2.start
    cases i with
    | zero => simp at q; subst q; exact ⟨.ref p, rfl, rfl⟩
    | succ i =>
      simp only [List.getElem?_cons_succ] at q
      obtain ⟨v, h1, h2⟩ := stS_get h _ i z q
      exact ⟨v, by simpa [dpa_len h] using h1, h2⟩
  nd := by simp
  ce := fun q b c' hm => by
    simp at hm
    obtain ⟨rfl, rfl, rfl⟩ := hm
    exact ⟨hp, hc⟩
  g0 := Ex.refl G
  h0 := fun _ _ q _ => q
  lv := fun _ o q => ⟨o, q⟩
  f0 := fun _ _ _ q => .inl q
  a0 := fun q c' hm => by simp at hm; simp [hm.1]
  o0 := fun q c' hm => by simp at hm
theorem fn_D {R : List PyData → DOut → Prop} {k : Nat} {N : List Str} {vs : List V} {Qv : VK} (h : spD K k R vs H Qv e0) (b : ∀ ds o, ds.length = k → R ds o → ZS K (fun _ => e0) t (stS ds ++ List.replicate (N.length - ds.length) none) [] (PFn o)) : t { nx := fun _ H' => Qv .non H', rt := Qv } (L2.start N vs) H := by
  obtain ⟨G, ds, o, e, hk, hd, hR, q1, q2⟩ := h
  refine b ds o hk hR ⟨G, H, []⟩ _ G H (rel_start e hd) _ ⟨fun σ' G' H' S' M' _ R z => ?_, fun v σ' G' H' z S' M' _ R a z' => ?_, fun _ _ _ _ _ _ _ z => z.elim, fun _ _ _ _ _ _ _ z => z.elim, fun cls d σ' G' H' x S' M' _ R a z => ?_⟩
  · exact q1 _ z .non G' H' R.ext .non
  · obtain ⟨d, rfl, z'⟩ := z'
    exact q1 _ z' v G' H' R.ext a
  · exact q2 _ z cls d G' H' R.ext a
theorem Rel.own (R : Rel K n S M σ G H) (hk : ∀ a x, n.H a = some (.own x) → a ∉ n.A) : ∀ a x, n.H a = some (.own x) → H a = some (.own x) := fun a x h => R.h0 a _ h (hk a x h)
theorem fn_C {R : List PyData → List PyData → (DOut → List PyData → Prop) → Prop} {kk : Nat} {N : List Str} {vs : List V} {Qv : VK} (h : spC K kk R vs H Qv e0)
    (b : ∀ p xs ds F, ds.length = kk → R xs ds F → ZS K (fun _ => e0) t (some (.c p) :: (stS ds ++ List.replicate (N.length - (ds.length + 1)) none)) [(p, false, .lst xs)] (PFl p F)) : t { nx := fun _ H' => Qv .non H', rt := Qv } (L2.start N vs) H := by
  obtain ⟨G, p, xs, us, ds, F, rfl, hkk, e, hp, hc, hd, hR, qq⟩ := h
  have hk : ∀ a x, H a = some (.own x) → a ∉ [p] := fun a x h1 z => by
    have z : a = p := by simpa using z
    obtain ⟨ws, h2, _⟩ := hc
    rw [z, h2] at h1
    cases h1
  refine b p xs ds F hkk hR ⟨G, H, [p]⟩ _ G H (rel_startC e hp hc hd) _ ⟨fun σ' G' H' S' M' _ R z => ?_, fun v σ' G' H' z S' M' _ R a z' => ?_, fun _ _ _ _ _ _ _ z => z.elim, fun _ _ _ _ _ _ _ z => z.elim, fun cls d σ' G' H' x S' M' _ R a z => ?_⟩
  · obtain ⟨ys, z1, z2⟩ := z
    exact (qq _ ys z1).1 _ rfl .non G' H' R.ext (R.own hk) (R.ce _ _ _ z2).2 .non
  · obtain ⟨d, ys, rfl, z1, z2⟩ := z'
    exact (qq _ ys z1).1 _ rfl v G' H' R.ext (R.own hk) (R.ce _ _ _ z2).2 a
  · obtain ⟨ys, z1, z2⟩ := z
    exact (qq _ ys z1).2 _ rfl cls d G' H' R.ext (R.own hk) (R.ce _ _ _ z2).2 a
theorem fn_O {C : Addr} {R : List (Str × ZV) → List PyData → DOut → List (Str × ZV) → Prop} {kk : Nat} {N : List Str} {vs : List V} {Qv : VK} (h : spO K C kk R vs H Qv e0)
    (b : ∀ p fs ds o fs', ds.length = kk → R fs ds o fs' → ZS K (fun _ => e0) t (some (.c p) :: (stS ds ++ List.replicate (N.length - (ds.length + 1)) none)) [(p, false, .obj C fs)] (PFc p o (.obj C fs'))) : t { nx := fun _ H' => Qv .non H', rt := Qv } (L2.start N vs) H := by
  obtain ⟨G, p, xs, us, ds, o, ys, rfl, hkk, e, hp, hc, hd, hR, q1, q2⟩ := h
  have hk : ∀ a x, H a = some (.own x) → a ∉ [p] := fun a x h1 z => by
    have z : a = p := by simpa using z
    obtain ⟨dx, ws, h2, _⟩ := hc
    rw [z, h2] at h1
    cases h1
  refine b p xs ds o ys hkk hR ⟨G, H, [p]⟩ _ G H (rel_startC e hp hc hd) _ ⟨fun σ' G' H' S' M' _ R z => ?_, fun v σ' G' H' z S' M' _ R a z' => ?_, fun _ _ _ _ _ _ _ z => z.elim, fun _ _ _ _ _ _ _ z => z.elim, fun cls d σ' G' H' x S' M' _ R a z => ?_⟩
  · exact q1 _ z.1 .non G' H' R.ext (R.own hk) (R.ce _ _ _ z.2).2 .non
  · obtain ⟨⟨d, rfl, z'⟩, zm⟩ := z'
    exact q1 _ z' v G' H' R.ext (R.own hk) (R.ce _ _ _ zm).2 a
  · exact q2 _ z.1 cls d G' H' R.ext (R.own hk) (R.ce _ _ _ z.2).2 a
theorem len_D {R : List PyData → DOut → Prop} {k : Nat} {vs : List V} {Qv : VK} (h : spD K k R vs H Qv e0) : vs.length = k := by
  obtain ⟨G, ds, o, e, hk, hd, h1, _⟩ := h
  rw [dpa_len hd, hk]
theorem len_C {R : List PyData → List PyData → (DOut → List PyData → Prop) → Prop} {k : Nat} {vs : List V} {Qv : VK} (h : spC K k R vs H Qv e0) : vs.length = k + 1 := by
  obtain ⟨G, p, xs, us, ds, F, rfl, hk, e, hp, hc, hd, h1, _⟩ := h
  rw [List.length_cons, dpa_len hd, hk]
theorem len_O {C : Addr} {R : List (Str × ZV) → List PyData → DOut → List (Str × ZV) → Prop} {k : Nat} {vs : List V} {Qv : VK} (h : spO K C k R vs H Qv e0) : vs.length = k + 1 := by
  obtain ⟨G, p, xs, us, ds, o, ys, rfl, hk, e, hp, hc, hd, h1, _⟩ := h
  rw [List.length_cons, dpa_len hd, hk]
/-! ### calls: e0 what is wanted of an exception; E0 nothing (none is raised here) -/
theorem zw_call {ar : Nat} {R : List PyData → DOut → Prop} (h : ZA K (fun _ => e0) tA S M (fun zs M1 => ∃ ds o, AllD zs ds ∧ ds.length = ar ∧ R ds o ∧ (∀ d, o = .ok d → Q (.d d) M1) ∧ (∀ x, o = .ex x → X x S M1)) X) : ZW K (fun _ => e0) (tCall (spD K ar R) [] e0 tA) S M Q X := fun n σ G H Rl Qv k kx =>
  h n σ G H Rl _ (fun vs G1 H1 zs M1 e1 R1 a1 ⟨ds, o, hd, hk, hR, q1, q2⟩ => by
    refine ⟨G1, ds, o, R1.ex, hk, ?_, hR, fun d ho v G' H' e a => k v G' H' (.d d) M1 (e1.trans e.g) (R1.call e) a (q1 d ho), fun x ho cls dd G' H' e a => kx cls dd G' H' x S M1 (e1.trans e.g) (R1.call e) a (q2 x ho)⟩
    rw [List.append_nil]
    exact zall_d (by rw [← hd]; exact a1)) kx
theorem zw_call0 {ar : Nat} {R : List PyData → DOut → Prop} (h : ZA K E tA S M (fun zs M1 => ∃ ds d, AllD zs ds ∧ ds.length = ar ∧ R ds (.ok d) ∧ Q (.d d) M1) X) : ZW K E (tCall (spD K ar R) [] E0 tA) S M Q X := fun n σ G H Rl Qv k kx =>
  h n σ G H Rl _ (fun vs G1 H1 zs M1 e1 R1 a1 ⟨ds, d, hd, hk, hR, q1⟩ => by
    refine ⟨G1, ds, .ok d, R1.ex, hk, ?_, hR, fun d' ho v G' H' e a => k v G' H' (.d d') M1 (e1.trans e.g) (R1.call e) a (by cases ho; exact q1), fun x ho => nomatch ho⟩
    rw [List.append_nil]
    exact zall_d (by rw [← hd]; exact a1)) kx
def FC (p : Addr) (b : Bool) (xs : List PyData) (S : Zs) (M1 : Ms) (Q : QZ) (X : XZ) : DOut → List PyData → Prop := fun o ys => ∃ M2, Upd1 p b (.lst xs) (.lst ys) M1 M2 ∧ (∀ d, o = .ok d → Q (.d d) M2) ∧ (∀ x, o = .ex x → X x S M2)
theorem zw_callC {ar : Nat} {R : List PyData → List PyData → (DOut → List PyData → Prop) → Prop} (h : ZA K (fun _ => e0) tA S M (fun zs M1 => ∃ p b xs zs' ds, zs = .c p :: zs' ∧ (p, b, CD.lst xs) ∈ M1 ∧ AllD zs' ds ∧ ds.length = ar ∧ R xs ds (FC p b xs S M1 Q X)) X) : ZW K (fun _ => e0) (tCall (spC K ar R) [] e0 tA) S M Q X := fun n σ G H Rl Qv k kx =>
  h n σ G H Rl _ (fun vs G1 H1 zs M1 e1 R1 a1 ⟨p, b, xs, zs', ds, hz, hm, hd, hk, hR⟩ => by
    subst hz
    cases a1 with
    | cons a1 a2 =>
      have ev := a1
      obtain ⟨hp, hc⟩ := R1.ce p b _ hm
      subst ev
      refine ⟨G1, p, xs, _, ds, _, by rw [List.append_nil], hk, R1.ex, hp, hc, zall_d (by rw [← hd]; exact a2), hR, fun o ys ⟨M2, hu, q1, q2⟩ => ⟨fun d ho v G' H' e own hc' a => k v G' H' (.d d) M2 (e1.trans e.g) (R1.call1 e hu own hc') a (q1 d ho), fun x ho cls dd G' H' e own hc' a => kx cls dd G' H' x S M2 (e1.trans e.g) (R1.call1 e hu own hc') a (q2 x ho)⟩⟩) kx
def FC0 (p : Addr) (b : Bool) (xs : List PyData) (M1 : Ms) (Q : QZ) : DOut → List PyData → Prop := fun o ys => ∃ d M2, o = .ok d ∧ Upd1 p b (.lst xs) (.lst ys) M1 M2 ∧ Q (.d d) M2
theorem zw_callC0 {ar : Nat} {R : List PyData → List PyData → (DOut → List PyData → Prop) → Prop} (h : ZA K E tA S M (fun zs M1 => ∃ p b xs zs' ds, zs = .c p :: zs' ∧ (p, b, CD.lst xs) ∈ M1 ∧ AllD zs' ds ∧ ds.length = ar ∧ R xs ds (FC0 p b xs M1 Q)) X) : ZW K E (tCall (spC K ar R) [] E0 tA) S M Q X := fun n σ G H Rl Qv k kx =>
  h n σ G H Rl _ (fun vs G1 H1 zs M1 e1 R1 a1 ⟨p, b, xs, zs', ds, hz, hm, hd, hk, hR⟩ => by
    subst hz
    cases a1 with
    | cons a1 a2 =>
      have ev := a1
      obtain ⟨hp, hc⟩ := R1.ce p b _ hm
      subst ev
      refine ⟨G1, p, xs, _, ds, _, by rw [List.append_nil], hk, R1.ex, hp, hc, zall_d (by rw [← hd]; exact a2), hR, fun o ys ⟨d, M2, ho, hu, q⟩ => ?_⟩
      subst ho
      refine ⟨fun d' ho v G' H' e own hc' a => ?_, fun x ho => nomatch ho⟩
      cases ho
      exact k v G' H' (.d d) M2 (e1.trans e.g) (R1.call1 e hu own hc') a q) kx
/-- o.m(..), o an own object of the class C -/
theorem lookup_paired {fv : List (Str × V)} {fs : List (Str × ZV)} (h : Paired (fun (a : Str × V) (b : Str × ZV) => a.1 = b.1 ∧ ZV.at K G a.2 b.2) fv fs) (m : Str) : (fs.lookup m = none → fv.lookup m = none) ∧ (∀ z, fs.lookup m = some z → ∃ v, fv.lookup m = some v ∧ ZV.at K G v z) := by
  induction h with
  | nil => exact ⟨fun _ => rfl, fun z e => by cases e⟩
  | @cons a b l1 l2 q t ih =>
    obtain ⟨a1, a2⟩ := a
    obtain ⟨b1, b2⟩ := b
    obtain ⟨q1, q2⟩ := q
    dsimp only at q1 q2
    subst q1
    rw [List.lookup_cons, List.lookup_cons]
    split
    · refine ⟨fun e => (nomatch e), fun z e => ?_⟩
      have e := Option.some.inj e
      subst e
      exact ⟨_, rfl, q2⟩
    · exact ih
theorem zw_methO {ar : Nat} {C : Addr} {m : Str} {R : List (Str × ZV) → List PyData → DOut → List (Str × ZV) → Prop} (h : ZW K (fun _ => e0) te S M (fun z M0 => ∃ p, z = .c p ∧ (∃ b fs0, (p, b, CD.obj C fs0) ∈ M0 ∧ fs0.lookup m = none) ∧ ZA K (fun _ => e0) tA S M0 (fun zs M1 => ∃ b fs ds o fs' M2, AllD zs ds ∧ ds.length = ar ∧ R fs ds o fs' ∧ Upd1 p b (.obj C fs) (.obj C fs') M1 M2 ∧ (∀ d, o = .ok d → Q (.d d) M2) ∧ (∀ x, o = .ex x → X x S M2)) X) X) :
    ZW K (fun _ => e0) (tMeth C m (spO K C ar R) [] e0 te tA) S M Q X := fun n σ G H Rl Qv k kx =>
  h n σ G H Rl _ (fun v G0 H0 z M0 e0' R0 a0 ⟨p, hz, ⟨b0, fs0, hm0, hl0⟩, h2⟩ => by
    subst hz
    have ev : v = .ref p := a0
    subst ev
    obtain ⟨_, dx, fv, h3, h4, h5, h6⟩ := R0.ce p b0 _ hm0
    refine ⟨p, dx, fv, rfl, h3, (lookup_paired h6 m).1 hl0, h2 n σ G0 H0 R0 _ (fun vs G1 H1 zs M1 e1 R1 a1 ⟨b, fs, ds, o, fs', M2, hd, hk, hR, hu, q1, q2⟩ => ?_) (kx.mono e0')⟩
    obtain ⟨hp, hc⟩ := R1.ce p b _ hu.mem
    refine ⟨G1, p, fs, _, ds, o, fs', by rw [List.append_nil], hk, R1.ex, hp, hc, zall_d (by rw [← hd]; exact a1), hR, fun d ho v G' H' e own hc' a => k v G' H' (.d d) M2 ((e0'.trans e1).trans e.g) (R1.call1 e hu own hc') a (q1 d ho), fun x ho cls dd G' H' e own hc' a => kx cls dd G' H' x S M2 ((e0'.trans e1).trans e.g) (R1.call1 e hu own hc') a (q2 x ho)⟩) kx
end
end Z
namespace Z
open PySem PySem.Spec PyProof.Rows L2
open Evl (Ex)
section
variable {K : Fg} {E : L2.St → XK} {e0 : XK} {te ta tb tc : TE} {tA : TA} {tt : TT} {t u : TS} {S S' : Zs} {M M' : Ms} {P : ZP} {Q : QZ} {X : XZ} {n : Sn} {σ : L2.St} {G G' H H' : Hp}
/-! ### membership of cells -/
theorem m0 {q : Addr × Bool × CD} {M : Ms} : q ∈ q :: M := List.mem_cons_self
theorem m1 {q r : Addr × Bool × CD} {M : Ms} (h : q ∈ M) : q ∈ r :: M := List.mem_cons_of_mem _ h
/-! ### subscripts -/
def dIx : PyData → Int → Option PyData
  | .list ds, i => atI ds i
  | .tuple ds, i => atI ds i
  | .str z, i => if z.length ≤ sizeLine then (atI z.cps.toList i).map fun c => .str ⟨#[c]⟩ else none
  | _, _ => none
theorem dpa_at {vs : List V} {ds : List PyData} {i : Int} {d : PyData} (h : DzAll K G vs ds) (e : atI ds i = some d) : ∃ v, atI vs i = some v ∧ Dz K G v d := by
  unfold atI at e ⊢
  rw [← dpa_len h] at e
  cases q : ixN vs.length i with
  | none => rw [q] at e; cases e
  | some j =>
    rw [q] at e
    exact dpa_get h e
theorem zo_ix {x d : PyData} {i : Int} (h : dIx x i = some d) (q : Q (.d d) M) : ZO K (rIx K) (.d x) (.d (.int i)) M Q :=
  zo_val (z := .d d) (fun G H v u e a b => by
    have eu := dp_int b
    subst eu
    cases x with
    | list ds =>
      obtain ⟨p, xs, rfl, h1, h2⟩ := dp_lst a
      obtain ⟨w, h3, h4⟩ := dpa_at h2 h
      exact ⟨w, h4, fun Qv k => .inl ⟨p, xs, i, w, rfl, rfl, Evl.ex_l e h1, h3, k⟩⟩
    | tuple ds =>
      obtain ⟨p, xs, rfl, h1, h2⟩ := dp_tup a
      obtain ⟨w, h3, h4⟩ := dpa_at h2 h
      exact ⟨w, h4, fun Qv k => .inr (.inl ⟨p, xs, i, w, rfl, rfl, Evl.ex_t e h1, h3, k⟩)⟩
    | str z =>
      have ev := dp_str a
      subst ev
      simp only [dIx] at h
      split at h
      · rename_i hl
        cases q2 : atI z.cps.toList i with
        | none => rw [q2] at h; cases h
        | some c =>
          rw [q2] at h
          cases h
          exact ⟨.str ⟨#[c]⟩, Dz.str _, fun Qv k => .inr (.inr ⟨z, i, c, rfl, rfl, hl, q2, k⟩)⟩
      · cases h
    | none => cases h
    | bool _ => cases h
    | int _ => cases h
    | dict _ => cases h) q
theorem zo_ixC {p : Addr} {b : Bool} {xs : List PyData} {i : Int} {d : PyData} (hm : (p, b, CD.lst xs) ∈ M) (h : atI xs i = some d) (q : Q (.d d) M) : ZO K (rIx K) (.c p) (.d (.int i)) M Q := fun n S σ G H R v u a b' Qv k => by
  have eu := dp_int b'
  have ev : v = .ref p := a
  subst eu ev
  obtain ⟨_, ws, h1, h2⟩ := R.ce p b _ hm
  obtain ⟨w, h3, h4⟩ := dpa_at h2 h
  exact .inl ⟨p, ws, i, w, rfl, rfl, Evl.sq_of h1, h3, k w G H (.d d) M (Ex.refl G) R h4 q⟩
theorem atI0 {α : Type} {x : α} {r : List α} : atI (x :: r) 0 = some x := atI_nat (j := 0) rfl
theorem atI1 {α : Type} {x y : α} {r : List α} : atI (x :: y :: r) 1 = some y := atI_nat (j := 1) rfl
theorem atI2 {α : Type} {x y z : α} {r : List α} : atI (x :: y :: z :: r) 2 = some z := atI_nat (j := 2) rfl
theorem atI3 {α : Type} {x y z w : α} {r : List α} : atI (x :: y :: z :: w :: r) 3 = some w := atI_nat (j := 3) rfl
/-! ### built-in functions over data -/
/-- a call on values, over data -/
def ZC (K : Fg) (r : List V → Hp → VK → Prop) (zs : List ZV) (M : Ms) (Q : QZ) : Prop := ∀ (n : Sn) (S : Zs) (σ : L2.St) (G H : Hp), Rel K n S M σ G H → ∀ vs, ZAll K G vs zs → ∀ Qv : VK,
  (∀ w G' H' z M', Ex G G' → Rel K n S M' σ G' H' → ZV.at K G' w z → Q z M' → Qv w H') → r vs H Qv
theorem zw_cb {r : List V → Hp → VK → Prop} (h : ZA K E tA S M (fun zs M1 => ZC K r zs M1 Q) X) : ZW K E (tCB r tA) S M Q X := fun n σ G H R Qv k kx =>
  h n σ G H R _ (fun vs G1 H1 zs M1 e1 R1 a1 h1 => h1 n S σ G1 H1 R1 vs a1 Qv fun w G3 H3 z M3 e3 R3 a3 q => k w G3 H3 z M3 (e1.trans e3) R3 a3 q) kx
theorem zc_val {r : List V → Hp → VK → Prop} {zs : List ZV} {z : ZV} (h : ∀ G H vs, Ex G H → ZAll K G vs zs → ∃ w, ZV.at K G w z ∧ ∀ Qv : VK, Qv w H → r vs H Qv) (q : Q z M) : ZC K r zs M Q := fun n S σ G H R vs a Qv k => by
  obtain ⟨w, h1, h2⟩ := h G H vs R.ex a
  exact h2 Qv (k w G H z M (Ex.refl G) R h1 q)
theorem zall1 {vs : List V} {z : ZV} (h : ZAll K G vs [z]) : ∃ v, vs = [v] ∧ ZV.at K G v z := by
  cases h with
  | cons a b => cases b; exact ⟨_, rfl, a⟩
theorem zall2 {vs : List V} {z y : ZV} (h : ZAll K G vs [z, y]) : ∃ v u, vs = [v, u] ∧ ZV.at K G v z ∧ ZV.at K G u y := by
  cases h with
  | cons a b => cases b with | cons b c => cases c; exact ⟨_, _, rfl, a, b⟩
def dLen : PyData → Option Nat
  | .list ds => some ds.length
  | .tuple ds => some ds.length
  | .str z => if z.length ≤ sizeLine then some z.length else none
  | _ => none
abbrev rLenA (K : Fg) : List V → Hp → VK → Prop := fun xs H Q => ∃ x n, xs = [x] ∧ LenV K x H n ∧ Q (.int (n : Nat)) H
theorem zc_len {x : PyData} {k : Nat} (h : dLen x = some k) (q : Q (.d (.int (k : Nat))) M) : ZC K (rLenA K) [.d x] M Q := zc_val (z := .d (.int (k : Nat))) (fun G H vs e a => by
  obtain ⟨v, rfl, av⟩ := zall1 a
  refine ⟨.int (k : Nat), Dz.int _, fun Qv hq => ⟨v, k, rfl, ?_, hq⟩⟩
  cases x with
  | list ds => obtain ⟨p, xs, rfl, h1, h2⟩ := dp_lst av; cases h; exact .inl ⟨xs, Evl.ex_l e h1, (dpa_len h2).symm⟩
  | tuple ds => obtain ⟨p, xs, rfl, h1, h2⟩ := dp_tup av; cases h; exact .inr ⟨xs, Evl.ex_t e h1, (dpa_len h2).symm⟩
  | str z =>
    have ev := dp_str av
    subst ev
    simp only [dLen] at h
    split at h
    · rename_i hl; cases h; exact ⟨hl, rfl⟩
    · cases h
  | none => cases h
  | bool _ => cases h
  | int _ => cases h
  | dict _ => cases h) q
theorem zc_lenC {p : Addr} {b : Bool} {xs : List PyData} (hm : (p, b, CD.lst xs) ∈ M) (q : Q (.d (.int (xs.length : Nat))) M) : ZC K (rLenA K) [.c p] M Q := fun n S σ G H R vs a Qv k => by
  obtain ⟨v, rfl, av⟩ := zall1 a
  have ev : v = .ref p := av
  subst ev
  obtain ⟨_, ws, h1, h2⟩ := R.ce p b _ hm
  exact ⟨_, xs.length, rfl, .inl ⟨ws, Evl.sq_of h1, (dpa_len h2).symm⟩, k (.int (xs.length : Nat)) G H (.d (.int (xs.length : Nat))) M (Ex.refl G) R (Dz.int _) q⟩
/-- int(an int) -/
abbrev rInt1 : List V → Hp → VK → Prop := fun xs H Q => (∃ i, xs = [.int i] ∧ Q (.int i) H) ∨ ∃ k, xs = [.bl k] ∧ Q (.int (if k then 1 else 0)) H
abbrev rIntS : List V → Hp → VK → Prop := fun xs H Q => ∃ a n, xs = [.str a] ∧ PySem.intText? a = some n ∧ a.length ≤ 640 ∧ Q (.int n) H
abbrev rIntA : List V → Hp → VK → Prop := fun xs H Q => rInt1 xs H Q ∨ rIntS xs H Q
theorem zc_int {i : Int} (q : Q (.d (.int i)) M) : ZC K rIntA [.d (.int i)] M Q := zc_val (z := .d (.int i)) (fun G H vs e a => by
  obtain ⟨v, rfl, av⟩ := zall1 a
  exact ⟨v, av, fun Qv hq => .inl (.inl ⟨i, by rw [dp_int av], by rw [← dp_int av]; exact hq⟩)⟩) q
/-- tuple(a list), tuple(a tuple) -/
abbrev rTupOf (K : Fg) : List V → Hp → VK → Prop := fun xs H Q => ∃ p ys, xs = [.ref p] ∧ ((SqL K H p ys ∧ ∀ l, H l = none → Q (.ref l) (upd H l (.tup ys))) ∨ (SqT K H p ys ∧ Q (.ref p) H))
theorem zc_tupL {xs : List PyData} (q : Q (.d (.tuple xs)) M) : ZC K (rTupOf K) [.d (.list xs)] M Q := fun n S σ G H R vs a Qv k => by
  obtain ⟨v, rfl, av⟩ := zall1 a
  obtain ⟨p, ys, rfl, h1, h2⟩ := dp_lst av
  refine ⟨p, ys, rfl, .inl ⟨Evl.ex_l R.ex h1, fun l hl => ?_⟩⟩
  have g := ex_gnone R.ex hl
  exact k (.ref l) _ _ (.d (.tuple xs)) M (Ex.new g) (R.new hl (fun _ z => nomatch z)) (Dz.tup (.inl upd_same) (dpAll_mono (Ex.new g) h2)) q
theorem zc_tupC {p : Addr} {b : Bool} {xs : List PyData} (hm : (p, b, CD.lst xs) ∈ M) (q : Q (.d (.tuple xs)) M) : ZC K (rTupOf K) [.c p] M Q := fun n S σ G H R vs a Qv k => by
  obtain ⟨v, rfl, av⟩ := zall1 a
  have ev : v = .ref p := av
  subst ev
  obtain ⟨_, ys, h1, h2⟩ := R.ce p b _ hm
  refine ⟨p, ys, rfl, .inl ⟨Evl.sq_of h1, fun l hl => ?_⟩⟩
  have g := ex_gnone R.ex hl
  exact k (.ref l) _ _ (.d (.tuple xs)) M (Ex.new g) (R.new hl (fun _ z => nomatch z)) (Dz.tup (.inl upd_same) (dpAll_mono (Ex.new g) h2)) q
/-- isinstance(x, a built-in class) -/
def dTy : PyData → String
  | .none => "NoneType"
  | .bool _ => "bool"
  | .int _ => "int"
  | .str _ => "str"
  | .list _ => "list"
  | .tuple _ => "tuple"
  | .dict _ => "dict"
theorem rd_tyL {a : Addr} {xs : List V} (h : SqL K H a xs) : TyX K H (.ref a) (.type "list") := by
  rcases h with (h | ⟨o, h⟩) | ⟨o, its, k, h1, h2, _⟩
  · exact .base (.lst h)
  · exact .base (.frz h)
  · exact .kList h1 h2
theorem rd_tyT {a : Addr} {xs : List V} (h : SqT K H a xs) : TyX K H (.ref a) (.type "tuple") := by
  rcases h with (h | ⟨o, h⟩) | ⟨o, its, k, h1, h2, _⟩
  · exact .base (.tup h)
  · exact .fTuple h
  · exact .kTuple h1 h2
theorem dp_ty {x : PyData} {v : V} (e : Ex G H) (h : Dz K G v x) : TyX K H v (.type (dTy x)) := by
  cases h with
  | non => exact .base .non
  | bl b => exact .base (.bl b)
  | int i => exact .base (.int i)
  | str s => exact .base (.str s)
  | lst s a => exact rd_tyL (Evl.ex_l e s)
  | tup s a => exact rd_tyT (Evl.ex_t e s.sq)
theorem zt_isi {T : String} {tcl : TE} (hcl : tcl = tC (.ty T)) (h : ZW K E te S M (fun z M1 => ∃ x b, z = .d x ∧ kitB (dTy x) T = some b ∧ Q (.d (.bool b)) M1) X) : ZW K E (tCB (rIsi K) (tCons te (tCons tcl tNil))) S M Q X := fun n σ G H R Qv k kx =>
  h n σ G H R _ (fun v G1 H1 z M1 e1 R1 a1 ⟨x, b, hz, hb, q⟩ => by
    subst hz hcl
    exact ⟨v, .ty T, .type (dTy x), .type T, b, rfl, .ty T, dp_ty R1.ex a1, kit_ty hb, k _ G1 H1 (.d (.bool b)) M1 e1 R1 (Dz.bl b) q⟩) kx
/-- isinstance(x, (T1, T2)) -/
theorem kitAny2 {a T1 T2 : String} {b1 b2 : Bool} (h1 : kitB a T1 = some b1) (h2 : kitB a T2 = some b2) : PySem.W.kitAny K (.type a) [.type T1, .type T2] = some (b1 || b2) := by
  refine kitAny_cons (kit_ty h1) (fun e => ?_) (fun e => by rw [e]; rfl)
  refine kitAny_cons (kit_ty h2) (fun e2 => ?_) (fun e2 => by rw [e2, Bool.or_true])
  rw [e, e2]
  rfl
theorem zt_isi2 {T1 T2 : String} (h : ZW K E te S M (fun z M1 => ∃ x b1 b2, z = .d x ∧ kitB (dTy x) T1 = some b1 ∧ kitB (dTy x) T2 = some b2 ∧ Q (.d (.bool (b1 || b2))) M1) X) :
    ZW K E (tCB (rIsiT K) (tCons te (tCons (tTup (tCons (tC (.ty T1)) (tCons (tC (.ty T2)) tNil))) tNil))) S M Q X := fun n σ G H R Qv k kx =>
  h n σ G H R _ (fun v G1 H1 z M1 e1 R1 a1 ⟨x, b1, b2, hz, hb1, hb2, q⟩ => by
    subst hz
    refine ⟨by show 2 ≤ sizeLine; decide, fun p hp => ?_⟩
    have g := ex_gnone R1.ex hp
    exact ⟨v, p, [.ty T1, .ty T2], .type (dTy x), [.type T1, .type T2], b1 || b2, rfl, upd_same, .cons (.ty T1) (.cons (.ty T2) .nil), dp_ty (R1.ex.trans (Ex.new hp)) a1, kitAny2 hb1 hb2,
      k _ _ _ (.d (.bool (b1 || b2))) M1 (e1.trans (Ex.new g)) (R1.new hp (o := .tup [.ty T1, .ty T2]) (fun _ z => nomatch z)) (Dz.bl _) q⟩) kx
/-! ### lists and tuples glued; x in flat ones -/
theorem zo_catT {xs ys : List PyData} (hl : xs.length + ys.length ≤ sizeLine) (q : Q (.d (.tuple (xs ++ ys))) M) : ZO K (rCatA K) (.d (.tuple xs)) (.d (.tuple ys)) M Q := fun n S σ G H R v u a b Qv k => by
  obtain ⟨p, vs, rfl, h1, h2⟩ := dp_tup a
  obtain ⟨p2, ws, rfl, h3, h4⟩ := dp_tup b
  have l1 := dpa_len h2
  have l2 := dpa_len h4
  refine ⟨p, p2, vs, ws, rfl, rfl, Evl.ex_t R.ex h1, Evl.ex_t R.ex h3, by rw [l1, l2]; exact hl, fun e => ?_, fun _ e => ?_, fun _ _ r hr => ?_⟩
  · subst e
    have e : xs = [] := by cases xs with | nil => rfl | cons _ _ => cases l1
    subst e
    exact k (.ref p2) G H (.d (.tuple ys)) M (Ex.refl G) R b q
  · subst e
    have e : ys = [] := by cases ys with | nil => rfl | cons _ _ => cases l2
    subst e
    rw [List.append_nil] at q
    exact k (.ref p) G H (.d (.tuple xs)) M (Ex.refl G) R a q
  · have g := ex_gnone R.ex hr
    exact k (.ref r) _ _ (.d (.tuple (xs ++ ys))) M (Ex.new g) (R.new hr (fun _ z => nomatch z)) (Dz.tup (.inl upd_same) (dpAll_mono (Ex.new g) (dpa_app h2 h4))) q
def flatD : PyData → Bool
  | .none => true
  | .bool _ => true
  | .int _ => true
  | .str _ => true
  | _ => false
def vOf : PyData → V
  | .none => .non
  | .bool b => .bl b
  | .int i => .int i
  | .str s => .str s
  | _ => .non
theorem dp_flat {x : PyData} {v : V} (h : Dz K G v x) (f : flatD x = true) : v = vOf x := by
  cases h with
  | lst => cases f
  | tup => cases f
  | _ => rfl
theorem dpa_flat {vs : List V} {ds : List PyData} (h : DzAll K G vs ds) (f : ds.all flatD = true) : vs = ds.map vOf := by
  induction ds generalizing vs with
  | nil => cases h; rfl
  | cons d ds ih =>
    cases h with
    | cons a b =>
      simp only [List.all_cons, Bool.and_eq_true] at f
      rw [dp_flat a f.1, ih b f.2]
      rfl
theorem zo_inT {neg : Bool} {x : PyData} {ds : List PyData} (hx : flatV (vOf x) = true ∧ flatD x = true) (hd : (ds.map vOf).all flatV = true ∧ ds.all flatD = true) (q : Q (.d (.bool (if neg then !inV (vOf x) (ds.map vOf) else inV (vOf x) (ds.map vOf)))) M) : ZO K (rIn K neg) (.d x) (.d (.tuple ds)) M Q :=
  zo_val (z := .d (.bool (if neg then !inV (vOf x) (ds.map vOf) else inV (vOf x) (ds.map vOf)))) (fun G H v u e a b => by
    obtain ⟨p, vs, rfl, h1, h2⟩ := dp_tup b
    have e1 := dp_flat a hx.2
    have e2 := dpa_flat h2 hd.2
    subst e1 e2
    exact ⟨_, Dz.bl _, fun Qv hq => ⟨p, _, rfl, .inr (Evl.ex_t e h1), hx.1, hd.1, hq⟩⟩) q
theorem zo_inL {neg : Bool} {x : PyData} {ds : List PyData} (hx : flatV (vOf x) = true ∧ flatD x = true) (hd : (ds.map vOf).all flatV = true ∧ ds.all flatD = true) (q : Q (.d (.bool (if neg then !inV (vOf x) (ds.map vOf) else inV (vOf x) (ds.map vOf)))) M) : ZO K (rIn K neg) (.d x) (.d (.list ds)) M Q :=
  zo_val (z := .d (.bool (if neg then !inV (vOf x) (ds.map vOf) else inV (vOf x) (ds.map vOf)))) (fun G H v u e a b => by
    obtain ⟨p, vs, rfl, h1, h2⟩ := dp_lst b
    have e1 := dp_flat a hx.2
    have e2 := dpa_flat h2 hd.2
    subst e1 e2
    exact ⟨_, Dz.bl _, fun Qv hq => ⟨p, _, rfl, .inl (Evl.ex_l e h1), hx.1, hd.1, hq⟩⟩) q
/-! ### slices -/
abbrev rSlAny (K : Fg) : V → Option Int → Option Int → Hp → VK → Prop := fun x lo hi H Q => rSlL K x lo hi H Q ∨ (rSlA K x lo hi H Q ∨ C8.rSlX x lo hi H Q)
theorem sl_any {X : Cx} : SlR X (rSlAny X.K) := sl_list.or (sl_tupA.or C8.sl_txt)
def ZPt (K : Fg) (E : L2.St → XK) (to : TO) (S : Zs) (M : Ms) (Q : Option Int → Ms → Prop) (X : XZ) : Prop := ∀ (n : Sn) (σ : L2.St) (G H : Hp), Rel K n S M σ G H → ∀ Qv : Option Int → Hp → Prop,
  (∀ o G' H' M', Ex G G' → Rel K n S M' σ G' H' → Q o M' → Qv o H') → XOk K (E σ) n σ G X → to σ H Qv
theorem zp_none {Q : Option Int → Ms → Prop} (q : Q none M) : ZPt K E tNoPart S M Q X := fun n σ G H R Qv k _ => k none G H M (Ex.refl G) R q
theorem zp_some {Q : Option Int → Ms → Prop} (h : ZW K E te S M (fun z M1 => ∃ i, z = .d (.int i) ∧ Q (some i) M1) X) : ZPt K E (tPart te) S M Q X := fun n σ G H R Qv k kx =>
  h n σ G H R _ (fun v G1 H1 z M1 e1 R1 a1 ⟨i, hz, q⟩ => by subst hz; exact ⟨i, dp_int a1, k (some i) G1 H1 M1 e1 R1 q⟩) kx
def cutD (xs : List PyData) (lo hi : Option Int) : List PyData := (xs.drop (HT.sIx xs.length 0 lo)).take (HT.sIx xs.length xs.length hi - HT.sIx xs.length 0 lo)
def dSl : PyData → Option Int → Option Int → Option PyData
  | .tuple ds, lo, hi => some (.tuple (cutD ds lo hi))
  | .list ds, lo, hi => some (.list (cutD ds lo hi))
  | .str z, lo, hi => if z.length ≤ sizeLine then some (.str (Txt.slice z lo hi)) else none
  | _, _, _ => none
theorem cut_whole {ds : List PyData} {lo hi : Option Int} (h : HT.sIx ds.length 0 lo = 0 ∧ HT.sIx ds.length ds.length hi = ds.length) : cutD ds lo hi = ds := by
  unfold cutD
  rw [h.1, h.2]
  simp
theorem dpa_cut {vs : List V} {ds : List PyData} (lo hi : Option Int) (h : DzAll K G vs ds) : DzAll K G (cutV vs lo hi) (cutD ds lo hi) := by
  unfold cutV cutD
  rw [dpa_len h]
  exact dpa_take _ (dpa_drop _ h)
theorem zw_sl {tl th : TO} (h : ZW K E te S M (fun z M1 => ZPt K E tl S M1 (fun lo M2 => ZPt K E th S M2 (fun hi M3 => ∃ x y, z = .d x ∧ dSl x lo hi = some y ∧ Q (.d y) M3) X) X) X) : ZW K E (tSl (rSlAny K) te tl th) S M Q X := fun n σ G H R Qv k kx =>
  h n σ G H R _ (fun v G1 H1 z M1 e1 R1 a1 h1 => h1 n σ G1 H1 R1 _ (fun lo G2 H2 M2 e2 R2 h2 => h2 n σ G2 H2 R2 _ (fun hi G3 H3 M3 e3 R3 ⟨x, y, hz, hy, q⟩ => by
    subst hz
    have a3 : Dz K G3 v x := dp_mono (e2.trans e3) a1
    have e13 := (e1.trans e2).trans e3
    cases x with
    | tuple ds =>
      obtain ⟨p, vs, rfl, h1, h2⟩ := dp_tup a3
      cases hy
      refine .inr (.inl ⟨p, vs, rfl, Evl.ex_t R3.ex h1, fun c => ?_, fun _ r hr => ?_⟩)
      · rw [dpa_len h2] at c
        rw [cut_whole c] at q
        exact k (.ref p) G3 H3 (.d (.tuple ds)) M3 e13 R3 a3 q
      · have g := ex_gnone R3.ex hr
        exact k (.ref r) _ _ (.d (.tuple (cutD ds lo hi))) M3 (e13.trans (Ex.new g)) (R3.new hr (fun _ z => nomatch z)) (Dz.tup (.inl upd_same) (dpAll_mono (Ex.new g) (dpa_cut lo hi h2))) q
    | list ds =>
      obtain ⟨p, vs, rfl, h1, h2⟩ := dp_lst a3
      cases hy
      refine .inl ⟨p, vs, rfl, Evl.ex_l R3.ex h1, fun r hr => ?_⟩
      have g := ex_gnone R3.ex hr
      exact k (.ref r) _ _ (.d (.list (cutD ds lo hi))) M3 (e13.trans (Ex.new g)) (R3.new hr (fun _ z => nomatch z)) (Dz.lst (Evl.sq_of upd_same) (dpAll_mono (Ex.new g) (dpa_cut lo hi h2))) q
    | str z =>
      have ev := dp_str a3
      subst ev
      simp only [dSl] at hy
      split at hy
      · rename_i hl
        cases hy
        exact .inr (.inr ⟨z, rfl, hl, k _ G3 H3 (.d (.str (Txt.slice z lo hi))) M3 e13 R3 (Dz.str _) q⟩)
      · cases hy
    | none => cases hy
    | bool _ => cases hy
    | int _ => cases hy
    | dict _ => cases hy) (kx.mono (e1.trans e2))) (kx.mono e1)) kx
/-! ### methods of built-in things -/
/-- o.append(e), o an own list -/
theorem zw_append {to : TE} (h : ZW K E to S M (fun z M0 => ∃ p, z = .c p ∧ (∃ b xs, (p, b, CD.lst xs) ∈ M0) ∧ ZW K E te S M0 (fun y M1 => ∃ d b xs M2, y = .d d ∧ Upd1 p b (.lst xs) (.lst (xs ++ [d])) M1 M2 ∧ xs.length < sizeLine ∧ Q (.d .none) M2) X) X) :
    ZW K E (tBM K "list" rAppend to (tCons te tNil)) S M Q X := fun n σ G H R Qv k kx =>
  h n σ G H R _ (fun v G0 H0 z M0 e0 R0 a0 ⟨p, hz, ⟨b0, xs0, hm0⟩, h2⟩ => by
    subst hz
    have ev : v = .ref p := a0
    subst ev
    obtain ⟨_, ws0, h3, _⟩ := R0.ce p b0 _ hm0
    refine ⟨.inl ⟨rfl, ws0, Evl.sq_of h3⟩, h2 n σ G0 H0 R0 _ (fun u G1 H1 y M1 e1 R1 a1 ⟨d, b, xs, M2, hy, hu, hl, q⟩ => ?_) (kx.mono e0)⟩
    subst hy
    obtain ⟨_, ws, h4, h5⟩ := R1.ce p b _ hu.mem
    exact ⟨p, ws, u, rfl, rfl, h4, by rw [dpa_len h5]; exact hl, k .non G1 _ (.d .none) M2 (e0.trans e1) (R1.putLst hu (dpa_app h5 (dpa_one a1))) Dz.non q⟩) kx
/-- a text's method with one argument; without -/
def ZM (K : Fg) (r : V → List V → Hp → VK → Prop) (x : ZV) (zs : List ZV) (M : Ms) (Q : QZ) : Prop := ∀ (n : Sn) (S : Zs) (σ : L2.St) (G H : Hp), Rel K n S M σ G H → ∀ v vs, ZV.at K G v x → ZAll K G vs zs → ∀ Qv : VK,
  (∀ w G' H' z M', Ex G G' → Rel K n S M' σ G' H' → ZV.at K G' w z → Q z M' → Qv w H') → r v vs H Qv
theorem zw_m1 {r : V → List V → Hp → VK → Prop} {to : TE} (h : ZW K E to S M (fun x M0 => ∃ a, x = .d (.str a) ∧ ZW K E te S M0 (fun y M1 => ZM K r x [y] M1 Q) X) X) : ZW K E (tM1 r to te) S M Q X := fun n σ G H R Qv k kx =>
  h n σ G H R _ (fun v G0 H0 x M0 e0 R0 a0 ⟨a, hx, h2⟩ => by
    subst hx
    refine ⟨⟨a, dp_str a0⟩, h2 n σ G0 H0 R0 _ (fun u G1 H1 y M1 e1 R1 a1 h3 => ?_) (kx.mono e0)⟩
    exact h3 n S σ G1 H1 R1 v [u] (dp_mono e1 a0) (.cons a1 .nil) Qv fun w G' H' z M' e' R' a' q => k w G' H' z M' ((e0.trans e1).trans e') R' a' q) kx
end
end Z
namespace Z
open PySem PySem.Spec PyProof.Rows L2
open Evl (Ex)
section
variable {K : Fg} {E : L2.St → XK} {e0 : XK} {te ta tb tc : TE} {tA : TA} {tt : TT} {t u : TS} {S S' : Zs} {M M' : Ms} {P : ZP} {Q : QZ} {X : XZ} {n : Sn} {σ σ' : L2.St} {G G' H H' : Hp} {g : TG}
/-! ### targets -/
def ZG (K : Fg) (g : TG) (x : ZV) (S : Zs) (is : List Nat) (S' : Zs) : Prop := ∀ (n : Sn) (M : Ms) (σ : L2.St) (G H : Hp) (v : V), Rel K n S M σ G H → ZV.at K G v x → ∀ Qv : L2.St → Hp → Prop,
  (∀ σ', σ'.length = σ.length → (∀ j : Nat, j ∉ is → σ'[j]? = σ[j]?) → Rel K n S' M σ' G H → Qv σ' H) → g v σ H Qv
def ZGs (K : Fg) (g : TGs) (xs : List PyData) (S : Zs) (is : List Nat) (S' : Zs) : Prop := ∀ (n : Sn) (M : Ms) (σ : L2.St) (G H : Hp) (vs : List V), Rel K n S M σ G H → DzAll K G vs xs → ∀ Qv : L2.St → Hp → Prop,
  (∀ σ', σ'.length = σ.length → (∀ j : Nat, j ∉ is → σ'[j]? = σ[j]?) → Rel K n S' M σ' G H → Qv σ' H) → g vs σ H Qv
theorem zg_name {i : Nat} {z : ZV} : ZG K (gName i) z S [i] (S.set i (some z)) := fun n M σ G H v R a Qv k =>
  k _ (by simp) (fun j hj => by rw [List.getElem?_set_ne (by simpa using fun e => hj (by simp [e]))]) (R.set a)
theorem zgs_nil : ZGs K gNil [] S [] S := fun n M σ G H vs R a Qv k => by
  cases a
  exact ⟨rfl, k σ rfl (fun _ _ => rfl) R⟩
theorem zgs_cons {i : Nat} {us : TGs} {x : PyData} {xs : List PyData} {is : List Nat} (h : ZGs K us xs (S.set i (some (.d x))) is S') : ZGs K (gCons (gName i) us) (x :: xs) S (i :: is) S' := fun n M σ G H vs R a Qv k => by
  cases a with
  | cons a b =>
    refine ⟨_, _, rfl, h n M _ G H _ (R.set (z := .d x) a) b Qv fun σ' hl hj R' => k σ' (by simpa using hl) (fun j q => ?_) R'⟩
    rw [hj j (fun z => q (List.mem_cons_of_mem _ z)), List.getElem?_set_ne (fun z => q (by simp [z]))]
theorem zg_tup {us : TGs} {k : Nat} {xs : List PyData} {is : List Nat} (hk : xs.length = k) (h : ZGs K us xs S is S') : ZG K (gTup K k us) (.d (.tuple xs)) S is S' := fun n M σ G H v R a Qv q => by
  obtain ⟨p, vs, rfl, h1, h2⟩ := dp_tup a
  exact ⟨p, vs, rfl, Evl.ex_t R.ex h1, by rw [dpa_len h2, hk], h n M σ G H vs R h2 Qv q⟩
theorem zs_asgG (h : ZW K E te S M (fun z M1 => ∃ is S2, ZG K g z S is S2 ∧ P.nx S2 M1) P.ex) : ZS K E (tAsg te g) S M P := fun n σ G H R D k =>
  h n σ G H R _ (fun v G1 H1 z M1 e1 R1 a1 ⟨is, S2, hg, q⟩ => hg n M1 σ G1 H1 v R1 a1 _ fun σ' _ _ R2 => k.nx σ' G1 H1 S2 M1 e1 R2 q) k.xok
/-! ### for -/
def LoopP (P : ZP) (I : Zs → Ms → Prop) : ZP := { P with nx := I, ct := I, bk := P.nx }
theorem DOk.loop {D : Ends} {I : Zs → Ms → Prop} {N : L2.St → Hp → Prop} (k : DOk K E n G P D) (h : ∀ σ' G' H' S' M', Ex G G' → Rel K n S' M' σ' G' H' → I S' M' → N σ' H') : DOk K E n G (LoopP P I) { D with nx := N, ct := N, bk := D.nx } :=
  ⟨h, k.rt, k.nx, h, k.ex⟩
/-- the invariant of a loop over what is data of the frozen part -/
def FI (K : Fg) (n : Sn) (G0 : Hp) (I : Nat → Zs → Ms → Prop) (i : Nat) (σ : L2.St) (H : Hp) : Prop := ∃ G S M, Rel K n S M σ G H ∧ Ex G0 G ∧ I i S M
theorem dpa_at_v {vs : List V} {ds : List PyData} (h : DzAll K G vs ds) {i : Nat} {v : V} (e : vs[i]? = some v) : ∃ d, ds[i]? = some d ∧ Dz K G v d := by
  have hi : i < ds.length := by rw [← dpa_len h]; exact (List.getElem?_eq_some_iff.mp e).1
  obtain ⟨w, h1, h2⟩ := dpa_get h (List.getElem?_eq_getElem hi)
  rw [e] at h1
  cases h1
  exact ⟨_, List.getElem?_eq_getElem hi, h2⟩
theorem zs_forT (h : ZW K E te S M (fun z M1 => ∃ xs, z = .d (.tuple xs) ∧ ∃ I : Nat → Zs → Ms → Prop, I 0 S M1 ∧
      (∀ i x S' M', xs[i]? = some x → I i S' M' → ∃ is S2, ZG K g (.d x) S' is S2 ∧ ZS K E t S2 M' (LoopP P (I (i + 1)))) ∧ (∀ S' M', I xs.length S' M' → P.nx S' M')) P.ex) : ZS K E (tFor (iTup K te) g t) S M P := fun n σ G H R D k =>
  h n σ G H R _ (fun v G1 H1 z M1 e1 R1 a1 ⟨xs, hz, I, i0, is, id⟩ => by
    subst hz
    obtain ⟨p, vs, rfl, h1, h2⟩ := dp_tup a1
    refine ⟨p, rfl, ⟨vs, Evl.ex_t R1.ex h1⟩, for_tup (xs := vs) (FI K n G1 I) ⟨G1, S, M1, R1, Ex.refl _, i0⟩ (fun i σ' H' _ ⟨G', S', M', R', e', _⟩ => Evl.ex_t (e'.trans R'.ex) h1) (fun i x σ' H' hx ⟨G', S', M', R', e', hi⟩ => ?_) (fun σ' H' ⟨G', S', M', R', e', hi⟩ => k.nx σ' G' H' S' M' (e1.trans e') R' (id S' M' (by rw [← dpa_len h2]; exact hi)))⟩
    obtain ⟨d, hd, ax⟩ := dpa_at_v h2 hx
    obtain ⟨js, S2, hg, hb⟩ := is i d S' M' hd hi
    exact hg n M' σ' G' H' x R' (dp_mono e' ax) _ fun σ2 _ _ R2 => hb n σ2 G' H' R2 _ ((k.mono (e1.trans e')).loop fun σ3 G3 H3 S3 M3 e3 R3 i3 => ⟨G3, S3, M3, R3, e'.trans e3, i3⟩)) k.xok
theorem zs_forL (h : ZW K E te S M (fun z M1 => ∃ xs, z = .d (.list xs) ∧ ∃ I : Nat → Zs → Ms → Prop, I 0 S M1 ∧
      (∀ i x S' M', xs[i]? = some x → I i S' M' → ∃ is S2, ZG K g (.d x) S' is S2 ∧ ZS K E t S2 M' (LoopP P (I (i + 1)))) ∧ (∀ S' M', I xs.length S' M' → P.nx S' M')) P.ex) : ZS K E (tFor (iList K te) g t) S M P := fun n σ G H R D k =>
  h n σ G H R _ (fun v G1 H1 z M1 e1 R1 a1 ⟨xs, hz, I, i0, is, id⟩ => by
    subst hz
    obtain ⟨p, vs, rfl, h1, h2⟩ := dp_lst a1
    refine ⟨p, rfl, ⟨vs, Evl.ex_l R1.ex h1⟩, for_list (xs := vs) (FI K n G1 I) ⟨G1, S, M1, R1, Ex.refl _, i0⟩ (fun i σ' H' _ ⟨G', S', M', R', e', _⟩ => Evl.ex_l (e'.trans R'.ex) h1) (fun i x σ' H' hx ⟨G', S', M', R', e', hi⟩ => ?_) (fun σ' H' ⟨G', S', M', R', e', hi⟩ => k.nx σ' G' H' S' M' (e1.trans e') R' (id S' M' (by rw [← dpa_len h2]; exact hi)))⟩
    obtain ⟨d, hd, ax⟩ := dpa_at_v h2 hx
    obtain ⟨js, S2, hg, hb⟩ := is i d S' M' hd hi
    exact hg n M' σ' G' H' x R' (dp_mono e' ax) _ fun σ2 _ _ R2 => hb n σ2 G' H' R2 _ ((k.mono (e1.trans e')).loop fun σ3 G3 H3 S3 M3 e3 R3 i3 => ⟨G3, S3, M3, R3, e'.trans e3, i3⟩)) k.xok
theorem zs_forR1 (h : ZA K E tA S M (fun zs M1 => ∃ j : Int, zs = [.d (.int j)] ∧ -(2 ^ 62) ≤ j ∧ j < 2 ^ 62 ∧ ∃ I : Nat → Zs → Ms → Prop, I 0 S M1 ∧
      (∀ i S' M', i < j.toNat → I i S' M' → ∃ is S2, ZG K g (.d (.int (0 + (i : Nat)))) S' is S2 ∧ ZS K E t S2 M' (LoopP P (I (i + 1)))) ∧ (∀ S' M', I j.toNat S' M' → P.nx S' M')) P.ex) : ZS K E (tFor (iRng1 tA) g t) S M P := fun n σ G H R D k =>
  h n σ G H R _ (fun vs G1 H1 zs M1 e1 R1 a1 ⟨j, hz, l1, l2, I, i0, is, id⟩ => by
    subst hz
    obtain ⟨v, rfl, av⟩ := zall1 a1
    have ev := dp_int av
    subst ev
    refine ⟨j, rfl, l1, l2, for_range (n := j.toNat) (FI K n G1 I) ⟨G1, S, M1, R1, Ex.refl _, i0⟩ (fun i σ' H' hx ⟨G', S', M', R', e', hi⟩ => ?_) (fun σ' H' ⟨G', S', M', R', e', hi⟩ => k.nx σ' G' H' S' M' (e1.trans e') R' (id S' M' hi))⟩
    obtain ⟨js, S2, hg, hb⟩ := is i S' M' hx hi
    exact hg n M' σ' G' H' _ R' (Dz.int _) _ fun σ2 _ _ R2 => hb n σ2 G' H' R2 _ ((k.mono (e1.trans e')).loop fun σ3 G3 H3 S3 M3 e3 R3 i3 => ⟨G3, S3, M3, R3, e'.trans e3, i3⟩)) k.xok
theorem zs_forR2 (h : ZA K E tA S M (fun zs M1 => ∃ a j : Int, zs = [.d (.int a), .d (.int j)] ∧ (-(2 ^ 62) ≤ a ∧ a < 2 ^ 62 ∧ -(2 ^ 62) ≤ j ∧ j < 2 ^ 62) ∧ ∃ I : Nat → Zs → Ms → Prop, I 0 S M1 ∧
      (∀ i S' M', i < (j - a).toNat → I i S' M' → ∃ is S2, ZG K g (.d (.int (a + (i : Nat)))) S' is S2 ∧ ZS K E t S2 M' (LoopP P (I (i + 1)))) ∧ (∀ S' M', I (j - a).toNat S' M' → P.nx S' M')) P.ex) : ZS K E (tFor (iRng2 tA) g t) S M P := fun n σ G H R D k =>
  h n σ G H R _ (fun vs G1 H1 zs M1 e1 R1 a1 ⟨a, j, hz, l1, I, i0, is, id⟩ => by
    subst hz
    obtain ⟨v, u, rfl, av, au⟩ := zall2 a1
    have ev := dp_int av
    have eu := dp_int au
    subst ev eu
    refine ⟨a, j, rfl, l1, for_range (n := (j - a).toNat) (FI K n G1 I) ⟨G1, S, M1, R1, Ex.refl _, i0⟩ (fun i σ' H' hx ⟨G', S', M', R', e', hi⟩ => ?_) (fun σ' H' ⟨G', S', M', R', e', hi⟩ => k.nx σ' G' H' S' M' (e1.trans e') R' (id S' M' hi))⟩
    obtain ⟨js, S2, hg, hb⟩ := is i S' M' hx hi
    exact hg n M' σ' G' H' _ R' (Dz.int _) _ fun σ2 _ _ R2 => hb n σ2 G' H' R2 _ ((k.mono (e1.trans e')).loop fun σ3 G3 H3 S3 M3 e3 R3 i3 => ⟨G3, S3, M3, R3, e'.trans e3, i3⟩)) k.xok
/-! ### comprehensions -/
def wipeZ (S : Zs) : List Nat → Zs
  | [] => S
  | v :: vs => (wipeZ S vs).set v none
theorem Rel.wipe (R : Rel K n S M σ G H) : ∀ vs : List Nat, Rel K n (wipeZ S vs) M (L2.wipe σ vs) G H
  | [] => R
  | v :: vs => (R.wipe vs).unset
theorem wipe_get (σ : L2.St) (j : Nat) : ∀ vs : List Nat, j ∉ vs → (L2.wipe σ vs)[j]? = σ[j]?
  | [], _ => rfl
  | v :: vs, h => by
    show ((L2.wipe σ vs).set v none)[j]? = _
    rw [List.getElem?_set_ne (fun e => h (by simp [e])), wipe_get σ j vs (fun z => h (List.mem_cons_of_mem _ z))]
theorem wipe_in (σ : L2.St) (j : Nat) : ∀ vs : List Nat, j ∈ vs → j < σ.length → (L2.wipe σ vs)[j]? = some none
  | v :: vs, h, hl => by
    show ((L2.wipe σ vs).set v none)[j]? = _
    by_cases e : v = j
    · subst e
      rw [List.getElem?_set]
      simp [L2.wipe_length, hl]
    · rw [List.getElem?_set_ne e]
      rcases List.mem_cons.mp h with z | z
      · exact absurd z.symm e
      · exact wipe_in σ j vs z hl
theorem wipe_eq {σ2 : L2.St} {vs : List Nat} (hl : σ2.length = (L2.wipe σ vs).length) (h : ∀ j : Nat, j ∉ vs → σ2[j]? = (L2.wipe σ vs)[j]?) : L2.wipe σ2 vs = L2.wipe σ vs := by
  refine List.ext_getElem? fun j => ?_
  by_cases hj : j ∈ vs
  · by_cases hb : j < σ.length
    · rw [wipe_in σ j vs hj hb, wipe_in σ2 j vs hj (by rw [hl, L2.wipe_length]; exact hb)]
    · have hb := Nat.le_of_not_lt hb
      have l1 : (L2.wipe σ2 vs).length ≤ j := by rw [L2.wipe_length, hl, L2.wipe_length]; exact hb
      have l2 : (L2.wipe σ vs).length ≤ j := by rw [L2.wipe_length]; exact hb
      rw [List.getElem?_eq_none l1, List.getElem?_eq_none l2]
  · rw [wipe_get σ2 j vs hj, h j hj]
/-- the slots of the entry over the rest of a later state -/
theorem Rel.reslot (R0 : Rel K n S M σ G H) (R : Rel K n S' M' σ' G' H') (e : Ex G G') : Rel K n S M' σ G' H' :=
  ⟨R.ex, R0.len, fun i z q => by obtain ⟨v, h1, h2⟩ := R0.sl i z q; exact ⟨v, h1, ZV.mono e h2⟩, R.nd, R.ce, R.g0, R.h0, R.lv, R.f0, R.a0, R.o0⟩
/-- one turn of a comprehension; I: behind i turns, the list so far, the cells -/
def LcTurn (K : Fg) (E : L2.St → XK) (g : TG) (tt : TT) (te : TE) (S : Zs) (vs : List Nat) (I : Nat → List PyData → Ms → Prop) (i : Nat) (x : PyData) : Prop := ∀ acc M' D, I i acc M' → ∃ is S2, (∀ j ∈ is, j ∈ vs) ∧ ZG K g (.d x) (wipeZ S vs) is S2 ∧
  ZT K E tt S2 ((D, true, .lst acc) :: M') (fun b Mb => (b = false → ∃ M2, Mb = (D, true, .lst acc) :: M2 ∧ I (i + 1) acc M2) ∧
    (b = true → ZW K E te S2 Mb (fun y Mc => ∃ d M2, y = .d d ∧ Mc = (D, true, .lst acc) :: M2 ∧ I (i + 1) (acc ++ [d]) M2) fun _ _ _ => False)) fun _ _ _ => False
def LcI (K : Fg) (n : Sn) (G0 : Hp) (S : Zs) (σ : L2.St) (vs : List Nat) (D : Addr) (I : Nat → List PyData → Ms → Prop) (i : Nat) (H : Hp) : Prop :=
  ∃ G M acc, Rel K n (wipeZ S vs) ((D, true, .lst acc) :: M) (L2.wipe σ vs) G H ∧ Ex G0 G ∧ acc.length ≤ i ∧ I i acc M
theorem lc_turn {vs : List Nat} {I : Nat → List PyData → Ms → Prop} {G0 : Hp} {D : Addr} {i : Nat} {v : V} {x : PyData} (ht : LcTurn K E g tt te S vs I i x) (hi : LcI K n G0 S σ vs D I i H) (hv : Dz K G0 v x) (hz : i < sizeLine) :
    g v (L2.wipe σ vs) H fun σ2 H2 => L2.wipe σ2 vs = L2.wipe σ vs ∧ tt σ2 H2 fun b H3 => if b = true then te σ2 H3 fun y H4 => ∃ acc, H4 D = some (.lst acc) ∧ acc.length < sizeLine ∧ LcI K n G0 S σ vs D I (i + 1) (upd H4 D (.lst (acc ++ [y]))) else LcI K n G0 S σ vs D I (i + 1) H3 := by
  obtain ⟨G, M, acc, R, e, hl, hI⟩ := hi
  obtain ⟨is, S2, hs, hg, hb⟩ := ht acc M D hI
  refine hg n _ _ G H v R (dp_mono e hv) _ fun σ2 l2 g2 R2 => ?_
  have ew : L2.wipe σ2 vs = L2.wipe σ vs := wipe_eq l2 fun j hj => g2 j fun z => hj (hs j z)
  have back : ∀ {G' H' : Hp} {M' : Ms}, Rel K n S2 M' σ2 G' H' → Ex G G' → Rel K n (wipeZ S vs) M' (L2.wipe σ vs) G' H' := fun R' e' => R.reslot R' e'
  refine ⟨ew, hb n σ2 G H R2 _ (fun b G3 H3 Mb e3 R3 q => ?_) ?_⟩
  · cases b with
    | true =>
      show te σ2 H3 _
      refine q.2 rfl n σ2 G3 H3 R3 _ (fun y G4 H4 z Mc e4 R4 a4 ⟨d, M2, hz2, hM, hI2⟩ => ?_) ?_
      · subst hz2 hM
        obtain ⟨_, ws, h1, h2⟩ := R4.ce D true _ m0
        refine ⟨ws, h1, by rw [dpa_len h2]; omega, G4, M2, acc ++ [d], ?_, (e.trans e3).trans e4, by simp; omega, hI2⟩
        exact (back R4 (e3.trans e4)).putLst .here (dpa_app h2 (dpa_one a4))
      · exact fun _ _ _ _ _ _ _ _ _ _ q => q.elim
    | false =>
      show LcI K n G0 S σ vs D I (i + 1) H3
      obtain ⟨M2, hM, hI2⟩ := q.1 rfl
      subst hM
      exact ⟨G3, M2, acc, back R3 e3, e.trans e3, by omega, hI2⟩
  · exact fun _ _ _ _ _ _ _ _ _ _ q => q.elim
/-- behind the last turn: the list is data -/
theorem lc_done {vs : List Nat} {I : Nat → List PyData → Ms → Prop} {G0 H0 : Hp} {D : Addr} {i : Nat} {Qv : VK} (R0 : Rel K n S M σ G0 H0) (hi : LcI K n G0 S σ vs D I i H) (hd : ∀ acc M', I i acc M' → Q (.d (.list acc)) M')
    (k : ∀ v G' H' z M', Ex G0 G' → Rel K n S M' σ G' H' → ZV.at K G' v z → Q z M' → Qv v H') : Qv (.ref D) H := by
  obtain ⟨G, M', acc, R, e, hl, hI⟩ := hi
  obtain ⟨G2, e2, R2, d2⟩ := R.frz .here
  exact k (.ref D) G2 H (.d (.list acc)) M' (e.trans e2) (R0.reslot R2 (e.trans e2)) d2 (hd acc M' hI)
theorem lc_start {vs : List Nat} {I : Nat → List PyData → Ms → Prop} {D : Addr} (R : Rel K n S M σ G H) (hD : H D = none) (h0 : I 0 [] M) : LcI K n G S σ vs D I 0 (upd H D (.lst [])) :=
  ⟨G, M, [], (R.newLst hD .nil).wipe vs, Ex.refl G, Nat.le_refl _, h0⟩
theorem zw_lcT {vs : List Nat} (h : ZW K E ta S M (fun z M1 => ∃ xs, z = .d (.tuple xs) ∧ xs.length ≤ sizeLine ∧ ∃ I : Nat → List PyData → Ms → Prop, I 0 [] M1 ∧ (∀ i x, xs[i]? = some x → LcTurn K E g tt te S vs I i x) ∧ (∀ acc M', I xs.length acc M' → Q (.d (.list acc)) M')) X) :
    ZW K E (tLc (iTup K ta) g tt te vs) S M Q X := fun n σ G H R Qv k kx =>
  h n σ G H R _ (fun v G1 H1 z M1 e1 R1 a1 ⟨xs, hz, hl, I, i0, is, id⟩ => by
    subst hz
    obtain ⟨p, ws, rfl, h1, h2⟩ := dp_tup a1
    refine ⟨p, rfl, ⟨ws, Evl.ex_t R1.ex h1⟩, fun D hD => lc_tup (xs := ws) (LcI K n G1 S σ vs D I) (lc_start R1 hD i0) (fun i H' _ ⟨G', _, _, R', e', _⟩ => Evl.ex_t (e'.trans R'.ex) h1) (fun i x H' hx hi => ?_) (fun H' hi => lc_done R1 hi (fun acc M' q => id acc M' (by rw [← dpa_len h2]; exact q)) fun v G' H' z M' e' => k v G' H' z M' (e1.trans e'))⟩
    obtain ⟨d, hd, ax⟩ := dpa_at_v h2 hx
    have hi2 : i < xs.length := (List.getElem?_eq_some_iff.mp hd).1
    exact lc_turn (is i d hd) hi ax (Nat.lt_of_lt_of_le hi2 hl)) kx
theorem zw_lcL {vs : List Nat} (h : ZW K E ta S M (fun z M1 => ∃ xs, z = .d (.list xs) ∧ xs.length ≤ sizeLine ∧ ∃ I : Nat → List PyData → Ms → Prop, I 0 [] M1 ∧ (∀ i x, xs[i]? = some x → LcTurn K E g tt te S vs I i x) ∧ (∀ acc M', I xs.length acc M' → Q (.d (.list acc)) M')) X) :
    ZW K E (tLc (iList K ta) g tt te vs) S M Q X := fun n σ G H R Qv k kx =>
  h n σ G H R _ (fun v G1 H1 z M1 e1 R1 a1 ⟨xs, hz, hl, I, i0, is, id⟩ => by
    subst hz
    obtain ⟨p, ws, rfl, h1, h2⟩ := dp_lst a1
    refine ⟨p, rfl, ⟨ws, Evl.ex_l R1.ex h1⟩, fun D hD => lc_list (xs := ws) (LcI K n G1 S σ vs D I) (lc_start R1 hD i0) (fun i H' _ ⟨G', _, _, R', e', _⟩ => Evl.ex_l (e'.trans R'.ex) h1) (fun i x H' hx hi => ?_) (fun H' hi => lc_done R1 hi (fun acc M' q => id acc M' (by rw [← dpa_len h2]; exact q)) fun v G' H' z M' e' => k v G' H' z M' (e1.trans e'))⟩
    obtain ⟨d, hd, ax⟩ := dpa_at_v h2 hx
    have hi2 : i < xs.length := (List.getElem?_eq_some_iff.mp hd).1
    exact lc_turn (is i d hd) hi ax (Nat.lt_of_lt_of_le hi2 hl)) kx
theorem zw_lcR1 {vs : List Nat} (h : ZA K E tA S M (fun zs M1 => ∃ j : Int, zs = [.d (.int j)] ∧ 0 ≤ j ∧ j.toNat ≤ sizeLine ∧ ∃ I : Nat → List PyData → Ms → Prop, I 0 [] M1 ∧ (∀ i, i < j.toNat → LcTurn K E g tt te S vs I i (.int (0 + (i : Nat)))) ∧ (∀ acc M', I j.toNat acc M' → Q (.d (.list acc)) M')) X) :
    ZW K E (tLc (iRng1 tA) g tt te vs) S M Q X := fun n σ G H R Qv k kx =>
  h n σ G H R _ (fun us G1 H1 zs M1 e1 R1 a1 ⟨j, hz, l0, l1, I, i0, is, id⟩ => by
    subst hz
    obtain ⟨v, rfl, av⟩ := zall1 a1
    have ev := dp_int av
    subst ev
    have hs : (sizeLine : Nat) < 2 ^ 62 := by rw [sizeLine_eq]; decide
    exact ⟨j, rfl, by omega, by omega, fun D hD => lc_range (n := j.toNat) (LcI K n G1 S σ vs D I) (lc_start R1 hD i0) (fun i H' hx hi => lc_turn (is i hx) hi (Dz.int _) (Nat.lt_of_lt_of_le hx l1)) (fun H' hi => lc_done R1 hi id fun v G' H' z M' e' => k v G' H' z M' (e1.trans e'))⟩) kx
theorem zw_lcR2 {vs : List Nat} (h : ZA K E tA S M (fun zs M1 => ∃ a j : Int, zs = [.d (.int a), .d (.int j)] ∧ (-(2 ^ 62) ≤ a ∧ a < 2 ^ 62 ∧ -(2 ^ 62) ≤ j ∧ j < 2 ^ 62) ∧ (j - a).toNat ≤ sizeLine ∧ ∃ I : Nat → List PyData → Ms → Prop, I 0 [] M1 ∧ (∀ i, i < (j - a).toNat → LcTurn K E g tt te S vs I i (.int (a + (i : Nat)))) ∧ (∀ acc M', I (j - a).toNat acc M' → Q (.d (.list acc)) M')) X) :
    ZW K E (tLc (iRng2 tA) g tt te vs) S M Q X := fun n σ G H R Qv k kx =>
  h n σ G H R _ (fun us G1 H1 zs M1 e1 R1 a1 ⟨a, j, hz, l0, l1, I, i0, is, id⟩ => by
    subst hz
    obtain ⟨v, u, rfl, av, au⟩ := zall2 a1
    have ev := dp_int av
    have eu := dp_int au
    subst ev eu
    exact ⟨a, j, rfl, l0, fun D hD => lc_range (n := (j - a).toNat) (LcI K n G1 S σ vs D I) (lc_start R1 hD i0) (fun i H' hx hi => lc_turn (is i hx) hi (Dz.int _) (Nat.lt_of_lt_of_le hx l1)) (fun H' hi => lc_done R1 hi id fun v G' H' z M' e' => k v G' H' z M' (e1.trans e'))⟩) kx
theorem zt_yes {Q : Bool → Ms → Prop} (q : Q true M) : ZT K E tYes S M Q X := fun n σ G H R Qv k _ => k true G H M (Ex.refl G) R q
/-! ### objects of the program's own classes -/
theorem zw_fld {C : Addr} {f : Str} (cl : Cls K C) (na : NoAttr K C f) (h : ZW K E te S M (fun z M1 => ∃ p b fs y, z = .c p ∧ (p, b, CD.obj C fs) ∈ M1 ∧ fs.lookup f = some y ∧ Q y M1) X) : ZW K E (tFld K te f) S M Q X := fun n σ G H R Qv k kx =>
  h n σ G H R _ (fun v G1 H1 z M1 e1 R1 a1 ⟨p, b, fs, y, hz, hm, hl, q⟩ => by
    subst hz
    have ev : v = .ref p := a1
    subst ev
    obtain ⟨_, dx, fv, h1, h2, h3, h4⟩ := R1.ce p b _ hm
    obtain ⟨w, l1, l2⟩ := (lookup_paired h4 f).2 y hl
    exact ⟨p, C, dx, fv, w, rfl, h1, cl, na, l1, k w G1 H1 y M1 e1 R1 l2 q⟩) kx
def putZ (f : Str) (z : ZV) : List (Str × ZV) → List (Str × ZV)
  | [] => [(f, z)]
  | (g, y) :: r => if g = f then (g, z) :: r else (g, y) :: putZ f z r
theorem putF_paired {f : Str} {v : V} {z : ZV} (a : ZV.at K G v z) : ∀ {fv : List (Str × V)} {fs : List (Str × ZV)}, Paired (fun (a : Str × V) (b : Str × ZV) => a.1 = b.1 ∧ ZV.at K G a.2 b.2) fv fs → Paired (fun (a : Str × V) (b : Str × ZV) => a.1 = b.1 ∧ ZV.at K G a.2 b.2) (putF f v fv) (putZ f z fs)
  | [], [], .nil => .cons ⟨rfl, a⟩ .nil
  | (g, x) :: fv, (g2, y) :: fs, .cons q t => by
    obtain ⟨q1, q2⟩ := q
    dsimp only at q1 q2
    subst q1
    unfold putF putZ
    by_cases e : g = f
    · rw [if_pos e, if_pos e]; exact .cons ⟨rfl, a⟩ t
    · rw [if_neg e, if_neg e]; exact .cons ⟨rfl, q2⟩ (putF_paired a t)
theorem paired_len {α β : Type} {F : α → β → Prop} : ∀ {l : List α} {m : List β}, Paired F l m → l.length = m.length
  | _, _, .nil => rfl
  | _, _, .cons _ t => by simp [paired_len t]
theorem Rel.putObj {p C : Addr} {b : Bool} {fs : List (Str × ZV)} {f : Str} {v : V} {z : ZV} {dx : Addr} {fv : List (Str × V)} (R : Rel K n S M σ G H) (u : Upd1 p b (.obj C fs) (.obj C (putZ f z fs)) M M') (h1 : H p = some (.ins C dx fv)) (h2 : H dx = some (.own p)) (h3 : G dx = none) (h4 : Paired (fun (a : Str × V) (b : Str × ZV) => a.1 = b.1 ∧ ZV.at K G a.2 b.2) fv fs) (a : ZV.at K G v z) :
    Rel K n S M' σ G (upd H p (.ins C dx (putF f v fv))) := by
  refine R.put u (fun x q => by rw [h1] at q; cases q) ⟨dx, putF f v fv, upd_same, ?_, h3, putF_paired a h4⟩
  rw [upd_ne (fun e => by rw [e, h1] at h2; cases h2)]
  exact h2
theorem zs_fld {C : Addr} {f : Str} {to tv : TE} (cl : Cls K C) (na : NoAttr K C f) (h : ZW K E tv S M (fun y M1 => ZW K E to S M1 (fun z M2 => ∃ p b fs M3, z = .c p ∧ fs.length < 1000 ∧ Upd1 p b (.obj C fs) (.obj C (putZ f y fs)) M2 M3 ∧ P.nx S M3) P.ex) P.ex) : ZS K E (sFld K to tv f) S M P := fun n σ G H R D k =>
  h n σ G H R _ (fun v G1 H1 y M1 e1 R1 a1 h2 => h2 n σ G1 H1 R1 _ (fun w G2 H2 z M2 e2 R2 a2 ⟨p, b, fs, M3, hz, hl, hu, q⟩ => by
    subst hz
    have ev : w = .ref p := a2
    subst ev
    obtain ⟨_, dx, fv, h1, h3, h4, h5⟩ := R2.ce p b _ hu.mem
    exact ⟨p, C, dx, fv, rfl, h1, cl, na, by rw [paired_len h5]; exact hl, k.nx σ G2 _ S M3 (e1.trans e2) (R2.putObj hu h1 h3 h4 h5 (ZV.mono e2 a1)) q⟩) (XOk.mono k.xok e1)) k.xok
/-- o.f += an int -/
theorem zs_fldaug {C : Addr} {f : Str} {to tv : TE} (cl : Cls K C) (na : NoAttr K C f) (h : ZW K E to S M (fun z M1 => ∃ p a, z = .c p ∧ (∃ b0 fs0, (p, b0, CD.obj C fs0) ∈ M1 ∧ fs0.lookup f = some (.d (.int a))) ∧ ZW K E tv S M1 (fun y M2 => ∃ j b fs M3, y = .d (.int j) ∧ fs.length < 1000 ∧ Upd1 p b (.obj C fs) (.obj C (putZ f (.d (.int (a + j))) fs)) M2 M3 ∧ P.nx S M3) P.ex) P.ex) :
    ZS K E (sFldAug K to tv rAdd f) S M P := fun n σ G H R D k =>
  h n σ G H R _ (fun w G1 H1 z M1 e1 R1 a1 ⟨p, a, hz, ⟨b0, fs0, hm0, hl0⟩, h2⟩ => by
    subst hz
    have ev : w = .ref p := a1
    subst ev
    obtain ⟨_, dx, fv, h1, h3, h4, h5⟩ := R1.ce p b0 _ hm0
    obtain ⟨x, l1, l2⟩ := (lookup_paired h5 f).2 _ hl0
    refine ⟨p, C, dx, fv, x, rfl, h1, cl, na, l1, h2 n σ G1 H1 R1 _ (fun y G2 H2 zy M2 e2 R2 a2 ⟨j, b, fs, M3, hy, hl, hu, q⟩ => ?_) (XOk.mono k.xok e1)⟩
    subst hy
    obtain ⟨_, dx', fv', h1', h3', h4', h5'⟩ := R2.ce p b _ hu.mem
    exact ⟨a, j, dp_int l2, dp_int a2, dx', fv', h1', by rw [paired_len h5']; exact hl, k.nx σ G2 _ S M3 (e1.trans e2) (R2.putObj hu h1' h3' h4' h5' (v := .int (a + j)) (Dz.int _)) q⟩) k.xok
/-- C(..): a new own object -/
theorem zw_make {ar : Nat} {C : Addr} {R : List (Str × ZV) → List PyData → DOut → List (Str × ZV) → Prop} (h : ZA K (fun _ => e0) tA S M (fun zs M1 => ∃ ds o fs', AllD zs ds ∧ ds.length = ar ∧ R [] ds o fs' ∧ (∀ d, o = .ok d → d = .none ∧ ∀ p, Q (.c p) ((p, true, .obj C fs') :: M1)) ∧ (∀ x, o = .ex x → ∀ p, X x S ((p, true, .obj C fs') :: M1))) X) : ZW K (fun _ => e0) (tMake C (spO K C ar R) [] e0 tA) S M Q X := fun n σ G H Rl Qv k kx =>
  h n σ G H Rl _ (fun vs G1 H1 zs M1 e1 R1 a1 ⟨ds, o, fs', hd, hk, hR, q1, q2⟩ x dx hx hdx hne => by
    have R2 := R1.lay (p := dx) (o := .own x) hdx
    have hx2 : (upd H1 dx (.own x)) x = none := by rw [upd_ne (Ne.symm hne)]; exact hx
    have R3 := R2.lay (p := x) (o := .ins C dx []) hx2
    have gdx := ex_gnone R1.ex hdx
    have hown : (upd (upd H1 dx (.own x)) x (.ins C dx [])) dx = some (.own x) := by rw [upd_ne hne, upd_same]
    have hc : CD.at K G1 (upd (upd H1 dx (.own x)) x (.ins C dx [])) x (.obj C []) := ⟨dx, [], upd_same, hown, gdx, .nil⟩
    have R4 := R3.cell (R1.fresh hx) (R1.notin hx) (ex_gnone R1.ex hx) hc
    refine ⟨G1, x, [], vs, ds, o, fs', by rw [List.append_nil], hk, R4.ex, ex_gnone R1.ex hx, hc, zall_d (by rw [← hd]; exact a1), hR, fun d ho v G' H' e own hc' a => ?_, fun y ho cls dd G' H' e own hc' a => ?_⟩
    · obtain ⟨hd2, q⟩ := q1 d ho
      subst hd2
      exact ⟨dp_non a, k (.ref x) G' H' (.c x) _ (e1.trans e.g) (R4.call1 e .here own hc') rfl (q x)⟩
    · exact kx cls dd G' H' y S _ (e1.trans e.g) (R4.call1 e .here own hc') a (q2 y ho x)) kx
/-! ### texts with fields -/
def ZJ (K : Fg) (E : L2.St → XK) (ts : List TE) (acc : Str) (S : Zs) (M : Ms) (Q : Str → Ms → Prop) (X : XZ) : Prop := ∀ (n : Sn) (σ : L2.St) (G H : Hp), Rel K n S M σ G H → ∀ Qv : Str → Hp → Prop,
  (∀ o G' H' M', Ex G G' → Rel K n S M' σ G' H' → Q o M' → Qv o H') → XOk K (E σ) n σ G X → tJs ts acc σ H Qv
theorem zj_nil {acc : Str} {Q : Str → Ms → Prop} (q : Q acc M) : ZJ K E [] acc S M Q X := fun n σ G H R Qv k _ => k acc G H M (Ex.refl G) R q
theorem zj_cons {acc : Str} {ts : List TE} {Q : Str → Ms → Prop} (h : ZW K E te S M (fun z M1 => ∃ y, z = .d (.str y) ∧ (acc ++ y).length ≤ sizeLine ∧ ZJ K E ts (acc ++ y) S M1 Q X) X) : ZJ K E (te :: ts) acc S M Q X := fun n σ G H R Qv k kx =>
  h n σ G H R _ (fun v G1 H1 z M1 e1 R1 a1 ⟨y, hz, hl, q⟩ => by
    subst hz
    exact ⟨y, dp_str a1, hl, q n σ G1 H1 R1 Qv (fun o G2 H2 M2 e2 R2 q2 => k o G2 H2 M2 (e1.trans e2) R2 q2) (kx.mono e1)⟩) kx
theorem zw_js {ts : List TE} (h : ZJ K E ts Str.empty S M (fun o M1 => Q (.d (.str o)) M1) X) : ZW K E (fun σ H Q => tJs ts Str.empty σ H fun out H1 => Q (.str out) H1) S M Q X := fun n σ G H R Qv k kx =>
  h n σ G H R _ (fun o G1 H1 M1 e1 R1 q => k (.str o) G1 H1 (.d (.str o)) M1 e1 R1 (Dz.str _) q) kx
/-- a < b <= c -/
theorem zw_chain {r r' : R2} (h : ZW K E ta S M (fun x M1 => ZW K E tb S M1 (fun y M2 => ZO K r x y M2 (fun z M3 => ∃ b, z = .d (.bool b) ∧ (b = false → Q (.d (.bool false)) M3) ∧ (b = true → ZW K E tc S M3 (fun w M4 => ZO K r' y w M4 Q) X))) X) X) : ZW K E (tChain r r' ta tb tc) S M Q X := fun n σ G H R Qv k kx =>
  h n σ G H R _ (fun v G1 H1 x M1 e1 R1 a1 h1 => h1 n σ G1 H1 R1 _ (fun u G2 H2 y M2 e2 R2 a2 h2 => h2 n S σ G2 H2 R2 v u (ZV.mono e2 a1) a2 _ (fun w G3 H3 z M3 e3 R3 a3 ⟨b, hz, q⟩ => by
    subst hz
    refine ⟨b, dp_bl a3, ?_⟩
    cases b with
    | true =>
      show tc σ H3 _
      exact q.2 rfl n σ G3 H3 R3 _ (fun w' G4 H4 z4 M4 e4 R4 a4 h4 => h4 n S σ G4 H4 R4 u w' (ZV.mono (e3.trans e4) a2) a4 Qv fun w5 G5 H5 z5 M5 e5 R5 a5 q5 => k w5 G5 H5 z5 M5 ((((e1.trans e2).trans e3).trans e4).trans e5) R5 a5 q5) (kx.mono ((e1.trans e2).trans e3))
    | false =>
      show Qv (.bl false) H3
      exact k (.bl false) G3 H3 (.d (.bool false)) M3 ((e1.trans e2).trans e3) R3 (Dz.bl false) (q.1 rfl))) (kx.mono e1)) kx
end
end Z
namespace Z
open PySem PySem.Spec PyProof.Rows L2
open Evl (Ex)
section
variable {X : Cx} {j k : Nat} {x : Str} {sp : Sp} {E : XK} {e o : Expr} {es : List Expr} {t : TA} {ta : TE} {p pos apos : Pos}
/-- a def of the module: what it promises, at level k -/
def Cal (P : Program) (w : World) (K : Fg) (mg : Str → Option Value) (base : Heap) (k : Nat) (x : Str) (sp : Sp) : Prop :=
  ∃ f fd ps, FnOk P w K mg base (L2.CX P w) k f fd ps sp ∧ mg x = some (.ref f) ∧ PySem.W.keepIn K (.ref f) = true ∧ Binds K fd ps []
theorem pe_cl (c : Cal X.prog X.w X.K X.mg X.base k x sp) (hr : Room j X.A) (hk : k ≤ j) (hx : Passes (L2.CX X.prog X.w) X E) (ha : PA X (e :: es) t) (hg : Gl X x := by rfl) (hdb : (x == ("__debug__" : Str)) = false := by decide)
    (he : starEach (e :: es) X.env = (false, eval e X.env) :: starEach es X.env := by rfl) (hpl : (backTo pos (starEach es X.env)).any (·.1) = false := by rfl) : PE X (.Call (.Name x p) (e :: es) [] pos) (tCall sp [] E t) := by
  obtain ⟨f, fd, ps, F, hm, hkp, hb⟩ := c
  exact pe_call F (hr.mono hk) hg hm hkp hb .nil hx ha hdb he hpl
/-- a method of an own class -/
def Mtd (P : Program) (w : World) (K : Fg) (mg : Str → Option Value) (base : Heap) (k : Nat) (C : Addr) (m : Str) (sp : Sp) : Prop :=
  ∃ f fd ps, FnOk P w K mg base (L2.CX P w) k f fd ps sp ∧ Meth K C m f ∧ Binds K fd ps []
def Mkr (P : Program) (w : World) (K : Fg) (mg : Str → Option Value) (base : Heap) (k : Nat) (x : Str) (C : Addr) (sp : Sp) : Prop :=
  ∃ f fd ps, FnOk P w K mg base (L2.CX P w) k f fd ps sp ∧ Mk K C f ∧ mg x = some (.ref C) ∧ Binds K fd ps []
theorem pe_mkr {C : Addr} (c : Mkr X.prog X.w X.K X.mg X.base k x C sp) (hr : Room (j + 1) X.A) (hk : k ≤ j) (hx : Passes (L2.CX X.prog X.w) X E) (ha : PA X (e :: es) t) (hg : Gl X x := by rfl)
    (he : starEach (e :: es) X.env = (false, eval e X.env) :: starEach es X.env := by rfl) (hpl : (backTo pos (starEach es X.env)).any (·.1) = false := by rfl) (hdb : (x == ("__debug__" : Str)) = false := by decide) : PE X (.Call (.Name x p) (e :: es) [] pos) (tMake C sp [] E t) := by
  obtain ⟨f, fd, ps, F, M, hm, hb⟩ := c
  exact pe_make M F (hr.mono (by omega)) hg hm hb .nil hx ha hdb he hpl
end
/-! ### an operator on several kinds -/
section
variable {K : Fg} {r r' : R2} {x y : ZV} {M : Ms} {Q : QZ}
theorem zo_l (h : ZO K r x y M Q) : ZO K (fun x y H Q => r x y H Q ∨ r' x y H Q) x y M Q := fun n S σ G H R v u a b Qv k => .inl (h n S σ G H R v u a b Qv k)
theorem zo_r (h : ZO K r' x y M Q) : ZO K (fun x y H Q => r x y H Q ∨ r' x y H Q) x y M Q := fun n S σ G H R v u a b Qv k => .inr (h n S σ G H R v u a b Qv k)
end
abbrev rAddA (K : Fg) : R2 := fun x y H Q => rI0 (fun i j => .int (i + j)) x y H Q ∨ (rAddS1 x y H Q ∨ (rCatA K x y H Q ∨ rCat x y H Q))
theorem op_addA {X : Cx} : OpR X (binaryOp .Add) (rAddA X.K) := op_add.or (op_add_str.or (op_catA.or op_cat))
section
variable {K : Fg} {M : Ms} {Q : QZ}
theorem za_i {i j : Int} (q : Q (.d (.int (i + j))) M) : ZO K (rAddA K) (.d (.int i)) (.d (.int j)) M Q := zo_l (zo_add q)
theorem za_t {xs ys : List PyData} (hl : xs.length + ys.length ≤ sizeLine) (q : Q (.d (.tuple (xs ++ ys))) M) : ZO K (rAddA K) (.d (.tuple xs)) (.d (.tuple ys)) M Q := zo_r (zo_r (zo_l (zo_catT hl q)))
end
section
variable {K : Fg} {M : Ms} {Q : QZ}
theorem zo_fdivW {i j : Int} (hc : CDivW i j) (q : Q (.d (.int (i / j))) M) : ZO K (rI CDivW fun i j => .int (i / j)) (.d (.int i)) (.d (.int j)) M Q := zo_I (gd := fun i j => .int (i / j)) (fun _ => .int _) hc q
end
/-! ### built-in names as values -/
theorem bt_tuple : bootBuiltins "tuple" = some (.type "tuple") := by decide +kernel
theorem bt_list : bootBuiltins "list" = some (.type "list") := by decide +kernel
theorem bt_str : bootBuiltins "str" = some (.type "str") := by decide +kernel
theorem bt_int : bootBuiltins "int" = some (.type "int") := by decide +kernel
theorem bt_bool : bootBuiltins "bool" = some (.type "bool") := by decide +kernel
theorem bb_len : bootBuiltins "len" = some (.builtin "len") := by decide +kernel
theorem bb_isinstance : bootBuiltins "isinstance" = some (.builtin "isinstance") := by decide +kernel
theorem bb_min : bootBuiltins "min" = some (.builtin "min") := by decide +kernel
theorem bb_all : bootBuiltins "all" = some (.builtin "all") := by decide +kernel
theorem bb_sum : bootBuiltins "sum" = some (.builtin "sum") := by decide +kernel
end Z
namespace Z
open PySem PySem.Spec PyProof.Rows L2
open Evl (Ex)
section
variable {K : Fg} {E : L2.St → XK} {S : Zs} {M : Ms}
theorem zs_raiseO {C : Addr} {P : ZP} (h : P.ex ⟨C, []⟩ S M) : ZS K E (fun _ σ H => E σ (.ref C) none H) S M P := fun n σ G H R D k => k.ex (.ref C) none σ G H ⟨C, []⟩ S M (Ex.refl G) R ⟨rfl, rfl⟩ h
end
section
variable {K : Fg} {E : L2.St → XK} {e0 : XK} {te ta : TE} {tA : TA} {S : Zs} {M : Ms} {Q : QZ} {X : XZ}
/-- f(o, ..), f a def whose first argument is an own object of the class C -/
theorem zw_callO {ar : Nat} {C : Addr} {R : List (Str × ZV) → List PyData → DOut → List (Str × ZV) → Prop} (h : ZA K (fun _ => e0) tA S M (fun zs M1 => ∃ p b fs zs' ds o fs' M2, zs = .c p :: zs' ∧ AllD zs' ds ∧ ds.length = ar ∧ R fs ds o fs' ∧ Upd1 p b (.obj C fs) (.obj C fs') M1 M2 ∧ (∀ d, o = .ok d → Q (.d d) M2) ∧ (∀ x, o = .ex x → X x S M2)) X) :
    ZW K (fun _ => e0) (tCall (spO K C ar R) [] e0 tA) S M Q X := fun n σ G H Rl Qv k kx =>
  h n σ G H Rl _ (fun vs G1 H1 zs M1 e1 R1 a1 ⟨p, b, fs, zs', ds, o, fs', M2, hz, hd, hk, hR, hu, q1, q2⟩ => by
    subst hz
    cases a1 with
    | cons a1 a2 =>
      have ev := a1
      obtain ⟨hp, hc⟩ := R1.ce p b _ hu.mem
      subst ev
      exact ⟨G1, p, fs, _, ds, o, fs', by rw [List.append_nil], hk, R1.ex, hp, hc, zall_d (by rw [← hd]; exact a2), hR, fun d ho v G' H' e own hc' a => k v G' H' (.d d) M2 (e1.trans e.g) (R1.call1 e hu own hc') a (q1 d ho), fun x ho cls dd G' H' e own hc' a => kx cls dd G' H' x S M2 (e1.trans e.g) (R1.call1 e hu own hc') a (q2 x ho)⟩) kx
theorem flat_strs (al : List Str) : ((al.map PyData.str).map vOf).all flatV = true ∧ (al.map PyData.str).all flatD = true := by
  constructor <;> (induction al with
  | nil => rfl
  | cons a l ih => simpa [vOf, flatV, flatD] using ih)
theorem inV_strs (w : Str) (al : List Str) : inV (vOf (.str w)) ((al.map PyData.str).map vOf) = decide (w ∈ al) := by
  induction al with
  | nil => rfl
  | cons a l ih =>
    have e : inV (vOf (.str w)) (((a :: l).map PyData.str).map vOf) = (eqV (.str a) (.str w) || inV (vOf (.str w)) ((l.map PyData.str).map vOf)) := rfl
    rw [e, ih]
    have e2 : eqV (.str a) (.str w) = decide (w = a) := by
      show (a == w) = decide (w = a)
      by_cases h : w = a
      · subst h; simp
      · simp [h, Ne.symm h]
    rw [e2]
    simp
theorem zo_inTS {M : Ms} {Q : QZ} {neg : Bool} {w : Str} {al : List Str} (q : Q (.d (.bool (if neg then !decide (w ∈ al) else decide (w ∈ al)))) M) : ZO K (rIn K neg) (.d (.str w)) (.d (.tuple (al.map .str))) M Q :=
  zo_inT ⟨rfl, rfl⟩ (flat_strs al) (by rw [inV_strs]; exact q)
theorem zo_inLS {M : Ms} {Q : QZ} {neg : Bool} {w : Str} {al : List Str} (q : Q (.d (.bool (if neg then !decide (w ∈ al) else decide (w ∈ al)))) M) : ZO K (rIn K neg) (.d (.str w)) (.d (.list (al.map .str))) M Q :=
  zo_inL ⟨rfl, rfl⟩ (flat_strs al) (by rw [inV_strs]; exact q)
abbrev rEqA (K : Fg) : R2 := fun x y H Q => rEq x y H Q ∨ rEqD K x y H Q
abbrev rNeA (K : Fg) : R2 := fun x y H Q => rNe x y H Q ∨ rNeD K x y H Q
theorem op_eqA {X : Cx} (hu : X.A.units + 64 < cLine) : OpR X (compareOp .Eq) (rEqA X.K) := op_eq.or (op_eqD hu)
theorem op_neA {X : Cx} (hu : X.A.units + 64 < cLine) : OpR X (compareOp .NotEq) (rNeA X.K) := op_ne.or (op_neD hu)
theorem zo_eqV {M : Ms} {Q : QZ} {x y : PyData} (hx : flatD x = true) (hy : flatD y = true) (hs : scal (vOf x) (vOf y) = true) {c : Bool} (hc : c = decide (vOf x = vOf y)) (q : Q (.d (.bool c)) M) : ZO K rEq (.d x) (.d y) M Q :=
  zo_val (z := .d (.bool c)) (fun G H v u e a b => by
    have ev := dp_flat a hx
    have eu := dp_flat b hy
    subst ev eu
    exact ⟨_, .bl _, fun Qv h => ⟨hs, by rw [← hc]; exact h⟩⟩) q
theorem zo_neV {M : Ms} {Q : QZ} {x y : PyData} (hx : flatD x = true) (hy : flatD y = true) (hs : scal (vOf x) (vOf y) = true) {c : Bool} (hc : c = !decide (vOf x = vOf y)) (q : Q (.d (.bool c)) M) : ZO K rNe (.d x) (.d y) M Q :=
  zo_val (z := .d (.bool c)) (fun G H v u e a b => by
    have ev := dp_flat a hx
    have eu := dp_flat b hy
    subst ev eu
    exact ⟨_, .bl _, fun Qv h => ⟨hs, by rw [← hc]; exact h⟩⟩) q
theorem vint_eq (a b : Int) : decide (a = b) = decide (vOf (.int a) = vOf (.int b)) := by
  simp [vOf]
theorem vstr_eq (a b : Str) : decide (a = b) = decide (vOf (.str a) = vOf (.str b)) := by
  simp [vOf]
theorem zo_eqI {M : Ms} {Q : QZ} {a b : Int} (q : Q (.d (.bool (decide (a = b)))) M) : ZO K (rEqA K) (.d (.int a)) (.d (.int b)) M Q := zo_l (zo_eqV rfl rfl rfl (vint_eq a b) q)
theorem zo_eqS {M : Ms} {Q : QZ} {a b : Str} (q : Q (.d (.bool (decide (a = b)))) M) : ZO K (rEqA K) (.d (.str a)) (.d (.str b)) M Q := zo_l (zo_eqV rfl rfl rfl (vstr_eq a b) q)
theorem zo_neI {M : Ms} {Q : QZ} {a b : Int} (q : Q (.d (.bool (!decide (a = b)))) M) : ZO K (rNeA K) (.d (.int a)) (.d (.int b)) M Q := zo_l (zo_neV rfl rfl rfl (by rw [vint_eq]) q)
theorem zo_neS {M : Ms} {Q : QZ} {a b : Str} (q : Q (.d (.bool (!decide (a = b)))) M) : ZO K (rNeA K) (.d (.str a)) (.d (.str b)) M Q := zo_l (zo_neV rfl rfl rfl (by rw [vstr_eq]) q)
theorem zo_eqDD {M : Ms} {Q : QZ} {x y : PyData} (hx : SeqAt.shaped x = true) (hy : SeqAt.shaped y = true) (q : Q (.d (.bool (PyData.eqv x y))) M) : ZO K (rEqA K) (.d x) (.d y) M Q := zo_r (zo_eq hx hy q)
theorem zo_neDD {M : Ms} {Q : QZ} {x y : PyData} (hx : SeqAt.shaped x = true) (hy : SeqAt.shaped y = true) (q : Q (.d (.bool (!PyData.eqv x y))) M) : ZO K (rNeA K) (.d x) (.d y) M Q := zo_r (zo_ne hx hy q)
/-- a constant of the module: data that the classes' part holds -/
theorem zw_con {v : V} {d : PyData} (hd : ∀ G, Dz K G v d) (q : Q (.d d) M) : ZW K E (tC v) S M Q X := fun n σ G H R Qv k kx => k v G H (.d d) M (Ex.refl G) R (hd G) q
theorem zw_make0 {ar : Nat} {C : Addr} {R : List (Str × ZV) → List PyData → DOut → List (Str × ZV) → Prop} (h : ZA K E tA S M (fun zs M1 => ∃ ds fs', AllD zs ds ∧ ds.length = ar ∧ R [] ds (.ok .none) fs' ∧ ∀ p, Q (.c p) ((p, true, .obj C fs') :: M1)) X) : ZW K E (tMake C (spO K C ar R) [] E0 tA) S M Q X := fun n σ G H Rl Qv k kx =>
  h n σ G H Rl _ (fun vs G1 H1 zs M1 e1 R1 a1 ⟨ds, fs', hd, hk, hR, q1⟩ x dx hx hdx hne => by
    have R2 := R1.lay (p := dx) (o := .own x) hdx
    have hx2 : (upd H1 dx (.own x)) x = none := by rw [upd_ne (Ne.symm hne)]; exact hx
    have R3 := R2.lay (p := x) (o := .ins C dx []) hx2
    have gdx := ex_gnone R1.ex hdx
    have hown : (upd (upd H1 dx (.own x)) x (.ins C dx [])) dx = some (.own x) := by rw [upd_ne hne, upd_same]
    have hc : CD.at K G1 (upd (upd H1 dx (.own x)) x (.ins C dx [])) x (.obj C []) := ⟨dx, [], upd_same, hown, gdx, .nil⟩
    have R4 := R3.cell (R1.fresh hx) (R1.notin hx) (ex_gnone R1.ex hx) hc
    refine ⟨G1, x, [], vs, ds, .ok .none, fs', by rw [List.append_nil], hk, R4.ex, ex_gnone R1.ex hx, hc, zall_d (by rw [← hd]; exact a1), hR, fun d ho v G' H' e own hc' a => ?_, fun y ho => nomatch ho⟩
    have ho := DOut.ok.inj ho
    subst ho
    exact ⟨dp_non a, k (.ref x) G' H' (.c x) _ (e1.trans e.g) (R4.call1 e .here own hc') rfl (q1 x)⟩) kx
theorem zw_methO0 {ar : Nat} {C : Addr} {m : Str} {R : List (Str × ZV) → List PyData → DOut → List (Str × ZV) → Prop} (h : ZW K E te S M (fun z M0 => ∃ p, z = .c p ∧ (∃ b fs0, (p, b, CD.obj C fs0) ∈ M0 ∧ fs0.lookup m = none) ∧ ZA K E tA S M0 (fun zs M1 => ∃ b fs ds d fs' M2, AllD zs ds ∧ ds.length = ar ∧ R fs ds (.ok d) fs' ∧ Upd1 p b (.obj C fs) (.obj C fs') M1 M2 ∧ Q (.d d) M2) X) X) :
    ZW K E (tMeth C m (spO K C ar R) [] E0 te tA) S M Q X := fun n σ G H Rl Qv k kx =>
  h n σ G H Rl _ (fun v G0 H0 z M0 e0' R0 a0 ⟨p, hz, ⟨b0, fs0, hm0, hl0⟩, h2⟩ => by
    subst hz
    have ev : v = .ref p := a0
    subst ev
    obtain ⟨_, dx, fv, h3, h4, h5, h6⟩ := R0.ce p b0 _ hm0
    refine ⟨p, dx, fv, rfl, h3, (lookup_paired h6 m).1 hl0, h2 n σ G0 H0 R0 _ (fun vs G1 H1 zs M1 e1 R1 a1 ⟨b, fs, ds, d, fs', M2, hd, hk, hR, hu, q1⟩ => ?_) (kx.mono e0')⟩
    obtain ⟨hp, hc⟩ := R1.ce p b _ hu.mem
    refine ⟨G1, p, fs, _, ds, .ok d, fs', by rw [List.append_nil], hk, R1.ex, hp, hc, zall_d (by rw [← hd]; exact a1), hR, fun d' ho v G' H' e own hc' a => ?_, fun x ho => nomatch ho⟩
    have ho := DOut.ok.inj ho
    subst ho
    exact k v G' H' (.d d) M2 ((e0'.trans e1).trans e.g) (R1.call1 e hu own hc') a q1) kx
theorem zw_callO0 {ar : Nat} {C : Addr} {R : List (Str × ZV) → List PyData → DOut → List (Str × ZV) → Prop} (h : ZA K E tA S M (fun zs M1 => ∃ p b fs zs' ds d fs' M2, zs = .c p :: zs' ∧ AllD zs' ds ∧ ds.length = ar ∧ R fs ds (.ok d) fs' ∧ Upd1 p b (.obj C fs) (.obj C fs') M1 M2 ∧ Q (.d d) M2) X) :
    ZW K E (tCall (spO K C ar R) [] E0 tA) S M Q X := fun n σ G H Rl Qv k kx =>
  h n σ G H Rl _ (fun vs G1 H1 zs M1 e1 R1 a1 ⟨p, b, fs, zs', ds, d, fs', M2, hz, hd, hk, hR, hu, q1⟩ => by
    subst hz
    cases a1 with
    | cons a1 a2 =>
      have ev := a1
      obtain ⟨hp, hc⟩ := R1.ce p b _ hu.mem
      subst ev
      refine ⟨G1, p, fs, _, ds, .ok d, fs', by rw [List.append_nil], hk, R1.ex, hp, hc, zall_d (by rw [← hd]; exact a2), hR, fun d' ho v G' H' e own hc' a => ?_, fun x ho => nomatch ho⟩
      have ho := DOut.ok.inj ho
      subst ho
      exact k v G' H' (.d d) M2 (e1.trans e.g) (R1.call1 e hu own hc') a q1) kx
theorem vbl_eq (a b : Bool) : (a == b) = decide (vOf (.bool a) = vOf (.bool b)) := by
  cases a <;> cases b <;> rfl
theorem zo_eqB {M : Ms} {Q : QZ} {a b : Bool} (q : Q (.d (.bool (a == b))) M) : ZO K (rEqA K) (.d (.bool a)) (.d (.bool b)) M Q := zo_l (zo_eqV rfl rfl rfl (vbl_eq a b) q)
theorem zo_neB {M : Ms} {Q : QZ} {a b : Bool} (q : Q (.d (.bool (!(a == b)))) M) : ZO K (rNeA K) (.d (.bool a)) (.d (.bool b)) M Q := zo_l (zo_neV rfl rfl rfl (by rw [vbl_eq]) q)
def dNone : PyData → Bool
  | .none => true
  | _ => false
theorem dp_isN {G : Hp} {v : V} {x : PyData} (h : Dz K G v x) : decide (v = V.non) = dNone x := by
  cases h <;> simp [dNone]
theorem zo_isN {M : Ms} {Q : QZ} {x : PyData} (q : Q (.d (.bool (dNone x))) M) : ZO K (fun x y H Q => y = V.non ∧ Q (.bl (decide (x = V.non))) H) (.d x) (.d .none) M Q := fun n S σ G H R v u a b Qv k =>
  ⟨dp_non b, by rw [dp_isN a]; exact k (.bl (dNone x)) G H (.d (.bool (dNone x))) M (Ex.refl G) R (Dz.bl _) q⟩
theorem zo_notN {M : Ms} {Q : QZ} {x : PyData} (q : Q (.d (.bool (!dNone x))) M) : ZO K (fun x y H Q => y = V.non ∧ Q (.bl (!decide (x = V.non))) H) (.d x) (.d .none) M Q := fun n S σ G H R v u a b Qv k =>
  ⟨dp_non b, by rw [dp_isN a]; exact k (.bl (!dNone x)) G H (.d (.bool (!dNone x))) M (Ex.refl G) R (Dz.bl _) q⟩
theorem zs_par3 {i j l : Nat} {P : ZP} (h : ZA K E tA S M (fun zs M1 => ∃ z w y, zs = [z, w, y] ∧ P.nx (((S.set i (some z)).set j (some w)).set l (some y)) M1) P.ex) : ZS K E (tPar3 i j l tA) S M P := fun n σ G H R D k =>
  h n σ G H R _ (fun vs G1 H1 zs M1 e1 R1 a1 ⟨z, w, y, hz, q⟩ => by
    subst hz
    cases a1 with
    | cons a b => cases b with | cons b c => cases c with | cons c d => cases d; exact ⟨_, _, _, rfl, k.nx _ G1 H1 _ M1 e1 (((R1.set a).set b).set c) q⟩) k.xok
theorem zc_min2 {M : Ms} {Q : QZ} {i j : Int} (q : Q (.d (.int (if j < i then j else i))) M) : ZC K (fun xs H Q => ∃ i j, xs = [.int i, .int j] ∧ Q (.int (if j < i then j else i)) H) [.d (.int i), .d (.int j)] M Q :=
  zc_val (z := .d (.int (if j < i then j else i))) (fun G H vs e a => by
    obtain ⟨v, u, rfl, av, au⟩ := zall2 a
    exact ⟨.int _, Dz.int _, fun Qv hq => ⟨i, j, by rw [dp_int av, dp_int au], hq⟩⟩) q
theorem zc_max2 {M : Ms} {Q : QZ} {i j : Int} (q : Q (.d (.int (if j > i then j else i))) M) : ZC K (fun xs H Q => ∃ i j, xs = [.int i, .int j] ∧ Q (.int (if j > i then j else i)) H) [.d (.int i), .d (.int j)] M Q :=
  zc_val (z := .d (.int (if j > i then j else i))) (fun G H vs e a => by
    obtain ⟨v, u, rfl, av, au⟩ := zall2 a
    exact ⟨.int _, Dz.int _, fun Qv hq => ⟨i, j, by rw [dp_int av, dp_int au], hq⟩⟩) q
/-- a statement's own end, ahead of what follows -/
theorem zs_nx {t : TS} {P : ZP} {N : Zs → Ms → Prop} (h : ZS K E t S M { P with nx := N }) (hi : ∀ S' M', N S' M' → P.nx S' M') : ZS K E t S M P := fun n σ G H R D k =>
  h n σ G H R D ⟨fun σ' G' H' S' M' e R' q => k.nx σ' G' H' S' M' e R' (hi S' M' q), k.rt, k.bk, k.ct, k.ex⟩
end
end Z
/-! raise C(e), C an own exception class over ValueError whose __init__ says super().__init__(f'text{f}') and self.f = f -/
namespace PySem
end PySem
namespace L2
open PySem PySem.Spec PyProof.Rows
def FldV (v : V) : Prop := v = .non ∨ ∃ i : Int, v = .int i ∧ i.natAbs.log2 < 1920
/-- C(e): the error's own dict d, new, holds the field -/
def tMkS (C : Addr) (f : Str) (ta : TA) : L2.St → Hp → XK → Prop := fun σ H Q => ta σ H fun vs H1 => ∃ v, vs = [v] ∧ FldV v ∧ ∀ d, H1 d = none → Q (.ref C) (some d) (upd H1 d (.xd [(f, v)]))
end L2
/-! in an except suite: isinstance(e, C) and e.f, whatever e's dict -/
namespace Z
open PySem PySem.Spec PyProof.Rows L2
open Evl (Ex)
def rIsX (K : Fg) (cls : Value) (a : Addr) (d : Option Addr) : List V → Hp → VK → Prop := fun xs H Q => ∃ (c : V) (cv : Value) (b : Bool) (D : Addr), xs = [.ref a, c] ∧ cls = .ref D ∧ ExcC K D ∧ (∀ dd, d = some dd → ∃ fs, H dd = some (.xd fs)) ∧ (∀ u, RelV c u → u = cv) ∧ PySem.W.kitOne K (.ref D) cv = some b ∧ Q (.bl b) H
section
variable {K : Fg} {E : L2.St → XK} {te ta : TE} {S : Zs} {M : Ms} {Q : QZ} {X : XZ}
theorem zw_isX {a : Addr} {cls : Value} {d : Option Addr} {C : Addr} {tcl : TE} (hcl : tcl = tC (.ref C)) (h : ZW K E te S M (fun z M1 => ∃ x b, z = .e a cls d x ∧ ExcC K x.cls ∧ PySem.W.kitOne K (.ref x.cls) (.ref C) = some b ∧ Q (.d (.bool b)) M1) X) :
    ZW K E (tCB (rIsX K cls a d) (tCons te (tCons tcl tNil))) S M Q X := fun n σ G H R Qv k kx =>
  h n σ G H R _ (fun v G1 H1 z M1 e1 R1 a1 ⟨x, b, hz, hE, hb, q⟩ => by
    subst hz hcl
    obtain ⟨rfl, hc, hx⟩ := a1
    refine ⟨.ref C, .ref C, b, x.cls, rfl, hc, hE, fun dd hd => ?_, fun u r => r, hb, k _ G1 H1 (.d (.bool b)) M1 e1 R1 (Dz.bl b) q⟩
    subst hd
    split at hx
    · cases hx
    · obtain ⟨dd', fv, h1, h2, _⟩ := hx
      cases h1
      exact ⟨fv, R1.ex _ _ h2⟩) kx
def FldD (x : PyData) : Prop := x = .none ∨ ∃ i : Int, x = .int i ∧ i.natAbs.log2 < 1920
theorem zs_raiseS {C : Addr} {f : Str} {tA : TA} {P : ZP} (h : ZA K E tA S M (fun zs M1 => ∃ x, zs = [.d x] ∧ FldD x ∧ P.ex ⟨C, [(f, x)]⟩ S M1) P.ex) : ZS K E (fun _ σ H => tMkS C f tA σ H fun cls d H' => E σ cls d H') S M P := fun n σ G H R D k =>
  h n σ G H R _ (fun vs G1 H1 zs M1 e1 R1 a1 ⟨x, hz, hx, q⟩ => by
    subst hz
    obtain ⟨v, rfl, av⟩ := zall1 a1
    have av' : Dz K G1 v x := av
    refine ⟨v, rfl, ?_, fun d hd => ?_⟩
    · rcases hx with rfl | ⟨i, rfl, hi⟩
      · cases av'
        exact .inl rfl
      · exact .inr ⟨i, dp_int av', hi⟩
    · have g := ex_gnone R1.ex hd
      refine k.ex (.ref C) (some d) σ _ _ ⟨C, [(f, x)]⟩ S M1 (e1.trans (Ex.new g)) (R1.new hd (fun _ z => nomatch z)) ⟨rfl, d, [(f, v)], rfl, upd_same, .cons ⟨rfl, dp_mono (Ex.new g) av'⟩ .nil⟩ q) k.xok
end
end Z
/-! a def that hands back a new own object; an object of a class without __init__; one of several readings; //, gcd, abs of great numbers; x is True -/
namespace Z
open PySem PySem.Spec PyProof.Rows L2
open Evl (Ex)
/-! ### one of several readings of an expression -/
section
variable {K : Fg} {E : L2.St → XK} {e0 : XK} {te ta tb : TE} {tA : TA} {t : TS} {S : Zs} {M : Ms} {P : ZP} {Q : QZ} {X : XZ} {n : Sn} {σ : L2.St} {G G' H H' : Hp}
/-! ### a def over data that hands back a new own object -/
def spB (K : Fg) (k : Nat) (R : List PyData → Addr → List (Str × ZV) → Prop) : Sp := fun vs H Q E => ∃ (G : Hp) (ds : List PyData) (C : Addr) (fs : List (Str × ZV)), Ex G H ∧ ds.length = k ∧ DzAll K G vs ds ∧ R ds C fs ∧
  ∀ p G' H', Ext [] G H G' H' → H p = none → G' p = none → CD.at K G' H' p (.obj C fs) → Q (.ref p) H'
theorem zw_callB0 {ar : Nat} {R : List PyData → Addr → List (Str × ZV) → Prop} (h : ZA K E tA S M (fun zs M1 => ∃ ds C fs, AllD zs ds ∧ ds.length = ar ∧ R ds C fs ∧ ∀ p, Q (.c p) ((p, true, .obj C fs) :: M1)) X) : ZW K E (tCall (spB K ar R) [] E0 tA) S M Q X := fun n σ G H Rl Qv k kx =>
  h n σ G H Rl _ (fun vs G1 H1 zs M1 e1 R1 a1 ⟨ds, C, fs, hd, hk, hR, q⟩ => by
    refine ⟨G1, ds, C, fs, R1.ex, hk, ?_, hR, fun p G' H' e hp hg hc => ?_⟩
    · rw [List.append_nil]
      exact zall_d (by rw [← hd]; exact a1)
    · exact k (.ref p) G' H' (.c p) _ (e1.trans e.g) ((R1.call e).cell (R1.fresh hp) (R1.notin hp) hg hc) rfl (q p)) kx
/-! ### C(), C a class without __init__ -/
def tMakeE (C : Addr) : TE := fun _ H Q => ∀ x dx, H x = none → H dx = none → dx ≠ x → Q (.ref x) (upd (upd H dx (.own x)) x (.ins C dx []))
theorem zw_makeE {C : Addr} (q : ∀ p, Q (.c p) ((p, true, .obj C []) :: M)) : ZW K E (tMakeE C) S M Q X := fun n σ G H Rl Qv k kx x dx hx hdx hne => by
  have R2 := Rl.lay (p := dx) (o := .own x) hdx
  have hx2 : (upd H dx (.own x)) x = none := by rw [upd_ne (Ne.symm hne)]; exact hx
  have R3 := R2.lay (p := x) (o := .ins C dx []) hx2
  have hown : (upd (upd H dx (.own x)) x (.ins C dx [])) dx = some (.own x) := by rw [upd_ne hne, upd_same]
  have hc : CD.at K G (upd (upd H dx (.own x)) x (.ins C dx [])) x (.obj C []) := ⟨dx, [], upd_same, hown, ex_gnone Rl.ex hdx, .nil⟩
  exact k (.ref x) G _ (.c x) _ (Ex.refl G) (R3.cell (Rl.fresh hx) (Rl.notin hx) (ex_gnone Rl.ex hx) hc) rfl (q x)
end
section
variable {K : Fg} {M : Ms} {Q : QZ}
abbrev rAbs : List V → Hp → VK → Prop := fun xs H Q => ∃ i, xs = [.int i] ∧ Q (.int (if i < 0 then -i else i)) H
theorem zc_abs {i : Int} (q : Q (.d (.int (if i < 0 then -i else i))) M) : ZC K rAbs [.d (.int i)] M Q := zc_val (z := .d (.int (if i < 0 then -i else i))) (fun G H vs e a => by
  obtain ⟨v, rfl, av⟩ := zall1 a
  exact ⟨_, Dz.int _, fun Qv hq => ⟨i, by rw [dp_int av], hq⟩⟩) q
theorem zc_gcd {i j : Int} (q : Q (.d (.int ((Nat.gcd i.natAbs j.natAbs : Nat) : Int))) M) : ZC K rGcd [.d (.int i), .d (.int j)] M Q := zc_val (z := .d (.int ((Nat.gcd i.natAbs j.natAbs : Nat) : Int))) (fun G H vs e a => by
  obtain ⟨v, u, rfl, av, au⟩ := zall2 a
  exact ⟨_, Dz.int _, fun Qv hq => ⟨i, j, by rw [dp_int av, dp_int au], hq⟩⟩) q
abbrev rIsB : R2 := fun x y H Q => ∃ a b, x = .bl a ∧ y = .bl b ∧ Q (.bl (decide (a = b))) H
abbrev rIsntB : R2 := fun x y H Q => ∃ a b, x = .bl a ∧ y = .bl b ∧ Q (.bl (!decide (a = b))) H
theorem zo_isB {a b : Bool} (q : Q (.d (.bool (decide (a = b)))) M) : ZO K rIsB (.d (.bool a)) (.d (.bool b)) M Q :=
  zo_val (z := .d (.bool (decide (a = b)))) (fun G H v u e x y => ⟨_, .bl _, fun Qv h => ⟨a, b, dp_bl x, dp_bl y, h⟩⟩) q
theorem zo_isntB {a b : Bool} (q : Q (.d (.bool (!decide (a = b)))) M) : ZO K rIsntB (.d (.bool a)) (.d (.bool b)) M Q :=
  zo_val (z := .d (.bool (!decide (a = b)))) (fun G H v u e x y => ⟨_, .bl _, fun Qv h => ⟨a, b, dp_bl x, dp_bl y, h⟩⟩) q
end
end Z
/-! [e for x in range(a, b) for y in range(c, d)] -/
namespace Z
open PySem PySem.Spec PyProof.Rows L2
open Evl (Ex)
theorem par_go {F : ZV → ZV → Prop} {z w : ZV} (h : F z w) : ∃ a b, [z, w] = [a, b] ∧ F a b := ⟨z, w, rfl, h⟩
theorem par_go3 {F : ZV → ZV → ZV → Prop} {z w y : ZV} (h : F z w y) : ∃ a b c, [z, w, y] = [a, b, c] ∧ F a b c := ⟨z, w, y, rfl, h⟩
end Z
/-! for i, x in enumerate(t), t a tuple: the turn of an iterator that hands out pairs (PySem.WalksT) as a turn of HandS; enumerate's one-argument call over whatever begins an iterator -/
namespace Z
open PySem PySem.Spec PyProof.Rows L2
open Evl (Ex)
/-- a: the tuple; each turn a new pair -/
def ItN (K : Fg) (a : Addr) : It where
  go i H := ∃ xs x, SqT K H a xs ∧ xs[i]? = some x
  yld i H v H' := ∃ T x, (H T = none ∧ v = .ref T ∧ H' = upd H T (.tup [.int (i : Nat), x])) ∧ ∀ xs, SqT K H a xs → xs[i]? = some x
  stop i H := ∃ xs, SqT K H a xs ∧ xs.length = i
/-- enumerate(t) as what a loop walks -/
def iEnumT (K : Fg) (ta : TA) : TI := fun σ H R => ta σ H fun vs H1 => ∃ a, vs = [.ref a] ∧ (∃ xs, SqT K H1 a xs) ∧ R (ItN K a) H1
section
variable {K : Fg} {E : L2.St → XK} {tA : TA} {g : TG} {t : TS} {S : Zs} {M : Ms} {P : ZP}
theorem zs_forN (h : ZA K E tA S M (fun zs M1 => ∃ xs, zs = [.d (.tuple xs)] ∧ ∃ I : Nat → Zs → Ms → Prop, I 0 S M1 ∧
      (∀ i x S' M', xs[i]? = some x → I i S' M' → ∃ is S2, ZG K g (.d (.tuple [.int (i : Nat), x])) S' is S2 ∧ ZS K E t S2 M' (LoopP P (I (i + 1)))) ∧ (∀ S' M', I xs.length S' M' → P.nx S' M')) P.ex) : ZS K E (tFor (iEnumT K tA) g t) S M P := by
  intro n σ G H R D k
  refine h n σ G H R _ (fun vs G1 H1 zs M1 e1 R1 a1 ⟨xs, hz, I, i0, is, id⟩ => ?_) k.xok
  subst hz
  obtain ⟨v, rfl, av⟩ := zall1 a1
  obtain ⟨p, ws, rfl, h1, h2⟩ := dp_tup av
  have hl := dpa_len h2
  have stays : ∀ {G' H' : Hp} {S' M' σ'}, Rel K n S' M' σ' G' H' → Ex G1 G' → SqT K H' p ws := fun R' e' => Evl.ex_t (e'.trans R'.ex) h1
  refine ⟨p, rfl, ⟨ws, Evl.ex_t R1.ex h1⟩, fun i m σ' H' => m = ws.length - i ∧ i ≤ ws.length ∧ FI K n G1 I i σ' H', ⟨_, rfl, Nat.zero_le _, G1, S, M1, R1, Ex.refl _, i0⟩, ?_⟩
  rintro i m σ' H' ⟨rfl, hi, G', S', M', R', e', hI⟩
  by_cases hlt : i < ws.length
  · have hw : ws[i]? = some ws[i] := List.getElem?_eq_getElem hlt
    obtain ⟨d, hd, ad⟩ := dpa_at_v h2 hw
    refine .inr ⟨⟨ws, _, stays R' e', hw⟩, FI K n G1 I (i + 1), fun σ2 H2 q => ⟨_, by omega, rfl, hlt, q⟩, fun y H2 hy => ?_⟩
    obtain ⟨T, x, ⟨hT, rfl, rfl⟩, hx⟩ := hy
    have ex : x = ws[i] := Option.some.inj ((hx ws (stays R' e')).symm.trans hw)
    subst ex
    have gT := ex_gnone R'.ex hT
    have R2 := R'.new (o := .tup [.int (i : Nat), ws[i]]) hT (fun _ z => nomatch z)
    obtain ⟨js, S2, hg, hb⟩ := is i d S' M' hd hI
    have pair : Dz K (upd G' T (.tup [.int (i : Nat), ws[i]])) (.ref T) (.tuple [.int (i : Nat), d]) := .tup (.inl upd_same) (.cons (.int _) (.cons (dp_mono (e'.trans (Ex.new gT)) ad) .nil))
    refine hg n M' σ' _ _ _ R2 pair _ fun σ2 _ _ R3 => hb n σ2 _ _ R3 _ ((k.mono ((e1.trans e').trans (Ex.new gT))).loop fun σ3 G3 H3 S3 M3 e3 R4 i3 => ⟨G3, S3, M3, R4, (e'.trans (Ex.new gT)).trans e3, i3⟩)
  · have e : i = ws.length := by omega
    subst e
    exact .inl ⟨⟨ws, stays R' e', rfl⟩, k.nx σ' G' H' S' M' (e1.trans e') R' (id S' M' (by rw [← hl]; exact hI))⟩
end
end Z
/-! dicts whose keys are tuples: {(..): e for .. in ..}, dict([..]), .get, in -/
namespace Z
open PySem PySem.Spec PyProof.Rows L2
open Evl (Ex)
/-! ### dict([(key, value), ..]) -/
theorem paired_lens {α β : Type} {F : α → β → Prop} : ∀ {l : List α} {m : List β}, Paired F l m → l.length = m.length
  | _, _, .nil => rfl
  | _, _, .cons _ t => congrArg (· + 1) (paired_lens t)
end Z
/-! sorted(rows), rows a list or a tuple of tuples of ints of any size -/
namespace Z
open PySem PySem.Spec PyProof.Rows L2
open Evl (Ex)
/-- row a does not stand behind row b -/
def leI (a b : List Int) : Bool := !lexLt itemOrd (b.map Sum.inl) (a.map Sum.inl)
theorem leI_iff {a b : List Int} : leI a b = true ↔ (listOrd itemOrd).kle (a.map Sum.inl) (b.map Sum.inl) := by
  unfold leI KeyOrd.kle
  rw [Bool.not_eq_true']
theorem leI_trans (a b c : List Int) (h1 : leI a b = true) (h2 : leI b c = true) : leI a c = true := leI_iff.mpr (KeyOrd.kle_trans (leI_iff.mp h1) (leI_iff.mp h2))
theorem leI_total (a b : List Int) : (leI a b || leI b a) = true := by
  rw [Bool.or_eq_true]
  by_cases h : (listOrd itemOrd).klt (a.map Sum.inl) (b.map Sum.inl)
  · exact .inl (leI_iff.mpr (KeyOrd.kle_of_klt h))
  · exact .inr (leI_iff.mpr (KeyOrd.kle_of_not_klt h))
theorem inl_inj {a b : List Int} (h : a.map (Sum.inl (β := List Nat)) = b.map Sum.inl) : a = b := by
  induction a generalizing b with
  | nil => cases b with
    | nil => rfl
    | cons y b => cases h
  | cons x a ih => cases b with
    | nil => cases h
    | cons y b =>
      rw [List.map_cons, List.map_cons] at h
      injection h with h1 h2
      injection h1 with h1
      rw [h1, ih h2]
theorem leI_anti (a b : List Int) (h1 : leI a b = true) (h2 : leI b a = true) : a = b := inl_inj (KeyOrd.kle_antisymm (leI_iff.mp h1) (leI_iff.mp h2))
/-- the rows in order -/
def sortI (rows : List (List Int)) : List (List Int) := rows.mergeSort leI
theorem sortI_perm (rows : List (List Int)) : (sortI rows).Perm rows := List.mergeSort_perm _ _
theorem sortI_pw (rows : List (List Int)) : (sortI rows).Pairwise (fun a b => leI a b = true) := List.pairwise_mergeSort leI_trans leI_total rows
theorem sortI_uniq {rows l : List (List Int)} (hp : l.Perm rows) (hw : l.Pairwise (fun a b => leI a b = true)) : l = sortI rows :=
  List.Perm.eq_of_pairwise (fun a b _ _ => leI_anti a b) hw (sortI_pw rows) (hp.trans (sortI_perm rows).symm)
/-- x is a row of these ints -/
def RowI (K : Fg) (H : Hp) (x : V) (ns : List Int) : Prop := ∃ t, x = .ref t ∧ SqT K H t (ns.map V.int)
end Z
/-! rows sorted, compared; min, max, any, list(..) over data; dicts as own cells; defs that hand back a dict -/
namespace Z
open PySem PySem.Spec PyProof.Rows L2
open Evl (Ex)
abbrev rowD (r : List Int) : PyData := .tuple (r.map .int)
section
variable {K : Fg} {E : L2.St → XK} {e0 : XK} {te ta tb tk tv td : TE} {tA : TA} {t : TS} {g : TG} {S : Zs} {M M' : Ms} {P : ZP} {Q : QZ} {X : XZ} {n : Sn} {σ : L2.St} {G G' H H' : Hp}
theorem dza_rows {rows : List (List Int)} : ∀ {vs : List V}, DzAll K G vs (rows.map rowD) → Paired (fun v r => Dz K G v (rowD r)) vs rows := by
  induction rows with
  | nil => intro vs h; cases h; exact .nil
  | cons r rows ih => intro vs h; cases h with | cons a b => exact .cons a (ih b)
theorem dza_ints {ns : List Int} : ∀ {vs : List V}, DzAll K G vs (ns.map .int) → vs = ns.map V.int := by
  induction ns with
  | nil => intro vs h; cases h; rfl
  | cons i ns ih => intro vs h; cases h with | cons a b => rw [dp_int a, ih b]; rfl
theorem dza_bools {bs : List Bool} : ∀ {vs : List V}, DzAll K G vs (bs.map .bool) → vs = bs.map V.bl := by
  induction bs with
  | nil => intro vs h; cases h; rfl
  | cons i bs ih => intro vs h; cases h with | cons a b => rw [dp_bl a, ih b]; rfl
theorem dz_row {v : V} {r : List Int} (e : Ex G H) (h : Dz K G v (rowD r)) : RowI K H v r := by
  obtain ⟨p, ws, rfl, h1, h2⟩ := dp_tup h
  rw [dza_ints h2] at h1
  exact ⟨p, rfl, Evl.ex_t e h1⟩
/-- rows compared -/
def leQ (a b : List Int) : Bool := Ob.lexAt (fun j => decide (a.getD j 0 = b.getD j 0)) (fun j => decide (a.getD j 0 ≤ b.getD j 0)) (decide (a.length ≤ b.length)) 0 (min a.length b.length)
theorem zo_leR {a b : List Int} (q : Q (.d (.bool (leQ a b))) M) : ZO K (rLeT K) (.d (rowD a)) (.d (rowD b)) M Q :=
  zo_val (z := .d (.bool (leQ a b))) (fun G H v u e x y => by
    obtain ⟨p, rfl, h1⟩ := dz_row e x
    obtain ⟨p2, rfl, h2⟩ := dz_row e y
    exact ⟨_, .bl _, fun Qv h => ⟨p, p2, a, b, rfl, rfl, h1, h2, h⟩⟩) q
/-! ### min, max, any, list -/
def IsMin (m : Int) (ns : List Int) : Prop := m ∈ ns ∧ ∀ y ∈ ns, m ≤ y
theorem zc_min {ns : List Int} {m : Int} (hm : IsMin m ns) (q : Q (.d (.int m)) M) : ZC K (rMin K) [.d (.list (ns.map .int))] M Q := zc_val (z := .d (.int m)) (fun G H vs e a => by
  obtain ⟨v, rfl, av⟩ := zall1 a
  obtain ⟨p, ws, rfl, h1, h2⟩ := dp_lst av
  rw [dza_ints h2] at h1
  refine ⟨.int m, Dz.int _, fun Qv hq => ⟨p, ns, rfl, Evl.ex_l e h1, List.length_pos_of_mem hm.1, fun m' a1 a2 => ?_⟩⟩
  rw [show m' = m by have := a2 m hm.1; have := hm.2 m' a1; omega]
  exact hq) q
theorem zc_any {bs : List Bool} (q : Q (.d (.bool (bs.any id))) M) : ZC K (rAny K) [.d (.list (bs.map .bool))] M Q := zc_val (z := .d (.bool (bs.any id))) (fun G H vs e a => by
  obtain ⟨v, rfl, av⟩ := zall1 a
  obtain ⟨p, ws, rfl, h1, h2⟩ := dp_lst av
  rw [dza_bools h2] at h1
  exact ⟨.bl _, Dz.bl _, fun Qv hq => ⟨p, bs, rfl, Evl.ex_l e h1, hq⟩⟩) q
/-! ### dicts whose keys are rows -/
abbrev keyI (r : List Int) : List Key := r.map Sum.inl
theorem keyI_v (r : List Int) : (keyI r).map kV = r.map V.int := by
  rw [List.map_map]
  rfl
/-- what is held at a row -/
def heldP (kvs : List (List Key × PyData)) (k : List Key) : Option PyData := (kvs.find? fun kv => decide (kv.1 = k)).map (·.2)
def putP (kvs : List (List Key × PyData)) (k : List Key) (d : PyData) : List (List Key × PyData) := if (kvs.any fun kv => decide (kv.1 = k)) = true then kvs.map fun kv => if kv.1 = k then (kv.1, d) else kv else kvs ++ [(k, d)]
abbrev DPr (K : Fg) (G : Hp) : List (List Key × V) → List (List Key × PyData) → Prop := Paired (fun a b => a.1 = b.1 ∧ Dz K G a.2 b.2)
theorem held_rel {ws : List (List Key × V)} {kvs : List (List Key × PyData)} (h : DPr K G ws kvs) (k : List Key) : (heldP kvs k = none ∧ valV ws k = none) ∨ ∃ d v, heldP kvs k = some d ∧ valV ws k = some v ∧ Dz K G v d := by
  induction h with
  | nil => exact .inl ⟨rfl, rfl⟩
  | @cons a b ws kvs q _ ih =>
    unfold heldP valV at ih ⊢
    rw [List.find?_cons, List.find?_cons, ← q.1]
    by_cases e : a.1 = k
    · rw [decide_eq_true e]
      exact .inr ⟨_, _, rfl, rfl, q.2⟩
    · rw [decide_eq_false e]
      exact ih
theorem put_rel {ws : List (List Key × V)} {kvs : List (List Key × PyData)} (h : DPr K G ws kvs) (k : List Key) {v : V} {d : PyData} (a : Dz K G v d) : DPr K G (putK ws k v) (putP kvs k d) := by
  have an : (ws.any fun kv => decide (kv.1 = k)) = kvs.any fun kv => decide (kv.1 = k) := by
    induction h with
    | nil => rfl
    | cons q _ ih => rw [List.any_cons, List.any_cons, ih, q.1]
  unfold putK putP
  rw [an]
  split
  · rename_i hh
    clear an hh
    induction h with
    | nil => exact .nil
    | @cons x y ws kvs q _ ih =>
      rw [List.map_cons, List.map_cons]
      refine .cons ?_ ih
      rw [← q.1]
      split
      · exact ⟨rfl, a⟩
      · exact q
  · rename_i hh
    clear an hh
    induction h with
    | nil => exact .cons ⟨rfl, a⟩ .nil
    | cons q _ ih => exact .cons q ih
theorem dpr_len {ws : List (List Key × V)} {kvs : List (List Key × PyData)} (h : DPr K G ws kvs) : ws.length = kvs.length := paired_lens h
theorem dz_key {v : V} {i : Int} {r : List Int} (h : Dz K G v (rowD (i :: r))) : ∃ p, v = .ref p ∧ G p = some (.tup ((keyI (i :: r)).map kV)) := by
  cases h with
  | tup s a =>
    have e := dza_ints (ns := i :: r) a
    rcases s with s | ⟨_, x, l, s⟩
    · exact ⟨_, rfl, by rw [keyI_v, s, e]⟩
    · rw [e] at s
      cases s
/-- d.get(key, other) -/
theorem zw_dget2 (h : ZW K E td S M (fun z M1 => ∃ p, z = .c p ∧ (∃ b kvs, (p, b, CD.dT kvs) ∈ M1) ∧ ZW K E tk S M1 (fun y M2 => ∃ i r, y = .d (rowD (i :: r)) ∧ ZW K E tv S M2 (fun w M3 => ∃ b kvs o, w = .d o ∧ (p, b, CD.dT kvs) ∈ M3 ∧ Q (.d ((heldP kvs (keyI (i :: r))).getD o)) M3) X) X) X) :
    ZW K E (tDGet2 td tk tv) S M Q X := fun n σ G H R Qv k kx =>
  h n σ G H R _ (fun v G1 H1 z M1 e1 R1 a1 ⟨p, hz, ⟨b, kvs, hm⟩, h2⟩ => by
    subst hz
    have ev : v = .ref p := a1
    subst ev
    obtain ⟨_, ws, hw, _⟩ := R1.ce p b _ hm
    refine ⟨p, rfl, .inr ⟨ws, .inl hw⟩, h2 n σ G1 H1 R1 _ (fun y G2 H2 zy M2 e2 R2 a2 ⟨i, r, hy, h3⟩ => h3 n σ G2 H2 R2 _ (fun w G3 H3 zw M3 e3 R3 a3 ⟨b', kvs', o, hw3, hm3, q⟩ => ?_) ((kx.mono e1).mono e2)) (kx.mono e1)⟩
    subst hy hw3
    obtain ⟨c, rfl, hc⟩ := dz_key a2
    obtain ⟨_, ws', hw', rel⟩ := R3.ce p b' _ hm3
    refine ⟨_, DGet.t hw' (R3.ex _ _ (e3 _ _ hc)), ?_⟩
    have e123 := (e1.trans e2).trans e3
    rcases held_rel rel (keyI (i :: r)) with ⟨x1, x2⟩ | ⟨d, v, x1, x2, x3⟩
    · rw [x2]
      rw [x1] at q
      exact k w G3 H3 (.d o) M3 e123 R3 a3 q
    · rw [x2]
      rw [x1] at q
      exact k v G3 H3 (.d d) M3 e123 R3 x3 q) kx
/-- key in d -/
theorem zw_din (h : ZW K E tk S M (fun y M1 => ∃ i r, y = .d (rowD (i :: r)) ∧ ZW K E td S M1 (fun z M2 => ∃ p b kvs, z = .c p ∧ (p, b, CD.dT kvs) ∈ M2 ∧ Q (.d (.bool (heldP kvs (keyI (i :: r))).isSome)) M2) X) X) : ZW K E (tDIn tk td) S M Q X := fun n σ G H R Qv k kx =>
  h n σ G H R _ (fun y G1 H1 zy M1 e1 R1 a1 ⟨i, r, hy, h2⟩ => h2 n σ G1 H1 R1 _ (fun v G2 H2 z M2 e2 R2 a2 ⟨p, b, kvs, hz, hm, q⟩ => by
    subst hy hz
    have ev : v = .ref p := a2
    subst ev
    obtain ⟨c, rfl, hc⟩ := dz_key a1
    obtain ⟨_, ws, hw, rel⟩ := R2.ce p b _ hm
    refine ⟨p, _, rfl, DGet.t hw (R2.ex _ _ (e2 _ _ hc)), ?_⟩
    have same : (valV ws (keyI (i :: r))).isSome = (heldP kvs (keyI (i :: r))).isSome := by
      rcases held_rel rel (keyI (i :: r)) with ⟨x1, x2⟩ | ⟨d, v, x1, x2, _⟩ <;> rw [x1, x2] <;> rfl
    rw [same]
    exact k _ G2 H2 (.d (.bool (heldP kvs (keyI (i :: r))).isSome)) M2 (e1.trans e2) R2 (Dz.bl _) q) (kx.mono e1)) kx
theorem Rel.putD {p : Addr} {b : Bool} {xs ys : List (List Key × PyData)} {ws : List (List Key × V)} (R : Rel K n S M σ G H) (u : Upd1 p b (.dT xs) (.dT ys) M M') (h : DPr K G ws ys) : Rel K n S M' σ G (upd H p (.dT ws)) := by
  obtain ⟨_, vs, h1, _⟩ := R.ce p b _ u.mem
  exact R.put u (fun x z => by rw [h1] at z; cases z) ⟨ws, upd_same, h⟩
theorem Rel.newD {p : Addr} {ws : List (List Key × V)} {xs : List (List Key × PyData)} (R : Rel K n S M σ G H) (hp : H p = none) (h : DPr K G ws xs) : Rel K n S ((p, true, .dT xs) :: M) σ G (upd H p (.dT ws)) :=
  (R.lay hp).cell (R.fresh hp) (R.notin hp) (ex_gnone R.ex hp) ⟨ws, upd_same, h⟩
/-! ### a def over data that hands back an own thing -/
def spE (K : Fg) (k : Nat) (R : List PyData → CD → Prop) : Sp := fun vs H Q E => ∃ (G : Hp) (ds : List PyData) (c : CD), Ex G H ∧ ds.length = k ∧ DzAll K G vs ds ∧ R ds c ∧
  ∀ p G' H', Ext [] G H G' H' → H p = none → G' p = none → CD.at K G' H' p c → Q (.ref p) H'
theorem zw_callE0 {ar : Nat} {R : List PyData → CD → Prop} (h : ZA K E tA S M (fun zs M1 => ∃ ds c, AllD zs ds ∧ ds.length = ar ∧ R ds c ∧ ∀ p, Q (.c p) ((p, true, c) :: M1)) X) : ZW K E (tCall (spE K ar R) [] E0 tA) S M Q X := fun n σ G H Rl Qv k kx =>
  h n σ G H Rl _ (fun vs G1 H1 zs M1 e1 R1 a1 ⟨ds, c, hd, hk, hR, q⟩ => by
    refine ⟨G1, ds, c, R1.ex, hk, ?_, hR, fun p G' H' e hp hg hc => ?_⟩
    · rw [List.append_nil]
      exact zall_d (by rw [← hd]; exact a1)
    · exact k (.ref p) G' H' (.c p) _ (e1.trans e.g) ((R1.call e).cell (R1.fresh hp) (R1.notin hp) hg hc) rfl (q p)) kx
end
end Z
/-! [e for .. in a tuple if test] as filter and map -/
namespace Z
open PySem PySem.Spec PyProof.Rows L2
open Evl (Ex)
section
variable {K : Fg} {E : L2.St → XK} {te ta tb : TE} {tt : TT} {g : TG} {S : Zs} {M : Ms} {Q : QZ} {X : XZ}
theorem ZT.imp {Q Q' : Bool → Ms → Prop} (h : ZT K E tt S M Q X) (i : ∀ z M', Q z M' → Q' z M') : ZT K E tt S M Q' X := fun n σ G H R Qv q x => h n σ G H R Qv (fun v G' H' M' e R' b => q v G' H' M' e R' (i _ _ b)) x
theorem take_filter {α : Type} (p : α → Bool) {l : List α} {i : Nat} {c : α} (h : l[i]? = some c) : (l.take (i + 1)).filter p = (l.take i).filter p ++ if p c then [c] else [] := by
  rw [List.take_add_one, h, List.filter_append]
  congr 1
  show List.filter p [c] = _
  rw [List.filter_cons]
  rfl
theorem lcT_fm {α : Type} {vs : List Nat} (items : List α) (enc f : α → PyData) (p : α → Bool) (h : ZW K E ta S M (fun z M1 => z = .d (.tuple (items.map enc)) ∧ items.length ≤ sizeLine ∧
      (∀ c ∈ items, ∃ is S2, (∀ j ∈ is, j ∈ vs) ∧ ZG K g (.d (enc c)) (wipeZ S vs) is S2 ∧ ∀ D acc, ZT K E tt S2 ((D, true, .lst acc) :: M1) (fun b Mb => b = p c ∧ Mb = (D, true, .lst acc) :: M1) (fun _ _ _ => False) ∧
        (p c = true → ZW K E te S2 ((D, true, .lst acc) :: M1) (fun y Mc => y = .d (f c) ∧ Mc = (D, true, .lst acc) :: M1) fun _ _ _ => False)) ∧ Q (.d (.list ((items.filter p).map f))) M1) X) : ZW K E (tLc (iTup K ta) g tt te vs) S M Q X := by
  refine zw_lcT (h.imp ?_)
  rintro z M1 ⟨hz, hl, each, q⟩
  refine ⟨_, hz, by rw [List.length_map]; exact hl, fun i acc M' => acc = ((items.take i).filter p).map f ∧ M' = M1, ⟨by simp, rfl⟩, ?_, ?_⟩
  · intro i x hx acc M' D hI
    rw [List.getElem?_map] at hx
    obtain ⟨c, hc, rfl⟩ := Option.map_eq_some_iff.mp hx
    obtain ⟨is, S2, h1, h2, h3⟩ := each c (List.mem_of_getElem? hc)
    obtain ⟨ha, hM⟩ := hI
    subst hM
    obtain ⟨h4, h5⟩ := h3 D acc
    refine ⟨is, S2, h1, h2, ZT.imp h4 ?_⟩
    rintro b Mb ⟨rfl, rfl⟩
    refine ⟨fun hb => ⟨_, rfl, ?_, rfl⟩, fun hb => (h5 hb).imp ?_⟩
    · rw [take_filter p hc, hb, ha]
      simp
    · rintro y Mc ⟨rfl, rfl⟩
      refine ⟨_, _, rfl, rfl, ?_, rfl⟩
      rw [take_filter p hc, hb, ha]
      simp
  · rintro acc M' ⟨ha, rfl⟩
    rw [List.length_map, List.take_length] at ha
    rw [ha]
    exact q
theorem lcT_map {α : Type} {vs : List Nat} (items : List α) (enc f : α → PyData) (h : ZW K E ta S M (fun z M1 => z = .d (.tuple (items.map enc)) ∧ items.length ≤ sizeLine ∧
      (∀ c ∈ items, ∃ is S2, (∀ j ∈ is, j ∈ vs) ∧ ZG K g (.d (enc c)) (wipeZ S vs) is S2 ∧ ∀ D acc, ZW K E te S2 ((D, true, .lst acc) :: M1) (fun y Mc => y = .d (f c) ∧ Mc = (D, true, .lst acc) :: M1) fun _ _ _ => False) ∧ Q (.d (.list (items.map f))) M1) X) : ZW K E (tLc (iTup K ta) g tYes te vs) S M Q X := by
  refine lcT_fm items enc f (fun _ => true) (h.imp ?_)
  rintro z M1 ⟨hz, hl, each, q⟩
  refine ⟨hz, hl, fun c hc => ?_, by rw [List.filter_eq_self.mpr (fun _ _ => rfl)]; exact q⟩
  obtain ⟨is, S2, h1, h2, h3⟩ := each c hc
  exact ⟨is, S2, h1, h2, fun D acc => ⟨zt_yes ⟨rfl, rfl⟩, fun _ => h3 D acc⟩⟩
end
end Z
namespace MB
def binL (n : Nat) : List Nat := (Nat.toDigits 2 n).map Char.toNat
theorem binL_lt {n : Nat} (h : n < 2) : binL n = [if n.testBit 0 then 49 else 48] := by
  unfold binL
  rw [Nat.toDigits_of_lt_base h]
  rcases Nat.lt_or_ge n 1 with z | z
  · have : n = 0 := by omega
    subst this; rfl
  · have : n = 1 := by omega
    subst this; rfl
theorem binL_ge {n : Nat} (h : 2 ≤ n) : binL n = binL (n / 2) ++ [if n.testBit 0 then 49 else 48] := by
  unfold binL
  rw [Nat.toDigits_of_base_le (by decide) h, List.map_append]
  congr 1
  rw [Nat.testBit_zero]
  rcases Nat.mod_two_eq_zero_or_one n with z | z <;> rw [z] <;> rfl
theorem binL_pos (n : Nat) : 0 < (binL n).length := by
  rcases Nat.lt_or_ge n 2 with h | h
  · rw [binL_lt h]; exact Nat.zero_lt_one
  · rw [binL_ge h, List.length_append]; simp
theorem binL_len (n : Nat) : (binL n).length = n.log2 + 1 := by
  induction n using Nat.strongRecOn with
  | _ n ih =>
    rcases Nat.lt_or_ge n 2 with h | h
    · have e : ¬ 2 ≤ n := by omega
      rw [binL_lt h, Nat.log2_def, if_neg e]; rfl
    · rw [binL_ge h, Nat.log2_def, if_pos h, List.length_append, ih (n / 2) (by omega)]; rfl
theorem binL_get (n : Nat) : ∀ k, k < (binL n).length → (binL n)[(binL n).length - 1 - k]? = some (if n.testBit k then 49 else 48) := by
  induction n using Nat.strongRecOn with
  | _ n ih =>
    intro k hk
    rcases Nat.lt_or_ge n 2 with h | h
    · rw [binL_lt h] at hk ⊢
      have : k = 0 := by simpa using hk
      subst this; rfl
    · rw [binL_ge h, List.length_append] at hk ⊢
      simp only [List.length_cons, List.length_nil] at hk ⊢
      have hp := binL_pos (n / 2)
      cases k with
      | zero =>
        rw [List.getElem?_append_right (by omega)]
        have : (binL (n / 2)).length + (0 + 1) - 1 - 0 - (binL (n / 2)).length = 0 := by omega
        rw [this]; rfl
      | succ k =>
        rw [List.getElem?_append_left (by omega)]
        have e : (binL (n / 2)).length + (0 + 1) - 1 - (k + 1) = (binL (n / 2)).length - 1 - k := by omega
        rw [e, ih (n / 2) (by omega) k (by omega), Nat.testBit_succ]
theorem binL_off (n k : Nat) (h : (binL n).length ≤ k) : n.testBit k = false := by
  rw [binL_len] at h
  exact Nat.testBit_lt_two_pow (Nat.lt_of_lt_of_le Nat.lt_log2_self (Nat.pow_le_pow_right (by decide) (by omega)))
theorem binL_at (n j : Nat) (h : j < (binL n).length) : (binL n)[j]? = some (if n.testBit ((binL n).length - 1 - j) then 49 else 48) := by
  have := binL_get n ((binL n).length - 1 - j) (by omega)
  have e : (binL n).length - 1 - ((binL n).length - 1 - j) = j := by omega
  rw [e] at this
  exact this
/-- the places of the ones, the greatest first, those that the text shows ahead of an index -/
def onesTo (n m : Nat) : List Nat := ((List.range m).filter fun j => n.testBit ((binL n).length - 1 - j)).map fun j => (binL n).length - 1 - j
def ones (n : Nat) : List Nat := onesTo n (binL n).length
theorem mem_ones (n k : Nat) : k ∈ ones n ↔ n.testBit k = true := by
  unfold ones onesTo
  simp only [List.mem_map, List.mem_filter, List.mem_range]
  constructor
  · rintro ⟨j, ⟨h1, h2⟩, rfl⟩; exact h2
  · intro h
    have hk : k < (binL n).length := by
      rcases Nat.lt_or_ge k (binL n).length with z | z
      · exact z
      · rw [binL_off n k z] at h; cases h
    refine ⟨(binL n).length - 1 - k, ⟨by omega, ?_⟩, by omega⟩
    have e : (binL n).length - 1 - ((binL n).length - 1 - k) = k := by omega
    rw [e]; exact h
theorem ones_nodup (n : Nat) : (ones n).Nodup := by
  unfold ones onesTo
  unfold List.Nodup
  rw [List.pairwise_map]
  have h1 : ((List.range (binL n).length).filter fun j => n.testBit ((binL n).length - 1 - j)).Nodup := (List.nodup_range).filter _
  have h2 : ∀ j ∈ (List.range (binL n).length).filter fun j => n.testBit ((binL n).length - 1 - j), j < (binL n).length := fun j hj => List.mem_range.mp (List.mem_filter.mp hj).1
  refine List.Pairwise.imp_of_mem ?_ h1
  intro a b ha hb hab e
  have := h2 a ha
  have := h2 b hb
  exact hab (by omega)
theorem onesTo_step_no {n m k : Nat} (hm : m ≤ k) (h : ∀ j, m ≤ j → j < k → n.testBit ((binL n).length - 1 - j) = false) : onesTo n k = onesTo n m := by
  obtain ⟨d, rfl⟩ := Nat.exists_eq_add_of_le hm
  clear hm
  induction d with
  | zero => rfl
  | succ d ih =>
    have := ih (fun j h1 h2 => h j h1 (by omega))
    rw [← this]
    unfold onesTo
    rw [← Nat.add_assoc, List.range_succ, List.filter_append, List.map_append]
    simp [h (m + d) (by omega) (by omega)]
theorem onesTo_succ {n m : Nat} (h : n.testBit ((binL n).length - 1 - m) = true) : onesTo n (m + 1) = onesTo n m ++ [(binL n).length - 1 - m] := by
  unfold onesTo
  rw [List.range_succ, List.filter_append, List.map_append]
  simp [h]
theorem ones_count (n : Nat) : (ones n).length = (binL n).count 49 := by
  have key : ∀ m, m ≤ (binL n).length → (onesTo n m).length = ((binL n).take m).count 49 := by
    intro m
    induction m with
    | zero => intro _; rfl
    | succ m ih =>
      intro h
      have hg := binL_at n m (by omega)
      have e : (binL n).take (m + 1) = (binL n).take m ++ [if n.testBit ((binL n).length - 1 - m) then 49 else 48] := by
        rw [List.take_succ, hg]; rfl
      rw [e, List.count_append, ← ih (by omega)]
      cases z : n.testBit ((binL n).length - 1 - m) with
      | true => rw [onesTo_succ z, List.length_append]; rfl
      | false => rw [onesTo_step_no (Nat.le_succ m) (fun j h1 h2 => (show j = m by omega) ▸ z)]; rfl
  have := key _ (Nat.le_refl _)
  rw [List.take_length] at this
  exact this
/-- ^ of numbers -/
theorem or_parts (a : Nat) : ∀ b, (a ||| b) = (a ^^^ b) + (a &&& b) := by
  induction a using Nat.strongRecOn with
  | _ a ih =>
    intro b
    rcases Nat.eq_zero_or_pos a with z | z
    · subst z; simp
    · have h := ih (a / 2) (by omega) (b / 2)
      have d1 := @Nat.or_div_two a b
      have d2 := @Nat.xor_div_two a b
      have d3 := @Nat.and_div_two a b
      have m : (a ||| b) % 2 = (a ^^^ b) % 2 + (a &&& b) % 2 := by
        have t1 : ((a ||| b) % 2 = 1) ↔ (a.testBit 0 || b.testBit 0) = true := by rw [← Nat.testBit_or, Nat.testBit_zero, decide_eq_true_iff]
        have t2 : ((a ^^^ b) % 2 = 1) ↔ (a.testBit 0 ^^ b.testBit 0) = true := by rw [← Nat.testBit_xor, Nat.testBit_zero, decide_eq_true_iff]
        have t3 : ((a &&& b) % 2 = 1) ↔ (a.testBit 0 && b.testBit 0) = true := by rw [← Nat.testBit_and, Nat.testBit_zero, decide_eq_true_iff]
        have l1 := Nat.mod_two_eq_zero_or_one (a ||| b)
        have l2 := Nat.mod_two_eq_zero_or_one (a ^^^ b)
        have l3 := Nat.mod_two_eq_zero_or_one (a &&& b)
        generalize (a ||| b) % 2 = p at *
        generalize (a ^^^ b) % 2 = q at *
        generalize (a &&& b) % 2 = r at *
        cases x : a.testBit 0 <;> cases y : b.testBit 0 <;> rw [x, y] at t1 t2 t3 <;> simp only [Bool.or_true, Bool.or_false, Bool.xor_true, Bool.xor_false, Bool.and_true, Bool.and_false, Bool.not_true, Bool.not_false, Bool.false_eq_true, iff_true, iff_false] at t1 t2 t3 <;> omega
      rw [← d1, ← d2, ← d3] at h
      have m1 := Nat.div_add_mod (a ||| b) 2
      have m2 := Nat.div_add_mod (a ^^^ b) 2
      have m3 := Nat.div_add_mod (a &&& b) 2
      omega
end MB
namespace MB
/-! a floor as bits: what a step of planes is -/
/-! ### the rule -/
def nextS (births stays : List Nat) (states : Int) (c : Int) (n : Nat) : Int :=
  if c = 0 then (if n ∈ births then 1 else 0) else if c = 1 ∧ n ∈ stays then 1 else if c + 1 < states then c + 1 else 0
abbrev Fl := Int → Int → Int
def liv (f : Fl) (x y : Int) : Nat := if f x y = 1 then 1 else 0
/-- the living ones among the eight places around one -/
def nb (f : Fl) (x y : Int) : Nat := liv f (x - 1) (y - 1) + liv f (x - 1) y + liv f (x - 1) (y + 1) + liv f x (y - 1) + liv f x (y + 1) + liv f (x + 1) (y - 1) + liv f (x + 1) y + liv f (x + 1) (y + 1)
def next (births stays : List Nat) (states : Int) (f : Fl) : Fl := fun x y => nextS births stays states (f x y) (nb f x y)
end MB
/-! f'{n:b}' of a number from nought, and the ones in that text -/
namespace Z
open PySem PySem.Spec PyProof.Rows L2
open Evl (Ex)
open MB (binL)
/-- a number's figures in twos, the greatest first -/
def binS (n : Nat) : Str := ⟨(binL n).toArray⟩
def specB : Str := "b"
theorem cut_int {P : Program} {w : World} {A : Around} {E : Value → Shared → Prop} {s : Shared} {n : Nat} {a : Int} {t : Tok} {Q : String → Shared → Prop} (h : Q "int" s) : wpAny (model P w) A (typeNameOfCut n (.int a t)) Q E s :=
  wpAny_typeNameOfCut_int h
theorem parseB (name : String) : Builtin.Float.parseFormatSpec specB.cps.toList name 62 = .ok { align := 62, type := some 98 } := by
  rfl
section
open Builtin Builtin.Int
theorem gives_cut {a : Int} {t : Tok} {n : Nat} {k : String → Sem Fin} {m : Made} (g : ∀ x, Gives (k x) m) : Gives (do let x ← typeNameOfCut n (.int a t); k x) m :=
  fun _ _ _ _ _ hq => wpAny_bind (cut_int (g _ _ _ _ _ _ hq))
theorem tyne : (Value.type "str" == Value.type "builtin_function_or_method") = false := by decide +kernel
def digsB (n : Nat) : List Nat := (Nat.toDigits 2 n).map fun c => (if (98 : Nat) == 88 then c.toUpper else c).toNat
theorem field_bin (n : Nat) : intField' { align := 62, type := some 98 } (decide ((n : Int) < 0)) [] (digsB n) [] 4 = binS n := by
  have e : decide ((n : Int) < 0) = false := decide_eq_false (by omega)
  have hd : digsB n = binL n := rfl
  rw [e, hd]
  unfold intField' binS
  simp
theorem gives_bin (n : Nat) (t u : Tok) : Gives («int.__format__» ⟨[.int (n : Int) t, .str specB u], []⟩) (.str (binS n)) := by
  unfold «int.__format__»
  simp only [selfAndOne, noKeywords, intOfSelf, asInt?, asStr?, List.isEmpty_nil, if_true, pure_bind, bind_pure, bind_assoc]
  have h1 : (Value.str specB u == Value.none) = false := rfl
  have h2 : (specB.length == 0) = false := by decide
  have h3 : (((List.drop 1 specB.cps.toList).any fun x => decide (x ≥ 128)) || decide (specB.cps.getD 0 0 ≥ 128) && ![60, 62, 61, 94].contains (specB.cps.getD 1 0)) = false := by decide
  have h4 : (some 98).getD (if (specB.cps.back? == some 0) = true then 0 else 100) = 98 := rfl
  simp (decide := true) only [h1, h2, h3, parseB, Bool.false_eq_true, if_false, h4, if_true]
  have ty : ∀ s : Shared, s.TypeIs (Value.str specB u) "str" := fun s => typeIs_str s _ _
  refine gives_after_typeNameOf (v := Value.str specB u) ty tyne fun _ => ?_
  refine gives_cut (a := (n : Int)) (t := t) (n := 200) fun _ => ?_
  show Gives (retStr (intField' { align := 62, type := some 98 } (decide ((n : Int) < 0)) [] (digsB n) [] 4)) _
  rw [field_bin]
  exact .of_eq rfl
end
/-- f'{e:b}' of a number from nought -/
def tFmtB (te : TE) : TE := fun σ H Q => te σ H fun x H1 => ∃ n : Nat, x = .int (n : Int) ∧ (binS n).length ≤ sizeLine ∧ Q (.str (binS n)) H1
theorem pe_fmtB {X : Cx} {e sp : Expr} {te : TE} {pos : Pos} (he : PE X e te) (hs : PE X sp (tC (.str specB))) : PE X (.FormattedValue e (-1) (some sp) pos) (tFmtB te) := by
  refine ⟨fun pins s σ H Q I h => ?_⟩
  refine wpAny_FormattedValue_spec (thn (he.run pins s σ H _ I h) fun v s1 hv => ?_)
  obtain ⟨x, H1, I1, r1, n, rfl, hz, q⟩ := hv
  obtain ⟨t, rfl⟩ := r1
  refine thn (hs.run pins s1 σ H1 (fun y H2 => y = .str specB ∧ Q (.str (binS n)) H2) I1 ⟨rfl, q⟩) fun r s2 hr => ?_
  obtain ⟨y, H2, I2, r2, rfl, q2⟩ := hr
  obtain ⟨t2, rfl⟩ := r2
  exact ⟨specB, t2, rfl, wpAny_formatField_spec (by decide) (fun s' => typeIs_int s' _ _) PySem.F.slot_int_format PySem.F.entry_int_format PySem.F.args_int_format_2 (fun u => gives_bin n _ u) ⟨.str (binS n), H2, I2.tok _, ⟨_, rfl⟩, q2⟩ (by decide) hz⟩
section
variable {K : Fg} {E : L2.St → XK} {te : TE} {tA : TA} {S : Zs} {M : Ms} {Q : QZ} {X : XZ}
theorem zw_fmtB (h : ZW K E te S M (fun z M1 => ∃ n : Nat, z = .d (.int (n : Int)) ∧ (binS n).length ≤ sizeLine ∧ Q (.d (.str (binS n))) M1) X) : ZW K E (tFmtB te) S M Q X := fun n σ G H R Qv k kx =>
  h n σ G H R _ (fun v G1 H1 z M1 e1 R1 a1 ⟨m, hz, hl, q⟩ => by
    subst hz
    exact ⟨m, dp_int a1, hl, k _ G1 H1 (.d (.str (binS m))) M1 e1 R1 (.str _) q⟩) kx
end
/-! ### numbers from nought, bit by bit -/
theorem band_nat (a b : Nat) : Builtin.bitAnd (a : Int) (b : Int) = ((a &&& b : Nat) : Int) := PySem.W.os_band a b
theorem bor_nat (a b : Nat) : Builtin.bitOr (a : Int) (b : Int) = ((a ||| b : Nat) : Int) := by
  rw [bitOr_nn (Int.natCast_nonneg a) (Int.natCast_nonneg b), Int.toNat_natCast, Int.toNat_natCast]
end Z
/-! numbers from nought, bit by bit; divmod; find and count of one sign; row[i] |= e; a list's sum; lists joined -/
namespace Z
open PySem PySem.Spec PyProof.Rows L2
open Evl (Ex)
open MB (binL)
theorem bxor_nat (a b : Nat) : Builtin.bitXor (a : Int) (b : Int) = ((a ^^^ b : Nat) : Int) := by
  show Builtin.bitOr (a : Int) (b : Int) - Builtin.bitAnd (a : Int) (b : Int) = _
  rw [bor_nat, band_nat, MB.or_parts]
  omega
theorem shl_nat (a k : Nat) : (a : Int) * 2 ^ ((k : Int).toNat) = ((a <<< k : Nat) : Int) := by
  rw [Int.toNat_natCast, Nat.shiftLeft_eq]
  simp
theorem shr_nat (a k : Nat) : (a : Int) / 2 ^ ((k : Int).toNat) = ((a >>> k : Nat) : Int) := by
  rw [Int.toNat_natCast, Nat.shiftRight_eq_div_pow]
  simp
theorem divp_small {i j : Int} (hj : 0 < j) (hi : i.natAbs < 2 ^ 4000) : CDivP i j := divp_ok hj (Nat.le_trans (PyProof.Rows.intBits_le hi) (Nat.le_add_left _ _))
theorem ip_or {X : Cx} : PIp X .BitOr (ipI fun i j => Builtin.bitOr i j) := fun pins s σ H x y v u Q I r1 r2 h => iop_or pins s σ H x y v u Q I r1 r2 h
abbrev rGetL (K : Fg) : V → V → Hp → VK → Prop := fun o i H Q => ∃ p xs k x, o = .ref p ∧ i = .int ((k : Nat) : Int) ∧ SqL K H p xs ∧ xs[k]? = some x ∧ Q x H
theorem get_list {X : Cx} : PGet X (rGetL X.K) := by
  intro pins s σ H o i ov iv Q I ro ri h
  obtain ⟨p, xs, k, x, rfl, rfl, hq, hx, q⟩ := h
  cases ro
  obtain ⟨t, rfl⟩ := ri
  obtain ⟨its, r, pl, hz⟩ := I.list hq
  obtain ⟨w, ew, rw'⟩ := r.get hx
  have hk := (List.getElem?_eq_some_iff.mp hx).1
  have hn := line63
  exact getItem_listL pl.isList (Int.natCast_nonneg _) (by omega) (by rw [Int.toNat_natCast]; exact ew) ⟨x, H, I, rw', q⟩
abbrev rDivm : List V → Hp → VK → Prop := fun xs H Q => ∃ i j, xs = [.int i, .int j] ∧ CDivP i j ∧ ∀ p, H p = none → Q (.ref p) (upd H p (.tup [.int (i / j), .int (i % j)]))
abbrev rStr1 (f : Str → Str → Int) : V → List V → Hp → VK → Prop := fun x xs H Q => ∃ a b, x = .str a ∧ xs = [.str b] ∧ Q (.int (f a b)) H
abbrev rStr2 (f : Str → Str → Int → Int) : V → List V → Hp → VK → Prop := fun x xs H Q => ∃ a b i, x = .str a ∧ xs = [.str b, .int i] ∧ Q (.int (f a b i)) H
theorem bb_divmod : bootBuiltins "divmod" = some (.builtin "divmod") := by decide +kernel
section
variable {K : Fg} {E : L2.St → XK} {te to ti : TE} {tA : TA} {t : TS} {S : Zs} {M M' : Ms} {Q : QZ} {X : XZ} {P : ZP} {n : Sn} {σ : L2.St} {G H : Hp}
theorem zo_band {a b : Nat} (q : Q (.d (.int ((a &&& b : Nat) : Int))) M) : ZO K (rI0 fun i j => .int (Builtin.bitAnd i j)) (.d (.int (a : Int))) (.d (.int (b : Int))) M Q := zo_I0 (gd := fun i j => .int (Builtin.bitAnd i j)) (fun _ => .int _) (by rw [band_nat]; exact q)
theorem zo_bor {a b : Nat} (q : Q (.d (.int ((a ||| b : Nat) : Int))) M) : ZO K (rI0 fun i j => .int (Builtin.bitOr i j)) (.d (.int (a : Int))) (.d (.int (b : Int))) M Q := zo_I0 (gd := fun i j => .int (Builtin.bitOr i j)) (fun _ => .int _) (by rw [bor_nat]; exact q)
theorem zo_bxor {a b : Nat} (q : Q (.d (.int ((a ^^^ b : Nat) : Int))) M) : ZO K (rI0 fun i j => .int (Builtin.bitXor i j)) (.d (.int (a : Int))) (.d (.int (b : Int))) M Q := zo_I0 (gd := fun i j => .int (Builtin.bitXor i j)) (fun _ => .int _) (by rw [bxor_nat]; exact q)
theorem zo_shlN {a k : Nat} (hc : CShl (a : Int) (k : Int)) (q : Q (.d (.int ((a <<< k : Nat) : Int))) M) : ZO K (rI CShl fun i j => .int (i * 2 ^ j.toNat)) (.d (.int (a : Int))) (.d (.int (k : Int))) M Q := zo_I (gd := fun i j => .int (i * 2 ^ j.toNat)) (fun _ => .int _) hc (by rw [shl_nat]; exact q)
theorem zo_shrN {a k : Nat} (q : Q (.d (.int ((a >>> k : Nat) : Int))) M) : ZO K (rI (fun _ j => 0 ≤ j) fun i j => .int (i / 2 ^ j.toNat)) (.d (.int (a : Int))) (.d (.int (k : Int))) M Q := zo_I (C := fun _ j => 0 ≤ j) (gd := fun i j => .int (i / 2 ^ j.toNat)) (fun _ => .int _) (Int.natCast_nonneg k) (by rw [shr_nat]; exact q)
theorem zc_divmod {i j : Int} (hc : CDivP i j) (q : Q (.d (.tuple [.int (i / j), .int (i % j)])) M) : ZC K rDivm [.d (.int i), .d (.int j)] M Q := fun n S σ G H R vs a Qv k => by
  obtain ⟨v, u, rfl, av, au⟩ := zall2 a
  refine ⟨i, j, by rw [dp_int av, dp_int au], hc, fun p hp => ?_⟩
  have g := ex_gnone R.ex hp
  exact k (.ref p) _ _ (.d (.tuple [.int (i / j), .int (i % j)])) M (Ex.new g) (R.new hp (fun _ z => nomatch z)) (.tup (.inl upd_same) (.cons (.int _) (.cons (.int _) .nil))) q
/-- a text's method -/
theorem zw_bmS {r : V → List V → Hp → VK → Prop} (h : ZW K E to S M (fun z M0 => ∃ s, z = .d (.str s) ∧ ZA K E tA S M0 (fun zs M1 => ZM K r (.d (.str s)) zs M1 Q) X) X) : ZW K E (tBM K "str" r to tA) S M Q X := fun n σ G H R Qv k kx =>
  h n σ G H R _ (fun v G0 H0 z M0 e0 R0 a0 ⟨s, hz, h2⟩ => by
    subst hz
    have ev := dp_str a0
    subst ev
    refine ⟨rfl, h2 n σ G0 H0 R0 _ (fun vs G1 H1 zs M1 e1 R1 a1 h3 => ?_) (kx.mono e0)⟩
    exact h3 n S σ G1 H1 R1 (.str s) vs (.str s) a1 Qv fun w G' H' z M' e' R' a' q => k w G' H' z M' ((e0.trans e1).trans e') R' a' q) kx
theorem zm_str1 {f : Str → Str → Int} {a b : Str} (q : Q (.d (.int (f a b))) M) : ZM K (rStr1 f) (.d (.str a)) [.d (.str b)] M Q := fun n S σ G H R v vs av au Qv k => by
  obtain ⟨u, rfl, au2⟩ := zall1 au
  exact ⟨a, b, dp_str av, by rw [dp_str au2], k _ G H (.d (.int (f a b))) M (Ex.refl G) R (.int _) q⟩
theorem zm_str2 {f : Str → Str → Int → Int} {a b : Str} {i : Int} (q : Q (.d (.int (f a b i))) M) : ZM K (rStr2 f) (.d (.str a)) [.d (.str b), .d (.int i)] M Q := fun n S σ G H R v vs av au Qv k => by
  obtain ⟨u, w, rfl, au2, aw⟩ := zall2 au
  exact ⟨a, b, i, dp_str av, by rw [dp_str au2, dp_int aw], k _ G H (.d (.int (f a b i))) M (Ex.refl G) R (.int _) q⟩
/-- x |= e -/
theorem zs_augOr {i a : Nat} (hs : S[i]? = some (some (.d (.int (a : Int))))) (h : ZW K E te S M (fun z M1 => ∃ b : Nat, z = .d (.int (b : Int)) ∧ P.nx (S.set i (some (.d (.int ((a ||| b : Nat) : Int))))) M1) P.ex) : ZS K E (tAug i te (ipI fun i j => Builtin.bitOr i j)) S M P :=
  zs_aug hs (fun n σ G H R Qv k kx => h n σ G H R Qv (fun v G' H' z M' e R' a' ⟨b, hz, q⟩ => k v G' H' z M' e R' a' ⟨b, hz, by rw [bor_nat]; exact q⟩) kx)
/-- row[i] op= e, an own list of numbers -/
theorem zs_augL {f : Int → Int → Int} (h : ZW K E to S M (fun o M1 => ZW K E ti S M1 (fun y M2 => ∃ p b xs k a, o = .c p ∧ y = .d (.int ((k : Nat) : Int)) ∧ (p, b, CD.lst xs) ∈ M2 ∧ xs[k]? = some (PyData.int a) ∧ ZW K E te S M2 (fun z M3 => ∃ j b' ys M4, z = .d (.int j) ∧ Upd1 p b' (.lst ys) (.lst (ys.set k (.int (f a j)))) M3 M4 ∧ k < ys.length ∧ P.nx S M4) P.ex) P.ex) P.ex) :
    ZS K E (tAugS to ti te (rGetL K) (ipI f) rSetL) S M P := fun n σ G H R D k =>
  h n σ G H R _ (fun v G1 H1 o M1 e1 R1 a1 h1 => h1 n σ G1 H1 R1 _ (fun u G2 H2 y M2 e2 R2 a2 ⟨p, b, xs, kk, a, ho, hy, hm, hx, h2⟩ => by
    subst ho hy
    have ev : v = .ref p := a1
    subst ev
    have eu := dp_int a2
    subst eu
    obtain ⟨_, ws, h3, h4⟩ := R2.ce p b _ hm
    obtain ⟨x, hx1, hx2⟩ := dpa_get h4 hx
    refine ⟨p, ws, kk, x, rfl, rfl, Evl.sq_of h3, hx1, ?_⟩
    refine h2 n σ G2 H2 R2 _ (fun w G3 H3 z M3 e3 R3 a3 ⟨j, b', ys, M4, hz, hu, hl, q⟩ => ?_) (XOk.mono k.xok (e1.trans e2))
    subst hz
    obtain ⟨_, ws3, h5, h6⟩ := R3.ce p b' _ hu.mem
    refine ⟨a, j, dp_int hx2, dp_int a3, p, ws3, (kk : Int), kk, rfl, rfl, h5, ?_, ?_⟩
    · unfold ixN
      rw [dpa_len h6, if_pos (Int.natCast_nonneg _), if_pos (by omega), Int.toNat_natCast]
    · exact k.nx _ G3 _ S M4 ((e1.trans e2).trans e3) (R3.putLst hu (dpa_set (.int _) kk h6)) q) (XOk.mono k.xok e1)) k.xok
theorem zc_sum {ns : List Int} (q : Q (.d (.int ns.sum)) M) : ZC K (rSum K) [.d (.list (ns.map .int))] M Q := zc_val (z := .d (.int ns.sum)) (fun G H vs e a => by
  obtain ⟨v, rfl, av⟩ := zall1 a
  obtain ⟨p, ws, rfl, h1, h2⟩ := dp_lst av
  exact ⟨_, .int _, fun Qv h => ⟨p, ns, rfl, by rw [← dza_ints h2]; exact Evl.ex_l e h1, h⟩⟩) q
end
end Z
/-! own cells seen anew, frozen within a field; fields as targets; an object with one own part -/
namespace Z
open PySem PySem.Spec PyProof.Rows L2
open Evl (Ex)
section
variable {K : Fg} {n : Sn} {S S' : Zs} {M M' M1 M2 : Ms} {σ σ' : L2.St} {G G' H H' : Hp} {p q C : Addr} {b : Bool} {c c' : CD}
theorem Rel.perm (R : Rel K n S M σ G H) (h : M.Perm M') : Rel K n S M' σ G H :=
  ⟨R.ex, R.len, R.sl, (h.map _).nodup_iff.mp R.nd, fun p b c q => R.ce p b c (h.mem_iff.mpr q), R.g0, R.h0, R.lv, R.f0, fun p c q => R.a0 p c (h.mem_iff.mpr q), fun p c q => R.o0 p c (h.mem_iff.mpr q)⟩
end
section
variable {K : Fg} {E : L2.St → XK} {e0 : XK} {te to : TE} {tA : TA} {t : TS} {S S' : Zs} {M M' M1 M2 : Ms} {Q : QZ} {X : XZ} {P : ZP} {n : Sn} {σ σ' : L2.St} {G G' H H' : Hp} {p q C : Addr} {b : Bool}
/-! ### targets that may be fields -/
def ZH (K : Fg) (g : TG) (x : ZV) (S : Zs) (M : Ms) (N : Zs → Ms → Prop) : Prop := ∀ (n : Sn) (σ : L2.St) (G H : Hp) (v : V), Rel K n S M σ G H → ZV.at K G v x → ∀ Qv : L2.St → Hp → Prop,
  (∀ σ' G' H' S' M', Ex G G' → Rel K n S' M' σ' G' H' → N S' M' → Qv σ' H') → g v σ H Qv
def gFld (K : Fg) (to : TE) (f : Str) : TG := fun v σ H Q => to σ H fun x H1 => ∃ a C dx fs, x = .ref a ∧ H1 a = some (.ins C dx fs) ∧ Cls K C ∧ NoAttr K C f ∧ fs.length < 1000 ∧ Q σ (upd H1 a (.ins C dx (putF f v fs)))
theorem zs_asgH {g : TG} (h : ZW K E te S M (fun z M1 => ZH K g z S M1 P.nx) P.ex) : ZS K E (tAsg te g) S M P := fun n σ G H R D k =>
  h n σ G H R _ (fun v G1 H1 z M1 e1 R1 a1 h2 => h2 n σ G1 H1 v R1 a1 _ fun σ' G' H' S' M' e R' q => k.nx σ' G' H' S' M' (e1.trans e) R' q) k.xok
theorem zs_asgF {f : Str} {gs : TGs} {k : Nat} (h : ZW K E te S M (fun z M1 => ZH K (gTup K k (gCons (gFld K to f) gs)) z S M1 P.nx) P.ex) : ZS K E (tAsg te (gTup K k (gCons (gFld K to f) gs))) S M P := zs_asgH h
end
end Z
/-! an object with one own part, made by a def, changed by its methods -/
namespace Z
open PySem PySem.Spec PyProof.Rows L2
open Evl (Ex)
abbrev FsF := Addr → List (Str × ZV)
/-- two entries of the cells -/
def Two (x y : Addr × Bool × CD) (M : Ms) : Prop := [x, y].Sublist M ∨ [y, x].Sublist M
theorem Two.ne {x y : Addr × Bool × CD} {M : Ms} (h : Two x y M) (nd : (M.map (·.1)).Nodup) : x.1 ≠ y.1 ∧ x ∈ M ∧ y ∈ M := by
  rcases h with h | h
  · have := nd.sublist (h.map _)
    refine ⟨fun e => ?_, h.subset (by simp), h.subset (by simp)⟩
    rw [List.map_cons, List.nodup_cons] at this
    exact this.1 (by rw [e]; simp)
  · have := nd.sublist (h.map _)
    refine ⟨fun e => ?_, h.subset (by simp), h.subset (by simp)⟩
    rw [List.map_cons, List.nodup_cons] at this
    exact this.1 (by rw [← e]; simp)
/-- __init__: the object's fields, its own part -/
def spI (K : Fg) (C : Addr) (k : Nat) (R : List PyData → FsF → CD → Prop) : Sp := fun vs H Q E => ∃ (G : Hp) (p : Addr) (us : List V) (ds : List PyData) (fs : FsF) (cd : CD), vs = .ref p :: us ∧ ds.length = k ∧ Ex G H ∧ G p = none ∧ CD.at K G H p (.obj C []) ∧ DzAll K G us ds ∧ R ds fs cd ∧
  ∀ q G' H', Ext [p] G H G' H' → (∀ a x, H a = some (.own x) → H' a = some (.own x)) → H q = none → G' q = none → q ≠ p → CD.at K G' H' p (.obj C (fs q)) → CD.at K G' H' q cd → Q .non H'
/-- a method of such an object; nothing is raised -/
def spF (K : Fg) (C : Addr) (k : Nat) (R : FsF → CD → List PyData → PyData → FsF → CD → Prop) : Sp := fun vs H Q E => ∃ (G : Hp) (p q : Addr) (fs : FsF) (cd : CD) (us : List V) (ds : List PyData) (d : PyData) (fs' : FsF) (cd' : CD), vs = .ref p :: us ∧ ds.length = k ∧ Ex G H ∧ p ≠ q ∧ G p = none ∧ G q = none ∧ CD.at K G H p (.obj C (fs q)) ∧ CD.at K G H q cd ∧ DzAll K G us ds ∧ R fs cd ds d fs' cd' ∧
  ∀ v q' G' H', Ext [p, q] G H G' H' → (∀ a x, H a = some (.own x) → H' a = some (.own x)) → (q' = q ∨ H q' = none) → q' ≠ p → G' q' = none → CD.at K G' H' p (.obj C (fs' q')) → CD.at K G' H' q' cd' → Dz K G' v d → Q v H'
section
variable {K : Fg} {E : L2.St → XK} {e0 : XK} {te : TE} {tA : TA} {t : TS} {S : Zs} {M M2 : Ms} {Q : QZ} {X : XZ} {n : Sn} {σ : L2.St} {G G' H H' : Hp} {p q q' C : Addr}
/-- C(..) -/
theorem zw_makeI {ar : Nat} {R : List PyData → FsF → CD → Prop} (h : ZA K E tA S M (fun zs M1 => ∃ ds fs cd, AllD zs ds ∧ ds.length = ar ∧ R ds fs cd ∧ ∀ p q, Q (.c p) ((p, true, .obj C (fs q)) :: (q, true, cd) :: M1)) X) : ZW K E (tMake C (spI K C ar R) [] E0 tA) S M Q X := fun n σ G H Rl Qv k kx =>
  h n σ G H Rl _ (fun vs G1 H1 zs M1 e1 R1 a1 ⟨ds, fs, cd, hd, hk, hR, qf⟩ x dx hx hdx hne => by
    have R2 := R1.lay (p := dx) (o := .own x) hdx
    have hx2 : (upd H1 dx (.own x)) x = none := by rw [upd_ne (Ne.symm hne)]; exact hx
    have R3 := R2.lay (p := x) (o := .ins C dx []) hx2
    have gdx := ex_gnone R1.ex hdx
    have hown : (upd (upd H1 dx (.own x)) x (.ins C dx [])) dx = some (.own x) := by rw [upd_ne hne, upd_same]
    have hc : CD.at K G1 (upd (upd H1 dx (.own x)) x (.ins C dx [])) x (.obj C []) := ⟨dx, [], upd_same, hown, gdx, .nil⟩
    have R4 := R3.cell (R1.fresh hx) (R1.notin hx) (ex_gnone R1.ex hx) hc
    refine ⟨G1, x, vs, ds, fs, cd, by rw [List.append_nil], hk, R4.ex, ex_gnone R1.ex hx, hc, zall_d (by rw [← hd]; exact a1), hR, fun q G' H' e own hq gq neq h1 h2 => ⟨rfl, ?_⟩⟩
    have R5 := R4.call1 e .here own h1
    have nq : q ∉ ((x, true, CD.obj C (fs q)) :: M1).map (·.1) := fun hm => by
      rcases List.mem_cons.mp hm with z | z
      · exact neq z
      · exact R4.notin hq (List.mem_cons_of_mem _ z)
    have R6 := R5.cell (R4.fresh hq) nq gq h2
    exact k (.ref x) G' H' (.c x) _ (e1.trans e.g) (R6.perm (List.Perm.swap _ _ _)) rfl (qf x q)) kx
theorem Rel.call2 {c d c' d' : CD} (R : Rel K n S ((p, true, c) :: (q, true, d) :: M) σ G H) (e : Ext [p, q] G H G' H') (own : ∀ a x, H a = some (.own x) → H' a = some (.own x)) (fr : q' = q ∨ H q' = none) (ne : q' ≠ p) (gq : G' q' = none)
    (h1 : CD.at K G' H' p c') (h2 : CD.at K G' H' q' d') : Rel K n S ((p, true, c') :: (q', true, d') :: M) σ G' H' := by
  have mp : (p, true, c) ∈ (p, true, c) :: (q, true, d) :: M := List.mem_cons_self
  have mq : (q, true, d) ∈ (p, true, c) :: (q, true, d) :: M := List.mem_cons_of_mem _ List.mem_cons_self
  have mM : ∀ x, x ∈ M → x ∈ (p, true, c) :: (q, true, d) :: M := fun x h => List.mem_cons_of_mem _ (List.mem_cons_of_mem _ h)
  have nd := R.nd
  rw [List.map_cons, List.map_cons, List.nodup_cons, List.nodup_cons] at nd
  obtain ⟨n1, n2, n3⟩ := nd
  have off : ∀ r b x, (r, b, x) ∈ M → r ∉ [p, q] := fun r b x h z => by
    have hr : r ∈ M.map (·.1) := List.mem_map.mpr ⟨_, h, rfl⟩
    rcases List.mem_cons.mp z with z | z
    · subst z; exact n1 (List.mem_cons_of_mem _ hr)
    · have z : r = q := by simpa using z
      subst z; exact n2 hr
  have base : ∀ a o, n.H a = some o → a ∉ [p, q] := fun a o h z => by
    rcases List.mem_cons.mp z with z | z
    · rw [z, R.o0 p _ mp] at h; cases h
    · have z : a = q := by simpa using z
      rw [z, R.o0 q _ mq] at h; cases h
  have nq : n.H q' = none := by
    rcases fr with z | z
    · rw [z]; exact R.o0 q _ mq
    · exact R.fresh z
  refine ⟨e.x, R.len, fun i z hz => ?_, ?_, fun r b x hm => ?_, R.g0.trans e.g, fun a o h1 h2 => e.h a o (R.h0 a o h1 h2) (base a o h1), fun a o h1 => ?_, fun a o h1 h2 => ?_, fun r x hm => ?_, fun r x hm => ?_⟩
  · obtain ⟨v, q1, q2⟩ := R.sl i z hz
    exact ⟨v, q1, ZV.mono e.g q2⟩
  · rw [List.map_cons, List.map_cons, List.nodup_cons, List.nodup_cons]
    have f1 : q' ∉ M.map (·.1) := by
      rcases fr with z | z
      · rw [z]; exact n2
      · intro hm
        exact R.notin z (List.mem_cons_of_mem _ (List.mem_cons_of_mem _ hm))
    refine ⟨fun hm => ?_, f1, n3⟩
    rcases List.mem_cons.mp hm with z | z
    · exact ne z.symm
    · exact n1 (List.mem_cons_of_mem _ z)
  · rcases List.mem_cons.mp hm with z | hm
    · cases z
      obtain ⟨g, hc⟩ := R.ce _ _ _ mp
      obtain ⟨u, hu, _⟩ := CD.there hc
      obtain ⟨u2, hu2, _, nt⟩ := CD.there h1
      exact ⟨gn_none e.x (e.f _ u hu g) hu2 nt, h1⟩
    · rcases List.mem_cons.mp hm with z | hm
      · cases z
        exact ⟨gq, h2⟩
      · obtain ⟨g, hc⟩ := R.ce r b x (mM _ hm)
        obtain ⟨u, hu, _, nt⟩ := CD.there hc
        exact ⟨gn_none e.x (e.f r u hu g) (e.h _ _ hu (off r b x hm)) nt, CD.stay hc e.g (fun o h => e.h _ _ h (off r b x hm)) fun a y h => ⟨own a y h, fun g => gn_none e.x (e.f a _ h g) (own a y h) (fun _ z => nomatch z)⟩⟩
  · obtain ⟨o', z⟩ := R.lv a o h1
    exact e.l a o' z
  · obtain ⟨o', z⟩ := R.lv a o h1
    exact gn_trans e.g (R.f0 a o h1 h2) (e.f a o' z)
  · rcases List.mem_cons.mp hm with z | hm
    · cases z
    · rcases List.mem_cons.mp hm with z | hm
      · cases z
      · exact R.a0 r x (mM _ hm)
  · rcases List.mem_cons.mp hm with z | hm
    · cases z; exact R.o0 p _ mp
    · rcases List.mem_cons.mp hm with z | hm
      · cases z; exact nq
      · exact R.o0 r x (mM _ hm)
theorem zw_methF {ar : Nat} {m : Str} {R : FsF → CD → List PyData → PyData → FsF → CD → Prop} (h : ZW K E te S M (fun z M0 => ∃ p, z = .c p ∧ (∃ b fs0, (p, b, CD.obj C fs0) ∈ M0 ∧ fs0.lookup m = none) ∧ ZA K E tA S M0 (fun zs M1 => ∃ q fs cd ds d fs' cd' M2, AllD zs ds ∧ ds.length = ar ∧ M1.Perm ((p, true, .obj C (fs q)) :: (q, true, cd) :: M2) ∧ R fs cd ds d fs' cd' ∧ ∀ q', Q (.d d) ((p, true, .obj C (fs' q')) :: (q', true, cd') :: M2)) X) X) :
    ZW K E (tMeth C m (spF K C ar R) [] E0 te tA) S M Q X := fun n σ G H Rl Qv k kx =>
  h n σ G H Rl _ (fun v G0 H0 z M0 e0' R0 a0 ⟨p, hz, ⟨b0, fs0, hm0, hl0⟩, h2⟩ => by
    subst hz
    have ev : v = .ref p := a0
    subst ev
    obtain ⟨_, dx, fv, h3, h4, h5, h6⟩ := R0.ce p b0 _ hm0
    refine ⟨p, dx, fv, rfl, h3, (lookup_paired h6 m).1 hl0, h2 n σ G0 H0 R0 _ (fun vs G1 H1 zs M1 e1 R1 a1 ⟨q, fs, cd, ds, d, fs', cd', M2, hd, hk, hp, hR, qf⟩ => ?_) (kx.mono e0')⟩
    have R2 := R1.perm hp
    have mp := R2.ce p true _ List.mem_cons_self
    have mq := R2.ce q true _ (List.mem_cons_of_mem _ List.mem_cons_self)
    have ne : p ≠ q := by
      have := R2.nd
      rw [List.map_cons, List.map_cons, List.nodup_cons] at this
      intro z
      exact this.1 (by rw [z]; exact List.mem_cons_self)
    refine ⟨G1, p, q, fs, cd, _, ds, d, fs', cd', by rw [List.append_nil], hk, R1.ex, ne, mp.1, mq.1, mp.2, mq.2, zall_d (by rw [← hd]; exact a1), hR, fun v q' G' H' e own fr ne2 gq c1 c2 a => ?_⟩
    exact k v G' H' (.d d) _ ((e0'.trans e1).trans e.g) (R2.call2 e own fr ne2 gq c1 c2) a (qf q')) kx
end
end Z
/-! own dicts with rows as keys: {}, d[row] = v, sorted(d.keys()); a loop over an empty dict -/
namespace Z
open PySem PySem.Spec PyProof.Rows L2
open Evl (Ex)
/-! ### d.keys(), sorted of it -/
def keysO (p d : Addr) : HO := .ext fun h => PySem.W.KdlKeysView h p d
abbrev rKeysT : V → List V → Hp → VK → Prop := fun x xs H Q => ∃ (a : Addr) (kvs : List (List L2.Key × V)), x = .ref a ∧ xs = [] ∧ H a = some (.dT kvs) ∧ ∀ p, H p = none → Q (.ref p) (upd H p (keysO p a))
def rSortK : List V → Hp → VK → Prop := fun vs H Q => ∃ (p a : Addr) (kvs : List (List L2.Key × V)) (rows : List (List Int)), vs = [.ref p] ∧ H p = some (keysO p a) ∧ H a = some (.dT kvs) ∧ kvs.map (·.1) = rows.map (fun r => r.map Sum.inl) ∧ (∀ r ∈ rows, r ≠ []) ∧
  ∀ (ys : List V) (q : Addr), Paired (fun y r => ∃ b, y = V.ref b ∧ H b = some (.tup (r.map V.int))) ys (sortI rows) → H q = none → Q (.ref q) (upd H q (.lst ys))
end Z
/-! dicts over data: {}, d[row] = v, sorted(d.keys()), a frozen dict; a walk over an empty one; a method that hands back a new dict -/
namespace Z
open PySem PySem.Spec PyProof.Rows L2
open Evl (Ex)
section
variable {K : Fg} {E : L2.St → XK} {e0 : XK} {te to td tk tv : TE} {tA : TA} {t : TS} {S S' : Zs} {M M' : Ms} {Q : QZ} {X : XZ} {P : ZP} {n : Sn} {σ : L2.St} {G G' H H' : Hp} {p C : Addr}
theorem zw_dnewT (q : ∀ p, Q (.c p) ((p, true, .dT []) :: M)) : ZW K E tDNewT S M Q X := fun n σ G H R Qv k kx p hp => k (.ref p) G _ (.c p) _ (Ex.refl G) (R.newD hp .nil) rfl (q p)
theorem zs_dputT (h : ZW K E tv S M (fun z M1 => ∃ d, z = .d d ∧ ZW K E td S M1 (fun o M2 => ZW K E tk S M2 (fun y M3 => ∃ p b kvs i r M4, o = .c p ∧ y = .d (rowD (i :: r)) ∧ kvs.length < sizeLine ∧ Upd1 p b (.dT kvs) (.dT (putP kvs (keyI (i :: r)) d)) M3 M4 ∧ P.nx S M4) P.ex) P.ex) P.ex) : ZS K E (sDPut td tk tv) S M P := fun n σ G H R D k =>
  h n σ G H R _ (fun v G1 H1 z M1 e1 R1 a1 ⟨d, hz, h2⟩ => h2 n σ G1 H1 R1 _ (fun o G2 H2 zo M2 e2 R2 a2 h3 => h3 n σ G2 H2 R2 _ (fun y G3 H3 zy M3 e3 R3 a3 ⟨p, b, kvs, i, r, M4, ho, hy, hl, hu, q⟩ => by
    subst hz ho hy
    have ev : o = .ref p := a2
    subst ev
    obtain ⟨c, rfl, hc⟩ := dz_key a3
    obtain ⟨_, ws, hw, rel⟩ := R3.ce p b _ hu.mem
    refine ⟨p, _, rfl, DPut.t hw (R3.ex _ _ hc) (by rw [dpr_len rel]; exact hl), ?_⟩
    exact k.nx σ G3 _ S M4 ((e1.trans e2).trans e3) (R3.putD hu (put_rel rel _ (dp_mono (e2.trans e3) a1))) q) (XOk.mono k.xok (e1.trans e2))) (XOk.mono k.xok e1)) k.xok
theorem tells {rows : List (List Int)} {ys : List V} (R : Rel K n S M σ G H) (h : Paired (fun y r => ∃ b, y = V.ref b ∧ H b = some (.tup (r.map V.int))) ys rows) : ∃ G', Ex G G' ∧ Rel K n S M σ G' H ∧ DzAll K G' ys (rows.map rowD) := by
  induction h generalizing G with
  | nil => exact ⟨G, Ex.refl G, R, .nil⟩
  | @cons y r ys rows a _ ih =>
    obtain ⟨b, rfl, hb⟩ := a
    obtain ⟨G1, e1, R1, g1⟩ := R.tell hb
    obtain ⟨G2, e2, R2, d2⟩ := ih R1
    exact ⟨G2, e1.trans e2, R2, .cons (.tup (.inl (e2 _ _ g1)) (by
      have go : ∀ l : List Int, DzAll K G2 (l.map V.int) (l.map PyData.int) := fun l => by
        induction l with
        | nil => exact .nil
        | cons a l ih => exact .cons (.int a) ih
      exact go r)) d2⟩
theorem dpr_keys : ∀ {ws : List (List Key × V)} {kvs : List (List Key × PyData)}, DPr K G ws kvs → ws.map (·.1) = kvs.map (·.1)
  | _, _, .nil => rfl
  | _, _, .cons a b => by rw [List.map_cons, List.map_cons, dpr_keys b, a.1]
/-- sorted(d.keys()) -/
theorem zw_sortKeys (h : ZW K E to S M (fun z M1 => ∃ p b kvs rows, z = .c p ∧ (p, b, CD.dT kvs) ∈ M1 ∧ kvs.map (·.1) = rows.map keyI ∧ (∀ r ∈ rows, r ≠ []) ∧ Q (.d (.list ((sortI rows).map rowD))) M1) X) : ZW K E (tCB rSortK (tCons (tBM0 K "dict" rKeysT to) tNil)) S M Q X := fun n σ G H R Qv k kx =>
  h n σ G H R _ (fun v G1 H1 z M1 e1 R1 a1 ⟨p, b, kvs, rows, hz, hm, hk, h0, q⟩ => by
    subst hz
    have ev : v = .ref p := a1
    subst ev
    obtain ⟨_, ws, hw, rel⟩ := R1.ce p b _ hm
    refine ⟨.inr (.inr (.inl ⟨rfl, .inr ⟨ws, hw⟩⟩)), p, ws, rfl, rfl, hw, fun view hv => ?_⟩
    have R2 := R1.lay (o := keysO view p) hv
    have np : p ≠ view := ne_of_none hw hv
    refine ⟨view, p, ws, rows, rfl, upd_same, by rw [upd_ne np]; exact hw, ?_, h0, fun ys l hp hl => ?_⟩
    · rw [dpr_keys rel]; exact hk
    · obtain ⟨G3, e3, R3, d3⟩ := tells R2 hp
      have g := ex_gnone R3.ex hl
      exact k (.ref l) _ _ (.d (.list ((sortI rows).map rowD))) M1 ((e1.trans e3).trans (Ex.new g)) (R3.new hl (fun _ z => nomatch z)) (.lst (Evl.sq_of upd_same) (dpAll_mono (Ex.new g) d3)) q) kx
/-! ### a walk over an empty dict -/
end
section
variable {K : Fg} {E : L2.St → XK} {e0 : XK} {te to td tk tv : TE} {tA : TA} {t : TS} {S S' : Zs} {M M' : Ms} {Q : QZ} {X : XZ} {P : ZP} {n : Sn} {σ : L2.St} {G G' H H' : Hp} {p C : Addr} {g : TG} {tt : TT}
/-! ### a method that hands back a new dict -/
def spH (K : Fg) (C : Addr) (k : Nat) (R : List (Str × ZV) → List PyData → CD → Prop) : Sp := fun vs H Q E => ∃ (G : Hp) (p : Addr) (fs : List (Str × ZV)) (us : List V) (ds : List PyData) (c : CD), vs = .ref p :: us ∧ ds.length = k ∧ Ex G H ∧ G p = none ∧ CD.at K G H p (.obj C fs) ∧ DzAll K G us ds ∧ R fs ds c ∧
  ∀ q G' H', Ext [p] G H G' H' → (∀ a x, H a = some (.own x) → H' a = some (.own x)) → CD.at K G' H' p (.obj C fs) → H q = none → G' q = none → CD.at K G' H' q c → Q (.ref q) H'
theorem Upd1.self {c : CD} {b : Bool} : ∀ {M : Ms}, (p, b, c) ∈ M → ∃ M', Upd1 p b c c M M' ∧ M' = M
  | x :: M, h => by
    rcases List.mem_cons.mp h with z | z
    · subst z; exact ⟨_, .here, rfl⟩
    · obtain ⟨M', u, e⟩ := Upd1.self z
      exact ⟨x :: M', .there u, by rw [e]⟩
theorem zw_methH0 {ar : Nat} {m : Str} {R : List (Str × ZV) → List PyData → CD → Prop} (h : ZW K E te S M (fun z M0 => ∃ p, z = .c p ∧ (∃ b fs0, (p, b, CD.obj C fs0) ∈ M0 ∧ fs0.lookup m = none) ∧ ZA K E tA S M0 (fun zs M1 => ∃ b fs ds c, AllD zs ds ∧ ds.length = ar ∧ (p, b, CD.obj C fs) ∈ M1 ∧ R fs ds c ∧ ∀ q, Q (.c q) ((q, true, c) :: M1)) X) X) :
    ZW K E (tMeth C m (spH K C ar R) [] E0 te tA) S M Q X := fun n σ G H Rl Qv k kx =>
  h n σ G H Rl _ (fun v G0 H0 z M0 e0' R0 a0 ⟨p, hz, ⟨b0, fs0, hm0, hl0⟩, h2⟩ => by
    subst hz
    have ev : v = .ref p := a0
    subst ev
    obtain ⟨_, dx, fv, h3, h4, h5, h6⟩ := R0.ce p b0 _ hm0
    refine ⟨p, dx, fv, rfl, h3, (lookup_paired h6 m).1 hl0, h2 n σ G0 H0 R0 _ (fun vs G1 H1 zs M1 e1 R1 a1 ⟨b, fs, ds, c, hd, hk, hm, hR, qf⟩ => ?_) (kx.mono e0')⟩
    obtain ⟨hp, hc⟩ := R1.ce p b _ hm
    refine ⟨G1, p, fs, _, ds, c, by rw [List.append_nil], hk, R1.ex, hp, hc, zall_d (by rw [← hd]; exact a1), hR, fun q G' H' e own hc' hq gq hcq => ?_⟩
    obtain ⟨M', u, eM⟩ := Upd1.self hm
    have R2 := R1.call1 e u own hc'
    rw [eM] at R2
    exact k (.ref q) G' H' (.c q) _ ((e0'.trans e1).trans e.g) (R2.cell (R1.fresh hq) (R1.notin hq) gq hcq) rfl (qf q)) kx
end
end Z
/-! filter and map over a list, over a range; a walk over enumerate of a list -/
namespace Z
open PySem PySem.Spec PyProof.Rows L2
open Evl (Ex)
section
variable {K : Fg} {E : L2.St → XK} {te ta : TE} {tA : TA} {g : TG} {tt : TT} {t : TS} {S : Zs} {M : Ms} {Q : QZ} {X : XZ} {P : ZP}
theorem lcL_fm {α : Type} {vs : List Nat} (items : List α) (enc f : α → PyData) (p : α → Bool) (h : ZW K E ta S M (fun z M1 => z = .d (.list (items.map enc)) ∧ items.length ≤ sizeLine ∧
      (∀ c ∈ items, ∃ is S2, (∀ j ∈ is, j ∈ vs) ∧ ZG K g (.d (enc c)) (wipeZ S vs) is S2 ∧ ∀ D acc, ZT K E tt S2 ((D, true, .lst acc) :: M1) (fun b Mb => b = p c ∧ Mb = (D, true, .lst acc) :: M1) (fun _ _ _ => False) ∧
        (p c = true → ZW K E te S2 ((D, true, .lst acc) :: M1) (fun y Mc => y = .d (f c) ∧ Mc = (D, true, .lst acc) :: M1) fun _ _ _ => False)) ∧ Q (.d (.list ((items.filter p).map f))) M1) X) : ZW K E (tLc (iList K ta) g tt te vs) S M Q X := by
  refine zw_lcL (h.imp fun z M1 ⟨hz, hl, each, q⟩ => ⟨_, hz, by rw [List.length_map]; exact hl, fun i acc M' => M' = M1 ∧ acc = ((items.take i).filter p).map f, ⟨rfl, by simp⟩, fun i x hx acc M' D hI => ?_, fun acc M' hI => ?_⟩)
  · rw [List.getElem?_map] at hx
    obtain ⟨c, hc, rfl⟩ := Option.map_eq_some_iff.mp hx
    obtain ⟨is, S2, h1, h2, h3⟩ := each c (List.mem_of_getElem? hc)
    obtain ⟨rfl, rfl⟩ := hI
    obtain ⟨h4, h5⟩ := h3 D (((items.take i).filter p).map f)
    refine ⟨is, S2, h1, h2, h4.imp fun b Mb hb => ?_⟩
    obtain ⟨rfl, rfl⟩ := hb
    have st := take_filter p hc
    refine ⟨fun e => ⟨_, rfl, rfl, ?_⟩, fun e => (h5 e).imp fun y Mc hy => ?_⟩
    · rw [st, e]; simp
    · obtain ⟨rfl, rfl⟩ := hy
      exact ⟨_, _, rfl, rfl, rfl, by rw [st, e]; simp⟩
  · obtain ⟨rfl, rfl⟩ := hI
    rw [List.length_map, List.take_length]
    exact q
theorem lcL_map {α : Type} {vs : List Nat} (items : List α) (enc f : α → PyData) (h : ZW K E ta S M (fun z M1 => z = .d (.list (items.map enc)) ∧ items.length ≤ sizeLine ∧
      (∀ c ∈ items, ∃ is S2, (∀ j ∈ is, j ∈ vs) ∧ ZG K g (.d (enc c)) (wipeZ S vs) is S2 ∧ ∀ D acc, ZW K E te S2 ((D, true, .lst acc) :: M1) (fun y Mc => y = .d (f c) ∧ Mc = (D, true, .lst acc) :: M1) fun _ _ _ => False) ∧ Q (.d (.list (items.map f))) M1) X) : ZW K E (tLc (iList K ta) g tYes te vs) S M Q X := by
  refine lcL_fm items enc f (fun _ => true) (h.imp fun z M1 ⟨hz, hl, each, q⟩ => ⟨hz, hl, fun c hc => ?_, by rw [List.filter_eq_self.mpr (fun _ _ => rfl)]; exact q⟩)
  obtain ⟨is, S2, h1, h2, h3⟩ := each c hc
  exact ⟨is, S2, h1, h2, fun D acc => ⟨zt_yes ⟨rfl, rfl⟩, fun _ => h3 D acc⟩⟩
/-- for i, x in enumerate(a list) -/
theorem zs_forE (h : ZA K E tA S M (fun zs M1 => ∃ xs, zs = [.d (.list xs)] ∧ ∃ I : Nat → Zs → Ms → Prop, I 0 S M1 ∧
      (∀ i x S' M', xs[i]? = some x → I i S' M' → ∃ is S2, ZG K g (.d (.tuple [.int (i : Nat), x])) S' is S2 ∧ ZS K E t S2 M' (LoopP P (I (i + 1)))) ∧ (∀ S' M', I xs.length S' M' → P.nx S' M')) P.ex) : ZS K E (tFor (iEnum K tA) g t) S M P := by
  intro n σ G H R D k
  refine h n σ G H R _ (fun vs G1 H1 zs M1 e1 R1 a1 ⟨xs, hz, I, i0, is, id⟩ => ?_) k.xok
  subst hz
  obtain ⟨v, rfl, av⟩ := zall1 a1
  obtain ⟨p, ws, rfl, h1, h2⟩ := dp_lst av
  have hl := dpa_len h2
  have stays : ∀ {G' H' : Hp} {S' M' σ'}, Rel K n S' M' σ' G' H' → Ex G1 G' → SqL K H' p ws := fun R' e' => Evl.ex_l (e'.trans R'.ex) h1
  refine ⟨p, ws, rfl, Evl.ex_l R1.ex h1, fun i m σ' H' => m = ws.length - i ∧ i ≤ ws.length ∧ FI K n G1 I i σ' H', ⟨_, rfl, Nat.zero_le _, G1, S, M1, R1, Ex.refl _, i0⟩, ?_⟩
  rintro i m σ' H' ⟨rfl, hi, G', S', M', R', e', hI⟩
  rcases Nat.lt_or_ge i ws.length with hlt | hge
  · have hw : ws[i]? = some ws[i] := List.getElem?_eq_getElem hlt
    obtain ⟨d, hd, ad⟩ := dpa_at_v h2 hw
    obtain ⟨js, S2, hg, hb⟩ := is i d S' M' hd hI
    refine .inr ⟨⟨ws, _, stays R' e', hw⟩, FI K n G1 I (i + 1), fun σ2 H2 q => ⟨_, by omega, rfl, hlt, q⟩, fun y H2 hy => ?_⟩
    obtain ⟨T, x, rfl, hT, rfl, hx⟩ := hy
    obtain rfl : x = ws[i] := Option.some.inj ((hx ws (stays R' e')).symm.trans hw)
    have gT := ex_gnone R'.ex hT
    have e2 := e'.trans (Ex.new (o := .tup [.int (i : Nat), ws[i]]) gT)
    refine hg n M' σ' _ _ _ (R'.new (o := .tup [.int (i : Nat), ws[i]]) hT (fun _ z => nomatch z)) (.tup (.inl upd_same) (.cons (.int _) (.cons (dp_mono e2 ad) .nil))) _ fun σ2 _ _ R3 => ?_
    exact hb n σ2 _ _ R3 _ ((k.mono (e1.trans e2)).loop fun σ3 G3 H3 S3 M3 e3 R4 i3 => ⟨G3, S3, M3, R4, e2.trans e3, i3⟩)
  · obtain rfl : i = ws.length := by omega
    exact .inl ⟨⟨ws, stays R' e', Nat.le_refl _⟩, k.nx σ' G' H' S' M' (e1.trans e') R' (id S' M' (by rw [← hl]; exact hI))⟩
end
end Z
/-! all of a list of bools -/
namespace Z
open PySem PySem.Spec PyProof.Rows L2
open Evl (Ex)
section
variable {K : Fg} {M : Ms} {Q : QZ}
theorem zc_all {bs : List Bool} (q : Q (.d (.bool (bs.all id))) M) : ZC K (rAll K) [.d (.list (bs.map .bool))] M Q := zc_val (z := .d (.bool (bs.all id))) (fun G H vs e a => by
  obtain ⟨v, rfl, av⟩ := zall1 a
  obtain ⟨p, ws, rfl, h1, h2⟩ := dp_lst av
  rw [dza_bools h2] at h1
  exact ⟨.bl _, Dz.bl _, fun Qv hq => ⟨p, bs, rfl, Evl.ex_l e h1, hq⟩⟩) q
end
end Z
/-! a def that hands back None or a new own object; an own object is not None; a tuple many times -/
namespace Z
open PySem PySem.Spec PyProof.Rows L2
open Evl (Ex)
/-- None, or an object of a class with its fields -/
abbrev MayO := Option (Addr × List (Str × ZV))
def spM (K : Fg) (k : Nat) (R : List PyData → MayO → Prop) : Sp := fun vs H Q E => ∃ (G : Hp) (ds : List PyData) (o : MayO), Ex G H ∧ ds.length = k ∧ DzAll K G vs ds ∧ R ds o ∧
  (o = none → ∀ G' H', Ext [] G H G' H' → Q .non H') ∧
  (∀ C fs, o = some (C, fs) → ∀ p G' H', Ext [] G H G' H' → H p = none → G' p = none → CD.at K G' H' p (.obj C fs) → Q (.ref p) H')
section
variable {K : Fg} {E : L2.St → XK} {e0 : XK} {te ta tb : TE} {tA : TA} {t : TS} {S : Zs} {M : Ms} {P : ZP} {Q : QZ} {X : XZ} {n : Sn} {σ : L2.St} {G G' H H' : Hp}
theorem zw_callM0 {ar : Nat} {R : List PyData → MayO → Prop} (h : ZA K E tA S M (fun zs M1 => ∃ ds o, AllD zs ds ∧ ds.length = ar ∧ R ds o ∧ (o = none → Q (.d .none) M1) ∧ ∀ C fs, o = some (C, fs) → ∀ p, Q (.c p) ((p, true, .obj C fs) :: M1)) X) : ZW K E (tCall (spM K ar R) [] E0 tA) S M Q X := fun n σ G H Rl Qv k kx =>
  h n σ G H Rl _ (fun vs G1 H1 zs M1 e1 R1 a1 ⟨ds, o, hd, hk, hR, q0, q1⟩ => by
    refine ⟨G1, ds, o, R1.ex, hk, ?_, hR, fun ho G' H' e => k .non G' H' (.d .none) M1 (e1.trans e.g) (R1.call e) .non (q0 ho), fun C fs ho p G' H' e hp hg hc => ?_⟩
    · rw [List.append_nil]
      exact zall_d (by rw [← hd]; exact a1)
    · exact k (.ref p) G' H' (.c p) _ (e1.trans e.g) ((R1.call e).cell (R1.fresh hp) (R1.notin hp) hg hc) rfl (q1 C fs ho p)) kx
theorem zs_perm {t : TS} {P : ZP} {M' : Ms} (hp : M.Perm M') (h : ZS K E t S M' P) : ZS K E t S M P := fun n σ G H R D k => h n σ G H (R.perm hp) D k
theorem zo_notNC {p : Addr} (q : Q (.d (.bool true)) M) : ZO K (fun x y H Q => y = V.non ∧ Q (.bl (!decide (x = V.non))) H) (.c p) (.d .none) M Q := fun n S σ G H R v u a b Qv k => by
  obtain rfl : v = .ref p := a
  refine ⟨dp_non b, ?_⟩
  rw [decide_eq_false (fun z => nomatch z)]
  exact k (.bl true) G H (.d (.bool true)) M (Ex.refl G) R (Dz.bl _) q
theorem zo_isNC {p : Addr} (q : Q (.d (.bool false)) M) : ZO K (fun x y H Q => y = V.non ∧ Q (.bl (decide (x = V.non))) H) (.c p) (.d .none) M Q := fun n S σ G H R v u a b Qv k => by
  obtain rfl : v = .ref p := a
  refine ⟨dp_non b, ?_⟩
  rw [decide_eq_false (fun z => nomatch z)]
  exact k (.bl false) G H (.d (.bool false)) M (Ex.refl G) R (Dz.bl _) q
theorem dpa_flat_rep {vs : List V} {ds : List PyData} (h : DzAll K G vs ds) : ∀ k : Nat, DzAll K G (List.replicate k vs).flatten (List.replicate k ds).flatten
  | 0 => .nil
  | k + 1 => by
    rw [List.replicate_succ, List.replicate_succ, List.flatten_cons, List.flatten_cons]
    exact dpa_app h (dpa_flat_rep h k)
end
end Z
/-! min over a list of nested data; [e for x in a list for y in range(n)] -/
namespace Z
open PySem PySem.Spec PyProof.Rows L2
open Evl (Ex)
end Z
/-! dicts by whole numbers or texts: k in d, d.pop(k), {k: e for ..}; own lists: pop, extend, walked, made by comprehensions, sorted; every second of four -/
namespace Z
open PySem PySem.Spec PyProof.Rows L2
open Evl (Ex)
abbrev DKr (K : Fg) (G : Hp) : List (Key × V) → List (Key × PyData) → Prop := Paired (fun a b => a.1 = b.1 ∧ Dz K G a.2 b.2)
/-- what is held by a key -/
def heldK (kvs : List (Key × PyData)) (k : Key) : Option PyData := (kvs.find? fun kv => decide (kv.1 = k)).map (·.2)
def dropD (kvs : List (Key × PyData)) (k : Key) : List (Key × PyData) := kvs.filter fun kv => decide (kv.1 ≠ k)
def putD (kvs : List (Key × PyData)) (k : Key) (d : PyData) : List (Key × PyData) := if (kvs.any fun kv => decide (kv.1 = k)) = true then kvs.map fun kv => if kv.1 = k then (kv.1, d) else kv else kvs ++ [(k, d)]
section
variable {K : Fg} {E : L2.St → XK} {te ta td tk tv to : TE} {tA tB : TA} {g g1 : TG} {tt : TT} {t : TS} {S S' : Zs} {M M' : Ms} {Q : QZ} {X : XZ} {P : ZP} {n : Sn} {σ : L2.St} {G G' H H' : Hp} {p : Addr}
theorem heldK_rel {ws : List (Key × V)} {kvs : List (Key × PyData)} (h : DKr K G ws kvs) (k : Key) : (heldK kvs k = none ∧ valV ws k = none) ∨ ∃ d v, heldK kvs k = some d ∧ valV ws k = some v ∧ Dz K G v d := by
  induction h with
  | nil => exact .inl (And.intro rfl rfl)
  | @cons a b ws kvs q _ ih =>
    unfold heldK valV at ih ⊢
    rw [List.find?_cons, List.find?_cons, ← q.1]
    by_cases e : a.1 = k
    · rw [decide_eq_true e]
      exact .inr ⟨_, _, rfl, rfl, q.2⟩
    · rw [decide_eq_false e]
      exact ih
theorem dropD_rel {ws : List (Key × V)} {kvs : List (Key × PyData)} (h : DKr K G ws kvs) (k : Key) : DKr K G (dropK ws k) (dropD kvs k) := by
  induction h with
  | nil => exact .nil
  | @cons a b ws kvs q _ ih =>
    unfold dropK dropD at ih ⊢
    rw [List.filter_cons, List.filter_cons, ← q.1]
    split
    · exact .cons q ih
    · exact ih
theorem Rel.putDK {b : Bool} {xs ys : List (Key × PyData)} {ws : List (Key × V)} (R : Rel K n S M σ G H) (u : Upd1 p b (.dK xs) (.dK ys) M M') (h : DKr K G ws ys) : Rel K n S M' σ G (upd H p (.dK ws)) := by
  obtain ⟨_, vs, h1, _⟩ := R.ce p b _ u.mem
  exact R.put u (fun x z => by rw [h1] at z; cases z) ⟨ws, upd_same, h⟩
/-- d.pop(i) -/
theorem zw_dpopK (h : ZW K E td S M (fun z M1 => ∃ p, z = .c p ∧ (∃ b kvs, (p, b, CD.dK kvs) ∈ M1) ∧ ZW K E tk S M1 (fun y M2 => ∃ (i : Int) (b : Bool) (kvs : List (Key × PyData)) (d : PyData) (M3 : Ms), y = .d (.int i) ∧ heldK kvs (.inl i) = some d ∧ Upd1 p b (.dK kvs) (.dK (dropD kvs (.inl i))) M2 M3 ∧ Q (.d d) M3) X) X) : ZW K E (tDPop1 td tk) S M Q X := fun n σ G H R Qv k kx =>
  h n σ G H R _ (fun v G1 H1 z M1 e1 R1 a1 ⟨p, hz, ⟨b0, kvs0, hm0⟩, h2⟩ => by
    subst hz
    obtain rfl : v = .ref p := a1
    obtain ⟨_, ws0, hw0, _⟩ := R1.ce p b0 _ hm0
    refine ⟨p, rfl, .inl ⟨ws0, .inl hw0⟩, h2 n σ G1 H1 R1 _ (fun y G2 H2 zy M2 e2 R2 a2 ⟨i, b, kvs, d, M3, hy, hd, hu, q⟩ => ?_) (kx.mono e1)⟩
    subst hy
    obtain rfl : y = .int i := dp_int a2
    obtain ⟨_, ws, hw, rel⟩ := R2.ce p b _ hu.mem
    rcases heldK_rel rel (.inl i) with ⟨x1, _⟩ | ⟨d', v, x1, x2, x3⟩
    · rw [hd] at x1
      cases x1
    · rw [hd] at x1
      cases x1
      exact ⟨ws, .inl i, v, hw, rfl, x2, k v G2 _ (.d d) M3 (e1.trans e2) (R2.putDK hu (dropD_rel rel _)) x3 q⟩) kx
/-! ### own lists -/
theorem dpa_snoc : ∀ {ys : List PyData} {d : PyData} {vs : List V}, DzAll K G vs (ys ++ [d]) → ∃ us v, vs = us ++ [v] ∧ DzAll K G us ys ∧ Dz K G v d
  | [], d, vs, h => by
    cases h with
    | cons a b => cases b; exact ⟨[], _, rfl, .nil, a⟩
  | y :: ys, d, vs, h => by
    cases h with
    | cons a b =>
      obtain ⟨us, v, e, h1, h2⟩ := dpa_snoc (ys := ys) b
      exact ⟨_ :: us, v, by rw [e]; rfl, .cons a h1, h2⟩
/-- xs.pop() -/
theorem zw_lpop (h : ZW K E to S M (fun z M1 => ∃ (p : Addr) (b : Bool) (ys : List PyData) (d : PyData) (M2 : Ms), z = .c p ∧ Upd1 p b (.lst (ys ++ [d])) (.lst ys) M1 M2 ∧ Q (.d d) M2) X) : ZW K E (tBM0 K "list" rPop to) S M Q X := fun n σ G H R Qv k kx =>
  h n σ G H R _ (fun v G1 H1 z M1 e1 R1 a1 ⟨p, b, ys, d, M2, hz, hu, q⟩ => by
    subst hz
    obtain rfl : v = .ref p := a1
    obtain ⟨_, ws, hw, hd⟩ := R1.ce p b _ hu.mem
    obtain ⟨us, u, rfl, h1, h2⟩ := dpa_snoc hd
    refine ⟨.inl ⟨rfl, _, Evl.sq_of hw⟩, p, us ++ [u], u, rfl, rfl, hw, by simp, ?_⟩
    rw [List.dropLast_concat]
    exact k u G1 _ (.d d) M2 e1 (R1.putLst hu h1) h2 q) kx
/-- xs.extend(ys), two own lists -/
theorem zw_lext (h : ZW K E to S M (fun z M1 => ∃ p, z = .c p ∧ (∃ b xs, (p, b, CD.lst xs) ∈ M1) ∧ ZW K E te S M1 (fun y M2 => ∃ (p2 : Addr) (b b2 : Bool) (xs zs : List PyData) (M3 : Ms), y = .c p2 ∧ (p2, b2, CD.lst zs) ∈ M2 ∧ xs.length + zs.length ≤ sizeLine ∧ Upd1 p b (.lst xs) (.lst (xs ++ zs)) M2 M3 ∧ Q (.d .none) M3) X) X) : ZW K E (tBM K "list" rExtend to (tCons te tNil)) S M Q X := fun n σ G H R Qv k kx =>
  h n σ G H R _ (fun v G0 H0 z M0 e0 R0 a0 ⟨p, hz, ⟨b0, xs0, hm0⟩, h2⟩ => by
    subst hz
    obtain rfl : v = .ref p := a0
    obtain ⟨_, ws0, h3, _⟩ := R0.ce p b0 _ hm0
    refine ⟨.inl ⟨rfl, ws0, Evl.sq_of h3⟩, h2 n σ G0 H0 R0 _ (fun u G1 H1 y M1 e1 R1 a1 ⟨p2, b, b2, xs, zs, M3, hy, hm2, hl, hu, q⟩ => ?_) (kx.mono e0)⟩
    subst hy
    obtain rfl : u = .ref p2 := a1
    obtain ⟨_, ws, h4, h5⟩ := R1.ce p b _ hu.mem
    obtain ⟨_, us, h6, h7⟩ := R1.ce p2 b2 _ hm2
    exact ⟨p, p2, ws, us, rfl, rfl, h4, h6, by rw [dpa_len h5, dpa_len h7]; exact hl, k .non G1 _ (.d .none) M3 (e0.trans e1) (R1.putLst hu (dpa_app h5 h7)) Dz.non q⟩) kx
/-! ### {k: e for .. in a tuple}, k a whole number -/
end
end Z
/-! t[1::2], t a tuple of four; [e for x in range(a, b) for y in range(c, d)] where e reads own things -/
namespace Z
open PySem PySem.Spec PyProof.Rows L2
open Evl (Ex)
section
variable {K : Fg} {E : L2.St → XK} {te : TE} {tA tB : TA} {g g1 : TG} {S : Zs} {M : Ms} {Q : QZ} {X : XZ}
/-- what is behind a statement with fewer cells -/
theorem zs_post {t : TS} {P : ZP} {N : Zs → Ms → Prop} (h : ZS K E t S M { P with nx := N }) (hi : ∀ S' M', N S' M' → ∃ M2, M2.Sublist M' ∧ P.nx S' M2) : ZS K E t S M P := fun n σ G H R D k =>
  h n σ G H R D ⟨fun σ' G' H' S' M' e R' z => by
    obtain ⟨M2, h1, h2⟩ := hi S' M' z
    exact k.nx σ' G' H' S' M2 e (R'.drop h1) h2, k.rt, k.bk, k.ct, k.ex⟩
/-- an expression of two ways to the same value -/
theorem zw_cut {z0 : ZV} {M0 : Ms} (h : ZW K E te S M (fun z M1 => z = z0 ∧ M1 = M0) X) (q : Q z0 M0) : ZW K E te S M Q X := fun n σ G H R Qv k kx => h n σ G H R Qv (fun v G1 H1 z M1 e R1 a hh => by
  rw [hh.1] at a
  rw [hh.2] at R1
  exact k v G1 H1 z0 M0 e R1 a q) kx
end
end Z
/-! x in a list of nested data; sorted of nested data that stand in order -/
namespace Z
open PySem PySem.Spec PyProof.Rows L2
open Evl (Ex)
/-- x in a list, x not in a list -/
def rInD (K : Fg) (neg : Bool) : R2 := fun x y H Q => ∃ (d : PyData) (xs : List PyData), L2.Dp K H x d ∧ L2.Dp K H y (.list xs) ∧ PyData.plainAll xs = true ∧ d.plain = true ∧ d.depth ≤ 60 ∧ Q (.bl (if neg then !xs.any (fun y => y.eqv d) else xs.any fun y => y.eqv d)) H
theorem op_ninD {X : Cx} (hu : X.A.units + 64 < cLine) : OpR X (compareOp .NotIn) (rInD X.K true) := by
  rintro pins s σ H x y v u Q I rx ry ⟨d, xs, hx, hy, p1, p2, hd, q⟩
  obtain ⟨as, h1⟩ := L2.Dp.reads I _ _ _ hx rx
  obtain ⟨bs, h2⟩ := L2.Dp.reads I _ _ _ hy ry
  exact PySem.SeqAt.notIn_list_data h2 h1 p1 p2 (by have := Nat.min_le_right (PyData.depthAll xs) d.depth; omega) ⟨.bl _, _, I, rfl, q⟩
section
variable {K : Fg} {E : L2.St → XK} {S : Zs} {M : Ms} {Q : QZ} {X : XZ}
theorem zo_inD {neg : Bool} {d : PyData} {xs : List PyData} (h1 : PyData.plainAll xs = true) (h2 : d.plain = true) (h3 : d.depth ≤ 60) (q : Q (.d (.bool (if neg then !xs.any (fun y => y.eqv d) else xs.any fun y => y.eqv d))) M) : ZO K (rInD K neg) (.d d) (.d (.list xs)) M Q :=
  zo_val (z := .d (.bool (if neg then !xs.any (fun y => y.eqv d) else xs.any fun y => y.eqv d))) (fun G H v u e a b => ⟨_, Dz.bl _, fun Qv hq => ⟨d, xs, dz_dp (dp_mono e a), dz_dp (dp_mono e b), h1, h2, h3, hq⟩⟩) q
end
end Z
/-! sorted(a set of rows of ints of any size) -/
namespace Z
open PySem PySem.Spec PyProof.Rows L2
open Evl (Ex)
/-- sorted(a set of rows) -/
def rSortSet (K : Fg) (P : Program) (w : World) : List V → Hp → VK → Prop := fun vs H Q => ∃ (a : Addr) (L : List (Addr × List Int)), vs = [V.ref a] ∧ H a = some (SetTO P w a L) ∧ (∀ p ∈ L, SqT K H p.1 (p.2.map V.int)) ∧ (∀ p ∈ L, p.2 ≠ []) ∧
  ∀ (L' : List (Addr × List Int)) (r : Addr), L'.Perm L → L'.Pairwise (fun q r => leI q.2 r.2 = true) → H r = none → Q (.ref r) (upd H r (.lst (L'.map fun q => V.ref q.1)))
end Z
/-! set(a tuple of rows), sorted of it -/
namespace Z
open PySem PySem.Spec PyProof.Rows L2
open Evl (Ex)
/-- set(t), t a tuple of few rows -/
def rSetTup (K : Fg) (P : Program) (w : World) : List V → Hp → VK → Prop := fun vs H Q => ∃ (l : Addr) (ks : List (Addr × List Int)), vs = [V.ref l] ∧ SqT K H l (ks.map fun p => V.ref p.1) ∧ (∀ p ∈ ks, SqT K H p.1 (p.2.map V.int)) ∧ ks.length < 64 ∧
  ∀ (r : Addr) (L : List (Addr × List Int)), H r = none → (∀ p ∈ L, p ∈ ks) → (L.map (·.2)).Nodup → (∀ p ∈ ks, p.2 ∈ L.map (·.2)) → Q (.ref r) (upd H r (SetTO P w r L))
section
variable {K : Fg} {E : L2.St → XK} {tA : TA} {S : Zs} {M : Ms} {Q : QZ} {X : XZ} {P : Program} {w : World}
theorem rows_at {G : Hp} : ∀ {ws : List V} {rows : List (List Int)}, Paired (fun v r => Dz K G v (rowD r)) ws rows → ∃ ks : List (Addr × List Int), ws = ks.map (fun p => V.ref p.1) ∧ rows = ks.map (·.2) ∧ ∀ p ∈ ks, Dz K G (.ref p.1) (rowD p.2)
  | _, _, .nil => ⟨[], rfl, rfl, fun _ h => nomatch h⟩
  | v :: _, r :: _, .cons a b => by
    obtain ⟨ks, h1, h2, h3⟩ := rows_at b
    obtain ⟨p, _, rfl, _, _⟩ := dp_tup a
    refine ⟨(p, r) :: ks, by rw [h1]; rfl, by rw [h2]; rfl, fun x hx => ?_⟩
    rcases List.mem_cons.mp hx with rfl | hx
    · exact a
    · exact h3 x hx
/-- sorted(set(t)), t a tuple of few rows, all different -/
theorem zw_sortSet (h : ZA K E tA S M (fun zs M1 => ∃ rows : List (List Int), zs = [.d (.tuple (rows.map rowD))] ∧ rows.length < 64 ∧ (∀ r ∈ rows, r ≠ []) ∧ rows.Nodup ∧ Q (.d (.list ((sortI rows).map rowD))) M1) X) : ZW K E (tCB (rSortSet K P w) (tCons (tCB (rSetTup K P w) tA) tNil)) S M Q X := fun n σ G H R Qv k kx =>
  h n σ G H R _ (fun vs G1 H1 zs M1 e1 R1 a1 ⟨rows, hz, hl, h0, hn, q⟩ => by
    subst hz
    obtain ⟨v, rfl, av⟩ := zall1 a1
    obtain ⟨p, ws, rfl, h1, h2⟩ := dp_tup av
    obtain ⟨ks, rfl, rfl, h3⟩ := rows_at (dza_rows h2)
    have h4 : ∀ {H' : Hp}, Ex G1 H' → ∀ p ∈ ks, SqT K H' p.1 (p.2.map V.int) := fun e p hp => by
      obtain ⟨t, ht, hs⟩ := dz_row e (h3 p hp)
      cases ht
      exact hs
    refine ⟨p, ks, rfl, Evl.ex_t R1.ex h1, h4 R1.ex, by rw [List.length_map] at hl; exact hl, fun r L hr hs hd ha => ?_⟩
    have R2 := R1.lay (o := SetTO P w r L) hr
    refine ⟨r, L, rfl, upd_same, fun p hp => h4 R2.ex p (hs p hp), fun p hp => h0 _ (List.mem_map.mpr ⟨p, hs p hp, rfl⟩), fun L' r2 pm pw hr2 => ?_⟩
    have gr := ex_gnone R2.ex hr2
    have pr : (L'.map (·.2)).Perm (ks.map (·.2)) := by
      refine (pm.map _).trans ((List.perm_ext_iff_of_nodup hd hn).mpr fun x => ⟨fun hx => ?_, fun hx => ?_⟩)
      · obtain ⟨p, hp, rfl⟩ := List.mem_map.mp hx
        exact List.mem_map.mpr ⟨p, hs p hp, rfl⟩
      · obtain ⟨p, hp, rfl⟩ := List.mem_map.mp hx
        exact ha p hp
    have es : L'.map (·.2) = sortI (ks.map (·.2)) := sortI_uniq pr (List.pairwise_map.mpr pw)
    refine k (.ref r2) _ _ (.d (.list ((sortI (ks.map (·.2))).map rowD))) M1 (e1.trans (Ex.new gr)) (R2.new hr2 (fun _ z => nomatch z)) (Dz.lst (Evl.sq_of upd_same) (dpAll_mono (Ex.new gr) ?_)) q
    rw [← es]
    have go : ∀ l : List (Addr × List Int), (∀ p ∈ l, p ∈ ks) → DzAll K G1 (l.map fun q => V.ref q.1) ((l.map (·.2)).map rowD) := by
      intro l
      induction l with
      | nil => exact fun _ => .nil
      | cons a l ih => exact fun hm => .cons (h3 a (hm a List.mem_cons_self)) (ih fun p hp => hm p (List.mem_cons_of_mem _ hp))
    exact go L' fun p hp => hs p (pm.mem_iff.mp hp)) kx
end
/-! a comprehension within a comprehension: the names of its block -/
theorem lookup_relab {env : Env} {k : NameKind} : ∀ {names : List (Str × NameKind)} {x : Str}, names.lookup x = some k → k = .cell ∨ k = .free →
    (names.map fun (n, k) => if (k == .free && env.scope.kind == .function && env.kindOf n == some .cell) then (n, NameKind.cell) else (n, k)).lookup x = some .cell ∨ (names.map fun (n, k) => if (k == .free && env.scope.kind == .function && env.kindOf n == some .cell) then (n, NameKind.cell) else (n, k)).lookup x = some .free
  | [], _, h, _ => by cases h
  | (n, j) :: r, x, h, hk => by
    rw [List.map_cons]
    by_cases e : x = n
    · subst e
      have h : some j = some k := by rw [List.lookup_cons_self] at h; exact h
      cases h
      dsimp only
      split
      · exact .inl List.lookup_cons_self
      · rw [List.lookup_cons_self]
        rcases hk with rfl | rfl
        · exact .inl rfl
        · exact .inr rfl
    · have b : (x == n) = false := beq_eq_false_iff_ne.mpr e
      have h : r.lookup x = some k := by rw [List.lookup_cons, b] at h; exact h
      have ih := lookup_relab (env := env) h hk
      have f : ∀ (v : Str × NameKind) (t : List (Str × NameKind)), v.1 = n → (v :: t).lookup x = t.lookup x := fun v t hv => by
        obtain ⟨v1, v2⟩ := v
        have hv : v1 = n := hv
        rw [List.lookup_cons, hv, b]
      rw [f _ _ (by dsimp only; split <;> rfl)]
      exact ih
theorem blkOk_in {N : List Str} {sc scope : Scope} {own : List (Str × Nat)} {env : Env} (h : blkC N sc scope own = true) : BlkOk N (relabel sc env) scope own :=
  have b := blkOk_by h
  ⟨b.kind, b.uniq, b.ix, fun y hy e => (b.free y hy e).elim (fun z => lookup_relab z (.inl rfl)) (fun z => lookup_relab z (.inr rfl)), b.own⟩
end Z
/-! own lists of own lists: made empty by a comprehension, indexed, taken as data -/
namespace Z
open PySem PySem.Spec PyProof.Rows L2
open Evl (Ex)
/-- the cells of the inner lists -/
def nestM (qs : List Addr) (xss : List (List PyData)) : Ms := (qs.zip xss).map fun p => (p.1, true, CD.lst p.2)
theorem nest_snoc {qs : List Addr} {xss : List (List PyData)} (h : qs.length = xss.length) (q : Addr) (xs : List PyData) : nestM (qs ++ [q]) (xss ++ [xs]) = nestM qs xss ++ [(q, true, .lst xs)] := by
  unfold nestM
  rw [List.zip_append h, List.map_append]
  rfl
theorem nest_upd : ∀ {qs : List Addr} {xss : List (List PyData)} {k : Nat} {q : Addr} {xs : List PyData} (ys : List PyData), qs[k]? = some q → xss[k]? = some xs → Upd1 q true (.lst xs) (.lst ys) (nestM qs xss) (nestM qs (xss.set k ys))
  | [], _, _, _, _, _, h, _ => by simp at h
  | _ :: _, [], _, _, _, _, _, h => by simp at h
  | q :: qs, xs :: xss, 0, _, _, ys, h, h2 => by
    simp at h h2
    subst h h2
    exact .here
  | q :: qs, xs :: xss, k + 1, _, _, ys, h, h2 => .there (nest_upd ys (by simpa using h) (by simpa using h2))
section
variable {K : Fg} {E : L2.St → XK} {te : TE} {tA : TA} {S : Zs} {M M' : Ms} {Q : QZ} {X : XZ} {n : Sn} {σ : L2.St} {G H : Hp} {p : Addr}
theorem zall_app {vs ws : List V} {zs ys : List ZV} (h : ZAll K G vs zs) (k : ZAll K G ws ys) : ZAll K G (vs ++ ws) (zs ++ ys) := by
  induction h with
  | nil => exact k
  | cons a _ ih => exact .cons a ih
/-- [[] for _ in range(n)] -/
theorem zw_lcNew {i : Nat} {vs : List Nat} (hv : vs = [i]) (h : ZA K E tA S M (fun zs M1 => ∃ j : Nat, zs = [.d (.int (j : Int))] ∧ j ≤ sizeLine ∧ ∀ D qs, qs.length = j → Q (.c D) ((D, true, .lz (qs.map ZV.c)) :: (nestM qs (List.replicate j []) ++ M1))) X) : ZW K E (tLc (iRng1 tA) (gName i) tYes (tLst tNil) vs) S M Q X := fun n σ G H R Qv k kx => by
  subst hv
  exact h n σ G H R _ (fun us G1 H1 zs M1 e1 R1 a1 ⟨j, hz, l1, id⟩ => by
    subst hz
    obtain ⟨v, rfl, av⟩ := zall1 a1
    obtain rfl := dp_int av
    have hs : (sizeLine : Nat) = 16777216 := sizeLine_eq
    refine ⟨j, rfl, by omega, by omega, fun D hD => ?_⟩
    let I : Nat → Hp → Prop := fun m H' => ∃ (qs : List Addr) (G' : Hp), qs.length = m ∧ Rel K n (wipeZ S [i]) ((D, true, .lz (qs.map ZV.c)) :: (nestM qs (List.replicate m []) ++ M1)) (L2.wipe σ [i]) G' H' ∧ Ex G1 G'
    have R0 : Rel K n S ((D, true, .lz []) :: M1) σ G1 (upd H1 D (.lst [])) := (R1.lay hD).cell (R1.fresh hD) (R1.notin hD) (ex_gnone R1.ex hD) ⟨[], upd_same, .nil⟩
    refine lc_range (n := (j : Int).toNat) I ⟨[], G1, rfl, R0.wipe [i], Ex.refl _⟩ (fun m H' hm ⟨qs, G', hq, R', e'⟩ => ?_) fun H' ⟨qs, G', hq, R', e'⟩ => ?_
    · have hm : m < j := by omega
      have zg := zg_name (K := K) (i := i) (S := wipeZ S [i]) (z := .d (.int (0 + (m : Int))))
      refine zg n _ _ G' H' _ R' (Dz.int _) _ fun σ2 l2 g2 R2 => ⟨wipe_eq l2 fun b hb => g2 b hb, ?_⟩
      unfold tYes
      dsimp only
      rw [if_pos rfl]
      refine ⟨Nat.zero_le _, fun q hq2 => ?_⟩
      have R3 := R2.newLst (xs := []) hq2 .nil
      obtain ⟨_, ws, w1, w2⟩ := R3.ce D true _ (List.mem_cons_of_mem _ List.mem_cons_self)
      have wl := paired_len w2
      rw [List.length_map] at wl
      refine ⟨ws, w1, by omega, qs ++ [q], G', by rw [List.length_append, List.length_singleton, hq], ?_, e'⟩
      have R4 : Rel K n _ ((q, true, .lst []) :: (D, true, .lz ((qs ++ [q]).map ZV.c)) :: (nestM qs (List.replicate m []) ++ M1)) σ2 G' (upd (upd H' q (.lst [])) D (.lst (ws ++ [V.ref q]))) :=
        R3.put (.there .here) (fun x z => by rw [w1] at z; cases z) ⟨_, upd_same, by rw [List.map_append]; exact zall_app w2 (.cons rfl .nil)⟩
      have R5 := R'.reslot R4 (Ex.refl _)
      rw [List.replicate_succ', nest_snoc (by rw [hq, List.length_replicate])]
      refine R5.perm ((List.Perm.swap _ _ _).trans (List.Perm.cons _ ?_))
      rw [List.append_assoc]
      exact List.perm_middle.symm
    · have e : (j : Int).toNat = j := by omega
      rw [e] at hq R'
      exact k (.ref D) G' H' (.c D) _ (e1.trans e') (R1.reslot R' e') rfl (id D qs hq)) kx
/-- rows[i], an own list among the items -/
theorem zo_ixZ {b : Bool} {zs : List ZV} {i : Int} {q : Addr} (hm : (p, b, CD.lz zs) ∈ M) (h : atI zs i = some (.c q)) (k0 : Q (.c q) M) : ZO K (rIx K) (.c p) (.d (.int i)) M Q := fun n S σ G H R v u a b' Qv k => by
  have eu := dp_int b'
  have ev : v = .ref p := a
  subst eu ev
  obtain ⟨_, ws, h1, h2⟩ := R.ce p b _ hm
  have at_ : ∀ {ws : List V} {zs : List ZV}, ZAll K G ws zs → ∀ {i : Int}, atI zs i = some (.c q) → atI ws i = some (.ref q) := fun {ws zs} hh {i} hi => by
    have hl := paired_len hh
    unfold atI at hi ⊢
    rw [hl]
    cases hj : ixN zs.length i with
    | none => rw [hj] at hi; cases hi
    | some j =>
      rw [hj] at hi
      replace hi : zs[j]? = some (.c q) := hi
      show ws[j]? = some (.ref q)
      clear hj hl
      revert hi
      induction hh generalizing j with
      | nil => intro hi; simp at hi
      | cons a _ ih =>
        intro hi
        cases j with
        | zero =>
          simp at hi ⊢
          subst hi
          exact a
        | succ j =>
          simp at hi ⊢
          exact ih j hi
  exact .inl ⟨p, ws, i, _, rfl, rfl, Evl.sq_of h1, at_ h2 h, k (.ref q) G H (.c q) M (Ex.refl G) R rfl k0⟩
/-- the inner lists, then the outer one, are data from here on -/
theorem Rel.frzN {qs : List Addr} : ∀ {xss : List (List PyData)} {y : Addr × Bool × CD} {M : Ms} {G : Hp}, Rel K n S (y :: (nestM qs xss ++ M)) σ G H → qs.length = xss.length → ∃ G', Ex G G' ∧ Rel K n S (y :: M) σ G' H ∧ DzAll K G' (qs.map V.ref) (xss.map .list) := by
  induction qs with
  | nil =>
    intro xss y M G R hl
    cases xss with
    | nil => exact ⟨G, Ex.refl G, R, .nil⟩
    | cons x xss => exact absurd hl (by simp)
  | cons q qs ih =>
    intro xss y M G R hl
    cases xss with
    | nil => exact absurd hl (by simp)
    | cons xs xss =>
      obtain ⟨G1, e1, R1, d1⟩ := R.frz (p := q) (xs := xs) (.there .here)
      obtain ⟨G2, e2, R2, d2⟩ := ih (xss := xss) (y := y) (M := M) R1 (by simpa using hl)
      exact ⟨G2, e1.trans e2, R2, .cons (dp_mono e2 d1) d2⟩
theorem refs_of_c : ∀ {qs : List Addr} {ws : List V}, ZAll K G ws (qs.map ZV.c) → ws = qs.map V.ref
  | [], _, .nil => rfl
  | q :: qs, _, .cons a b => by
    have a : _ = V.ref q := a
    rw [a, refs_of_c b]
    rfl
end
end Z
/-! for i, sign in enumerate(text) -/
namespace Z
open PySem PySem.Spec PyProof.Rows L2
open Evl (Ex)
/-- each turn a new pair: the place and the sign -/
def ItE (z : Str) : It where
  go i _ := i < z.cps.size
  yld i H v H' := ∃ T c, (H T = none ∧ v = .ref T ∧ H' = upd H T (.tup [.int (i : Nat), .str ⟨#[c]⟩])) ∧ z.cps[i]? = some c
  stop i _ := i = z.cps.size
/-- enumerate(text) as what a loop walks -/
def iEnumS (ta : TA) : TI := fun σ H R => ta σ H fun vs H1 => ∃ z, vs = [.str z] ∧ R (ItE z) H1
section
variable {K : Fg} {E : L2.St → XK} {tA : TA} {g : TG} {t : TS} {S : Zs} {M : Ms} {P : ZP}
theorem zs_forE2 (h : ZA K E tA S M (fun zs M1 => ∃ z : Str, zs = [.d (.str z)] ∧ ∃ I : Nat → Zs → Ms → Prop, I 0 S M1 ∧
      (∀ i c S' M', z.cps[i]? = some c → I i S' M' → ∃ is S2, ZG K g (.d (.tuple [.int (i : Nat), .str ⟨#[c]⟩])) S' is S2 ∧ ZS K E t S2 M' (LoopP P (I (i + 1)))) ∧ (∀ S' M', I z.cps.size S' M' → P.nx S' M')) P.ex) : ZS K E (tFor (iEnumS tA) g t) S M P := by
  intro n σ G H R D k
  refine h n σ G H R _ (fun vs G1 H1 zs M1 e1 R1 a1 ⟨z, hz, I, i0, is, id⟩ => ?_) k.xok
  subst hz
  obtain ⟨v, rfl, av⟩ := zall1 a1
  obtain rfl := dp_str av
  refine ⟨z, rfl, fun i m σ' H' => m = z.cps.size - i ∧ i ≤ z.cps.size ∧ FI K n G1 I i σ' H', ⟨_, rfl, Nat.zero_le _, G1, S, M1, R1, Ex.refl _, i0⟩, ?_⟩
  rintro i m σ' H' ⟨rfl, hi, G', S', M', R', e', hI⟩
  by_cases hlt : i < z.cps.size
  · refine .inr ⟨hlt, FI K n G1 I (i + 1), fun σ2 H2 q => ⟨_, by omega, rfl, hlt, q⟩, fun y H2 hy => ?_⟩
    obtain ⟨T, c, ⟨hT, rfl, rfl⟩, hc⟩ := hy
    have gT := ex_gnone R'.ex hT
    have R2 := R'.new (o := .tup [.int (i : Nat), .str ⟨#[c]⟩]) hT (fun _ z => nomatch z)
    obtain ⟨js, S2, hg, hb⟩ := is i c S' M' hc hI
    have pair : Dz K (upd G' T (.tup [.int (i : Nat), .str ⟨#[c]⟩])) (.ref T) (.tuple [.int (i : Nat), .str ⟨#[c]⟩]) := .tup (.inl upd_same) (.cons (.int _) (.cons (.str _) .nil))
    refine hg n M' σ' _ _ _ R2 pair _ fun σ2 _ _ R3 => hb n σ2 _ _ R3 _ ((k.mono ((e1.trans e').trans (Ex.new gT))).loop fun σ3 G3 H3 S3 M3 e3 R4 i3 => ⟨G3, S3, M3, R4, (e'.trans (Ex.new gT)).trans e3, i3⟩)
  · have e : i = z.cps.size := by omega
    subst e
    exact .inl ⟨rfl, k.nx σ' G' H' S' M' (e1.trans e') R' (id S' M' hI)⟩
end
end Z
/-! a sign in a text, its place, the sign at a place; dict(pairs), d.get, list(d) of dicts by whole numbers -/
namespace Z
open PySem PySem.Spec PyProof.Rows L2
open Evl (Ex)
section
variable {K : Fg} {E : L2.St → XK} {te td tk tv : TE} {tA : TA} {S : Zs} {M : Ms} {Q : QZ} {X : XZ} {n : Sn} {σ : L2.St} {G H : Hp} {p : Addr}
/-! ### texts as lists of codes -/
abbrev rInSg : R2 := fun x y H Q => ∃ (c : Nat) (z : Str), x = .str ⟨#[c]⟩ ∧ y = .str z ∧ Q (.bl (decide (c ∈ z.cps.toList))) H
/-- sign in text -/
theorem zo_inSg {c : Nat} {l : List Nat} (q : Q (.d (.bool (decide (c ∈ l)))) M) : ZO K rInSg (.d (.str (SX.S [c]))) (.d (.str (SX.S l))) M Q :=
  zo_val (z := .d (.bool (decide (c ∈ l)))) (fun G H v u _ a b => ⟨_, .bl _, fun Qv h => ⟨c, SX.S l, dp_str a, dp_str b, h⟩⟩) q
/-! ### dicts by whole numbers -/
end
end Z
/-! a method of an object with one own part, called from another method of it -/
namespace Z
open PySem PySem.Spec PyProof.Rows L2
open Evl (Ex)
/-- two names from a tuple that holds own things -/
theorem zs_asgT2 {kk : Nat} (hk2 : 2 = kk) {K : Fg} {E : L2.St → XK} {tA : TA} {S : Zs} {M : Ms} {i j : Nat} {P : ZP} (h : ZA K E tA S M (fun zs M1 => ∃ z w, zs = [z, w] ∧ P.nx ((S.set i (some z)).set j (some w)) M1) P.ex) :
    ZS K E (tAsg (tTup tA) (gTup K kk (gCons (gName i) (gCons (gName j) gNil)))) S M P := fun n σ G H R D k =>
  h n σ G H R _ (fun vs G1 H1 zs M1 e1 R1 a1 ⟨z, w, hz, q⟩ => by
    subst hz
    cases a1 with
    | cons a b => cases b with | cons b c => cases c with | nil =>
      refine ⟨by rw [sizeLine_eq]; exact Nat.le_of_ble_eq_true rfl, fun p hp => ?_⟩
      have e2 : ∀ o, Ex G1 (upd G1 p o) := fun o => Ex.new (ex_gnone R1.ex hp)
      refine ⟨p, _, rfl, .inl (.inl upd_same), hk2, _, _, rfl, _, _, rfl, rfl, ?_⟩
      exact k.nx _ _ _ _ M1 (e1.trans (e2 _)) (((R1.new hp (by intro _ z; cases z)).set (ZV.mono (e2 _) a)).set (ZV.mono (e2 _) b)) q) k.xok
end Z
/-! an object with several own parts, which stay where they are: made by a def, changed by its methods -/
namespace Z
open PySem PySem.Spec PyProof.Rows L2
open Evl (Ex)
abbrev FsP := List Addr → List (Str × ZV)
def pM (b : Bool) (qs : List Addr) (cds : List CD) : Ms := (qs.zip cds).map fun x => (x.1, b, x.2)
theorem pM_mem {b b' : Bool} {qs : List Addr} {cds : List CD} {q : Addr} {c : CD} : (q, b', c) ∈ pM b qs cds ↔ b' = b ∧ (q, c) ∈ qs.zip cds := by
  unfold pM
  rw [List.mem_map]
  constructor
  · rintro ⟨⟨q2, c2⟩, h, e⟩
    cases e
    exact ⟨rfl, h⟩
  · rintro ⟨rfl, h⟩
    exact ⟨_, h, rfl⟩
theorem pM_fst {b : Bool} {qs : List Addr} {cds : List CD} (h : qs.length = cds.length) : (pM b qs cds).map (·.1) = qs := by
  unfold pM
  rw [List.map_map]
  exact List.map_fst_zip (Nat.le_of_eq h)
/-- __init__ -/
def spJ (K : Fg) (C : Addr) (k : Nat) (R : List PyData → FsP → List CD → Prop) : Sp := fun vs H Q E => ∃ (G : Hp) (p : Addr) (us : List V) (ds : List PyData) (fs : FsP) (cds : List CD), vs = .ref p :: us ∧ ds.length = k ∧ Ex G H ∧ G p = none ∧ CD.at K G H p (.obj C []) ∧ DzAll K G us ds ∧ R ds fs cds ∧
  ∀ qs G' H', Ext [p] G H G' H' → (∀ a x, H a = some (.own x) → H' a = some (.own x)) → qs.length = cds.length → (p :: qs).Nodup → (∀ q ∈ qs, H q = none ∧ G' q = none) → CD.at K G' H' p (.obj C (fs qs)) → (∀ q c, (q, c) ∈ qs.zip cds → CD.at K G' H' q c) → Q .non H'
/-- a method; nothing is raised -/
def spG (K : Fg) (C : Addr) (k : Nat) (R : FsP → List CD → List PyData → PyData → FsP → List CD → Prop) : Sp := fun vs H Q E => ∃ (G : Hp) (p : Addr) (qs : List Addr) (fs : FsP) (cds : List CD) (us : List V) (ds : List PyData) (d : PyData) (fs' : FsP) (cds' : List CD),
  vs = .ref p :: us ∧ ds.length = k ∧ Ex G H ∧ (p :: qs).Nodup ∧ qs.length = cds.length ∧ cds'.length = cds.length ∧ G p = none ∧ (∀ q ∈ qs, G q = none) ∧ CD.at K G H p (.obj C (fs qs)) ∧ (∀ q c, (q, c) ∈ qs.zip cds → CD.at K G H q c) ∧ DzAll K G us ds ∧ R fs cds ds d fs' cds' ∧
  ∀ v G' H', Ext (p :: qs) G H G' H' → (∀ a x, H a = some (.own x) → H' a = some (.own x)) → CD.at K G' H' p (.obj C (fs' qs)) → (∀ q c, (q, c) ∈ qs.zip cds' → CD.at K G' H' q c) → Dz K G' v d → Q v H'
section
variable {K : Fg} {E : L2.St → XK} {e0 : XK} {te : TE} {tA : TA} {t : TS} {S : Zs} {M M2 : Ms} {Q : QZ} {X : XZ} {n : Sn} {σ : L2.St} {G G' H H' : Hp} {p C : Addr}
theorem parts_nd {b b' : Bool} {c : CD} {qs : List Addr} {cds : List CD} (R : Rel K n S ((p, b, c) :: (pM b' qs cds ++ M)) σ G H) (hl : qs.length = cds.length) : (p :: qs).Nodup ∧ ∀ a ∈ p :: qs, a ∉ M.map (·.1) := by
  have nd := R.nd
  rw [List.map_cons, List.map_append, pM_fst hl, ← List.cons_append] at nd
  have h := List.nodup_append.mp nd
  exact ⟨h.1, fun a ha hm => h.2.2 a ha a hm rfl⟩
theorem Rel.callN {b b' : Bool} {c c' : CD} {qs : List Addr} {cds cds' : List CD} (R : Rel K n S ((p, b, c) :: (pM b' qs cds ++ M)) σ G H) (hl : qs.length = cds.length) (hl' : cds'.length = cds.length) (e : Ext (p :: qs) G H G' H') (own : ∀ a x, H a = some (.own x) → H' a = some (.own x))
    (h1 : CD.at K G' H' p c') (h2 : ∀ q d, (q, d) ∈ qs.zip cds' → CD.at K G' H' q d) : Rel K n S ((p, b, c') :: (pM b' qs cds' ++ M)) σ G' H' := by
  have pn := parts_nd R hl
  have hl2 : qs.length = cds'.length := by omega
  have part : ∀ q ∈ qs, ∃ d, (q, b', d) ∈ (p, b, c) :: (pM b' qs cds ++ M) := fun q hq => by
    obtain ⟨i, hi⟩ := List.mem_iff_getElem?.mp hq
    have hil := (List.getElem?_eq_some_iff.mp hi).1
    have hci := List.getElem?_eq_getElem (l := cds) (i := i) (by omega)
    exact ⟨_, List.mem_cons_of_mem _ (List.mem_append_left _ (pM_mem.mpr ⟨rfl, List.mem_of_getElem? (i := i) (by rw [List.getElem?_zip_eq_some]; exact ⟨hi, hci⟩)⟩))⟩
  have one : ∀ (r : Addr) (f : Bool) (x : CD), (r, f, x) ∈ (p, b, c) :: (pM b' qs cds ++ M) → ∀ o, n.H r = some o → r ∈ n.A := fun r f x hm o ho => by
    cases f with
    | false => exact R.a0 r x hm
    | true => rw [R.o0 r x hm] at ho; cases ho
  have base : ∀ a o, n.H a = some o → a ∉ n.A → a ∉ p :: qs := fun a o h hA z => by
    rcases List.mem_cons.mp z with z | z
    · subst z; exact hA (one _ _ _ List.mem_cons_self o h)
    · obtain ⟨d, hd⟩ := part a z
      exact hA (one _ _ _ hd o h)
  have keep : ∀ (r : Addr) (f : Bool) (x : CD), (r, f, x) ∈ (p, b, c) :: (pM b' qs cds ++ M) → ∀ y, CD.at K G' H' r y → G' r = none := fun r f x hm y hy => by
    obtain ⟨g, hc⟩ := R.ce _ _ _ hm
    obtain ⟨u, hu, _⟩ := CD.there hc
    obtain ⟨u2, hu2, _, nt⟩ := CD.there hy
    exact gn_none e.x (e.f _ u hu g) hu2 nt
  have rest : ∀ x, x ∈ M → x ∈ (p, b, c) :: (pM b' qs cds ++ M) := fun x h => List.mem_cons_of_mem _ (List.mem_append_right _ h)
  refine ⟨e.x, R.len, fun i z hz => ?_, ?_, fun r f x hm => ?_, R.g0.trans e.g, fun a o q1 q2 => e.h a o (R.h0 a o q1 q2) (base a o q1 q2), fun a o q1 => ?_, fun a o q1 q2 => ?_, fun r x hm => ?_, fun r x hm => ?_⟩
  · obtain ⟨v, q1, q2⟩ := R.sl i z hz
    exact ⟨v, q1, ZV.mono e.g q2⟩
  · have nd := R.nd
    rw [List.map_cons, List.map_append, pM_fst hl] at nd
    rw [List.map_cons, List.map_append, pM_fst hl2]
    exact nd
  · rcases List.mem_cons.mp hm with z | hm
    · cases z
      exact ⟨keep _ _ _ List.mem_cons_self _ h1, h1⟩
    · rcases List.mem_append.mp hm with hm | hm
      · obtain ⟨rfl, z⟩ := pM_mem.mp hm
        obtain ⟨d, hd⟩ := part r (List.of_mem_zip z).1
        exact ⟨keep _ _ _ hd _ (h2 r x z), h2 r x z⟩
      · obtain ⟨g, hc⟩ := R.ce r f x (rest _ hm)
        obtain ⟨u, hu, _, nt⟩ := CD.there hc
        have off : r ∉ p :: qs := fun z => pn.2 r z (List.mem_map.mpr ⟨_, hm, rfl⟩)
        exact ⟨gn_none e.x (e.f r u hu g) (e.h _ _ hu off) nt, CD.stay hc e.g (fun o h => e.h _ _ h off) fun a y h => ⟨own a y h, fun g => gn_none e.x (e.f a _ h g) (own a y h) (fun _ z => nomatch z)⟩⟩
  · obtain ⟨o', z⟩ := R.lv a o q1
    exact e.l a o' z
  · obtain ⟨o', z⟩ := R.lv a o q1
    exact gn_trans e.g (R.f0 a o q1 q2) (e.f a o' z)
  · rcases List.mem_cons.mp hm with z | hm
    · cases z; exact R.a0 _ _ List.mem_cons_self
    · rcases List.mem_append.mp hm with hm | hm
      · obtain ⟨rfl, z⟩ := pM_mem.mp hm
        obtain ⟨d, hd⟩ := part r (List.of_mem_zip z).1
        exact R.a0 r d hd
      · exact R.a0 r x (rest _ hm)
  · rcases List.mem_cons.mp hm with z | hm
    · cases z; exact R.o0 _ _ List.mem_cons_self
    · rcases List.mem_append.mp hm with hm | hm
      · obtain ⟨rfl, z⟩ := pM_mem.mp hm
        obtain ⟨d, hd⟩ := part r (List.of_mem_zip z).1
        exact R.o0 r d hd
      · exact R.o0 r x (rest _ hm)
/-- o.m(..) -/
theorem zw_methP {ar : Nat} {m : Str} {R : FsP → List CD → List PyData → PyData → FsP → List CD → Prop} (h : ZW K E te S M (fun z M0 => ∃ p, z = .c p ∧ (∃ b fs0, (p, b, CD.obj C fs0) ∈ M0 ∧ fs0.lookup m = none) ∧ ZA K E tA S M0 (fun zs M1 => ∃ qs b b' fs cds ds d fs' cds' M2, AllD zs ds ∧ ds.length = ar ∧ qs.length = cds.length ∧ cds'.length = cds.length ∧ M1.Perm ((p, b, .obj C (fs qs)) :: (pM b' qs cds ++ M2)) ∧ R fs cds ds d fs' cds' ∧ Q (.d d) ((p, b, .obj C (fs' qs)) :: (pM b' qs cds' ++ M2))) X) X) :
    ZW K E (tMeth C m (spG K C ar R) [] E0 te tA) S M Q X := fun n σ G H Rl Qv k kx =>
  h n σ G H Rl _ (fun v G0 H0 z M0 e0' R0 a0 ⟨p, hz, ⟨b0, fs0, hm0, hl0⟩, h2⟩ => by
    subst hz
    obtain rfl : v = .ref p := a0
    obtain ⟨_, dx, fv, h3, h4, h5, h6⟩ := R0.ce p b0 _ hm0
    refine ⟨p, dx, fv, rfl, h3, (lookup_paired h6 m).1 hl0, h2 n σ G0 H0 R0 _ (fun vs G1 H1 zs M1 e1 R1 a1 ⟨qs, b, b', fs, cds, ds, d, fs', cds', M2, hd, hk, hl, hl', hp, hR, qf⟩ => ?_) (kx.mono e0')⟩
    have R2 := R1.perm hp
    have pn := parts_nd R2 hl
    have mp := R2.ce p b _ List.mem_cons_self
    have mq : ∀ q c, (q, c) ∈ qs.zip cds → G1 q = none ∧ CD.at K G1 H1 q c := fun q c hz => R2.ce q b' c (List.mem_cons_of_mem _ (List.mem_append_left _ (pM_mem.mpr ⟨rfl, hz⟩)))
    have gq : ∀ q ∈ qs, G1 q = none := fun q hq => by
      obtain ⟨i, hi⟩ := List.mem_iff_getElem?.mp hq
      have hil := (List.getElem?_eq_some_iff.mp hi).1
      have hci := List.getElem?_eq_getElem (l := cds) (i := i) (by omega)
      exact (mq q _ (List.mem_of_getElem? (i := i) (by rw [List.getElem?_zip_eq_some]; exact ⟨hi, hci⟩))).1
    refine ⟨G1, p, qs, fs, cds, _, ds, d, fs', cds', by rw [List.append_nil], hk, R1.ex, pn.1, hl, hl', mp.1, gq, mp.2, (fun q c hz => (mq q c hz).2), zall_d (by rw [← hd]; exact a1), hR, fun v G' H' e own c1 c2 a => ?_⟩
    exact k v G' H' (.d d) _ ((e0'.trans e1).trans e.g) (R2.callN hl hl' e own c1 c2) a qf) kx
/-- C(..) -/
theorem zw_makeJ {ar : Nat} {R : List PyData → FsP → List CD → Prop} (h : ZA K E tA S M (fun zs M1 => ∃ ds fs cds, AllD zs ds ∧ ds.length = ar ∧ R ds fs cds ∧ ∀ p qs, qs.length = cds.length → Q (.c p) ((p, true, .obj C (fs qs)) :: (pM true qs cds ++ M1))) X) : ZW K E (tMake C (spJ K C ar R) [] E0 tA) S M Q X := fun n σ G H Rl Qv k kx =>
  h n σ G H Rl _ (fun vs G1 H1 zs M1 e1 R1 a1 ⟨ds, fs, cds, hd, hk, hR, qf⟩ x dx hx hdx hne => by
    have R2 := R1.lay (p := dx) (o := .own x) hdx
    have hx2 : (upd H1 dx (.own x)) x = none := by rw [upd_ne (Ne.symm hne)]; exact hx
    have R3 := R2.lay (p := x) (o := .ins C dx []) hx2
    have gdx := ex_gnone R1.ex hdx
    have hown : (upd (upd H1 dx (.own x)) x (.ins C dx [])) dx = some (.own x) := by rw [upd_ne hne, upd_same]
    have hc : CD.at K G1 (upd (upd H1 dx (.own x)) x (.ins C dx [])) x (.obj C []) := ⟨dx, [], upd_same, hown, gdx, .nil⟩
    have R4 := R3.cell (R1.fresh hx) (R1.notin hx) (ex_gnone R1.ex hx) hc
    refine ⟨G1, x, vs, ds, fs, cds, by rw [List.append_nil], hk, R4.ex, ex_gnone R1.ex hx, hc, zall_d (by rw [← hd]; exact a1), hR, fun qs G' H' e own hl nd fresh h1 h2 => ⟨rfl, ?_⟩⟩
    have R5 := R4.call1 e .here own h1
    have R6 : ∀ (rs : List Addr) (cs : List CD), rs.length = cs.length → (x :: rs).Nodup → (∀ q ∈ rs, H1 q = none ∧ q ≠ dx ∧ G' q = none) → (∀ q c, (q, c) ∈ rs.zip cs → CD.at K G' H' q c) → Rel K n S (pM true rs cs ++ ((x, true, .obj C (fs qs)) :: M1)) σ G' H' := by
      intro rs
      induction rs with
      | nil => exact fun cs _ _ _ _ => R5
      | cons r rs ih =>
        intro cs hl nd fr at_
        cases cs with
        | nil => cases hl
        | cons c cs =>
          have nd1 := List.nodup_cons.mp nd
          have nd2 := List.nodup_cons.mp nd1.2
          have R7 := ih cs (by simpa using hl) (List.nodup_cons.mpr ⟨fun z => nd1.1 (List.mem_cons_of_mem _ z), nd2.2⟩) (fun q hq => fr q (List.mem_cons_of_mem _ hq)) fun q c hm => at_ q c (List.mem_cons_of_mem _ hm)
          have hr := fr r List.mem_cons_self
          refine R7.cell (R1.fresh hr.1) (fun hm => ?_) hr.2.2 (at_ r c List.mem_cons_self)
          rw [List.map_append, pM_fst (by simpa using hl), List.map_cons] at hm
          rcases List.mem_append.mp hm with hm | hm
          · exact nd2.1 hm
          · rcases List.mem_cons.mp hm with z | hm
            · exact nd1.1 (by have z2 : r = x := z; rw [z2]; exact List.mem_cons_self)
            · exact R1.notin hr.1 hm
    have fr2 : ∀ q ∈ qs, H1 q = none ∧ q ≠ dx ∧ G' q = none := fun q hq => by
      have h0 := fresh q hq
      have nx : q ≠ x := fun z => (List.nodup_cons.mp nd).1 (by rw [← z]; exact hq)
      have nd2 : q ≠ dx := fun z => by
        have := h0.1
        rw [z, hown] at this
        cases this
      have h3 := h0.1
      rw [upd_ne nx, upd_ne nd2] at h3
      exact ⟨h3, nd2, h0.2⟩
    exact k (.ref x) G' H' (.c x) _ (e1.trans e.g) ((R6 qs cds hl nd fr2 h2).perm (List.perm_middle)) rfl (qf x qs hl)) kx
end
end Z
/-! a dict of the module's own, with texts as keys: D[key] -/
namespace Z
open PySem PySem.Spec PyProof.Rows L2
open Evl (Ex)
def tKd (K : Fg) (tab : List (Str × PyData)) (ty : TE) : TE := fun σ H Q => ty σ H fun y H1 => ∃ z d, y = .str z ∧ (z, d) ∈ tab ∧ ∀ v, (∀ G, Dz K G v d) → Q v H1
section
variable {K : Fg} {E : L2.St → XK} {e0 : XK} {te : TE} {S : Zs} {M M2 : Ms} {Q : QZ} {X : XZ} {tab : List (Str × PyData)}
theorem zw_kd (h : ZW K E te S M (fun y M1 => ∃ z d, y = .d (.str z) ∧ (z, d) ∈ tab ∧ Q (.d d) M1) X) : ZW K E (tKd K tab te) S M Q X := fun n σ G H R Qv k kx =>
  h n σ G H R _ (fun v G1 H1 z M1 e1 R1 a1 ⟨s, d, hz, hm, q⟩ => by
    subst hz
    obtain rfl : v = .str s := dp_str a1
    exact ⟨s, d, rfl, hm, fun v2 dz => k v2 G1 H1 (.d d) M1 e1 R1 (dz G1) q⟩) kx
end
end Z
/-! frozen things as values: objects and dicts that nobody writes any more, handed on in calls -/
namespace Z
open PySem PySem.Spec PyProof.Rows L2
open Evl (Ex)
def ZV.fro : ZV → Bool
  | .c _ => false
  | .e _ _ _ _ => false
  | _ => true
theorem fz_of {K : Fg} {G : Hp} {v : V} {z : ZV} (h : ZV.at K G v z) (f : z.fro = true) : Fz K G v z := by
  cases z with
  | d x => exact .d h
  | c p => cases f
  | f kvs =>
    obtain ⟨p, ws, rfl, h1, h2⟩ := h
    exact .f h1 h2
  | e a b c d => cases f
  | o C fs => exact h
  | l zs => exact h
  | t zs => exact h
theorem at_of {K : Fg} {G : Hp} {v : V} {z : ZV} (h : Fz K G v z) : ZV.at K G v z := by
  cases h with
  | d h => exact h
  | f a h => exact ⟨_, _, rfl, a, h⟩
  | o a h => exact .o a h
  | l a h => exact .l a h
  | t a h => exact .t a h
theorem fzAll_of {K : Fg} {G : Hp} : ∀ {zs : List ZV} {vs : List V}, ZAll K G vs zs → zs.all ZV.fro = true → FzAll K G vs zs
  | _, _, .nil, _ => .nil
  | z :: zs, _, .cons a b, f => by
    rw [List.all_cons, Bool.and_eq_true] at f
    exact .cons (fz_of a f.1) (fzAll_of b f.2)
theorem lookup_fz {K : Fg} {G : Hp} {m : Str} : ∀ {fs : List (Str × ZV)} {fv : List (Str × V)}, FzF K G fv fs → (fs.lookup m = none → fv.lookup m = none) ∧ (∀ z, fs.lookup m = some z → ∃ v, fv.lookup m = some v ∧ Fz K G v z)
  | _, _, .nil => ⟨fun _ => rfl, fun z e => by cases e⟩
  | (m2, z2) :: fs, (_, v2) :: fv, .cons a b => by
    have ih := lookup_fz (m := m) b
    rw [List.lookup_cons, List.lookup_cons]
    split
    · refine ⟨fun e => (nomatch e), fun z e => ?_⟩
      have e := Option.some.inj e
      subst e
      exact ⟨_, rfl, a⟩
    · exact ih
inductive ZOut where
  | ok (z : ZV)
  | ex (x : XD)
/-- a def over frozen things: R its graph -/
def spZ (K : Fg) (k : Nat) (R : List ZV → ZOut → Prop) : Sp := fun vs H Q E => ∃ (G : Hp) (zs : List ZV) (o : ZOut), Ex G H ∧ zs.length = k ∧ FzAll K G vs zs ∧ R zs o ∧
  (∀ z, o = .ok z → ∀ v G' H', Ext [] G H G' H' → Fz K G' v z → Q v H') ∧ (∀ x, o = .ex x → ∀ cls dd G' H', Ext [] G H G' H' → XAt K G' cls dd x → E cls dd H')
section
variable {K : Fg} {n : Sn} {S : Zs} {M M' : Ms} {σ : L2.St} {G H : Hp} {e0 : XK} {t : TS} {E : L2.St → XK} {Q : QZ} {X : XZ} {tA : TA} {te : TE}
theorem zw_callZ {ar : Nat} {R : List ZV → ZOut → Prop} (h : ZA K (fun _ => e0) tA S M (fun zs M1 => ∃ o, zs.all ZV.fro = true ∧ zs.length = ar ∧ R zs o ∧ (∀ z, o = .ok z → Q z M1) ∧ (∀ x, o = .ex x → X x S M1)) X) : ZW K (fun _ => e0) (tCall (spZ K ar R) [] e0 tA) S M Q X := fun n σ G H Rl Qv k kx =>
  h n σ G H Rl _ (fun vs G1 H1 zs M1 e1 R1 a1 ⟨o, hf, hk, hR, q1, q2⟩ => by
    refine ⟨G1, zs, o, R1.ex, hk, ?_, hR, fun z ho v G' H' e a => k v G' H' z M1 (e1.trans e.g) (R1.call e) (at_of a) (q1 z ho), fun x ho cls dd G' H' e a => kx cls dd G' H' x S M1 (e1.trans e.g) (R1.call e) a (q2 x ho)⟩
    rw [List.append_nil]
    exact fzAll_of a1 hf) kx
theorem zw_callZ0 {ar : Nat} {R : List ZV → ZOut → Prop} (h : ZA K E tA S M (fun zs M1 => ∃ z, zs.all ZV.fro = true ∧ zs.length = ar ∧ R zs (.ok z) ∧ Q z M1) X) : ZW K E (tCall (spZ K ar R) [] E0 tA) S M Q X := fun n σ G H Rl Qv k kx =>
  h n σ G H Rl _ (fun vs G1 H1 zs M1 e1 R1 a1 ⟨z, hf, hk, hR, q1⟩ => by
    refine ⟨G1, zs, .ok z, R1.ex, hk, ?_, hR, fun z' ho v G' H' e a => by cases ho; exact k v G' H' z M1 (e1.trans e.g) (R1.call e) (at_of a) q1, fun x ho => nomatch ho⟩
    rw [List.append_nil]
    exact fzAll_of a1 hf) kx
/-- o.m(..) of a frozen object -/
theorem zw_methZ0 {ar : Nat} {C : Addr} {m : Str} {R : List ZV → ZOut → Prop} (h : ZW K E te S M (fun x M0 => ∃ fs, x = .o C fs ∧ fs.lookup m = none ∧ ZA K E tA S M0 (fun zs M1 => ∃ z, zs.all ZV.fro = true ∧ zs.length + 1 = ar ∧ R (.o C fs :: zs) (.ok z) ∧ Q z M1) X) X) :
    ZW K E (tMeth C m (spZ K ar R) [] E0 te tA) S M Q X := fun n σ G H Rl Qv k kx =>
  h n σ G H Rl _ (fun v G0 H0 x M0 e0' R0 a0 ⟨fs, hx, hl, h2⟩ => by
    subst hx
    have f0 : Fz K G0 v (.o C fs) := a0
    cases f0 with
    | @o p _ dx fv _ at_ hf =>
      refine ⟨p, dx, fv, rfl, R0.ex _ _ at_, (lookup_fz hf).1 hl, h2 n σ G0 H0 R0 _ (fun vs G1 H1 zs M1 e1 R1 a1 ⟨z, hfr, hk, hR, q1⟩ => ?_) (kx.mono e0')⟩
      refine ⟨G1, .o C fs :: zs, .ok z, R1.ex, hk, ?_, hR, fun z' ho v G' H' e a => by cases ho; exact k v G' H' z M1 ((e0'.trans e1).trans e.g) (R1.call e) (at_of a) q1, fun x ho => nomatch ho⟩
      rw [List.append_nil]
      exact .cons (fz_mono e1 (.o at_ hf)) (fzAll_of a1 hfr)) kx
/-- o.f of a frozen object -/
theorem zw_fldZ {C : Addr} {f : Str} (cl : Cls K C) (na : NoAttr K C f) (h : ZW K E te S M (fun z M1 => ∃ fs y, z = .o C fs ∧ fs.lookup f = some y ∧ Q y M1) X) : ZW K E (tFld K te f) S M Q X := fun n σ G H R Qv k kx =>
  h n σ G H R _ (fun v G1 H1 z M1 e1 R1 a1 ⟨fs, y, hz, hl, q⟩ => by
    subst hz
    have f0 : Fz K G1 v (.o C fs) := a1
    cases f0 with
    | @o p _ dx fv _ at_ hf =>
      obtain ⟨u, l1, l2⟩ := (lookup_fz hf).2 _ hl
      exact ⟨p, C, dx, fv, u, rfl, R1.ex _ _ at_, cl, na, l1, k u G1 H1 y M1 e1 R1 (at_of l2) q⟩) kx
end
end Z
/-! {key: value for a in one for b in two}, the keys tuples -/
namespace Z
open PySem PySem.Spec PyProof.Rows L2
open Evl (Ex)
end Z
/-! own dicts of own lists: d.setdefault(row, []), a walk over a dict's rows, {row: e for row in d} -/
namespace Z
open PySem PySem.Spec PyProof.Rows L2
open Evl (Ex)
/-! ### d.setdefault(row, x) -/
/-! ### dicts of anything that is known -/
section
variable {K : Fg} {n : Sn} {S S' : Zs} {M M' : Ms} {σ : L2.St} {G H : Hp} {P : ZP} {E : L2.St → XK} {Q : QZ} {X : XZ} {tk tv te td tx : TE} {t : TS} {g : TG} {p : Addr}
/-! ### a dict of own lists: its rows, the lists' cells, what they hold -/
/-! ### for row in d -/
/-! ### {row: e for row in d} -/
/-! ### {row: value for a in a tuple for row in a list} -/
/-! ### sorted of whole numbers -/
/-! ### lcm -/
/-! ### range with a step, break -/
theorem zs_brk (h : P.bk S M) : ZS K E tBreak S M P := fun n σ G H R D k => k.bk σ G H S M (Ex.refl G) R h
theorem zs_forR3 {tA : TA} (h : ZA K E tA S M (fun zs M1 => ∃ (a j c : Int) (m : Nat), zs = [.d (.int a), .d (.int j), .d (.int c)] ∧ RgC a j c m ∧ ∃ I : Nat → Zs → Ms → Prop, I 0 S M1 ∧
      (∀ i S' M', i < m → I i S' M' → ∃ is S2, ZG K g (.d (.int (a + (i : Nat) * c))) S' is S2 ∧ ZS K E t S2 M' (LoopP P (I (i + 1)))) ∧ (∀ S' M', I m S' M' → P.nx S' M')) P.ex) : ZS K E (tFor (iRng3 tA) g t) S M P := fun n σ G H R D k =>
  h n σ G H R _ (fun vs G1 H1 zs M1 e1 R1 a1 ⟨a, j, c, m, hz, hr, I, i0, is, id⟩ => by
    subst hz
    cases a1 with
    | cons x1 r1 => cases r1 with
      | cons x2 r2 => cases r2 with
        | cons x3 r3 =>
          cases r3
          obtain rfl := dp_int x1
          obtain rfl := dp_int x2
          obtain rfl := dp_int x3
          refine ⟨a, j, c, m, rfl, hr, for_rangeC (n := m) (FI K n G1 I) ⟨G1, S, M1, R1, Ex.refl _, i0⟩ (fun i σ' H' hx ⟨G', S', M', R', e', hi⟩ => ?_) (fun σ' H' ⟨G', S', M', R', e', hi⟩ => k.nx σ' G' H' S' M' (e1.trans e') R' (id S' M' hi))⟩
          obtain ⟨js, S2, hg, hb⟩ := is i S' M' hx hi
          exact hg n M' σ' G' H' _ R' (Dz.int _) _ fun σ2 _ _ R2 => hb n σ2 G' H' R2 _ ((k.mono (e1.trans e')).loop fun σ3 G3 H3 S3 M3 e3 R3 i3 => ⟨G3, S3, M3, R3, e'.trans e3, i3⟩)) k.xok
end
end Z
/-! lists of frozen things: made by append, frozen, walked, enumerated, cut; objects made of frozen things; [x for row in rows for x in row]; {.. for .. in a list} -/
namespace Z
open PySem PySem.Spec PyProof.Rows L2
open Evl (Ex)
section
variable {K : Fg} {n : Sn} {S S' : Zs} {M M' : Ms} {σ : L2.St} {G H : Hp} {e0 : XK} {t : TS} {E : L2.St → XK} {Q : QZ} {X : XZ} {tA : TA} {te ta tb tk tv : TE} {P : ZP} {g g1 : TG} {p : Addr}
/-! ### an object's first def over frozen things -/
/-! ### [x for row in rows for x in row] -/
/-! ### {row: e for .. in a tuple or in a list} -/
/-- [e for i in range(m)] -/
theorem lcR_map {vs : List Nat} {m : Nat} (f : Nat → PyData) (h : ZA K E tA S M (fun zs M1 => zs = [.d (.int (m : Nat))] ∧ m ≤ sizeLine ∧
      (∀ i, i < m → ∃ is S2, (∀ j ∈ is, j ∈ vs) ∧ ZG K g (.d (.int (i : Nat))) (wipeZ S vs) is S2 ∧ ∀ D acc, ZW K E te S2 ((D, true, .lst acc) :: M1) (fun y Mc => y = .d (f i) ∧ Mc = (D, true, .lst acc) :: M1) fun _ _ _ => False) ∧ Q (.d (.list ((List.range m).map f))) M1) X) : ZW K E (tLc (iRng1 tA) g tYes te vs) S M Q X := by
  refine zw_lcR1 fun n σ G H R Qv q x => h n σ G H R Qv (fun vs' G' H' zs M1 e R' a ⟨hz, hm, each, qq⟩ => q vs' G' H' zs M1 e R' a ?_) x
  refine ⟨(m : Nat), hz, by omega, by omega, fun i acc M' => acc = (List.range i).map f ∧ M' = M1, ⟨rfl, rfl⟩, fun i hi acc M' D hI => ?_, fun acc M' hI => ?_⟩
  · obtain ⟨rfl, rfl⟩ := hI
    obtain ⟨is, S2, h1, h2, h3⟩ := each i (by omega)
    rw [Int.zero_add]
    refine ⟨is, S2, h1, h2, zt_yes ⟨fun z => (nomatch z), fun _ => (h3 D _).imp ?_⟩⟩
    rintro y Mc ⟨rfl, rfl⟩
    exact ⟨_, _, rfl, rfl, by rw [List.range_succ, List.map_append]; rfl, rfl⟩
  · obtain ⟨rfl, rfl⟩ := hI
    rw [Int.toNat_natCast]
    exact qq
end
end Z
namespace Z
open PySem PySem.Spec PyProof.Rows L2
open Evl (Ex)
/-! ### own dicts keyed by nested tuples -/
mutual
theorem nkv_of {K : PySem.W.Frag} {G : Hp} : ∀ {v : V} {d : PyData} {k : NestedKey}, Dz K G v d → nk d = some k → NKV G v k
  | _, _, k, .int i, h => by
    rw [nk] at h
    cases h
    exact .int i
  | _, _, k, .tup s a, h => by
    rw [nk] at h
    obtain ⟨ks, h1, rfl⟩ := Option.map_eq_some_iff.mp h
    rcases s with s | ⟨_, t, r, rfl⟩
    · exact .tup s (nkAll_of a h1)
    · cases a with
      | cons b c =>
        cases b
        rw [nkAll, nk_str] at h1
        exact nomatch h1
  | _, _, _, .str _, h => by rw [nk] at h <;> first | exact nomatch h | (intros; exact PyData.noConfusion)
  | _, _, _, .bl _, h => by rw [nk] at h <;> first | exact nomatch h | (intros; exact PyData.noConfusion)
  | _, _, _, .non, h => by rw [nk] at h <;> first | exact nomatch h | (intros; exact PyData.noConfusion)
  | _, _, _, .lst _ _, h => by rw [nk] at h <;> first | exact nomatch h | (intros; exact PyData.noConfusion)
theorem nkAll_of {K : PySem.W.Frag} {G : Hp} : ∀ {vs : List V} {ds : List PyData} {ks : List NestedKey}, DzAll K G vs ds → nkAll ds = some ks → NKAll G vs ks
  | _, _, ks, .nil, h => by
    rw [nkAll] at h
    cases h
    exact .nil
  | _, _, ks, .cons (z := z) (zs := zs) a b, h => by
    rw [nkAll] at h
    cases h1 : nk z with
    | none => rw [h1] at h; exact nomatch h
    | some k =>
      cases h2 : nkAll zs with
      | none => rw [h1, h2] at h; exact nomatch h
      | some ks2 =>
        rw [h1, h2] at h
        cases h
        exact .cons (nkv_of a h1) (nkAll_of b h2)
end
abbrev DNr (K : PySem.W.Frag) (G : Hp) : NW → List (PyData × PyData) → Prop := Paired (fun (a : NestedKey × Addr × V) (b : PyData × PyData) => nk b.1 = some a.1 ∧ Dz K G (.ref a.2.1) b.1 ∧ Dz K G a.2.2 b.2)
def heldD (kvs : List (PyData × PyData)) (d : PyData) : Option PyData := (kvs.find? fun x => decide (nk x.1 = nk d)).map fun x => x.2
def storeD (kvs : List (PyData × PyData)) (d e : PyData) : List (PyData × PyData) := if (heldD kvs d).isSome then kvs.map fun x => if nk x.1 = nk d then (x.1, e) else x else kvs ++ [(d, e)]
section
variable {K : PySem.W.Frag} {G : Hp}
theorem heldD_rel {d : PyData} {k : NestedKey} (hd : nk d = some k) : ∀ {ws : NW} {kvs : List (PyData × PyData)}, DNr K G ws kvs → (heldD kvs d = none ∧ heldN ws k = none) ∨ ∃ e v, heldD kvs d = some e ∧ heldN ws k = some v ∧ Dz K G v e
  | _, _, .nil => .inl ⟨rfl, rfl⟩
  | a :: ws, b :: kvs, .cons q r => by
    have ih := heldD_rel hd r
    unfold heldD heldN at ih ⊢
    rw [List.find?_cons, List.find?_cons, q.1, hd]
    rw [hd] at ih
    by_cases z : a.1 = k
    · rw [decide_eq_true z, decide_eq_true (congrArg some z)]
      exact .inr ⟨_, _, rfl, rfl, q.2.2⟩
    · rw [decide_eq_false z, decide_eq_false fun e => z (Option.some.inj e)]
      exact ih
theorem putN_rel {d e : PyData} {k : NestedKey} {v : V} (hd : nk d = some k) (he : Dz K G v e) : ∀ {ws : NW} {kvs : List (PyData × PyData)}, DNr K G ws kvs → DNr K G (ws.map fun x => if x.1 = k then (x.1, x.2.1, v) else x) (kvs.map fun x => if nk x.1 = nk d then (x.1, e) else x)
  | _, _, .nil => .nil
  | a :: ws, b :: kvs, .cons q r => by
    rw [List.map_cons, List.map_cons]
    refine .cons ?_ (putN_rel hd he r)
    rw [q.1, hd]
    by_cases z : a.1 = k
    · rw [if_pos z, if_pos (congrArg some z)]
      exact ⟨q.1, q.2.1, he⟩
    · rw [if_neg z, if_neg fun e => z (Option.some.inj e)]
      exact q
theorem storeD_rel {d e : PyData} {k : NestedKey} {b : Addr} {v : V} (hd : nk d = some k) (hb : Dz K G (.ref b) d) (he : Dz K G v e) {ws : NW} {kvs : List (PyData × PyData)} (r : DNr K G ws kvs) : DNr K G (storeN ws k b v) (storeD kvs d e) := by
  unfold storeN storeD
  have same : (heldD kvs d).isSome = (heldN ws k).isSome := by
    rcases heldD_rel hd r with ⟨h1, h2⟩ | ⟨_, _, h1, h2, _⟩ <;> rw [h1, h2] <;> rfl
  rw [same]
  split
  · exact putN_rel hd he r
  · exact paired_app r ⟨hd, hb, he⟩
theorem dnr_len : ∀ {ws : NW} {kvs : List (PyData × PyData)}, DNr K G ws kvs → ws.length = kvs.length
  | _, _, .nil => rfl
  | _, _, .cons _ r => by rw [List.length_cons, List.length_cons, dnr_len r]
theorem dnr_keys {H : Hp} (ex : Ex G H) : ∀ {ws : NW} {kvs : List (PyData × PyData)}, DNr K G ws kvs → ∀ x ∈ ws, NKV H (.ref x.2.1) x.1
  | _, _, .nil => fun x h => nomatch h
  | a :: ws, b :: kvs, .cons q r => fun x hx => by
    rcases List.mem_cons.mp hx with e | hx
    · rw [e]
      exact (nkv_of q.2.1 q.1).mono fun c xs h => ex _ _ h
    · exact dnr_keys ex r x hx
theorem dz_ref {v : V} {ds : List PyData} (h : Dz K G v (.tuple ds)) : ∃ b, v = .ref b := by
  cases h
  exact ⟨_, rfl⟩
end
section
variable {K : Fg} {E : L2.St → XK} {S : Zs} {M : Ms} {Q : QZ} {X : XZ} {P : ZP} {td tk tv : TE}
theorem zw_newN (q : ∀ p, Q (.c p) ((p, true, .dN []) :: M)) : ZW K E tNewN S M Q X := fun n σ G H R Qv k kx p hp =>
  k (.ref p) G _ (.c p) _ (Ex.refl G) ((R.lay hp).cell (c := .dN []) (R.fresh hp) (R.notin hp) (ex_gnone R.ex hp) ⟨[], upd_same, .nil⟩) rfl (q p)
theorem zw_getN (h : ZW K E td S M (fun z M1 => ZW K E tk S M1 (fun y M2 => ∃ p b kvs ds k e, z = .c p ∧ y = .d (.tuple ds) ∧ (p, b, CD.dN kvs) ∈ M2 ∧ nk (.tuple ds) = some k ∧ k.depth ≤ 8 ∧ heldD kvs (.tuple ds) = some e ∧ Q (.d e) M2) X) X) : ZW K E (tGetN td tk) S M Q X := fun n σ G H R Qv kk kx =>
  h n σ G H R _ (fun v G1 H1 z M1 e1 R1 a1 h2 => h2 n σ G1 H1 R1 _ (fun y G2 H2 zy M2 e2 R2 a2 h3 => by
    obtain ⟨p, b, kvs, ds, k, e, rfl, rfl, hm, hk, h8, hh, q⟩ := h3
    obtain rfl : v = .ref p := a1
    obtain ⟨bb, rfl⟩ := dz_ref a2
    obtain ⟨_, ws, hw, rel⟩ := R2.ce p b _ hm
    rcases heldD_rel hk rel with ⟨h1, _⟩ | ⟨e0, v0, h1, h2, h3⟩
    · rw [h1] at hh
      cases hh
    · rw [h1] at hh
      obtain rfl : e0 = e := Option.some.inj hh
      refine ⟨p, ws, bb, k, v0, rfl, rfl, ⟨hw, dnr_keys R2.ex rel⟩, (nkv_of a2 hk).mono fun c xs h => R2.ex _ _ h, h8, h2, ?_⟩
      exact kk v0 G2 H2 (.d _) M2 (e1.trans e2) R2 h3 q) (kx.mono e1)) kx
theorem zs_putN (h : ZW K E tv S M (fun z M1 => ∃ e, z = .d e ∧ ZW K E td S M1 (fun o M2 => ZW K E tk S M2 (fun y M3 => ∃ p b kvs ds k M4, o = .c p ∧ y = .d (.tuple ds) ∧ nk (.tuple ds) = some k ∧ k.depth ≤ 8 ∧ kvs.length < sizeLine ∧ Upd1 p b (.dN kvs) (.dN (storeD kvs (.tuple ds) e)) M3 M4 ∧ P.nx S M4) P.ex) P.ex) P.ex) : ZS K E (sPutN td tk tv) S M P := fun n σ G H R D kk =>
  h n σ G H R _ (fun v G1 H1 z M1 e1 R1 a1 ⟨e, hz, h2⟩ => h2 n σ G1 H1 R1 _ (fun o G2 H2 zo M2 e2 R2 a2 h3 => h3 n σ G2 H2 R2 _ (fun y G3 H3 zy M3 e3 R3 a3 h4 => by
    subst hz
    obtain ⟨p, b, kvs, ds, k, M4, rfl, rfl, hk, h8, hl, hu, q⟩ := h4
    obtain rfl : o = .ref p := a2
    obtain ⟨bb, rfl⟩ := dz_ref a3
    obtain ⟨_, ws, hw, rel⟩ := R3.ce p b _ hu.mem
    refine ⟨p, ws, bb, k, rfl, rfl, ⟨hw, dnr_keys R3.ex rel⟩, (nkv_of a3 hk).mono fun c xs h => R3.ex _ _ h, h8, by rw [dnr_len rel]; exact hl, ?_⟩
    have new := storeD_rel hk a3 (dp_mono (e2.trans e3) a1) rel
    have R4 := R3.put (o := dnO p (storeN ws k bb v)) hu (fun x w => by rw [hw] at w; exact nomatch w) ⟨_, upd_same, new⟩
    exact kk.nx σ G3 _ S M4 ((e1.trans e2).trans e3) R4 q) (XOk.mono kk.xok (e1.trans e2))) (XOk.mono kk.xok e1)) kk.xok
theorem zw_get2N {tx : TE} (h : ZW K E td S M (fun z M1 => ∃ p, z = .c p ∧ (∃ b kvs, (p, b, CD.dN kvs) ∈ M1) ∧ ZW K E tk S M1 (fun y M2 => ZW K E tx S M2 (fun w M3 => ∃ b kvs ds k o, y = .d (.tuple ds) ∧ w = .d o ∧ (p, b, CD.dN kvs) ∈ M3 ∧ nk (.tuple ds) = some k ∧ k.depth ≤ 8 ∧ Q (.d ((heldD kvs (.tuple ds)).getD o)) M3) X) X) X) : ZW K E (tGet2N td tk tx) S M Q X := fun n σ G H R Qv kk kx =>
  h n σ G H R _ (fun v G1 H1 z M1 e1 R1 a1 ⟨p, hz, ⟨b, kvs, hm⟩, h2⟩ => by
    subst hz
    obtain rfl : v = .ref p := a1
    obtain ⟨_, ws, hw, rel⟩ := R1.ce p b _ hm
    refine ⟨p, ws, rfl, ⟨hw, dnr_keys R1.ex rel⟩, h2 n σ G1 H1 R1 _ (fun y G2 H2 zy M2 e2 R2 a2 h3 => h3 n σ G2 H2 R2 _ (fun w G3 H3 zw M3 e3 R3 a3 h4 => ?_) ((kx.mono e1).mono e2)) (kx.mono e1)⟩
    obtain ⟨b', kvs', ds, k, o, rfl, rfl, hm3, hk, h8, q⟩ := h4
    obtain ⟨bb, rfl⟩ := dz_ref a2
    obtain ⟨_, ws', hw', rel'⟩ := R3.ce p b' _ hm3
    refine ⟨ws', bb, k, rfl, ⟨hw', dnr_keys R3.ex rel'⟩, (nkv_of (dp_mono e3 a2) hk).mono fun c xs h => R3.ex _ _ h, h8, ?_⟩
    rcases heldD_rel hk rel' with ⟨h1, h2⟩ | ⟨e0, v0, h1, h2, h3⟩
    · rw [h2]
      rw [h1] at q
      exact kk w G3 H3 (.d o) M3 ((e1.trans e2).trans e3) R3 a3 q
    · rw [h2]
      rw [h1] at q
      exact kk v0 G3 H3 (.d e0) M3 ((e1.trans e2).trans e3) R3 h3 q) kx
end
end Z
/-! sorted of nested data in any order -/
namespace Z
open PySem PySem.Spec PyProof.Rows L2
open Evl (Ex)
/-- the data, sorted -/
def sortG (ds : List PyData) : List PyData := ds.mergeSort fun x y => PySem.W.dataLe false id x y
theorem dza_paired {K : Fg} {G : Hp} : ∀ {vs : List V} {ds : List PyData}, DzAll K G vs ds → Paired (fun v d => Dz K G v d) vs ds
  | _, _, .nil => .nil
  | _, _, .cons a b => .cons a (dza_paired b)
theorem paired_dza {K : Fg} {G : Hp} : ∀ {vs : List V} {ds : List PyData}, Paired (fun v d => Dz K G v d) vs ds → DzAll K G vs ds
  | _, _, .nil => .nil
  | _, _, .cons a b => .cons a (paired_dza b)
end Z
/-! sorted of a dict with nested keys, of its keys -/
namespace Z
open PySem PySem.Spec PyProof.Rows L2
open Evl (Ex)
section
variable {X : Cx}
/-- sorted(D), sorted(D.keys()) -/
def rSortN (K : Fg) : List V → Hp → VK → Prop := fun vs H Q => ∃ (t a : Addr) (ws : NW) (ds : List PyData), vs = [.ref t] ∧ (t = a ∨ H t = some (keysO t a)) ∧ DnH H a ws ∧ L2.DpAll K H (ws.map fun x => V.ref x.2.1) ds ∧ PySem.W.AllAlike ds ∧ PySem.W.Sortable ds ∧ (∀ d ∈ ds, d.depth ≤ 50) ∧
  ∀ ys, (∀ F : V → PyData → Prop, Paired F (ws.map fun x => V.ref x.2.1) ds → Paired F ys (sortG ds)) → ∀ r, H r = none → Q (.ref r) (upd H r (.lst ys))
def tKeysN (to : TE) : TE := fun σ H Q => to σ H fun x H1 => ∃ (a : Addr) (ws : NW), x = .ref a ∧ H1 a = some (dnO a ws) ∧ ∀ p, H1 p = none → Q (.ref p) (upd H1 p (keysO p a))
end
/-! over own cells -/
section
variable {K : Fg} {E : L2.St → XK} {S : Zs} {M : Ms} {Q : QZ} {X : XZ} {to : TE}
theorem dnr_data {G : Hp} : ∀ {ws : NW} {kvs : List (PyData × PyData)}, DNr K G ws kvs → DzAll K G (ws.map fun x => V.ref x.2.1) (kvs.map fun x => x.1)
  | _, _, .nil => .nil
  | _, _, .cons q r => .cons q.2.1 (dnr_data r)
theorem zw_sortKeysN (h : ZW K E to S M (fun z M1 => ∃ p b kvs, z = .c p ∧ (p, b, CD.dN kvs) ∈ M1 ∧ PySem.W.AllAlike (kvs.map fun x => x.1) ∧ PySem.W.Sortable (kvs.map fun x => x.1) ∧ (∀ d ∈ kvs.map (fun x => x.1), d.depth ≤ 50) ∧ Q (.d (.list (sortG (kvs.map fun x => x.1)))) M1) X) : ZW K E (tCB (rSortN K) (tCons (tKeysN to) tNil)) S M Q X := fun n σ G H R Qv k kx =>
  h n σ G H R _ (fun v G1 H1 z M1 e1 R1 a1 ⟨p, b, kvs, hz, hm, ha, hs, hd, q⟩ => by
    subst hz
    obtain rfl : v = .ref p := a1
    obtain ⟨_, ws, hw, rel⟩ := R1.ce p b _ hm
    have all := dnr_data rel
    refine ⟨p, ws, rfl, hw, fun view hv => ?_⟩
    have R2 := R1.lay (o := keysO view p) hv
    have np : p ≠ view := ne_of_none hw hv
    have up : upd H1 view (keysO view p) p = some (dnO p ws) := by rw [upd_ne np]; exact hw
    refine ⟨view, p, ws, _, rfl, .inr upd_same, ⟨up, dnr_keys R2.ex rel⟩, dzAll_dp (dpAll_mono R2.ex all), ha, hs, hd, fun ys hys r hr => ?_⟩
    have gr := ex_gnone R2.ex hr
    exact k (.ref r) _ _ (.d (.list (sortG (kvs.map fun x => x.1)))) M1 (e1.trans (Ex.new gr)) (R2.new hr (fun _ z => nomatch z)) (.lst (Evl.sq_of upd_same) (dpAll_mono (Ex.new gr) (paired_dza (hys _ (dza_paired all))))) q) kx
end
end Z
/-! methods of an object with several own parts, over frozen things -/
namespace Z
open PySem PySem.Spec PyProof.Rows L2
open Evl (Ex)
/-- a method; nothing is raised -/
def spR (K : Fg) (C : Addr) (k : Nat) (R : FsP → List CD → List ZV → PyData → FsP → List CD → Prop) : Sp := fun vs H Q E => ∃ (G : Hp) (p : Addr) (qs : List Addr) (fs : FsP) (cds : List CD) (us : List V) (zs : List ZV) (d : PyData) (fs' : FsP) (cds' : List CD),
  vs = .ref p :: us ∧ zs.length = k ∧ Ex G H ∧ (p :: qs).Nodup ∧ qs.length = cds.length ∧ cds'.length = cds.length ∧ G p = none ∧ (∀ q ∈ qs, G q = none) ∧ CD.at K G H p (.obj C (fs qs)) ∧ (∀ q c, (q, c) ∈ qs.zip cds → CD.at K G H q c) ∧ FzAll K G us zs ∧ R fs cds zs d fs' cds' ∧
  ∀ v G' H', Ext (p :: qs) G H G' H' → (∀ a x, H a = some (.own x) → H' a = some (.own x)) → CD.at K G' H' p (.obj C (fs' qs)) → (∀ q c, (q, c) ∈ qs.zip cds' → CD.at K G' H' q c) → Dz K G' v d → Q v H'
section
variable {K : Fg} {E : L2.St → XK} {e0 : XK} {te : TE} {tA : TA} {t : TS} {S : Zs} {M M2 : Ms} {Q : QZ} {X : XZ} {n : Sn} {σ : L2.St} {G G' H H' : Hp} {p C : Addr}
/-- o.m(..) -/
theorem zw_methR {ar : Nat} {m : Str} {R : FsP → List CD → List ZV → PyData → FsP → List CD → Prop} (h : ZW K E te S M (fun z M0 => ∃ p, z = .c p ∧ (∃ b fs0, (p, b, CD.obj C fs0) ∈ M0 ∧ fs0.lookup m = none) ∧ ZA K E tA S M0 (fun zs M1 => ∃ qs b b' fs cds d fs' cds' M2, zs.all ZV.fro = true ∧ zs.length = ar ∧ qs.length = cds.length ∧ cds'.length = cds.length ∧ M1.Perm ((p, b, .obj C (fs qs)) :: (pM b' qs cds ++ M2)) ∧ R fs cds zs d fs' cds' ∧ Q (.d d) ((p, b, .obj C (fs' qs)) :: (pM b' qs cds' ++ M2))) X) X) :
    ZW K E (tMeth C m (spR K C ar R) [] E0 te tA) S M Q X := fun n σ G H Rl Qv k kx =>
  h n σ G H Rl _ (fun v G0 H0 z M0 e0' R0 a0 ⟨p, hz, ⟨b0, fs0, hm0, hl0⟩, h2⟩ => by
    subst hz
    obtain rfl : v = .ref p := a0
    obtain ⟨_, dx, fv, h3, h4, h5, h6⟩ := R0.ce p b0 _ hm0
    refine ⟨p, dx, fv, rfl, h3, (lookup_paired h6 m).1 hl0, h2 n σ G0 H0 R0 _ (fun vs G1 H1 zs M1 e1 R1 a1 ⟨qs, b, b', fs, cds, d, fs', cds', M2, hd, hk, hl, hl', hp, hR, qf⟩ => ?_) (kx.mono e0')⟩
    have R2 := R1.perm hp
    have pn := parts_nd R2 hl
    have mp := R2.ce p b _ List.mem_cons_self
    have mq : ∀ q c, (q, c) ∈ qs.zip cds → G1 q = none ∧ CD.at K G1 H1 q c := fun q c hz => R2.ce q b' c (List.mem_cons_of_mem _ (List.mem_append_left _ (pM_mem.mpr ⟨rfl, hz⟩)))
    have gq : ∀ q ∈ qs, G1 q = none := fun q hq => by
      obtain ⟨i, hi⟩ := List.mem_iff_getElem?.mp hq
      have hil := (List.getElem?_eq_some_iff.mp hi).1
      have hci := List.getElem?_eq_getElem (l := cds) (i := i) (by omega)
      exact (mq q _ (List.mem_of_getElem? (i := i) (by rw [List.getElem?_zip_eq_some]; exact ⟨hi, hci⟩))).1
    refine ⟨G1, p, qs, fs, cds, _, zs, d, fs', cds', by rw [List.append_nil], hk, R1.ex, pn.1, hl, hl', mp.1, gq, mp.2, (fun q c hz => (mq q c hz).2), fzAll_of a1 hd, hR, fun v G' H' e own c1 c2 a => ?_⟩
    exact k v G' H' (.d d) _ ((e0'.trans e1).trans e.g) (R2.callN hl hl' e own c1 c2) a qf) kx
end
end Z
/-! sorted(D.items()) of a dict with nested keys -/
namespace Z
open PySem PySem.Spec PyProof.Rows L2
open Evl (Ex)
/-- tuples laid one behind another -/
def laysT (H : Hp) : List (Addr × List V) → Hp
  | [] => H
  | x :: L => laysT (upd H x.1 (.tup x.2)) L
theorem laysT_off : ∀ {L : List (Addr × List V)} {H : Hp} {a : Addr}, a ∉ L.map (·.1) → laysT H L a = H a
  | [], _, _, _ => rfl
  | x :: L, H, a, h => by
    rw [List.map_cons, List.mem_cons, not_or] at h
    rw [laysT, laysT_off h.2, upd_ne h.1]
theorem laysT_at : ∀ {L : List (Addr × List V)} {H : Hp} {x : Addr × List V}, (L.map (·.1)).Nodup → x ∈ L → laysT H L x.1 = some (.tup x.2)
  | y :: L, H, x, nd, h => by
    rw [List.map_cons, List.nodup_cons] at nd
    rw [laysT]
    rcases List.mem_cons.mp h with rfl | h
    · rw [laysT_off nd.1, upd_same]
    · exact laysT_at nd.2 h
section
variable {X : Cx}
/-- D.items() -/
def tItemsN (to : TE) : TE := fun σ H Q => to σ H fun x H1 => ∃ (a : Addr) (ws : NW), x = .ref a ∧ H1 a = some (dnO a ws) ∧ ∀ p, H1 p = none → Q (.ref p) (upd H1 p (DX.itemsO p a))
/-- sorted(D.items()) -/
def rSortIN (K : Fg) : List V → Hp → VK → Prop := fun vs H Q => ∃ (t a : Addr) (ws : NW) (ks es : List PyData), vs = [.ref t] ∧ H t = some (DX.itemsO t a) ∧ DnH H a ws ∧ L2.DpAll K H (ws.map fun x => V.ref x.2.1) ks ∧ L2.DpAll K H (ws.map fun x => x.2.2) es ∧
  PySem.W.AllAlike ((ks.zip es).map fun x => .tuple [x.1, x.2]) ∧ PySem.W.Sortable ((ks.zip es).map fun x => .tuple [x.1, x.2]) ∧ (∀ d ∈ (ks.zip es).map (fun x => PyData.tuple [x.1, x.2]), d.depth ≤ 50) ∧
  ∀ as : List Addr, as.length = ws.length → as.Nodup → (∀ b ∈ as, H b = none) → ∀ ys, (∀ F : V → PyData → Prop, Paired F (as.map V.ref) ((ks.zip es).map fun x => .tuple [x.1, x.2]) → Paired F ys (sortG ((ks.zip es).map fun x => .tuple [x.1, x.2]))) →
    ∀ r, H r = none → r ∉ as → Q (.ref r) (upd (laysT H (as.zip (ws.map fun x => [V.ref x.2.1, x.2.2]))) r (.lst ys))
end
/-! over own cells -/
section
variable {K : Fg} {E : L2.St → XK} {S : Zs} {M : Ms} {Q : QZ} {X : XZ} {to : TE}
theorem Rel.lays {n : Sn} {σ : L2.St} : ∀ {L : List (Addr × List V)} {G H : Hp}, Rel K n S M σ G H → (L.map (·.1)).Nodup → (∀ x ∈ L, H x.1 = none) → Rel K n S M σ (laysT G L) (laysT H L) ∧ Ex G (laysT G L)
  | [], G, H, R, _, _ => ⟨R, Ex.refl _⟩
  | x :: L, G, H, R, nd, fr => by
    rw [List.map_cons, List.nodup_cons] at nd
    have hx := fr x List.mem_cons_self
    obtain ⟨R2, e2⟩ := Rel.lays (L := L) (R.new (o := .tup x.2) hx (fun _ z => nomatch z)) nd.2 fun y hy => by
      rw [upd_ne fun z => nd.1 (by rw [← z]; exact List.mem_map_of_mem hy)]
      exact fr y (List.mem_cons_of_mem _ hy)
    exact ⟨R2, (Ex.new (ex_gnone R.ex hx)).trans e2⟩
theorem dnr_vals {G : Hp} : ∀ {ws : NW} {kvs : List (PyData × PyData)}, DNr K G ws kvs → DzAll K G (ws.map fun x => x.2.2) (kvs.map fun x => x.2)
  | _, _, .nil => .nil
  | _, _, .cons q r => .cons q.2.2 (dnr_vals r)
/-- the pairs that a dict holds, as data -/
def itemD (x : PyData × PyData) : PyData := .tuple [x.1, x.2]
theorem zip_items (kvs : List (PyData × PyData)) : ((kvs.map fun x => x.1).zip (kvs.map fun x => x.2)).map (fun x => PyData.tuple [x.1, x.2]) = kvs.map itemD := by
  induction kvs with
  | nil => rfl
  | cons x kvs ih => rw [List.map_cons, List.map_cons, List.zip_cons_cons, List.map_cons, ih]; rfl
theorem pairs_dz {G : Hp} : ∀ {as : List Addr} {ws : NW} {kvs : List (PyData × PyData)}, as.length = ws.length → DNr K G ws kvs → (∀ x ∈ as.zip (ws.map fun x => [V.ref x.2.1, x.2.2]), G x.1 = some (.tup x.2)) → DzAll K G (as.map V.ref) (kvs.map itemD)
  | [], [], _, _, .nil, _ => .nil
  | [], _ :: _, _, h, _, _ => by simp at h
  | _ :: _, [], _, h, _, _ => by simp at h
  | a :: as, w :: ws, _, h, .cons q r, hz => by
    refine .cons (.tup (.inl (hz (a, _) List.mem_cons_self)) (.cons q.2.1 (.cons q.2.2 .nil))) (pairs_dz (by simpa using h) r fun x hx => hz x (List.mem_cons_of_mem _ hx))
theorem zw_sortItemsN (h : ZW K E to S M (fun z M1 => ∃ p b kvs, z = .c p ∧ (p, b, CD.dN kvs) ∈ M1 ∧ PySem.W.AllAlike (kvs.map itemD) ∧ PySem.W.Sortable (kvs.map itemD) ∧ (∀ d ∈ kvs.map itemD, d.depth ≤ 50) ∧ Q (.d (.list (sortG (kvs.map itemD)))) M1) X) : ZW K E (tCB (rSortIN K) (tCons (tItemsN to) tNil)) S M Q X := fun n σ G H R Qv k kx =>
  h n σ G H R _ (fun v G1 H1 z M1 e1 R1 a1 ⟨p, b, kvs, hz, hm, ha, hs, hd, q⟩ => by
    subst hz
    obtain rfl : v = .ref p := a1
    obtain ⟨_, ws, hw, rel⟩ := R1.ce p b _ hm
    refine ⟨p, ws, rfl, hw, fun view hv => ?_⟩
    have R2 := R1.lay (o := DX.itemsO view p) hv
    have np : p ≠ view := ne_of_none hw hv
    have up : upd H1 view (DX.itemsO view p) p = some (dnO p ws) := by rw [upd_ne np]; exact hw
    refine ⟨view, p, ws, kvs.map fun x => x.1, kvs.map fun x => x.2, rfl, upd_same, ⟨up, dnr_keys R2.ex rel⟩, dzAll_dp (dpAll_mono R2.ex (dnr_data rel)), dzAll_dp (dpAll_mono R2.ex (dnr_vals rel)), ?_⟩
    rw [zip_items]
    refine ⟨ha, hs, hd, fun as lak nd fr ys hys r hr nas => ?_⟩
    have hL1 : (as.zip (ws.map fun x => [V.ref x.2.1, x.2.2])).map (·.1) = as := List.map_fst_zip (by rw [List.length_map, lak]; exact Nat.le_refl _)
    obtain ⟨R3, e3⟩ := R2.lays (L := as.zip (ws.map fun x => [V.ref x.2.1, x.2.2])) (by rw [hL1]; exact nd) fun x hx => fr x.1 (by rw [← hL1]; exact List.mem_map_of_mem hx)
    have hr3 : laysT (upd H1 view (DX.itemsO view p)) (as.zip (ws.map fun x => [V.ref x.2.1, x.2.2])) r = none := by rw [laysT_off (by rw [hL1]; exact nas)]; exact hr
    have gr := ex_gnone R3.ex hr3
    have all : DzAll K (laysT G1 (as.zip (ws.map fun x => [V.ref x.2.1, x.2.2]))) (as.map V.ref) (kvs.map itemD) := pairs_dz lak (Paired.mono (fun a b q => ⟨q.1, dp_mono e3 q.2.1, dp_mono e3 q.2.2⟩) rel) fun x hx => laysT_at (by rw [hL1]; exact nd) hx
    exact k (.ref r) _ _ (.d (.list (sortG (kvs.map itemD)))) M1 ((e1.trans e3).trans (Ex.new gr)) (R3.new hr3 (fun _ z => nomatch z)) (.lst (Evl.sq_of upd_same) (dpAll_mono (Ex.new gr) (paired_dza (hys _ (dza_paired all))))) q) kx
end
end Z
/-! [e for x in a tuple], e a frozen thing -/
namespace Z
open PySem PySem.Spec PyProof.Rows L2
open Evl (Ex)
section
variable {K : Fg} {n : Sn} {S : Zs} {M : Ms} {σ : L2.St} {G H : Hp} {E : L2.St → XK} {Q : QZ} {X : XZ} {ta : TE} {te : TE} {tt : TT} {g : TG}
/-- fields, the class told by the field -/
theorem zw_fldN {C : Addr} {f : Str} (na : NoAttr K C f) (cl : Cls K C) (h : ZW K E te S M (fun z M1 => ∃ p b fs y, z = .c p ∧ (p, b, CD.obj C fs) ∈ M1 ∧ fs.lookup f = some y ∧ Q y M1) X) : ZW K E (tFld K te f) S M Q X := zw_fld cl na h
theorem zw_fldZN {C : Addr} {f : Str} (na : NoAttr K C f) (cl : Cls K C) (h : ZW K E te S M (fun z M1 => ∃ fs y, z = .o C fs ∧ fs.lookup f = some y ∧ Q y M1) X) : ZW K E (tFld K te f) S M Q X := zw_fldZ cl na h
end
end Z
/-! [e for i, x in enumerate(a list) if ..] -/
namespace Z
open PySem PySem.Spec PyProof.Rows L2
open Evl (Ex)
section
variable {K : Fg} {n : Sn} {S : Zs} {M : Ms} {σ : L2.St} {G H : Hp} {E : L2.St → XK} {Q : QZ} {X : XZ} {tA : TA} {te : TE} {tt : TT} {g : TG}
theorem lc_turnH {vs : List Nat} {I : Nat → List PyData → Ms → Prop} {G0 : Hp} {D : Addr} {i : Nat} {v : V} {x : PyData} {acc : List PyData} (ht : LcTurn K E g tt te S vs I i x) (R : Rel K n (wipeZ S vs) ((D, true, .lst acc) :: M) (L2.wipe σ vs) G H) (e : Ex G0 G) (hl : acc.length ≤ i) (hI : I i acc M) (hv : Dz K G v x) (hz : i < sizeLine) :
    g v (L2.wipe σ vs) H fun σ2 H2 => L2.wipe σ2 vs = L2.wipe σ vs ∧ tt σ2 H2 fun b H3 => if b = true then te σ2 H3 fun y H4 => ∃ acc, H4 D = some (.lst acc) ∧ acc.length < sizeLine ∧ LcI K n G0 S σ vs D I (i + 1) (upd H4 D (.lst (acc ++ [y]))) else LcI K n G0 S σ vs D I (i + 1) H3 := by
  obtain ⟨is, S2, hs, hg, hb⟩ := ht acc M D hI
  refine hg n _ _ G H v R hv _ fun σ2 l2 g2 R2 => ?_
  have ew : L2.wipe σ2 vs = L2.wipe σ vs := wipe_eq l2 fun j hj => g2 j fun z => hj (hs j z)
  have back : ∀ {G' H' : Hp} {M' : Ms}, Rel K n S2 M' σ2 G' H' → Ex G G' → Rel K n (wipeZ S vs) M' (L2.wipe σ vs) G' H' := fun R' e' => R.reslot R' e'
  refine ⟨ew, hb n σ2 G H R2 _ (fun b G3 H3 Mb e3 R3 q => ?_) ?_⟩
  · cases b with
    | true =>
      show te σ2 H3 _
      refine q.2 rfl n σ2 G3 H3 R3 _ (fun y G4 H4 z Mc e4 R4 a4 ⟨d, M2, hz2, hM, hI2⟩ => ?_) ?_
      · subst hz2 hM
        obtain ⟨_, ws, h1, h2⟩ := R4.ce D true _ m0
        refine ⟨ws, h1, by rw [dpa_len h2]; omega, G4, M2, acc ++ [d], ?_, (e.trans e3).trans e4, by simp; omega, hI2⟩
        exact (back R4 (e3.trans e4)).putLst .here (dpa_app h2 (dpa_one a4))
      · exact fun _ _ _ _ _ _ _ _ _ _ q => q.elim
    | false =>
      show LcI K n G0 S σ vs D I (i + 1) H3
      obtain ⟨M2, hM, hI2⟩ := q.1 rfl
      subst hM
      exact ⟨G3, M2, acc, back R3 e3, e.trans e3, by omega, hI2⟩
  · exact fun _ _ _ _ _ _ _ _ _ _ q => q.elim
theorem zw_lcEn {vs : List Nat} (h : ZA K E tA S M (fun zs M1 => ∃ xs, zs = [.d (.list xs)] ∧ xs.length ≤ sizeLine ∧ ∃ I : Nat → List PyData → Ms → Prop, I 0 [] M1 ∧ (∀ i x, xs[i]? = some x → LcTurn K E g tt te S vs I i (.tuple [.int (i : Nat), x])) ∧ (∀ acc M', I xs.length acc M' → Q (.d (.list acc)) M')) X) :
    ZW K E (tLc (iEnum K tA) g tt te vs) S M Q X := fun n σ G H R Qv k kx =>
  h n σ G H R _ (fun us G1 H1 zs M1 e1 R1 a1 ⟨xs, hz, hl, I, i0, is, id⟩ => by
    subst hz
    obtain ⟨v, rfl, av⟩ := zall1 a1
    obtain ⟨p, ws, rfl, h1, h2⟩ := dp_lst av
    have hlw := dpa_len h2
    have stays : ∀ {i : Nat} {D : Addr} {H' : Hp}, LcI K n G1 S σ vs D I i H' → SqL K H' p ws := fun ⟨G', _, _, R', e', _⟩ => Evl.ex_l (e'.trans R'.ex) h1
    refine ⟨p, ws, rfl, Evl.ex_l R1.ex h1, fun D hD => ⟨fun i m H' => m = ws.length - i ∧ i ≤ ws.length ∧ LcI K n G1 S σ vs D I i H', ⟨_, rfl, Nat.zero_le _, lc_start R1 hD i0⟩, ?_⟩⟩
    rintro i m H' ⟨rfl, hi, hL⟩
    have st := stays hL
    rcases Nat.lt_or_ge i ws.length with hlt | hge
    · have hw : ws[i]? = some ws[i] := List.getElem?_eq_getElem hlt
      obtain ⟨d, hd, ad⟩ := dpa_at_v h2 hw
      refine .inr ⟨⟨ws, _, st, hw⟩, LcI K n G1 S σ vs D I (i + 1), fun H2 q => ⟨_, by omega, rfl, hlt, q⟩, fun y H2 hy => ?_⟩
      obtain ⟨T, x, rfl, hT, rfl, hx⟩ := hy
      obtain rfl : x = ws[i] := Option.some.inj ((hx ws st).symm.trans hw)
      obtain ⟨G', M', acc, R', e', hla, hI⟩ := hL
      have gT := ex_gnone R'.ex hT
      have e2 := e'.trans (Ex.new (o := .tup [.int (i : Nat), ws[i]]) gT)
      exact lc_turnH (is i d hd) (R'.new (o := .tup [.int (i : Nat), ws[i]]) hT (fun _ z => nomatch z)) e2 hla hI (.tup (.inl upd_same) (.cons (.int _) (.cons (dp_mono e2 ad) .nil))) (by omega)
    · obtain rfl : i = ws.length := by omega
      exact .inl ⟨⟨ws, st, Nat.le_refl _⟩, lc_done R1 hL (fun acc M' q => id acc M' (by rw [← hlw]; exact q)) fun v G' H' z M' e' => k v G' H' z M' (e1.trans e')⟩) kx
end
end Z
/-! [e for x in range(a) for y in range(b)] -/
namespace Z
open PySem PySem.Spec PyProof.Rows L2
open Evl (Ex)
end Z
/-! [e for x in range(a, b, -1)] -/
namespace Z
open PySem PySem.Spec PyProof.Rows L2
open Evl (Ex)
section
variable {K : Fg} {E : L2.St → XK} {tA : TA} {g : TG} {te : TE} {tt : TT} {S : Zs} {M : Ms} {Q : QZ} {X : XZ}
theorem zw_lcR3 {vs : List Nat} (h : ZA K E tA S M (fun zs M1 => ∃ (a b c : Int) (m : Nat), zs = [.d (.int a), .d (.int b), .d (.int c)] ∧ RgC a b c m ∧ m ≤ sizeLine ∧ ∃ I : Nat → List PyData → Ms → Prop, I 0 [] M1 ∧ (∀ i, i < m → LcTurn K E g tt te S vs I i (.int (a + (i : Nat) * c))) ∧ (∀ acc M', I m acc M' → Q (.d (.list acc)) M')) X) :
    ZW K E (tLc (iRng3 tA) g tt te vs) S M Q X := fun n σ G H R Qv k kx =>
  h n σ G H R _ (fun us G1 H1 zs M1 e1 R1 a1 ⟨a, b, c, m, hz, hr, hm, I, i0, turn, last⟩ => by
    subst hz
    cases a1 with
    | cons x1 a1 => cases a1 with
      | cons x2 a1 => cases a1 with
        | cons x3 a1 =>
          cases a1
          obtain rfl := dp_int x1
          obtain rfl := dp_int x2
          obtain rfl := dp_int x3
          refine ⟨a, b, c, m, rfl, hr, fun D hD => ⟨fun i k H' => k = m - i ∧ i ≤ m ∧ LcI K n G1 S σ vs D I i H', ⟨m, rfl, Nat.zero_le _, lc_start R1 hD i0⟩, ?_⟩⟩
          rintro i k2 H' ⟨rfl, hi, hL⟩
          rcases Nat.lt_or_ge i m with lt | ge
          · refine .inr ⟨lt, LcI K n G1 S σ vs D I (i + 1), fun H2 q => ⟨_, by omega, rfl, lt, q⟩, fun y H2 hy => ?_⟩
            obtain ⟨e, rfl⟩ := hy
            subst e
            exact lc_turn (turn i lt) hL (Dz.int _) (by omega)
          · obtain rfl : i = m := by omega
            exact .inl ⟨(by first | exact Nat.lt_irrefl _ | exact Nat.le_refl _), lc_done R1 hL last fun v G' H' z M' e' => k v G' H' z M' (e1.trans e')⟩) kx
end
end Z
/-! an object's own list of own lists becomes data in its field -/
namespace Z
open PySem PySem.Spec PyProof.Rows L2
open Evl (Ex)
section
variable {K : Fg} {E : L2.St → XK} {n : Sn} {S : Zs} {M : Ms} {σ : L2.St} {G H : Hp} {p D C : Addr} {t : TS} {P : ZP}
/-- a cell in another shape -/
theorem Rel.reshape {b : Bool} {c c' : CD} (R : Rel K n S ((p, b, c) :: M) σ G H) (h : CD.at K G H p c → CD.at K G H p c') : Rel K n S ((p, b, c') :: M) σ G H := by
  have hp := R.ce p b c List.mem_cons_self
  refine ⟨R.ex, R.len, R.sl, R.nd, fun a b2 c2 hm => ?_, R.g0, R.h0, R.lv, R.f0, fun a c2 hm => ?_, fun a c2 hm => ?_⟩
  · rcases List.mem_cons.mp hm with z | z
    · cases z
      exact ⟨hp.1, h hp.2⟩
    · exact R.ce a b2 c2 (List.mem_cons_of_mem _ z)
  · rcases List.mem_cons.mp hm with z | z
    · cases z
      exact R.a0 _ _ List.mem_cons_self
    · exact R.a0 a c2 (List.mem_cons_of_mem _ z)
  · rcases List.mem_cons.mp hm with z | z
    · cases z
      exact R.o0 _ _ List.mem_cons_self
    · exact R.o0 a c2 (List.mem_cons_of_mem _ z)
theorem Rel.frzNest {qs : List Addr} {xss : List (List PyData)} (R : Rel K n S ((D, true, .lz (qs.map ZV.c)) :: (nestM qs xss ++ M)) σ G H) (hl : qs.length = xss.length) : ∃ G', Ex G G' ∧ Rel K n S M σ G' H ∧ Dz K G' (.ref D) (.list (xss.map .list)) := by
  obtain ⟨G2, e2, R2, d2⟩ := R.frzN hl
  have R3 : Rel K n S ((D, true, .lst (xss.map .list)) :: M) σ G2 H := R2.reshape fun ⟨ws, w1, w2⟩ => by
    rw [refs_of_c w2] at w1
    exact ⟨_, w1, d2⟩
  obtain ⟨G3, e3, R4, d4⟩ := R3.frz .here
  exact ⟨G3, e2.trans e3, R4, d4⟩
/-- the fields, the one that holds D as data -/
def Dated (D : Addr) (d : PyData) (fs fs' : List (Str × ZV)) : Prop := Paired (fun (a b : Str × ZV) => a.1 = b.1 ∧ (a.2 = b.2 ∨ (a.2 = .c D ∧ b.2 = .d d))) fs fs'
theorem dated_at {d : PyData} (hd : Dz K G (.ref D) d) : ∀ {fs fs' : List (Str × ZV)} {fv : List (Str × V)}, Dated D d fs fs' → Paired (fun (a : Str × V) (b : Str × ZV) => a.1 = b.1 ∧ ZV.at K G a.2 b.2) fv fs → Paired (fun (a : Str × V) (b : Str × ZV) => a.1 = b.1 ∧ ZV.at K G a.2 b.2) fv fs'
  | _, _, _, .nil, .nil => .nil
  | _, _, _, .cons q r, .cons x y => by
    refine .cons ⟨x.1.trans q.1, ?_⟩ (dated_at hd r y)
    rcases q.2 with z | ⟨z1, z2⟩
    · rw [← z]
      exact x.2
    · have hx := x.2
      rw [z1] at hx
      have hx : _ = V.ref D := hx
      rw [z2, hx]
      exact hd
/-- behind a statement: an object's own list of own lists is data -/
theorem zs_postD {N : Zs → Ms → Prop} (h : ZS K E t S M { P with nx := N }) (hi : ∀ S' M', N S' M' → ∃ b C D qs xss fs fs' M2 p, M'.Perm ((p, b, .obj C fs) :: (D, true, .lz (qs.map ZV.c)) :: (nestM qs xss ++ M2)) ∧ qs.length = xss.length ∧ Dated D (.list (xss.map .list)) fs fs' ∧ P.nx S' ((p, b, .obj C fs') :: M2)) : ZS K E t S M P := fun n σ G H R D k =>
  h n σ G H R D ⟨fun σ' G' H' S' M' e R' z => by
    obtain ⟨b, C, D, qs, xss, fs, fs', M2, p, hp, hl, hd, q⟩ := hi S' M' z
    have R2 := (R'.perm hp).perm (List.Perm.swap _ _ _)
    have R3 := R2.perm (List.Perm.cons _ (List.perm_middle (l₁ := nestM qs xss) (a := (p, b, CD.obj C fs)) (l₂ := M2)).symm)
    obtain ⟨G3, e3, R4, d4⟩ := R3.frzNest hl
    exact k.nx σ' G3 H' S' _ (e.trans e3) (R4.reshape (c' := .obj C fs') fun ⟨dx, fv, h1, h2, h3, h4⟩ => ⟨dx, fv, h1, h2, h3, dated_at d4 hd h4⟩) q, k.rt, k.bk, k.ct, k.ex⟩
end
section
variable {K : Fg} {E : L2.St → XK} {to tv te : TE} {S : Zs} {M : Ms} {P : ZP} {Q : QZ} {X : XZ}
/-- a field set, the class told by the field -/
theorem zs_fldN {C : Addr} {f : Str} {to tv : TE} (na : NoAttr K C f) (cl : Cls K C) (h : ZW K E tv S M (fun y M1 => ZW K E to S M1 (fun z M2 => ∃ p b fs M3, z = .c p ∧ fs.length < 1000 ∧ Upd1 p b (.obj C fs) (.obj C (putZ f y fs)) M2 M3 ∧ P.nx S M3) P.ex) P.ex) : ZS K E (sFld K to tv f) S M P := zs_fld cl na h
theorem Upd1.pre {p : Addr} {b : Bool} {c c' : CD} {M M' : Ms} (h : Upd1 p b c c' M M') : ∀ N : Ms, Upd1 p b c c' (N ++ M) (N ++ M')
  | [] => h
  | _ :: N => .there (Upd1.pre h N)
theorem nest_mem {qs : List Addr} {xss : List (List PyData)} {k : Nat} {q : Addr} {xs : List PyData} (h1 : qs[k]? = some q) (h2 : xss[k]? = some xs) : (q, true, CD.lst xs) ∈ nestM qs xss := by
  unfold nestM
  exact List.mem_map.mpr ⟨(q, xs), List.mem_of_getElem? (i := k) (List.getElem?_zip_eq_some.mpr ⟨h1, h2⟩), rfl⟩
end
end Z
/-! an own list, so often; the sum of an own list -/
namespace Z
open PySem PySem.Spec PyProof.Rows L2
open Evl (Ex)
section
variable {K : Fg} {M : Ms} {Q : QZ} {p : Addr} {b : Bool}
theorem zo_rep {xs : List PyData} {k : Nat} (hm : (p, b, CD.lst xs) ∈ M) (hk : k ≤ 1000000) (hl : xs.length * k ≤ sizeLine) (q : ∀ r, Q (.c r) ((r, true, .lst (List.replicate k xs).flatten) :: M)) : ZO K rRep (.c p) (.d (.int (k : Int))) M Q := fun n S σ G H R v u a c Qv kk => by
  obtain rfl : v = .ref p := a
  obtain rfl := dp_int c
  obtain ⟨_, ws, h1, h2⟩ := R.ce p b _ hm
  refine ⟨p, (k : Int), ws, rfl, rfl, h1, by omega, by omega, by rw [dpa_len h2, Int.toNat_natCast]; exact hl, fun r hr => ?_⟩
  rw [Int.toNat_natCast]
  exact kk (.ref r) G _ (.c r) _ (Ex.refl G) (R.newLst hr (dpa_flat_rep h2 k)) rfl (q r)
theorem rep_one {α : Type} (x : α) (k : Nat) : (List.replicate k [x]).flatten = List.replicate k x := by
  induction k with
  | zero => rfl
  | succ k ih => rw [List.replicate_succ, List.flatten_cons, ih, List.replicate_succ]; rfl
end
end Z
/-! a list from its end; where the first True stands -/
namespace Z
open PySem PySem.Spec PyProof.Rows L2
open Evl (Ex)
section
variable {K : Fg} {E : L2.St → XK} {te : TE} {S : Zs} {M : Ms} {Q : QZ} {X : XZ} {p : Addr} {b : Bool}
theorem dza_rev {G : Hp} : ∀ {vs : List V} {xs : List PyData}, DzAll K G vs xs → DzAll K G vs.reverse xs.reverse
  | _, _, .nil => .nil
  | _, _, .cons a h => by
    rw [List.reverse_cons, List.reverse_cons]
    exact dpa_app (dza_rev h) (.cons a .nil)
/-- of data -/
theorem zw_revD (h : ZW K E te S M (fun z M1 => ∃ xs, z = .d (.list xs) ∧ ∀ r, Q (.c r) ((r, true, .lst xs.reverse) :: M1)) X) : ZW K E (tRevL K te) S M Q X := fun n σ G H R Qv k kx =>
  h n σ G H R _ (fun v G1 H1 z M1 e1 R1 a1 ⟨xs, hz, q⟩ => by
    subst hz
    obtain ⟨p, vs, rfl, h1, h2⟩ := dp_lst a1
    exact ⟨p, vs, rfl, Evl.ex_l R1.ex h1, fun r hr => k (.ref r) _ _ (.c r) _ e1 (R1.newLst hr (dza_rev h2)) rfl (q r)⟩) kx
/-- of an own list -/
theorem zw_revC (h : ZW K E te S M (fun z M1 => ∃ p b xs, z = .c p ∧ (p, b, CD.lst xs) ∈ M1 ∧ ∀ r, Q (.c r) ((r, true, .lst xs.reverse) :: M1)) X) : ZW K E (tRevL K te) S M Q X := fun n σ G H R Qv k kx =>
  h n σ G H R _ (fun v G1 H1 z M1 e1 R1 a1 ⟨p, b, xs, hz, hm, q⟩ => by
    subst hz
    obtain rfl : v = .ref p := a1
    obtain ⟨_, ws, h1, h2⟩ := R1.ce p b _ hm
    exact ⟨p, ws, rfl, Evl.sq_of h1, fun r hr => k (.ref r) _ _ (.c r) _ e1 (R1.newLst hr (dza_rev h2)) rfl (q r)⟩) kx
theorem flat_bools (l : List Bool) : (l.map V.bl).all flatV = true := by
  rw [List.all_eq_true]
  intro v hv
  obtain ⟨b, _, rfl⟩ := List.mem_map.mp hv
  rfl
theorem zm_indexB {l : List Bool} {j : Nat} (h1 : l[j]? = some true) (h2 : ∀ m, m < j → l[m]? = some false) (q : Q (.d (.int (j : Nat))) M) : ZM K (rIndex K) (.d (.list (l.map PyData.bool))) [.d (.bool true)] M Q := fun n S σ G H R v vs av au Qv k => by
  obtain ⟨u, rfl, au2⟩ := zall1 au
  obtain ⟨p, ws, rfl, a1, a2⟩ := dp_lst av
  obtain rfl := dza_bools a2
  have eu : u = .bl true := by cases au2; rfl
  subst eu
  refine ⟨p, _, .bl true, j, .bl true, rfl, rfl, Evl.ex_l R.ex a1, rfl, flat_bools l, by rw [List.getElem?_map, h1]; rfl, rfl, fun m z hm hz => ?_, k _ G H (.d (.int (j : Nat))) M (Ex.refl G) R (.int _) q⟩
  rw [List.getElem?_map, h2 m hm] at hz
  cases hz
  rfl
/-- a list's method, the list being data -/
theorem zw_bmL {to : TE} {tA : TA} {r : V → List V → Hp → VK → Prop} (h : ZW K E to S M (fun z M0 => ∃ xs, z = .d (.list xs) ∧ ZA K E tA S M0 (fun zs M1 => ZM K r (.d (.list xs)) zs M1 Q) X) X) : ZW K E (tBM K "list" r to tA) S M Q X := fun n σ G H R Qv k kx =>
  h n σ G H R _ (fun v G0 H0 z M0 e0 R0 a0 ⟨xs, hz, h2⟩ => by
    subst hz
    have a0' : Dz K G0 v (.list xs) := a0
    obtain ⟨p, ws, rfl, h3, h4⟩ := dp_lst a0'
    refine ⟨.inl ⟨rfl, ws, Evl.ex_l R0.ex h3⟩, h2 n σ G0 H0 R0 _ (fun vs G1 H1 zs M1 e1 R1 a1 h5 => ?_) (kx.mono e0)⟩
    exact h5 n S σ G1 H1 R1 (.ref p) vs (dp_mono e1 a0') a1 Qv fun w G' H' z M' e' R' a' q => k w G' H' z M' ((e0.trans e1).trans e') R' a' q) kx
end
end Z
/-! [e for a, b in zip(two lists)] -/
namespace Z
open PySem PySem.Spec PyProof.Rows L2
open Evl (Ex)
section
variable {K : Fg} {n : Sn} {S : Zs} {M : Ms} {σ : L2.St} {G H : Hp} {E : L2.St → XK} {Q : QZ} {X : XZ} {tA : TA} {te : TE} {tt : TT} {g : TG}
theorem zw_lcZip {vs : List Nat} (h : ZA K E tA S M (fun zs M1 => ∃ xs ys, zs = [.d (.list xs), .d (.list ys)] ∧ xs.length ≤ ys.length ∧ xs.length ≤ sizeLine ∧ ∃ I : Nat → List PyData → Ms → Prop, I 0 [] M1 ∧ (∀ i x y, xs[i]? = some x → ys[i]? = some y → LcTurn K E g tt te S vs I i (.tuple [x, y])) ∧ (∀ acc M', I xs.length acc M' → Q (.d (.list acc)) M')) X) :
    ZW K E (tLc (iZip K tA) g tt te vs) S M Q X := fun n σ G H R Qv k kx =>
  h n σ G H R _ (fun us G1 H1 zs M1 e1 R1 a1 ⟨xs, ys, hz, hxy, hl, I, i0, is, id⟩ => by
    subst hz
    cases a1 with
    | cons av a1 =>
    obtain ⟨v2, rfl, av2⟩ := zall1 a1
    obtain ⟨p, ws, rfl, h1, h2⟩ := dp_lst av
    obtain ⟨p', ws', rfl, h1', h2'⟩ := dp_lst av2
    have hlw := dpa_len h2
    have hlw' := dpa_len h2'
    have stays : ∀ {i : Nat} {D : Addr} {H' : Hp}, LcI K n G1 S σ vs D I i H' → SqL K H' p ws ∧ SqL K H' p' ws' := fun ⟨G', _, _, R', e', _⟩ => ⟨Evl.ex_l (e'.trans R'.ex) h1, Evl.ex_l (e'.trans R'.ex) h1'⟩
    refine ⟨p, p', ws, ws', rfl, Evl.ex_l R1.ex h1, Evl.ex_l R1.ex h1', fun D hD => ⟨fun i m H' => m = ws.length - i ∧ i ≤ ws.length ∧ LcI K n G1 S σ vs D I i H', ⟨_, rfl, Nat.zero_le _, lc_start R1 hD i0⟩, ?_⟩⟩
    rintro i m H' ⟨rfl, hi, hL⟩
    obtain ⟨st, st'⟩ := stays hL
    rcases Nat.lt_or_ge i ws.length with hlt | hge
    · have hlt' : i < ws'.length := by omega
      have hw : ws[i]? = some ws[i] := List.getElem?_eq_getElem hlt
      have hw' : ws'[i]? = some ws'[i] := List.getElem?_eq_getElem hlt'
      obtain ⟨d, hd, ad⟩ := dpa_at_v h2 hw
      obtain ⟨d', hd', ad'⟩ := dpa_at_v h2' hw'
      refine .inr ⟨⟨ws, ws', _, _, st, st', hw, hw'⟩, LcI K n G1 S σ vs D I (i + 1), fun H2 q => ⟨_, by omega, rfl, hlt, q⟩, fun y H2 hy => ?_⟩
      obtain ⟨T, x, y, rfl, hT, rfl, hx, hy⟩ := hy
      obtain rfl : x = ws[i] := Option.some.inj ((hx ws st).symm.trans hw)
      obtain rfl : y = ws'[i] := Option.some.inj ((hy ws' st').symm.trans hw')
      obtain ⟨G', M', acc, R', e', hla, hI⟩ := hL
      have gT := ex_gnone R'.ex hT
      have e2 := e'.trans (Ex.new (o := .tup [ws[i], ws'[i]]) gT)
      exact lc_turnH (is i d d' hd hd') (R'.new (o := .tup [ws[i], ws'[i]]) hT (fun _ z => nomatch z)) e2 hla hI (.tup (.inl upd_same) (.cons (dp_mono e2 ad) (.cons (dp_mono e2 ad') .nil))) (by omega)
    · obtain rfl : i = ws.length := by omega
      exact .inl ⟨⟨ws, ws', st, st', .inl (Nat.le_refl _)⟩, lc_done R1 hL (fun acc M' q => id acc M' (by rw [← hlw]; exact q)) fun v G' H' z M' e' => k v G' H' z M' (e1.trans e')⟩) kx
theorem ZA.imp' {Q Q' : List ZV → Ms → Prop} (h : ZA K E tA S M Q X) (i : ∀ zs M', Q zs M' → Q' zs M') : ZA K E tA S M Q' X := fun n σ G H R Qv q x => h n σ G H R Qv (fun v G' H' z M' e R' a b => q v G' H' z M' e R' a (i _ _ b)) x
/-- a list of whole numbers -/
abbrev iD (l : List Int) : PyData := .list (l.map .int)
theorem zipWith_take (f : Int → Int → Int) : ∀ (a b : List Int) (i : Nat) {x y : Int}, a[i]? = some x → b[i]? = some y → (List.zipWith f a b).take (i + 1) = (List.zipWith f a b).take i ++ [f x y] := by
  intro a b i x y ha hb
  rw [List.take_add_one, List.getElem?_zipWith, ha, hb]
  rfl
theorem lcZip_int {vs : List Nat} (a b : List Int) (f : Int → Int → Int) (h : ZA K E tA S M (fun zs M1 => zs = [.d (iD a), .d (iD b)] ∧ a.length ≤ b.length ∧ a.length ≤ sizeLine ∧
      (∀ x ∈ a, ∀ y ∈ b, ∃ is S2, (∀ j ∈ is, j ∈ vs) ∧ ZG K g (.d (.tuple [.int x, .int y])) (wipeZ S vs) is S2 ∧ ∀ D acc, ZW K E te S2 ((D, true, .lst acc) :: M1) (fun y' Mc => y' = .d (.int (f x y)) ∧ Mc = (D, true, .lst acc) :: M1) fun _ _ _ => False) ∧ Q (.d (iD (List.zipWith f a b))) M1) X) : ZW K E (tLc (iZip K tA) g tYes te vs) S M Q X := by
  refine zw_lcZip (ZA.imp' h fun zs M1 ⟨hz, hab, hl, each, q⟩ => ⟨_, _, hz, by rw [List.length_map, List.length_map]; exact hab, by rw [List.length_map]; exact hl, fun i acc M' => M' = M1 ∧ acc = ((List.zipWith f a b).take i).map .int, ⟨rfl, by simp⟩, fun i x y hx hy acc M' D hI => ?_, fun acc M' hI => ?_⟩)
  · rw [List.getElem?_map] at hx hy
    obtain ⟨u, hu, rfl⟩ := Option.map_eq_some_iff.mp hx
    obtain ⟨v, hv, rfl⟩ := Option.map_eq_some_iff.mp hy
    obtain ⟨is, S2, h1, h2, h3⟩ := each u (List.mem_of_getElem? hu) v (List.mem_of_getElem? hv)
    obtain ⟨rfl, rfl⟩ := hI
    refine ⟨is, S2, h1, h2, zt_yes ⟨fun e => Bool.noConfusion e, fun _ => (h3 D _).imp fun y' Mc hy' => ?_⟩⟩
    obtain ⟨rfl, rfl⟩ := hy'
    exact ⟨_, _, rfl, rfl, rfl, by rw [zipWith_take f a b i hu hv, List.map_append]; rfl⟩
  · obtain ⟨rfl, rfl⟩ := hI
    rw [List.length_map, show a.length = (List.zipWith f a b).length by rw [List.length_zipWith]; omega, List.take_length]
    exact q
/-- for c in a text -/
theorem zs_forS {t : TS} {P : ZP} (h : ZW K E te S M (fun z M1 => ∃ x : Str, z = .d (.str x) ∧ ∃ I : Nat → Zs → Ms → Prop, I 0 S M1 ∧
      (∀ i c S' M', x.cps[i]? = some c → I i S' M' → ∃ is S2, ZG K g (.d (.str ⟨#[c]⟩)) S' is S2 ∧ ZS K E t S2 M' (LoopP P (I (i + 1)))) ∧ (∀ S' M', I x.cps.size S' M' → P.nx S' M')) P.ex) : ZS K E (tFor (iStr te) g t) S M P := by
  intro n σ G H R D k
  refine h n σ G H R _ (fun v G1 H1 z M1 e1 R1 a1 ⟨x, hz, I, i0, is, id⟩ => ?_) k.xok
  subst hz
  obtain rfl := dp_str a1
  refine ⟨x, rfl, fun i m σ' H' => m = x.cps.size - i ∧ i ≤ x.cps.size ∧ FI K n G1 I i σ' H', ⟨_, rfl, Nat.zero_le _, G1, S, M1, R1, Ex.refl _, i0⟩, ?_⟩
  rintro i m σ' H' ⟨rfl, hi, G', S', M', R', e', hI⟩
  by_cases hlt : i < x.cps.size
  · refine .inr ⟨hlt, FI K n G1 I (i + 1), fun σ2 H2 q => ⟨_, by omega, rfl, hlt, q⟩, fun y H2 hy => ?_⟩
    obtain ⟨rfl, c, hc, rfl⟩ := hy
    obtain ⟨js, S2, hg, hb⟩ := is i c S' M' hc hI
    refine hg n M' σ' _ _ _ R' (Dz.str _) _ fun σ2 _ _ R3 => hb n σ2 _ _ R3 _ ((k.mono (e1.trans e')).loop fun σ3 G3 H3 S3 M3 e3 R4 i3 => ⟨G3, S3, M3, R4, e'.trans e3, i3⟩)
  · have e : i = x.cps.size := by omega
    subst e
    exact .inl ⟨Nat.le_refl _, k.nx σ' G' H' S' M' (e1.trans e') R' (id S' M' hI)⟩
theorem zc_intB {b : Bool} (q : Q (.d (.int (if b then 1 else 0))) M) : ZC K rIntA [.d (.bool b)] M Q := zc_val (z := .d (.int (if b then 1 else 0))) (fun G H vs e a => by
  obtain ⟨v, rfl, av⟩ := zall1 a
  have ev : v = .bl b := by cases av; rfl
  exact ⟨.int (if b then 1 else 0), Dz.int _, fun Qv hq => .inl (.inr ⟨b, by rw [ev], hq⟩)⟩) q
end
end Z
/-! nested data compared by >; d[row] of an own dict -/
namespace Z
open PySem PySem.Spec PyProof.Rows L2
open Evl (Ex)
def rGtD (K : Fg) : R2 := fun x y H Q => ∃ da db : PyData, L2.Dp K H x da ∧ L2.Dp K H y db ∧ PySem.W.alike da db = true ∧ da ≠ .none ∧ da.depth ≤ 60 ∧ Q (.bl (PySem.W.dataLt db da)) H
theorem op_gtD {X : Cx} (hu : X.A.units + 64 < cLine) : OpR X (compareOp .Gt) (rGtD X.K) := by
  rintro pins s σ H x y v u Q I rx ry ⟨da, db, hx, hy, ha, hn, hd, q⟩
  obtain ⟨as, h1⟩ := L2.Dp.reads I _ _ _ hx rx
  obtain ⟨bs, h2⟩ := L2.Dp.reads I _ _ _ hy ry
  exact PySem.W.gt_data h1 h2 ha hn (by have := Nat.min_le_left da.depth db.depth; omega) ⟨.bl _, _, I, rfl, q⟩
section
variable {K : Fg} {E : L2.St → XK} {S : Zs} {M : Ms} {Q : QZ} {X : XZ}
theorem zo_gtD {da db : PyData} (ha : PySem.W.alike da db = true) (hn : da ≠ .none) (hd : da.depth ≤ 60) (q : Q (.d (.bool (PySem.W.dataLt db da))) M) : ZO K (rGtD K) (.d da) (.d db) M Q :=
  zo_val (z := .d (.bool (PySem.W.dataLt db da))) (fun G H v u e a b => ⟨_, Dz.bl _, fun Qv hq => ⟨da, db, dz_dp (dp_mono e a), dz_dp (dp_mono e b), ha, hn, hd, hq⟩⟩) q
theorem zw_dgetT {tk td : TE} (h : ZW K E td S M (fun z M1 => ∃ p, z = .c p ∧ ZW K E tk S M1 (fun y M2 => ∃ i r b kvs d, y = .d (rowD (i :: r)) ∧ (p, b, CD.dT kvs) ∈ M2 ∧ heldP kvs (keyI (i :: r)) = some d ∧ Q (.d d) M2) X) X) : ZW K E (tDGet td tk) S M Q X := fun n σ G H R Qv k kx =>
  h n σ G H R _ (fun v G1 H1 z M1 e1 R1 a1 ⟨p, hz, h2⟩ => by
    subst hz
    obtain rfl : v = .ref p := a1
    exact h2 n σ G1 H1 R1 _ (fun y G2 H2 zy M2 e2 R2 a2 ⟨i, r, b, kvs, d, hy, hm, hd, q⟩ => by
      subst hy
      obtain ⟨c, rfl, hc⟩ := dz_key a2
      obtain ⟨_, ws, hw, rel⟩ := R2.ce p b _ hm
      rcases held_rel rel (keyI (i :: r)) with ⟨x1, x2⟩ | ⟨d', v, x1, x2, x3⟩
      · rw [x1] at hd; cases hd
      · rw [x1] at hd
        cases hd
        refine ⟨p, v, rfl, ?_, k v G2 H2 (.d d) M2 (e1.trans e2) R2 x3 q⟩
        rw [← x2]
        exact DGet.t hw (R2.ex _ _ hc)) (kx.mono e1)) kx
end
end Z
set_option autoImplicit true
namespace K26
open PySem PySem.Spec PyProof.Rows L2 Z
local macro_rules | `(tactic| walk_at "zd") => `(tactic| repeat (first | exact allD_nil | refine allD_cons ?_))
local macro_rules | `(tactic| walk_at "zm") => `(tactic| first | exact m1 (m1 (m1 (m1 m0))) | fail)
local macro_rules | `(tactic| walk_at "zm") => `(tactic| first | exact m1 (m1 (m1 m0)) | fail)
local macro_rules | `(tactic| walk_at "zm") => `(tactic| first | exact m1 (m1 m0) | fail)
local macro_rules | `(tactic| walk_at "zm") => `(tactic| first | exact m1 m0 | fail)
local macro_rules | `(tactic| walk_at "zm") => `(tactic| first | exact m0 | fail)
local macro_rules | `(tactic| walk_at "zu") => `(tactic| first | exact .there (.there (.there (.there .here))) | fail)
local macro_rules | `(tactic| walk_at "zu") => `(tactic| first | exact .there (.there (.there .here)) | fail)
local macro_rules | `(tactic| walk_at "zu") => `(tactic| first | exact .there (.there .here) | fail)
local macro_rules | `(tactic| walk_at "zu") => `(tactic| first | exact .there .here | fail)
local macro_rules | `(tactic| walk_at "zu") => `(tactic| first | exact .here | fail)
local macro_rules | `(tactic| walk_at "z") => `(tactic| first | with_reducible refine zw_chain ?_ | fail)
local macro_rules | `(tactic| walk_at "z") => `(tactic| first | with_reducible refine zj_cons ?_ | fail)
local macro_rules | `(tactic| walk_at "z") => `(tactic| first | with_reducible refine zj_nil ?_ | fail)
local macro_rules | `(tactic| walk_at "z") => `(tactic| first | with_reducible refine zw_js ?_ | fail)
local macro_rules | `(tactic| walk_at "z") => `(tactic| first | with_reducible refine' zs_raiseS ?_ | fail)
local macro_rules | `(tactic| walk_at "z") => `(tactic| first | with_reducible refine zo_inLS ?_ | fail)
local macro_rules | `(tactic| walk_at "z") => `(tactic| first | with_reducible refine zo_inTS ?_ | fail)
local macro_rules | `(tactic| walk_at "z") => `(tactic| first | with_reducible refine zo_neS ?_ | fail)
local macro_rules | `(tactic| walk_at "z") => `(tactic| first | with_reducible refine zo_neI ?_ | fail)
local macro_rules | `(tactic| walk_at "z") => `(tactic| first | with_reducible refine zo_neB ?_ | fail)
local macro_rules | `(tactic| walk_at "z") => `(tactic| first | with_reducible refine zo_eqB ?_ | fail)
local macro_rules | `(tactic| walk_at "z") => `(tactic| first | with_reducible refine zo_notN ?_ | fail)
local macro_rules | `(tactic| walk_at "z") => `(tactic| first | with_reducible refine zo_isN ?_ | fail)
local macro_rules | `(tactic| walk_at "z") => `(tactic| first | with_reducible refine zc_max2 ?_ | fail)
local macro_rules | `(tactic| walk_at "z") => `(tactic| first | with_reducible refine zc_min2 ?_ | fail)
local macro_rules | `(tactic| walk_at "z") => `(tactic| first | with_reducible refine zs_par3 ?_ | fail)
local macro_rules | `(tactic| walk_at "z") => `(tactic| first | with_reducible refine zo_eqS ?_ | fail)
local macro_rules | `(tactic| walk_at "z") => `(tactic| first | with_reducible refine zo_eqI ?_ | fail)
local macro_rules | `(tactic| walk_at "z") => `(tactic| first | with_reducible refine zt_yes ?_ | fail)
local macro_rules | `(tactic| walk_at "z") => `(tactic| first | with_reducible refine zw_lcR2 ?_ | fail)
local macro_rules | `(tactic| walk_at "z") => `(tactic| first | with_reducible refine zw_lcR1 ?_ | fail)
local macro_rules | `(tactic| walk_at "z") => `(tactic| first | with_reducible refine zs_forR2 ?_ | fail)
local macro_rules | `(tactic| walk_at "z") => `(tactic| first | with_reducible refine zs_forR1 ?_ | fail)
local macro_rules | `(tactic| walk_at "z") => `(tactic| first | with_reducible refine zs_forL ?_ | fail)
local macro_rules | `(tactic| walk_at "z") => `(tactic| first | with_reducible refine zs_forT ?_ | fail)
local macro_rules | `(tactic| walk_at "z") => `(tactic| first | with_reducible refine zw_call ?_ | fail)
local macro_rules | `(tactic| walk_at "z") => `(tactic| first | with_reducible refine zw_callC ?_ | fail)
local macro_rules | `(tactic| walk_at "z") => `(tactic| first | with_reducible refine zw_callO ?_ | fail)
local macro_rules | `(tactic| walk_at "z") => `(tactic| first | with_reducible refine zw_methO ?_ | fail)
local macro_rules | `(tactic| walk_at "z") => `(tactic| first | with_reducible refine zw_make ?_ | fail)
local macro_rules | `(tactic| walk_at "z") => `(tactic| first | with_reducible refine zw_callO0 ?_ | fail)
local macro_rules | `(tactic| walk_at "z") => `(tactic| first | with_reducible refine zw_methO0 ?_ | fail)
local macro_rules | `(tactic| walk_at "z") => `(tactic| first | with_reducible refine zw_make0 ?_ | fail)
local macro_rules | `(tactic| walk_at "z") => `(tactic| first | with_reducible refine zw_callC0 ?_ | fail)
local macro_rules | `(tactic| walk_at "z") => `(tactic| first | with_reducible refine zw_call0 ?_ | fail)
local macro_rules | `(tactic| walk_at "z") => `(tactic| first | with_reducible refine zs_asgG ?_ | fail)
local macro_rules | `(tactic| walk_at "z") => `(tactic| first | with_reducible refine' zs_raiseO ?_ | fail)
local macro_rules | `(tactic| walk_at "z") => `(tactic| first | with_reducible refine zw_con (by assumption) ?_ | fail)
local macro_rules | `(tactic| walk_at "z") => `(tactic| first | with_reducible refine zt_tru ?_ | fail)
local macro_rules | `(tactic| walk_at "z") => `(tactic| first | ((with_reducible refine' zc_lenC ?za ?_); (case za => walk_at "zm")) | fail)
local macro_rules | `(tactic| walk_at "z") => `(tactic| first | ((with_reducible refine' zc_len ?zb ?_); (case zb => first | rfl | assumption)) | fail)
local macro_rules | `(tactic| walk_at "z") => `(tactic| first | ((with_reducible refine' zo_ix ?zb ?_); (case zb => first | rfl | assumption)) | fail)
local macro_rules | `(tactic| walk_at "z") => `(tactic| first | ((with_reducible refine' zo_ixC ?za ?zb ?_); (case za => walk_at "zm"); (case zb => first | exact atI0 | exact atI1 | exact atI2 | exact atI3 | assumption)) | fail)
local macro_rules | `(tactic| walk_at "z") => `(tactic| first | with_reducible refine zc_int ?_ | fail)
local macro_rules | `(tactic| walk_at "z") => `(tactic| first | with_reducible refine zw_cb ?_ | fail)
local macro_rules | `(tactic| walk_at "z") => `(tactic| first | with_reducible refine zw_isX rfl ?_ | fail)
local macro_rules | `(tactic| walk_at "z") => `(tactic| first | with_reducible refine zt_isi2 ?_ | fail)
local macro_rules | `(tactic| walk_at "z") => `(tactic| first | with_reducible refine zt_isi rfl ?_ | fail)
local macro_rules | `(tactic| walk_at "z") => `(tactic| first | with_reducible refine zu_neg ?_ | fail)
local macro_rules | `(tactic| walk_at "z") => `(tactic| first | with_reducible refine zo_ge ?_ | fail)
local macro_rules | `(tactic| walk_at "z") => `(tactic| first | with_reducible refine zo_gt ?_ | fail)
local macro_rules | `(tactic| walk_at "z") => `(tactic| first | with_reducible refine zo_le ?_ | fail)
local macro_rules | `(tactic| walk_at "z") => `(tactic| first | with_reducible refine zo_lt ?_ | fail)
local macro_rules | `(tactic| walk_at "z") => `(tactic| first | with_reducible refine zo_sub ?_ | fail)
local macro_rules | `(tactic| walk_at "z") => `(tactic| first | with_reducible refine za_i ?_ | fail)
local macro_rules | `(tactic| walk_at "z") => `(tactic| first | with_reducible refine za_nil ?_ | fail)
local macro_rules | `(tactic| walk_at "z") => `(tactic| first | with_reducible refine za_cons ?_ | fail)
local macro_rules | `(tactic| walk_at "z") => `(tactic| first | with_reducible refine zw_if ?_ | fail)
local macro_rules | `(tactic| walk_at "z") => `(tactic| first | with_reducible refine zw_notV ?_ | fail)
local macro_rules | `(tactic| walk_at "z") => `(tactic| first | with_reducible refine zw_orV ?_ | fail)
local macro_rules | `(tactic| walk_at "z") => `(tactic| first | with_reducible refine zw_andV ?_ | fail)
local macro_rules | `(tactic| walk_at "z") => `(tactic| first | with_reducible refine zt_or ?_ | fail)
local macro_rules | `(tactic| walk_at "z") => `(tactic| first | with_reducible refine zt_and ?_ | fail)
local macro_rules | `(tactic| walk_at "z") => `(tactic| first | with_reducible refine zt_not ?_ | fail)
local macro_rules | `(tactic| walk_at "z") => `(tactic| first | with_reducible refine zt_B ?_ | fail)
local macro_rules | `(tactic| walk_at "z") => `(tactic| first | with_reducible refine zt_test ?_ | fail)
local macro_rules | `(tactic| walk_at "z") => `(tactic| first | with_reducible refine zw_m1 ?_ | fail)
local macro_rules | `(tactic| walk_at "z") => `(tactic| first | with_reducible refine zp_some ?_ | fail)
local macro_rules | `(tactic| walk_at "z") => `(tactic| first | with_reducible refine zp_none ?_ | fail)
local macro_rules | `(tactic| walk_at "z") => `(tactic| first | with_reducible refine zw_sl ?_ | fail)
local macro_rules | `(tactic| walk_at "z") => `(tactic| first | with_reducible refine zw_tup ?_ | fail)
local macro_rules | `(tactic| walk_at "z") => `(tactic| first | with_reducible refine zw_un ?_ | fail)
local macro_rules | `(tactic| walk_at "z") => `(tactic| first | with_reducible refine zw_op ?_ | fail)
local macro_rules | `(tactic| walk_at "z") => `(tactic| first | with_reducible refine zw_non ?_ | fail)
local macro_rules | `(tactic| walk_at "z") => `(tactic| first | with_reducible refine zw_bl ?_ | fail)
local macro_rules | `(tactic| walk_at "z") => `(tactic| first | with_reducible refine zw_str ?_ | fail)
local macro_rules | `(tactic| walk_at "z") => `(tactic| first | with_reducible refine zw_int ?_ | fail)
local macro_rules | `(tactic| walk_at "z") => `(tactic| first | ((with_reducible refine' zw_var ?zv ?_); (case zv => rfl)) | fail)
local macro_rules | `(tactic| walk_at "z") => `(tactic| first | with_reducible refine zs_par ?_ | fail)
local macro_rules | `(tactic| walk_at "z") => `(tactic| first | with_reducible refine zs_if ?_ | fail)
local macro_rules | `(tactic| walk_at "z") => `(tactic| first | with_reducible refine zs_drop ?_ | fail)
local macro_rules | `(tactic| walk_at "z") => `(tactic| first | with_reducible refine zs_retN ?_ | fail)
local macro_rules | `(tactic| walk_at "z") => `(tactic| first | with_reducible refine zs_ret ?_ | fail)
local macro_rules | `(tactic| walk_at "z") => `(tactic| first | with_reducible refine zs_next ?_ | fail)
local macro_rules | `(tactic| walk_at "z") => `(tactic| first | with_reducible refine zs_setL ?_ | fail)
local macro_rules | `(tactic| walk_at "z") => `(tactic| first | with_reducible refine zs_asg ?_ | fail)
local macro_rules | `(tactic| walk_at "z") => `(tactic| first | with_reducible refine zs_seq ?_ | fail)
local macro_rules | `(tactic| walk_at "zz") => `(tactic| repeat (walk_at "z"))
local macro_rules | `(tactic| walk_at "ze") => `(tactic| first | exact ⟨_, rfl, rfl⟩ | fail)
local macro_rules | `(tactic| walk_at "ze") => `(tactic| first | refine ⟨_, rfl, ?_⟩ | fail)
local macro_rules | `(tactic| walk_at "ze") => `(tactic| first | refine ⟨_, _, rfl, rfl, ?_⟩ | fail)
local macro_rules | `(tactic| walk_at "ze") => `(tactic| first | refine ⟨_, _, _, rfl, rfl, rfl, ?_⟩ | fail)
local macro_rules | `(tactic| walk_at "ze") => `(tactic| first | refine ⟨_, _, zg_name, ?_⟩ | fail)
local macro_rules | `(tactic| walk_at "ze") => `(tactic| first | refine ⟨_, _, zg_tup rfl (zgs_cons (zgs_cons (zgs_cons zgs_nil))), ?_⟩ | fail)
local macro_rules | `(tactic| walk_at "ze") => `(tactic| first | refine ⟨_, _, zg_tup rfl (zgs_cons (zgs_cons zgs_nil)), ?_⟩ | fail)
local macro_rules | `(tactic| walk_at "ze") => `(tactic| first | refine ⟨fun z => Bool.noConfusion z, fun _ => ?_⟩ | fail)
local macro_rules | `(tactic| walk_at "ze") => `(tactic| first | refine ⟨fun _ => ?_, fun z => Bool.noConfusion z⟩ | fail)
local macro_rules | `(tactic| walk_at "zf") => `(tactic| first | with_reducible refine zs_fldaug (by assumption) (by assumption) ?_ | fail)
local macro_rules | `(tactic| walk_at "zf") => `(tactic| first | with_reducible refine zw_fld (by assumption) (by assumption) ?_ | fail)
local macro_rules | `(tactic| walk_at "zf") => `(tactic| first | with_reducible refine zs_fld (by assumption) (by assumption) ?_ | fail)
local macro_rules | `(tactic| walk_at "zf") => `(tactic| first | refine ⟨_, _, _, _, rfl, (by exact Nat.le_of_ble_eq_true rfl), .here, ?_⟩ | fail)
local macro_rules | `(tactic| walk_at "zf") => `(tactic| first | refine ⟨_, _, rfl, ⟨_, _, m0, rfl⟩, ?_⟩ | fail)
local macro_rules | `(tactic| walk_at "zf") => `(tactic| first | refine ⟨_, _, _, _, rfl, m0, rfl, ?_⟩ | fail)
local macro_rules | `(tactic| walk_at "zfq") => `(tactic| repeat (first | walk_at "zf" | walk_at "z" | walk_at "ze"))
local macro_rules | `(tactic| walk_at "zq") => `(tactic| repeat (first | walk_at "z" | walk_at "ze"))
local macro_rules | `(tactic| walk_at "zt") => `(tactic| first | (refine ⟨_, (allD_cons (allD_cons (allD_cons (allD_cons (allD_cons (allD_cons (allD_cons (allD_cons (allD_cons (allD_cons (allD_cons (allD_cons (allD_cons (allD_cons (allD_cons (allD_cons (allD_cons (allD_cons (allD_cons (allD_cons (allD_cons (allD_cons (allD_cons allD_nil))))))))))))))))))))))), (by rw [sizeLine_eq]; first | decide | exact Nat.le_of_ble_eq_true rfl), ?_⟩) | fail)
local macro_rules | `(tactic| walk_at "zt") => `(tactic| first | (refine ⟨_, (allD_cons (allD_cons (allD_cons (allD_cons (allD_cons (allD_cons (allD_cons (allD_cons (allD_cons (allD_cons (allD_cons (allD_cons (allD_cons (allD_cons (allD_cons (allD_cons (allD_cons (allD_cons (allD_cons (allD_cons (allD_cons (allD_cons allD_nil)))))))))))))))))))))), (by rw [sizeLine_eq]; first | decide | exact Nat.le_of_ble_eq_true rfl), ?_⟩) | fail)
local macro_rules | `(tactic| walk_at "zt") => `(tactic| first | (refine ⟨_, (allD_cons (allD_cons (allD_cons (allD_cons (allD_cons (allD_cons (allD_cons (allD_cons (allD_cons (allD_cons (allD_cons (allD_cons (allD_cons (allD_cons (allD_cons (allD_cons (allD_cons (allD_cons (allD_cons (allD_cons (allD_cons allD_nil))))))))))))))))))))), (by rw [sizeLine_eq]; first | decide | exact Nat.le_of_ble_eq_true rfl), ?_⟩) | fail)
local macro_rules | `(tactic| walk_at "zt") => `(tactic| first | (refine ⟨_, (allD_cons (allD_cons (allD_cons (allD_cons (allD_cons (allD_cons (allD_cons (allD_cons (allD_cons (allD_cons (allD_cons (allD_cons (allD_cons (allD_cons (allD_cons (allD_cons (allD_cons (allD_cons (allD_cons (allD_cons allD_nil)))))))))))))))))))), (by rw [sizeLine_eq]; first | decide | exact Nat.le_of_ble_eq_true rfl), ?_⟩) | fail)
local macro_rules | `(tactic| walk_at "zt") => `(tactic| first | (refine ⟨_, (allD_cons (allD_cons (allD_cons (allD_cons (allD_cons (allD_cons (allD_cons (allD_cons (allD_cons (allD_cons (allD_cons (allD_cons (allD_cons (allD_cons (allD_cons (allD_cons (allD_cons (allD_cons (allD_cons allD_nil))))))))))))))))))), (by rw [sizeLine_eq]; first | decide | exact Nat.le_of_ble_eq_true rfl), ?_⟩) | fail)
local macro_rules | `(tactic| walk_at "zt") => `(tactic| first | (refine ⟨_, (allD_cons (allD_cons (allD_cons (allD_cons (allD_cons (allD_cons (allD_cons (allD_cons (allD_cons (allD_cons (allD_cons (allD_cons (allD_cons (allD_cons (allD_cons (allD_cons (allD_cons (allD_cons allD_nil)))))))))))))))))), (by rw [sizeLine_eq]; first | decide | exact Nat.le_of_ble_eq_true rfl), ?_⟩) | fail)
local macro_rules | `(tactic| walk_at "zt") => `(tactic| first | (refine ⟨_, (allD_cons (allD_cons (allD_cons (allD_cons (allD_cons (allD_cons (allD_cons (allD_cons (allD_cons (allD_cons (allD_cons (allD_cons (allD_cons (allD_cons (allD_cons (allD_cons (allD_cons allD_nil))))))))))))))))), (by rw [sizeLine_eq]; first | decide | exact Nat.le_of_ble_eq_true rfl), ?_⟩) | fail)
local macro_rules | `(tactic| walk_at "zt") => `(tactic| first | (refine ⟨_, (allD_cons (allD_cons (allD_cons (allD_cons (allD_cons (allD_cons (allD_cons (allD_cons (allD_cons (allD_cons (allD_cons (allD_cons (allD_cons (allD_cons (allD_cons (allD_cons allD_nil)))))))))))))))), (by rw [sizeLine_eq]; first | decide | exact Nat.le_of_ble_eq_true rfl), ?_⟩) | fail)
local macro_rules | `(tactic| walk_at "zt") => `(tactic| first | (refine ⟨_, (allD_cons (allD_cons (allD_cons (allD_cons (allD_cons (allD_cons (allD_cons (allD_cons (allD_cons (allD_cons (allD_cons (allD_cons (allD_cons (allD_cons (allD_cons allD_nil))))))))))))))), (by rw [sizeLine_eq]; first | decide | exact Nat.le_of_ble_eq_true rfl), ?_⟩) | fail)
local macro_rules | `(tactic| walk_at "zt") => `(tactic| first | (refine ⟨_, (allD_cons (allD_cons (allD_cons (allD_cons (allD_cons (allD_cons (allD_cons (allD_cons (allD_cons (allD_cons (allD_cons (allD_cons (allD_cons (allD_cons allD_nil)))))))))))))), (by rw [sizeLine_eq]; first | decide | exact Nat.le_of_ble_eq_true rfl), ?_⟩) | fail)
local macro_rules | `(tactic| walk_at "zt") => `(tactic| first | (refine ⟨_, (allD_cons (allD_cons (allD_cons (allD_cons (allD_cons (allD_cons (allD_cons (allD_cons (allD_cons (allD_cons (allD_cons (allD_cons (allD_cons allD_nil))))))))))))), (by rw [sizeLine_eq]; first | decide | exact Nat.le_of_ble_eq_true rfl), ?_⟩) | fail)
local macro_rules | `(tactic| walk_at "zt") => `(tactic| first | (refine ⟨_, (allD_cons (allD_cons (allD_cons (allD_cons (allD_cons (allD_cons (allD_cons (allD_cons (allD_cons (allD_cons (allD_cons (allD_cons allD_nil)))))))))))), (by rw [sizeLine_eq]; first | decide | exact Nat.le_of_ble_eq_true rfl), ?_⟩) | fail)
local macro_rules | `(tactic| walk_at "zt") => `(tactic| first | (refine ⟨_, (allD_cons (allD_cons (allD_cons (allD_cons (allD_cons (allD_cons (allD_cons (allD_cons (allD_cons (allD_cons (allD_cons allD_nil))))))))))), (by rw [sizeLine_eq]; first | decide | exact Nat.le_of_ble_eq_true rfl), ?_⟩) | fail)
local macro_rules | `(tactic| walk_at "zt") => `(tactic| first | (refine ⟨_, (allD_cons (allD_cons (allD_cons (allD_cons (allD_cons (allD_cons (allD_cons (allD_cons (allD_cons (allD_cons allD_nil)))))))))), (by rw [sizeLine_eq]; first | decide | exact Nat.le_of_ble_eq_true rfl), ?_⟩) | fail)
local macro_rules | `(tactic| walk_at "zt") => `(tactic| first | (refine ⟨_, (allD_cons (allD_cons (allD_cons (allD_cons (allD_cons (allD_cons (allD_cons (allD_cons (allD_cons allD_nil))))))))), (by rw [sizeLine_eq]; first | decide | exact Nat.le_of_ble_eq_true rfl), ?_⟩) | fail)
local macro_rules | `(tactic| walk_at "zt") => `(tactic| first | (refine ⟨_, (allD_cons (allD_cons (allD_cons (allD_cons (allD_cons (allD_cons (allD_cons (allD_cons allD_nil)))))))), (by rw [sizeLine_eq]; first | decide | exact Nat.le_of_ble_eq_true rfl), ?_⟩) | fail)
local macro_rules | `(tactic| walk_at "zt") => `(tactic| first | (refine ⟨_, (allD_cons (allD_cons (allD_cons (allD_cons (allD_cons (allD_cons (allD_cons allD_nil))))))), (by rw [sizeLine_eq]; first | decide | exact Nat.le_of_ble_eq_true rfl), ?_⟩) | fail)
local macro_rules | `(tactic| walk_at "zt") => `(tactic| first | (refine ⟨_, (allD_cons (allD_cons (allD_cons (allD_cons (allD_cons (allD_cons allD_nil)))))), (by rw [sizeLine_eq]; first | decide | exact Nat.le_of_ble_eq_true rfl), ?_⟩) | fail)
local macro_rules | `(tactic| walk_at "zt") => `(tactic| first | (refine ⟨_, (allD_cons (allD_cons (allD_cons (allD_cons (allD_cons allD_nil))))), (by rw [sizeLine_eq]; first | decide | exact Nat.le_of_ble_eq_true rfl), ?_⟩) | fail)
local macro_rules | `(tactic| walk_at "zt") => `(tactic| first | (refine ⟨_, (allD_cons (allD_cons (allD_cons (allD_cons allD_nil)))), (by rw [sizeLine_eq]; first | decide | exact Nat.le_of_ble_eq_true rfl), ?_⟩) | fail)
local macro_rules | `(tactic| walk_at "zt") => `(tactic| first | (refine ⟨_, (allD_cons (allD_cons (allD_cons allD_nil))), (by rw [sizeLine_eq]; first | decide | exact Nat.le_of_ble_eq_true rfl), ?_⟩) | fail)
local macro_rules | `(tactic| walk_at "zt") => `(tactic| first | (refine ⟨_, (allD_cons (allD_cons allD_nil)), (by rw [sizeLine_eq]; first | decide | exact Nat.le_of_ble_eq_true rfl), ?_⟩) | fail)
local macro_rules | `(tactic| walk_at "zt") => `(tactic| first | (refine ⟨_, (allD_cons allD_nil), (by rw [sizeLine_eq]; first | decide | exact Nat.le_of_ble_eq_true rfl), ?_⟩) | fail)
local macro_rules | `(tactic| walk_at "zt") => `(tactic| first | (refine ⟨_, allD_nil, (by rw [sizeLine_eq]; first | decide | exact Nat.le_of_ble_eq_true rfl), ?_⟩) | fail)
local macro_rules | `(tactic| walk_at "z") => `(tactic| first | with_reducible refine par_go3 ?_ | fail)
local macro_rules | `(tactic| walk_at "z") => `(tactic| first | with_reducible refine par_go ?_ | fail)
local macro_rules | `(tactic| walk_at "z") => `(tactic| first | with_reducible refine zo_isntB ?_ | fail)
local macro_rules | `(tactic| walk_at "z") => `(tactic| first | with_reducible refine zo_isB ?_ | fail)
local macro_rules | `(tactic| walk_at "z") => `(tactic| first | with_reducible refine zc_gcd ?_ | fail)
local macro_rules | `(tactic| walk_at "z") => `(tactic| first | with_reducible refine zc_abs ?_ | fail)
local macro_rules | `(tactic| walk_at "z") => `(tactic| first | with_reducible refine zw_makeE ?_ | fail)
local macro_rules | `(tactic| walk_at "z") => `(tactic| first | with_reducible refine zw_callB0 ?_ | fail)
local macro_rules | `(tactic| walk_at "z") => `(tactic| first | with_reducible refine zc_any ?_ | fail)
local macro_rules | `(tactic| walk_at "z") => `(tactic| first | with_reducible refine zw_dget2 ?_ | fail)
local macro_rules | `(tactic| walk_at "z") => `(tactic| first | with_reducible refine zw_din ?_ | fail)
local macro_rules | `(tactic| walk_at "z") => `(tactic| first | with_reducible refine zo_leR ?_ | fail)
local macro_rules | `(tactic| walk_at "z") => `(tactic| first | with_reducible refine zw_callE0 ?_ | fail)
local macro_rules | `(tactic| walk_at "z") => `(tactic| first | with_reducible refine zs_forN ?_ | fail)
local macro_rules | `(tactic| walk_at "z") => `(tactic| first | with_reducible refine zw_makeI ?_ | fail)
local macro_rules | `(tactic| walk_at "z") => `(tactic| first | with_reducible refine zw_methF ?_ | fail)
local macro_rules | `(tactic| walk_at "z") => `(tactic| first | with_reducible refine zw_methH0 ?_ | fail)
local macro_rules | `(tactic| walk_at "z") => `(tactic| first | with_reducible refine zs_augL ?_ | fail)
local macro_rules | `(tactic| walk_at "z") => `(tactic| first | with_reducible refine zs_dputT ?_ | fail)
local macro_rules | `(tactic| walk_at "z") => `(tactic| first | with_reducible refine zw_sortKeys ?_ | fail)
local macro_rules | `(tactic| walk_at "z") => `(tactic| first | with_reducible refine zw_dnewT ?_ | fail)
local macro_rules | `(tactic| walk_at "z") => `(tactic| first | with_reducible refine zm_str2 ?_ | fail)
local macro_rules | `(tactic| walk_at "z") => `(tactic| first | with_reducible refine zm_str1 ?_ | fail)
local macro_rules | `(tactic| walk_at "z") => `(tactic| first | with_reducible refine zw_bmS ?_ | fail)
local macro_rules | `(tactic| walk_at "z") => `(tactic| first | with_reducible refine zw_fmtB ?_ | fail)
local macro_rules | `(tactic| walk_at "z") => `(tactic| first | with_reducible refine zo_shrN ?_ | fail)
local macro_rules | `(tactic| walk_at "z") => `(tactic| first | with_reducible refine zo_bxor ?_ | fail)
local macro_rules | `(tactic| walk_at "z") => `(tactic| first | with_reducible refine zo_bor ?_ | fail)
local macro_rules | `(tactic| walk_at "z") => `(tactic| first | with_reducible refine zo_band ?_ | fail)
local macro_rules | `(tactic| walk_at "z") => `(tactic| first | with_reducible refine zs_forE ?_ | fail)
local macro_rules | `(tactic| walk_at "z") => `(tactic| first | with_reducible refine zs_asgF ?_ | fail)
local macro_rules | `(tactic| walk_at "zf") => `(tactic| first | refine ⟨_, _, rfl, ⟨_, _, m1 m0, rfl⟩, ?_⟩ | fail)
local macro_rules | `(tactic| walk_at "zf") => `(tactic| first | refine ⟨_, _, _, _, rfl, m1 m0, rfl, ?_⟩ | fail)
local macro_rules | `(tactic| walk_at "zf") => `(tactic| refine ⟨_, _, _, _, rfl, Nat.le_of_ble_eq_true rfl, .there .here, ?_⟩)
local macro_rules | `(tactic| walk_at "z") => `(tactic| first | with_reducible refine zo_isNC ?_ | fail)
local macro_rules | `(tactic| walk_at "z") => `(tactic| first | with_reducible refine zo_notNC ?_ | fail)
local macro_rules | `(tactic| walk_at "z") => `(tactic| first | with_reducible refine zw_callM0 ?_ | fail)
local macro_rules | `(tactic| walk_at "z") => `(tactic| first | with_reducible refine zw_lext ?_ | fail)
local macro_rules | `(tactic| walk_at "z") => `(tactic| first | with_reducible refine zw_lpop ?_ | fail)
local macro_rules | `(tactic| walk_at "z") => `(tactic| first | with_reducible refine zw_dpopK ?_ | fail)
local macro_rules | `(tactic| walk_at "z") => `(tactic| with_reducible refine zw_sortSet ?_)
local macro_rules | `(tactic| walk_at "z") => `(tactic| first | with_reducible refine zo_inSg ?_ | fail)
local macro_rules | `(tactic| walk_at "z") => `(tactic| first | with_reducible refine zs_forE2 ?_ | fail)
local macro_rules | `(tactic| walk_at "z") => `(tactic| first | ((with_reducible refine' zw_lcNew ?hv ?_); (case hv => rfl)) | fail)
local macro_rules | `(tactic| walk_at "z") => `(tactic| first | with_reducible refine zw_kd ?_ | fail)
local macro_rules | `(tactic| walk_at "z") => `(tactic| first | with_reducible refine zw_methP ?_ | fail)
local macro_rules | `(tactic| walk_at "z") => `(tactic| first | with_reducible refine zw_makeJ ?_ | fail)
local macro_rules | `(tactic| walk_at "zy") => `(tactic| first | refine ⟨_, rfl, rfl, ?_⟩ | fail)
local macro_rules | `(tactic| walk_at "zy") => `(tactic| first | refine ⟨_, _, rfl, rfl, ?_⟩ | fail)
local macro_rules | `(tactic| walk_at "zy") => `(tactic| first | with_reducible refine zw_callZ ?_ | fail)
local macro_rules | `(tactic| walk_at "zy") => `(tactic| first | with_reducible refine zw_callZ0 ?_ | fail)
local macro_rules | `(tactic| walk_at "zy") => `(tactic| first | with_reducible refine zw_methZ0 ?_ | fail)
local macro_rules | `(tactic| walk_at "zy") => `(tactic| first | with_reducible refine zw_fldZ (by assumption) (by assumption) ?_ | fail)
local macro_rules | `(tactic| walk_at "zyq") => `(tactic| repeat (first | walk_at "zy" | walk_at "z" | walk_at "ze"))
local macro_rules | `(tactic| walk_at "z") => `(tactic| first | with_reducible refine zs_brk ?_ | fail)
local macro_rules | `(tactic| walk_at "z") => `(tactic| first | with_reducible refine zs_forR3 ?_ | fail)
local macro_rules | `(tactic| walk_at "z") => `(tactic| first | with_reducible refine zw_lcR3 ?_ | fail)
local macro_rules | `(tactic| walk_at "z") => `(tactic| first | with_reducible refine zw_lcEn ?_ | fail)
local macro_rules | `(tactic| walk_at "z") => `(tactic| first | with_reducible refine zw_methR ?_ | fail)
local macro_rules | `(tactic| walk_at "z") => `(tactic| first | with_reducible refine zw_sortItemsN ?_ | fail)
local macro_rules | `(tactic| walk_at "z") => `(tactic| first | with_reducible refine zw_sortKeysN ?_ | fail)
local macro_rules | `(tactic| walk_at "z") => `(tactic| first | with_reducible refine zw_get2N ?_ | fail)
local macro_rules | `(tactic| walk_at "z") => `(tactic| first | with_reducible refine zw_getN ?_ | fail)
local macro_rules | `(tactic| walk_at "z") => `(tactic| first | with_reducible refine zs_putN ?_ | fail)
local macro_rules | `(tactic| walk_at "z") => `(tactic| first | with_reducible refine zw_newN ?_ | fail)
local macro_rules | `(tactic| walk_at "zgq") => `(tactic| repeat (first | walk_at "zf" | walk_at "zy" | walk_at "z" | walk_at "ze"))
local macro_rules | `(tactic| walk_at "zf") => `(tactic| with_reducible refine zw_fldN (by assumption) (by assumption) ?_)
local macro_rules | `(tactic| walk_at "zy") => `(tactic| with_reducible refine zw_fldZN (by assumption) (by assumption) ?_)
local macro_rules | `(tactic| walk_at "zf") => `(tactic| with_reducible refine zs_fldN (by assumption) (by assumption) ?_)
local macro_rules | `(tactic| walk_at "z") => `(tactic| first | with_reducible refine zs_forS ?_ | fail)
local macro_rules | `(tactic| walk_at "z") => `(tactic| first | with_reducible refine zw_lcZip ?_ | fail)
local macro_rules | `(tactic| walk_at "z") => `(tactic| first | with_reducible refine lcZip_int ?_ | fail)
def topS (i : Nat) : Stmt := PySem.Challenge.pw_fateboards_k26_whole_what_came_before.main.body.getD i (.Pass ⟨0, 0, 0, 0⟩)
abbrev s_is_between : Stmt := topS 6
abbrev N_is_between : List Str := ["value", "low", "high"]
theorem sc_is_between : FnScope N_is_between ["value", "low", "high"] (defScope s_is_between) := ⟨rfl, rfl, rfl, by decide +kernel, rfl, by decide +kernel, by decide +kernel⟩
abbrev s_ColumnStepper_init : Stmt := inClass (topS 8) 0
abbrev N_ColumnStepper_init : List Str := ["self", "rule", "many"]
theorem sc_ColumnStepper_init : FnScope N_ColumnStepper_init ["self", "rule", "many"] (defScope s_ColumnStepper_init) := ⟨rfl, rfl, rfl, by decide +kernel, rfl, by decide +kernel, by decide +kernel⟩
abbrev s_ColumnStepper_later : Stmt := inClass (topS 8) 1
abbrev N_ColumnStepper_later : List Str := ["self", "left", "middle", "right", "column", "row", "around"]
theorem sc_ColumnStepper_later : FnScope N_ColumnStepper_later ["self", "left", "middle", "right"] (defScope s_ColumnStepper_later) := ⟨rfl, rfl, rfl, by decide +kernel, rfl, by decide +kernel, by decide +kernel⟩
abbrev s_later_cells : Stmt := topS 9
abbrev N_later_cells : List Str := ["rule", "births", "stays", "later", "around", "alive", "many"]
theorem sc_later_cells : FnScope N_later_cells ["rule"] (defScope s_later_cells) := ⟨rfl, rfl, rfl, by decide +kernel, rfl, by decide +kernel, by decide +kernel⟩
abbrev s_column_of : Stmt := topS 10
abbrev N_column_of : List Str := ["cells", "column", "cell"]
theorem sc_column_of : FnScope N_column_of ["cells"] (defScope s_column_of) := ⟨rfl, rfl, rfl, by decide +kernel, rfl, by decide +kernel, by decide +kernel⟩
abbrev s_cells_of : Stmt := topS 11
abbrev N_cells_of : List Str := ["column", "many", "row"]
theorem sc_cells_of : FnScope N_cells_of ["column", "many"] (defScope s_cells_of) := ⟨rfl, rfl, rfl, by decide +kernel, rfl, by decide +kernel, by decide +kernel⟩
abbrev s_check_rule : Stmt := topS 13
abbrev N_check_rule : List Str := ["rule"]
theorem sc_check_rule : FnScope N_check_rule ["rule"] (defScope s_check_rule) := ⟨rfl, rfl, rfl, by decide +kernel, rfl, by decide +kernel, by decide +kernel⟩
abbrev s_is_rule : Stmt := topS 14
abbrev N_is_rule : List Str := ["value", "births", "stays", "states"]
theorem sc_is_rule : FnScope N_is_rule ["value"] (defScope s_is_rule) := ⟨rfl, rfl, rfl, by decide +kernel, rfl, by decide +kernel, by decide +kernel⟩
abbrev s_are_counts : Stmt := topS 15
abbrev N_are_counts : List Str := ["value", "least", "count"]
theorem sc_are_counts : FnScope N_are_counts ["value", "least"] (defScope s_are_counts) := ⟨rfl, rfl, rfl, by decide +kernel, rfl, by decide +kernel, by decide +kernel⟩
abbrev s_check_arguments : Stmt := topS 19
abbrev N_check_arguments : List Str := ["rule", "picture"]
theorem sc_check_arguments : FnScope N_check_arguments ["rule", "picture"] (defScope s_check_arguments) := ⟨rfl, rfl, rfl, by decide +kernel, rfl, by decide +kernel, by decide +kernel⟩
abbrev s_is_picture : Stmt := topS 20
abbrev N_is_picture : List Str := ["value", "column"]
theorem sc_is_picture : FnScope N_is_picture ["value"] (defScope s_is_picture) := ⟨rfl, rfl, rfl, by decide +kernel, rfl, by decide +kernel, by decide +kernel⟩
abbrev s_is_column : Stmt := topS 21
abbrev N_is_column : List Str := ["value", "cell"]
theorem sc_is_column : FnScope N_is_column ["value"] (defScope s_is_column) := ⟨rfl, rfl, rfl, by decide +kernel, rfl, by decide +kernel, by decide +kernel⟩
abbrev s_Befores_init : Stmt := inClass (topS 22) 0
abbrev N_Befores_init : List Str := ["self", "rule", "high", "_", "stepper", "pair", "left", "middle", "right"]
theorem sc_Befores_init : FnScope N_Befores_init ["self", "rule", "high"] (defScope s_Befores_init) := ⟨rfl, rfl, rfl, by decide +kernel, rfl, by decide +kernel, by decide +kernel⟩
abbrev s_Befores_how_many : Stmt := inClass (topS 22) 1
abbrev N_Befores_how_many : List Str := ["self", "columns", "counts", "column", "later", "pair", "behind"]
theorem sc_Befores_how_many : FnScope N_Befores_how_many ["self", "columns"] (defScope s_Befores_how_many) := ⟨rfl, rfl, rfl, by decide +kernel, rfl, by decide +kernel, by decide +kernel⟩
abbrev s_Befores_least : Stmt := inClass (topS 22) 2
abbrev N_Befores_least : List Str := ["self", "columns", "fitting", "pair", "found", "index", "column", "rest", "ahead", "behind"]
theorem sc_Befores_least : FnScope N_Befores_least ["self", "columns"] (defScope s_Befores_least) := ⟨rfl, rfl, rfl, by decide +kernel, rfl, by decide +kernel, by decide +kernel⟩
abbrev s_Befores_fitting : Stmt := inClass (topS 22) 3
abbrev N_Befores_fitting : List Str := ["self", "columns", "fitting", "column", "rest", "ahead", "pair", "behind"]
theorem sc_Befores_fitting : FnScope N_Befores_fitting ["self", "columns"] (defScope s_Befores_fitting) := ⟨rfl, rfl, rfl, by decide +kernel, rfl, by decide +kernel, by decide +kernel⟩
abbrev s_befores_count : Stmt := topS 23
abbrev N_befores_count : List Str := ["rule", "picture", "cells"]
theorem sc_befores_count : FnScope N_befores_count ["rule", "picture"] (defScope s_befores_count) := ⟨rfl, rfl, rfl, by decide +kernel, rfl, by decide +kernel, by decide +kernel⟩
abbrev s_first_before : Stmt := topS 24
abbrev N_first_before : List Str := ["rule", "picture", "high", "columns", "cells", "column"]
theorem sc_first_before : FnScope N_first_before ["rule", "picture"] (defScope s_first_before) := ⟨rfl, rfl, rfl, by decide +kernel, rfl, by decide +kernel, by decide +kernel⟩
abbrev s_law_taken : Stmt := topS 26
abbrev N_law_taken : List Str := ["row", "many", "found", "cell"]
theorem sc_law_taken : FnScope N_law_taken ["row", "many"] (defScope s_law_taken) := ⟨rfl, rfl, rfl, by decide +kernel, rfl, by decide +kernel, by decide +kernel⟩
abbrev s_law_pick : Stmt := topS 27
abbrev N_law_pick : List Str := ["row", "things"]
theorem sc_law_pick : FnScope N_law_pick ["row", "things"] (defScope s_law_pick) := ⟨rfl, rfl, rfl, by decide +kernel, rfl, by decide +kernel, by decide +kernel⟩
abbrev s_law_some_rule : Stmt := topS 28
abbrev N_law_some_rule : List Str := ["row", "way", "births", "k", "stays"]
theorem sc_law_some_rule : FnScope N_law_some_rule ["row"] (defScope s_law_some_rule) := ⟨rfl, rfl, rfl, by decide +kernel, rfl, by decide +kernel, by decide +kernel⟩
abbrev s_law_some_picture : Stmt := topS 29
abbrev N_law_some_picture : List Str := ["row", "wide", "high", "y", "x"]
theorem sc_law_some_picture : FnScope N_law_some_picture ["row", "wide", "high"] (defScope s_law_some_picture) := ⟨rfl, rfl, rfl, by decide +kernel, rfl, by decide +kernel, by decide +kernel⟩
abbrev s_law_around : Stmt := topS 30
abbrev N_law_around : List Str := ["place", "found", "a", "b"]
theorem sc_law_around : FnScope N_law_around ["place"] (defScope s_law_around) := ⟨rfl, rfl, rfl, by decide +kernel, rfl, by decide +kernel, by decide +kernel⟩
abbrev s_law_picture_after : Stmt := topS 31
abbrev N_law_picture_after : List Str := ["rule", "picture", "cells", "found", "x", "y", "column", "near", "place"]
theorem sc_law_picture_after : FnScope N_law_picture_after ["rule", "picture"] (defScope s_law_picture_after) := ⟨rfl, rfl, rfl, by decide +kernel, rfl, by decide +kernel, by decide +kernel⟩
abbrev s_law_alike : Stmt := topS 32
abbrev N_law_alike : List Str := ["found", "due", "k"]
theorem sc_law_alike : FnScope N_law_alike ["found", "due"] (defScope s_law_alike) := ⟨rfl, rfl, rfl, by decide +kernel, rfl, by decide +kernel, by decide +kernel⟩
abbrev s_law : Stmt := topS 33
abbrev N_law : List Str := ["script", "row", "rule", "wide", "high", "picture", "many", "least", "places", "number", "cells", "k", "wider", "x", "long", "made", "told", "other"]
theorem sc_law : FnScope N_law ["script"] (defScope s_law) := ⟨rfl, rfl, rfl, by decide +kernel, rfl, by decide +kernel, by decide +kernel⟩
def dBetween (x : PyData) (lo hi : Int) : Bool := match x with | .int i => decide (lo ≤ i) && decide (i ≤ hi) | _ => false
def R_between (ds : List PyData) (o : DOut) : Prop := ∃ x lo hi, ds = [x, .int lo, .int hi] ∧ o = .ok (.bool (dBetween x lo hi))
theorem ok_is_between {P : Program} {w : World} {K : Fg} {mg : Str → Option Value} {base : Heap} {f : Addr} {fd : FuncData} (F : Fun K "is_between" "is_between" s_is_between f fd)
    (m_isinstance : mg "isinstance" = none)
    (m_int : mg "int" = none)
    (m_bool : mg "bool" = none) :
    FnOk P w K mg base (L2.CX P w) 1 f fd ["value", "low", "high"] (spD K 3 R_between) := by
  refine F.okX sc_is_between (fun vs H Q E h => len_D h) (fun cdv A outer s H vs Q E hr h => ⟨_, (pss_cons (ps_if (PW.pt (pw_or (pt_val (pe_callB call_isi (by rfl) m_isinstance bb_isinstance (pa_cons (pv 0) (pa_cons (pe_bltn (v := .ty "bool") (by rfl) m_bool bt_bool rfl) pa_nil))) (fun _ => rfl)) (pw_or1 (pt_not (pt_val (pe_callB call_isi (by rfl) m_isinstance bb_isinstance (pa_cons (pv 0) (pa_cons (pe_bltn (v := .ty "int") (by rfl) m_int bt_int rfl) pa_nil))) (fun _ => rfl)))))) (pss_one (ps_ret pe_bl)) pss_nil)
      (pss_one (ps_ret (pe_chain op_le op_le (pv 1) (pv 0) (pv 2))))),
    fn_D h fun ds o hk hR => ?_⟩)
  try dsimp only [L2.cxOf]
  obtain ⟨x, lo, hi, rfl, rfl⟩ := hR
  walk_at "zz"
  cases x <;> walk_at "zq"
  all_goals try rfl
  rename_i i _ _
  have hb : dBetween (.int i) lo hi = (decide (lo ≤ i) && decide (i ≤ hi)) := rfl
  refine ⟨fun e => ?_, fun e => ?_⟩
  · exact ⟨_, rfl, by rw [hb, e]; rfl⟩
  · walk_at "zq"
    show _ = _
    rw [hb, e]
    rfl
/-- a place or a move -/
abbrev pr (x y : Int) : PyData := .tuple [.int x, .int y]
/-! ### cells -/
structure Cell where
  x : Int
  y : Int
  s : Int
def Cell.r (c : Cell) : List Int := [c.x, c.y, c.s]
abbrev Cell.d (c : Cell) : PyData := .tuple [.int c.x, .int c.y, .int c.s]
theorem pw_at {α : Type} {R : α → α → Prop} {l : List α} (h : l.Pairwise R) {i j : Nat} {a b : α} (hij : i < j) (ha : l[i]? = some a) (hb : l[j]? = some b) : R a b := by
  obtain ⟨h1, e1⟩ := List.getElem?_eq_some_iff.mp ha
  obtain ⟨h2, e2⟩ := List.getElem?_eq_some_iff.mp hb
  rw [← e1, ← e2]
  exact List.pairwise_iff_getElem.mp h i j h1 h2 hij
/-! ### rules -/
theorem between_t {x lo hi : Int} (h1 : lo ≤ x) (h2 : x ≤ hi) : dBetween (.int x) lo hi = true := by
  show (decide (lo ≤ x) && decide (x ≤ hi)) = true
  rw [decide_eq_true h1, decide_eq_true h2]
  rfl
structure Rl where
  b : List Nat
  s : List Nat
  n : Nat
abbrev natsD (l : List Nat) : PyData := .tuple (l.map fun (k : Nat) => .int (k : Int))
abbrev Rl.d (r : Rl) : PyData := .tuple [natsD r.b, natsD r.s, .int (r.n : Int)]
structure Rule (r : Rl) : Prop where
  bl : ∀ k ∈ r.b, 1 ≤ k ∧ k ≤ 8
  sl : ∀ k ∈ r.s, k ≤ 8
  bu : r.b.Pairwise (· < ·)
  su : r.s.Pairwise (· < ·)
  n2 : 2 ≤ r.n
  n6 : r.n ≤ 6
def R_counts (ds : List PyData) (o : DOut) : Prop := ∃ (l : List Nat) (m : Nat), ds = [natsD l, .int (m : Int)] ∧ (∀ k ∈ l, m ≤ k ∧ k ≤ 8) ∧ l.Pairwise (· < ·) ∧ o = .ok (.bool true)
theorem ok_are_counts {P : Program} {w : World} {K : Fg} {mg : Str → Option Value} {base : Heap} {f : Addr} {fd : FuncData} (F : Fun K "_are_counts" "_are_counts" s_are_counts f fd)
    (m_isinstance : mg "isinstance" = none)
    (m_tuple : mg "tuple" = none)
    (c_is_between : Cal P w K mg base 1 "is_between" (spD K 3 R_between)) :
    FnOk P w K mg base (L2.CX P w) 2 f fd ["value", "least"] (spD K 2 R_counts) := by
  refine F.okX sc_are_counts (fun vs H Q E h => len_D h) (fun cdv A outer s H vs Q E hr h => ⟨_, (pss_cons (ps_if (pt_not (pt_val (pe_callB call_isi (by rfl) m_isinstance bb_isinstance (pa_cons (pv 0) (pa_cons (pe_bltn (v := .ty "tuple") (by rfl) m_tuple bt_tuple rfl) pa_nil))) (fun _ => rfl))) (pss_one (ps_ret pe_bl)) pss_nil)
      (pss_cons (ps_for (passes_of rfl) rfl (pi_tup (pv 0)) (pg_name (i := 2) sc_are_counts.nd rfl (by first | exact Or.inl rfl | exact Or.inr rfl)) (pss_cons (ps_if (pt_not (pt_val (pe_cl c_is_between hr (show 1 ≤ 1 by decide) passL (pa_cons (pv 2) (pa_cons (pv 1) (pa_cons pe_int pa_nil)))) (fun _ => rfl))) (pss_one (ps_ret pe_bl)) pss_nil)
      (pss_one (ps_set (i := 1) sc_are_counts.nd rfl (by first | exact Or.inl rfl | exact Or.inr rfl) (pe_op op_addA (pv 2) pe_int)))))
      (pss_one (ps_ret pe_bl)))),
    fn_D h fun ds o hk hR => ?_⟩)
  try dsimp only [L2.cxOf]
  obtain ⟨l, m, rfl, h1, h2, rfl⟩ := hR
  walk_at "zq"
  refine ⟨fun i S2 M2 => ∃ (m' : Nat) (c : Option ZV), S2 = [some (.d (natsD l)), some (.d (.int (m' : Int))), c] ∧ M2 = [] ∧ ∀ k ∈ l.drop i, m' ≤ k, ⟨m, _, rfl, rfl, fun k hk => (h1 k (by simpa using hk)).1⟩, ?_, ?_⟩
  · rintro i v S2 M2 hv ⟨m', c, rfl, rfl, hm⟩
    rw [List.getElem?_map] at hv
    obtain ⟨k, hk, rfl⟩ := Option.map_eq_some_iff.mp hv
    have hkm := List.mem_of_getElem? hk
    have hi := (List.getElem?_eq_some_iff.mp hk).1
    have hmk : m' ≤ k := hm k (List.mem_of_getElem? (i := 0) (by rw [List.getElem?_drop, Nat.add_zero]; exact hk))
    have hk8 := (h1 k hkm).2
    walk_at "zq"
    refine ⟨_, _, by walk_at "zd", rfl, ⟨_, _, _, rfl, rfl⟩, ?_⟩
    rw [between_t (x := (k : Int)) (by omega) (by omega)]
    walk_at "zq"
    intro j hj
    obtain ⟨a, ha⟩ := List.mem_iff_getElem?.mp hj
    rw [List.getElem?_drop] at ha
    exact pw_at h2 (by omega) hk ha
  · rintro S2 M2 ⟨m', c, rfl, rfl, _⟩
    walk_at "zq"
    try rfl
def R_isRule (ds : List PyData) (o : DOut) : Prop := ∃ r : Rl, ds = [r.d] ∧ Rule r ∧ o = .ok (.bool true)
theorem ok_is_rule {P : Program} {w : World} {K : Fg} {mg : Str → Option Value} {base : Heap} {f : Addr} {fd : FuncData} (F : Fun K "_is_rule" "_is_rule" s_is_rule f fd)
    (m_len : mg "len" = none)
    (m_isinstance : mg "isinstance" = none)
    (m_tuple : mg "tuple" = none)
    (c_is_between : Cal P w K mg base 1 "is_between" (spD K 3 R_between))
    (c__are_counts : Cal P w K mg base 2 "_are_counts" (spD K 2 R_counts)) :
    FnOk P w K mg base (L2.CX P w) 3 f fd ["value"] (spD K 1 R_isRule) := by
  refine F.okX sc_is_rule (fun vs H Q E h => len_D h) (fun cdv A outer s H vs Q E hr h => ⟨_, (pss_cons (ps_if (PW.pt (pw_or (pt_not (pt_val (pe_callB call_isi (by rfl) m_isinstance bb_isinstance (pa_cons (pv 0) (pa_cons (pe_bltn (v := .ty "tuple") (by rfl) m_tuple bt_tuple rfl) pa_nil))) (fun _ => rfl))) (pw_or1 (pt_cmpR (op_neA hr.units) (pe_callB call_len (by rfl) m_len bb_len (pa_cons (pv 0) pa_nil)) pe_int (nomark _))))) (pss_one (ps_ret pe_bl)) pss_nil)
      (pss_cons (ps_asg (pv 0) (pg_tup rfl (pgs_cons (pg_name (i := 1) sc_is_rule.nd rfl (by first | exact Or.inl rfl | exact Or.inr rfl)) (pgs_cons (pg_name (i := 2) sc_is_rule.nd rfl (by first | exact Or.inl rfl | exact Or.inr rfl)) (pgs_cons (pg_name (i := 3) sc_is_rule.nd rfl (by first | exact Or.inl rfl | exact Or.inr rfl)) pgs_nil)))))
      (pss_one (ps_ret (pe_and (pe_cl c__are_counts hr (show 2 ≤ 2 by decide) passL (pa_cons (pv 1) (pa_cons pe_int pa_nil))) (pe_and (pe_cl c__are_counts hr (show 2 ≤ 2 by decide) passL (pa_cons (pv 2) (pa_cons pe_int pa_nil))) (pe_one (pe_cl c_is_between hr (show 1 ≤ 2 by decide) passL (pa_cons (pv 3) (pa_cons pe_int (pa_cons pe_int pa_nil))))))))))),
    fn_D h fun ds o hk hR => ?_⟩)
  try dsimp only [L2.cxOf]
  obtain ⟨r, rfl, hr2, rfl⟩ := hR
  walk_at "zq"
  refine ⟨_, _, by walk_at "zd", rfl, ⟨r.b, 1, rfl, hr2.bl, hr2.bu, rfl⟩, ?_⟩
  walk_at "zq"
  refine ⟨_, _, by walk_at "zd", rfl, ⟨r.s, 0, rfl, fun k hk => ⟨Nat.zero_le _, hr2.sl k hk⟩, hr2.su, rfl⟩, ?_⟩
  walk_at "zq"
  refine ⟨_, _, by walk_at "zd", rfl, ⟨_, _, _, rfl, rfl⟩, ?_⟩
  have h2 := hr2.n2
  have h6 := hr2.n6
  rw [between_t (x := (r.n : Int)) (by omega) (by omega)]
  walk_at "zq"
  first | rfl | exact ⟨_, rfl, rfl⟩
def R_chkRule (ds : List PyData) (o : DOut) : Prop := ∃ r : Rl, ds = [r.d] ∧ Rule r ∧ o = .ok .none
theorem ok_check_rule {P : Program} {w : World} {K : Fg} {mg : Str → Option Value} {base : Heap} {f : Addr} {fd : FuncData} (F : Fun K "check_rule" "check_rule" s_check_rule f fd)
    (c__is_rule : Cal P w K mg base 3 "_is_rule" (spD K 1 R_isRule)) :
    FnOk P w K mg base (L2.CX P w) 4 f fd ["rule"] (spD K 1 R_chkRule) := by
  refine F.okX sc_check_rule (fun vs H Q E h => len_D h) (fun cdv A outer s H vs Q E hr h => ⟨_, (pss_one (ps_if (pt_not (pt_val (pe_cl c__is_rule hr (show 3 ≤ 3 by decide) passL (pa_cons (pv 0) pa_nil)) (fun _ => rfl))) (pss_one ps_never) pss_nil)),
    fn_D h fun ds o hk hR => ?_⟩)
  try dsimp only [L2.cxOf]
  obtain ⟨r, rfl, hr2, rfl⟩ := hR
  walk_at "zq"
  refine ⟨_, _, by walk_at "zd", rfl, ⟨r, rfl, hr2, rfl⟩, ?_⟩
  walk_at "zq"
  try rfl
/-- numbers, texts, None, and tuples and lists of such -/
def al : Nat → PyData → Bool
  | 0, _ => false
  | _ + 1, .int _ => true
  | _ + 1, .bool _ => true
  | _ + 1, .str _ => true
  | _ + 1, .none => true
  | n + 1, .tuple xs => decide (xs.length ≤ 1000) && xs.all (al n)
  | n + 1, .list xs => decide (xs.length ≤ 1000) && xs.all (al n)
  | _ + 1, _ => false
def R_alike (n : Nat) (ds : List PyData) (o : DOut) : Prop := ∃ d, ds = [d, d] ∧ al n d = true ∧ o = .ok (.bool true)
theorem alike_vac {P : Program} {w : World} {K : Fg} {mg : Str → Option Value} {base : Heap} {f : Addr} {fd : FuncData} (F : Fun K "_law_alike" "_law_alike" s_law_alike f fd) : FnOk P w K mg base (L2.CX P w) 1 f fd ["found", "due"] (spD K 2 (R_alike 0)) := by
  refine F.okX sc_law_alike (fun vs H Q E h => len_D h) (fun cdv A outer s H vs Q E hr h => ?_)
  obtain ⟨G, ds, o, e, hk, hd, ⟨d, _, h2, _⟩, _⟩ := h
  cases h2
theorem ok_law_alike {P : Program} {w : World} {K : Fg} {mg : Str → Option Value} {base : Heap} {f : Addr} {fd : FuncData} {j : Nat} {n : Nat} (F : Fun K "_law_alike" "_law_alike" s_law_alike f fd)
    (m_isinstance : mg "isinstance" = none)
    (m_list : mg "list" = none)
    (m_tuple : mg "tuple" = none)
    (m_len : mg "len" = none)
    (m_range : mg "range" = none)
    (m_str : mg "str" = none)
    (m_bool : mg "bool" = none)
    (m_int : mg "int" = none)
    (c__law_alike : Cal P w K mg base j "_law_alike" (spD K 2 (R_alike n))) :
    FnOk P w K mg base (L2.CX P w) (j+1) f fd ["found", "due"] (spD K 2 (R_alike (n + 1))) := by
  refine F.okX sc_law_alike (fun vs H Q E h => len_D h) (fun cdv A outer s H vs Q E hr h => ⟨_, (pss_cons (ps_if (pt_val (pe_callB call_isiT (by rfl) m_isinstance bb_isinstance (pa_cons (pv 1) (pa_cons (pe_tup (pa_cons (pe_bltn (v := .ty "tuple") (by rfl) m_tuple bt_tuple rfl) (pa_cons (pe_bltn (v := .ty "list") (by rfl) m_list bt_list rfl) pa_nil))) pa_nil))) (fun _ => rfl)) (pss_cons (ps_if (PW.pt (pw_or (pt_not (pt_val (pe_callB call_isiT (by rfl) m_isinstance bb_isinstance (pa_cons (pv 0) (pa_cons (pe_tup (pa_cons (pe_bltn (v := .ty "tuple") (by rfl) m_tuple bt_tuple rfl) (pa_cons (pe_bltn (v := .ty "list") (by rfl) m_list bt_list rfl) pa_nil))) pa_nil))) (fun _ => rfl))) (pw_or1 (pt_cmpR (op_neA hr.units) (pe_callB call_isi (by rfl) m_isinstance bb_isinstance (pa_cons (pv 0) (pa_cons (pe_bltn (v := .ty "list") (by rfl) m_list bt_list rfl) pa_nil))) (pe_callB call_isi (by rfl) m_isinstance bb_isinstance (pa_cons (pv 1) (pa_cons (pe_bltn (v := .ty "list") (by rfl) m_list bt_list rfl) pa_nil))) (nomark _))))) (pss_one (ps_ret pe_bl)) pss_nil)
      (pss_cons (ps_if (pt_cmpR (op_neA hr.units) (pe_callB call_len (by rfl) m_len bb_len (pa_cons (pv 0) pa_nil)) (pe_callB call_len (by rfl) m_len bb_len (pa_cons (pv 1) pa_nil)) (nomark _)) (pss_one (ps_ret pe_bl)) pss_nil)
      (pss_one (ps_ret (pe_cmpR (op_eqA hr.units) (pe_lc (own := [("k", 2)]) rfl sc_law_alike.nd (pi_range1 (by rfl) m_range (pa_cons (pe_callB call_len (by rfl) m_len bb_len (pa_cons (pv 1) pa_nil)) pa_nil)) (blkOk_by (N := N_law_alike) (sc := defScope s_law_alike) (by decide +kernel)) (fun _ _ _ _ _ => (pg_name (i := 2) sc_law_alike.nd rfl (by first | exact Or.inl rfl | exact Or.inr rfl))) (fun _ _ _ _ _ => (pts_one (pt_not (pt_val (pe_cl c__law_alike hr (Nat.le_refl _) passL (pa_cons (pe_ix (show IxR _ (rIx K) from ix_seq) (pv 0) (pv 2) (fun _ _ => rfl)) (pa_cons (pe_ix (show IxR _ (rIx K) from ix_seq) (pv 1) (pv 2) (fun _ _ => rfl)) pa_nil))) (fun _ => rfl))))) (fun _ _ _ _ _ => (pv 2))) (pe_lst pa_nil) (nomark _)))))) pss_nil)
      (pss_cons (ps_if (PW.pt (pw_or (pt_cmpR op_isN (pv 1) pe_non (nomark _)) (pw_or1 (pt_val (pe_callB call_isi (by rfl) m_isinstance bb_isinstance (pa_cons (pv 1) (pa_cons (pe_bltn (v := .ty "str") (by rfl) m_str bt_str rfl) pa_nil))) (fun _ => rfl))))) (pss_one (ps_ret (pe_and (pe_cmpR (op_eqA hr.units) (pv 0) (pv 1) (nomark _)) (pe_one (pe_cmpR (op_eqA hr.units) (pe_callB call_isi (by rfl) m_isinstance bb_isinstance (pa_cons (pv 0) (pa_cons (pe_bltn (v := .ty "str") (by rfl) m_str bt_str rfl) pa_nil))) (pe_callB call_isi (by rfl) m_isinstance bb_isinstance (pa_cons (pv 1) (pa_cons (pe_bltn (v := .ty "str") (by rfl) m_str bt_str rfl) pa_nil))) (nomark _)))))) pss_nil)
      (pss_one (ps_ret (pe_and (pe_callB call_isi (by rfl) m_isinstance bb_isinstance (pa_cons (pv 0) (pa_cons (pe_bltn (v := .ty "int") (by rfl) m_int bt_int rfl) pa_nil))) (pe_and (pe_cmpR (op_eqA hr.units) (pe_callB call_isi (by rfl) m_isinstance bb_isinstance (pa_cons (pv 0) (pa_cons (pe_bltn (v := .ty "bool") (by rfl) m_bool bt_bool rfl) pa_nil))) (pe_callB call_isi (by rfl) m_isinstance bb_isinstance (pa_cons (pv 1) (pa_cons (pe_bltn (v := .ty "bool") (by rfl) m_bool bt_bool rfl) pa_nil))) (nomark _)) (pe_one (pe_cmpR (op_eqA hr.units) (pv 0) (pv 1) (nomark _))))))))),
    fn_D h fun ds o hk hR => ?_⟩)
  try dsimp only [L2.cxOf]
  obtain ⟨d, rfl, ha, rfl⟩ := hR
  walk_at "zz"
  cases d with
  | tuple xs =>
    have ha2 : xs.length ≤ 1000 ∧ ∀ x ∈ xs, al n x = true := by
      have h : (decide (xs.length ≤ 1000) && xs.all (al n)) = true := ha
      rw [Bool.and_eq_true, List.all_eq_true] at h
      exact ⟨of_decide_eq_true h.1, h.2⟩
    walk_at "zq"
    rw [decide_eq_true rfl]
    walk_at "zq"
    refine ⟨by omega, by rw [sizeLine_eq]; omega, fun i acc M' => acc = [] ∧ M' = [], ⟨rfl, rfl⟩, ?_, ?_⟩
    · rintro i hi acc M2 D ⟨rfl, rfl⟩
      have hi2 : i < xs.length := by omega
      have hat : atI xs (0 + (i : Int)) = some xs[i] := by rw [Int.zero_add]; exact atI_nat (List.getElem?_eq_getElem hi2)
      refine ⟨_, _, ?_, zg_name, ?_⟩
      · simp
      · walk_at "zq"
        refine ⟨_, _, allD_cons (allD_cons allD_nil), rfl, ⟨_, rfl, ha2.2 _ (List.getElem_mem hi2), rfl⟩, ?_⟩
        walk_at "zq"
        exact ⟨rfl, rfl⟩
    · rintro acc M2 ⟨rfl, rfl⟩
      walk_at "zq"
      refine zw_lstD ?_
      walk_at "zq"
      walk_at "zt"
      refine zo_eqDD rfl rfl ?_
      exact ⟨_, rfl, rfl⟩
  | list xs =>
    have ha2 : xs.length ≤ 1000 ∧ ∀ x ∈ xs, al n x = true := by
      have h : (decide (xs.length ≤ 1000) && xs.all (al n)) = true := ha
      rw [Bool.and_eq_true, List.all_eq_true] at h
      exact ⟨of_decide_eq_true h.1, h.2⟩
    walk_at "zq"
    rw [decide_eq_true rfl]
    walk_at "zq"
    refine ⟨by omega, by rw [sizeLine_eq]; omega, fun i acc M' => acc = [] ∧ M' = [], ⟨rfl, rfl⟩, ?_, ?_⟩
    · rintro i hi acc M2 D ⟨rfl, rfl⟩
      have hi2 : i < xs.length := by omega
      have hat : atI xs (0 + (i : Int)) = some xs[i] := by rw [Int.zero_add]; exact atI_nat (List.getElem?_eq_getElem hi2)
      refine ⟨_, _, ?_, zg_name, ?_⟩
      · simp
      · walk_at "zq"
        refine ⟨_, _, allD_cons (allD_cons allD_nil), rfl, ⟨_, rfl, ha2.2 _ (List.getElem_mem hi2), rfl⟩, ?_⟩
        walk_at "zq"
        exact ⟨rfl, rfl⟩
    · rintro acc M2 ⟨rfl, rfl⟩
      walk_at "zq"
      refine zw_lstD ?_
      walk_at "zq"
      walk_at "zt"
      refine zo_eqDD rfl rfl ?_
      exact ⟨_, rfl, rfl⟩
  | str x =>
    walk_at "zq"
    rw [decide_eq_true rfl]
    walk_at "zq"
    all_goals rfl
  | int i =>
    walk_at "zq"
    rw [decide_eq_true rfl]
  | bool i =>
    walk_at "zq"
    rw [show (i == i) = true by cases i <;> rfl]
    try walk_at "zq"
    all_goals first | rfl | exact ⟨_, rfl, rfl⟩
  | none =>
    walk_at "zq"
    refine zo_eqDD rfl rfl ?_
    walk_at "zq"
    rfl
  | _ => cases ha
/-- a draw's row: the script, the cell's number, the seed, the rest -/
structure RowS where
  ns : List Int
  i : Int
  s : Int
  r : Int
  hi : 0 ≤ i
  hs : 0 ≤ s
  ht : s < 2147483647
def RowS.d (t : RowS) : List PyData := [.list (t.ns.map .int), .int t.i, .int t.s, .int t.r]
def RowS.cell (t : RowS) : Int := t.ns.getD t.i.toNat 0
def RowS.draw (t : RowS) (many : Int) : Int := if 0 < t.r then t.r % many else if (t.ns.length : Int) < t.i + 1 then (t.s * 48271 + 11) % 2147483647 / 7 % many else t.cell % many
theorem mod_ok (a : Int) : 0 ≤ a % 2147483647 ∧ a % 2147483647 < 2147483647 := ⟨Int.emod_nonneg _ (by decide), Int.emod_lt_of_pos _ (by decide)⟩
def RowS.next (t : RowS) (many : Int) : RowS := if 0 < t.r then { t with r := t.r / many } else if (t.ns.length : Int) < t.i + 1 then ⟨t.ns, t.i + 1, (t.s * 48271 + 11) % 2147483647, t.r, by have := t.hi; omega, (mod_ok _).1, (mod_ok _).2⟩
  else ⟨t.ns, t.i + 1, (t.s * 48271 + t.cell + 11) % 2147483647, if 10 ^ 18 ≤ t.cell then t.cell / many else t.r, by have := t.hi; omega, (mod_ok _).1, (mod_ok _).2⟩
theorem RowS.draw_lt (t : RowS) {many : Int} (h : 0 < many) : 0 ≤ t.draw many ∧ t.draw many < many := by
  unfold RowS.draw
  split
  · exact ⟨Int.emod_nonneg _ (by omega), Int.emod_lt_of_pos _ h⟩
  · split <;> exact ⟨Int.emod_nonneg _ (by omega), Int.emod_lt_of_pos _ h⟩
def R_taken (xs ds : List PyData) (F : DOut → List PyData → Prop) : Prop := ∃ (t : RowS) (many : Int), xs = t.d ∧ ds = [.int many] ∧ 0 < many ∧ many.natAbs.log2 < 9000 ∧ ∀ (v : Int) (t' : RowS), 0 ≤ v → v < many → F (.ok (.int v)) t'.d
theorem ok_law_taken {P : Program} {w : World} {K : Fg} {mg : Str → Option Value} {base : Heap} {f : Addr} {fd : FuncData} (F : Fun K "_law_taken" "_law_taken" s_law_taken f fd)
    (m_int : mg "int" = none)
    (m_len : mg "len" = none) :
    FnOk P w K mg base (L2.CX P w) 1 f fd ["row", "many"] (spC K 1 R_taken) := by
  refine F.okX sc_law_taken (fun vs H Q E h => len_C h) (fun cdv A outer s H vs Q E hr h => ⟨_, (pss_cons (ps_if (pt_cmpR op_gt (pe_ix ix_seq (pv 0) pe_int (fun _ _ => rfl)) pe_int (nomark _)) (pss_cons (ps_set (i := 2) sc_law_taken.nd rfl (by first | exact Or.inl rfl | exact Or.inr rfl) (pe_op op_mod (pe_callTy (call_int1.or call_int_str) (by rfl) m_int bt_int (pa_cons (pe_ix ix_seq (pv 0) pe_int (fun _ _ => rfl)) pa_nil)) (pv 1)))
      (pss_cons (ps_asg (pe_op op_fdivW (pe_ix ix_seq (pv 0) pe_int (fun _ _ => rfl)) (pv 1)) (pg_sub (pv 0) pe_int set_list))
      (pss_one (ps_ret (pv 2))))) pss_nil)
      (pss_cons (ps_asg (pe_op op_addA (pe_ix ix_seq (pv 0) pe_int (fun _ _ => rfl)) pe_int) (pg_sub (pv 0) pe_int set_list))
      (pss_cons (ps_if (pt_cmpR op_gt (pe_ix ix_seq (pv 0) pe_int (fun _ _ => rfl)) (pe_callB call_len (by rfl) m_len bb_len (pa_cons (pe_ix ix_seq (pv 0) pe_int (fun _ _ => rfl)) pa_nil)) (nomark _)) (pss_cons (ps_asg (pe_op op_mod (pe_callTy (call_int1.or call_int_str) (by rfl) m_int bt_int (pa_cons (pe_op op_addA (pe_op op_mul (pe_ix ix_seq (pv 0) pe_int (fun _ _ => rfl)) pe_int) pe_int) pa_nil)) pe_int) (pg_sub (pv 0) pe_int set_list))
      (pss_one (ps_ret (pe_op op_mod (pe_callTy (call_int1.or call_int_str) (by rfl) m_int bt_int (pa_cons (pe_op op_fdivW (pe_ix ix_seq (pv 0) pe_int (fun _ _ => rfl)) pe_int) pa_nil)) (pv 1))))) pss_nil)
      (pss_cons (ps_set (i := 3) sc_law_taken.nd rfl (by first | exact Or.inl rfl | exact Or.inr rfl) (pe_ix ix_seq (pe_ix ix_seq (pv 0) pe_int (fun _ _ => rfl)) (pe_op op_sub (pe_ix ix_seq (pv 0) pe_int (fun _ _ => rfl)) pe_int) (fun _ _ => rfl)))
      (pss_cons (ps_asg (pe_op op_mod (pe_callTy (call_int1.or call_int_str) (by rfl) m_int bt_int (pa_cons (pe_op op_addA (pe_op op_addA (pe_op op_mul (pe_ix ix_seq (pv 0) pe_int (fun _ _ => rfl)) pe_int) (pv 3)) pe_int) pa_nil)) pe_int) (pg_sub (pv 0) pe_int set_list))
      (pss_cons (ps_if (pt_cmpR op_ge (pv 3) (pe_op op_pow pe_int pe_int) (nomark _)) (pss_one (ps_asg (pe_op op_fdivW (pv 3) (pv 1)) (pg_sub (pv 0) pe_int set_list))) pss_nil)
      (pss_one (ps_ret (pe_op op_mod (pe_callTy (call_int1.or call_int_str) (by rfl) m_int bt_int (pa_cons (pv 3) pa_nil)) (pv 1)))))))))),
    fn_C h fun p xs ds F hk hR => ?_⟩)
  try dsimp only [L2.cxOf]
  obtain ⟨t, many, rfl, rfl, hm, hm2, hF⟩ := hR
  have hG := hF _ (t.next many) (t.draw_lt hm).1 (t.draw_lt hm).2
  clear hF
  have hi := t.hi
  have hs := t.hs
  have ht := t.ht
  walk_at "zz"
  refine ⟨_, rfl, fun hb => ?_, fun hb => ?_⟩
  · have hb : 0 < t.r := of_decide_eq_true hb
    have e1 : t.draw many = t.r % many := if_pos hb
    have e2 : (t.next many).d = [.list (t.ns.map .int), .int t.i, .int t.s, .int (t.r / many)] := by unfold RowS.next; rw [if_pos hb]; rfl
    walk_at "zz"
    refine zo_mod hm ?_
    walk_at "zz"
    refine zo_fdivW ⟨hm, hm2⟩ ?_
    refine ⟨_, rfl, ?_⟩
    walk_at "zz"
    refine ⟨p, false, _, 3, 3, _, rfl, rfl, rfl, .here, ?_⟩
    walk_at "zz"
    exact ⟨_, _, rfl, by rw [e1] at hG; exact hG, by rw [e2]; exact m0⟩
  · have hb : ¬ 0 < t.r := of_decide_eq_false hb
    walk_at "zz"
    refine ⟨_, rfl, ?_⟩
    walk_at "zz"
    refine ⟨p, false, _, 1, 1, _, rfl, rfl, rfl, .here, ?_⟩
    walk_at "zz"
    refine ⟨_, rfl, fun hc => ?_, fun hc => ?_⟩
    · have hc : (t.ns.length : Int) < t.i + 1 := by simpa using of_decide_eq_true hc
      have e1 : t.draw many = (t.s * 48271 + 11) % 2147483647 / 7 % many := by unfold RowS.draw; rw [if_neg hb, if_pos hc]
      have e2 : (t.next many).d = [.list (t.ns.map .int), .int (t.i + 1), .int ((t.s * 48271 + 11) % 2147483647), .int t.r] := by unfold RowS.next; rw [if_neg hb, if_pos hc]; rfl
      walk_at "zz"
      refine zo_mul (.inl ⟨by omega, by omega⟩) ?_
      walk_at "zz"
      refine zo_mod (by decide) ?_
      refine ⟨_, rfl, ?_⟩
      walk_at "zz"
      refine ⟨p, false, _, 2, 2, _, rfl, rfl, rfl, .here, ?_⟩
      walk_at "zz"
      refine zo_fdivW ⟨by decide, by decide⟩ ?_
      walk_at "zz"
      refine zo_mod hm ?_
      exact ⟨_, _, rfl, by rw [e1] at hG; exact hG, by rw [e2]; exact m0⟩
    · have hc : ¬ (t.ns.length : Int) < t.i + 1 := fun z => absurd (of_decide_eq_false hc) (by simpa using z)
      have hg : t.ns[t.i.toNat]? = some t.cell := by
        unfold RowS.cell
        rw [List.getD_eq_getElem?_getD]
        rw [List.getElem?_eq_getElem (by omega)]
        rfl
      have hat : atI (t.ns.map PyData.int) (t.i + 1 - 1) = some (.int t.cell) := by
        have e : t.i + 1 - 1 = ((t.i.toNat : Nat) : Int) := by omega
        rw [e]
        exact atI_nat (by rw [List.getElem?_map, hg]; rfl)
      have e1 : t.draw many = t.cell % many := by unfold RowS.draw; rw [if_neg hb, if_neg hc]
      have e2 : (t.next many).d = [.list (t.ns.map .int), .int (t.i + 1), .int ((t.s * 48271 + t.cell + 11) % 2147483647), .int (if 10 ^ 18 ≤ t.cell then t.cell / many else t.r)] := by unfold RowS.next; rw [if_neg hb, if_neg hc]; rfl
      walk_at "zz"
      refine zo_mul (.inl ⟨by omega, by omega⟩) ?_
      walk_at "zz"
      refine zo_mod (by decide) ?_
      refine ⟨_, rfl, ?_⟩
      walk_at "zz"
      refine ⟨p, false, _, 2, 2, _, rfl, rfl, rfl, .here, ?_⟩
      walk_at "zz"
      refine zo_pow ⟨by decide, by decide, by decide⟩ ?_
      walk_at "zz"
      refine ⟨_, rfl, fun hd => ?_, fun hd => ?_⟩
      · have hd : (10 : Int) ^ 18 ≤ t.cell := of_decide_eq_true hd
        rw [if_pos hd] at e2
        walk_at "zz"
        refine zo_fdivW ⟨hm, hm2⟩ ?_
        refine ⟨_, rfl, ?_⟩
        walk_at "zz"
        refine ⟨p, false, _, 3, 3, _, rfl, rfl, rfl, .here, ?_⟩
        walk_at "zz"
        refine zo_mod hm ?_
        exact ⟨_, _, rfl, by rw [e1] at hG; exact hG, by rw [e2]; exact m0⟩
      · have hd : ¬ (10 : Int) ^ 18 ≤ t.cell := of_decide_eq_false hd
        rw [if_neg hd] at e2
        walk_at "zz"
        refine zo_mod hm ?_
        exact ⟨_, _, rfl, by rw [e1] at hG; exact hG, by rw [e2]; exact m0⟩
theorem log_small {n : Nat} (h : n < 2 ^ 100) : ((n : Int)).natAbs.log2 < 9000 := by
  rw [Int.natAbs_natCast]
  by_cases hz : n = 0
  · subst hz; decide
  · exact Nat.lt_of_lt_of_le ((Nat.log2_lt hz).2 h) (by decide)
def R_pick (xs ds : List PyData) (F : DOut → List PyData → Prop) : Prop := ∃ (t : RowS) (things : List PyData), xs = t.d ∧ ds = [.list things] ∧ things ≠ [] ∧ things.length < 1000 ∧ ∀ (i : Nat) (v : PyData) (t' : RowS), things[i]? = some v → F (.ok v) t'.d
theorem ok_law_pick {P : Program} {w : World} {K : Fg} {mg : Str → Option Value} {base : Heap} {f : Addr} {fd : FuncData} (F : Fun K "_law_pick" "_law_pick" s_law_pick f fd)
    (m_len : mg "len" = none)
    (c__law_taken : Cal P w K mg base 1 "_law_taken" (spC K 1 R_taken)) :
    FnOk P w K mg base (L2.CX P w) 2 f fd ["row", "things"] (spC K 1 R_pick) := by
  refine F.okX sc_law_pick (fun vs H Q E h => len_C h) (fun cdv A outer s H vs Q E hr h => ⟨_, (pss_one (ps_ret (pe_ix ix_seq (pv 1) (pe_cl c__law_taken hr (show 1 ≤ 1 by decide) passL (pa_cons (pv 0) (pa_cons (pe_callB call_len (by rfl) m_len bb_len (pa_cons (pv 1) pa_nil)) pa_nil))) (fun _ _ => rfl)))),
    fn_C h fun p xs ds F hk hR => ?_⟩)
  try dsimp only [L2.cxOf]
  obtain ⟨t, things, rfl, rfl, hne, hl, hF⟩ := hR
  walk_at "zq"
  have hp : 0 < things.length := List.length_pos_iff.mpr hne
  refine ⟨_, _, _, _, _, rfl, m0, allD_cons allD_nil, rfl, ⟨t, things.length, rfl, rfl, by omega, log_small (by omega), fun v t' h0 hv => ⟨_, _, rfl, .here, ?_⟩⟩⟩
  have hi : v.toNat < things.length := by omega
  have hv2 : atI things v = some things[v.toNat] := by
    have e : v = ((v.toNat : Nat) : Int) := by omega
    have h := atI_nat (xs := things) (List.getElem?_eq_getElem hi)
    rw [← e] at h
    exact h
  refine zo_ix hv2 ?_
  exact ⟨_, _, rfl, hF v.toNat _ t' (List.getElem?_eq_getElem hi), m0⟩
/-- the cells drawn so far: the columns below i, and of column i the rows below j -/
def R_someRule (xs ds : List PyData) (F : DOut → List PyData → Prop) : Prop := ∃ t : RowS, xs = t.d ∧ ds = [] ∧ ∀ (r : Rl) (t' : RowS), Rule r → (∀ k ∈ r.b, 2 ≤ k) → F (.ok r.d) t'.d
def Asc (lo i : Nat) (l : List Nat) : Prop := l.Pairwise (· < ·) ∧ ∀ k ∈ l, lo ≤ k ∧ k < lo + i
theorem asc0 {lo : Nat} : Asc lo 0 [] := ⟨.nil, fun k h => (nomatch h)⟩
theorem Asc.skip {lo i : Nat} {l : List Nat} (h : Asc lo i l) : Asc lo (i + 1) l := ⟨h.1, fun k hk => by have := h.2 k hk; omega⟩
theorem Asc.put {lo i : Nat} {l : List Nat} (h : Asc lo i l) : Asc lo (i + 1) (l ++ [lo + i]) := by
  refine ⟨List.pairwise_append.mpr ⟨h.1, by simp, fun a ha b hb => ?_⟩, fun k hk => ?_⟩
  · have : b = lo + i := by simpa using hb
    have := h.2 a ha
    omega
  · rcases List.mem_append.mp hk with z | z
    · have := h.2 k z; omega
    · have : k = lo + i := by simpa using z
      omega
theorem ok_law_some_rule {P : Program} {w : World} {K : Fg} {mg : Str → Option Value} {base : Heap} {f : Addr} {fd : FuncData} (F : Fun K "_law_some_rule" "_law_some_rule" s_law_some_rule f fd)
    (m_tuple : mg "tuple" = none)
    (m_range : mg "range" = none)
    (c__law_taken : Cal P w K mg base 1 "_law_taken" (spC K 1 R_taken))
    (c__law_pick : Cal P w K mg base 2 "_law_pick" (spC K 1 R_pick)) :
    FnOk P w K mg base (L2.CX P w) 3 f fd ["row"] (spC K 0 R_someRule) := by
  refine F.okX sc_law_some_rule (fun vs H Q E h => len_C h) (fun cdv A outer s H vs Q E hr h => ⟨_, (pss_cons (ps_set (i := 1) sc_law_some_rule.nd rfl (by first | exact Or.inl rfl | exact Or.inr rfl) (pe_cl c__law_taken hr (show 1 ≤ 2 by decide) passL (pa_cons (pv 0) (pa_cons pe_int pa_nil))))
      (pss_cons (ps_if (pt_cmpR op_lt (pv 1) pe_int (nomark _)) (pss_one (ps_ret (pe_tup (pa_cons (pe_tup (pa_cons pe_int pa_nil)) (pa_cons (pe_tup (pa_cons pe_int (pa_cons pe_int pa_nil))) (pa_cons pe_int pa_nil)))))) pss_nil)
      (pss_cons (ps_set (i := 2) sc_law_some_rule.nd rfl (by first | exact Or.inl rfl | exact Or.inr rfl) (pe_callTy call_tuple_of (by rfl) m_tuple bt_tuple (pa_cons (pe_lc (own := [("k", 3)]) rfl sc_law_some_rule.nd (pi_range2 (by rfl) m_range (pa_cons pe_int (pa_cons pe_int pa_nil))) (blkOk_by (N := N_law_some_rule) (sc := defScope s_law_some_rule) (by decide +kernel)) (fun _ _ _ _ _ => (pg_name (i := 3) sc_law_some_rule.nd rfl (by first | exact Or.inl rfl | exact Or.inr rfl))) (fun _ _ _ _ _ => (pts_one (pt_cmpR (show OpR _ (compareOp .Eq) (rEqA K) from (op_eqA hr.units)) (pe_cl c__law_taken hr (show 1 ≤ 2 by decide) passL (pa_cons (pv 0) (pa_cons pe_int pa_nil))) pe_int (nomark _)))) (fun _ _ _ _ _ => (pv 3))) pa_nil)))
      (pss_cons (ps_set (i := 4) sc_law_some_rule.nd rfl (by first | exact Or.inl rfl | exact Or.inr rfl) (pe_callTy call_tuple_of (by rfl) m_tuple bt_tuple (pa_cons (pe_lc (own := [("k", 3)]) rfl sc_law_some_rule.nd (pi_range1 (by rfl) m_range (pa_cons pe_int pa_nil)) (blkOk_by (N := N_law_some_rule) (sc := defScope s_law_some_rule) (by decide +kernel)) (fun _ _ _ _ _ => (pg_name (i := 3) sc_law_some_rule.nd rfl (by first | exact Or.inl rfl | exact Or.inr rfl))) (fun _ _ _ _ _ => (pts_one (pt_cmpR (show OpR _ (compareOp .Eq) (rEqA K) from (op_eqA hr.units)) (pe_cl c__law_taken hr (show 1 ≤ 2 by decide) passL (pa_cons (pv 0) (pa_cons pe_int pa_nil))) pe_int (nomark _)))) (fun _ _ _ _ _ => (pv 3))) pa_nil)))
      (pss_one (ps_ret (pe_tup (pa_cons (pv 2) (pa_cons (pv 4) (pa_cons (pe_cl c__law_pick hr (show 2 ≤ 2 by decide) passL (pa_cons (pv 0) (pa_cons (pe_lst (pa_cons pe_int (pa_cons pe_int (pa_cons pe_int (pa_cons pe_int (pa_cons pe_int pa_nil)))))) pa_nil))) pa_nil)))))))))),
    fn_C h fun p xs ds F hk hR => ?_⟩)
  try dsimp only [L2.cxOf]
  obtain ⟨t, rfl, rfl, hF⟩ := hR
  have hsz : (sizeLine : Nat) = 16777216 := sizeLine_eq
  walk_at "zq"
  refine ⟨_, _, _, _, _, rfl, m0, allD_cons allD_nil, rfl, ⟨t, 6, rfl, rfl, by decide, by decide, fun v t1 h0 hv => ⟨_, _, rfl, .here, ?_⟩⟩⟩
  clear t
  walk_at "zq"
  refine ⟨fun h => ?_, fun h => ?_⟩
  · walk_at "zq"
    walk_at "zt"
    walk_at "zq"
    walk_at "zt"
    walk_at "zq"
    walk_at "zt"
    exact ⟨_, _, rfl, hF ⟨[3], [2, 3], 2⟩ t1 ⟨by decide, by decide, by decide, by decide, by decide, by decide⟩ (by decide), m0⟩
  · walk_at "zq"
    refine ⟨2, 9, rfl, ⟨by decide, by decide, by decide, by decide⟩, by rw [hsz]; decide, fun i acc M' => ∃ (t : RowS) (l : List Nat), acc = (l.map fun (k : Nat) => .int (k : Int)) ∧ M' = [(p, false, .lst t.d)] ∧ Asc 2 i l, ⟨t1, [], rfl, rfl, asc0⟩, ?_, ?_⟩
    · rintro i hi acc M2 D ⟨t, l, rfl, rfl, hA⟩
      refine ⟨_, _, ?_, zg_name, ?_⟩
      · simp
      · walk_at "zq"
        refine ⟨p, _, _, _, _, rfl, m1 m0, allD_cons allD_nil, rfl, ⟨t, 4, rfl, rfl, by decide, by decide, fun u t2 h0 hu => ⟨_, _, rfl, .there .here, ?_⟩⟩⟩
        walk_at "zq"
        refine ⟨fun hb => ⟨_, rfl, t2, l, rfl, rfl, hA.skip⟩, fun hb => ?_⟩
        walk_at "zq"
        exact ⟨t2, l ++ [2 + i], by simp, rfl, hA.put⟩
    · rintro acc M2 ⟨t, l, rfl, rfl, hA⟩
      replace hA : Asc 2 7 l := hA
      walk_at "zq"
      refine zc_tupL ?_
      walk_at "zq"
      refine ⟨by decide, by rw [hsz]; decide, fun i acc M' => ∃ (t : RowS) (l : List Nat), acc = (l.map fun (k : Nat) => .int (k : Int)) ∧ M' = [(p, false, .lst t.d)] ∧ Asc 0 i l, ⟨t, [], rfl, rfl, asc0⟩, ?_, ?_⟩
      · rintro i hi acc M2 D ⟨t, s, rfl, rfl, hS⟩
        refine ⟨_, _, ?_, zg_name, ?_⟩
        · simp
        · walk_at "zq"
          refine ⟨p, _, _, _, _, rfl, m1 m0, allD_cons allD_nil, rfl, ⟨t, 3, rfl, rfl, by decide, by decide, fun u t2 h0 hu => ⟨_, _, rfl, .there .here, ?_⟩⟩⟩
          walk_at "zq"
          refine ⟨fun hb => ⟨_, rfl, t2, s, rfl, rfl, hS.skip⟩, fun hb => ?_⟩
          walk_at "zq"
          exact ⟨t2, s ++ [0 + i], by simp, rfl, hS.put⟩
      · rintro acc M2 ⟨t, s, rfl, rfl, hS⟩
        replace hS : Asc 0 9 s := hS
        walk_at "zq"
        refine zc_tupL ?_
        walk_at "zq"
        refine zw_lstD ?_
        walk_at "zq"
        walk_at "zt"
        walk_at "zq"
        refine ⟨p, _, _, _, _, rfl, m0, allD_cons allD_nil, rfl, ⟨t, _, rfl, rfl, by simp, by simp, fun i v t2 hv => ⟨_, _, rfl, .here, ?_⟩⟩⟩
        obtain ⟨n, rfl, hn2, hn6⟩ : ∃ n : Nat, v = .int (n : Int) ∧ 2 ≤ n ∧ n ≤ 6 := by
          have hm := List.mem_of_getElem? hv
          simp only [List.mem_cons, List.not_mem_nil, or_false] at hm
          rcases hm with rfl | rfl | rfl | rfl | rfl
          · exact ⟨2, rfl, by decide, by decide⟩
          · exact ⟨2, rfl, by decide, by decide⟩
          · exact ⟨3, rfl, by decide, by decide⟩
          · exact ⟨4, rfl, by decide, by decide⟩
          · exact ⟨6, rfl, by decide, by decide⟩
        walk_at "zq"
        walk_at "zt"
        exact ⟨_, _, rfl, hF ⟨l, s, n⟩ t2 ⟨fun k hk => by have := hA.2 k hk; omega, fun k hk => by have := hS.2 k hk; omega, hA.1, hS.1, hn2, hn6⟩ (fun k hk => (hA.2 k hk).1), m0⟩
/-! ### the law's own step -/
def arP (x y : Int) : List (Int × Int) := [(x - 1, y - 1), (x - 1, y), (x - 1, y + 1), (x, y - 1), (x, y + 1), (x + 1, y - 1), (x + 1, y), (x + 1, y + 1)]
abbrev prP (p : Int × Int) : PyData := pr p.1 p.2
abbrev arD (x y : Int) : List PyData := (arP x y).map prP
def itm (x y : Int) (i j : Nat) : List PyData := if (i : Int) - 1 = 0 ∧ (j : Int) - 1 = 0 then [] else [pr (x + ((i : Int) - 1)) (y + ((j : Int) - 1))]
def accI (x y : Int) (i j : Nat) : List PyData := (List.range j).flatMap (itm x y i)
def accO (x y : Int) (i : Nat) : List PyData := (List.range i).flatMap fun i => accI x y i 3
theorem accI_succ (x y : Int) (i j : Nat) : accI x y i (j + 1) = accI x y i j ++ itm x y i j := by
  unfold accI
  rw [List.range_succ, List.flatMap_append]
  simp
theorem accO_succ (x y : Int) (i : Nat) : accO x y (i + 1) = accO x y i ++ accI x y i 3 := by
  unfold accO
  rw [List.range_succ, List.flatMap_append]
  simp
theorem accO_all (x y : Int) : accO x y 3 = arD x y := by
  simp [accO, accI, itm, arD, arP, List.range_succ, Int.sub_eq_add_neg]
theorem three_at {i : Nat} {v : PyData} (h : [PyData.int (-1), .int 0, .int 1][i]? = some v) : i < 3 ∧ v = .int ((i : Int) - 1) := by
  match i, h with
  | 0, h => exact ⟨by decide, (Option.some.inj h).symm⟩
  | 1, h => exact ⟨by decide, (Option.some.inj h).symm⟩
  | 2, h => exact ⟨by decide, (Option.some.inj h).symm⟩
theorem accI_len (x y : Int) (i : Nat) : ∀ j, (accI x y i j).length ≤ j
  | 0 => Nat.le_refl 0
  | j + 1 => by
    rw [accI_succ, List.length_append]
    have := accI_len x y i j
    have : (itm x y i j).length ≤ 1 := by unfold itm; split <;> simp
    omega
theorem accO_len (x y : Int) : ∀ i, (accO x y i).length ≤ 3 * i
  | 0 => Nat.le_refl 0
  | i + 1 => by
    rw [accO_succ, List.length_append]
    have := accO_len x y i
    have := accI_len x y i 3
    omega
def R_laround (ds : List PyData) (o : DOut) : Prop := ∃ x y : Int, ds = [pr x y] ∧ o = .ok (.list (arD x y))
theorem ok_law_around {P : Program} {w : World} {K : Fg} {mg : Str → Option Value} {base : Heap} {f : Addr} {fd : FuncData} (F : Fun K "_law_around" "_law_around" s_law_around f fd) :
    FnOk P w K mg base (L2.CX P w) 1 f fd ["place"] (spD K 1 R_laround) := by
  refine F.okX sc_law_around (fun vs H Q E h => len_D h) (fun cdv A outer s H vs Q E hr h => ⟨_, (pss_cons (ps_set (i := 1) sc_law_around.nd rfl (by first | exact Or.inl rfl | exact Or.inr rfl) (pe_lst pa_nil))
      (pss_cons (ps_for (passes_of rfl) rfl (pi_list (pe_lst (pa_cons (pe_un un_neg pe_int) (pa_cons pe_int (pa_cons pe_int pa_nil))))) (pg_name (i := 2) sc_law_around.nd rfl (by first | exact Or.inl rfl | exact Or.inr rfl)) (pss_one (ps_for (passes_of rfl) rfl (pi_list (pe_lst (pa_cons (pe_un un_neg pe_int) (pa_cons pe_int (pa_cons pe_int pa_nil))))) (pg_name (i := 3) sc_law_around.nd rfl (by first | exact Or.inl rfl | exact Or.inr rfl)) (pss_one (ps_if (PW.pt (pw_or (pt_cmpR (op_neA hr.units) (pv 2) pe_int (nomark _)) (pw_or1 (pt_cmpR (op_neA hr.units) (pv 3) pe_int (nomark _))))) (pss_one (ps_expr (pe_bm PySem.F.plainAttrs_list PySem.F.slot_list_append PySem.F.type_list_append mt_append (pv 1) (pa_cons (pe_tup (pa_cons (pe_op op_addA (pe_ix ix_seq (pv 0) pe_int (fun _ _ => rfl)) (pv 2)) (pa_cons (pe_op op_addA (pe_ix ix_seq (pv 0) pe_int (fun _ _ => rfl)) (pv 3)) pa_nil))) pa_nil)))) pss_nil)))))
      (pss_one (ps_ret (pv 1))))),
    fn_D h fun ds o hk hR => ?_⟩)
  try dsimp only [L2.cxOf]
  obtain ⟨x, y, rfl, rfl⟩ := hR
  have hsz : (sizeLine : Nat) = 16777216 := sizeLine_eq
  walk_at "zq"
  refine zw_lstC ?_
  walk_at "zq"
  walk_at "zt"
  intro q
  walk_at "zq"
  refine zw_lstD ?_
  walk_at "zq"
  walk_at "zt"
  refine ⟨_, rfl, fun i S2 M2 => ∃ (c2 c3 : Option ZV), S2 = [some (.d (pr x y)), some (.c q), c2, c3] ∧ M2 = [(q, true, .lst (accO x y i))], ⟨_, _, rfl, rfl⟩, ?_, ?_⟩
  · rintro i v S2 M2 hv ⟨c2, c3, rfl, rfl⟩
    obtain ⟨hi, rfl⟩ := three_at hv
    refine ⟨_, _, zg_name, ?_⟩
    walk_at "zq"
    refine zw_lstD ?_
    walk_at "zq"
    walk_at "zt"
    refine ⟨_, rfl, fun j S2 M2 => ∃ (c3 : Option ZV), S2 = [some (.d (pr x y)), some (.c q), some (.d (.int ((i : Int) - 1))), c3] ∧ M2 = [(q, true, .lst (accO x y i ++ accI x y i j))], ⟨_, rfl, by rw [show accI x y i 0 = [] from rfl, List.append_nil]⟩, ?_, ?_⟩
    · rintro j v S2 M2 hv ⟨c3, rfl, rfl⟩
      obtain ⟨hj, rfl⟩ := three_at hv
      refine ⟨_, _, zg_name, ?_⟩
      have l1 := accO_len x y i
      have l2 := accI_len x y i j
      walk_at "zq"
      refine ⟨fun h => ?_, fun h => ?_⟩
      · have h : ¬ ((i : Int) - 1 = 0) := by simpa using h
        walk_at "zq"
        refine zw_append ?_
        walk_at "zq"
        refine ⟨⟨_, _, m0⟩, ?_⟩
        walk_at "zq"
        walk_at "zt"
        refine ⟨_, _, _, _, rfl, .here, by rw [List.length_append]; omega, ?_⟩
        walk_at "zq"
        rw [accI_succ, show itm x y i j = [pr (x + ((i : Int) - 1)) (y + ((j : Int) - 1))] from if_neg (by omega), List.append_assoc]
      · have h : (i : Int) - 1 = 0 := by simpa using h
        walk_at "zq"
        refine ⟨fun h2 => ?_, fun h2 => ?_⟩
        · have h2 : ¬ ((j : Int) - 1 = 0) := by simpa using h2
          walk_at "zq"
          refine zw_append ?_
          walk_at "zq"
          refine ⟨⟨_, _, m0⟩, ?_⟩
          walk_at "zq"
          walk_at "zt"
          refine ⟨_, _, _, _, rfl, .here, by rw [List.length_append]; omega, ?_⟩
          walk_at "zq"
          rw [accI_succ, show itm x y i j = [pr (x + ((i : Int) - 1)) (y + ((j : Int) - 1))] from if_neg (by omega), List.append_assoc]
        · have h2 : (j : Int) - 1 = 0 := by simpa using h2
          walk_at "zq"
          rw [accI_succ, show itm x y i j = [] from if_pos ⟨h, h2⟩, List.append_nil]
    · rintro S2 M2 ⟨c3, rfl, rfl⟩
      refine ⟨_, _, rfl, ?_⟩
      rw [accO_succ]
      rfl
  · rintro S2 M2 ⟨c2, c3, rfl, rfl⟩
    refine zs_ret (zw_frz ?_)
    walk_at "zq"
    refine ⟨q, _, _, rfl, .here, ?_⟩
    rw [show accO x y [PyData.int (-1), PyData.int 0, PyData.int 1].length = arD x y from accO_all x y]
    exact ⟨_, rfl, rfl⟩
/-! ### pictures -/
structure ColOk (h : Nat) (c : List Nat) : Prop where
  len : c.length = h
  bit : ∀ k ∈ c, k ≤ 1
structure PicOk (h : Nat) (P : List (List Nat)) : Prop where
  h1 : 1 ≤ h
  h3 : h ≤ 3
  ne : P ≠ []
  few : P.length ≤ 30
  each : ∀ c ∈ P, ColOk h c
abbrev picD (P : List (List Nat)) : PyData := .tuple (P.map natsD)
theorem bet01 {k : Nat} (h : k ≤ 1) : dBetween (.int (k : Int)) 0 1 = true := by
  show (decide ((0 : Int) ≤ (k : Int)) && decide ((k : Int) ≤ 1)) = true
  rw [decide_eq_true (show (0 : Int) ≤ (k : Int) by omega), decide_eq_true (show (k : Int) ≤ 1 by omega)]
  rfl
theorem all_true {α : Type} (l : List α) : (l.map fun _ => true).all id = true := List.all_eq_true.mpr fun x hx => by
  obtain ⟨_, _, rfl⟩ := List.mem_map.mp hx
  rfl
def R_isCol (ds : List PyData) (o : DOut) : Prop := ∃ (h : Nat) (c : List Nat), ds = [natsD c] ∧ 1 ≤ h ∧ h ≤ 3 ∧ ColOk h c ∧ o = .ok (.bool true)
theorem ok_is_column {P : Program} {w : World} {K : Fg} {mg : Str → Option Value} {base : Heap} {f : Addr} {fd : FuncData} (F : Fun K "_is_column" "_is_column" s_is_column f fd)
    (m_len : mg "len" = none)
    (g_MOST_ROWS : ∃ u, mg "MOST_ROWS" = some u ∧ RelV (.int 3) u)
    (m_isinstance : mg "isinstance" = none)
    (m_tuple : mg "tuple" = none)
    (m_all : mg "all" = none)
    (c_is_between : Cal P w K mg base 1 "is_between" (spD K 3 R_between)) :
    FnOk P w K mg base (L2.CX P w) 2 f fd ["value"] (spD K 1 R_isCol) := by
  refine F.okX sc_is_column (fun vs H Q E h => len_D h) (fun cdv A outer s H vs Q E hr h => ⟨_, (pss_cons (ps_if (PW.pt (pw_or (pt_not (pt_val (pe_callB call_isi (by rfl) m_isinstance bb_isinstance (pa_cons (pv 0) (pa_cons (pe_bltn (v := .ty "tuple") (by rfl) m_tuple bt_tuple rfl) pa_nil))) (fun _ => rfl))) (pw_or1 (pt_not (pt_chain op_le op_le pe_int (pe_callB call_len (by rfl) m_len bb_len (pa_cons (pv 0) pa_nil)) (pe_glob (by rfl) g_MOST_ROWS.choose_spec.1 g_MOST_ROWS.choose_spec.2)))))) (pss_one (ps_ret pe_bl)) pss_nil)
      (pss_one (ps_ret (pe_callB (cr_all rfl) (by rfl) m_all bb_all (pa_cons (pe_lc (own := [("cell", 1)]) rfl sc_is_column.nd (pi_tup (pv 0)) (blkOk_by (N := N_is_column) (sc := defScope s_is_column) (by decide +kernel)) (fun _ _ _ _ _ => (pg_name (i := 1) sc_is_column.nd rfl (by first | exact Or.inl rfl | exact Or.inr rfl))) (fun _ _ _ _ _ => pts_nil) (fun _ _ _ _ _ => (pe_cl c_is_between hr (show 1 ≤ 1 by decide) passL (pa_cons (pv 1) (pa_cons pe_int (pa_cons pe_int pa_nil)))))) pa_nil))))),
    fn_D h fun ds o hk hR => ?_⟩)
  try dsimp only [L2.cxOf]
  obtain ⟨h, c, rfl, h1, h3, hc, rfl⟩ := hR
  have hsz : (sizeLine : Nat) = 16777216 := sizeLine_eq
  have hl := hc.len
  walk_at "zq"
  rw [decide_eq_true (show (1 : Int) ≤ (((c.map fun (k : Nat) => PyData.int (k : Int)).length : Nat) : Int) by rw [List.length_map]; omega)]
  refine ⟨fun z => (nomatch z), fun _ => ?_⟩
  walk_at "zq"
  rw [decide_eq_true (show (((c.map fun (k : Nat) => PyData.int (k : Int)).length : Nat) : Int) ≤ 3 by rw [List.length_map]; omega)]
  walk_at "zq"
  refine lcT_map c (fun (k : Nat) => .int (k : Int)) (fun _ => .bool true) ?_
  walk_at "zq"
  refine ⟨rfl, by omega, fun k hk => ⟨_, _, ?_, zg_name, fun D acc => ?_⟩, ?_⟩
  · simp
  · have := hc.bit k hk
    walk_at "zq"
    refine ⟨_, _, by walk_at "zd", rfl, ⟨_, 0, 1, rfl, rfl⟩, ?_⟩
    rw [bet01 this]
    exact ⟨rfl, rfl⟩
  walk_at "zq"
  rw [show (c.map fun _ => PyData.bool true) = (c.map fun _ => true).map .bool by rw [List.map_map]; rfl]
  refine zc_all ?_
  rw [all_true]
  exact ⟨_, rfl, rfl⟩
def R_isPic (ds : List PyData) (o : DOut) : Prop := ∃ (h : Nat) (P : List (List Nat)), ds = [picD P] ∧ PicOk h P ∧ o = .ok (.bool true)
theorem ok_is_picture {P : Program} {w : World} {K : Fg} {mg : Str → Option Value} {base : Heap} {f : Addr} {fd : FuncData} (F : Fun K "_is_picture" "_is_picture" s_is_picture f fd)
    (m_len : mg "len" = none)
    (g_MOST_COLUMNS : ∃ u, mg "MOST_COLUMNS" = some u ∧ RelV (.int 30) u)
    (m_isinstance : mg "isinstance" = none)
    (m_tuple : mg "tuple" = none)
    (m_all : mg "all" = none)
    (c__is_column : Cal P w K mg base 2 "_is_column" (spD K 1 R_isCol)) :
    FnOk P w K mg base (L2.CX P w) 3 f fd ["value"] (spD K 1 R_isPic) := by
  refine F.okX sc_is_picture (fun vs H Q E h => len_D h) (fun cdv A outer s H vs Q E hr h => ⟨_, (pss_cons (ps_if (PW.pt (pw_or (pt_not (pt_val (pe_callB call_isi (by rfl) m_isinstance bb_isinstance (pa_cons (pv 0) (pa_cons (pe_bltn (v := .ty "tuple") (by rfl) m_tuple bt_tuple rfl) pa_nil))) (fun _ => rfl))) (pw_or1 (pt_not (pt_chain op_le op_le pe_int (pe_callB call_len (by rfl) m_len bb_len (pa_cons (pv 0) pa_nil)) (pe_glob (by rfl) g_MOST_COLUMNS.choose_spec.1 g_MOST_COLUMNS.choose_spec.2)))))) (pss_one (ps_ret pe_bl)) pss_nil)
      (pss_cons (ps_if (pt_not (pt_val (pe_callB (cr_all rfl) (by rfl) m_all bb_all (pa_cons (pe_lc (own := [("column", 1)]) rfl sc_is_picture.nd (pi_tup (pv 0)) (blkOk_by (N := N_is_picture) (sc := defScope s_is_picture) (by decide +kernel)) (fun _ _ _ _ _ => (pg_name (i := 1) sc_is_picture.nd rfl (by first | exact Or.inl rfl | exact Or.inr rfl))) (fun _ _ _ _ _ => pts_nil) (fun _ _ _ _ _ => (pe_cl c__is_column hr (show 2 ≤ 2 by decide) passL (pa_cons (pv 1) pa_nil)))) pa_nil)) (fun _ => rfl))) (pss_one (ps_ret pe_bl)) pss_nil)
      (pss_one (ps_ret (pe_callB (cr_all rfl) (by rfl) m_all bb_all (pa_cons (pe_lc (own := [("column", 1)]) rfl sc_is_picture.nd (pi_tup (pv 0)) (blkOk_by (N := N_is_picture) (sc := defScope s_is_picture) (by decide +kernel)) (fun _ _ _ _ _ => (pg_name (i := 1) sc_is_picture.nd rfl (by first | exact Or.inl rfl | exact Or.inr rfl))) (fun _ _ _ _ _ => pts_nil) (fun _ _ _ _ _ => (pe_cmpR (show OpR _ (compareOp .Eq) (rEqA K) from (op_eqA hr.units)) (pe_callB (show CallR _ (.builtin "len") (rLenA K) from call_len) (by rfl) m_len bb_len (pa_cons (pv 1) pa_nil)) (pe_callB (show CallR _ (.builtin "len") (rLenA K) from call_len) (by rfl) m_len bb_len (pa_cons (pe_ix (show IxR _ (rIx K) from ix_seq) (pv 0) pe_int (fun _ _ => rfl)) pa_nil)) (nomark _)))) pa_nil)))))),
    fn_D h fun ds o hk hR => ?_⟩)
  try dsimp only [L2.cxOf]
  obtain ⟨h, P, rfl, hP, rfl⟩ := hR
  have hsz : (sizeLine : Nat) = 16777216 := sizeLine_eq
  have hl := hP.few
  have hne : 1 ≤ P.length := List.length_pos_iff.mpr hP.ne
  have hlen : (P.map natsD).length = P.length := List.length_map ..
  obtain ⟨c0, h0⟩ : ∃ c0, P[0]? = some c0 := ⟨_, List.getElem?_eq_getElem hne⟩
  have hc0 := (hP.each c0 (List.mem_of_getElem? h0)).len
  have hat : atI (P.map natsD) 0 = some (natsD c0) := atI_nat (j := 0) (by rw [List.getElem?_map, h0]; rfl)
  walk_at "zq"
  rw [decide_eq_true (show (1 : Int) ≤ (((P.map natsD).length : Nat) : Int) by omega)]
  refine ⟨fun z => (nomatch z), fun _ => ?_⟩
  walk_at "zq"
  rw [decide_eq_true (show (((P.map natsD).length : Nat) : Int) ≤ 30 by omega)]
  walk_at "zq"
  refine lcT_map P natsD (fun _ => .bool true) ?_
  walk_at "zq"
  refine ⟨rfl, by omega, fun c hc => ⟨_, _, ?_, zg_name, fun D acc => ?_⟩, ?_⟩
  · simp
  · walk_at "zq"
    refine ⟨_, _, by walk_at "zd", rfl, ⟨h, c, rfl, hP.h1, hP.h3, hP.each c hc, rfl⟩, ?_⟩
    exact ⟨rfl, rfl⟩
  walk_at "zq"
  rw [show (P.map fun _ => PyData.bool true) = (P.map fun _ => true).map .bool by rw [List.map_map]; rfl]
  refine zc_all ?_
  rw [all_true]
  walk_at "zq"
  refine lcT_map P natsD (fun _ => .bool true) ?_
  walk_at "zq"
  refine ⟨rfl, by omega, fun c hc => ⟨_, _, ?_, zg_name, fun D acc => ?_⟩, ?_⟩
  · simp
  · have hcl := (hP.each c hc).len
    walk_at "zq"
    rw [decide_eq_true (show (((c.map fun (k : Nat) => PyData.int (k : Int)).length : Nat) : Int) = (((c0.map fun (k : Nat) => PyData.int (k : Int)).length : Nat) : Int) by rw [List.length_map, List.length_map]; omega)]
    exact ⟨rfl, rfl⟩
  walk_at "zq"
  rw [show (P.map fun _ => PyData.bool true) = (P.map fun _ => true).map .bool by rw [List.map_map]; rfl]
  refine zc_all ?_
  rw [all_true]
  exact ⟨_, rfl, rfl⟩
def R_chkArgs (ds : List PyData) (o : DOut) : Prop := ∃ (r : Rl) (h : Nat) (P : List (List Nat)), ds = [r.d, picD P] ∧ Rule r ∧ r.n = 2 ∧ PicOk h P ∧ o = .ok .none
theorem ok_check_arguments {P : Program} {w : World} {K : Fg} {mg : Str → Option Value} {base : Heap} {f : Addr} {fd : FuncData} (F : Fun K "_check_arguments" "_check_arguments" s_check_arguments f fd)
    (c_check_rule : Cal P w K mg base 4 "check_rule" (spD K 1 R_chkRule))
    (c__is_picture : Cal P w K mg base 3 "_is_picture" (spD K 1 R_isPic)) :
    FnOk P w K mg base (L2.CX P w) 5 f fd ["rule", "picture"] (spD K 2 R_chkArgs) := by
  refine F.okX sc_check_arguments (fun vs H Q E h => len_D h) (fun cdv A outer s H vs Q E hr h => ⟨_, (pss_cons (ps_expr (pe_cl c_check_rule hr (show 4 ≤ 4 by decide) passL (pa_cons (pv 0) pa_nil)))
      (pss_cons (ps_if (pt_cmpR op_gt (pe_ix ix_seq (pv 0) pe_int (fun _ _ => rfl)) pe_int (nomark _)) (pss_one ps_never) pss_nil)
      (pss_one (ps_if (pt_not (pt_val (pe_cl c__is_picture hr (show 3 ≤ 4 by decide) passL (pa_cons (pv 1) pa_nil)) (fun _ => rfl))) (pss_one ps_never) pss_nil)))),
    fn_D h fun ds o hk hR => ?_⟩)
  try dsimp only [L2.cxOf]
  obtain ⟨r, h, P, rfl, hr2, hn, hP, rfl⟩ := hR
  walk_at "zq"
  refine ⟨_, _, by walk_at "zd", rfl, ⟨r, rfl, hr2, rfl⟩, ?_⟩
  walk_at "zq"
  rw [hn]
  walk_at "zq"
  refine ⟨_, _, by walk_at "zd", rfl, ⟨h, P, rfl, hP, rfl⟩, ?_⟩
  walk_at "zq"
  first | rfl | exact ⟨_, rfl, rfl⟩
/-! ### columns as numbers -/
theorem snoc_ind {α : Type} {P : List α → Prop} (h0 : P []) (h1 : ∀ l a, P l → P (l ++ [a])) (l : List α) : P l := by
  have : ∀ l : List α, P l.reverse := fun l => by
    induction l with
    | nil => exact h0
    | cons a l ih => rw [List.reverse_cons]; exact h1 _ _ ih
  have h := this l.reverse
  rw [List.reverse_reverse] at h
  exact h
theorem bit_eq (n k : Nat) : decide ((((n >>> k) &&& 1 : Nat) : Int) = 1) = n.testBit k := by
  unfold Nat.testBit
  rw [Nat.and_comm]
  have h : 1 &&& (n >>> k) = (n >>> k) % 2 := Nat.one_and_eq_mod_two _
  rw [h]
  have h2 := Nat.mod_lt (n >>> k) (show 0 < 2 by decide)
  by_cases z : (n >>> k) % 2 = 1
  · rw [z]; rfl
  · have z : (n >>> k) % 2 = 0 := by omega
    rw [z]; rfl
def colV (c : List Nat) : Nat := c.foldl (fun a k => (a <<< 1) ||| k) 0
theorem colV_snoc (c : List Nat) (k : Nat) : colV (c ++ [k]) = (colV c <<< 1) ||| k := by
  unfold colV
  rw [List.foldl_append]
  rfl
theorem or_bit {a k : Nat} (h : k ≤ 1) : (a <<< 1) ||| k = 2 * a + k := by
  rw [Nat.shiftLeft_eq, Nat.mul_comm, show 2 ^ 1 * a = 2 ^ 1 * a from rfl, ← Nat.two_pow_add_eq_or_of_lt (show k < 2 ^ 1 by omega)]
theorem colV_lt {h : Nat} {c : List Nat} (hc : ColOk h c) : colV c < 2 ^ h := by
  have key : ∀ c : List Nat, (∀ k ∈ c, k ≤ 1) → colV c < 2 ^ c.length := fun c hb => by
    induction c using snoc_ind with
    | h0 => decide
    | h1 c k ih =>
      have h1 := ih fun k hk => hb k (List.mem_append_left _ hk)
      have h2 := hb k (by simp)
      rw [colV_snoc, or_bit h2, List.length_append, List.length_singleton, Nat.pow_succ]
      omega
  have := key c hc.bit
  rw [hc.len] at this
  exact this
def R_colOf (ds : List PyData) (o : DOut) : Prop := ∃ (h : Nat) (c : List Nat), ds = [natsD c] ∧ h ≤ 5 ∧ ColOk h c ∧ o = .ok (.int (colV c : Int))
theorem ok_column_of {P : Program} {w : World} {K : Fg} {mg : Str → Option Value} {base : Heap} {f : Addr} {fd : FuncData} (F : Fun K "column_of" "column_of" s_column_of f fd) :
    FnOk P w K mg base (L2.CX P w) 1 f fd ["cells"] (spD K 1 R_colOf) := by
  refine F.okX sc_column_of (fun vs H Q E h => len_D h) (fun cdv A outer s H vs Q E hr h => ⟨_, (pss_cons (ps_set (i := 1) sc_column_of.nd rfl (by first | exact Or.inl rfl | exact Or.inr rfl) pe_int)
      (pss_cons (ps_for (passes_of rfl) rfl (pi_tup (pv 0)) (pg_name (i := 2) sc_column_of.nd rfl (by first | exact Or.inl rfl | exact Or.inr rfl)) (pss_one (ps_set (i := 1) sc_column_of.nd rfl (by first | exact Or.inl rfl | exact Or.inr rfl) (pe_op op_or (pe_op op_shlW (pv 1) pe_int) (pv 2)))))
      (pss_one (ps_ret (pv 1))))),
    fn_D h fun ds o hk hR => ?_⟩)
  try dsimp only [L2.cxOf]
  obtain ⟨h, c, rfl, h5, hc, rfl⟩ := hR
  have hsz : (sizeLine : Nat) = 16777216 := sizeLine_eq
  have hl := hc.len
  have sh1 : ∀ a : Nat, a < 2 ^ 40 → CShl (a : Int) ((1 : Nat) : Int) := fun a ha => by
    refine ⟨by omega, ?_⟩
    have := PyProof.Rows.intBits_le (a := (a : Int)) (k := 40) ha
    omega
  walk_at "zq"
  refine ⟨fun i S2 M2 => ∃ c2 : Option ZV, S2 = [some (.d (natsD c)), some (.d (.int (colV (c.take i) : Int))), c2] ∧ M2 = [], ⟨_, rfl, rfl⟩, ?_, ?_⟩
  · rintro i x S2 M2 hx ⟨c2, rfl, rfl⟩
    rw [List.getElem?_map] at hx
    obtain ⟨k, hk, rfl⟩ := Option.map_eq_some_iff.mp hx
    have h1 := colV_lt (h := (c.take i).length) ⟨rfl, fun k hk => hc.bit k (List.mem_of_mem_take hk)⟩
    have h2 : 2 ^ (c.take i).length ≤ 2 ^ 5 := Nat.pow_le_pow_right (by decide) (by rw [List.length_take]; omega)
    refine ⟨_, _, zg_name, ?_⟩
    walk_at "zq"
    refine zo_shlN (k := 1) (sh1 _ (by omega)) ?_
    walk_at "zq"
    refine ⟨some (.d (.int (k : Int))), ?_, rfl⟩
    rw [List.take_add_one, hk, Option.toList_some, colV_snoc]
    rfl
  · rintro S2 M2 ⟨c2, rfl, rfl⟩
    rw [List.length_map, List.take_length]
    walk_at "zq"
    first | rfl | exact ⟨_, rfl, rfl⟩
/-- a column's cells, of its number -/
def bitsV (v : Nat) : Nat → List Nat
  | 0 => []
  | h + 1 => (v.testBit h).toNat :: bitsV v h
theorem bitsV_len (v : Nat) : ∀ h, (bitsV v h).length = h
  | 0 => rfl
  | h + 1 => by rw [bitsV, List.length_cons, bitsV_len v h]
theorem bitsV_ok (v h : Nat) : ColOk h (bitsV v h) := by
  refine ⟨bitsV_len v h, ?_⟩
  induction h with
  | zero => exact fun k hk => (nomatch hk)
  | succ h ih =>
    intro k hk
    rcases List.mem_cons.mp hk with rfl | hk
    · cases v.testBit h <;> decide
    · exact ih k hk
theorem bitsV_at (v h : Nat) : ∀ i, i < h → (bitsV v h)[i]? = some (v.testBit (h - 1 - i)).toNat := by
  induction h with
  | zero => exact fun i hi => absurd hi (by omega)
  | succ h ih =>
    intro i hi
    cases i with
    | zero => rw [bitsV]; simp
    | succ i =>
      rw [bitsV, List.getElem?_cons_succ, ih i (by omega)]
      congr 3
      omega
theorem bitsV_take (v h : Nat) {i : Nat} (hi : i < h) : (bitsV v h).take (i + 1) = (bitsV v h).take i ++ [(v.testBit (h - 1 - i)).toNat] := by
  rw [List.take_add_one, bitsV_at v h i hi]
  rfl
def R_cellsOf (ds : List PyData) (o : DOut) : Prop := ∃ v h : Nat, ds = [.int (v : Int), .int (h : Int)] ∧ h ≤ 100 ∧ o = .ok (natsD (bitsV v h))
theorem ok_cells_of {P : Program} {w : World} {K : Fg} {mg : Str → Option Value} {base : Heap} {f : Addr} {fd : FuncData} (F : Fun K "cells_of" "cells_of" s_cells_of f fd)
    (m_tuple : mg "tuple" = none)
    (m_range : mg "range" = none) :
    FnOk P w K mg base (L2.CX P w) 1 f fd ["column", "many"] (spD K 2 R_cellsOf) := by
  refine F.okX sc_cells_of (fun vs H Q E h => len_D h) (fun cdv A outer s H vs Q E hr h => ⟨_, (pss_one (ps_ret (pe_callTy call_tuple_of (by rfl) m_tuple bt_tuple (pa_cons (pe_lc (own := [("row", 2)]) rfl sc_cells_of.nd (pi_range3 (by rfl) m_range (pa_cons (pe_op op_sub (pv 1) pe_int) (pa_cons (pe_un un_neg pe_int) (pa_cons (pe_un un_neg pe_int) pa_nil)))) (blkOk_by (N := N_cells_of) (sc := defScope s_cells_of) (by decide +kernel)) (fun _ _ _ _ _ => (pg_name (i := 2) sc_cells_of.nd rfl (by first | exact Or.inl rfl | exact Or.inr rfl))) (fun _ _ _ _ _ => pts_nil) (fun _ _ _ _ _ => (pe_op op_and (pe_op op_shr (pv 0) (pv 2)) pe_int))) pa_nil)))),
    fn_D h fun ds o hk hR => ?_⟩)
  try dsimp only [L2.cxOf]
  obtain ⟨v, h, rfl, hh, rfl⟩ := hR
  have hsz : (sizeLine : Nat) = 16777216 := sizeLine_eq
  have hr : RgC ((h : Int) - 1) (-1) (-1) h := by
    have r := RgC.neg (i := (h : Int) - 1) (j := -1) (by omega) (by omega) (by omega) (by omega)
    rw [show ((h : Int) - 1 - -1).toNat = h by omega] at r
    exact r
  walk_at "zq"
  refine ⟨_, _, _, h, rfl, hr, by omega, fun i acc M' => acc = ((bitsV v h).take i).map (fun (k : Nat) => .int (k : Int)) ∧ M' = [], ⟨rfl, rfl⟩, ?_, ?_⟩
  · rintro i hi acc M' D ⟨rfl, rfl⟩
    have hb : (((v >>> (h - 1 - i)) &&& 1 : Nat) : Int) = ((v.testBit (h - 1 - i)).toNat : Int) := by
      have e := bit_eq v (h - 1 - i)
      have l : (v >>> (h - 1 - i)) &&& 1 ≤ 1 := Nat.and_le_right
      cases z : v.testBit (h - 1 - i) with
      | true =>
        rw [z] at e
        have := of_decide_eq_true e
        simp only [Bool.toNat_true]
        omega
      | false =>
        rw [z] at e
        have := of_decide_eq_false e
        simp only [Bool.toNat_false]
        omega
    refine ⟨_, _, ?_, zg_name, ?_⟩
    · simp
    · rw [show ((h : Int) - 1 + (i : Int) * -1) = ((h - 1 - i : Nat) : Int) by omega]
      refine zt_yes ⟨fun z => (nomatch z), fun _ => ?_⟩
      walk_at "zq"
      refine zo_band (b := 1) ?_
      refine ⟨_, _, rfl, rfl, ?_, rfl⟩
      show _ = _
      rw [hb, bitsV_take v h hi, List.map_append]
      rfl
  · rintro acc M' ⟨rfl, rfl⟩
    rw [List.take_of_length_le (by rw [bitsV_len]; exact Nat.le_refl _)]
    walk_at "zq"
    refine zc_tupL ?_
    exact ⟨_, rfl, rfl⟩
/-! ### what becomes of nine cells -/
theorem binS_len (n : Nat) : (binS n).length = (MB.binL n).length := rfl
theorem cnt_list (l : List Nat) : cnt 49 l = ((l.count 49 : Nat) : Int) := by
  induction l with
  | nil => rfl
  | cons a l ih =>
    rw [cnt_cons, ih, List.count_cons]
    by_cases h : a = 49
    · subst h; simp; omega
    · rw [if_neg h]
      have : (a == 49) = false := by simpa using h
      rw [this]; simp
theorem count_bin (p : Nat) : Txt.count (binS p) ("1" : Str) = (((MB.ones p).length : Nat) : Int) := by
  have e1 : ("1" : Str) = ⟨#[49]⟩ := rfl
  rw [e1, count_cnt, MB.ones_count]
  exact cnt_list _
theorem flat_nats (l : List Nat) : ((l.map fun (k : Nat) => PyData.int (k : Int)).map vOf).all flatV = true ∧ (l.map fun (k : Nat) => PyData.int (k : Int)).all flatD = true := by
  constructor <;> (induction l with
  | nil => rfl
  | cons a l ih => simpa [vOf, flatV, flatD] using ih)
theorem inV_nats (n : Nat) (l : List Nat) : inV (vOf (.int (n : Int))) ((l.map fun (k : Nat) => PyData.int (k : Int)).map vOf) = decide (n ∈ l) := by
  induction l with
  | nil => rfl
  | cons a l ih =>
    have e : inV (vOf (.int (n : Int))) (((a :: l).map fun (k : Nat) => PyData.int (k : Int)).map vOf) = (eqV (.int (a : Int)) (.int (n : Int)) || inV (vOf (.int (n : Int))) ((l.map fun (k : Nat) => PyData.int (k : Int)).map vOf)) := rfl
    rw [e, ih]
    have e2 : eqV (.int (a : Int)) (.int (n : Int)) = decide (n = a) := by
      show ((a : Int) == (n : Int)) = decide (n = a)
      by_cases h : n = a
      · subst h; simp
      · rw [decide_eq_false h, beq_eq_false_iff_ne]
        omega
    rw [e2]
    simp
def lcF (r : Rl) (a : Nat) : Nat := if (MB.ones a).length - (a.testBit 4).toNat ∈ (if a.testBit 4 then r.s else r.b) then 1 else 0
theorem ones_alive (a : Nat) : (a.testBit 4).toNat ≤ (MB.ones a).length := by
  cases h : a.testBit 4 with
  | false => exact Nat.zero_le _
  | true =>
    have : 4 ∈ MB.ones a := (MB.mem_ones a 4).mpr h
    exact List.length_pos_of_mem this
def R_later9 (ds : List PyData) (o : DOut) : Prop := ∃ r : Rl, ds = [r.d] ∧ Rule r ∧ o = .ok (.list ((List.range 512).map fun (a : Nat) => .int (lcF r a : Int)))
theorem ok_later_cells {P : Program} {w : World} {K : Fg} {mg : Str → Option Value} {base : Heap} {f : Addr} {fd : FuncData} (F : Fun K "_later_cells" "_later_cells" s_later_cells f fd)
    (m_range : mg "range" = none) :
    FnOk P w K mg base (L2.CX P w) 1 f fd ["rule"] (spD K 1 R_later9) := by
  refine F.okX sc_later_cells (fun vs H Q E h => len_D h) (fun cdv A outer s H vs Q E hr h => ⟨_, (pss_cons (ps_asg (pe_slice sl_any (pv 0) po_none (po_some pe_int)) (pg_tup rfl (pgs_cons (pg_name (i := 1) sc_later_cells.nd rfl (by first | exact Or.inl rfl | exact Or.inr rfl)) (pgs_cons (pg_name (i := 2) sc_later_cells.nd rfl (by first | exact Or.inl rfl | exact Or.inr rfl)) pgs_nil))))
      (pss_cons (ps_set (i := 3) sc_later_cells.nd rfl (by first | exact Or.inl rfl | exact Or.inr rfl) (pe_lst pa_nil))
      (pss_cons (ps_for (passes_of rfl) rfl (pi_range1 (by rfl) m_range (pa_cons pe_int pa_nil)) (pg_name (i := 4) sc_later_cells.nd rfl (by first | exact Or.inl rfl | exact Or.inr rfl)) (pss_cons (ps_set (i := 5) sc_later_cells.nd rfl (by first | exact Or.inl rfl | exact Or.inr rfl) (pe_op op_and (pe_op op_shr (pv 4) pe_int) pe_int))
      (pss_cons (ps_set (i := 6) sc_later_cells.nd rfl (by first | exact Or.inl rfl | exact Or.inr rfl) (pe_op op_sub (pe_bm PySem.F.plainAttrs_str PySem.F.slot_str_count PySem.F.type_str_count mt_count (pe_joined1 (pe_fmtB (pv 4) (pe_joined1 pe_str))) (pa_cons pe_str pa_nil)) (pv 5)))
      (pss_one (ps_expr (pe_bm PySem.F.plainAttrs_list PySem.F.slot_list_append PySem.F.type_list_append mt_append (pv 3) (pa_cons (pe_ifExp (pt_cmpR op_in_seq (pv 6) (pe_ifExp (pt_cmpR (op_eqA hr.units) (pv 5) pe_int (nomark _)) (pv 2) (pv 1)) (by rfl)) pe_int pe_int) pa_nil)))))))
      (pss_one (ps_ret (pv 3)))))),
    fn_D h fun ds o hk hR => ?_⟩)
  try dsimp only [L2.cxOf]
  obtain ⟨r, rfl, hr2, rfl⟩ := hR
  have hsz : (sizeLine : Nat) = 16777216 := sizeLine_eq
  walk_at "zq"
  refine zw_lstC ?_
  walk_at "zq"
  refine ⟨[], allD_nil, Nat.zero_le _, fun q => ?_⟩
  walk_at "zq"
  refine ⟨by decide, by decide, fun i S2 M2 => ∃ c4 c5 c6 : Option ZV, S2 = [some (.d r.d), some (.d (natsD r.b)), some (.d (natsD r.s)), some (.c q), c4, c5, c6] ∧ M2 = [(q, true, .lst ((List.range i).map fun (a : Nat) => .int (lcF r a : Int)))], ⟨_, _, _, rfl, rfl⟩, ?_, ?_⟩
  · rintro i S2 M2 hi ⟨c4, c5, c6, rfl, rfl⟩
    have hi : i < 512 := hi
    have hal := ones_alive i
    have hb : (((i >>> 4) &&& 1 : Nat) : Int) = ((i.testBit 4).toNat : Int) := by
      have e := bit_eq i 4
      have l : (i >>> 4) &&& 1 ≤ 1 := Nat.and_le_right
      cases z : i.testBit 4 with
      | true =>
        rw [z] at e
        have := of_decide_eq_true e
        simp only [Bool.toNat_true]
        omega
      | false =>
        rw [z] at e
        have := of_decide_eq_false e
        simp only [Bool.toNat_false]
        omega
    have hlen : (binS i).length ≤ 20 := by
      rw [binS_len, MB.binL_len]
      have : i.log2 < 10 := by
        by_cases z : i = 0
        · subst z; decide
        · exact (Nat.log2_lt z).2 (by omega)
      omega
    have ef : ((List.range (i + 1)).map fun (a : Nat) => PyData.int (lcF r a : Int)) = ((List.range i).map fun (a : Nat) => PyData.int (lcF r a : Int)) ++ [.int (lcF r i : Int)] := by
      rw [List.range_succ, List.map_append]
      rfl
    refine ⟨_, _, zg_name, ?_⟩
    rw [show (0 : Int) + (i : Int) = (i : Int) by omega]
    walk_at "zq"
    refine zo_shrN (a := i) (k := 4) ?_
    walk_at "zq"
    refine zo_band (b := 1) ?_
    rw [hb]
    walk_at "zq"
    refine ⟨by omega, ?_⟩
    walk_at "zq"
    rw [count_bin]
    walk_at "zq"
    rw [show (((MB.ones i).length : Nat) : Int) - ((i.testBit 4).toNat : Int) = (((MB.ones i).length - (i.testBit 4).toNat : Nat) : Int) by omega]
    refine zw_append ?_
    walk_at "zz"
    refine ⟨q, rfl, ⟨_, _, m0⟩, ?_⟩
    refine (zw_cut (z0 := .d (.int (lcF r i : Int))) (M0 := [(q, true, .lst ((List.range i).map fun (a : Nat) => .int (lcF r a : Int)))]) ?_ ?_)
    · cases z : i.testBit 4 with
      | true =>
        walk_at "zq"
        refine zo_inT ⟨rfl, rfl⟩ (flat_nats r.s) ?_
        rw [inV_nats]
        have e : lcF r i = if (MB.ones i).length - 1 ∈ r.s then 1 else 0 := by unfold lcF; rw [z]; rfl
        rw [e]
        refine ⟨_, rfl, fun hq => ?_, fun hq => ?_⟩
        · have hq : (MB.ones i).length - 1 ∈ r.s := of_decide_eq_true hq
          rw [if_pos hq]
          walk_at "zq"
          exact ⟨rfl, rfl⟩
        · have hq : ¬ (MB.ones i).length - 1 ∈ r.s := of_decide_eq_false hq
          rw [if_neg hq]
          walk_at "zq"
          exact ⟨rfl, rfl⟩
      | false =>
        walk_at "zq"
        refine zo_inT ⟨rfl, rfl⟩ (flat_nats r.b) ?_
        rw [inV_nats]
        have e : lcF r i = if (MB.ones i).length - 0 ∈ r.b then 1 else 0 := by unfold lcF; rw [z]; rfl
        rw [e]
        refine ⟨_, rfl, fun hq => ?_, fun hq => ?_⟩
        · have hq : (MB.ones i).length - 0 ∈ r.b := of_decide_eq_true hq
          rw [if_pos hq]
          walk_at "zq"
          exact ⟨rfl, rfl⟩
        · have hq : ¬ (MB.ones i).length - 0 ∈ r.b := of_decide_eq_false hq
          rw [if_neg hq]
          walk_at "zq"
          exact ⟨rfl, rfl⟩
    refine ⟨_, true, _, _, rfl, .here, by rw [List.length_map, List.length_range, hsz]; omega, ?_⟩
    refine ⟨_, _, _, rfl, ?_⟩
    rw [ef]
  · rintro S2 M2 ⟨c4, c5, c6, rfl, rfl⟩
    refine zs_ret (zw_frz ?_)
    walk_at "zq"
    refine ⟨q, _, _, rfl, .here, ?_⟩
    exact ⟨_, rfl, rfl⟩
/-! ### the stepper of columns -/
def arN (l m q i : Nat) : Nat := ((((l >>> i) &&& 7) <<< 6) ||| (((m >>> i) &&& 7) <<< 3)) ||| ((q >>> i) &&& 7)
theorem arN_lt (l m q i : Nat) : arN l m q i < 512 := by
  unfold arN
  have h7 : ∀ a : Nat, a &&& 7 < 8 := fun a => Nat.and_lt_two_pow (n := 3) a (by decide)
  have s6 : (((l >>> i) &&& 7) <<< 6) < 2 ^ 9 := by rw [Nat.shiftLeft_eq]; have := h7 (l >>> i); omega
  have s3 : (((m >>> i) &&& 7) <<< 3) < 2 ^ 9 := by rw [Nat.shiftLeft_eq]; have := h7 (m >>> i); omega
  have s0 : ((q >>> i) &&& 7) < 2 ^ 9 := by have := h7 (q >>> i); omega
  exact Nat.or_lt_two_pow (Nat.or_lt_two_pow s6 s3) s0
theorem ite01 {p : Prop} [Decidable p] : (if p then 1 else 0) ≤ 1 := by split <;> omega
theorem lcF_le (r : Rl) (a : Nat) : lcF r a ≤ 1 := ite01
/-- what becomes of the middle one of three columns -/
def latN (r : Rl) (l m q : Nat) : Nat → Nat
  | 0 => 0
  | i + 1 => latN r l m q i ||| (lcF r (arN l m q i) <<< i)
theorem latN_lt (r : Rl) (l m q : Nat) : ∀ i, latN r l m q i < 2 ^ i
  | 0 => by rw [latN]; decide
  | i + 1 => by
    have h1 := latN_lt r l m q i
    have h2 := lcF_le r (arN l m q i)
    rw [latN]
    refine Nat.or_lt_two_pow (Nat.lt_of_lt_of_le h1 (Nat.pow_le_pow_right (by decide) (by omega))) ?_
    rw [Nat.shiftLeft_eq, Nat.pow_succ]
    have : lcF r (arN l m q i) * 2 ^ i ≤ 1 * 2 ^ i := Nat.mul_le_mul_right _ h2
    have := Nat.two_pow_pos i
    omega
def csFs (r : Rl) (h : Nat) : List (Str × ZV) := [("many", .d (.int (h : Int))), ("later_cells", .d (.list ((List.range 512).map fun (a : Nat) => .int (lcF r a : Int))))]
def R_csInit (fs : List (Str × ZV)) (ds : List PyData) (o : DOut) (fs' : List (Str × ZV)) : Prop := ∃ (r : Rl) (h : Nat), fs = [] ∧ ds = [r.d, .int (h : Int)] ∧ Rule r ∧ o = .ok .none ∧ fs' = csFs r h
theorem ok_ColumnStepper_init {P : Program} {w : World} {K : Fg} {mg : Str → Option Value} {base : Heap} {f : Addr} {fd : FuncData} {C_ColumnStepper : Addr} (F : Fun K "__init__" "ColumnStepper.__init__" s_ColumnStepper_init f fd)
    (na_ColumnStepper_many : NoAttr K C_ColumnStepper "many")
    (na_ColumnStepper_later_cells : NoAttr K C_ColumnStepper "later_cells")
    (c__later_cells : Cal P w K mg base 1 "_later_cells" (spD K 1 R_later9))
    (cl_ColumnStepper : Cls K C_ColumnStepper) :
    FnOk P w K mg base (L2.CX P w) 2 f fd ["self", "rule", "many"] (spO K C_ColumnStepper 2 R_csInit) := by
  refine F.okX sc_ColumnStepper_init (fun vs H Q E h => len_O h) (fun cdv A outer s H vs Q E hr h => ⟨_, (pss_cons (ps_fld (pv 0) (pv 2) rfl)
      (pss_one (ps_fld (pv 0) (pe_cl c__later_cells hr (show 1 ≤ 1 by decide) passL (pa_cons (pv 1) pa_nil)) rfl))),
    fn_O h fun p fs ds o fs2 hk hR => ?_⟩)
  try dsimp only [L2.cxOf]
  obtain ⟨r, h, rfl, rfl, hr2, rfl, rfl⟩ := hR
  walk_at "zfq"
  refine ⟨_, _, by walk_at "zd", rfl, ⟨r, rfl, hr2, rfl⟩, ?_⟩
  walk_at "zfq"
  first | exact ⟨rfl, m0⟩ | exact m0
theorem sh_ok {a k : Nat} (h : a < 2 ^ 20) (hk : k ≤ 20) : CShl (a : Int) (k : Int) := by
  refine ⟨by omega, ?_⟩
  have := PyProof.Rows.intBits_le (a := (a : Int)) (k := 20) h
  omega
theorem and7_lt (a : Nat) : a &&& 7 < 8 := Nat.and_lt_two_pow (n := 3) a (by decide)
def R_csLater (fs : List (Str × ZV)) (ds : List PyData) (o : DOut) (fs' : List (Str × ZV)) : Prop := ∃ (r : Rl) (h l m q : Nat), fs = csFs r h ∧ ds = [.int (l : Int), .int (m : Int), .int (q : Int)] ∧ h ≤ 4 ∧ o = .ok (.int (latN r l m q h : Int)) ∧ fs' = fs
theorem ok_ColumnStepper_later {P : Program} {w : World} {K : Fg} {mg : Str → Option Value} {base : Heap} {f : Addr} {fd : FuncData} {C_ColumnStepper : Addr} (F : Fun K "later" "ColumnStepper.later" s_ColumnStepper_later f fd)
    (m_range : mg "range" = none)
    (na_ColumnStepper_many : NoAttr K C_ColumnStepper "many")
    (na_ColumnStepper_later_cells : NoAttr K C_ColumnStepper "later_cells")
    (cl_ColumnStepper : Cls K C_ColumnStepper) :
    FnOk P w K mg base (L2.CX P w) 1 f fd ["self", "left", "middle", "right"] (spO K C_ColumnStepper 3 R_csLater) := by
  refine F.okX sc_ColumnStepper_later (fun vs H Q E h => len_O h) (fun cdv A outer s H vs Q E hr h => ⟨_, (pss_cons (ps_set (i := 4) sc_ColumnStepper_later.nd rfl (by first | exact Or.inl rfl | exact Or.inr rfl) pe_int)
      (pss_cons (ps_for (passes_of rfl) rfl (pi_range1 (by rfl) m_range (pa_cons (pe_fld (pv 0) rfl) pa_nil)) (pg_name (i := 5) sc_ColumnStepper_later.nd rfl (by first | exact Or.inl rfl | exact Or.inr rfl)) (pss_cons (ps_set (i := 6) sc_ColumnStepper_later.nd rfl (by first | exact Or.inl rfl | exact Or.inr rfl) (pe_op op_or (pe_op op_or (pe_op op_shlW (pe_op op_and (pe_op op_shr (pv 1) (pv 5)) pe_int) pe_int) (pe_op op_shlW (pe_op op_and (pe_op op_shr (pv 2) (pv 5)) pe_int) pe_int)) (pe_op op_and (pe_op op_shr (pv 3) (pv 5)) pe_int)))
      (pss_one (ps_aug (i := 4) sc_ColumnStepper_later.nd rfl (by first | exact Or.inl rfl | exact Or.inr rfl) (pe_op op_shlW (pe_ix ix_seq (pe_fld (pv 0) rfl) (pv 6) (fun _ _ => rfl)) (pv 5)) ip_or))))
      (pss_one (ps_ret (pv 4))))),
    fn_O h fun p fs ds o fs2 hk hR => ?_⟩)
  try dsimp only [L2.cxOf]
  obtain ⟨r, h, l, m, q, rfl, rfl, h4, rfl, rfl⟩ := hR
  have hsz : (sizeLine : Nat) = 16777216 := sizeLine_eq
  walk_at "zfq"
  refine ⟨by omega, by omega, fun i S2 M2 => ∃ c5 c6 : Option ZV, S2 = [some (.c p), some (.d (.int (l : Int))), some (.d (.int (m : Int))), some (.d (.int (q : Int))), some (.d (.int (latN r l m q i : Int))), c5, c6] ∧ M2 = [(p, false, .obj C_ColumnStepper (csFs r h))], ⟨_, _, rfl, rfl⟩, ?_, ?_⟩
  · rintro i S2 M2 hi ⟨c5, c6, rfl, rfl⟩
    have hi : i < h := by omega
    have a1 := and7_lt (l >>> i)
    have a2 := and7_lt (m >>> i)
    have ha := arN_lt l m q i
    have hat : atI ((List.range 512).map fun (a : Nat) => PyData.int (lcF r a : Int)) ((arN l m q i : Nat) : Int) = some (.int (lcF r (arN l m q i) : Int)) := atI_nat (by rw [List.getElem?_map, List.getElem?_range ha]; rfl)
    have h1 := lcF_le r (arN l m q i)
    refine ⟨_, _, zg_name, ?_⟩
    rw [show (0 : Int) + (i : Int) = (i : Int) by omega]
    walk_at "zfq"
    refine zo_band (b := 7) ?_
    walk_at "zfq"
    refine zo_shlN (k := 6) (sh_ok (by omega) (by decide)) ?_
    walk_at "zfq"
    refine zo_band (b := 7) ?_
    walk_at "zfq"
    refine zo_shlN (k := 3) (sh_ok (by omega) (by decide)) ?_
    walk_at "zfq"
    refine zo_band (b := 7) ?_
    walk_at "zfq"
    refine zs_nx (N := fun S M => S = [some (.c p), some (.d (.int (l : Int))), some (.d (.int (m : Int))), some (.d (.int (q : Int))), some (.d (.int (latN r l m q (i + 1) : Int))), some (.d (.int (i : Int))), some (.d (.int (arN l m q i : Int)))] ∧ M = [(p, false, .obj C_ColumnStepper (csFs r h))]) ?_ (fun S M ⟨h1, h2⟩ => ⟨_, _, h1, h2⟩)
    refine zs_augOr rfl ?_
    rw [show (((l >>> i) &&& 7) <<< 6 ||| ((m >>> i) &&& 7) <<< 3 ||| (q >>> i) &&& 7) = arN l m q i from rfl]
    walk_at "zfq"
    refine zo_shlN (sh_ok (by omega) (by omega)) ?_
    exact ⟨_, rfl, rfl, rfl⟩
  · rintro S2 M2 ⟨c5, c6, rfl, rfl⟩
    rw [Int.toNat_natCast]
    walk_at "zfq"
    first | exact ⟨⟨_, rfl, rfl⟩, m0⟩ | trace_state
/-! ### what can stand before each column -/
def entsTo (S i j : Nat) : List (Nat × Nat) := ((List.range i).flatMap fun a => (List.range S).map fun c => (a, c)) ++ (List.range j).map fun c => (i, c)
theorem entsTo_cell (S i j : Nat) : entsTo S i (j + 1) = entsTo S i j ++ [(i, j)] := by
  unfold entsTo
  rw [List.range_succ, List.map_append, List.append_assoc]
  rfl
theorem entsTo_row (S i : Nat) : entsTo S i S = entsTo S (i + 1) 0 := by
  unfold entsTo
  rw [List.range_succ, List.flatMap_append]
  simp
theorem entsTo_len (S i j : Nat) : (entsTo S i j).length = i * S + j := by
  induction i with
  | zero => unfold entsTo; simp
  | succ i ih =>
    have e : entsTo S (i + 1) j = entsTo S i S ++ (List.range j).map fun c => (i + 1, c) := by
      rw [entsTo_row]
      unfold entsTo
      simp
    have e2 : (entsTo S i S).length = i * S + S := by
      have h := ih
      unfold entsTo at h ⊢
      simp at h ⊢
      omega
    rw [e, List.length_append, e2, List.length_map, List.length_range, Nat.succ_mul]
def latE (r : Rl) (h : Nat) (e : Nat × Nat) : Nat := latN r (e.1 / 2 ^ (h + 2)) (e.1 % 2 ^ (h + 2)) e.2 h
def entP (h : Nat) (e : Nat × Nat) : Nat × Nat := (e.1, e.1 % 2 ^ (h + 2) * 2 ^ (h + 2) + e.2)
abbrev prN (p : Nat × Nat) : PyData := .tuple [.int (p.1 : Int), .int (p.2 : Int)]
/-- the ways of column k among the first of all -/
def wayTo (r : Rl) (h i j k : Nat) : List (Nat × Nat) := ((entsTo (2 ^ (h + 2)) i j).filter fun e => decide (latE r h e = k)).map (entP h)
def waysTo (r : Rl) (h i j : Nat) : List (List PyData) := (List.range (2 ^ h)).map fun k => (wayTo r h i j k).map prN
def ways (r : Rl) (h k : Nat) : List (Nat × Nat) := wayTo r h (2 ^ (h + 2) * 2 ^ (h + 2)) 0 k
theorem waysTo_len (r : Rl) (h i j : Nat) : (waysTo r h i j).length = 2 ^ h := by
  unfold waysTo
  rw [List.length_map, List.length_range]
theorem waysTo_at (r : Rl) (h i j : Nat) {k : Nat} (hk : k < 2 ^ h) : (waysTo r h i j)[k]? = some ((wayTo r h i j k).map prN) := by
  unfold waysTo
  rw [List.getElem?_map, List.getElem?_range hk]
  rfl
theorem waysTo_cell (r : Rl) (h i j : Nat) : waysTo r h i (j + 1) = (waysTo r h i j).set (latE r h (i, j)) ((wayTo r h i j (latE r h (i, j))).map prN ++ [prN (entP h (i, j))]) := by
  refine List.ext_getElem? fun k => ?_
  rw [List.getElem?_set, waysTo_len]
  rcases Nat.lt_or_ge k (2 ^ h) with hk | hk
  · rw [waysTo_at r h i (j + 1) hk]
    have e : wayTo r h i (j + 1) k = wayTo r h i j k ++ if latE r h (i, j) = k then [entP h (i, j)] else [] := by
      unfold wayTo
      rw [entsTo_cell, List.filter_append, List.map_append]
      by_cases z : latE r h (i, j) = k
      · simp [z]
      · simp [z]
    rw [e]
    by_cases z : latE r h (i, j) = k
    · rw [if_pos z, if_pos z, if_pos (by rw [z]; exact hk), List.map_append, z]
      rfl
    · rw [if_neg z, if_neg z, List.append_nil, waysTo_at r h i j hk]
  · have l1 : (waysTo r h i (j + 1)).length ≤ k := by rw [waysTo_len]; exact hk
    rw [List.getElem?_eq_none l1]
    by_cases z : latE r h (i, j) = k
    · rw [if_pos z, if_neg (by rw [z]; omega)]
    · rw [if_neg z, List.getElem?_eq_none (by rw [waysTo_len]; exact hk)]
theorem waysTo_zero (r : Rl) (h : Nat) : waysTo r h 0 0 = List.replicate (2 ^ h) [] := by
  refine List.ext_getElem? fun k => ?_
  rcases Nat.lt_or_ge k (2 ^ h) with hk | hk
  · rw [waysTo_at r h 0 0 hk, List.getElem?_replicate, if_pos hk]
    rfl
  · rw [List.getElem?_eq_none (by rw [waysTo_len]; exact hk), List.getElem?_eq_none (by rw [List.length_replicate]; exact hk)]
theorem wayTo_len (r : Rl) (h i j k : Nat) : (wayTo r h i j k).length ≤ i * 2 ^ (h + 2) + j := by
  unfold wayTo
  rw [List.length_map]
  exact Nat.le_trans (List.length_filter_le _ _) (Nat.le_of_eq (entsTo_len _ _ _))
theorem latE_lt (r : Rl) (h : Nat) (e : Nat × Nat) : latE r h e < 2 ^ h := latN_lt _ _ _ _ _
def bfFs (r : Rl) (h : Nat) : List (Str × ZV) := [("size", .d (.int (2 ^ (h + 2) : Nat))), ("pairs", .d (.int (2 ^ (h + 2) * 2 ^ (h + 2) : Nat))), ("ways", .d (.list ((List.range (2 ^ h)).map fun k => .list ((ways r h k).map prN))))]
def R_bfInit (fs : List (Str × ZV)) (ds : List PyData) (o : DOut) (fs' : List (Str × ZV)) : Prop := ∃ (r : Rl) (h : Nat), fs = [] ∧ ds = [r.d, .int (h : Int)] ∧ Rule r ∧ 1 ≤ h ∧ h ≤ 2 ∧ o = .ok .none ∧ fs' = bfFs r h
abbrev bf0 (S : Nat) (D : Addr) : List (Str × ZV) := [("size", .d (.int (S : Int))), ("pairs", .d (.int ((S * S : Nat) : Int))), ("ways", .c D)]
theorem ok_Befores_init {P : Program} {w : World} {K : Fg} {mg : Str → Option Value} {base : Heap} {f : Addr} {fd : FuncData} {C_Befores C_ColumnStepper : Addr} (F : Fun K "__init__" "Befores.__init__" s_Befores_init f fd)
    (na_Befores_size : NoAttr K C_Befores "size")
    (na_Befores_pairs : NoAttr K C_Befores "pairs")
    (na_Befores_ways : NoAttr K C_Befores "ways")
    (m_range : mg "range" = none)
    (m_divmod : mg "divmod" = none)
    (c_ColumnStepper_init : Mkr P w K mg base 2 "ColumnStepper" C_ColumnStepper (spO K C_ColumnStepper 2 R_csInit))
    (c_ColumnStepper_later : Mtd P w K mg base 1 C_ColumnStepper "later" (spO K C_ColumnStepper 3 R_csLater))
    (cl_Befores : Cls K C_Befores)
    (cl_ColumnStepper : Cls K C_ColumnStepper) :
    FnOk P w K mg base (L2.CX P w) 4 f fd ["self", "rule", "high"] (spO K C_Befores 2 R_bfInit) := by
  obtain ⟨f_ColumnStepper_later, fd_ColumnStepper_later, ps_ColumnStepper_later, G_ColumnStepper_later, M_ColumnStepper_later, B_ColumnStepper_later⟩ := c_ColumnStepper_later
  refine F.okX sc_Befores_init (fun vs H Q E h => len_O h) (fun cdv A outer s H vs Q E hr h => ⟨_, (pss_cons (ps_fld (pv 0) (pe_op op_shlW pe_int (pe_op op_addA (pv 2) pe_int)) rfl)
      (pss_cons (ps_fld (pv 0) (pe_op op_mul (pe_fld (pv 0) rfl) (pe_fld (pv 0) rfl)) rfl)
      (pss_cons (ps_fld (pv 0) (pe_lc (own := [("_", 3)]) rfl sc_Befores_init.nd (pi_range1 (by rfl) m_range (pa_cons (pe_op op_shlW pe_int (pv 2)) pa_nil)) (blkOk_by (N := N_Befores_init) (sc := defScope s_Befores_init) (by decide +kernel)) (fun _ _ _ _ _ => (pg_name (i := 3) sc_Befores_init.nd rfl (by first | exact Or.inl rfl | exact Or.inr rfl))) (fun _ _ _ _ _ => pts_nil) (fun _ _ _ _ _ => (pe_lst pa_nil))) rfl)
      (pss_cons (ps_set (i := 4) sc_Befores_init.nd rfl (by first | exact Or.inl rfl | exact Or.inr rfl) (pe_mkr (j := 2) c_ColumnStepper_init (hr.mono (by decide)) (by decide) passL (pa_cons (pv 1) (pa_cons (pv 2) pa_nil))))
      (pss_one (ps_for (passes_of rfl) rfl (pi_range1 (by rfl) m_range (pa_cons (pe_fld (pv 0) rfl) pa_nil)) (pg_name (i := 5) sc_Befores_init.nd rfl (by first | exact Or.inl rfl | exact Or.inr rfl)) (pss_cons (ps_asg (pe_callB call_divmodW (by rfl) m_divmod bb_divmod (pa_cons (pv 5) (pa_cons (pe_fld (pv 0) rfl) pa_nil))) (pg_tup rfl (pgs_cons (pg_name (i := 6) sc_Befores_init.nd rfl (by first | exact Or.inl rfl | exact Or.inr rfl)) (pgs_cons (pg_name (i := 7) sc_Befores_init.nd rfl (by first | exact Or.inl rfl | exact Or.inr rfl)) pgs_nil))))
      (pss_one (ps_for (passes_of rfl) rfl (pi_range1 (by rfl) m_range (pa_cons (pe_fld (pv 0) rfl) pa_nil)) (pg_name (i := 8) sc_Befores_init.nd rfl (by first | exact Or.inl rfl | exact Or.inr rfl)) (pss_one (ps_expr (pe_bm PySem.F.plainAttrs_list PySem.F.slot_list_append PySem.F.type_list_append mt_append (pe_ix ix_seq (pe_fld (pv 0) rfl) (pe_meth (pv 4) cl_ColumnStepper M_ColumnStepper_later G_ColumnStepper_later (hr.mono (show 1 ≤ 3 by decide)) B_ColumnStepper_later .nil passL (pa_cons (pv 6) (pa_cons (pv 7) (pa_cons (pv 8) pa_nil)))) (fun _ _ => rfl)) (pa_cons (pe_tup (pa_cons (pv 5) (pa_cons (pe_op op_addA (pe_op op_mul (pv 7) (pe_fld (pv 0) rfl)) (pv 8)) pa_nil))) pa_nil))))))))))))),
    fn_O h fun p fs ds o fs2 hk hR => ?_⟩)
  try dsimp only [L2.cxOf]
  obtain ⟨r, h, rfl, rfl, hr2, h1, h2, rfl, rfl⟩ := hR
  have hsz : (sizeLine : Nat) = 16777216 := sizeLine_eq
  obtain ⟨S, hS⟩ : ∃ S, S = 2 ^ (h + 2) := ⟨_, rfl⟩
  have hS8 : 8 ≤ S ∧ S ≤ 16 := by
    have := Nat.pow_le_pow_right (n := 2) (by decide) (show 3 ≤ h + 2 by omega)
    have := Nat.pow_le_pow_right (n := 2) (by decide) (show h + 2 ≤ 4 by omega)
    omega
  have hT4 : 2 ≤ 2 ^ h ∧ 2 ^ h ≤ 4 := by
    have := Nat.pow_le_pow_right (n := 2) (by decide) h1
    have := Nat.pow_le_pow_right (n := 2) (by decide) h2
    omega
  have hSS : S * S ≤ 256 := Nat.mul_le_mul hS8.2 hS8.2
  walk_at "zfq"
  rw [show ((h : Int) + 2) = ((h + 2 : Nat) : Int) by omega]
  refine zo_shlN (a := 1) (k := h + 2) (sh_ok (by decide) (by omega)) ?_
  rw [show 1 <<< (h + 2) = S by rw [Nat.shiftLeft_eq, Nat.one_mul, hS]]
  walk_at "zfq"
  refine zo_mul (.inl ⟨by omega, by omega⟩) ?_
  rw [show (S : Int) * (S : Int) = ((S * S : Nat) : Int) by rw [Int.natCast_mul]]
  walk_at "zfq"
  refine zo_shlN (a := 1) (k := h) (sh_ok (by decide) (by omega)) ?_
  rw [show 1 <<< h = 2 ^ h by rw [Nat.shiftLeft_eq, Nat.one_mul]]
  walk_at "zfq"
  refine ⟨by omega, fun D qs hq => ?_⟩
  walk_at "zfq"
  refine ⟨p, _, _, _, rfl, Nat.le_of_ble_eq_true rfl, .there (Upd1.pre .here _), ?_⟩
  refine zs_perm (M' := (p, false, .obj C_Befores (bf0 S D)) :: (D, true, .lz (qs.map ZV.c)) :: nestM qs (waysTo r h 0 0)) ?_ ?_
  · rw [waysTo_zero]
    exact (List.Perm.cons _ List.perm_append_comm).trans (.swap _ _ _)
  walk_at "zfq"
  refine ⟨_, _, by walk_at "zd", rfl, ⟨r, h, rfl, rfl, hr2, rfl, rfl⟩, fun st => ?_⟩
  refine zs_postD (N := fun S' M' => M' = (st, true, .obj C_ColumnStepper (csFs r h)) :: (p, false, .obj C_Befores (bf0 S D)) :: (D, true, .lz (qs.map ZV.c)) :: nestM qs (waysTo r h (S * S) 0)) ?_ ?_
  · walk_at "zfq"
    have frS : ∀ c3 c5 c6 c7 c8 : Option ZV, True := fun _ _ _ _ _ => trivial
    clear frS
    refine ⟨by omega, by omega, fun i S2 M2 => ∃ c3 c5 c6 c7 c8 : Option ZV, S2 = [some (.c p), some (.d r.d), some (.d (.int (h : Int))), c3, some (.c st), c5, c6, c7, c8] ∧ M2 = (st, true, .obj C_ColumnStepper (csFs r h)) :: (p, false, .obj C_Befores (bf0 S D)) :: (D, true, .lz (qs.map ZV.c)) :: nestM qs (waysTo r h i 0), ⟨_, _, _, _, _, rfl, rfl⟩, ?_, ?_⟩
    · rintro i S2 M2 hi ⟨c3, c5, c6, c7, c8, rfl, rfl⟩
      have hi : i < S * S := by omega
      have hdv : i / S < S := Nat.div_lt_of_lt_mul hi
      have hmd : i % S < S := Nat.mod_lt i (by omega)
      refine ⟨_, _, zg_name, ?_⟩
      rw [show (0 : Int) + (i : Int) = (i : Int) by omega]
      walk_at "zfq"
      refine zc_divmod (divp_small (by omega) (by have : i < 2 ^ 4000 := Nat.lt_of_lt_of_le (show i < 256 by omega) (by decide +kernel); omega)) ?_
      rw [← Int.natCast_ediv, ← Int.natCast_emod]
      refine ⟨_, _, zg_tup rfl (zgs_cons (zgs_cons zgs_nil)), ?_⟩
      walk_at "zfq"
      refine ⟨by omega, by omega, fun j S2 M2 => ∃ c3 c8 : Option ZV, S2 = [some (.c p), some (.d r.d), some (.d (.int (h : Int))), c3, some (.c st), some (.d (.int (i : Int))), some (.d (.int ((i / S : Nat) : Int))), some (.d (.int ((i % S : Nat) : Int))), c8] ∧ M2 = (st, true, .obj C_ColumnStepper (csFs r h)) :: (p, false, .obj C_Befores (bf0 S D)) :: (D, true, .lz (qs.map ZV.c)) :: nestM qs (waysTo r h i j), ⟨_, _, rfl, rfl⟩, ?_, ?_⟩
      · rintro j S2 M2 hj ⟨c3, c8, rfl, rfl⟩
        have hj : j < S := by omega
        have hk0 := latE_lt r h (i, j)
        have hek : latE r h (i, j) = latN r (i / S) (i % S) j h := by unfold latE; rw [← hS]
        have hqk := List.getElem?_eq_getElem (l := qs) (i := latE r h (i, j)) (by omega)
        generalize qs[latE r h (i, j)] = qk at hqk
        have hat : atI (qs.map ZV.c) ((latE r h (i, j) : Nat) : Int) = some (.c qk) := atI_nat (by rw [List.getElem?_map, hqk]; rfl)
        have hwk := waysTo_at r h i j hk0
        have hwl := wayTo_len r h i j (latE r h (i, j))
        rw [← hS] at hwl
        have hiS : i * S ≤ 256 * 16 := Nat.mul_le_mul (by omega) hS8.2
        refine ⟨_, _, zg_name, ?_⟩
        rw [show (0 : Int) + (j : Int) = (j : Int) by omega]
        have ecell : nestM qs (waysTo r h i (j + 1)) = nestM qs ((waysTo r h i j).set (latE r h (i, j)) ((wayTo r h i j (latE r h (i, j))).map prN ++ [prN (entP h (i, j))])) := by rw [waysTo_cell]
        refine zs_drop (zw_append ?_)
        walk_at "zfq"
        refine ⟨⟨_, _, m0, rfl⟩, ?_⟩
        walk_at "zfq"
        refine ⟨true, _, _, _, _, _, by walk_at "zd", rfl, ⟨r, h, i / S, i % S, j, rfl, rfl, by omega, rfl, rfl⟩, .here, ?_⟩
        rw [← hek]
        refine zo_ixZ (m1 (m1 m0)) hat ?_
        refine ⟨qk, rfl, ⟨_, _, m1 (m1 (m1 (nest_mem hqk hwk)))⟩, ?_⟩
        repeat (first | walk_at "zf" | walk_at "z" | walk_at "ze" | walk_at "zt")
        refine zo_mul (.inl ⟨by omega, by omega⟩) ?_
        rw [show ((i % S : Nat) : Int) * (S : Int) = ((i % S * S : Nat) : Int) by rw [Int.natCast_mul]]
        repeat (first | walk_at "zf" | walk_at "z" | walk_at "ze" | walk_at "zt")
        refine ⟨_, true, _, _, rfl, .there (.there (.there (nest_upd _ hqk hwk))), by rw [List.length_map, hsz]; omega, ?_⟩
        refine ⟨_, _, rfl, ?_⟩
        rw [ecell]
        have ee : prN (entP h (i, j)) = .tuple [.int (i : Int), .int ((i % S * S : Nat) + (j : Int))] := by
          unfold entP
          rw [← hS]
          show PyData.tuple [.int (i : Int), .int ((i % S * S + j : Nat) : Int)] = _
          rw [Int.natCast_add]
        rw [ee]
      · rintro S2 M2 ⟨c3, c8, rfl, rfl⟩
        rw [Int.toNat_natCast]
        refine ⟨_, _, _, _, _, rfl, ?_⟩
        have e : waysTo r h i S = waysTo r h (i + 1) 0 := by
          unfold waysTo wayTo
          rw [hS, entsTo_row]
        rw [e]
    · rintro S2 M2 ⟨c3, c5, c6, c7, c8, rfl, rfl⟩
      rw [Int.toNat_natCast]
  · rintro S' M' rfl
    refine ⟨false, C_Befores, D, qs, waysTo r h (S * S) 0, bf0 S D, bfFs r h, [(st, true, .obj C_ColumnStepper (csFs r h))], p, ?_, by rw [hq, waysTo_len], ?_, ?_⟩
    · refine (List.Perm.swap _ _ _).trans (.cons _ ?_)
      refine (List.Perm.swap _ _ _).trans (.cons _ ?_)
      exact (List.perm_append_comm (l₁ := nestM qs (waysTo r h (S * S) 0)) (l₂ := [(st, true, CD.obj C_ColumnStepper (csFs r h))])).symm
    · unfold bfFs bf0
      rw [← hS]
      refine .cons ⟨rfl, .inl rfl⟩ (.cons ⟨rfl, .inl rfl⟩ (.cons ⟨rfl, .inr ⟨rfl, ?_⟩⟩ .nil))
      unfold waysTo ways
      rw [List.map_map, hS]
      rfl
    · first | exact ⟨rfl, m0⟩ | exact m0
/-! ### how many there are -/
def cntStep (P : Nat) (W : List (Nat × Nat)) (cnt : List Nat) : List Nat := W.foldl (fun l e => l.set e.2 (l.getD e.2 0 + cnt.getD e.1 0)) (List.replicate P 0)
def cntAll (r : Rl) (h : Nat) (cols : List Nat) : List Nat := cols.foldl (fun cnt k => cntStep (2 ^ (h + 2) * 2 ^ (h + 2)) (ways r h k) cnt) (List.replicate (2 ^ (h + 2) * 2 ^ (h + 2)) 1)
def intsN (l : List Nat) : List PyData := l.map fun (k : Nat) => .int (k : Int)
def cntPart (P : Nat) (W : List (Nat × Nat)) (cnt : List Nat) (j : Nat) : List Nat := (W.take j).foldl (fun l e => l.set e.2 (l.getD e.2 0 + cnt.getD e.1 0)) (List.replicate P 0)
theorem cntFold_len (W : List (Nat × Nat)) (cnt : List Nat) : ∀ l : List Nat, (W.foldl (fun l e => l.set e.2 (l.getD e.2 0 + cnt.getD e.1 0)) l).length = l.length := by
  induction W with
  | nil => exact fun l => rfl
  | cons e W ih => exact fun l => by rw [List.foldl_cons, ih, List.length_set]
theorem cntPart_len (P : Nat) (W : List (Nat × Nat)) (cnt : List Nat) (j : Nat) : (cntPart P W cnt j).length = P := by
  unfold cntPart
  rw [cntFold_len, List.length_replicate]
theorem cntPart_succ {P : Nat} {W : List (Nat × Nat)} (cnt : List Nat) {j : Nat} {e : Nat × Nat} (h : W[j]? = some e) : cntPart P W cnt (j + 1) = (cntPart P W cnt j).set e.2 ((cntPart P W cnt j).getD e.2 0 + cnt.getD e.1 0) := by
  unfold cntPart
  rw [List.take_add_one, h, List.foldl_append]
  rfl
theorem cntAll_len (r : Rl) (h : Nat) (cols : List Nat) : (cntAll r h cols).length = 2 ^ (h + 2) * 2 ^ (h + 2) := by
  unfold cntAll
  induction cols using snoc_ind with
  | h0 => rw [List.foldl_nil, List.length_replicate]
  | h1 l a ih => rw [List.foldl_append, List.foldl_cons, List.foldl_nil]; unfold cntStep; rw [cntFold_len, List.length_replicate]
theorem cntAll_succ (r : Rl) (h : Nat) {cols : List Nat} {i k : Nat} (hk : cols[i]? = some k) : cntAll r h (cols.take (i + 1)) = cntPart (2 ^ (h + 2) * 2 ^ (h + 2)) (ways r h k) (cntAll r h (cols.take i)) (ways r h k).length := by
  unfold cntAll cntPart
  rw [List.take_add_one, hk, List.foldl_append, List.take_length]
  rfl
theorem way_lt {r : Rl} {h k : Nat} {e : Nat × Nat} (he : e ∈ ways r h k) : e.1 < 2 ^ (h + 2) * 2 ^ (h + 2) ∧ e.2 < 2 ^ (h + 2) * 2 ^ (h + 2) := by
  unfold ways wayTo at he
  obtain ⟨e0, h0, rfl⟩ := List.mem_map.mp he
  have h1 := (List.mem_filter.mp h0).1
  unfold entsTo at h1
  rw [List.range_zero, List.map_nil, List.append_nil] at h1
  obtain ⟨a, ha, hb⟩ := List.mem_flatMap.mp h1
  obtain ⟨c, hc, rfl⟩ := List.mem_map.mp hb
  rw [List.mem_range] at ha hc
  refine ⟨ha, ?_⟩
  show a % 2 ^ (h + 2) * 2 ^ (h + 2) + c < _
  have hm := Nat.mod_lt a (Nat.two_pow_pos (h + 2))
  have := Nat.mul_le_mul_right (2 ^ (h + 2)) (show a % 2 ^ (h + 2) + 1 ≤ 2 ^ (h + 2) by omega)
  rw [Nat.add_mul, Nat.one_mul] at this
  omega
theorem intsN_at {l : List Nat} {k : Nat} (hk : k < l.length) : (intsN l)[k]? = some (.int (l.getD k 0 : Int)) := by
  unfold intsN
  rw [List.getElem?_map, List.getD_eq_getElem?_getD, List.getElem?_eq_getElem hk]
  rfl
theorem intsN_set (l : List Nat) (k v : Nat) : (intsN l).set k (.int (v : Int)) = intsN (l.set k v) := by
  unfold intsN
  rw [List.map_set]
theorem sumN_cast (l : List Nat) : (List.map (fun (k : Nat) => (k : Int)) l).sum = (l.sum : Int) := by
  induction l with
  | nil => rfl
  | cons a l ih => rw [List.map_cons, List.sum_cons, List.sum_cons, ih, Int.natCast_add]
def R_howMany (fs : List (Str × ZV)) (ds : List PyData) (o : DOut) (fs' : List (Str × ZV)) : Prop := ∃ (r : Rl) (h : Nat) (cols : List Nat), fs = bfFs r h ∧ ds = [.list (intsN cols)] ∧ 1 ≤ h ∧ h ≤ 2 ∧ cols.length ≤ 30 ∧ (∀ k ∈ cols, k < 2 ^ h) ∧ o = .ok (.int ((cntAll r h cols).sum : Nat)) ∧ fs' = fs
theorem ok_Befores_how_many {P : Program} {w : World} {K : Fg} {mg : Str → Option Value} {base : Heap} {f : Addr} {fd : FuncData} {C_Befores : Addr} (F : Fun K "how_many" "Befores.how_many" s_Befores_how_many f fd)
    (na_Befores_pairs : NoAttr K C_Befores "pairs")
    (na_Befores_ways : NoAttr K C_Befores "ways")
    (m_sum : mg "sum" = none)
    (cl_Befores : Cls K C_Befores) :
    FnOk P w K mg base (L2.CX P w) 1 f fd ["self", "columns"] (spO K C_Befores 1 R_howMany) := by
  refine F.okX sc_Befores_how_many (fun vs H Q E h => len_O h) (fun cdv A outer s H vs Q E hr h => ⟨_, (pss_cons (ps_set (i := 2) sc_Befores_how_many.nd rfl (by first | exact Or.inl rfl | exact Or.inr rfl) (pe_op op_rep (pe_lst (pa_cons pe_int pa_nil)) (pe_fld (pv 0) rfl)))
      (pss_cons (ps_for (passes_of rfl) rfl (pi_list (pv 1)) (pg_name (i := 3) sc_Befores_how_many.nd rfl (by first | exact Or.inl rfl | exact Or.inr rfl)) (pss_cons (ps_set (i := 4) sc_Befores_how_many.nd rfl (by first | exact Or.inl rfl | exact Or.inr rfl) (pe_op op_rep (pe_lst (pa_cons pe_int pa_nil)) (pe_fld (pv 0) rfl)))
      (pss_cons (ps_for (passes_of rfl) rfl (pi_list (pe_ix ix_seq (pe_fld (pv 0) rfl) (pv 3) (fun _ _ => rfl))) (pg_tup rfl (pgs_cons (pg_name (i := 5) sc_Befores_how_many.nd rfl (by first | exact Or.inl rfl | exact Or.inr rfl)) (pgs_cons (pg_name (i := 6) sc_Befores_how_many.nd rfl (by first | exact Or.inl rfl | exact Or.inr rfl)) pgs_nil))) (pss_one (ps_augS (pv 4) (pv 6) get_list (pe_ix ix_seq (pv 2) (pv 5) (fun _ _ => rfl)) ip_add set_list)))
      (pss_one (ps_set (i := 2) sc_Befores_how_many.nd rfl (by first | exact Or.inl rfl | exact Or.inr rfl) (pv 4))))))
      (pss_one (ps_ret (pe_callB (cr_sum rfl) (by rfl) m_sum bb_sum (pa_cons (pv 2) pa_nil)))))),
    fn_O h fun p fs ds o fs2 hk hR => ?_⟩)
  try dsimp only [L2.cxOf]
  obtain ⟨r, h, cols, rfl, rfl, h1, h2, hl, hc, rfl, rfl⟩ := hR
  have hsz : (sizeLine : Nat) = 16777216 := sizeLine_eq
  have hS8 : 8 ≤ 2 ^ (h + 2) ∧ 2 ^ (h + 2) ≤ 16 := by
    have := Nat.pow_le_pow_right (n := 2) (by decide) (show 3 ≤ h + 2 by omega)
    have := Nat.pow_le_pow_right (n := 2) (by decide) (show h + 2 ≤ 4 by omega)
    omega
  have hP : 2 ^ (h + 2) * 2 ^ (h + 2) ≤ 256 := Nat.mul_le_mul hS8.2 hS8.2
  refine zs_seq (zs_post (N := fun S M => ∃ qc l : Addr, S = [some (.c p), some (.d (.list (intsN cols))), some (.c qc), none, none, none, none] ∧ M = [(qc, true, .lst (intsN (cntAll r h []))), (l, true, .lst [.int 1]), (p, false, .obj C_Befores (bfFs r h))]) ?_ ?_)
  · walk_at "zfq"
    refine zw_lstC ?_
    walk_at "zfq"
    walk_at "zt"
    intro l
    walk_at "zfq"
    refine zo_rep m0 (by omega) (by rw [hsz]; simp only [List.length_singleton]; omega) fun qc => ?_
    refine ⟨qc, l, rfl, ?_⟩
    rw [rep_one]
    unfold intsN cntAll
    rw [List.foldl_nil, List.map_replicate]
    rfl
  · rintro S M ⟨qc, l, rfl, rfl⟩
    refine ⟨[(qc, true, .lst (intsN (cntAll r h []))), (p, false, .obj C_Befores (bfFs r h))], .cons₂ _ (.cons _ (.cons₂ _ .slnil)), ?_⟩
    walk_at "zfq"
    refine ⟨fun i S M => ∃ (qc : Addr) (c3 c4 c5 c6 : Option ZV), S = [some (.c p), some (.d (.list (intsN cols))), some (.c qc), c3, c4, c5, c6] ∧ M = [(qc, true, .lst (intsN (cntAll r h (cols.take i)))), (p, false, .obj C_Befores (bfFs r h))], ⟨_, _, _, _, _, rfl, rfl⟩, ?_, ?_⟩
    · rintro i x S M hx ⟨qc, c3, c4, c5, c6, rfl, rfl⟩
      unfold intsN at hx
      rw [List.getElem?_map] at hx
      obtain ⟨k, hk, rfl⟩ := Option.map_eq_some_iff.mp hx
      have hkh := hc k (List.mem_of_getElem? hk)
      have hcl := cntAll_len r h (cols.take i)
      have esucc := cntAll_succ r h hk
      generalize cntAll r h (cols.take i) = cnt at hcl esucc ⊢
      have hway : atI ((List.range (2 ^ h)).map fun k => PyData.list ((ways r h k).map prN)) ((k : Nat) : Int) = some (.list ((ways r h k).map prN)) := atI_nat (by rw [List.getElem?_map, List.getElem?_range hkh]; rfl)
      refine ⟨_, _, zg_name, ?_⟩
      refine zs_seq (zs_post (N := fun S M => ∃ ql l : Addr, S = [some (.c p), some (.d (.list (intsN cols))), some (.c qc), some (.d (.int (k : Int))), some (.c ql), c5, c6] ∧ M = [(ql, true, .lst (intsN (cntPart (2 ^ (h + 2) * 2 ^ (h + 2)) (ways r h k) cnt 0))), (l, true, .lst [.int 0]), (qc, true, .lst (intsN cnt)), (p, false, .obj C_Befores (bfFs r h))]) ?_ ?_)
      · walk_at "zfq"
        refine zw_lstC ?_
        walk_at "zfq"
        walk_at "zt"
        intro l
        repeat (first | walk_at "zf" | walk_at "z" | walk_at "ze" | refine ⟨p, _, _, _, rfl, m1 (m1 m0), rfl, ?_⟩)
        refine zo_rep m0 (by omega) (by rw [hsz]; simp only [List.length_singleton]; omega) fun ql => ?_
        refine ⟨ql, l, rfl, ?_⟩
        rw [rep_one]
        unfold intsN cntPart
        rw [List.take_zero, List.foldl_nil, List.map_replicate]
        rfl
      rintro S M ⟨ql, l, rfl, rfl⟩
      refine ⟨[(ql, true, .lst (intsN (cntPart (2 ^ (h + 2) * 2 ^ (h + 2)) (ways r h k) cnt 0))), (qc, true, .lst (intsN cnt)), (p, false, .obj C_Befores (bfFs r h))], .cons₂ _ (.cons _ (.cons₂ _ (.cons₂ _ .slnil))), ?_⟩
      refine zs_seq (zs_nx (N := fun S M => ∃ (c5 c6 : Option ZV), S = [some (.c p), some (.d (.list (intsN cols))), some (.c qc), some (.d (.int (k : Int))), some (.c ql), c5, c6] ∧ M = [(ql, true, .lst (intsN (cntPart (2 ^ (h + 2) * 2 ^ (h + 2)) (ways r h k) cnt (ways r h k).length))), (qc, true, .lst (intsN cnt)), (p, false, .obj C_Befores (bfFs r h))]) ?_ ?_)
      · repeat (first | walk_at "zf" | walk_at "z" | walk_at "ze" | refine ⟨p, _, _, _, rfl, m1 (m1 m0), rfl, ?_⟩)
        refine ⟨fun j S M => ∃ (c5 c6 : Option ZV), S = [some (.c p), some (.d (.list (intsN cols))), some (.c qc), some (.d (.int (k : Int))), some (.c ql), c5, c6] ∧ M = [(ql, true, .lst (intsN (cntPart (2 ^ (h + 2) * 2 ^ (h + 2)) (ways r h k) cnt j))), (qc, true, .lst (intsN cnt)), (p, false, .obj C_Befores (bfFs r h))], ⟨_, _, rfl, rfl⟩, ?_, ?_⟩
        · rintro j x S M hx ⟨c5, c6, rfl, rfl⟩
          rw [List.getElem?_map] at hx
          obtain ⟨e, he, rfl⟩ := Option.map_eq_some_iff.mp hx
          obtain ⟨he1, he2⟩ := way_lt (List.mem_of_getElem? he)
          have hpl := cntPart_len (2 ^ (h + 2) * 2 ^ (h + 2)) (ways r h k) cnt j
          have ps := cntPart_succ (P := 2 ^ (h + 2) * 2 ^ (h + 2)) cnt he
          generalize cntPart (2 ^ (h + 2) * 2 ^ (h + 2)) (ways r h k) cnt j = part at hpl ps ⊢
          refine ⟨_, _, zg_tup rfl (zgs_cons (zgs_cons zgs_nil)), ?_⟩
          refine zs_augL ?_
          walk_at "zfq"
          refine ⟨ql, true, _, e.2, (part.getD e.2 0 : Int), rfl, rfl, m0, intsN_at (by omega), ?_⟩
          walk_at "zfq"
          refine zo_ixC (m1 m0) (atI_nat (intsN_at (l := cnt) (k := e.1) (by omega))) ?_
          refine ⟨_, true, _, _, rfl, .here, ?_, ?_⟩
          · unfold intsN
            rw [List.length_map, hpl]
            exact he2
          refine ⟨_, _, rfl, ?_⟩
          rw [ps, ← Int.natCast_add, intsN_set]
        · rintro S M ⟨c5, c6, rfl, rfl⟩
          rw [List.length_map]
          exact ⟨_, _, rfl, rfl⟩
      rintro S M ⟨c5, c6, rfl, rfl⟩
      refine zs_post (N := fun S M => S = [some (.c p), some (.d (.list (intsN cols))), some (.c ql), some (.d (.int (k : Int))), some (.c ql), c5, c6] ∧ M = [(ql, true, .lst (intsN (cntPart (2 ^ (h + 2) * 2 ^ (h + 2)) (ways r h k) cnt (ways r h k).length))), (qc, true, .lst (intsN cnt)), (p, false, .obj C_Befores (bfFs r h))]) ?_ ?_
      · walk_at "zfq"
        exact ⟨rfl, rfl⟩
      rintro S M ⟨rfl, rfl⟩
      refine ⟨_, .cons₂ _ (.cons _ (.cons₂ _ .slnil)), ql, _, _, _, _, rfl, ?_⟩
      rw [esucc]
    · rintro S M ⟨qc, c3, c4, c5, c6, rfl, rfl⟩
      rw [show (intsN cols).length = cols.length from List.length_map .., List.take_length]
      refine zs_ret (zw_cb (za_cons (zw_frz (zw_var rfl ⟨qc, _, _, rfl, .here, ?_⟩))))
      walk_at "zq"
      unfold intsN
      rw [show (cntAll r h cols).map (fun (k : Nat) => PyData.int (k : Int)) = ((cntAll r h cols).map fun (k : Nat) => (k : Int)).map PyData.int from by rw [List.map_map]; rfl]
      refine zc_sum ?_
      rw [show (List.map (fun (k : Nat) => (k : Int)) (cntAll r h cols)).sum = ((cntAll r h cols).sum : Int) from sumN_cast _]
      exact ⟨⟨_, rfl, rfl⟩, m0⟩
/-! ### what can be led to the end -/
def fitPart (P : Nat) (W : List (Nat × Nat)) (rest : List Bool) (j : Nat) : List Bool := (W.take j).foldl (fun l e => if rest.getD e.2 false then l.set e.1 true else l) (List.replicate P false)
def fitAll (r : Rl) (h : Nat) : List Nat → List (List Bool)
  | [] => [List.replicate (2 ^ (h + 2) * 2 ^ (h + 2)) true]
  | k :: ks => fitPart (2 ^ (h + 2) * 2 ^ (h + 2)) (ways r h k) ((fitAll r h ks).headD []) (ways r h k).length :: fitAll r h ks
abbrev boolsL (l : List Bool) : PyData := .list (l.map .bool)
theorem fitPart_succ {P : Nat} {W : List (Nat × Nat)} (rest : List Bool) {j : Nat} {e : Nat × Nat} (h : W[j]? = some e) : fitPart P W rest (j + 1) = if rest.getD e.2 false then (fitPart P W rest j).set e.1 true else fitPart P W rest j := by
  unfold fitPart
  rw [List.take_add_one, h, List.foldl_append]
  rfl
theorem fitPart_len (P : Nat) (W : List (Nat × Nat)) (rest : List Bool) (j : Nat) : (fitPart P W rest j).length = P := by
  unfold fitPart
  generalize W.take j = L
  suffices ∀ l : List Bool, (L.foldl (fun l e => if rest.getD e.2 false then l.set e.1 true else l) l).length = l.length by rw [this, List.length_replicate]
  induction L with
  | nil => exact fun l => rfl
  | cons e L ih =>
    intro l
    rw [List.foldl_cons, ih]
    split
    · rw [List.length_set]
    · rfl
theorem fitAll_len (r : Rl) (h : Nat) (ks : List Nat) : (fitAll r h ks).length = ks.length + 1 := by
  induction ks with
  | nil => rfl
  | cons k ks ih => rw [fitAll, List.length_cons, ih, List.length_cons]
theorem fitAll_row {r : Rl} {h : Nat} {ks : List Nat} {l : List Bool} (hl : l ∈ fitAll r h ks) : l.length = 2 ^ (h + 2) * 2 ^ (h + 2) := by
  induction ks with
  | nil =>
    rw [fitAll, List.mem_singleton] at hl
    rw [hl, List.length_replicate]
  | cons k ks ih =>
    rw [fitAll, List.mem_cons] at hl
    rcases hl with rfl | hl
    · exact fitPart_len ..
    · exact ih hl
theorem fitAll_head (r : Rl) (h : Nat) (ks : List Nat) : ∃ l L, fitAll r h ks = l :: L ∧ l.length = 2 ^ (h + 2) * 2 ^ (h + 2) := by
  cases hf : fitAll r h ks with
  | nil => exact absurd (congrArg List.length hf) (by rw [fitAll_len]; exact Nat.succ_ne_zero _)
  | cons l L => exact ⟨l, L, rfl, fitAll_row (ks := ks) (by rw [hf]; exact List.mem_cons_self ..)⟩
def R_fitting (fs : List (Str × ZV)) (ds : List PyData) (o : DOut) (fs' : List (Str × ZV)) : Prop := ∃ (r : Rl) (h : Nat) (cols : List Nat), fs = bfFs r h ∧ ds = [.list (intsN cols)] ∧ 1 ≤ h ∧ h ≤ 2 ∧ cols.length ≤ 30 ∧ (∀ k ∈ cols, k < 2 ^ h) ∧ o = .ok (.list ((fitAll r h cols).map boolsL)) ∧ fs' = fs
theorem ok_Befores_fitting {P : Program} {w : World} {K : Fg} {mg : Str → Option Value} {base : Heap} {f : Addr} {fd : FuncData} {C_Befores : Addr} (F : Fun K "_fitting" "Befores._fitting" s_Befores_fitting f fd)
    (na_Befores_pairs : NoAttr K C_Befores "pairs")
    (na_Befores_ways : NoAttr K C_Befores "ways")
    (cl_Befores : Cls K C_Befores) :
    FnOk P w K mg base (L2.CX P w) 1 f fd ["self", "columns"] (spO K C_Befores 1 R_fitting) := by
  refine F.okX sc_Befores_fitting (fun vs H Q E h => len_O h) (fun cdv A outer s H vs Q E hr h => ⟨_, (pss_cons (ps_set (i := 2) sc_Befores_fitting.nd rfl (by first | exact Or.inl rfl | exact Or.inr rfl) (pe_lst (pa_cons (pe_op op_rep (pe_lst (pa_cons pe_bl pa_nil)) (pe_fld (pv 0) rfl)) pa_nil)))
      (pss_cons (ps_for (passes_of rfl) rfl (pi_list (pe_revL (pv 1))) (pg_name (i := 3) sc_Befores_fitting.nd rfl (by first | exact Or.inl rfl | exact Or.inr rfl)) (pss_cons (ps_set (i := 4) sc_Befores_fitting.nd rfl (by first | exact Or.inl rfl | exact Or.inr rfl) (pe_ix ix_seq (pv 2) (pe_un un_neg pe_int) (fun _ _ => rfl)))
      (pss_cons (ps_set (i := 5) sc_Befores_fitting.nd rfl (by first | exact Or.inl rfl | exact Or.inr rfl) (pe_op op_rep (pe_lst (pa_cons pe_bl pa_nil)) (pe_fld (pv 0) rfl)))
      (pss_cons (ps_for (passes_of rfl) rfl (pi_list (pe_ix ix_seq (pe_fld (pv 0) rfl) (pv 3) (fun _ _ => rfl))) (pg_tup rfl (pgs_cons (pg_name (i := 6) sc_Befores_fitting.nd rfl (by first | exact Or.inl rfl | exact Or.inr rfl)) (pgs_cons (pg_name (i := 7) sc_Befores_fitting.nd rfl (by first | exact Or.inl rfl | exact Or.inr rfl)) pgs_nil))) (pss_one (ps_if (pt_truth (pe_ix ix_seq (pv 4) (pv 7) (fun _ _ => rfl)) (fun _ => rfl)) (pss_one (ps_asg pe_bl (pg_sub (pv 5) (pv 6) set_list))) pss_nil)))
      (pss_one (ps_expr (pe_bm PySem.F.plainAttrs_list PySem.F.slot_list_append PySem.F.type_list_append mt_append (pv 2) (pa_cons (pv 5) pa_nil))))))))
      (pss_one (ps_ret (pe_revL (pv 2)))))),
    fn_O h fun p fs ds o fs2 hk hR => ?_⟩)
  try dsimp only [L2.cxOf]
  obtain ⟨r, h, cols, rfl, rfl, h1, h2, hl, hc, rfl, rfl⟩ := hR
  have hsz : (sizeLine : Nat) = 16777216 := sizeLine_eq
  have hS8 : 8 ≤ 2 ^ (h + 2) ∧ 2 ^ (h + 2) ≤ 16 := by
    have := Nat.pow_le_pow_right (n := 2) (by decide) (show 3 ≤ h + 2 by omega)
    have := Nat.pow_le_pow_right (n := 2) (by decide) (show h + 2 ≤ 4 by omega)
    omega
  have hP : 2 ^ (h + 2) * 2 ^ (h + 2) ≤ 256 := Nat.mul_le_mul hS8.2 hS8.2
  refine zs_seq (zs_post (N := fun S M => ∃ qf l : Addr, S = [some (.c p), some (.d (.list (intsN cols))), some (.c qf), none, none, none, none, none] ∧ M = [(qf, true, .lst ((fitAll r h []).reverse.map boolsL)), (l, true, .lst [.bool true]), (p, false, .obj C_Befores (bfFs r h))]) ?_ ?_)
  · walk_at "zfq"
    refine zw_lstC ?_
    refine za_cons (zw_frz ?_)
    walk_at "zfq"
    refine zw_lstC ?_
    walk_at "zfq"
    walk_at "zt"
    intro l
    walk_at "zfq"
    refine zo_rep m0 (by omega) (by rw [hsz]; simp only [List.length_singleton]; omega) fun qc => ?_
    refine ⟨qc, _, _, rfl, .here, ?_⟩
    rw [rep_one]
    walk_at "zfq"
    walk_at "zt"
    intro qf
    refine ⟨qf, l, rfl, ?_⟩
    rw [fitAll, List.reverse_singleton, List.map_singleton]
    unfold boolsL
    rw [List.map_replicate]
  · rintro S M ⟨qf, l, rfl, rfl⟩
    refine ⟨[(qf, true, .lst ((fitAll r h []).reverse.map boolsL)), (p, false, .obj C_Befores (bfFs r h))], .cons₂ _ (.cons _ (.cons₂ _ .slnil)), ?_⟩
    walk_at "zfq"
    refine zw_frz (zw_revD (zw_var rfl ⟨_, rfl, fun rv => ⟨rv, _, _, rfl, .here, ?_⟩⟩))
    refine ⟨_, rfl, fun i S M => ∃ (c3 c4 c5 c6 c7 : Option ZV), S = [some (.c p), some (.d (.list (intsN cols))), some (.c qf), c3, c4, c5, c6, c7] ∧ M = [(qf, true, .lst ((fitAll r h (cols.reverse.take i).reverse).reverse.map boolsL)), (p, false, .obj C_Befores (bfFs r h))], ⟨_, _, _, _, _, rfl, rfl⟩, ?_, ?_⟩
    · rintro i x S M hx ⟨c3, c4, c5, c6, c7, rfl, rfl⟩
      unfold intsN at hx
      rw [← List.map_reverse, List.getElem?_map] at hx
      obtain ⟨k, hk, rfl⟩ := Option.map_eq_some_iff.mp hx
      have hkh := hc k (List.mem_reverse.mp (List.mem_of_getElem? hk))
      have esucc : (cols.reverse.take (i + 1)).reverse = k :: (cols.reverse.take i).reverse := by
        rw [List.take_add_one, hk, List.reverse_append]
        rfl
      have htl : (cols.reverse.take i).reverse.length ≤ 30 := by
        rw [List.length_reverse, List.length_take, List.length_reverse]
        omega
      generalize (cols.reverse.take i).reverse = T at htl esucc ⊢
      obtain ⟨rest, L, eT, hrl⟩ := fitAll_head r h T
      have hTl := fitAll_len r h T
      have hway : atI ((List.range (2 ^ h)).map fun k => PyData.list ((ways r h k).map prN)) ((k : Nat) : Int) = some (.list ((ways r h k).map prN)) := atI_nat (by rw [List.getElem?_map, List.getElem?_range hkh]; rfl)
      have hlast : atI ((fitAll r h T).reverse.map boolsL) (-1) = some (boolsL rest) := by
        rw [eT, List.reverse_cons, List.map_append]
        exact atI_last _ _
      refine ⟨_, _, zg_name, ?_⟩
      refine zs_seq (zs_post (N := fun S M => S = [some (.c p), some (.d (.list (intsN cols))), some (.c qf), some (.d (.int (k : Int))), some (.d (boolsL rest)), c5, c6, c7] ∧ M = [(qf, true, .lst ((fitAll r h T).reverse.map boolsL)), (p, false, .obj C_Befores (bfFs r h))]) ?_ ?_)
      · walk_at "zfq"
        exact ⟨rfl, rfl⟩
      rintro S M ⟨rfl, rfl⟩
      refine ⟨_, List.Sublist.refl _, ?_⟩
      refine zs_seq (zs_post (N := fun S M => ∃ qa l : Addr, S = [some (.c p), some (.d (.list (intsN cols))), some (.c qf), some (.d (.int (k : Int))), some (.d (boolsL rest)), some (.c qa), c6, c7] ∧ M = [(qa, true, .lst ((fitPart (2 ^ (h + 2) * 2 ^ (h + 2)) (ways r h k) rest 0).map .bool)), (l, true, .lst [.bool false]), (qf, true, .lst ((fitAll r h T).reverse.map boolsL)), (p, false, .obj C_Befores (bfFs r h))]) ?_ ?_)
      · walk_at "zfq"
        refine zw_lstC ?_
        walk_at "zfq"
        walk_at "zt"
        intro l
        repeat (first | walk_at "zf" | walk_at "z" | walk_at "ze" | refine ⟨p, _, _, _, rfl, m1 (m1 m0), rfl, ?_⟩)
        refine zo_rep m0 (by omega) (by rw [hsz]; simp only [List.length_singleton]; omega) fun qa => ?_
        refine ⟨qa, l, rfl, ?_⟩
        rw [rep_one]
        unfold fitPart
        rw [List.take_zero, List.foldl_nil, List.map_replicate]
      rintro S M ⟨qa, l, rfl, rfl⟩
      refine ⟨[(qa, true, .lst ((fitPart (2 ^ (h + 2) * 2 ^ (h + 2)) (ways r h k) rest 0).map .bool)), (qf, true, .lst ((fitAll r h T).reverse.map boolsL)), (p, false, .obj C_Befores (bfFs r h))], .cons₂ _ (.cons _ (.cons₂ _ (.cons₂ _ .slnil))), ?_⟩
      refine zs_seq (zs_nx (N := fun S M => ∃ (c6 c7 : Option ZV), S = [some (.c p), some (.d (.list (intsN cols))), some (.c qf), some (.d (.int (k : Int))), some (.d (boolsL rest)), some (.c qa), c6, c7] ∧ M = [(qa, true, .lst ((fitPart (2 ^ (h + 2) * 2 ^ (h + 2)) (ways r h k) rest (ways r h k).length).map .bool)), (qf, true, .lst ((fitAll r h T).reverse.map boolsL)), (p, false, .obj C_Befores (bfFs r h))]) ?_ ?_)
      · repeat (first | walk_at "zf" | walk_at "z" | walk_at "ze" | refine ⟨p, _, _, _, rfl, m1 (m1 m0), rfl, ?_⟩)
        refine ⟨fun j S M => ∃ (c6 c7 : Option ZV), S = [some (.c p), some (.d (.list (intsN cols))), some (.c qf), some (.d (.int (k : Int))), some (.d (boolsL rest)), some (.c qa), c6, c7] ∧ M = [(qa, true, .lst ((fitPart (2 ^ (h + 2) * 2 ^ (h + 2)) (ways r h k) rest j).map .bool)), (qf, true, .lst ((fitAll r h T).reverse.map boolsL)), (p, false, .obj C_Befores (bfFs r h))], ⟨_, _, rfl, rfl⟩, ?_, ?_⟩
        · rintro j x S M hx ⟨c6, c7, rfl, rfl⟩
          rw [List.getElem?_map] at hx
          obtain ⟨e, he, rfl⟩ := Option.map_eq_some_iff.mp hx
          obtain ⟨he1, he2⟩ := way_lt (List.mem_of_getElem? he)
          have hpl := fitPart_len (2 ^ (h + 2) * 2 ^ (h + 2)) (ways r h k) rest j
          have ps := fitPart_succ (P := 2 ^ (h + 2) * 2 ^ (h + 2)) rest he
          generalize fitPart (2 ^ (h + 2) * 2 ^ (h + 2)) (ways r h k) rest j = part at hpl ps ⊢
          have hat : atI (rest.map PyData.bool) ((e.2 : Nat) : Int) = some (.bool (rest.getD e.2 false)) := atI_nat (by rw [List.getElem?_map, List.getD_eq_getElem?_getD, List.getElem?_eq_getElem (by omega)]; rfl)
          refine ⟨_, _, zg_tup rfl (zgs_cons (zgs_cons zgs_nil)), ?_⟩
          walk_at "zfq"
          refine ⟨fun hb => ?_, fun hb => ?_⟩
          · refine zs_setL ?_
            walk_at "zfq"
            refine ⟨qa, true, _, (e.1 : Int), e.1, _, rfl, rfl, ?_, .here, ?_⟩
            · unfold ixN
              rw [List.length_map, hpl, if_pos (Int.natCast_nonneg _), if_pos (by omega), Int.toNat_natCast]
            · refine ⟨_, _, rfl, ?_⟩
              rw [ps, if_pos hb, List.map_set]
          · walk_at "zfq"
            refine ⟨_, _, rfl, ?_⟩
            rw [ps, if_neg (by rw [hb]; exact Bool.false_ne_true)]
        · rintro S M ⟨c6, c7, rfl, rfl⟩
          rw [List.length_map]
          exact ⟨_, _, rfl, rfl⟩
      rintro S M ⟨c6, c7, rfl, rfl⟩
      refine zs_post (N := fun S M => S = [some (.c p), some (.d (.list (intsN cols))), some (.c qf), some (.d (.int (k : Int))), some (.d (boolsL rest)), some (.c qa), c6, c7] ∧ M = [(qf, true, .lst ((fitAll r h T).reverse.map boolsL ++ [boolsL (fitPart (2 ^ (h + 2) * 2 ^ (h + 2)) (ways r h k) rest (ways r h k).length)])), (p, false, .obj C_Befores (bfFs r h))]) ?_ ?_
      · refine zs_drop (zw_append (zw_var rfl ⟨qf, rfl, ⟨true, _, m1 m0⟩, zw_frz (zw_var rfl ⟨qa, _, _, rfl, .here, _, true, _, _, rfl, .here, ?_, ?_⟩)⟩))
        · rw [List.length_map, List.length_reverse, hTl, hsz]
          omega
        · exact ⟨rfl, rfl⟩
      rintro S M ⟨rfl, rfl⟩
      refine ⟨_, List.Sublist.refl _, _, _, _, _, _, rfl, ?_⟩
      rw [esucc, fitAll, List.reverse_cons, List.map_append, eT, List.headD_cons]
      rfl
    · rintro S M ⟨c3, c4, c5, c6, c7, rfl, rfl⟩
      rw [List.length_reverse, show (intsN cols).length = cols.length from List.length_map .., show cols.length = cols.reverse.length from List.length_reverse.symm, List.take_length, List.reverse_reverse]
      refine zs_ret (zw_frz (zw_revC (zw_var rfl ⟨qf, true, _, rfl, m0, fun rv => ⟨rv, _, _, rfl, .here, ?_⟩⟩)))
      rw [← List.map_reverse, List.reverse_reverse]
      exact ⟨⟨_, rfl, rfl⟩, m1 m0⟩
/-! ### the least one -/
def leastL : List Nat → Nat
  | [] => 0
  | a :: l => l.foldl min a
def pickN (W : List (Nat × Nat)) (rest : List Bool) (pr : Nat) : List Nat := (W.filter fun e => e.1 == pr && rest.getD e.2 false).map (·.2)
def hdF (r : Rl) (h : Nat) (ks : List Nat) : List Bool := (fitAll r h ks).headD []
def nextP (r : Rl) (h k : Nat) (ks : List Nat) (pr : Nat) : Nat := leastL (pickN (ways r h k) (hdF r h ks) pr)
def goL (r : Rl) (h : Nat) : Nat → List Nat → List Nat
  | _, [] => []
  | pr, k :: ks => nextP r h k ks pr :: goL r h (nextP r h k ks pr) ks
def leastV (r : Rl) (h : Nat) (cols : List Nat) : Option (List Nat) :=
  if true ∈ hdF r h cols then some ((hdF r h cols).findIdx id / 2 ^ (h + 2) :: (hdF r h cols).findIdx id % 2 ^ (h + 2) :: (goL r h ((hdF r h cols).findIdx id) cols).map (· % 2 ^ (h + 2))) else none
def Fitg (r : Rl) (h : Nat) (ks : List Nat) (pr : Nat) : Prop := (hdF r h ks).getD pr false = true
theorem foldl_min (l : List Nat) : ∀ a : Nat, (l.foldl min a = a ∨ l.foldl min a ∈ l) ∧ l.foldl min a ≤ a ∧ ∀ x ∈ l, l.foldl min a ≤ x := by
  induction l with
  | nil => exact fun a => ⟨.inl rfl, Nat.le_refl _, fun x hx => nomatch hx⟩
  | cons b l ih =>
    intro a
    rw [List.foldl_cons]
    obtain ⟨h1, h2, h3⟩ := ih (min a b)
    refine ⟨?_, by omega, fun x hx => ?_⟩
    · rcases h1 with e | e
      · rw [e]
        rcases Nat.le_total a b with q | q
        · exact .inl (Nat.min_eq_left q)
        · rw [Nat.min_eq_right q]
          exact .inr (List.mem_cons_self ..)
      · exact .inr (List.mem_cons_of_mem _ e)
    · rcases List.mem_cons.mp hx with rfl | hx
      · omega
      · exact h3 x hx
theorem leastL_mem {l : List Nat} (hl : l ≠ []) : leastL l ∈ l ∧ ∀ x ∈ l, leastL l ≤ x := by
  cases l with
  | nil => exact absurd rfl hl
  | cons a l =>
    obtain ⟨h1, h2, h3⟩ := foldl_min l a
    refine ⟨?_, fun x hx => ?_⟩
    · rcases h1 with e | e
      · rw [leastL, e]; exact List.mem_cons_self ..
      · exact List.mem_cons_of_mem _ e
    · rcases List.mem_cons.mp hx with rfl | hx
      · exact h2
      · exact h3 x hx
theorem mem_pickN {W : List (Nat × Nat)} {rest : List Bool} {pr x : Nat} : x ∈ pickN W rest pr ↔ (pr, x) ∈ W ∧ rest.getD x false = true := by
  unfold pickN
  rw [List.mem_map]
  refine ⟨?_, fun ⟨h1, h2⟩ => ⟨(pr, x), List.mem_filter.mpr ⟨h1, by simp only [beq_self_eq_true, h2, Bool.and_self]⟩, rfl⟩⟩
  rintro ⟨⟨a, b⟩, he, rfl⟩
  obtain ⟨h1, h2⟩ := List.mem_filter.mp he
  rw [Bool.and_eq_true] at h2
  have h3 : a = pr := eq_of_beq h2.1
  subst h3
  exact ⟨h1, h2.2⟩
theorem fitPart_true {P : Nat} {W : List (Nat × Nat)} {rest : List Bool} {a : Nat} : ∀ {j : Nat}, j ≤ W.length → (fitPart P W rest j).getD a false = true → ∃ x, (a, x) ∈ W ∧ rest.getD x false = true := by
  intro j
  induction j with
  | zero =>
    intro _ ht
    unfold fitPart at ht
    rw [List.take_zero, List.foldl_nil, List.getD_eq_getElem?_getD, List.getElem?_replicate] at ht
    split at ht <;> cases ht
  | succ j ih =>
    intro hj ht
    rw [fitPart_succ rest (List.getElem?_eq_getElem (show j < W.length by omega))] at ht
    split at ht
    · rename_i hr
      rw [List.getD_eq_getElem?_getD, List.getElem?_set] at ht
      split at ht
      · rename_i ha
        exact ⟨W[j].2, by rw [← ha]; exact List.getElem_mem .., hr⟩
      · exact ih (by omega) (by rw [List.getD_eq_getElem?_getD]; exact ht)
    · exact ih (by omega) ht
theorem fit_next {r : Rl} {h k : Nat} {ks : List Nat} {pr : Nat} (hf : Fitg r h (k :: ks) pr) : pickN (ways r h k) (hdF r h ks) pr ≠ [] := by
  unfold Fitg hdF at hf
  rw [fitAll, List.headD_cons] at hf
  obtain ⟨x, h1, h2⟩ := fitPart_true (Nat.le_refl _) hf
  exact List.ne_nil_of_mem (mem_pickN.mpr ⟨h1, h2⟩)
theorem nextP_ok {r : Rl} {h k : Nat} {ks : List Nat} {pr : Nat} (hf : Fitg r h (k :: ks) pr) : (pr, nextP r h k ks pr) ∈ ways r h k ∧ Fitg r h ks (nextP r h k ks pr) := mem_pickN.mp (leastL_mem (fit_next hf)).1
theorem hdF_len (r : Rl) (h : Nat) (ks : List Nat) : (hdF r h ks).length = 2 ^ (h + 2) * 2 ^ (h + 2) := by
  unfold hdF
  obtain ⟨l, L, e, hl⟩ := fitAll_head r h ks
  rw [e]
  exact hl
theorem fitAll_at (r : Rl) (h : Nat) : ∀ (cols : List Nat) {i : Nat}, i ≤ cols.length → (fitAll r h cols)[i]? = some (hdF r h (cols.drop i)) := by
  intro cols
  induction cols with
  | nil =>
    intro i hi
    obtain rfl : i = 0 := Nat.le_zero.mp hi
    rfl
  | cons k cols ih =>
    intro i hi
    cases i with
    | zero => rfl
    | succ i => rw [fitAll, List.getElem?_cons_succ, List.drop_succ_cons]; exact ih (Nat.le_of_succ_le_succ hi)
theorem any_true (l : List Bool) : (l.map PyData.bool).any (fun y => y.eqv (.bool true)) = decide (true ∈ l) := by
  induction l with
  | nil => rfl
  | cons a l ih =>
    rw [List.map_cons, List.any_cons, ih]
    cases a
    · rw [show (PyData.bool false).eqv (.bool true) = false from by rfl, Bool.false_or, decide_eq_decide, List.mem_cons]
      exact ⟨.inr, fun q => q.elim (fun z => nomatch z) id⟩
    · rw [show (PyData.bool true).eqv (.bool true) = true from by rfl, Bool.true_or]
      exact (decide_eq_true (List.mem_cons_self ..)).symm
theorem plain_bools (l : List Bool) : PyData.plainAll (l.map PyData.bool) = true := by
  induction l with
  | nil => rfl
  | cons a l ih => rw [List.map_cons, PyData.plainAll, ih]; rfl
theorem first_true {l : List Bool} (hm : true ∈ l) : l.findIdx id < l.length ∧ l[l.findIdx id]? = some true ∧ ∀ m, m < l.findIdx id → l[m]? = some false := by
  have h1 : l.findIdx id < l.length := List.findIdx_lt_length.mpr ⟨true, hm, rfl⟩
  refine ⟨h1, ?_, fun m hlt => ?_⟩
  · rw [List.getElem?_eq_getElem h1]
    exact congrArg some (List.findIdx_getElem (w := h1))
  · rw [List.getElem?_eq_getElem (by omega)]
    exact congrArg some (List.not_of_lt_findIdx hlt)
def R_least (fs : List (Str × ZV)) (ds : List PyData) (o : DOut) (fs' : List (Str × ZV)) : Prop := ∃ (r : Rl) (h : Nat) (cols : List Nat), fs = bfFs r h ∧ ds = [.list (intsN cols)] ∧ 1 ≤ h ∧ h ≤ 2 ∧ cols.length ≤ 30 ∧ (∀ k ∈ cols, k < 2 ^ h) ∧ o = .ok (match leastV r h cols with | none => .none | some l => .list (intsN l)) ∧ fs' = fs
theorem ok_Befores_least {P : Program} {w : World} {K : Fg} {mg : Str → Option Value} {base : Heap} {f : Addr} {fd : FuncData} {C_Befores : Addr} (F : Fun K "least" "Befores.least" s_Befores_least f fd)
    (na_Befores_size : NoAttr K C_Befores "size")
    (m_enumerate : mg "enumerate" = none)
    (m_min : mg "min" = none)
    (na_Befores_ways : NoAttr K C_Befores "ways")
    (c_Befores_fitting : Mtd P w K mg base 1 C_Befores "_fitting" (spO K C_Befores 1 R_fitting))
    (cl_Befores : Cls K C_Befores) :
    FnOk P w K mg base (L2.CX P w) 2 f fd ["self", "columns"] (spO K C_Befores 1 R_least) := by
  obtain ⟨f_Befores_fitting, fd_Befores_fitting, ps_Befores_fitting, G_Befores_fitting, M_Befores_fitting, B_Befores_fitting⟩ := c_Befores_fitting
  refine F.okX sc_Befores_least (fun vs H Q E h => len_O h) (fun cdv A outer s H vs Q E hr h => ⟨_, (pss_cons (ps_set (i := 2) sc_Befores_least.nd rfl (by first | exact Or.inl rfl | exact Or.inr rfl) (pe_meth (pv 0) cl_Befores M_Befores_fitting G_Befores_fitting (hr.mono (show 1 ≤ 1 by decide)) B_Befores_fitting .nil passL (pa_cons (pv 1) pa_nil)))
      (pss_cons (ps_if (pt_cmpR (op_ninD hr.units) pe_bl (pe_ix ix_seq (pv 2) pe_int (fun _ _ => rfl)) (by rfl)) (pss_one (ps_ret pe_non)) pss_nil)
      (pss_cons (ps_set (i := 3) sc_Befores_least.nd rfl (by first | exact Or.inl rfl | exact Or.inr rfl) (pe_bm PySem.F.plainAttrs_list PySem.F.slot_list_index PySem.F.type_list_index mt_index (pe_ix ix_seq (pv 2) pe_int (fun _ _ => rfl)) (pa_cons pe_bl pa_nil)))
      (pss_cons (ps_set (i := 4) sc_Befores_least.nd rfl (by first | exact Or.inl rfl | exact Or.inr rfl) (pe_lst (pa_cons (pe_op op_fdivW (pv 3) (pe_fld (pv 0) rfl)) (pa_cons (pe_op op_mod (pv 3) (pe_fld (pv 0) rfl)) pa_nil))))
      (pss_cons (ps_for (passes_of rfl) rfl (pi_enum (by rfl) m_enumerate (pa_cons (pv 1) pa_nil)) (pg_tup rfl (pgs_cons (pg_name (i := 5) sc_Befores_least.nd rfl (by first | exact Or.inl rfl | exact Or.inr rfl)) (pgs_cons (pg_name (i := 6) sc_Befores_least.nd rfl (by first | exact Or.inl rfl | exact Or.inr rfl)) pgs_nil))) (pss_cons (ps_set (i := 7) sc_Befores_least.nd rfl (by first | exact Or.inl rfl | exact Or.inr rfl) (pe_ix ix_seq (pv 2) (pe_op op_addA (pv 5) pe_int) (fun _ _ => rfl)))
      (pss_cons (ps_set (i := 3) sc_Befores_least.nd rfl (by first | exact Or.inl rfl | exact Or.inr rfl) (pe_callB (cr_min rfl) (by rfl) m_min bb_min (pa_cons (pe_lc (own := [("ahead", 8), ("behind", 9)]) rfl sc_Befores_least.nd (pi_list (pe_ix ix_seq (pe_fld (pv 0) rfl) (pv 6) (fun _ _ => rfl))) (blkOk_by (N := N_Befores_least) (sc := defScope s_Befores_least) (by decide +kernel)) (fun _ _ _ _ _ => (show PG _ _ (gTup K 2 _) from (pg_tup rfl (pgs_cons (pg_name (i := 8) sc_Befores_least.nd rfl (by first | exact Or.inl rfl | exact Or.inr rfl)) (pgs_cons (pg_name (i := 9) sc_Befores_least.nd rfl (by first | exact Or.inl rfl | exact Or.inr rfl)) pgs_nil))))) (fun _ _ _ _ _ => (pts_one (PW.pt (pw_and (pt_cmpR (show OpR _ (compareOp .Eq) (rEqA K) from (op_eqA hr.units)) (pv 8) (pv 3) (nomark _)) (pw_and1 (show PT _ _ (fun σ H Q => tOp (rIx K) (tVar 7) (tVar 9) σ H fun x H' => ∃ k, TruV K x H' k ∧ Q k H') from pt_truth (pe_ix (show IxR _ (rIx K) from ix_seq) (pv 7) (pv 9) (fun _ _ => rfl)) (fun _ => rfl))))))) (fun _ _ _ _ _ => (pv 9))) pa_nil)))
      (pss_one (ps_expr (pe_bm PySem.F.plainAttrs_list PySem.F.slot_list_append PySem.F.type_list_append mt_append (pv 4) (pa_cons (pe_op op_mod (pv 3) (pe_fld (pv 0) rfl)) pa_nil)))))))
      (pss_one (ps_ret (pv 4)))))))),
    fn_O h fun p fs ds o fs2 hk hR => ?_⟩)
  try dsimp only [L2.cxOf]
  obtain ⟨r, h, cols, rfl, rfl, h1, h2, hl, hc, rfl, rfl⟩ := hR
  have hsz : (sizeLine : Nat) = 16777216 := sizeLine_eq
  have hS8 : 8 ≤ 2 ^ (h + 2) ∧ 2 ^ (h + 2) ≤ 16 := by
    have := Nat.pow_le_pow_right (n := 2) (by decide) (show 3 ≤ h + 2 by omega)
    have := Nat.pow_le_pow_right (n := 2) (by decide) (show h + 2 ≤ 4 by omega)
    omega
  have hP : 2 ^ (h + 2) * 2 ^ (h + 2) ≤ 256 := Nat.mul_le_mul hS8.2 hS8.2
  have hfl := hdF_len r h cols
  have h0 : atI ((fitAll r h cols).map boolsL) 0 = some (boolsL (hdF r h cols)) := atI_nat (j := 0) (by rw [List.getElem?_map, fitAll_at r h cols (Nat.zero_le _)]; rfl)
  have hrow : ∀ i ≤ cols.length, atI ((fitAll r h cols).map boolsL) (i : Int) = some (boolsL (hdF r h (cols.drop i))) := fun i hi => atI_nat (by rw [List.getElem?_map, fitAll_at r h cols hi]; rfl)
  refine zs_seq (zs_post (N := fun S M => S = [some (.c p), some (.d (.list (intsN cols))), some (.d (.list ((fitAll r h cols).map boolsL))), none, none, none, none, none, none, none] ∧ M = [(p, false, .obj C_Befores (bfFs r h))]) ?_ ?_)
  · walk_at "zfq"
    refine ⟨⟨_, _, m0, rfl⟩, ?_⟩
    walk_at "zfq"
    refine ⟨false, _, _, _, _, _, by walk_at "zd", rfl, ⟨r, h, cols, rfl, rfl, h1, h2, hl, hc, rfl, rfl⟩, .here, ?_⟩
    exact ⟨rfl, rfl⟩
  rintro S M ⟨rfl, rfl⟩
  refine ⟨_, List.Sublist.refl _, ?_⟩
  walk_at "zfq"
  refine zo_inD (plain_bools _) rfl (by decide) ?_
  rw [any_true]
  refine ⟨_, rfl, fun e => ?_, fun e => ?_⟩
  · have hn : true ∉ hdF r h cols := fun q => by
      rw [if_pos rfl, decide_eq_true q] at e
      cases e
    have ev : leastV r h cols = none := by unfold leastV; rw [if_neg hn]
    rw [ev]
    walk_at "zfq"
    exact ⟨⟨_, rfl, rfl⟩, m0⟩
  have hm : true ∈ hdF r h cols := by
    by_cases q : true ∈ hdF r h cols
    · exact q
    · rw [if_pos rfl, decide_eq_false q] at e
      cases e
  obtain ⟨f1, f2, f3⟩ := first_true hm
  have ev : leastV r h cols = some ((hdF r h cols).findIdx id / 2 ^ (h + 2) :: (hdF r h cols).findIdx id % 2 ^ (h + 2) :: (goL r h ((hdF r h cols).findIdx id) cols).map (· % 2 ^ (h + 2))) := by unfold leastV; rw [if_pos hm]
  rw [ev]
  generalize (hdF r h cols).findIdx id = pr at f1 f2 f3
  have hfit : Fitg r h cols pr := by unfold Fitg; rw [List.getD_eq_getElem?_getD, f2]; rfl
  walk_at "zfq"
  refine zw_bmL ?_
  walk_at "zfq"
  refine zm_indexB f2 f3 ?_
  refine zs_seq (zs_post (N := fun S M => ∃ qf : Addr, S = [some (.c p), some (.d (.list (intsN cols))), some (.d (.list ((fitAll r h cols).map boolsL))), some (.d (.int (pr : Int))), some (.c qf), none, none, none, none, none] ∧ M = [(qf, true, .lst (intsN [pr / 2 ^ (h + 2), pr % 2 ^ (h + 2)])), (p, false, .obj C_Befores (bfFs r h))]) ?_ ?_)
  · walk_at "zfq"
    refine zw_lstC ?_
    walk_at "zfq"
    refine zo_fdivW ⟨Int.ofNat_lt.mpr (show 0 < 2 ^ (h + 2) by omega), by rw [Int.natAbs_natCast, Nat.log2_two_pow]; omega⟩ ?_
    walk_at "zfq"
    refine zo_mod (Int.ofNat_lt.mpr (show 0 < 2 ^ (h + 2) by omega)) ?_
    walk_at "zfq"
    walk_at "zt"
    intro qf
    exact ⟨qf, rfl, rfl⟩
  rintro S M ⟨qf, rfl, rfl⟩
  refine ⟨_, List.Sublist.refl _, ?_⟩
  refine zs_seq (zs_forE ?_)
  walk_at "zfq"
  refine ⟨fun i S M => ∃ (pr1 : Nat) (acc : List Nat) (c5 c6 c7 c8 c9 : Option ZV), Fitg r h (cols.drop i) pr1 ∧ pr1 < 2 ^ (h + 2) * 2 ^ (h + 2) ∧ acc.length = i ∧ goL r h pr cols = acc ++ goL r h pr1 (cols.drop i) ∧ S = [some (.c p), some (.d (.list (intsN cols))), some (.d (.list ((fitAll r h cols).map boolsL))), some (.d (.int (pr1 : Int))), some (.c qf), c5, c6, c7, c8, c9] ∧ M = [(qf, true, .lst (intsN (pr / 2 ^ (h + 2) :: pr % 2 ^ (h + 2) :: acc.map (· % 2 ^ (h + 2))))), (p, false, .obj C_Befores (bfFs r h))], ⟨pr, [], _, _, _, _, _, hfit, by omega, rfl, rfl, rfl, rfl⟩, ?_, ?_⟩
  · rintro i x S M hx ⟨pr1, acc, c5, c6, c7, c8, c9, g1, g2, g3, g4, rfl, rfl⟩
    unfold intsN at hx
    rw [List.getElem?_map] at hx
    obtain ⟨k, hk, rfl⟩ := Option.map_eq_some_iff.mp hx
    have hkh := hc k (List.mem_of_getElem? hk)
    obtain ⟨hil, hke⟩ := List.getElem?_eq_some_iff.mp hk
    have ed : cols.drop i = k :: cols.drop (i + 1) := by rw [List.drop_eq_getElem_cons hil, hke]
    rw [ed] at g1 g4
    rw [goL] at g4
    obtain ⟨n1, n2⟩ := nextP_ok g1
    have n3 := (way_lt n1).2
    have hmin := leastL_mem (fit_next g1)
    have hrow1 : atI ((fitAll r h cols).map boolsL) ((i : Int) + 1) = some (boolsL (hdF r h (cols.drop (i + 1)))) := hrow (i + 1) (by omega)
    have hlen1 := hdF_len r h (cols.drop (i + 1))
    have hway : atI ((List.range (2 ^ h)).map fun k => PyData.list ((ways r h k).map prN)) ((k : Nat) : Int) = some (.list ((ways r h k).map prN)) := atI_nat (by rw [List.getElem?_map, List.getElem?_range hkh]; rfl)
    refine ⟨_, _, zg_tup rfl (zgs_cons (zgs_cons zgs_nil)), ?_⟩
    refine zs_seq (zs_post (N := fun S M => S = [some (.c p), some (.d (.list (intsN cols))), some (.d (.list ((fitAll r h cols).map boolsL))), some (.d (.int (pr1 : Int))), some (.c qf), some (.d (.int (i : Int))), some (.d (.int (k : Int))), some (.d (boolsL (hdF r h (cols.drop (i + 1))))), c8, c9] ∧ M = [(qf, true, .lst (intsN (pr / 2 ^ (h + 2) :: pr % 2 ^ (h + 2) :: acc.map (· % 2 ^ (h + 2))))), (p, false, .obj C_Befores (bfFs r h))]) ?_ ?_)
    · walk_at "zfq"
      exact ⟨rfl, rfl⟩
    rintro S M ⟨rfl, rfl⟩
    refine ⟨_, List.Sublist.refl _, ?_⟩
    walk_at "zfq"
    have hwl : (ways r h k).length ≤ sizeLine := by
      have hw := wayTo_len r h (2 ^ (h + 2) * 2 ^ (h + 2)) 0 k
      have hm := Nat.mul_le_mul hP hS8.2
      unfold ways
      rw [hsz]
      omega
    refine lcL_fm (ways r h k) prN (fun e => .int (e.2 : Int)) (fun e => e.1 == pr1 && (hdF r h (cols.drop (i + 1))).getD e.2 false) ?_
    repeat (first | walk_at "zf" | walk_at "z" | walk_at "ze" | refine ⟨p, _, _, _, rfl, m1 m0, rfl, ?_⟩)
    refine ⟨rfl, hwl, fun e he => ⟨_, _, fun j hj => hj, zg_tup rfl (zgs_cons (zgs_cons zgs_nil)), fun D acc1 => ⟨?_, fun _ => ?_⟩⟩, ?_⟩
    · have hw := way_lt he
      have hat : atI ((hdF r h (cols.drop (i + 1))).map PyData.bool) ((e.2 : Nat) : Int) = some (.bool ((hdF r h (cols.drop (i + 1))).getD e.2 false)) := atI_nat (by rw [List.getElem?_map, List.getD_eq_getElem?_getD, List.getElem?_eq_getElem (by omega)]; rfl)
      walk_at "zfq"
      refine ⟨fun e1 => ⟨?_, rfl⟩, fun e1 => ?_⟩
      · have e2 : (e.1 == pr1) = false := beq_eq_false_iff_ne.mpr fun q => of_decide_eq_false e1 (by rw [q])
        rw [e2, Bool.false_and]
      · have e2 : (e.1 == pr1) = true := beq_iff_eq.mpr (Int.ofNat.inj (of_decide_eq_true e1))
        rw [e2, Bool.true_and]
        walk_at "zfq"
        exact ⟨rfl, rfl⟩
    · walk_at "zfq"
      exact ⟨rfl, rfl⟩
    · walk_at "zfq"
      rw [show List.map (fun e : Nat × Nat => PyData.int (e.2 : Int)) (List.filter (fun e => e.1 == pr1 && (hdF r h (cols.drop (i + 1))).getD e.2 false) (ways r h k)) = ((pickN (ways r h k) (hdF r h (cols.drop (i + 1))) pr1).map fun (x : Nat) => (x : Int)).map PyData.int from by unfold pickN; rw [List.map_map, List.map_map]; rfl]
      refine zc_min (m := (nextP r h k (cols.drop (i + 1)) pr1 : Nat)) ⟨List.mem_map.mpr ⟨_, hmin.1, rfl⟩, fun y hy => ?_⟩ ?_
      · obtain ⟨x, hx, rfl⟩ := List.mem_map.mp hy
        exact Int.ofNat_le.mpr (hmin.2 x hx)
      walk_at "zfq"
      refine zw_append (zw_var rfl ⟨qf, rfl, ⟨true, _, m0⟩, ?_⟩)
      walk_at "zfq"
      refine zo_mod (Int.ofNat_lt.mpr (show 0 < 2 ^ (h + 2) by omega)) ?_
      refine ⟨_, true, _, _, rfl, .here, ?_, ?_⟩
      · unfold intsN
        rw [List.length_map, List.length_cons, List.length_cons, List.length_map, hsz]
        omega
      refine ⟨nextP r h k (cols.drop (i + 1)) pr1, acc ++ [nextP r h k (cols.drop (i + 1)) pr1], _, _, _, _, _, n2, n3, by rw [List.length_append, g3]; rfl, by rw [g4, List.append_assoc]; rfl, rfl, ?_⟩
      unfold intsN
      rw [List.map_append, ← List.cons_append, ← List.cons_append, List.map_append]
      rfl
  · rintro S M ⟨pr1, acc, c5, c6, c7, c8, c9, g1, g2, g3, g4, rfl, rfl⟩
    rw [show (intsN cols).length = cols.length from List.length_map .., List.drop_length] at g4
    rw [goL, List.append_nil] at g4
    refine zs_ret (zw_frz (zw_var rfl ⟨qf, _, _, rfl, .here, ?_⟩))
    rw [g4]
    exact ⟨⟨_, rfl, rfl⟩, m0⟩
/-! ### the two answers -/
def R_befCount (ds : List PyData) (o : DOut) : Prop := ∃ (r : Rl) (h : Nat) (P : List (List Nat)), ds = [r.d, picD P] ∧ Rule r ∧ r.n = 2 ∧ PicOk h P ∧ h ≤ 2 ∧ o = .ok (.int ((cntAll r h (P.map colV)).sum : Nat))
theorem ok_befores_count {P : Program} {w : World} {K : Fg} {mg : Str → Option Value} {base : Heap} {f : Addr} {fd : FuncData} {C_Befores : Addr} (F : Fun K "befores_count" "befores_count" s_befores_count f fd)
    (m_len : mg "len" = none)
    (c__check_arguments : Cal P w K mg base 5 "_check_arguments" (spD K 2 R_chkArgs))
    (c_Befores_how_many : Mtd P w K mg base 1 C_Befores "how_many" (spO K C_Befores 1 R_howMany))
    (c_Befores_init : Mkr P w K mg base 4 "Befores" C_Befores (spO K C_Befores 2 R_bfInit))
    (c_column_of : Cal P w K mg base 1 "column_of" (spD K 1 R_colOf))
    (cl_Befores : Cls K C_Befores) :
    FnOk P w K mg base (L2.CX P w) 6 f fd ["rule", "picture"] (spD K 2 R_befCount) := by
  obtain ⟨f_Befores_how_many, fd_Befores_how_many, ps_Befores_how_many, G_Befores_how_many, M_Befores_how_many, B_Befores_how_many⟩ := c_Befores_how_many
  refine F.okX sc_befores_count (fun vs H Q E h => len_D h) (fun cdv A outer s H vs Q E hr h => ⟨_, (pss_cons (ps_expr (pe_cl c__check_arguments hr (show 5 ≤ 5 by decide) passL (pa_cons (pv 0) (pa_cons (pv 1) pa_nil))))
      (pss_one (ps_ret (pe_meth (pe_mkr (j := 4) c_Befores_init (hr.mono (by decide)) (by decide) passL (pa_cons (pv 0) (pa_cons (pe_callB call_len (by rfl) m_len bb_len (pa_cons (pe_ix ix_seq (pv 1) pe_int (fun _ _ => rfl)) pa_nil)) pa_nil))) cl_Befores M_Befores_how_many G_Befores_how_many (hr.mono (show 1 ≤ 5 by decide)) B_Befores_how_many .nil passL (pa_cons (pe_lc (own := [("cells", 2)]) rfl sc_befores_count.nd (pi_tup (pv 1)) (blkOk_by (N := N_befores_count) (sc := defScope s_befores_count) (by decide +kernel)) (fun _ _ _ _ _ => (pg_name (i := 2) sc_befores_count.nd rfl (by first | exact Or.inl rfl | exact Or.inr rfl))) (fun _ _ _ _ _ => pts_nil) (fun _ _ _ _ _ => (pe_cl c_column_of hr (show 1 ≤ 5 by decide) passL (pa_cons (pv 2) pa_nil)))) pa_nil))))),
    fn_D h fun ds o hk hR => ?_⟩)
  try dsimp only [L2.cxOf]
  obtain ⟨r, h, P, rfl, hr2, hn, hp, h2, rfl⟩ := hR
  have hsz : (sizeLine : Nat) = 16777216 := sizeLine_eq
  have hpl := hp.few
  obtain ⟨c0, P', rfl⟩ : ∃ c0 P', P = c0 :: P' := by
    cases P with
    | nil => exact absurd rfl hp.ne
    | cons a l => exact ⟨a, l, rfl⟩
  have hc0 := (hp.each c0 (List.mem_cons_self ..)).len
  walk_at "zfq"
  refine ⟨_, _, by walk_at "zd", rfl, ⟨r, h, c0 :: P', rfl, hr2, hn, hp, rfl⟩, ?_⟩
  walk_at "zfq"
  refine zo_ix (d := natsD c0) (show atI _ _ = _ from atI_nat (j := 0) rfl) ?_
  walk_at "zfq"
  rw [show (List.map (fun (k : Nat) => PyData.int (k : Int)) c0).length = h by rw [List.length_map]; exact hc0]
  refine ⟨_, _, by walk_at "zd", rfl, ⟨r, h, rfl, rfl, hr2, hp.h1, h2, rfl, rfl⟩, fun p => ⟨p, rfl, ⟨_, _, m0, rfl⟩, ?_⟩⟩
  refine za_cons (lcT_map (c0 :: P') natsD (fun c => .int (colV c : Int)) ?_)
  walk_at "zfq"
  refine ⟨rfl, by rw [hsz]; omega, fun c hcm => ⟨_, _, fun j hj => hj, zg_name, fun D acc => ?_⟩, ?_⟩
  · walk_at "zfq"
    refine ⟨_, _, by walk_at "zd", rfl, ⟨h, c, rfl, by omega, hp.each c hcm, rfl⟩, ?_⟩
    exact ⟨rfl, rfl⟩
  refine za_nil ?_
  refine ⟨true, _, [.list (List.map (fun c => PyData.int (colV c : Int)) (c0 :: P'))], _, _, _, rfl, rfl, ⟨r, h, (c0 :: P').map colV, rfl, ?_, hp.h1, h2, by rw [List.length_map]; omega, fun k hk => ?_, rfl, rfl⟩, .here, ?_⟩
  · unfold intsN
    rw [List.map_map]
    rfl
  · obtain ⟨c, hc, rfl⟩ := List.mem_map.mp hk
    exact colV_lt (hp.each c hc)
  · exact ⟨_, rfl, rfl⟩
theorem goL_len (r : Rl) (h : Nat) (ks : List Nat) : ∀ pr, (goL r h pr ks).length = ks.length := by
  induction ks with
  | nil => exact fun pr => rfl
  | cons k ks ih => exact fun pr => by rw [goL, List.length_cons, ih, List.length_cons]
theorem leastV_len {r : Rl} {h : Nat} {cols l : List Nat} (hv : leastV r h cols = some l) : l.length = cols.length + 2 := by
  unfold leastV at hv
  split at hv
  · cases hv
    rw [List.length_cons, List.length_cons, List.length_map, goL_len]
  · cases hv
def R_firstBefore (ds : List PyData) (o : DOut) : Prop := ∃ (r : Rl) (h : Nat) (P : List (List Nat)), ds = [r.d, picD P] ∧ Rule r ∧ r.n = 2 ∧ PicOk h P ∧ h ≤ 2 ∧ o = .ok (match leastV r h (P.map colV) with | none => .none | some l => .tuple (l.map fun v => natsD (bitsV v (h + 2))))
theorem ok_first_before {P : Program} {w : World} {K : Fg} {mg : Str → Option Value} {base : Heap} {f : Addr} {fd : FuncData} {C_Befores : Addr} (F : Fun K "first_before" "first_before" s_first_before f fd)
    (m_len : mg "len" = none)
    (m_tuple : mg "tuple" = none)
    (c__check_arguments : Cal P w K mg base 5 "_check_arguments" (spD K 2 R_chkArgs))
    (c_Befores_least : Mtd P w K mg base 2 C_Befores "least" (spO K C_Befores 1 R_least))
    (c_Befores_init : Mkr P w K mg base 4 "Befores" C_Befores (spO K C_Befores 2 R_bfInit))
    (c_column_of : Cal P w K mg base 1 "column_of" (spD K 1 R_colOf))
    (c_cells_of : Cal P w K mg base 1 "cells_of" (spD K 2 R_cellsOf))
    (cl_Befores : Cls K C_Befores) :
    FnOk P w K mg base (L2.CX P w) 6 f fd ["rule", "picture"] (spD K 2 R_firstBefore) := by
  obtain ⟨f_Befores_least, fd_Befores_least, ps_Befores_least, G_Befores_least, M_Befores_least, B_Befores_least⟩ := c_Befores_least
  refine F.okX sc_first_before (fun vs H Q E h => len_D h) (fun cdv A outer s H vs Q E hr h => ⟨_, (pss_cons (ps_expr (pe_cl c__check_arguments hr (show 5 ≤ 5 by decide) passL (pa_cons (pv 0) (pa_cons (pv 1) pa_nil))))
      (pss_cons (ps_set (i := 2) sc_first_before.nd rfl (by first | exact Or.inl rfl | exact Or.inr rfl) (pe_callB call_len (by rfl) m_len bb_len (pa_cons (pe_ix ix_seq (pv 1) pe_int (fun _ _ => rfl)) pa_nil)))
      (pss_cons (ps_set (i := 3) sc_first_before.nd rfl (by first | exact Or.inl rfl | exact Or.inr rfl) (pe_meth (pe_mkr (j := 4) c_Befores_init (hr.mono (by decide)) (by decide) passL (pa_cons (pv 0) (pa_cons (pv 2) pa_nil))) cl_Befores M_Befores_least G_Befores_least (hr.mono (show 2 ≤ 5 by decide)) B_Befores_least .nil passL (pa_cons (pe_lc (own := [("cells", 4)]) rfl sc_first_before.nd (pi_tup (pv 1)) (blkOk_by (N := N_first_before) (sc := defScope s_first_before) (by decide +kernel)) (fun _ _ _ _ _ => (pg_name (i := 4) sc_first_before.nd rfl (by first | exact Or.inl rfl | exact Or.inr rfl))) (fun _ _ _ _ _ => pts_nil) (fun _ _ _ _ _ => (pe_cl c_column_of hr (show 1 ≤ 5 by decide) passL (pa_cons (pv 4) pa_nil)))) pa_nil)))
      (pss_cons (ps_if (pt_cmpR op_isN (pv 3) pe_non (nomark _)) (pss_one (ps_ret pe_non)) pss_nil)
      (pss_one (ps_ret (pe_callTy call_tuple_of (by rfl) m_tuple bt_tuple (pa_cons (pe_lc (own := [("column", 5)]) rfl sc_first_before.nd (pi_list (pv 3)) (blkOk_by (N := N_first_before) (sc := defScope s_first_before) (by decide +kernel)) (fun _ _ _ _ _ => (pg_name (i := 5) sc_first_before.nd rfl (by first | exact Or.inl rfl | exact Or.inr rfl))) (fun _ _ _ _ _ => pts_nil) (fun _ _ _ _ _ => (pe_cl c_cells_of hr (show 1 ≤ 5 by decide) passL (pa_cons (pv 5) (pa_cons (pe_op (show OpR _ (binaryOp .Add) (rAddA K) from op_addA) (pv 2) pe_int) pa_nil))))) pa_nil)))))))),
    fn_D h fun ds o hk hR => ?_⟩)
  try dsimp only [L2.cxOf]
  obtain ⟨r, h, P, rfl, hr2, hn, hp, h2, rfl⟩ := hR
  have hsz : (sizeLine : Nat) = 16777216 := sizeLine_eq
  have hpl := hp.few
  obtain ⟨c0, P', rfl⟩ : ∃ c0 P', P = c0 :: P' := by
    cases P with
    | nil => exact absurd rfl hp.ne
    | cons a l => exact ⟨a, l, rfl⟩
  have hc0 := (hp.each c0 (List.mem_cons_self ..)).len
  walk_at "zfq"
  refine ⟨_, _, by walk_at "zd", rfl, ⟨r, h, c0 :: P', rfl, hr2, hn, hp, rfl⟩, ?_⟩
  walk_at "zfq"
  refine zo_ix (d := natsD c0) (show atI _ _ = _ from atI_nat (j := 0) rfl) ?_
  walk_at "zfq"
  rw [show (List.map (fun (k : Nat) => PyData.int (k : Int)) c0).length = h by rw [List.length_map]; exact hc0]
  refine ⟨_, _, by walk_at "zd", rfl, ⟨r, h, rfl, rfl, hr2, hp.h1, h2, rfl, rfl⟩, fun p => ⟨p, rfl, ⟨_, _, m0, rfl⟩, ?_⟩⟩
  refine za_cons (lcT_map (c0 :: P') natsD (fun c => .int (colV c : Int)) ?_)
  walk_at "zfq"
  refine ⟨rfl, by rw [hsz]; omega, fun c hcm => ⟨_, _, fun j hj => hj, zg_name, fun D acc => ?_⟩, ?_⟩
  · walk_at "zfq"
    refine ⟨_, _, by walk_at "zd", rfl, ⟨h, c, rfl, by omega, hp.each c hcm, rfl⟩, ?_⟩
    exact ⟨rfl, rfl⟩
  refine za_nil ?_
  refine ⟨true, _, [.list (List.map (fun c => PyData.int (colV c : Int)) (c0 :: P'))], _, _, _, rfl, rfl, ⟨r, h, (c0 :: P').map colV, rfl, ?_, hp.h1, h2, by rw [List.length_map]; omega, fun k hk => ?_, rfl, rfl⟩, .here, ?_⟩
  · unfold intsN
    rw [List.map_map]
    rfl
  · obtain ⟨c, hc, rfl⟩ := List.mem_map.mp hk
    exact colV_lt (hp.each c hc)
  have hll : ∀ l, leastV r h ((c0 :: P').map colV) = some l → l.length ≤ 100 := fun l hl => by rw [leastV_len hl, List.length_map]; omega
  cases hv : leastV r h ((c0 :: P').map colV) with
  | none =>
    walk_at "zfq"
    rfl
  | some l =>
    have hl1 := hll l hv
    walk_at "zfq"
    refine lcL_map l (fun v => .int (v : Int)) (fun v => natsD (bitsV v (h + 2))) ?_
    walk_at "zfq"
    refine ⟨rfl, by rw [hsz]; omega, fun v hv => ⟨_, _, fun j hj => hj, zg_name, fun D acc => ?_⟩, ?_⟩
    · walk_at "zfq"
      refine ⟨_, _, by walk_at "zd", rfl, ⟨v, h + 2, rfl, by omega, rfl⟩, ?_⟩
      exact ⟨rfl, rfl⟩
    refine za_nil (zc_tupL ?_)
    exact ⟨_, rfl, rfl⟩
/-! ### sums -/
def sm : Nat → (Nat → Int) → Int
  | 0, _ => 0
  | n + 1, f => sm n f + f n
theorem sm_congr : ∀ (n : Nat) {f g : Nat → Int}, (∀ i, i < n → f i = g i) → sm n f = sm n g
  | 0, _, _, _ => rfl
  | n + 1, f, g, h => by rw [sm, sm, sm_congr n (fun i hi => h i (by omega)), h n (by omega)]
theorem sm_mul (a : Int) (f : Nat → Int) : ∀ n, sm n (fun i => a * f i) = a * sm n f
  | 0 => by simp [sm]
  | n + 1 => by simp only [sm, sm_mul a f n, Int.mul_add]
theorem sm_zero : ∀ n, sm n (fun _ => 0) = 0
  | 0 => rfl
  | n + 1 => by simp [sm, sm_zero n]
theorem sm_app (f : Nat → Int) (m : Nat) : ∀ n, sm (m + n) f = sm m f + sm n fun i => f (i + m)
  | 0 => by simp [sm]
  | n + 1 => by rw [← Nat.add_assoc, sm, sm, sm_app f m n, Nat.add_comm n m]; omega
theorem sm_split (f : Nat → Int) (a : Nat) : ∀ b, sm (a * b) f = sm b fun c => sm a fun n => f (n + c * a)
  | 0 => rfl
  | b + 1 => by rw [sm, ← sm_split f a b, Nat.mul_succ, sm_app, Nat.mul_comm b a]
theorem sm_nonneg (f : Nat → Int) : ∀ n, (∀ i, i < n → 0 ≤ f i) → 0 ≤ sm n f
  | 0, _ => Int.le_refl 0
  | n + 1, h => by
    have := sm_nonneg f n fun i hi => h i (by omega)
    have := h n (by omega)
    rw [sm]; omega
theorem sm_list (l : List Nat) : (l.sum : Int) = sm l.length fun i => (l.getD i 0 : Int) := by
  have : ∀ l : List Nat, ∀ n, l.length = n → (l.sum : Int) = sm n fun i => (l.getD i 0 : Int) := by
    intro l n
    induction n generalizing l with
    | zero => intro h; rw [List.length_eq_zero_iff.mp h]; rfl
    | succ n ih =>
      intro h
      obtain ⟨l', a, rfl⟩ : ∃ l' a, l = l' ++ [a] := ⟨l.dropLast, l.getLast (by intro z; rw [z] at h; cases h), (List.dropLast_concat_getLast _).symm⟩
      have hl : l'.length = n := by simpa using h
      rw [List.sum_append, Int.natCast_add, ih l' hl, sm]
      congr 1
      · refine sm_congr n fun i hi => ?_
        rw [List.getD_eq_getElem?_getD, List.getD_eq_getElem?_getD, List.getElem?_append_left (by omega)]
      · rw [List.getD_eq_getElem?_getD, List.getElem?_append_right (by omega), hl, Nat.sub_self]
        simp
  exact this l _ rfl
/-! ### the numbers of wider pictures -/
/-- may the columns of number m follow the pair pr, as the columns ks tell? -/
def folN (r : Rl) (h : Nat) : List Nat → Nat → Nat → Bool
  | [], _, _ => true
  | k :: ks, pr, m => decide (latE r h (pr, m / (2 ^ (h + 2)) ^ ks.length) = k) && folN r h ks (pr % 2 ^ (h + 2) * 2 ^ (h + 2) + m / (2 ^ (h + 2)) ^ ks.length) (m % (2 ^ (h + 2)) ^ ks.length)
def waysN (r : Rl) (h : Nat) (ks : List Nat) (pr : Nat) : Int := sm ((2 ^ (h + 2)) ^ ks.length) fun m => if folN r h ks pr m = true then 1 else 0
theorem pair_lt {S a y : Nat} (hy : y < S) : a % S * S + y < S * S := by
  have hm := Nat.mod_lt a (show 0 < S by omega)
  have := Nat.mul_le_mul_right S (show a % S + 1 ≤ S by omega)
  rw [Nat.add_mul, Nat.one_mul] at this
  omega
theorem waysN_cons (r : Rl) (h k : Nat) (ks : List Nat) (pr : Nat) : waysN r h (k :: ks) pr = sm (2 ^ (h + 2)) fun y => if latE r h (pr, y) = k then waysN r h ks (pr % 2 ^ (h + 2) * 2 ^ (h + 2) + y) else 0 := by
  unfold waysN
  rw [List.length_cons, Nat.pow_succ, sm_split]
  refine sm_congr _ fun y hy => ?_
  have hp : 0 < (2 ^ (h + 2)) ^ ks.length := Nat.pos_of_ne_zero (Nat.ne_of_gt (Nat.pow_pos (Nat.two_pow_pos _)))
  have e : ∀ m, m < (2 ^ (h + 2)) ^ ks.length → folN r h (k :: ks) pr (m + y * (2 ^ (h + 2)) ^ ks.length) = (decide (latE r h (pr, y) = k) && folN r h ks (pr % 2 ^ (h + 2) * 2 ^ (h + 2) + y) m) := by
    intro m hm
    rw [folN, Nat.add_mul_div_right _ _ hp, Nat.div_eq_of_lt hm, Nat.zero_add, Nat.add_mul_mod_self_right, Nat.mod_eq_of_lt hm]
  by_cases z : latE r h (pr, y) = k
  · rw [if_pos z]
    exact sm_congr _ fun m hm => by rw [e m hm, decide_eq_true z, Bool.true_and]
  · rw [if_neg z]
    rw [sm_congr _ (g := fun _ => 0), sm_zero]
    intro m hm
    rw [e m hm, decide_eq_false z, Bool.false_and]
    rfl
theorem mem_ents {S i : Nat} {e : Nat × Nat} : e ∈ entsTo S i 0 ↔ e.1 < i ∧ e.2 < S := by
  unfold entsTo
  rw [List.range_zero, List.map_nil, List.append_nil, List.mem_flatMap]
  constructor
  · rintro ⟨a, ha, hb⟩
    obtain ⟨c, hc, rfl⟩ := List.mem_map.mp hb
    exact ⟨List.mem_range.mp ha, List.mem_range.mp hc⟩
  · rintro ⟨h1, h2⟩
    exact ⟨e.1, List.mem_range.mpr h1, List.mem_map.mpr ⟨e.2, List.mem_range.mpr h2, rfl⟩⟩
theorem mem_ways {r : Rl} {h k a b : Nat} : (a, b) ∈ ways r h k ↔ a < 2 ^ (h + 2) * 2 ^ (h + 2) ∧ ∃ y, y < 2 ^ (h + 2) ∧ latE r h (a, y) = k ∧ b = a % 2 ^ (h + 2) * 2 ^ (h + 2) + y := by
  unfold ways wayTo
  rw [List.mem_map]
  constructor
  · rintro ⟨⟨a', y⟩, he, heq⟩
    obtain ⟨h1, h2⟩ := List.mem_filter.mp he
    obtain ⟨h3, h4⟩ := mem_ents.mp h1
    unfold entP at heq
    cases heq
    exact ⟨h3, y, h4, of_decide_eq_true h2, rfl⟩
  · rintro ⟨h1, y, h2, h3, rfl⟩
    exact ⟨(a, y), List.mem_filter.mpr ⟨mem_ents.mpr ⟨h1, h2⟩, decide_eq_true h3⟩, rfl⟩
theorem ents_sum (p : Nat × Nat → Bool) (f : Nat × Nat → Int) (S : Nat) : ∀ i, (((entsTo S i 0).filter p).map f).sum = sm i fun a => sm S fun c => if p (a, c) = true then f (a, c) else 0
  | 0 => by unfold entsTo; simp [sm]
  | i + 1 => by
    rw [← entsTo_row, sm, ← ents_sum p f S i]
    have : ∀ j, (((entsTo S i j).filter p).map f).sum = (((entsTo S i 0).filter p).map f).sum + sm j fun c => if p (i, c) = true then f (i, c) else 0 := by
      intro j
      induction j with
      | zero => simp [sm]
      | succ j ih =>
        rw [entsTo_cell, List.filter_append, List.map_append, List.sum_append, ih, sm]
        cases hp : p (i, j) <;> simp [hp] <;> omega
    exact this S
theorem fold_weight (cnt : List Nat) (t : Nat → Int) (P : Nat) : ∀ (W : List (Nat × Nat)) (l : List Nat), l.length = P → (∀ e ∈ W, e.2 < P) →
    sm P (fun x => ((W.foldl (fun l e => l.set e.2 (l.getD e.2 0 + cnt.getD e.1 0)) l).getD x 0 : Int) * t x) = sm P (fun x => (l.getD x 0 : Int) * t x) + (W.map fun e => (cnt.getD e.1 0 : Int) * t e.2).sum
  | [], l, _, _ => by simp
  | e :: W, l, hl, hW => by
    rw [List.foldl_cons, fold_weight cnt t P W _ (by rw [List.length_set]; exact hl) fun e' he => hW e' (List.mem_cons_of_mem _ he), List.map_cons, List.sum_cons, ← Int.add_assoc]
    congr 1
    have h2 := hW e List.mem_cons_self
    have : ∀ n, sm n (fun x => ((l.set e.2 (l.getD e.2 0 + cnt.getD e.1 0)).getD x 0 : Int) * t x) = sm n (fun x => (l.getD x 0 : Int) * t x) + if e.2 < n then (cnt.getD e.1 0 : Int) * t e.2 else 0 := by
      intro n
      induction n with
      | zero => simp [sm]
      | succ n ih =>
        rw [sm, sm, ih]
        have hx : ((l.set e.2 (l.getD e.2 0 + cnt.getD e.1 0)).getD n 0 : Nat) = if e.2 = n then l.getD e.2 0 + cnt.getD e.1 0 else l.getD n 0 := by
          rw [List.getD_eq_getElem?_getD, List.getElem?_set]
          by_cases z : e.2 = n
          · rw [if_pos z, if_pos z, if_pos (by omega)]; rfl
          · rw [if_neg z, if_neg z, ← List.getD_eq_getElem?_getD]
        rw [hx]
        by_cases z : e.2 = n
        · subst z
          rw [if_pos rfl, if_neg (Nat.lt_irrefl _), if_pos (by omega), Int.natCast_add, Int.add_mul]; omega
        · rw [if_neg z]
          by_cases q : e.2 < n
          · rw [if_pos q, if_pos (by omega)]; omega
          · rw [if_neg q, if_neg (by omega)]; omega
    rw [this P, if_pos h2]
theorem step_weight (r : Rl) (h k : Nat) (cnt : List Nat) (ks : List Nat) : sm (2 ^ (h + 2) * 2 ^ (h + 2)) (fun x => ((cntStep (2 ^ (h + 2) * 2 ^ (h + 2)) (ways r h k) cnt).getD x 0 : Int) * waysN r h ks x) = sm (2 ^ (h + 2) * 2 ^ (h + 2)) fun a => (cnt.getD a 0 : Int) * waysN r h (k :: ks) a := by
  unfold cntStep
  rw [fold_weight cnt (waysN r h ks) _ _ _ List.length_replicate fun e he => (way_lt he).2]
  have z0 : sm (2 ^ (h + 2) * 2 ^ (h + 2)) (fun x => (((List.replicate (2 ^ (h + 2) * 2 ^ (h + 2)) (0 : Nat)).getD x 0 : Nat) : Int) * waysN r h ks x) = 0 := by
    rw [sm_congr _ (g := fun _ => 0), sm_zero]
    intro x hx
    rw [List.getD_eq_getElem?_getD, List.getElem?_replicate, if_pos hx]
    simp
  rw [z0, Int.zero_add]
  unfold ways wayTo
  rw [List.map_map, ents_sum]
  refine sm_congr _ fun a _ => ?_
  rw [waysN_cons, ← sm_mul]
  refine sm_congr _ fun y _ => ?_
  by_cases z : latE r h (a, y) = k
  · rw [if_pos (decide_eq_true z), if_pos z]; rfl
  · rw [if_neg (by rw [decide_eq_false z]; decide), if_neg z, Int.mul_zero]
/-- the wider pictures, by their numbers -/
def fitsN (r : Rl) (h : Nat) (cols : List Nat) (n : Nat) : Bool := folN r h cols (n / (2 ^ (h + 2)) ^ cols.length) (n % (2 ^ (h + 2)) ^ cols.length)
theorem all_weight (r : Rl) (h : Nat) : ∀ (cols cnt : List Nat), cnt.length = 2 ^ (h + 2) * 2 ^ (h + 2) → ((cols.foldl (fun cnt k => cntStep (2 ^ (h + 2) * 2 ^ (h + 2)) (ways r h k) cnt) cnt).sum : Int) = sm (2 ^ (h + 2) * 2 ^ (h + 2)) fun a => (cnt.getD a 0 : Int) * waysN r h cols a
  | [], cnt, hl => by
    rw [List.foldl_nil, sm_list, hl]
    refine sm_congr _ fun a _ => ?_
    simp [waysN, folN, sm]
  | k :: cols, cnt, hl => by
    rw [List.foldl_cons, all_weight r h cols _ (by unfold cntStep; rw [cntFold_len, List.length_replicate]), step_weight]
theorem count_all (r : Rl) (h : Nat) (cols : List Nat) : ((cntAll r h cols).sum : Int) = sm ((2 ^ (h + 2)) ^ (cols.length + 2)) fun n => if fitsN r h cols n = true then 1 else 0 := by
  unfold cntAll
  rw [all_weight r h cols _ List.length_replicate]
  rw [show (2 ^ (h + 2)) ^ (cols.length + 2) = (2 ^ (h + 2)) ^ cols.length * (2 ^ (h + 2) * 2 ^ (h + 2)) by rw [Nat.pow_add, Nat.pow_two], sm_split _ ((2 ^ (h + 2)) ^ cols.length) (2 ^ (h + 2) * 2 ^ (h + 2))]
  refine sm_congr _ fun a ha => ?_
  rw [List.getD_eq_getElem?_getD, List.getElem?_replicate, if_pos ha]
  rw [show ((some 1).getD 0 : Nat) = 1 from rfl, Int.natCast_one, Int.one_mul]
  unfold waysN
  refine sm_congr _ fun m hm => ?_
  have hp : 0 < (2 ^ (h + 2)) ^ cols.length := Nat.pow_pos (Nat.two_pow_pos _)
  unfold fitsN
  rw [Nat.add_mul_div_right _ _ hp, Nat.div_eq_of_lt hm, Nat.zero_add, Nat.add_mul_mod_self_right, Nat.mod_eq_of_lt hm]
/-! ### the least wider picture -/
theorem set_getD (l : List Bool) (i a : Nat) : (l.set i true).getD a false = (decide (i = a ∧ a < l.length) || l.getD a false) := by
  rw [List.getD_eq_getElem?_getD, List.getElem?_set, List.getD_eq_getElem?_getD]
  by_cases z : i = a
  · subst z
    rw [if_pos rfl]
    by_cases q : i < l.length
    · rw [if_pos q, decide_eq_true ⟨rfl, q⟩]; rfl
    · rw [if_neg q, decide_eq_false fun w => q w.2, List.getElem?_eq_none (by omega)]; rfl
  · rw [if_neg z, decide_eq_false fun w => z w.1]; rfl
theorem fitPart_mem {P : Nat} {W : List (Nat × Nat)} {rest : List Bool} {a x : Nat} (ha : a < P) (hr : rest.getD x false = true) : ∀ {j : Nat}, j ≤ W.length → (a, x) ∈ W.take j → (fitPart P W rest j).getD a false = true := by
  intro j
  induction j with
  | zero => intro _ hm; rw [List.take_zero] at hm; exact absurd hm List.not_mem_nil
  | succ j ih =>
    intro hj hm
    have he := List.getElem?_eq_getElem (l := W) (i := j) (by omega)
    rw [fitPart_succ rest he]
    rw [List.take_add_one, he, List.mem_append] at hm
    rcases hm with hm | hm
    · have := ih (by omega) hm
      split
      · rw [set_getD, this, Bool.or_true]
      · exact this
    · have e : (a, x) = W[j] := by simpa using hm
      rw [← e]
      rw [if_pos hr, set_getD, decide_eq_true ⟨rfl, by rw [fitPart_len]; exact ha⟩, Bool.true_or]
theorem pw_pos (S n : Nat) (h : 0 < S) : 0 < S ^ n := Nat.pow_pos h
theorem fitg_of {r : Rl} {h : Nat} : ∀ {ks : List Nat} {pr m : Nat}, pr < 2 ^ (h + 2) * 2 ^ (h + 2) → m < (2 ^ (h + 2)) ^ ks.length → folN r h ks pr m = true → Fitg r h ks pr
  | [], pr, m, hp, _, _ => by
    unfold Fitg hdF fitAll
    rw [List.headD_cons, List.getD_eq_getElem?_getD, List.getElem?_replicate, if_pos hp]
    rfl
  | k :: ks, pr, m, hp, hm, hf => by
    rw [folN, Bool.and_eq_true, decide_eq_true_iff] at hf
    rw [List.length_cons, Nat.pow_succ] at hm
    have hy : m / (2 ^ (h + 2)) ^ ks.length < 2 ^ (h + 2) := Nat.div_lt_of_lt_mul hm
    have hpl := pw_pos (2 ^ (h + 2)) ks.length (Nat.two_pow_pos _)
    have ih := fitg_of (pair_lt (a := pr) hy) (Nat.mod_lt m hpl) hf.2
    have hw : (pr, pr % 2 ^ (h + 2) * 2 ^ (h + 2) + m / (2 ^ (h + 2)) ^ ks.length) ∈ ways r h k := mem_ways.mpr ⟨hp, _, hy, hf.1, rfl⟩
    unfold Fitg hdF
    rw [fitAll, List.headD_cons]
    exact fitPart_mem hp ih (Nat.le_refl _) (by rw [List.take_length]; exact hw)
theorem dg_div {y L v : Nat} (h : v < L) : (y * L + v) / L = y := by
  rw [Nat.add_comm, Nat.add_mul_div_right _ _ (by omega), Nat.div_eq_of_lt h, Nat.zero_add]
theorem dg_mod {y L v : Nat} (h : v < L) : (y * L + v) % L = v := by
  rw [Nat.add_comm, Nat.add_mul_mod_self_right, Nat.mod_eq_of_lt h]
theorem dg_lt {y S L v : Nat} (hy : y < S) (hv : v < L) : y * L + v < L * S := by
  have := Nat.mul_le_mul_right L (show y + 1 ≤ S from hy)
  rw [Nat.add_mul, Nat.one_mul, Nat.mul_comm S L] at this
  omega
theorem dg_split (m L : Nat) : m = m / L * L + m % L := by
  have := Nat.div_add_mod m L
  rw [Nat.mul_comm] at this
  omega
theorem dg_le {y L v m : Nat} (hv : v < L) (h : y < m / L ∨ (y = m / L ∧ v ≤ m % L)) : y * L + v ≤ m := by
  have hs := dg_split m L
  rcases h with h | ⟨h1, h2⟩
  · have := Nat.mul_le_mul_right L (show y + 1 ≤ m / L from h)
    rw [Nat.add_mul, Nat.one_mul] at this
    omega
  · rw [← h1] at hs
    omega
/-- the number of the columns that are led on the least way -/
def valG (r : Rl) (h : Nat) : List Nat → Nat → Nat
  | [], _ => 0
  | k :: ks, pr => nextP r h k ks pr % 2 ^ (h + 2) * (2 ^ (h + 2)) ^ ks.length + valG r h ks (nextP r h k ks pr)
theorem next_way {r : Rl} {h k : Nat} {ks : List Nat} {pr : Nat} (hf : Fitg r h (k :: ks) pr) : latE r h (pr, nextP r h k ks pr % 2 ^ (h + 2)) = k ∧ nextP r h k ks pr = pr % 2 ^ (h + 2) * 2 ^ (h + 2) + nextP r h k ks pr % 2 ^ (h + 2) ∧ nextP r h k ks pr < 2 ^ (h + 2) * 2 ^ (h + 2) ∧ Fitg r h ks (nextP r h k ks pr) := by
  obtain ⟨h1, h2⟩ := nextP_ok hf
  obtain ⟨_, y, hy, hl, he⟩ := mem_ways.mp h1
  have hm : nextP r h k ks pr % 2 ^ (h + 2) = y := by
    rw [he, Nat.add_comm, Nat.add_mul_mod_self_right, Nat.mod_eq_of_lt hy]
  rw [hm]
  exact ⟨hl, he, by rw [he]; exact pair_lt hy, h2⟩
theorem valG_ok {r : Rl} {h : Nat} : ∀ {ks : List Nat} {pr : Nat}, Fitg r h ks pr → folN r h ks pr (valG r h ks pr) = true ∧ valG r h ks pr < (2 ^ (h + 2)) ^ ks.length ∧ ∀ m, pr < 2 ^ (h + 2) * 2 ^ (h + 2) → m < (2 ^ (h + 2)) ^ ks.length → folN r h ks pr m = true → valG r h ks pr ≤ m
  | [], pr, _ => ⟨rfl, by simp [valG], fun m _ _ _ => Nat.zero_le _⟩
  | k :: ks, pr, hf => by
    obtain ⟨hl, he, hb, hg⟩ := next_way hf
    obtain ⟨i1, i2, i3⟩ := valG_ok hg
    have hpl := pw_pos (2 ^ (h + 2)) ks.length (Nat.two_pow_pos _)
    have hy := Nat.mod_lt (nextP r h k ks pr) (Nat.two_pow_pos (h + 2))
    refine ⟨?_, ?_, fun m hp hm hfm => ?_⟩
    · rw [folN, valG, dg_div i2, dg_mod i2, hl, ← he, i1]
      simp
    · rw [valG, List.length_cons, Nat.pow_succ]
      exact dg_lt hy i2
    · rw [folN, Bool.and_eq_true, decide_eq_true_iff] at hfm
      rw [List.length_cons, Nat.pow_succ] at hm
      have hyd : m / (2 ^ (h + 2)) ^ ks.length < 2 ^ (h + 2) := Nat.div_lt_of_lt_mul hm
      have hml := Nat.mod_lt m hpl
      have hw : (pr, pr % 2 ^ (h + 2) * 2 ^ (h + 2) + m / (2 ^ (h + 2)) ^ ks.length) ∈ ways r h k := mem_ways.mpr ⟨hp, _, hyd, hfm.1, rfl⟩
      have hfg := fitg_of (pair_lt (a := pr) hyd) hml hfm.2
      have hle : nextP r h k ks pr ≤ pr % 2 ^ (h + 2) * 2 ^ (h + 2) + m / (2 ^ (h + 2)) ^ ks.length := (leastL_mem (fit_next hf)).2 _ (mem_pickN.mpr ⟨hw, hfg⟩)
      have hle2 : nextP r h k ks pr % 2 ^ (h + 2) ≤ m / (2 ^ (h + 2)) ^ ks.length := by
        rw [he] at hle
        exact Nat.le_of_add_le_add_left hle
      rw [valG]
      refine dg_le i2 ?_
      rcases Nat.lt_or_ge (nextP r h k ks pr % 2 ^ (h + 2)) (m / (2 ^ (h + 2)) ^ ks.length) with z | z
      · exact .inl z
      · have e : m / (2 ^ (h + 2)) ^ ks.length = nextP r h k ks pr % 2 ^ (h + 2) := Nat.le_antisymm z hle2
        rw [e, ← he] at hfm
        exact .inr ⟨e.symm, i3 _ hb hml hfm.2⟩
/-- the digits of a number, the greatest first -/
def digs (S : Nat) : Nat → Nat → List Nat
  | 0, _ => []
  | n + 1, m => m / S ^ n :: digs S n (m % S ^ n)
theorem digs_len (S : Nat) : ∀ n m, (digs S n m).length = n
  | 0, _ => rfl
  | n + 1, m => by rw [digs, List.length_cons, digs_len]
theorem goL_digs {r : Rl} {h : Nat} : ∀ {ks : List Nat} {pr : Nat}, Fitg r h ks pr → (goL r h pr ks).map (· % 2 ^ (h + 2)) = digs (2 ^ (h + 2)) ks.length (valG r h ks pr)
  | [], _, _ => rfl
  | k :: ks, pr, hf => by
    obtain ⟨_, _, _, hg⟩ := next_way hf
    have i2 := (valG_ok hg).2.1
    have hpl := pw_pos (2 ^ (h + 2)) ks.length (Nat.two_pow_pos _)
    rw [goL, List.map_cons, List.length_cons, digs, valG, dg_div i2, dg_mod i2, goL_digs hg]
theorem leastV_spec (r : Rl) (h : Nat) (cols : List Nat) :
    (leastV r h cols = none ∧ ∀ n, n < (2 ^ (h + 2)) ^ (cols.length + 2) → fitsN r h cols n = false) ∨
    (∃ n0, n0 < (2 ^ (h + 2)) ^ (cols.length + 2) ∧ fitsN r h cols n0 = true ∧ (∀ n, n < n0 → fitsN r h cols n = false) ∧ leastV r h cols = some (digs (2 ^ (h + 2)) (cols.length + 2) n0)) := by
  have hpl := pw_pos (2 ^ (h + 2)) cols.length (Nat.two_pow_pos _)
  have hS := Nat.two_pow_pos (h + 2)
  have hE : (2 ^ (h + 2)) ^ (cols.length + 2) = (2 ^ (h + 2)) ^ cols.length * (2 ^ (h + 2) * 2 ^ (h + 2)) := by rw [Nat.pow_add, Nat.pow_two]
  have hlen := hdF_len r h cols
  have fit_pair : ∀ n, n < (2 ^ (h + 2)) ^ (cols.length + 2) → fitsN r h cols n = true → Fitg r h cols (n / (2 ^ (h + 2)) ^ cols.length) := by
    intro n hn hf
    rw [hE] at hn
    exact fitg_of (Nat.div_lt_of_lt_mul hn) (Nat.mod_lt n hpl) hf
  unfold leastV
  by_cases ht : true ∈ hdF r h cols
  · rw [if_pos ht]
    obtain ⟨f1, f2, f3⟩ := first_true ht
    generalize (hdF r h cols).findIdx id = pr at f1 f2 f3
    have hpr : pr < 2 ^ (h + 2) * 2 ^ (h + 2) := by omega
    have hfg : Fitg r h cols pr := by
      unfold Fitg
      rw [List.getD_eq_getElem?_getD, f2]; rfl
    obtain ⟨v1, v2, v3⟩ := valG_ok hfg
    have hd : (pr * (2 ^ (h + 2)) ^ cols.length + valG r h cols pr) / (2 ^ (h + 2)) ^ cols.length = pr := dg_div v2
    have hm : (pr * (2 ^ (h + 2)) ^ cols.length + valG r h cols pr) % (2 ^ (h + 2)) ^ cols.length = valG r h cols pr := dg_mod v2
    have hlt : pr * (2 ^ (h + 2)) ^ cols.length + valG r h cols pr < (2 ^ (h + 2)) ^ (cols.length + 2) := by
      rw [hE]
      exact dg_lt hpr v2
    refine .inr ⟨pr * (2 ^ (h + 2)) ^ cols.length + valG r h cols pr, hlt, ?_, fun n hn => ?_, ?_⟩
    · unfold fitsN
      rw [hd, hm]
      exact v1
    · refine Bool.eq_false_iff.mpr fun hf => ?_
      have hnl : n < (2 ^ (h + 2)) ^ (cols.length + 2) := Nat.lt_trans hn hlt
      have hg := fit_pair n hnl hf
      have hml := Nat.mod_lt n hpl
      refine absurd hn (Nat.not_lt.mpr (dg_le v2 ?_))
      rcases Nat.lt_trichotomy (n / (2 ^ (h + 2)) ^ cols.length) pr with z | z | z
      · have := f3 _ z
        unfold Fitg at hg
        rw [List.getD_eq_getElem?_getD, this] at hg
        cases hg
      · unfold fitsN at hf
        rw [z] at hf
        exact .inr ⟨z.symm, v3 _ hpr hml hf⟩
      · exact .inl z
    · rw [goL_digs hfg, digs, digs]
      have e1 : (2 ^ (h + 2)) ^ (cols.length + 1) = (2 ^ (h + 2)) ^ cols.length * 2 ^ (h + 2) := Nat.pow_succ ..
      rw [e1, ← Nat.div_div_eq_div_mul, hd]
      rw [Nat.mod_mul_right_div_self, hd, Nat.mod_mul_right_mod, hm]
  · rw [if_neg ht]
    refine .inl ⟨rfl, fun n hn => Bool.eq_false_iff.mpr fun hf => ht ?_⟩
    have hg := fit_pair n hn hf
    unfold Fitg at hg
    rw [List.getD_eq_getElem?_getD] at hg
    cases hx : (hdF r h cols)[n / (2 ^ (h + 2)) ^ cols.length]? with
    | none => rw [hx] at hg; cases hg
    | some b =>
      rw [hx] at hg
      have : b = true := hg
      subst this
      exact List.mem_of_getElem? hx
/-- what a wider picture becomes, column by column -/
def latL (r : Rl) (h : Nat) : List Nat → List Nat
  | a :: b :: c :: l => latN r a b c h :: latL r h (b :: c :: l)
  | _ => []
theorem latL_len (r : Rl) (h : Nat) : ∀ (l : List Nat) (a b : Nat), (latL r h (a :: b :: l)).length = l.length
  | [], _, _ => rfl
  | c :: l, a, b => by rw [latL, List.length_cons, latL_len r h l b c, List.length_cons]
theorem fol_iff {r : Rl} {h : Nat} : ∀ {ks : List Nat} {a b m : Nat}, a < 2 ^ (h + 2) → b < 2 ^ (h + 2) → m < (2 ^ (h + 2)) ^ ks.length → (folN r h ks (a * 2 ^ (h + 2) + b) m = true ↔ latL r h (a :: b :: digs (2 ^ (h + 2)) ks.length m) = ks)
  | [], a, b, m, _, _, _ => by simp [folN, digs, latL]
  | k :: ks, a, b, m, ha, hb, hm => by
    rw [List.length_cons, Nat.pow_succ] at hm
    have hy : m / (2 ^ (h + 2)) ^ ks.length < 2 ^ (h + 2) := Nat.div_lt_of_lt_mul hm
    have hpl := pw_pos (2 ^ (h + 2)) ks.length (Nat.two_pow_pos _)
    have ih := fol_iff (r := r) (ks := ks) hb hy (Nat.mod_lt m hpl)
    have e1 : (a * 2 ^ (h + 2) + b) / 2 ^ (h + 2) = a := dg_div hb
    have e2 : (a * 2 ^ (h + 2) + b) % 2 ^ (h + 2) = b := dg_mod hb
    rw [folN, Bool.and_eq_true, decide_eq_true_iff, e2, ih, List.length_cons, digs, latL, List.cons.injEq]
    unfold latE
    simp only [e1, e2]
theorem fits_iff {r : Rl} {h : Nat} {cols : List Nat} {n : Nat} (hn : n < (2 ^ (h + 2)) ^ (cols.length + 2)) : fitsN r h cols n = true ↔ latL r h (digs (2 ^ (h + 2)) (cols.length + 2) n) = cols := by
  have hpl := pw_pos (2 ^ (h + 2)) cols.length (Nat.two_pow_pos _)
  have hS := Nat.two_pow_pos (h + 2)
  rw [Nat.pow_add, Nat.pow_two] at hn
  have hq : n / (2 ^ (h + 2)) ^ cols.length < 2 ^ (h + 2) * 2 ^ (h + 2) := Nat.div_lt_of_lt_mul hn
  have ha : n / (2 ^ (h + 2)) ^ cols.length / 2 ^ (h + 2) < 2 ^ (h + 2) := Nat.div_lt_of_lt_mul hq
  have hb := Nat.mod_lt (n / (2 ^ (h + 2)) ^ cols.length) hS
  have key := fol_iff (r := r) (ks := cols) ha hb (Nat.mod_lt n hpl)
  rw [← dg_split] at key
  unfold fitsN
  rw [key, digs, digs]
  have e1 : (2 ^ (h + 2)) ^ (cols.length + 1) = (2 ^ (h + 2)) ^ cols.length * 2 ^ (h + 2) := Nat.pow_succ ..
  rw [e1, ← Nat.div_div_eq_div_mul, Nat.mod_mul_right_div_self, Nat.mod_mul_right_mod]
/-! ### a column of bits -/
theorem ones_lt {a n : Nat} (h : a < 2 ^ n) : (MB.ones a).length = ((List.range n).filter fun k => a.testBit k).length := by
  have hp : (MB.ones a).Perm ((List.range n).filter fun k => a.testBit k) := by
    refine (List.perm_ext_iff_of_nodup (MB.ones_nodup a) (List.nodup_range.filter _)).mpr fun k => ?_
    rw [MB.mem_ones, List.mem_filter, List.mem_range]
    refine ⟨fun hk => ⟨?_, hk⟩, fun hk => hk.2⟩
    rcases Nat.lt_or_ge k n with z | z
    · exact z
    · have := Nat.testBit_lt_two_pow (Nat.lt_of_lt_of_le h (Nat.pow_le_pow_right (by decide) z))
      rw [this] at hk; cases hk
  exact hp.length_eq
theorem filt_succ (p : Nat → Bool) (n : Nat) : ((List.range (n + 1)).filter p).length = ((List.range n).filter p).length + (p n).toNat := by
  rw [List.range_succ, List.filter_append, List.length_append]
  congr 1
  cases h : p n <;> simp [h]
/-- three bits of a column around a row -/
def triB (l i : Nat) : Nat := (l.testBit i).toNat + (l.testBit (i + 1)).toNat + (l.testBit (i + 2)).toNat
theorem and7_bit (x k : Nat) : (x &&& 7).testBit k = (x.testBit k && decide (k < 3)) := by
  rw [Nat.testBit_and]
  congr 1
  rcases Nat.lt_or_ge k 3 with z | z
  · rw [decide_eq_true z]
    match k, z with
    | 0, _ => rfl
    | 1, _ => rfl
    | 2, _ => rfl
  · rw [decide_eq_false (by omega)]
    exact Nat.testBit_lt_two_pow (Nat.lt_of_lt_of_le (by decide : 7 < 2 ^ 3) (Nat.pow_le_pow_right (by decide) z))
theorem arN_bit (l m q i k : Nat) : (arN l m q i).testBit k = ((decide (6 ≤ k) && (l.testBit (i + (k - 6)) && decide (k - 6 < 3))) || (decide (3 ≤ k) && (m.testBit (i + (k - 3)) && decide (k - 3 < 3))) || (q.testBit (i + k) && decide (k < 3))) := by
  unfold arN
  rw [Nat.testBit_or, Nat.testBit_or, Nat.testBit_shiftLeft, Nat.testBit_shiftLeft, and7_bit, and7_bit, and7_bit, Nat.testBit_shiftRight, Nat.testBit_shiftRight, Nat.testBit_shiftRight]
theorem arN_ones (l m q i : Nat) : (MB.ones (arN l m q i)).length = triB l i + triB m i + triB q i := by
  rw [ones_lt (n := 9) (arN_lt l m q i)]
  rw [filt_succ, filt_succ, filt_succ, filt_succ, filt_succ, filt_succ, filt_succ, filt_succ, filt_succ]
  simp only [arN_bit]
  simp
  unfold triB
  omega
theorem arN_mid (l m q i : Nat) : (arN l m q i).testBit 4 = m.testBit (i + 1) := by
  rw [arN_bit]; simp
theorem lat_bit (r : Rl) (l m q : Nat) : ∀ h i, (latN r l m q h).testBit i = (decide (i < h) && decide (lcF r (arN l m q i) = 1))
  | 0, i => by rw [latN]; simp
  | h + 1, i => by
    have hle := lcF_le r (arN l m q h)
    rw [latN, Nat.testBit_or, lat_bit r l m q h i, Nat.testBit_shiftLeft]
    rcases Nat.lt_trichotomy i h with z | z | z
    · rw [decide_eq_true z, decide_eq_true (show i < h + 1 by omega), decide_eq_false (show ¬ h ≤ i by omega)]; simp
    · subst z
      rw [decide_eq_false (Nat.lt_irrefl i), decide_eq_true (show i < i + 1 by omega), decide_eq_true (Nat.le_refl i), Nat.sub_self]
      have : lcF r (arN l m q i) = 0 ∨ lcF r (arN l m q i) = 1 := by omega
      rcases this with e | e <;> rw [e] <;> rfl
    · rw [decide_eq_false (show ¬ i < h by omega), decide_eq_false (show ¬ i < h + 1 by omega), decide_eq_true (show h ≤ i by omega)]
      have : (lcF r (arN l m q h)).testBit (i - h) = false := Nat.testBit_lt_two_pow (Nat.lt_of_le_of_lt hle (Nat.one_lt_two_pow (by omega)))
      rw [this]; rfl
theorem bitsV_cons (v h : Nat) : bitsV v (h + 1) = (v.testBit h).toNat :: bitsV v h := by
  refine List.ext_getElem? fun i => ?_
  have hl := bitsV_len v (h + 1)
  have hl2 := bitsV_len v h
  rcases Nat.lt_or_ge i (h + 1) with hi | hi
  · rw [bitsV_at v (h + 1) i hi]
    cases i with
    | zero => simp
    | succ i => rw [List.getElem?_cons_succ, bitsV_at v h i (by omega)]; congr 2; congr 1; omega
  · rw [List.getElem?_eq_none (by omega), List.getElem?_eq_none (by rw [List.length_cons]; omega)]
theorem bitsV_colV {h : Nat} {c : List Nat} (hc : ColOk h c) : bitsV (colV c) h = c := by
  have key : ∀ c : List Nat, (∀ k ∈ c, k ≤ 1) → bitsV (colV c) c.length = c := fun c hb => by
    induction c using snoc_ind with
    | h0 => rfl
    | h1 c k ih =>
      have h1 := ih fun k hk => hb k (List.mem_append_left _ hk)
      have h2 := hb k (by simp)
      rw [colV_snoc, or_bit h2]
      refine List.ext_getElem? fun i => ?_
      rw [List.length_append, List.length_singleton]
      rcases Nat.lt_or_ge i (c.length + 1) with hi | hi
      · rw [bitsV_at _ _ _ hi]
        rcases Nat.lt_or_ge i c.length with q | q
        · have h3 := bitsV_at (colV c) c.length i q
          rw [h1] at h3
          rw [List.getElem?_append_left q, h3, show c.length + 1 - 1 - i = (c.length - 1 - i) + 1 by omega, Nat.testBit_succ]
          congr 3
          omega
        · have : i = c.length := by omega
          subst this
          rw [List.getElem?_append_right (Nat.le_refl _), Nat.sub_self, show c.length + 1 - 1 - c.length = 0 by omega, Nat.testBit_zero]
          have : k = 0 ∨ k = 1 := by omega
          rcases this with rfl | rfl
          · rw [show (2 * colV c + 0) % 2 = 0 by omega]; rfl
          · rw [show (2 * colV c + 1) % 2 = 1 by omega]; rfl
      · rw [List.getElem?_eq_none (by rw [bitsV_len]; omega), List.getElem?_eq_none (by rw [List.length_append, List.length_singleton]; omega)]
  have := key c hc.bit
  rw [hc.len] at this
  exact this
theorem colV_bitsV {v h : Nat} (hv : v < 2 ^ h) : colV (bitsV v h) = v := by
  have ok := bitsV_ok v h
  have h1 := bitsV_colV ok
  have h2 := colV_lt ok
  refine Nat.eq_of_testBit_eq fun i => ?_
  rcases Nat.lt_or_ge i h with q | q
  · have e1 := bitsV_at v h (h - 1 - i) (by omega)
    have e2 := bitsV_at (colV (bitsV v h)) h (h - 1 - i) (by omega)
    rw [h1, e1] at e2
    rw [show h - 1 - (h - 1 - i) = i by omega] at e2
    have := Option.some.inj e2
    cases a : v.testBit i <;> cases b : (colV (bitsV v h)).testBit i <;> simp_all
  · rw [Nat.testBit_lt_two_pow (Nat.lt_of_lt_of_le h2 (Nat.pow_le_pow_right (by decide) q)), Nat.testBit_lt_two_pow (Nat.lt_of_lt_of_le hv (Nat.pow_le_pow_right (by decide) q))]
/-- a picture by its columns' numbers -/
abbrev picV (xs : List Nat) (h : Nat) : PyData := .tuple (xs.map fun v => natsD (bitsV v h))
theorem picV_cols {h : Nat} {xs : List Nat} (hx : ∀ v ∈ xs, v < 2 ^ h) : (xs.map fun v => bitsV v h).map colV = xs := by
  rw [List.map_map]
  refine (List.map_congr_left fun v hv => ?_).trans (List.map_id xs)
  exact colV_bitsV (hx v hv)
theorem picV_ok {h : Nat} {xs : List Nat} (h1 : 1 ≤ h) (h3 : h ≤ 3) (hne : xs ≠ []) (hl : xs.length ≤ 30) : PicOk h (xs.map fun v => bitsV v h) :=
  ⟨h1, h3, by intro e; exact hne (List.map_eq_nil_iff.mp e), by rw [List.length_map]; exact hl, fun c hc => by obtain ⟨v, _, rfl⟩ := List.mem_map.mp hc; exact bitsV_ok v h⟩
theorem latL_lt (r : Rl) (h : Nat) : ∀ (xs : List Nat) (k : Nat), k ∈ latL r h xs → k < 2 ^ h
  | [], k, hk => absurd hk List.not_mem_nil
  | [_], k, hk => absurd hk List.not_mem_nil
  | [_, _], k, hk => absurd hk List.not_mem_nil
  | a :: b :: c :: l, k, hk => by
    rw [latL, List.mem_cons] at hk
    rcases hk with rfl | hk
    · exact latN_lt ..
    · exact latL_lt r h (b :: c :: l) k hk
theorem latL_at (r : Rl) (h : Nat) : ∀ (xs : List Nat) (i : Nat), i + 2 < xs.length → (latL r h xs)[i]? = some (latN r (xs.getD i 0) (xs.getD (i + 1) 0) (xs.getD (i + 2) 0) h)
  | [], i, hi => absurd hi (by simp)
  | [_], i, hi => absurd hi (by simp)
  | [_, _], i, hi => absurd hi (by simp)
  | a :: b :: c :: l, 0, _ => rfl
  | a :: b :: c :: l, i + 1, hi => by
    rw [latL, List.getElem?_cons_succ, latL_at r h (b :: c :: l) i (by simpa using hi)]
    rfl
/-! ### drawn pictures -/
def R_somePic (xs ds : List PyData) (F : DOut → List PyData → Prop) : Prop := ∃ (t : RowS) (w h : Nat), xs = t.d ∧ ds = [.int (w : Int), .int (h : Int)] ∧ w ≤ 30 ∧ h ≤ 10 ∧ ∀ (ks : List Nat) (t' : RowS), ks.length = w → (∀ k ∈ ks, k < 2 ^ h) → F (.ok (picV ks h)) t'.d
theorem ok_law_some_picture {P : Program} {w : World} {K : Fg} {mg : Str → Option Value} {base : Heap} {f : Addr} {fd : FuncData} (F : Fun K "_law_some_picture" "_law_some_picture" s_law_some_picture f fd)
    (m_tuple : mg "tuple" = none)
    (m_range : mg "range" = none)
    (c__law_taken : Cal P w K mg base 1 "_law_taken" (spC K 1 R_taken)) :
    FnOk P w K mg base (L2.CX P w) 2 f fd ["row", "wide", "high"] (spC K 2 R_somePic) := by
  refine F.okX sc_law_some_picture (fun vs H Q E h => len_C h) (fun cdv A outer s H vs Q E hr h => ⟨_, (pss_one (ps_ret (pe_callTy call_tuple_of (by rfl) m_tuple bt_tuple (pa_cons (pe_lc (own := [("x", 4)]) rfl sc_law_some_picture.nd (pi_range1 (by rfl) m_range (pa_cons (pv 1) pa_nil)) (blkOk_by (N := N_law_some_picture) (sc := defScope s_law_some_picture) (by decide +kernel)) (fun _ _ _ _ _ => (pg_name (i := 4) sc_law_some_picture.nd rfl (by first | exact Or.inl rfl | exact Or.inr rfl))) (fun _ _ _ _ _ => pts_nil) (fun _ _ _ _ _ => (pe_callTy (show CallR _ (.type "tuple") (rTupOf K) from call_tuple_of) (by rfl) m_tuple bt_tuple (pa_cons (show PE _ _ (tLc _ _ _ _ [3]) from (pe_lc (own := [("y", 3)]) rfl sc_law_some_picture.nd (pi_range1 (by rfl) m_range (pa_cons (pv 2) pa_nil)) (blkOk_in (N := N_law_some_picture) (by decide +kernel)) (fun _ _ _ _ _ => (pg_name (i := 3) sc_law_some_picture.nd rfl (by first | exact Or.inl rfl | exact Or.inr rfl))) (fun _ _ _ _ _ => pts_nil) (fun _ _ _ _ _ => (pe_cl c__law_taken hr (show 1 ≤ 1 by decide) passL (pa_cons (pv 0) (pa_cons pe_int pa_nil)))))) pa_nil)))) pa_nil)))),
    fn_C h fun p xs ds F hk hR => ?_⟩)
  try dsimp only [L2.cxOf]
  obtain ⟨t, w, h, rfl, rfl, hw, hh, hF⟩ := hR
  have hsz : (sizeLine : Nat) = 16777216 := sizeLine_eq
  walk_at "zq"
  refine ⟨by omega, by omega, fun i acc M' => ∃ (t : RowS) (P : List (List Nat)), acc = P.map natsD ∧ M' = [(p, false, .lst t.d)] ∧ P.length = i ∧ ∀ c ∈ P, ColOk h c, ⟨t, [], rfl, rfl, rfl, by simp⟩, ?_, ?_⟩
  · rintro i hi acc M2 D ⟨t, P, rfl, rfl, hl, hP⟩
    refine ⟨_, _, ?_, zg_name, ?_⟩
    · simp
    · walk_at "zq"
      refine ⟨by omega, by omega, fun j acc M' => ∃ (t : RowS) (c : List Nat), acc = (c.map fun (k : Nat) => .int (k : Int)) ∧ M' = [(D, true, .lst (P.map natsD)), (p, false, .lst t.d)] ∧ c.length = j ∧ ∀ k ∈ c, k ≤ 1, ⟨t, [], rfl, rfl, rfl, by simp⟩, ?_, ?_⟩
      · rintro j hj acc M2 D2 ⟨t, c, rfl, rfl, hcl, hc⟩
        refine ⟨_, _, ?_, zg_name, ?_⟩
        · simp
        · walk_at "zq"
          refine ⟨p, _, _, _, _, rfl, m1 (m1 m0), allD_cons allD_nil, rfl, ⟨t, 2, rfl, rfl, by decide, by decide, fun u t2 h0 hu => ⟨_, _, rfl, .there (.there .here), ?_⟩⟩⟩
          obtain ⟨k, rfl⟩ : ∃ k : Nat, u = (k : Int) := ⟨u.toNat, by omega⟩
          refine ⟨_, _, rfl, rfl, t2, c ++ [k], by simp, rfl, by simp [hcl], fun k' hk' => ?_⟩
          rcases List.mem_append.mp hk' with z | z
          · exact hc k' z
          · have : k' = k := by simpa using z
            omega
      · rintro acc M' ⟨t, c, rfl, rfl, hcl, hc⟩
        walk_at "zq"
        refine zc_tupL ?_
        refine ⟨_, _, rfl, rfl, t, P ++ [c], by simp, rfl, by simp [hl], fun c' hc' => ?_⟩
        rcases List.mem_append.mp hc' with z | z
        · exact hP c' z
        · have : c' = c := by simpa using z
          rw [this]
          exact ⟨by omega, hc⟩
  · rintro acc M' ⟨t', P, rfl, rfl, hl, hP⟩
    walk_at "zq"
    refine zc_tupL ?_
    have e : P.map natsD = (P.map colV).map fun v => natsD (bitsV v h) := by
      rw [List.map_map]
      refine List.map_congr_left fun c hc => ?_
      show _ = natsD (bitsV (colV c) h)
      rw [bitsV_colV (hP c hc)]
    rw [e]
    refine ⟨_, _, rfl, hF (P.map colV) t' (by rw [List.length_map, hl]; omega) (fun k hk => ?_), m0⟩
    obtain ⟨c, hc, rfl⟩ := List.mem_map.mp hk
    exact colV_lt (hP c hc)
/-! ### what a picture becomes, by the law -/
/-- the cell of a picture's column a, row b, of h rows -/
def cellP (xs : List Nat) (h : Nat) (a b : Nat) : Nat := ((xs.getD a 0).testBit (h - 1 - b)).toNat
def kvP (xs : List Nat) (h : Nat) (e : Nat × Nat) : List Key × PyData := (keyI [(e.1 : Int), (e.2 : Int)], .int (cellP xs h e.1 e.2 : Int))
def kvsP (xs : List Nat) (h i j : Nat) : List (List Key × PyData) := (entsTo h i j).map (kvP xs h)
theorem keyP_inj {a b c d : Nat} (h : keyI [(a : Int), (b : Int)] = keyI [(c : Int), (d : Int)]) : a = c ∧ b = d := by
  unfold keyI at h
  simp only [List.map_cons, List.map_nil, List.cons.injEq, Sum.inl.injEq] at h
  omega
theorem kvsP_cell (xs : List Nat) (h i j : Nat) (hj : j < h) : kvsP xs h i (j + 1) = putP (kvsP xs h i j) (keyI [(i : Int), (j : Int)]) (.int (cellP xs h i j : Int)) := by
  unfold putP
  rw [if_neg]
  · unfold kvsP
    rw [entsTo_cell, List.map_append]
    rfl
  · intro z
    obtain ⟨kv, h1, h2⟩ := List.any_eq_true.mp z
    unfold kvsP at h1
    obtain ⟨e, he, rfl⟩ := List.mem_map.mp h1
    obtain ⟨q1, q2⟩ := keyP_inj (of_decide_eq_true h2)
    unfold entsTo at he
    rcases List.mem_append.mp he with he | he
    · obtain ⟨a, ha, hb⟩ := List.mem_flatMap.mp he
      obtain ⟨c, _, rfl⟩ := List.mem_map.mp hb
      have := List.mem_range.mp ha
      dsimp only at q1
      omega
    · obtain ⟨c, hc, rfl⟩ := List.mem_map.mp he
      have := List.mem_range.mp hc
      dsimp only at q2
      omega
theorem kvsP_row (xs : List Nat) (h i : Nat) : kvsP xs h i h = kvsP xs h (i + 1) 0 := by
  unfold kvsP
  rw [entsTo_row]
theorem kvsP_len (xs : List Nat) (h i j : Nat) : (kvsP xs h i j).length = i * h + j := by
  unfold kvsP
  rw [List.length_map, entsTo_len]
theorem find_kv (xs : List Nat) (h a b : Nat) : ∀ l : List (Nat × Nat), (a, b) ∈ l → ((l.map (kvP xs h)).find? fun kv => decide (kv.1 = keyI [(a : Int), (b : Int)])) = some (kvP xs h (a, b))
  | [], hm => absurd hm List.not_mem_nil
  | e :: l, hm => by
    rw [List.map_cons, List.find?_cons]
    by_cases z : (kvP xs h e).1 = keyI [(a : Int), (b : Int)]
    · rw [decide_eq_true z]
      obtain ⟨q1, q2⟩ := keyP_inj z
      have : e = (a, b) := Prod.ext q1 q2
      rw [this]
    · rw [decide_eq_false z]
      rcases List.mem_cons.mp hm with q | q
      · exact absurd (by rw [← q]; rfl) z
      · exact find_kv xs h a b l q
theorem kvsP_held {xs : List Nat} {h a b : Nat} (ha : a < xs.length) (hb : b < h) : heldP (kvsP xs h xs.length 0) (keyI [(a : Int), (b : Int)]) = some (.int (cellP xs h a b : Int)) := by
  unfold heldP kvsP
  rw [find_kv xs h a b _ (mem_ents.mpr ⟨ha, hb⟩)]
  rfl
/-- how many around a cell are living -/
def nearP (xs : List Nat) (h a b : Nat) : Nat := cellP xs h (a - 1) (b - 1) + cellP xs h (a - 1) b + cellP xs h (a - 1) (b + 1) + cellP xs h a (b - 1) + cellP xs h a (b + 1) + cellP xs h (a + 1) (b - 1) + cellP xs h (a + 1) b + cellP xs h (a + 1) (b + 1)
theorem toNat_le (b : Bool) : b.toNat ≤ 1 := by cases b <;> decide
theorem after_bit (r : Rl) (xs : List Nat) (h i j : Nat) (hj : j < h) : ((latN r (xs.getD i 0) (xs.getD (i + 1) 0) (xs.getD (i + 2) 0) h).testBit (h - 1 - j)).toNat = if nearP xs (h + 2) (i + 1) (j + 1) ∈ (if cellP xs (h + 2) (i + 1) (j + 1) = 1 then r.s else r.b) then 1 else 0 := by
  rw [lat_bit, decide_eq_true (show h - 1 - j < h by omega), Bool.true_and]
  unfold lcF
  rw [arN_ones, arN_mid]
  unfold triB nearP cellP
  rw [show i + 1 - 1 = i by omega, show i + 1 + 1 = i + 2 by omega, show h + 2 - 1 - (j + 1 - 1) = h - 1 - j + 2 by omega, show h + 2 - 1 - (j + 1) = h - 1 - j + 1 by omega, show h + 2 - 1 - (j + 1 + 1) = h - 1 - j by omega]
  generalize h - 1 - j = q
  have hc : ((xs.getD (i + 1) 0).testBit (q + 1)).toNat ≤ 1 := toNat_le _
  rw [show ∀ A B C D E F G H m : Nat, A + B + C + (D + m + E) + (F + G + H) - m = C + B + A + E + D + H + G + F by intros; omega]
  cases (xs.getD (i + 1) 0).testBit (q + 1) with
  | true =>
    simp only [if_true, Bool.toNat_true]
    split <;> simp_all
  | false =>
    simp only [Bool.false_eq_true, if_false, Bool.toNat_false, show ¬ (0 = 1) by decide]
    split <;> simp_all
theorem ar_near {a b : Nat} (ha : 1 ≤ a) (hb : 1 ≤ b) {o : Int × Int} (ho : o ∈ arP (a : Int) (b : Int)) : 0 ≤ o.1 ∧ o.1 ≤ (a : Int) + 1 ∧ 0 ≤ o.2 ∧ o.2 ≤ (b : Int) + 1 := by
  simp only [arP, List.mem_cons, List.not_mem_nil, or_false] at ho
  rcases ho with rfl | rfl | rfl | rfl | rfl | rfl | rfl | rfl <;> (dsimp only; omega)
theorem near_list (xs : List Nat) (h : Nat) (l : List (Int × Int)) : (l.map fun p => PyData.int (cellP xs h p.1.toNat p.2.toNat : Int)) = (l.map fun p => ((cellP xs h p.1.toNat p.2.toNat : Nat) : Int)).map .int := by rw [List.map_map]; rfl
theorem near_sum (xs : List Nat) (h : Nat) {a b : Nat} (ha : 1 ≤ a) (hb : 1 ≤ b) : ((arP (a : Int) (b : Int)).map fun p => ((cellP xs h p.1.toNat p.2.toNat : Nat) : Int)).sum = (nearP xs h a b : Int) := by
  unfold arP nearP
  simp only [List.map_cons, List.map_nil, List.sum_cons, List.sum_nil]
  rw [show ((a : Int) - 1).toNat = a - 1 by omega, show ((b : Int) - 1).toNat = b - 1 by omega, show ((a : Int) + 1).toNat = a + 1 by omega, show ((b : Int) + 1).toNat = b + 1 by omega, Int.toNat_natCast, Int.toNat_natCast]
  omega
theorem latL_few (r : Rl) (h : Nat) (xs : List Nat) (n : Nat) (hl : xs.length = n + 2) : (latL r h xs).length ≤ n := by
  match xs, hl with
  | a :: b :: l, hl => rw [latL_len]; simp at hl; omega
theorem dec_int (p : Prop) [Decidable p] : ((if p then 1 else 0 : Nat) : Int) = if decide p = true then 1 else 0 := by
  by_cases h : p
  · rw [if_pos h, decide_eq_true h]; rfl
  · rw [if_neg h, decide_eq_false h]; rfl
def R_picAfter (ds : List PyData) (o : DOut) : Prop := ∃ (r : Rl) (xs : List Nat) (h n : Nat), ds = [r.d, picV xs (h + 2)] ∧ xs.length = n + 2 ∧ n ≤ 20 ∧ 1 ≤ n ∧ h ≤ 5 ∧ o = .ok (picV (latL r h xs) h)
theorem ok_law_picture_after {P : Program} {w : World} {K : Fg} {mg : Str → Option Value} {base : Heap} {f : Addr} {fd : FuncData} (F : Fun K "_law_picture_after" "_law_picture_after" s_law_picture_after f fd)
    (m_range : mg "range" = none)
    (m_len : mg "len" = none)
    (m_sum : mg "sum" = none)
    (m_int : mg "int" = none)
    (m_tuple : mg "tuple" = none)
    (c__law_around : Cal P w K mg base 1 "_law_around" (spD K 1 R_laround)) :
    FnOk P w K mg base (L2.CX P w) 2 f fd ["rule", "picture"] (spD K 2 R_picAfter) := by
  refine F.okX sc_law_picture_after (fun vs H Q E h => len_D h) (fun cdv A outer s H vs Q E hr h => ⟨_, (pss_cons (ps_asg (pe_tup (pa_cons pe_dnewT (pa_cons (pe_lst pa_nil) pa_nil))) (pg_tup rfl (pgs_cons (pg_name (i := 2) sc_law_picture_after.nd rfl (by first | exact Or.inl rfl | exact Or.inr rfl)) (pgs_cons (pg_name (i := 3) sc_law_picture_after.nd rfl (by first | exact Or.inl rfl | exact Or.inr rfl)) pgs_nil))))
      (pss_cons (ps_for (passes_of rfl) rfl (pi_range1 (by rfl) m_range (pa_cons (pe_callB call_len (by rfl) m_len bb_len (pa_cons (pv 1) pa_nil)) pa_nil)) (pg_name (i := 4) sc_law_picture_after.nd rfl (by first | exact Or.inl rfl | exact Or.inr rfl)) (pss_one (ps_for (passes_of rfl) rfl (pi_range1 (by rfl) m_range (pa_cons (pe_callB call_len (by rfl) m_len bb_len (pa_cons (pe_ix ix_seq (pv 1) pe_int (fun _ _ => rfl)) pa_nil)) pa_nil)) (pg_name (i := 5) sc_law_picture_after.nd rfl (by first | exact Or.inl rfl | exact Or.inr rfl)) (pss_one (ps_dput (hu_of hr) (pv 2) (pe_tup (pa_cons (pv 4) (pa_cons (pv 5) pa_nil))) (pe_ix ix_seq (pe_ix ix_seq (pv 1) (pv 4) (fun _ _ => rfl)) (pv 5) (fun _ _ => rfl)) rfl)))))
      (pss_cons (ps_for (passes_of rfl) rfl (pi_range2 (by rfl) m_range (pa_cons pe_int (pa_cons (pe_op op_sub (pe_callB call_len (by rfl) m_len bb_len (pa_cons (pv 1) pa_nil)) pe_int) pa_nil))) (pg_name (i := 4) sc_law_picture_after.nd rfl (by first | exact Or.inl rfl | exact Or.inr rfl)) (pss_cons (ps_set (i := 6) sc_law_picture_after.nd rfl (by first | exact Or.inl rfl | exact Or.inr rfl) (pe_lst pa_nil))
      (pss_cons (ps_for (passes_of rfl) rfl (pi_range2 (by rfl) m_range (pa_cons pe_int (pa_cons (pe_op op_sub (pe_callB call_len (by rfl) m_len bb_len (pa_cons (pe_ix ix_seq (pv 1) pe_int (fun _ _ => rfl)) pa_nil)) pe_int) pa_nil))) (pg_name (i := 5) sc_law_picture_after.nd rfl (by first | exact Or.inl rfl | exact Or.inr rfl)) (pss_cons (ps_set (i := 7) sc_law_picture_after.nd rfl (by first | exact Or.inl rfl | exact Or.inr rfl) (pe_callB (cr_sum rfl) (by rfl) m_sum bb_sum (pa_cons (pe_lc (own := [("place", 8)]) rfl sc_law_picture_after.nd (pi_list (pe_cl c__law_around hr (show 1 ≤ 1 by decide) passL (pa_cons (pe_tup (pa_cons (pv 4) (pa_cons (pv 5) pa_nil))) pa_nil))) (blkOk_by (N := N_law_picture_after) (sc := defScope s_law_picture_after) (by decide +kernel)) (fun _ _ _ _ _ => (pg_name (i := 8) sc_law_picture_after.nd rfl (by first | exact Or.inl rfl | exact Or.inr rfl))) (fun _ _ _ _ _ => pts_nil) (fun _ _ _ _ _ => (pe_dget (hu_of hr) (pv 2) (pv 8) (fun _ _ => rfl)))) pa_nil)))
      (pss_one (ps_expr (pe_bm PySem.F.plainAttrs_list PySem.F.slot_list_append PySem.F.type_list_append mt_append (pv 6) (pa_cons (pe_callTy (call_int1.or call_int_str) (by rfl) m_int bt_int (pa_cons (pe_cmpR op_in_seq (pv 7) (pe_ifExp (pt_cmpR (op_eqA hr.units) (pe_dget (hu_of hr) (pv 2) (pe_tup (pa_cons (pv 4) (pa_cons (pv 5) pa_nil))) (fun _ _ => rfl)) pe_int (nomark _)) (pe_ix ix_seq (pv 0) pe_int (fun _ _ => rfl)) (pe_ix ix_seq (pv 0) pe_int (fun _ _ => rfl))) (by rfl)) pa_nil)) pa_nil))))))
      (pss_one (ps_expr (pe_bm PySem.F.plainAttrs_list PySem.F.slot_list_append PySem.F.type_list_append mt_append (pv 3) (pa_cons (pe_callTy call_tuple_of (by rfl) m_tuple bt_tuple (pa_cons (pv 6) pa_nil)) pa_nil)))))))
      (pss_one (ps_ret (pe_callTy call_tuple_of (by rfl) m_tuple bt_tuple (pa_cons (pv 3) pa_nil))))))),
    fn_D h fun ds o hk hR => ?_⟩)
  try dsimp only [L2.cxOf]
  obtain ⟨r, xs, h, n, rfl, hl, hn, hn1, hh, rfl⟩ := hR
  have hsz : (sizeLine : Nat) = 16777216 := sizeLine_eq
  refine zs_seq (zs_asgT2 rfl ?_)
  walk_at "zq"
  intro qc
  walk_at "zq"
  refine zw_lstC ?_
  walk_at "zq"
  walk_at "zt"
  intro qf
  have hrow : ∀ a : Nat, a < xs.length → atI (xs.map fun v => natsD (bitsV v (h + 2))) (a : Int) = some (natsD (bitsV (xs.getD a 0) (h + 2))) := fun a ha => atI_nat (by rw [List.getElem?_map, List.getElem?_eq_getElem ha, List.getD_eq_getElem?_getD, List.getElem?_eq_getElem ha]; rfl)
  have hbit : ∀ a b : Nat, b < h + 2 → atI ((bitsV (xs.getD a 0) (h + 2)).map fun (k : Nat) => PyData.int (k : Int)) (b : Int) = some (.int (cellP xs (h + 2) a b : Int)) := fun a b hb => atI_nat (by rw [List.getElem?_map, bitsV_at _ _ _ hb]; rfl)
  refine za_nil ⟨_, _, rfl, ?_⟩
  refine zs_seq (zs_nx (N := fun S M => ∃ c4 c5 : Option ZV, S = [some (.d r.d), some (.d (picV xs (h + 2))), some (.c qc), some (.c qf), c4, c5, none, none, none] ∧ M = [(qf, true, .lst []), (qc, true, .dT (kvsP xs (h + 2) xs.length 0))]) ?_ ?_)
  · walk_at "zq"
    rw [List.length_map]
    refine ⟨by omega, by omega, fun i S M => ∃ c4 c5 : Option ZV, S = [some (.d r.d), some (.d (picV xs (h + 2))), some (.c qc), some (.c qf), c4, c5, none, none, none] ∧ M = [(qf, true, .lst []), (qc, true, .dT (kvsP xs (h + 2) i 0))], ⟨_, _, rfl, rfl⟩, ?_, ?_⟩
    · rintro i S M hi ⟨c4, c5, rfl, rfl⟩
      have hi : i < xs.length := by omega
      refine ⟨_, _, zg_name, ?_⟩
      rw [show (0 : Int) + (i : Int) = (i : Int) by omega]
      walk_at "zq"
      refine zo_ix (hrow 0 (by omega)) ?_
      walk_at "zq"
      rw [List.length_map, bitsV_len]
      refine ⟨by omega, by omega, fun j S M => ∃ c5 : Option ZV, S = [some (.d r.d), some (.d (picV xs (h + 2))), some (.c qc), some (.c qf), some (.d (.int (i : Int))), c5, none, none, none] ∧ M = [(qf, true, .lst []), (qc, true, .dT (kvsP xs (h + 2) i j))], ⟨_, rfl, rfl⟩, ?_, ?_⟩
      · rintro j S M hj ⟨c5, rfl, rfl⟩
        have hj : j < h + 2 := by omega
        refine ⟨_, _, zg_name, ?_⟩
        rw [show (0 : Int) + (j : Int) = (j : Int) by omega]
        walk_at "zq"
        refine zo_ix (hrow i hi) ?_
        walk_at "zq"
        refine zo_ix (hbit i j hj) ?_
        walk_at "zq"
        walk_at "zt"
        refine ⟨qc, true, _, (i : Int), [(j : Int)], _, rfl, rfl, ?_, .there .here, ?_⟩
        · rw [kvsP_len, hsz]
          have : i * (h + 2) ≤ 22 * 7 := Nat.mul_le_mul (by omega) (by omega)
          omega
        refine ⟨_, rfl, ?_⟩
        rw [kvsP_cell _ _ _ _ hj]
      · rintro S M ⟨c5, rfl, rfl⟩
        rw [Int.toNat_natCast, kvsP_row]
        exact ⟨_, _, rfl, rfl⟩
    · rintro S M ⟨c4, c5, rfl, rfl⟩
      rw [Int.toNat_natCast]
      exact ⟨_, _, rfl, rfl⟩
  rintro S M ⟨c4, c5, rfl, rfl⟩
  walk_at "zq"
  rw [List.length_map]
  refine ⟨_, _, rfl, ⟨by decide, by decide, by omega, by omega⟩, fun i S M => ∃ c4 c5 c6 c7 : Option ZV, S = [some (.d r.d), some (.d (picV xs (h + 2))), some (.c qc), some (.c qf), c4, c5, c6, c7, none] ∧ M = [(qf, true, .lst (((latL r h xs).take i).map fun v => natsD (bitsV v h))), (qc, true, .dT (kvsP xs (h + 2) xs.length 0))], ⟨_, _, _, _, rfl, rfl⟩, ?_, ?_⟩
  · rintro i S M hi ⟨c4, c5, c6, c7, rfl, rfl⟩
    have hi : i < n := by omega
    have hlat := latL_at r h xs i (by omega)
    obtain ⟨k, hk⟩ : ∃ k, k = latN r (xs.getD i 0) (xs.getD (i + 1) 0) (xs.getD (i + 2) 0) h := ⟨_, rfl⟩
    rw [← hk] at hlat
    have hab : ∀ j, j < h → (k.testBit (h - 1 - j)).toNat = if nearP xs (h + 2) (i + 1) (j + 1) ∈ (if cellP xs (h + 2) (i + 1) (j + 1) = 1 then r.s else r.b) then 1 else 0 := fun j hj => by rw [hk]; exact after_bit r xs h i j hj
    have hlen : (((latL r h xs).take i).map fun v => natsD (bitsV v h)).length ≤ 20 := by rw [List.length_map, List.length_take]; omega
    have hsucc : ((latL r h xs).take (i + 1)).map (fun v => natsD (bitsV v h)) = ((latL r h xs).take i).map (fun v => natsD (bitsV v h)) ++ [natsD (bitsV k h)] := by rw [List.take_add_one, hlat, List.map_append]; rfl
    generalize ((latL r h xs).take i).map (fun v => natsD (bitsV v h)) = fnd at hlen hsucc ⊢
    clear hlat hk
    refine ⟨_, _, zg_name, ?_⟩
    rw [show (1 : Int) + (i : Int) = ((i + 1 : Nat) : Int) by omega]
    walk_at "zq"
    refine zw_lstC ?_
    walk_at "zq"
    walk_at "zt"
    intro ql
    refine zs_seq (zs_nx (N := fun S M => ∃ c5 c7 : Option ZV, S = [some (.d r.d), some (.d (picV xs (h + 2))), some (.c qc), some (.c qf), some (.d (.int ((i + 1 : Nat) : Int))), c5, some (.c ql), c7, none] ∧ M = [(ql, true, .lst ((bitsV k h).map fun (k : Nat) => .int (k : Int))), (qf, true, .lst fnd), (qc, true, .dT (kvsP xs (h + 2) xs.length 0))]) ?_ ?_)
    · walk_at "zq"
      refine zo_ix (hrow 0 (by omega)) ?_
      walk_at "zq"
      rw [List.length_map, bitsV_len]
      refine ⟨_, _, rfl, ⟨by decide, by decide, by omega, by omega⟩, fun j S M => ∃ c5 c7 : Option ZV, S = [some (.d r.d), some (.d (picV xs (h + 2))), some (.c qc), some (.c qf), some (.d (.int ((i + 1 : Nat) : Int))), c5, some (.c ql), c7, none] ∧ M = [(ql, true, .lst (((bitsV k h).take j).map fun (k : Nat) => .int (k : Int))), (qf, true, .lst fnd), (qc, true, .dT (kvsP xs (h + 2) xs.length 0))], ⟨_, _, rfl, rfl⟩, ?_, ?_⟩
      · rintro j S M hj ⟨c5, c7, rfl, rfl⟩
        have hj : j < h := by omega
        have hab := hab j hj
        have htk := bitsV_take k h hj
        have htl : ((bitsV k h).take j).length ≤ 5 := by rw [List.length_take, bitsV_len]; omega
        generalize (bitsV k h).take j = tk at htk htl ⊢
        refine ⟨_, _, zg_name, ?_⟩
        rw [show (1 : Int) + (j : Int) = ((j + 1 : Nat) : Int) by omega]
        refine zs_seq (zs_nx (N := fun S M => S = [some (.d r.d), some (.d (picV xs (h + 2))), some (.c qc), some (.c qf), some (.d (.int ((i + 1 : Nat) : Int))), some (.d (.int ((j + 1 : Nat) : Int))), some (.c ql), some (.d (.int (nearP xs (h + 2) (i + 1) (j + 1) : Int))), none] ∧ M = [(ql, true, .lst (tk.map fun (k : Nat) => .int (k : Int))), (qf, true, .lst fnd), (qc, true, .dT (kvsP xs (h + 2) xs.length 0))]) ?_ ?_)
        · refine zs_asg (zw_cb (za_cons (lcL_map (arP ((i + 1 : Nat) : Int) ((j + 1 : Nat) : Int)) prP (fun p => .int (cellP xs (h + 2) p.1.toNat p.2.toNat : Int)) ?_)))
          walk_at "zq"
          walk_at "zt"
          walk_at "zq"
          refine ⟨_, _, allD_cons allD_nil, rfl, ⟨_, _, rfl, rfl⟩, ?_⟩
          refine ⟨rfl, by rw [hsz]; exact Nat.le_of_ble_eq_true rfl, fun o ho => ⟨_, _, ?_, zg_name, fun D acc => ?_⟩, ?_⟩
          · simp
          · obtain ⟨h1, h2, h3, h4⟩ := ar_near (by omega) (by omega) ho
            walk_at "zq"
            refine zw_dgetT ?_
            walk_at "zq"
            refine ⟨o.1, [o.2], true, _, .int (cellP xs (h + 2) o.1.toNat o.2.toNat : Int), rfl, m1 (m1 (m1 m0)), ?_, ?_⟩
            · have := kvsP_held (xs := xs) (h := h + 2) (a := o.1.toNat) (b := o.2.toNat) (by omega) (by omega)
              rwa [show ((o.1.toNat : Nat) : Int) = o.1 by omega, show ((o.2.toNat : Nat) : Int) = o.2 by omega] at this
            · exact ⟨rfl, rfl⟩
          · walk_at "zq"
            rw [near_list]
            refine zc_sum ?_
            rw [near_sum _ _ (by omega) (by omega)]
            exact ⟨rfl, rfl⟩
        rintro S M ⟨rfl, rfl⟩
        have hheld := kvsP_held (xs := xs) (h := h + 2) (a := i + 1) (b := j + 1) (by omega) (by omega)
        generalize nearP xs (h + 2) (i + 1) (j + 1) = near at hab ⊢
        generalize cellP xs (h + 2) (i + 1) (j + 1) = cell at hab hheld
        refine zs_drop (zw_append ?_)
        walk_at "zq"
        refine ⟨⟨_, _, m0⟩, ?_⟩
        refine zw_cb (za_cons (zw_op (zw_var rfl (zw_if (zt_test (zw_op (zw_dgetT ?_)))))))
        walk_at "zq"
        walk_at "zt"
        refine ⟨((i + 1 : Nat) : Int), [((j + 1 : Nat) : Int)], true, _, _, rfl, m1 (m1 m0), hheld, ?_⟩
        walk_at "zq"
        refine ⟨fun e => ?_, fun e => ?_⟩
        · have e : cell = 1 := by have := of_decide_eq_true e; omega
          walk_at "zq"
          refine zo_inT ⟨rfl, rfl⟩ (flat_nats r.s) ?_
          rw [inV_nats]
          walk_at "zq"
          refine zc_intB ?_
          walk_at "zq"
          refine ⟨_, true, _, _, rfl, .here, by rw [List.length_map, hsz]; omega, ?_⟩
          rw [if_pos e] at hab
          refine ⟨some (.d (.int ((j + 1 : Nat) : Int))), some (.d (.int (near : Int))), rfl, ?_⟩
          rw [htk, List.map_append, hab, List.map_cons, List.map_nil, dec_int]
          rfl
        · have e : ¬ cell = 1 := by have := of_decide_eq_false e; omega
          walk_at "zq"
          refine zo_inT ⟨rfl, rfl⟩ (flat_nats r.b) ?_
          rw [inV_nats]
          walk_at "zq"
          refine zc_intB ?_
          walk_at "zq"
          refine ⟨_, true, _, _, rfl, .here, by rw [List.length_map, hsz]; omega, ?_⟩
          rw [if_neg e] at hab
          refine ⟨some (.d (.int ((j + 1 : Nat) : Int))), some (.d (.int (near : Int))), rfl, ?_⟩
          rw [htk, List.map_append, hab, List.map_cons, List.map_nil, dec_int]
          rfl
      · rintro S M ⟨c5, c7, rfl, rfl⟩
        rw [show (((h + 2 : Nat) : Int) - 1 - 1).toNat = h by omega, List.take_of_length_le (by rw [bitsV_len]; exact Nat.le_refl _)]
        exact ⟨_, _, rfl, rfl⟩
    rintro S M ⟨c5, c7, rfl, rfl⟩
    refine zs_post (N := fun S M => S = [some (.d r.d), some (.d (picV xs (h + 2))), some (.c qc), some (.c qf), some (.d (.int ((i + 1 : Nat) : Int))), c5, some (.c ql), c7, none] ∧ M = [(ql, true, .lst ((bitsV k h).map fun (k : Nat) => .int (k : Int))), (qf, true, .lst (fnd ++ [natsD (bitsV k h)])), (qc, true, .dT (kvsP xs (h + 2) xs.length 0))]) ?_ ?_
    · refine zs_drop (zw_append ?_)
      walk_at "zq"
      refine ⟨⟨_, _, m1 m0⟩, ?_⟩
      walk_at "zq"
      refine zc_tupC m0 ?_
      walk_at "zq"
      refine ⟨_, true, _, _, rfl, .there .here, by rw [hsz]; omega, ?_⟩
      exact ⟨rfl, rfl⟩
    rintro S M ⟨rfl, rfl⟩
    refine ⟨_, .cons _ (.cons₂ _ (.cons₂ _ .slnil)), _, _, _, _, rfl, ?_⟩
    rw [hsucc]
  · rintro S M ⟨c4, c5, c6, c7, rfl, rfl⟩
    rw [show ((xs.length : Int) - 1 - 1).toNat = n by omega, List.take_of_length_le (latL_few r h xs n hl)]
    walk_at "zq"
    refine zc_tupC m0 ?_
    exact ⟨_, rfl, rfl⟩
/-! ### pictures compared -/
def valL (S : Nat) : List Nat → Nat
  | [] => 0
  | d :: l => d * S ^ l.length + valL S l
theorem valL_lt {S : Nat} : ∀ {l : List Nat}, (∀ d ∈ l, d < S) → valL S l < S ^ l.length
  | [], _ => by simp [valL]
  | d :: l, h => by
    rw [valL, List.length_cons, Nat.pow_succ]
    exact dg_lt (h d List.mem_cons_self) (valL_lt fun e he => h e (List.mem_cons_of_mem _ he))
theorem digs_valL {S : Nat} : ∀ {l : List Nat}, (∀ d ∈ l, d < S) → digs S l.length (valL S l) = l
  | [], _ => rfl
  | d :: l, h => by
    have h1 := valL_lt fun e he => h e (List.mem_cons_of_mem _ he)
    rw [List.length_cons, digs, valL, dg_div h1, dg_mod h1, digs_valL fun e he => h e (List.mem_cons_of_mem _ he)]
theorem digs_lt {S : Nat} : ∀ {n m : Nat}, m < S ^ n → ∀ d ∈ digs S n m, d < S
  | 0, _, _, d, hd => absurd hd List.not_mem_nil
  | n + 1, m, hm, d, hd => by
    rw [Nat.pow_succ] at hm
    have hp : 0 < S ^ n := Nat.pos_of_ne_zero fun e => by rw [e, Nat.zero_mul] at hm; exact absurd hm (Nat.not_lt_zero _)
    rw [digs, List.mem_cons] at hd
    rcases hd with rfl | hd
    · exact Nat.div_lt_of_lt_mul hm
    · exact digs_lt (Nat.mod_lt m hp) d hd
theorem valL_digs {S : Nat} : ∀ {n m : Nat}, m < S ^ n → valL S (digs S n m) = m
  | 0, m, hm => by rw [Nat.pow_zero] at hm; rw [digs, valL]; omega
  | n + 1, m, hm => by
    rw [Nat.pow_succ] at hm
    have hp : 0 < S ^ n := Nat.pos_of_ne_zero fun e => by rw [e, Nat.zero_mul] at hm; exact absurd hm (Nat.not_lt_zero _)
    rw [digs, valL, digs_len, valL_digs (Nat.mod_lt m hp)]
    exact (dg_split m (S ^ n)).symm
theorem digs_at {S : Nat} (hS : 0 < S) : ∀ {n m x : Nat}, m < S ^ n → x < n → (digs S n m)[x]? = some (m / S ^ (n - 1 - x) % S)
  | 0, m, x, _, hx => absurd hx (Nat.not_lt_zero x)
  | n + 1, m, x, hm, hx => by
    rw [digs]
    rw [Nat.pow_succ] at hm
    cases x with
    | zero =>
      rw [List.getElem?_cons_zero, show n + 1 - 1 - 0 = n by omega, Nat.mod_eq_of_lt (Nat.div_lt_of_lt_mul hm)]
    | succ x =>
      rw [List.getElem?_cons_succ, digs_at hS (Nat.mod_lt m (Nat.pow_pos hS)) (by omega), show n + 1 - 1 - (x + 1) = n - 1 - x by omega]
      congr 1
      have e : S ^ n = S ^ (n - 1 - x) * (S * S ^ x) := by
        rw [← Nat.pow_succ', ← Nat.pow_add]
        congr 1
        omega
      rw [e, Nat.mod_mul_right_div_self, Nat.mod_mul_right_mod]
def bval : List Nat → Nat
  | [] => 0
  | k :: c => k * 2 ^ c.length + bval c
theorem bval_lt : ∀ {c : List Nat}, (∀ k ∈ c, k ≤ 1) → bval c < 2 ^ c.length
  | [], _ => by simp [bval]
  | k :: c, h => by
    have h1 := bval_lt fun e he => h e (List.mem_cons_of_mem _ he)
    rw [bval, List.length_cons, Nat.pow_succ]
    exact dg_lt (by have := h k List.mem_cons_self; omega) h1
theorem bval_bits (v : Nat) : ∀ h, bval (bitsV v h) = v % 2 ^ h
  | 0 => by rw [Nat.pow_zero, Nat.mod_one]; rfl
  | h + 1 => by
    rw [bitsV_cons, bval, bitsV_len, bval_bits v h, Nat.mod_pow_succ, Nat.toNat_testBit, Nat.mul_comm, Nat.add_comm]
abbrev tksN (c : List Nat) : List (Int ⊕ List Nat) := PySem.W.keyToksAll (c.map fun (k : Nat) => PyData.int (k : Int))
theorem col_lt {t t' : List (Int ⊕ List Nat)} : ∀ {c d : List Nat}, c.length = d.length → (∀ k ∈ c, k ≤ 1) → PyProof.Rows.lexLt itemOrd (tksN c ++ t) (tksN d ++ t') = true → (c = d ∧ PyProof.Rows.lexLt itemOrd t t' = true) ∨ bval c < bval d
  | [], [], _, _, h => by
    refine .inl ⟨rfl, ?_⟩
    have h : PyProof.Rows.lexLt itemOrd ((.inl 0 : Int ⊕ List Nat) :: t) (.inl 0 :: t') = true := h
    rwa [lex_self] at h
  | [], _ :: _, hl, _, _ => by simp at hl
  | _ :: _, [], hl, _, _ => by simp at hl
  | a :: c, b :: d, hl, hb, h => by
    have hl2 : c.length = d.length := by simpa using hl
    have h : PyProof.Rows.lexLt itemOrd ((.inl 1 : Int ⊕ List Nat) :: .inl (a : Int) :: (tksN c ++ t)) (.inl 1 :: .inl (b : Int) :: (tksN d ++ t')) = true := h
    rw [lex_self] at h
    by_cases z : a = b
    · subst z
      rw [lex_self] at h
      rcases col_lt hl2 (fun k hk => hb k (List.mem_cons_of_mem _ hk)) h with ⟨h1, h2⟩ | h1
      · exact .inl ⟨by rw [h1], h2⟩
      · refine .inr ?_
        rw [bval, bval, hl2]
        omega
    · rw [lex_diff (O := itemOrd) (fun q => z (by injection q with q; omega))] at h
      have hlt : (a : Int) < (b : Int) := of_decide_eq_true h
      have h1 := bval_lt (c := c) fun k hk => hb k (List.mem_cons_of_mem _ hk)
      refine .inr ?_
      rw [bval, bval, hl2]
      rw [hl2] at h1
      have := Nat.mul_le_mul_right (2 ^ d.length) (show a + 1 ≤ b by omega)
      rw [Nat.add_mul, Nat.one_mul] at this
      omega
theorem pic_lt {h : Nat} : ∀ {xs ys : List Nat}, xs.length = ys.length → (∀ v ∈ xs, v < 2 ^ h) → (∀ v ∈ ys, v < 2 ^ h) → PyProof.Rows.lexLt itemOrd (PySem.W.keyToksAll (xs.map fun v => natsD (bitsV v h))) (PySem.W.keyToksAll (ys.map fun v => natsD (bitsV v h))) = true → valL (2 ^ h) xs < valL (2 ^ h) ys
  | [], [], _, _, _, z => by
    rw [lex_irrefl] at z; cases z
  | [], _ :: _, hl, _, _, _ => by simp at hl
  | _ :: _, [], hl, _, _, _ => by simp at hl
  | x :: xs, y :: ys, hl, hx, hy, z => by
    have hl2 : xs.length = ys.length := by simpa using hl
    have z : PyProof.Rows.lexLt itemOrd ((.inl 1 : Int ⊕ List Nat) :: (tksN (bitsV x h) ++ PySem.W.keyToksAll (xs.map fun v => natsD (bitsV v h)))) (.inl 1 :: (tksN (bitsV y h) ++ PySem.W.keyToksAll (ys.map fun v => natsD (bitsV v h)))) = true := z
    rw [lex_self] at z
    have hx0 := hx x List.mem_cons_self
    have hy0 := hy y List.mem_cons_self
    have bx := bval_bits x h
    have by' := bval_bits y h
    rw [Nat.mod_eq_of_lt hx0] at bx
    rw [Nat.mod_eq_of_lt hy0] at by'
    have h1 := valL_lt (l := xs) fun e he => hx e (List.mem_cons_of_mem _ he)
    rw [valL, valL, hl2]
    rcases col_lt (by rw [bitsV_len, bitsV_len]) (bitsV_ok x h).bit z with ⟨q1, q2⟩ | q1
    · have e : x = y := by rw [← bx, q1, by']
      subst e
      have := pic_lt (xs := xs) (ys := ys) hl2 (fun v hv => hx v (List.mem_cons_of_mem _ hv)) (fun v hv => hy v (List.mem_cons_of_mem _ hv)) q2
      omega
    · rw [bx, by'] at q1
      rw [hl2] at h1
      have := Nat.mul_le_mul_right ((2 ^ h) ^ ys.length) (show x + 1 ≤ y from q1)
      rw [Nat.add_mul, Nat.one_mul] at this
      omega
theorem dataLt_pic {h : Nat} {xs ys : List Nat} (hl : xs.length = ys.length) (hx : ∀ v ∈ xs, v < 2 ^ h) (hy : ∀ v ∈ ys, v < 2 ^ h) (hle : valL (2 ^ h) ys ≤ valL (2 ^ h) xs) : PySem.W.dataLt (picV xs h) (picV ys h) = false := by
  refine Bool.eq_false_iff.mpr fun z => ?_
  have := pic_lt hl hx hy z
  omega
theorem alike_nats : ∀ c d : List Nat, PySem.W.alikeAll (c.map fun (k : Nat) => PyData.int (k : Int)) (d.map fun (k : Nat) => PyData.int (k : Int)) = true
  | [], _ => rfl
  | _ :: _, [] => rfl
  | _ :: c, _ :: d => alike_nats c d
theorem alike_pic (h : Nat) : ∀ xs ys : List Nat, PySem.W.alikeAll (xs.map fun v => natsD (bitsV v h)) (ys.map fun v => natsD (bitsV v h)) = true
  | [], _ => rfl
  | _ :: _, [] => rfl
  | x :: xs, y :: ys => by
    show (PySem.W.alikeAll ((bitsV x h).map fun (k : Nat) => PyData.int (k : Int)) ((bitsV y h).map fun (k : Nat) => PyData.int (k : Int)) && PySem.W.alikeAll (xs.map fun v => natsD (bitsV v h)) (ys.map fun v => natsD (bitsV v h))) = true
    rw [alike_nats, alike_pic h xs ys]
    rfl
theorem eqv_nats : ∀ c d : List Nat, PyData.eqvAll (c.map fun (k : Nat) => PyData.int (k : Int)) (d.map fun (k : Nat) => PyData.int (k : Int)) = decide (c = d)
  | [], [] => rfl
  | [], _ :: _ => rfl
  | _ :: _, [] => rfl
  | a :: c, b :: d => by
    show (((a : Int) == (b : Int)) && PyData.eqvAll (c.map fun (k : Nat) => PyData.int (k : Int)) (d.map fun (k : Nat) => PyData.int (k : Int))) = _
    rw [eqv_nats c d, Bool.eq_iff_iff]
    simp
    omega
theorem bitsV_inj {h x y : Nat} (hx : x < 2 ^ h) (hy : y < 2 ^ h) (e : bitsV x h = bitsV y h) : x = y := by
  rw [← colV_bitsV hx, ← colV_bitsV hy, e]
theorem eqv_picA {h : Nat} : ∀ {xs ys : List Nat}, (∀ v ∈ xs, v < 2 ^ h) → (∀ v ∈ ys, v < 2 ^ h) → PyData.eqvAll (xs.map fun v => natsD (bitsV v h)) (ys.map fun v => natsD (bitsV v h)) = decide (xs = ys)
  | [], [], _, _ => rfl
  | [], _ :: _, _, _ => rfl
  | _ :: _, [], _, _ => rfl
  | x :: xs, y :: ys, hx, hy => by
    show (PyData.eqvAll ((bitsV x h).map fun (k : Nat) => PyData.int (k : Int)) ((bitsV y h).map fun (k : Nat) => PyData.int (k : Int)) && PyData.eqvAll (xs.map fun v => natsD (bitsV v h)) (ys.map fun v => natsD (bitsV v h))) = _
    rw [eqv_nats, eqv_picA (fun v hv => hx v (List.mem_cons_of_mem _ hv)) (fun v hv => hy v (List.mem_cons_of_mem _ hv)), Bool.eq_iff_iff]
    simp only [Bool.and_eq_true, decide_eq_true_eq, List.cons.injEq]
    refine and_congr_left fun _ => ⟨fun e => bitsV_inj (hx x List.mem_cons_self) (hy y List.mem_cons_self) e, fun e => by rw [e]⟩
theorem eqv_pic {h : Nat} {xs ys : List Nat} (hx : ∀ v ∈ xs, v < 2 ^ h) (hy : ∀ v ∈ ys, v < 2 ^ h) : PyData.eqv (picV xs h) (picV ys h) = decide (xs = ys) := eqv_picA hx hy
theorem lay_nats : ∀ l : List Nat, PyData.canLayAll0 (l.map fun (k : Nat) => PyData.int (k : Int)) = true
  | [] => rfl
  | _ :: r => by
    have := lay_nats r
    simp [PyData.canLayAll0, PyData.canLay0, this]
theorem deep_nats : ∀ l : List Nat, PyData.depthAll (l.map fun (k : Nat) => PyData.int (k : Int)) ≤ 1
  | [] => by simp [PyData.depthAll]
  | _ :: r => by
    have := deep_nats r
    simp [PyData.depthAll, PyData.depth]
    omega
theorem lay_pic (h : Nat) : ∀ xs : List Nat, PyData.canLayAll0 (xs.map fun v => natsD (bitsV v h)) = true
  | [] => rfl
  | x :: xs => by
    have h1 := lay_pic h xs
    have h2 := lay_nats (bitsV x h)
    show (PyData.canLayAll0 ((bitsV x h).map fun (k : Nat) => PyData.int (k : Int)) && PyData.canLayAll0 (xs.map fun v => natsD (bitsV v h))) = true
    rw [h1, h2]
    rfl
theorem deep_pic (h : Nat) : ∀ xs : List Nat, PyData.depthAll (xs.map fun v => natsD (bitsV v h)) ≤ 3
  | [] => by simp [PyData.depthAll]
  | x :: xs => by
    have h1 := deep_pic h xs
    have h2 := deep_nats (bitsV x h)
    simp only [List.map_cons, PyData.depthAll, PyData.depth]
    omega
theorem shp_pic (xs : List Nat) (h : Nat) : SeqAt.shaped (picV xs h) = true := by
  have := deep_pic h xs
  simp [SeqAt.shaped, PyData.canLay0, PyData.depth, lay_pic]
  omega
theorem al_pic (n : Nat) {xs : List Nat} {h : Nat} (hl : xs.length ≤ 1000) (hh : h ≤ 1000) : al (n + 3) (picV xs h) = true := by
  show (decide ((xs.map fun v => natsD (bitsV v h)).length ≤ 1000) && (xs.map fun v => natsD (bitsV v h)).all (al (n + 2))) = true
  rw [List.length_map, decide_eq_true hl, Bool.true_and, List.all_eq_true]
  intro d hd
  obtain ⟨v, _, rfl⟩ := List.mem_map.mp hd
  show (decide (((bitsV v h).map fun (k : Nat) => PyData.int (k : Int)).length ≤ 1000) && ((bitsV v h).map fun (k : Nat) => PyData.int (k : Int)).all (al (n + 1))) = true
  rw [List.length_map, bitsV_len, decide_eq_true hh, Bool.true_and, List.all_eq_true]
  intro e he
  obtain ⟨k, _, rfl⟩ := List.mem_map.mp he
  rfl
/-! ### the law's wider pictures -/
def cellsN (p n : Nat) : List Nat := (List.range p).map fun k => (n >>> (p - 1 - k)) % 2
theorem cells_cut {w h n x : Nat} (hn : n < 2 ^ ((w + 2) * (h + 2))) (hx : x < w + 2) : ((cellsN ((w + 2) * (h + 2)) n).drop (x * (h + 2))).take (h + 2) = bitsV ((digs (2 ^ (h + 2)) (w + 2) n).getD x 0) (h + 2) := by
  have hn2 : n < (2 ^ (h + 2)) ^ (w + 2) := by rw [← Nat.pow_mul, Nat.mul_comm]; exact hn
  have hxh : (x + 1) * (h + 2) ≤ (w + 2) * (h + 2) := Nat.mul_le_mul_right _ (by omega)
  rw [Nat.add_mul, Nat.one_mul] at hxh
  rw [List.getD_eq_getElem?_getD, digs_at (Nat.two_pow_pos _) hn2 hx]
  refine List.ext_getElem? fun k => ?_
  rcases Nat.lt_or_ge k (h + 2) with hk | hk
  · rw [List.getElem?_take_of_lt hk, List.getElem?_drop, bitsV_at _ _ _ hk]
    unfold cellsN
    rw [List.getElem?_map, List.getElem?_range (by omega)]
    show some ((n >>> ((w + 2) * (h + 2) - 1 - (x * (h + 2) + k))) % 2) = some _
    congr 1
    rw [Option.getD_some, Nat.testBit_mod_two_pow, decide_eq_true (show h + 2 - 1 - k < h + 2 by omega), Bool.true_and, ← Nat.pow_mul, Nat.testBit_div_two_pow, Nat.toNat_testBit, Nat.shiftRight_eq_div_pow]
    congr 3
    have e : (w + 2) * (h + 2) = (h + 2) * (w + 2 - 1 - x) + (h + 2) + x * (h + 2) := by
      obtain ⟨y, hy⟩ : ∃ y, w + 2 = y + 1 + x := ⟨w + 1 - x, by omega⟩
      rw [hy, show y + 1 + x - 1 - x = y by omega, Nat.add_mul, Nat.add_mul, Nat.one_mul, Nat.mul_comm y]
    omega
  · rw [List.getElem?_eq_none (by rw [List.length_take]; omega), List.getElem?_eq_none (by rw [bitsV_len]; omega)]
/-! ### the law -/
def R_law (ds : List PyData) (o : DOut) : Prop := ∃ ns : List Int, ds = [.list (ns.map .int)] ∧ o = .ok (.bool true)
theorem sh_one {k : Nat} (h : k ≤ 200) : CShl ((1 : Nat) : Int) (k : Int) := by
  refine ⟨by omega, ?_⟩
  have := PyProof.Rows.intBits_le (a := ((1 : Nat) : Int)) (k := 20) (by decide)
  omega
/-- the least so far, as data -/
def optV (h w : Nat) : Option Nat → PyData
  | none => .none
  | some m => picV (digs (2 ^ (h + 2)) (w + 2) m) (h + 2)
def leastTo (r : Rl) (h : Nat) (ks : List Nat) : Nat → Option Nat
  | 0 => none
  | n + 1 => match leastTo r h ks n with | some m => some m | none => if fitsN r h ks n = true then some n else none
theorem leastTo_none {r : Rl} {h : Nat} {ks : List Nat} : ∀ {n : Nat}, (∀ m, m < n → fitsN r h ks m = false) → leastTo r h ks n = none
  | 0, _ => rfl
  | n + 1, hn => by
    rw [leastTo, leastTo_none fun m hm => hn m (by omega)]
    dsimp only
    rw [hn n (by omega)]
    rfl
theorem leastTo_some {r : Rl} {h : Nat} {ks : List Nat} {m0 : Nat} (h1 : fitsN r h ks m0 = true) (h2 : ∀ m, m < m0 → fitsN r h ks m = false) : ∀ {n : Nat}, m0 < n → leastTo r h ks n = some m0
  | 0, hn => absurd hn (Nat.not_lt_zero _)
  | n + 1, hn => by
    rw [leastTo]
    by_cases z : m0 = n
    · subst z
      rw [leastTo_none h2]
      dsimp only
      rw [if_pos h1]
    · rw [leastTo_some h1 h2 (show m0 < n by omega)]
def goods (r : Rl) (h : Nat) (ks : List Nat) (n : Nat) : Int := sm n fun n => if fitsN r h ks n = true then 1 else 0
theorem leastTo_spec {r : Rl} {h : Nat} {ks : List Nat} {m : Nat} : ∀ {n : Nat}, leastTo r h ks n = some m → fitsN r h ks m = true ∧ m < n
  | 0, hm => by cases hm
  | n + 1, hm => by
    rw [leastTo] at hm
    cases hL : leastTo r h ks n with
    | some m' =>
      rw [hL] at hm
      cases hm
      have := leastTo_spec hL
      exact ⟨this.1, by omega⟩
    | none =>
      rw [hL] at hm
      dsimp only at hm
      split at hm
      · next hf => cases hm; exact ⟨hf, by omega⟩
      · cases hm
theorem goods_zero {r : Rl} {h : Nat} {ks : List Nat} : ∀ {n : Nat}, leastTo r h ks n = none → goods r h ks n = 0
  | 0, _ => rfl
  | n + 1, hm => by
    rw [leastTo] at hm
    cases hL : leastTo r h ks n with
    | some m' => rw [hL] at hm; cases hm
    | none =>
      rw [hL] at hm
      dsimp only at hm
      have := goods_zero hL
      split at hm
      · cases hm
      · next hf =>
        unfold goods at this ⊢
        rw [sm, this, if_neg hf]
        rfl
theorem goods_pos {r : Rl} {h : Nat} {ks : List Nat} {m : Nat} (hf : fitsN r h ks m = true) {n : Nat} (hn : m < n) : 1 ≤ goods r h ks n := by
  unfold goods
  obtain ⟨k, rfl⟩ : ∃ k, n = m + 1 + k := ⟨n - m - 1, by omega⟩
  rw [sm_app, sm, if_pos hf]
  have h1 := sm_nonneg (fun n => if fitsN r h ks n = true then (1 : Int) else 0) m fun i _ => by split <;> decide
  have h2 := sm_nonneg (fun i => if fitsN r h ks (i + (m + 1)) = true then (1 : Int) else 0) k fun i _ => by split <;> decide
  omega
theorem least_ex {r : Rl} {h : Nat} {ks : List Nat} : ∀ {n : Nat}, fitsN r h ks n = true → ∃ m, m ≤ n ∧ fitsN r h ks m = true ∧ ∀ k, k < m → fitsN r h ks k = false := by
  intro n
  induction n using Nat.strongRecOn with
  | _ n ih =>
    intro hn
    by_cases z : ∃ k, k < n ∧ fitsN r h ks k = true
    · obtain ⟨k, h1, h2⟩ := z
      obtain ⟨m, a, b, c⟩ := ih k h1 h2
      exact ⟨m, by omega, b, c⟩
    · exact ⟨n, Nat.le_refl n, hn, fun k hk => Bool.eq_false_iff.mpr fun q => z ⟨k, hk, q⟩⟩
theorem firstD (r : Rl) (h : Nat) (ks : List Nat) : (match leastV r h ks with | none => PyData.none | some l => .tuple (l.map fun v => natsD (bitsV v (h + 2)))) = optV h ks.length (leastTo r h ks ((2 ^ (h + 2)) ^ (ks.length + 2))) := by
  rcases leastV_spec r h ks with ⟨h1, h2⟩ | ⟨n0, h1, h2, h3, h4⟩
  · rw [h1, leastTo_none h2]
    rfl
  · rw [h4, leastTo_some h2 h3 h1]
    rfl
theorem al_opt (h w : Nat) (o : Option Nat) (hh : h ≤ 100) (hw : w ≤ 100) : al 4 (optV h w o) = true := by
  cases o with
  | none => rfl
  | some m => exact al_pic 1 (by rw [digs_len]; omega) (by omega)
/-- the answers for a picture -/
theorem bef_ask {r : Rl} (hr : Rule r) (hn : r.n = 2) {h : Nat} {ks : List Nat} (h1 : 1 ≤ h) (h2 : h ≤ 2) (hk : ∀ k ∈ ks, k < 2 ^ h) (hl : 1 ≤ ks.length) (hl2 : ks.length ≤ 30) : R_befCount [r.d, picV ks h] (.ok (.int (goods r h ks ((2 ^ (h + 2)) ^ (ks.length + 2))))) ∧ R_firstBefore [r.d, picV ks h] (.ok (optV h ks.length (leastTo r h ks ((2 ^ (h + 2)) ^ (ks.length + 2))))) := by
  have hp : PicOk h (ks.map fun v => bitsV v h) := picV_ok h1 (by omega) (by intro e; rw [e] at hl; exact absurd hl (by decide)) hl2
  have e : picV ks h = picD (ks.map fun v => bitsV v h) := by
    unfold picV picD
    rw [List.map_map]
    rfl
  have hc := count_all r h ks
  refine ⟨⟨r, h, ks.map fun v => bitsV v h, by rw [e], hr, hn, hp, h2, ?_⟩, ⟨r, h, ks.map fun v => bitsV v h, by rw [e], hr, hn, hp, h2, ?_⟩⟩
  · rw [picV_cols hk, hc]
    rfl
  · rw [picV_cols hk]
    exact congrArg DOut.ok (firstD r h ks).symm
theorem box_ok {w h : Nat} (ho : (w = 1 ∧ h = 1) ∨ (w = 2 ∧ h = 1) ∨ (w = 1 ∧ h = 2)) : 1 ≤ w ∧ w ≤ 2 ∧ 1 ≤ h ∧ h ≤ 2 ∧ (w + 2) * (h + 2) ≤ 12 := by
  rcases ho with ⟨rfl, rfl⟩ | ⟨rfl, rfl⟩ | ⟨rfl, rfl⟩ <;> decide
theorem cut_two (l : List PyData) {a b : Nat} (hab : a ≤ b) (hb : b ≤ l.length) : Z.cutD l (some (a : Int)) (some (b : Int)) = (l.drop a).take (b - a) := by
  unfold Z.cutD
  rw [HT.sIx_nat, HT.sIx_nat, Nat.min_eq_left (show a ≤ l.length by omega), Nat.min_eq_left hb]
theorem getD_map (f : Nat → PyData) (l : List Nat) : ((List.range l.length).map fun x => f (l.getD x 0)) = l.map f := by
  refine List.ext_getElem? fun i => ?_
  rcases Nat.lt_or_ge i l.length with h | h
  · rw [List.getElem?_map, List.getElem?_range h, List.getElem?_map, List.getElem?_eq_getElem h]
    show some (f (l.getD i 0)) = some (f l[i])
    rw [List.getD_eq_getElem?_getD, List.getElem?_eq_getElem h]
    rfl
  · rw [List.getElem?_eq_none (by rw [List.length_map, List.length_range]; exact h), List.getElem?_eq_none (by rw [List.length_map]; exact h)]
theorem ok_law {P : Program} {w : World} {K : Fg} {mg : Str → Option Value} {base : Heap} {f : Addr} {fd : FuncData} (F : Fun K "law" "law" s_law f fd)
    (m_range : mg "range" = none)
    (m_int : mg "int" = none)
    (m_tuple : mg "tuple" = none)
    (c__law_some_rule : Cal P w K mg base 3 "_law_some_rule" (spC K 0 R_someRule))
    (c__law_pick : Cal P w K mg base 2 "_law_pick" (spC K 1 R_pick))
    (c__law_some_picture : Cal P w K mg base 2 "_law_some_picture" (spC K 2 R_somePic))
    (c__law_picture_after : Cal P w K mg base 2 "_law_picture_after" (spD K 2 R_picAfter))
    (c__law_alike : Cal P w K mg base 6 "_law_alike" (spD K 2 (R_alike 5)))
    (c_first_before : Cal P w K mg base 6 "first_before" (spD K 2 R_firstBefore))
    (c_befores_count : Cal P w K mg base 6 "befores_count" (spD K 2 R_befCount))
    (c__law_taken : Cal P w K mg base 1 "_law_taken" (spC K 1 R_taken)) :
    FnOk P w K mg base (L2.CX P w) 9 f fd ["script"] (spD K 1 R_law) := by
  refine F.okX sc_law (fun vs H Q E h => len_D h) (fun cdv A outer s H vs Q E hr h => ⟨_, (pss_cons (ps_set (i := 1) sc_law.nd rfl (by first | exact Or.inl rfl | exact Or.inr rfl) (pe_lst (pa_cons (pv 0) (pa_cons pe_int (pa_cons pe_int (pa_cons pe_int pa_nil))))))
      (pss_cons (ps_set (i := 2) sc_law.nd rfl (by first | exact Or.inl rfl | exact Or.inr rfl) (pe_cl c__law_some_rule hr (show 3 ≤ 8 by decide) passL (pa_cons (pv 1) pa_nil)))
      (pss_cons (ps_set (i := 2) sc_law.nd rfl (by first | exact Or.inl rfl | exact Or.inr rfl) (pe_op op_addA (pe_slice sl_any (pv 2) po_none (po_some pe_int)) (pe_tup (pa_cons pe_int pa_nil))))
      (pss_cons (ps_asg (pe_cl c__law_pick hr (show 2 ≤ 8 by decide) passL (pa_cons (pv 1) (pa_cons (pe_lst (pa_cons (pe_tup (pa_cons pe_int (pa_cons pe_int pa_nil))) (pa_cons (pe_tup (pa_cons pe_int (pa_cons pe_int pa_nil))) (pa_cons (pe_tup (pa_cons pe_int (pa_cons pe_int pa_nil))) (pa_cons (pe_tup (pa_cons pe_int (pa_cons pe_int pa_nil))) pa_nil))))) pa_nil))) (pg_tup rfl (pgs_cons (pg_name (i := 3) sc_law.nd rfl (by first | exact Or.inl rfl | exact Or.inr rfl)) (pgs_cons (pg_name (i := 4) sc_law.nd rfl (by first | exact Or.inl rfl | exact Or.inr rfl)) pgs_nil))))
      (pss_cons (ps_par3 (i := 5) (j := 6) (l := 7) rfl sc_law.nd rfl rfl rfl (by decide) (by decide) (by decide) rfl rfl rfl (pa_cons (pe_cl c__law_some_picture hr (show 2 ≤ 8 by decide) passL (pa_cons (pv 1) (pa_cons (pv 3) (pa_cons (pv 4) pa_nil)))) (pa_cons pe_int (pa_cons pe_non pa_nil))) (by rfl))
      (pss_cons (ps_set (i := 8) sc_law.nd rfl (by first | exact Or.inl rfl | exact Or.inr rfl) (pe_op op_mul (pe_op op_addA (pv 3) pe_int) (pe_op op_addA (pv 4) pe_int)))
      (pss_cons (ps_for (passes_of rfl) rfl (pi_range1 (by rfl) m_range (pa_cons (pe_op op_shlW pe_int (pv 8)) pa_nil)) (pg_name (i := 9) sc_law.nd rfl (by first | exact Or.inl rfl | exact Or.inr rfl)) (pss_cons (ps_set (i := 10) sc_law.nd rfl (by first | exact Or.inl rfl | exact Or.inr rfl) (pe_lc (own := [("k", 11)]) rfl sc_law.nd (pi_range1 (by rfl) m_range (pa_cons (pv 8) pa_nil)) (blkOk_by (N := N_law) (sc := defScope s_law) (by decide +kernel)) (fun _ _ _ _ _ => (pg_name (i := 11) sc_law.nd rfl (by first | exact Or.inl rfl | exact Or.inr rfl))) (fun _ _ _ _ _ => pts_nil) (fun _ _ _ _ _ => (pe_op op_mod (pe_callTy (call_int1.or call_int_str) (by rfl) m_int bt_int (pa_cons (pe_op op_shr (pv 9) (pe_op op_sub (pe_op op_sub (pv 8) pe_int) (pv 11))) pa_nil)) pe_int))))
      (pss_cons (ps_set (i := 12) sc_law.nd rfl (by first | exact Or.inl rfl | exact Or.inr rfl) (pe_callTy call_tuple_of (by rfl) m_tuple bt_tuple (pa_cons (pe_lc (own := [("x", 13)]) rfl sc_law.nd (pi_range1 (by rfl) m_range (pa_cons (pe_op op_addA (pv 3) pe_int) pa_nil)) (blkOk_by (N := N_law) (sc := defScope s_law) (by decide +kernel)) (fun _ _ _ _ _ => (pg_name (i := 13) sc_law.nd rfl (by first | exact Or.inl rfl | exact Or.inr rfl))) (fun _ _ _ _ _ => pts_nil) (fun _ _ _ _ _ => (pe_callTy (show CallR _ (.type "tuple") (rTupOf K) from call_tuple_of) (by rfl) m_tuple bt_tuple (pa_cons (pe_slice (show SlR _ (rSlAny K) from sl_any) (pv 10) (po_some (pe_op op_mul (pv 13) (pe_op (show OpR _ (binaryOp .Add) (rAddA K) from op_addA) (pv 4) pe_int))) (po_some (pe_op op_mul (pe_op (show OpR _ (binaryOp .Add) (rAddA K) from op_addA) (pv 13) pe_int) (pe_op (show OpR _ (binaryOp .Add) (rAddA K) from op_addA) (pv 4) pe_int)))) pa_nil)))) pa_nil)))
      (pss_one (ps_if (pt_cmpR (op_eqA hr.units) (pe_cl c__law_picture_after hr (show 2 ≤ 8 by decide) passL (pa_cons (pv 2) (pa_cons (pv 12) pa_nil))) (pv 5) (nomark _)) (pss_one (ps_par (i := 6) (j := 7) rfl sc_law.nd rfl rfl (by decide) rfl rfl (pa_cons (pe_op op_addA (pv 6) pe_int) (pa_cons (pe_ifExp (pt_cmpR op_isN (pv 7) pe_non (nomark _)) (pv 12) (pv 7)) pa_nil)) (by rfl))) pss_nil)))))
      (pss_cons (ps_if (pt_not (pt_val (pe_cl c__law_alike hr (show 6 ≤ 8 by decide) passL (pa_cons (pe_lst (pa_cons (pe_cl c_befores_count hr (show 6 ≤ 8 by decide) passL (pa_cons (pv 2) (pa_cons (pv 5) pa_nil))) (pa_cons (pe_cl c_first_before hr (show 6 ≤ 8 by decide) passL (pa_cons (pv 2) (pa_cons (pv 5) pa_nil))) pa_nil))) (pa_cons (pe_lst (pa_cons (pv 6) (pa_cons (pv 7) pa_nil))) pa_nil))) (fun _ => rfl))) (pss_one (ps_ret pe_bl)) pss_nil)
      (pss_cons (ps_set (i := 14) sc_law.nd rfl (by first | exact Or.inl rfl | exact Or.inr rfl) (pe_op op_addA pe_int (pe_cl c__law_taken hr (show 1 ≤ 8 by decide) passL (pa_cons (pv 1) (pa_cons pe_int pa_nil)))))
      (pss_cons (ps_set (i := 12) sc_law.nd rfl (by first | exact Or.inl rfl | exact Or.inr rfl) (pe_cl c__law_some_picture hr (show 2 ≤ 8 by decide) passL (pa_cons (pv 1) (pa_cons (pe_op op_addA (pv 14) pe_int) (pa_cons pe_int pa_nil)))))
      (pss_cons (ps_set (i := 15) sc_law.nd rfl (by first | exact Or.inl rfl | exact Or.inr rfl) (pe_cl c__law_picture_after hr (show 2 ≤ 8 by decide) passL (pa_cons (pv 2) (pa_cons (pv 12) pa_nil))))
      (pss_cons (ps_set (i := 16) sc_law.nd rfl (by first | exact Or.inl rfl | exact Or.inr rfl) (pe_cl c_first_before hr (show 6 ≤ 8 by decide) passL (pa_cons (pv 2) (pa_cons (pv 15) pa_nil))))
      (pss_cons (ps_if (PW.pt (pw_or (pt_cmpR op_isN (pv 16) pe_non (nomark _)) (pw_or (pt_cmpR (op_neA hr.units) (pe_cl c__law_picture_after hr (show 2 ≤ 8 by decide) passL (pa_cons (pv 2) (pa_cons (pv 16) pa_nil))) (pv 15) (nomark _)) (pw_or (pt_cmpR (show OpR _ (compareOp .Gt) (rGtD K) from op_gtD hr.units) (pv 16) (pv 12) (nomark _)) (pw_or1 (pt_cmpR op_lt (pe_cl c_befores_count hr (show 6 ≤ 8 by decide) passL (pa_cons (pv 2) (pa_cons (pv 15) pa_nil))) pe_int (nomark _))))))) (pss_one (ps_ret pe_bl)) pss_nil)
      (pss_cons (ps_set (i := 17) sc_law.nd rfl (by first | exact Or.inl rfl | exact Or.inr rfl) (pe_cl c__law_some_picture hr (show 2 ≤ 8 by decide) passL (pa_cons (pv 1) (pa_cons (pv 14) (pa_cons pe_int pa_nil)))))
      (pss_cons (ps_set (i := 16) sc_law.nd rfl (by first | exact Or.inl rfl | exact Or.inr rfl) (pe_cl c_first_before hr (show 6 ≤ 8 by decide) passL (pa_cons (pv 2) (pa_cons (pv 17) pa_nil))))
      (pss_cons (ps_if (pt_cmpR op_isN (pv 16) pe_non (nomark _)) (pss_one (ps_ret (pe_cmpR (op_eqA hr.units) (pe_cl c_befores_count hr (show 6 ≤ 8 by decide) passL (pa_cons (pv 2) (pa_cons (pv 17) pa_nil))) pe_int (nomark _)))) pss_nil)
      (pss_one (ps_ret (pe_and (pe_cmpR (op_eqA hr.units) (pe_cl c__law_picture_after hr (show 2 ≤ 8 by decide) passL (pa_cons (pv 2) (pa_cons (pv 16) pa_nil))) (pv 17) (nomark _)) (pe_one (pe_cmpR op_gt (pe_cl c_befores_count hr (show 6 ≤ 8 by decide) passL (pa_cons (pv 2) (pa_cons (pv 17) pa_nil))) pe_int (nomark _)))))))))))))))))))))),
    fn_D h fun ds o hk hR => ?_⟩)
  try dsimp only [L2.cxOf]
  obtain ⟨ns, rfl, rfl⟩ := hR
  have hsz : (sizeLine : Nat) = 16777216 := sizeLine_eq
  let t0 : RowS := ⟨ns, 0, 10826, 0, by decide, by decide, by decide⟩
  walk_at "zq"
  refine zw_lstC ?_
  walk_at "zq"
  walk_at "zt"
  intro p
  walk_at "zq"
  refine ⟨p, _, _, _, _, rfl, m0, allD_nil, rfl, ⟨t0, rfl, rfl, fun r t1 hr2 hb2 => ⟨_, _, rfl, .here, ?_⟩⟩⟩
  clear t0
  walk_at "zq"
  walk_at "zt"
  rw [show Z.cutD [natsD r.b, natsD r.s, PyData.int (r.n : Int)] none (some 2) = [natsD r.b, natsD r.s] from rfl]
  refine za_t (xs := [natsD r.b, natsD r.s]) (ys := [.int 2]) (by rw [hsz]; exact Nat.le_of_ble_eq_true rfl) ?_
  obtain ⟨q, hq, hqr, hqn⟩ : ∃ q : Rl, q.d = .tuple ([natsD r.b, natsD r.s] ++ [.int 2]) ∧ Rule q ∧ q.n = 2 := ⟨⟨r.b, r.s, 2⟩, rfl, ⟨hr2.bl, hr2.sl, hr2.bu, hr2.su, Nat.le_refl 2, show 2 ≤ 6 by decide⟩, rfl⟩
  rw [← hq]
  clear hq hr2 hb2
  walk_at "zq"
  refine zw_lstD ?_
  repeat (first | walk_at "z" | walk_at "ze" | walk_at "zt")
  refine ⟨p, _, _, _, _, rfl, m0, allD_cons allD_nil, rfl, ⟨t1, _, rfl, rfl, by simp, by simp, fun i v t2 hv => ⟨_, _, rfl, .here, ?_⟩⟩⟩
  clear t1
  obtain ⟨w, h, rfl, ho⟩ : ∃ w h : Nat, v = .tuple [.int (w : Int), .int (h : Int)] ∧ ((w = 1 ∧ h = 1) ∨ (w = 2 ∧ h = 1) ∨ (w = 1 ∧ h = 2)) := by
    have hm := List.mem_of_getElem? hv
    simp only [List.mem_cons, List.not_mem_nil, or_false] at hm
    rcases hm with rfl | rfl | rfl | rfl
    · exact ⟨1, 1, rfl, by decide⟩
    · exact ⟨1, 1, rfl, by decide⟩
    · exact ⟨2, 1, rfl, by decide⟩
    · exact ⟨1, 2, rfl, by decide⟩
  clear hv i
  obtain ⟨b1, b2, b3, b4, b5⟩ := box_ok ho
  clear ho
  refine ⟨_, _, zg_tup rfl (zgs_cons (zgs_cons zgs_nil)), ?_⟩
  refine zs_seq (zs_nx (N := fun S M => ∃ (ks : List Nat) (t3 : RowS), S = [some (.d (.list (ns.map .int))), some (.c p), some (.d q.d), some (.d (.int (w : Int))), some (.d (.int (h : Int))), some (.d (picV ks h)), some (.d (.int 0)), some (.d .none), none, none, none, none, none, none, none, none, none, none] ∧ M = [(p, true, .lst t3.d)] ∧ ks.length = w ∧ ∀ k ∈ ks, k < 2 ^ h) ?_ ?_)
  · walk_at "zq"
    refine ⟨p, _, _, _, _, rfl, m0, allD_cons (allD_cons allD_nil), rfl, ⟨t2, w, h, rfl, rfl, by omega, by omega, fun ks t3 hk1 hk2 => ⟨_, _, rfl, .here, ?_⟩⟩⟩
    walk_at "zq"
    exact ⟨hk1, hk2⟩
  rintro S M ⟨ks, t3, rfl, rfl, hkl, hks⟩
  clear t2
  obtain ⟨P, hP⟩ : ∃ P, P = (w + 2) * (h + 2) := ⟨_, rfl⟩
  rw [← hP] at b5
  refine zs_seq (zs_nx (N := fun S M => S = [some (.d (.list (ns.map .int))), some (.c p), some (.d q.d), some (.d (.int (w : Int))), some (.d (.int (h : Int))), some (.d (picV ks h)), some (.d (.int 0)), some (.d .none), some (.d (.int (P : Int))), none, none, none, none, none, none, none, none, none] ∧ M = [(p, true, .lst t3.d)]) ?_ ?_)
  · walk_at "zq"
    refine zo_mul (.inl ⟨by omega, by omega⟩) ?_
    rw [show ((w : Int) + 2) * ((h : Int) + 2) = (P : Int) by rw [hP, Int.natCast_mul]; rfl]
    exact ⟨rfl, rfl⟩
  rintro S M ⟨rfl, rfl⟩
  obtain ⟨ask1, ask2⟩ := bef_ask hqr hqn b3 b4 hks (by omega) (by omega)
  rw [hkl] at ask1 ask2
  have hW : (2 ^ (h + 2)) ^ (w + 2) = 2 ^ P := by rw [← Nat.pow_mul, hP, Nat.mul_comm]
  rw [hW] at ask1 ask2
  have hPw : 2 ^ P ≤ 2 ^ 12 := Nat.pow_le_pow_right (by decide) b5
  refine zs_seq (zs_nx (N := fun S M => ∃ c9 c10 c11 c12 c13 : Option ZV, S = [some (.d (.list (ns.map .int))), some (.c p), some (.d q.d), some (.d (.int (w : Int))), some (.d (.int (h : Int))), some (.d (picV ks h)), some (.d (.int (goods q h ks (2 ^ P)))), some (.d (optV h w (leastTo q h ks (2 ^ P)))), some (.d (.int (P : Int))), c9, c10, c11, c12, c13, none, none, none, none] ∧ M = [(p, true, .lst t3.d)]) ?_ ?_)
  · walk_at "zq"
    refine zo_shlN (a := 1) (k := P) (sh_one (by omega)) ?_
    rw [show 1 <<< P = 2 ^ P by rw [Nat.shiftLeft_eq, Nat.one_mul]]
    have hfit : ∀ n, n < 2 ^ P → decide (latL q h (digs (2 ^ (h + 2)) (w + 2) n) = ks) = fitsN q h ks n := fun n hn => by
      rw [Bool.eq_iff_iff, decide_eq_true_iff]
      have := fits_iff (r := q) (h := h) (cols := ks) (n := n) (by rw [hkl, hW]; exact hn)
      rw [this, hkl]
    have hcut : ∀ n, n < 2 ^ P → ∀ x, x < w + 2 → ((cellsN P n).drop (x * (h + 2))).take (h + 2) = bitsV ((digs (2 ^ (h + 2)) (w + 2) n).getD x 0) (h + 2) := fun n hn x hx => by
      rw [hP] at hn ⊢
      exact cells_cut hn hx
    have hdl : ∀ n, n < 2 ^ P → ∀ d ∈ digs (2 ^ (h + 2)) (w + 2) n, d < 2 ^ (h + 2) := fun n hn => digs_lt (by rw [hW]; exact hn)
    obtain ⟨W, hWd⟩ : ∃ W, W = 2 ^ P := ⟨_, rfl⟩
    rw [← hWd] at hPw hfit hcut hdl ⊢
    walk_at "zq"
    refine ⟨by omega, by omega, fun n S M => ∃ c9 c10 c11 c12 c13 : Option ZV, S = [some (.d (.list (ns.map .int))), some (.c p), some (.d q.d), some (.d (.int (w : Int))), some (.d (.int (h : Int))), some (.d (picV ks h)), some (.d (.int (goods q h ks n))), some (.d (optV h w (leastTo q h ks n))), some (.d (.int (P : Int))), c9, c10, c11, c12, c13, none, none, none, none] ∧ M = [(p, true, .lst t3.d)], ⟨_, _, _, _, _, rfl, rfl⟩, ?_, ?_⟩
    · rintro n S M hn ⟨c9, c10, c11, c12, c13, rfl, rfl⟩
      have hn : n < W := by omega
      refine ⟨_, _, zg_name, ?_⟩
      rw [show (0 : Int) + (n : Int) = (n : Int) by omega]
      have hfit := hfit n hn
      have hcut := hcut n hn
      have hdl := hdl n hn
      have hdlen := digs_len (2 ^ (h + 2)) (w + 2) n
      have hcl : (cellsN P n).length = P := by unfold cellsN; rw [List.length_map, List.length_range]
      have hgood : goods q h ks (n + 1) = goods q h ks n + if fitsN q h ks n = true then 1 else 0 := rfl
      have hleast : leastTo q h ks (n + 1) = match leastTo q h ks n with | some m => some m | none => if fitsN q h ks n = true then some n else none := rfl
      refine zs_seq (zs_nx (N := fun S M => S = [some (.d (.list (ns.map .int))), some (.c p), some (.d q.d), some (.d (.int (w : Int))), some (.d (.int (h : Int))), some (.d (picV ks h)), some (.d (.int (goods q h ks n))), some (.d (optV h w (leastTo q h ks n))), some (.d (.int (P : Int))), some (.d (.int (n : Int))), some (.d (.list ((cellsN P n).map fun (k : Nat) => .int (k : Int)))), c11, c12, c13, none, none, none, none] ∧ M = [(p, true, .lst t3.d)]) ?_ ?_)
      · refine zs_asg (lcR_map (m := P) (fun k => .int (((n >>> (P - 1 - k)) % 2 : Nat) : Int)) ?_)
        walk_at "zq"
        refine ⟨rfl, by omega, fun k hk => ⟨_, _, ?_, zg_name, fun D acc => ?_⟩, ?_⟩
        · simp
        · walk_at "zq"
          rw [show (P : Int) - 1 - (k : Int) = ((P - 1 - k : Nat) : Int) by omega]
          refine zo_shrN ?_
          walk_at "zq"
          refine zo_mod (by decide) ?_
          rw [Int.natCast_emod]
          exact ⟨rfl, rfl⟩
        · refine ⟨?_, rfl⟩
          unfold cellsN
          rw [List.map_map]
          rfl
      rintro S M ⟨rfl, rfl⟩
      refine zs_seq (zs_nx (N := fun S M => S = [some (.d (.list (ns.map .int))), some (.c p), some (.d q.d), some (.d (.int (w : Int))), some (.d (.int (h : Int))), some (.d (picV ks h)), some (.d (.int (goods q h ks n))), some (.d (optV h w (leastTo q h ks n))), some (.d (.int (P : Int))), some (.d (.int (n : Int))), some (.d (.list ((cellsN P n).map fun (k : Nat) => .int (k : Int)))), c11, some (.d (picV (digs (2 ^ (h + 2)) (w + 2) n) (h + 2))), c13, none, none, none, none] ∧ M = [(p, true, .lst t3.d)]) ?_ ?_)
      · refine zs_asg (zw_cb (za_cons (lcR_map (m := w + 2) (fun x => natsD (bitsV ((digs (2 ^ (h + 2)) (w + 2) n).getD x 0) (h + 2))) ?_)))
        walk_at "zq"
        refine ⟨rfl, by omega, fun x hx => ⟨_, _, ?_, zg_name, fun D acc => ?_⟩, ?_⟩
        · simp
        · have hxP : (x + 1) * (h + 2) ≤ P := by rw [hP]; exact Nat.mul_le_mul_right _ (by omega)
          have hxm : x * (h + 2) ≤ (x + 1) * (h + 2) := Nat.mul_le_mul_right _ (by omega)
          have hxd : (x + 1) * (h + 2) - x * (h + 2) = h + 2 := by rw [Nat.add_mul, Nat.one_mul]; omega
          walk_at "zq"
          refine zo_mul (.inl ⟨by omega, by omega⟩) ?_
          rw [show (x : Int) * ((h : Int) + 2) = ((x * (h + 2) : Nat) : Int) by rw [Int.natCast_mul]; rfl]
          walk_at "zq"
          refine zo_mul (.inl ⟨by omega, by omega⟩) ?_
          rw [show ((x : Int) + 1) * ((h : Int) + 2) = (((x + 1) * (h + 2) : Nat) : Int) by rw [Int.natCast_mul]; rfl]
          walk_at "zq"
          rw [cut_two _ hxm (by rw [List.length_map, hcl]; exact hxP), hxd, ← List.map_drop, ← List.map_take, hcut x hx]
          refine zc_tupL ?_
          exact ⟨rfl, rfl⟩
        · walk_at "zq"
          refine zc_tupL ?_
          have hmx := getD_map (fun v => natsD (bitsV v (h + 2))) (digs (2 ^ (h + 2)) (w + 2) n)
          rw [hdlen] at hmx
          rw [hmx]
          exact ⟨rfl, rfl⟩
      rintro S M ⟨rfl, rfl⟩
      walk_at "zq"
      refine ⟨_, _, allD_cons (allD_cons allD_nil), rfl, ⟨q, _, h, w, rfl, hdlen, by omega, b1, by omega, rfl⟩, ?_⟩
      walk_at "zq"
      refine zo_eqDD (shp_pic _ _) (shp_pic _ _) ?_
      rw [eqv_pic (fun v hv => latL_lt q h _ v hv) hks, hfit]
      walk_at "zq"
      refine ⟨fun e => ?_, fun e => ?_⟩
      · rw [e, if_pos rfl] at hgood
        rw [e] at hleast
        cases hL : leastTo q h ks n with
        | none =>
          rw [hL] at hleast
          unfold optV
          walk_at "zq"
          refine ⟨some (.d (.int (n : Int))), some (.d (.list ((cellsN P n).map fun (k : Nat) => .int (k : Int)))), c11, some (.d (picV (digs (2 ^ (h + 2)) (w + 2) n) (h + 2))), c13, ?_, rfl⟩
          rw [hgood, hleast]
          rfl
        | some m =>
          rw [hL] at hleast
          unfold optV
          walk_at "zq"
          refine ⟨some (.d (.int (n : Int))), some (.d (.list ((cellsN P n).map fun (k : Nat) => .int (k : Int)))), c11, some (.d (picV (digs (2 ^ (h + 2)) (w + 2) n) (h + 2))), c13, ?_, rfl⟩
          rw [hgood, hleast]
          rfl
      · rw [e, if_neg (by decide), Int.add_zero] at hgood
        walk_at "zq"
        refine ⟨some (.d (.int (n : Int))), some (.d (.list ((cellsN P n).map fun (k : Nat) => .int (k : Int)))), c11, some (.d (picV (digs (2 ^ (h + 2)) (w + 2) n) (h + 2))), c13, ?_, rfl⟩
        rw [hgood, hleast, e]
        cases leastTo q h ks n <;> rfl
    · rintro S M ⟨c9, c10, c11, c12, c13, rfl, rfl⟩
      rw [Int.toNat_natCast]
      exact ⟨_, _, _, _, _, rfl, rfl⟩
  rintro S M ⟨c9, c10, c11, c12, c13, rfl, rfl⟩
  walk_at "zq"
  refine zw_lstD ?_
  walk_at "zq"
  refine ⟨_, _, allD_cons (allD_cons allD_nil), rfl, ask1, ?_⟩
  walk_at "zq"
  refine ⟨_, _, allD_cons (allD_cons allD_nil), rfl, ask2, ?_⟩
  walk_at "zq"
  walk_at "zt"
  refine za_cons (zw_lstD ?_)
  walk_at "zq"
  walk_at "zt"
  walk_at "zq"
  refine ⟨_, _, allD_cons (allD_cons allD_nil), rfl, ⟨.list [.int (goods q h ks (2 ^ P)), optV h w (leastTo q h ks (2 ^ P))], rfl, ?_, rfl⟩, ?_⟩
  · show (decide ((2 : Nat) ≤ 1000) && (al 4 (.int (goods q h ks (2 ^ P))) && (al 4 (optV h w (leastTo q h ks (2 ^ P))) && true))) = true
    rw [al_opt h w _ (by omega) (by omega)]
    rfl
  walk_at "zq"
  refine ⟨p, _, _, _, _, rfl, m0, allD_cons allD_nil, rfl, ⟨t3, 8, rfl, rfl, by decide, by decide, fun l0 t4 hl0 hl1 => ⟨_, _, rfl, .here, ?_⟩⟩⟩
  clear t3
  obtain ⟨l1, rfl⟩ : ∃ l1 : Nat, l0 = (l1 : Int) := ⟨l0.toNat, by omega⟩
  obtain ⟨lg, hlg⟩ : ∃ lg : Nat, lg = 1 + l1 := ⟨_, rfl⟩
  walk_at "zq"
  rw [show (1 + (l1 : Int)) = (lg : Int) by omega, show ((lg : Int) + 2) = ((lg + 2 : Nat) : Int) by omega]
  have hlg1 : 1 ≤ lg := by omega
  have hlg8 : lg ≤ 8 := by omega
  clear hlg hl0 hl1
  refine ⟨p, _, _, _, _, rfl, m0, allD_cons (allD_cons allD_nil), rfl, ⟨t4, lg + 2, 4, rfl, rfl, by omega, by decide, fun xs t5 hx1 hx2 => ⟨_, _, rfl, .here, ?_⟩⟩⟩
  clear t4
  walk_at "zq"
  refine ⟨_, _, allD_cons (allD_cons allD_nil), rfl, ⟨q, xs, 2, lg, rfl, hx1, by omega, hlg1, by decide, rfl⟩, ?_⟩
  have hmk : ∀ k ∈ latL q 2 xs, k < 2 ^ 2 := fun k hk => latL_lt q 2 xs k hk
  have hml : (latL q 2 xs).length = lg := by
    match xs, hx1 with
    | a :: b :: l, hx1 => rw [latL_len]; simpa using hx1
  obtain ⟨as1, as2⟩ := bef_ask (ks := latL q 2 xs) hqr hqn (by decide) (by decide) hmk (by omega) (by omega)
  have hfx : fitsN q 2 (latL q 2 xs) (valL (2 ^ (2 + 2)) xs) = true := by
    refine (fits_iff (by rw [hml, ← hx1]; exact valL_lt hx2)).mpr ?_
    rw [hml, ← hx1, digs_valL hx2]
  have hvl : valL (2 ^ (2 + 2)) xs < (2 ^ (2 + 2)) ^ (lg + 2) := by rw [← hx1]; exact valL_lt hx2
  obtain ⟨m0', hm1, hm2, hm3⟩ := least_ex hfx
  have hmN : m0' < (2 ^ (2 + 2)) ^ (lg + 2) := by omega
  have hgp := goods_pos hm2 hmN
  have hlat := (fits_iff (by rw [hml]; exact hmN)).mp hm2
  rw [hml] at as1 as2 hlat
  rw [leastTo_some hm2 hm3 hmN] at as2
  have hdd := digs_lt hmN
  have hdn := digs_len (2 ^ (2 + 2)) (lg + 2) m0'
  have hgt : PySem.W.dataLt (picV xs 4) (picV (digs (2 ^ (2 + 2)) (lg + 2) m0') 4) = false := dataLt_pic (by rw [hx1, hdn]) hx2 hdd (by rw [show (2 ^ 4 : Nat) = 2 ^ (2 + 2) from rfl, valL_digs hmN]; exact hm1)
  have hT : optV 2 lg (some m0') = picV (digs (2 ^ (2 + 2)) (lg + 2) m0') 4 := rfl
  rw [hT] at as2
  generalize digs (2 ^ (2 + 2)) (lg + 2) m0' = ys at hlat hdd hdn hgt as2
  generalize goods q 2 (latL q 2 xs) ((2 ^ (2 + 2)) ^ (lg + 2)) = gds at as1 hgp
  walk_at "zq"
  refine ⟨_, _, allD_cons (allD_cons allD_nil), rfl, as2, ?_⟩
  walk_at "zq"
  refine ⟨_, _, allD_cons (allD_cons allD_nil), rfl, ⟨q, ys, 2, lg, rfl, hdn, by omega, hlg1, by decide, rfl⟩, ?_⟩
  rw [hlat]
  walk_at "zq"
  refine zo_neDD (shp_pic _ _) (shp_pic _ _) ?_
  rw [eqv_pic hmk hmk, decide_eq_true rfl]
  walk_at "zq"
  refine zo_gtD (alike_pic 4 _ _) (by intro e; cases e) (by have := deep_pic 4 ys; simp [PyData.depth]; omega) ?_
  rw [hgt]
  walk_at "zq"
  refine ⟨_, _, allD_cons (allD_cons allD_nil), rfl, as1, ?_⟩
  walk_at "zq"
  refine ⟨fun e => absurd (of_decide_eq_true e) (by omega), fun _ => ?_⟩
  walk_at "zq"
  refine ⟨p, _, _, _, _, rfl, m0, allD_cons (allD_cons allD_nil), rfl, ⟨t5, lg, 2, rfl, rfl, by omega, by decide, fun js t6 hj1 hj2 => ⟨_, _, rfl, .here, ?_⟩⟩⟩
  obtain ⟨at1, at2⟩ := bef_ask (ks := js) hqr hqn (by decide) (by decide) hj2 (by omega) (by omega)
  rw [hj1] at at1 at2
  walk_at "zq"
  refine ⟨_, _, allD_cons (allD_cons allD_nil), rfl, at2, ?_⟩
  cases hL : leastTo q 2 js ((2 ^ (2 + 2)) ^ (lg + 2)) with
  | none =>
    have hg0 := goods_zero hL
    rw [hg0] at at1
    rw [show optV 2 lg none = .none from rfl]
    walk_at "zq"
    refine ⟨_, _, allD_cons (allD_cons allD_nil), rfl, at1, ?_⟩
    walk_at "zq"
    rfl
  | some m =>
    obtain ⟨hf, hmlt⟩ := leastTo_spec hL
    have hg1 := goods_pos hf hmlt
    have hla := (fits_iff (by rw [hj1]; exact hmlt)).mp hf
    rw [hj1] at hla
    have hdn2 := digs_len (2 ^ (2 + 2)) (lg + 2) m
    rw [show optV 2 lg (some m) = picV (digs (2 ^ (2 + 2)) (lg + 2) m) 4 from rfl]
    generalize digs (2 ^ (2 + 2)) (lg + 2) m = zs at hla hdn2 ⊢
    generalize goods q 2 js ((2 ^ (2 + 2)) ^ (lg + 2)) = gd at at1 hg1
    walk_at "zq"
    refine ⟨_, _, allD_cons (allD_cons allD_nil), rfl, ⟨q, zs, 2, lg, rfl, hdn2, by omega, hlg1, by decide, rfl⟩, ?_⟩
    rw [hla]
    walk_at "zq"
    refine zo_eqDD (shp_pic _ _) (shp_pic _ _) ?_
    rw [eqv_pic hj2 hj2, decide_eq_true rfl]
    walk_at "zq"
    refine ⟨_, _, allD_cons (allD_cons allD_nil), rfl, at1, ?_⟩
    walk_at "zq"
    rw [decide_eq_true (show 0 < gd by omega)]
    try exact ⟨_, rfl, rfl⟩
end K26
namespace K26
open PySem PySem.Spec PyProof.Rows L2 Z
theorem all_mk {l : PySem.W.OpenLaw} {w : World} {K : Fg} {h : Heap} {mg : Str → Option Value} {fa C_Befores C_ColumnStepper f_is_between f_are_counts f_is_rule f_check_rule f_law_alike f_law_taken f_law_pick f_law_some_rule f_law_around f_is_column f_is_picture f_check_arguments f_column_of f_cells_of f_later_cells f_ColumnStepper_init f_ColumnStepper_later f_Befores_init f_Befores_how_many f_Befores_fitting f_Befores_least f_befores_count f_first_before f_law_some_picture f_law_picture_after f_law : Addr} (X : K.In h) (G : h.Ns mainGlobals mg) (hfa : mg "law" = some (.ref fa))
    {t_MOST_ROWS : Tok}
    {t_MOST_COLUMNS : Tok}
    {od_is_between an_is_between : Option Addr} {sl_is_between : Array (Option Value)} {oc_is_between kV_is_between dc_is_between pm_is_between cd_is_between ct_is_between : Value}
    {od_are_counts an_are_counts : Option Addr} {sl_are_counts : Array (Option Value)} {oc_are_counts kV_are_counts dc_are_counts pm_are_counts cd_are_counts ct_are_counts : Value}
    {od_is_rule an_is_rule : Option Addr} {sl_is_rule : Array (Option Value)} {oc_is_rule kV_is_rule dc_is_rule pm_is_rule cd_is_rule ct_is_rule : Value}
    {od_check_rule an_check_rule : Option Addr} {sl_check_rule : Array (Option Value)} {oc_check_rule kV_check_rule dc_check_rule pm_check_rule cd_check_rule ct_check_rule : Value}
    {od_law_alike an_law_alike : Option Addr} {sl_law_alike : Array (Option Value)} {oc_law_alike kV_law_alike dc_law_alike pm_law_alike cd_law_alike ct_law_alike : Value}
    {od_law_taken an_law_taken : Option Addr} {sl_law_taken : Array (Option Value)} {oc_law_taken kV_law_taken dc_law_taken pm_law_taken cd_law_taken ct_law_taken : Value}
    {od_law_pick an_law_pick : Option Addr} {sl_law_pick : Array (Option Value)} {oc_law_pick kV_law_pick dc_law_pick pm_law_pick cd_law_pick ct_law_pick : Value}
    {od_law_some_rule an_law_some_rule : Option Addr} {sl_law_some_rule : Array (Option Value)} {oc_law_some_rule kV_law_some_rule dc_law_some_rule pm_law_some_rule cd_law_some_rule ct_law_some_rule : Value}
    {od_law_around an_law_around : Option Addr} {sl_law_around : Array (Option Value)} {oc_law_around kV_law_around dc_law_around pm_law_around cd_law_around ct_law_around : Value}
    {od_is_column an_is_column : Option Addr} {sl_is_column : Array (Option Value)} {oc_is_column kV_is_column dc_is_column pm_is_column cd_is_column ct_is_column : Value}
    {od_is_picture an_is_picture : Option Addr} {sl_is_picture : Array (Option Value)} {oc_is_picture kV_is_picture dc_is_picture pm_is_picture cd_is_picture ct_is_picture : Value}
    {od_check_arguments an_check_arguments : Option Addr} {sl_check_arguments : Array (Option Value)} {oc_check_arguments kV_check_arguments dc_check_arguments pm_check_arguments cd_check_arguments ct_check_arguments : Value}
    {od_column_of an_column_of : Option Addr} {sl_column_of : Array (Option Value)} {oc_column_of kV_column_of dc_column_of pm_column_of cd_column_of ct_column_of : Value}
    {od_cells_of an_cells_of : Option Addr} {sl_cells_of : Array (Option Value)} {oc_cells_of kV_cells_of dc_cells_of pm_cells_of cd_cells_of ct_cells_of : Value}
    {od_later_cells an_later_cells : Option Addr} {sl_later_cells : Array (Option Value)} {oc_later_cells kV_later_cells dc_later_cells pm_later_cells cd_later_cells ct_later_cells : Value}
    {od_ColumnStepper_init an_ColumnStepper_init : Option Addr} {sl_ColumnStepper_init : Array (Option Value)} {oc_ColumnStepper_init kV_ColumnStepper_init dc_ColumnStepper_init pm_ColumnStepper_init cd_ColumnStepper_init ct_ColumnStepper_init : Value}
    {od_ColumnStepper_later an_ColumnStepper_later : Option Addr} {sl_ColumnStepper_later : Array (Option Value)} {oc_ColumnStepper_later kV_ColumnStepper_later dc_ColumnStepper_later pm_ColumnStepper_later cd_ColumnStepper_later ct_ColumnStepper_later : Value}
    {od_Befores_init an_Befores_init : Option Addr} {sl_Befores_init : Array (Option Value)} {oc_Befores_init kV_Befores_init dc_Befores_init pm_Befores_init cd_Befores_init ct_Befores_init : Value}
    {od_Befores_how_many an_Befores_how_many : Option Addr} {sl_Befores_how_many : Array (Option Value)} {oc_Befores_how_many kV_Befores_how_many dc_Befores_how_many pm_Befores_how_many cd_Befores_how_many ct_Befores_how_many : Value}
    {od_Befores_fitting an_Befores_fitting : Option Addr} {sl_Befores_fitting : Array (Option Value)} {oc_Befores_fitting kV_Befores_fitting dc_Befores_fitting pm_Befores_fitting cd_Befores_fitting ct_Befores_fitting : Value}
    {od_Befores_least an_Befores_least : Option Addr} {sl_Befores_least : Array (Option Value)} {oc_Befores_least kV_Befores_least dc_Befores_least pm_Befores_least cd_Befores_least ct_Befores_least : Value}
    {od_befores_count an_befores_count : Option Addr} {sl_befores_count : Array (Option Value)} {oc_befores_count kV_befores_count dc_befores_count pm_befores_count cd_befores_count ct_befores_count : Value}
    {od_first_before an_first_before : Option Addr} {sl_first_before : Array (Option Value)} {oc_first_before kV_first_before dc_first_before pm_first_before cd_first_before ct_first_before : Value}
    {od_law_some_picture an_law_some_picture : Option Addr} {sl_law_some_picture : Array (Option Value)} {oc_law_some_picture kV_law_some_picture dc_law_some_picture pm_law_some_picture cd_law_some_picture ct_law_some_picture : Value}
    {od_law_picture_after an_law_picture_after : Option Addr} {sl_law_picture_after : Array (Option Value)} {oc_law_picture_after kV_law_picture_after dc_law_picture_after pm_law_picture_after cd_law_picture_after ct_law_picture_after : Value}
    {od_law an_law : Option Addr} {sl_law : Array (Option Value)} {oc_law kV_law dc_law pm_law cd_law ct_law : Value}
    (a_Befores : PySem.W.nsIn K mainGlobals "Befores" = some (some (.ref C_Befores)))
    (pg_Befores : PySem.W.plainGet K C_Befores Str.empty = true)
    (hd_Befores : PySem.W.hasDictIn K C_Befores = true)
    (po_Befores : PySem.W.plainOver K C_Befores = true)
    (sa_Befores : PySem.W.findIn K (.ref C_Befores) "__setattr__" = some (some (.builtin "object.__setattr__")))
    (mk_Befores : PySem.W.makesIn K C_Befores = true)
    (kc_Befores : PySem.W.keepIn K (.ref C_Befores) = true)
    (a_ColumnStepper : PySem.W.nsIn K mainGlobals "ColumnStepper" = some (some (.ref C_ColumnStepper)))
    (pg_ColumnStepper : PySem.W.plainGet K C_ColumnStepper Str.empty = true)
    (hd_ColumnStepper : PySem.W.hasDictIn K C_ColumnStepper = true)
    (po_ColumnStepper : PySem.W.plainOver K C_ColumnStepper = true)
    (sa_ColumnStepper : PySem.W.findIn K (.ref C_ColumnStepper) "__setattr__" = some (some (.builtin "object.__setattr__")))
    (mk_ColumnStepper : PySem.W.makesIn K C_ColumnStepper = true)
    (kc_ColumnStepper : PySem.W.keepIn K (.ref C_ColumnStepper) = true)
    (z_isinstance : PySem.W.nsIn K mainGlobals "isinstance" = some none)
    (z_int : PySem.W.nsIn K mainGlobals "int" = some none)
    (z_bool : PySem.W.nsIn K mainGlobals "bool" = some none)
    (z_tuple : PySem.W.nsIn K mainGlobals "tuple" = some none)
    (z_len : PySem.W.nsIn K mainGlobals "len" = some none)
    (z_list : PySem.W.nsIn K mainGlobals "list" = some none)
    (z_range : PySem.W.nsIn K mainGlobals "range" = some none)
    (z_str : PySem.W.nsIn K mainGlobals "str" = some none)
    (z_MOST_ROWS : PySem.W.nsIn K mainGlobals "MOST_ROWS" = some (some (.int 3 t_MOST_ROWS)))
    (z_all : PySem.W.nsIn K mainGlobals "all" = some none)
    (z_MOST_COLUMNS : PySem.W.nsIn K mainGlobals "MOST_COLUMNS" = some (some (.int 30 t_MOST_COLUMNS)))
    (na_ColumnStepper_many : PySem.W.findIn K (.ref C_ColumnStepper) "many" = some none)
    (na_ColumnStepper_later_cells : PySem.W.findIn K (.ref C_ColumnStepper) "later_cells" = some none)
    (na_Befores_size : PySem.W.findIn K (.ref C_Befores) "size" = some none)
    (na_Befores_pairs : PySem.W.findIn K (.ref C_Befores) "pairs" = some none)
    (na_Befores_ways : PySem.W.findIn K (.ref C_Befores) "ways" = some none)
    (z_divmod : PySem.W.nsIn K mainGlobals "divmod" = some none)
    (z_sum : PySem.W.nsIn K mainGlobals "sum" = some none)
    (z_enumerate : PySem.W.nsIn K mainGlobals "enumerate" = some none)
    (z_min : PySem.W.nsIn K mainGlobals "min" = some none)
    (a_is_between : PySem.W.nsIn K mainGlobals "is_between" = some (some (.ref f_is_between)))
    (l_is_between : K.lookup f_is_between = some ⟨oc_is_between, od_is_between, .func (PySem.W.fnOf "is_between" "is_between" (defArgs s_is_between) (defBody s_is_between) (defScope s_is_between) .none kV_is_between dc_is_between pm_is_between an_is_between cd_is_between ct_is_between), sl_is_between⟩)
    (c_is_between : PySem.W.codeIn K cd_is_between "is_between" = true)
    (k_is_between : PySem.W.keepIn K (.ref f_is_between) = true)
    (a_are_counts : PySem.W.nsIn K mainGlobals "_are_counts" = some (some (.ref f_are_counts)))
    (l_are_counts : K.lookup f_are_counts = some ⟨oc_are_counts, od_are_counts, .func (PySem.W.fnOf "_are_counts" "_are_counts" (defArgs s_are_counts) (defBody s_are_counts) (defScope s_are_counts) .none kV_are_counts dc_are_counts pm_are_counts an_are_counts cd_are_counts ct_are_counts), sl_are_counts⟩)
    (c_are_counts : PySem.W.codeIn K cd_are_counts "_are_counts" = true)
    (k_are_counts : PySem.W.keepIn K (.ref f_are_counts) = true)
    (a_is_rule : PySem.W.nsIn K mainGlobals "_is_rule" = some (some (.ref f_is_rule)))
    (l_is_rule : K.lookup f_is_rule = some ⟨oc_is_rule, od_is_rule, .func (PySem.W.fnOf "_is_rule" "_is_rule" (defArgs s_is_rule) (defBody s_is_rule) (defScope s_is_rule) .none kV_is_rule dc_is_rule pm_is_rule an_is_rule cd_is_rule ct_is_rule), sl_is_rule⟩)
    (c_is_rule : PySem.W.codeIn K cd_is_rule "_is_rule" = true)
    (k_is_rule : PySem.W.keepIn K (.ref f_is_rule) = true)
    (a_check_rule : PySem.W.nsIn K mainGlobals "check_rule" = some (some (.ref f_check_rule)))
    (l_check_rule : K.lookup f_check_rule = some ⟨oc_check_rule, od_check_rule, .func (PySem.W.fnOf "check_rule" "check_rule" (defArgs s_check_rule) (defBody s_check_rule) (defScope s_check_rule) .none kV_check_rule dc_check_rule pm_check_rule an_check_rule cd_check_rule ct_check_rule), sl_check_rule⟩)
    (c_check_rule : PySem.W.codeIn K cd_check_rule "check_rule" = true)
    (k_check_rule : PySem.W.keepIn K (.ref f_check_rule) = true)
    (a_law_alike : PySem.W.nsIn K mainGlobals "_law_alike" = some (some (.ref f_law_alike)))
    (l_law_alike : K.lookup f_law_alike = some ⟨oc_law_alike, od_law_alike, .func (PySem.W.fnOf "_law_alike" "_law_alike" (defArgs s_law_alike) (defBody s_law_alike) (defScope s_law_alike) .none kV_law_alike dc_law_alike pm_law_alike an_law_alike cd_law_alike ct_law_alike), sl_law_alike⟩)
    (c_law_alike : PySem.W.codeIn K cd_law_alike "_law_alike" = true)
    (k_law_alike : PySem.W.keepIn K (.ref f_law_alike) = true)
    (a_law_taken : PySem.W.nsIn K mainGlobals "_law_taken" = some (some (.ref f_law_taken)))
    (l_law_taken : K.lookup f_law_taken = some ⟨oc_law_taken, od_law_taken, .func (PySem.W.fnOf "_law_taken" "_law_taken" (defArgs s_law_taken) (defBody s_law_taken) (defScope s_law_taken) .none kV_law_taken dc_law_taken pm_law_taken an_law_taken cd_law_taken ct_law_taken), sl_law_taken⟩)
    (c_law_taken : PySem.W.codeIn K cd_law_taken "_law_taken" = true)
    (k_law_taken : PySem.W.keepIn K (.ref f_law_taken) = true)
    (a_law_pick : PySem.W.nsIn K mainGlobals "_law_pick" = some (some (.ref f_law_pick)))
    (l_law_pick : K.lookup f_law_pick = some ⟨oc_law_pick, od_law_pick, .func (PySem.W.fnOf "_law_pick" "_law_pick" (defArgs s_law_pick) (defBody s_law_pick) (defScope s_law_pick) .none kV_law_pick dc_law_pick pm_law_pick an_law_pick cd_law_pick ct_law_pick), sl_law_pick⟩)
    (c_law_pick : PySem.W.codeIn K cd_law_pick "_law_pick" = true)
    (k_law_pick : PySem.W.keepIn K (.ref f_law_pick) = true)
    (a_law_some_rule : PySem.W.nsIn K mainGlobals "_law_some_rule" = some (some (.ref f_law_some_rule)))
    (l_law_some_rule : K.lookup f_law_some_rule = some ⟨oc_law_some_rule, od_law_some_rule, .func (PySem.W.fnOf "_law_some_rule" "_law_some_rule" (defArgs s_law_some_rule) (defBody s_law_some_rule) (defScope s_law_some_rule) .none kV_law_some_rule dc_law_some_rule pm_law_some_rule an_law_some_rule cd_law_some_rule ct_law_some_rule), sl_law_some_rule⟩)
    (c_law_some_rule : PySem.W.codeIn K cd_law_some_rule "_law_some_rule" = true)
    (k_law_some_rule : PySem.W.keepIn K (.ref f_law_some_rule) = true)
    (a_law_around : PySem.W.nsIn K mainGlobals "_law_around" = some (some (.ref f_law_around)))
    (l_law_around : K.lookup f_law_around = some ⟨oc_law_around, od_law_around, .func (PySem.W.fnOf "_law_around" "_law_around" (defArgs s_law_around) (defBody s_law_around) (defScope s_law_around) .none kV_law_around dc_law_around pm_law_around an_law_around cd_law_around ct_law_around), sl_law_around⟩)
    (c_law_around : PySem.W.codeIn K cd_law_around "_law_around" = true)
    (k_law_around : PySem.W.keepIn K (.ref f_law_around) = true)
    (a_is_column : PySem.W.nsIn K mainGlobals "_is_column" = some (some (.ref f_is_column)))
    (l_is_column : K.lookup f_is_column = some ⟨oc_is_column, od_is_column, .func (PySem.W.fnOf "_is_column" "_is_column" (defArgs s_is_column) (defBody s_is_column) (defScope s_is_column) .none kV_is_column dc_is_column pm_is_column an_is_column cd_is_column ct_is_column), sl_is_column⟩)
    (c_is_column : PySem.W.codeIn K cd_is_column "_is_column" = true)
    (k_is_column : PySem.W.keepIn K (.ref f_is_column) = true)
    (a_is_picture : PySem.W.nsIn K mainGlobals "_is_picture" = some (some (.ref f_is_picture)))
    (l_is_picture : K.lookup f_is_picture = some ⟨oc_is_picture, od_is_picture, .func (PySem.W.fnOf "_is_picture" "_is_picture" (defArgs s_is_picture) (defBody s_is_picture) (defScope s_is_picture) .none kV_is_picture dc_is_picture pm_is_picture an_is_picture cd_is_picture ct_is_picture), sl_is_picture⟩)
    (c_is_picture : PySem.W.codeIn K cd_is_picture "_is_picture" = true)
    (k_is_picture : PySem.W.keepIn K (.ref f_is_picture) = true)
    (a_check_arguments : PySem.W.nsIn K mainGlobals "_check_arguments" = some (some (.ref f_check_arguments)))
    (l_check_arguments : K.lookup f_check_arguments = some ⟨oc_check_arguments, od_check_arguments, .func (PySem.W.fnOf "_check_arguments" "_check_arguments" (defArgs s_check_arguments) (defBody s_check_arguments) (defScope s_check_arguments) .none kV_check_arguments dc_check_arguments pm_check_arguments an_check_arguments cd_check_arguments ct_check_arguments), sl_check_arguments⟩)
    (c_check_arguments : PySem.W.codeIn K cd_check_arguments "_check_arguments" = true)
    (k_check_arguments : PySem.W.keepIn K (.ref f_check_arguments) = true)
    (a_column_of : PySem.W.nsIn K mainGlobals "column_of" = some (some (.ref f_column_of)))
    (l_column_of : K.lookup f_column_of = some ⟨oc_column_of, od_column_of, .func (PySem.W.fnOf "column_of" "column_of" (defArgs s_column_of) (defBody s_column_of) (defScope s_column_of) .none kV_column_of dc_column_of pm_column_of an_column_of cd_column_of ct_column_of), sl_column_of⟩)
    (c_column_of : PySem.W.codeIn K cd_column_of "column_of" = true)
    (k_column_of : PySem.W.keepIn K (.ref f_column_of) = true)
    (a_cells_of : PySem.W.nsIn K mainGlobals "cells_of" = some (some (.ref f_cells_of)))
    (l_cells_of : K.lookup f_cells_of = some ⟨oc_cells_of, od_cells_of, .func (PySem.W.fnOf "cells_of" "cells_of" (defArgs s_cells_of) (defBody s_cells_of) (defScope s_cells_of) .none kV_cells_of dc_cells_of pm_cells_of an_cells_of cd_cells_of ct_cells_of), sl_cells_of⟩)
    (c_cells_of : PySem.W.codeIn K cd_cells_of "cells_of" = true)
    (k_cells_of : PySem.W.keepIn K (.ref f_cells_of) = true)
    (a_later_cells : PySem.W.nsIn K mainGlobals "_later_cells" = some (some (.ref f_later_cells)))
    (l_later_cells : K.lookup f_later_cells = some ⟨oc_later_cells, od_later_cells, .func (PySem.W.fnOf "_later_cells" "_later_cells" (defArgs s_later_cells) (defBody s_later_cells) (defScope s_later_cells) .none kV_later_cells dc_later_cells pm_later_cells an_later_cells cd_later_cells ct_later_cells), sl_later_cells⟩)
    (c_later_cells : PySem.W.codeIn K cd_later_cells "_later_cells" = true)
    (k_later_cells : PySem.W.keepIn K (.ref f_later_cells) = true)
    (a_ColumnStepper_init : PySem.W.findIn K (.ref C_ColumnStepper) "__init__" = some (some (.ref f_ColumnStepper_init)))
    (i_ColumnStepper_init : PySem.W.isFn K (.ref f_ColumnStepper_init) = true)
    (l_ColumnStepper_init : K.lookup f_ColumnStepper_init = some ⟨oc_ColumnStepper_init, od_ColumnStepper_init, .func (PySem.W.fnOf "__init__" "ColumnStepper.__init__" (defArgs s_ColumnStepper_init) (defBody s_ColumnStepper_init) (defScope s_ColumnStepper_init) .none kV_ColumnStepper_init dc_ColumnStepper_init pm_ColumnStepper_init an_ColumnStepper_init cd_ColumnStepper_init ct_ColumnStepper_init), sl_ColumnStepper_init⟩)
    (c_ColumnStepper_init : PySem.W.codeIn K cd_ColumnStepper_init "ColumnStepper.__init__" = true)
    (k_ColumnStepper_init : PySem.W.keepIn K (.ref f_ColumnStepper_init) = true)
    (a_ColumnStepper_later : PySem.W.findIn K (.ref C_ColumnStepper) "later" = some (some (.ref f_ColumnStepper_later)))
    (i_ColumnStepper_later : PySem.W.isFn K (.ref f_ColumnStepper_later) = true)
    (l_ColumnStepper_later : K.lookup f_ColumnStepper_later = some ⟨oc_ColumnStepper_later, od_ColumnStepper_later, .func (PySem.W.fnOf "later" "ColumnStepper.later" (defArgs s_ColumnStepper_later) (defBody s_ColumnStepper_later) (defScope s_ColumnStepper_later) .none kV_ColumnStepper_later dc_ColumnStepper_later pm_ColumnStepper_later an_ColumnStepper_later cd_ColumnStepper_later ct_ColumnStepper_later), sl_ColumnStepper_later⟩)
    (c_ColumnStepper_later : PySem.W.codeIn K cd_ColumnStepper_later "ColumnStepper.later" = true)
    (k_ColumnStepper_later : PySem.W.keepIn K (.ref f_ColumnStepper_later) = true)
    (a_Befores_init : PySem.W.findIn K (.ref C_Befores) "__init__" = some (some (.ref f_Befores_init)))
    (i_Befores_init : PySem.W.isFn K (.ref f_Befores_init) = true)
    (l_Befores_init : K.lookup f_Befores_init = some ⟨oc_Befores_init, od_Befores_init, .func (PySem.W.fnOf "__init__" "Befores.__init__" (defArgs s_Befores_init) (defBody s_Befores_init) (defScope s_Befores_init) .none kV_Befores_init dc_Befores_init pm_Befores_init an_Befores_init cd_Befores_init ct_Befores_init), sl_Befores_init⟩)
    (c_Befores_init : PySem.W.codeIn K cd_Befores_init "Befores.__init__" = true)
    (k_Befores_init : PySem.W.keepIn K (.ref f_Befores_init) = true)
    (a_Befores_how_many : PySem.W.findIn K (.ref C_Befores) "how_many" = some (some (.ref f_Befores_how_many)))
    (i_Befores_how_many : PySem.W.isFn K (.ref f_Befores_how_many) = true)
    (l_Befores_how_many : K.lookup f_Befores_how_many = some ⟨oc_Befores_how_many, od_Befores_how_many, .func (PySem.W.fnOf "how_many" "Befores.how_many" (defArgs s_Befores_how_many) (defBody s_Befores_how_many) (defScope s_Befores_how_many) .none kV_Befores_how_many dc_Befores_how_many pm_Befores_how_many an_Befores_how_many cd_Befores_how_many ct_Befores_how_many), sl_Befores_how_many⟩)
    (c_Befores_how_many : PySem.W.codeIn K cd_Befores_how_many "Befores.how_many" = true)
    (k_Befores_how_many : PySem.W.keepIn K (.ref f_Befores_how_many) = true)
    (a_Befores_fitting : PySem.W.findIn K (.ref C_Befores) "_fitting" = some (some (.ref f_Befores_fitting)))
    (i_Befores_fitting : PySem.W.isFn K (.ref f_Befores_fitting) = true)
    (l_Befores_fitting : K.lookup f_Befores_fitting = some ⟨oc_Befores_fitting, od_Befores_fitting, .func (PySem.W.fnOf "_fitting" "Befores._fitting" (defArgs s_Befores_fitting) (defBody s_Befores_fitting) (defScope s_Befores_fitting) .none kV_Befores_fitting dc_Befores_fitting pm_Befores_fitting an_Befores_fitting cd_Befores_fitting ct_Befores_fitting), sl_Befores_fitting⟩)
    (c_Befores_fitting : PySem.W.codeIn K cd_Befores_fitting "Befores._fitting" = true)
    (k_Befores_fitting : PySem.W.keepIn K (.ref f_Befores_fitting) = true)
    (a_Befores_least : PySem.W.findIn K (.ref C_Befores) "least" = some (some (.ref f_Befores_least)))
    (i_Befores_least : PySem.W.isFn K (.ref f_Befores_least) = true)
    (l_Befores_least : K.lookup f_Befores_least = some ⟨oc_Befores_least, od_Befores_least, .func (PySem.W.fnOf "least" "Befores.least" (defArgs s_Befores_least) (defBody s_Befores_least) (defScope s_Befores_least) .none kV_Befores_least dc_Befores_least pm_Befores_least an_Befores_least cd_Befores_least ct_Befores_least), sl_Befores_least⟩)
    (c_Befores_least : PySem.W.codeIn K cd_Befores_least "Befores.least" = true)
    (k_Befores_least : PySem.W.keepIn K (.ref f_Befores_least) = true)
    (a_befores_count : PySem.W.nsIn K mainGlobals "befores_count" = some (some (.ref f_befores_count)))
    (l_befores_count : K.lookup f_befores_count = some ⟨oc_befores_count, od_befores_count, .func (PySem.W.fnOf "befores_count" "befores_count" (defArgs s_befores_count) (defBody s_befores_count) (defScope s_befores_count) .none kV_befores_count dc_befores_count pm_befores_count an_befores_count cd_befores_count ct_befores_count), sl_befores_count⟩)
    (c_befores_count : PySem.W.codeIn K cd_befores_count "befores_count" = true)
    (k_befores_count : PySem.W.keepIn K (.ref f_befores_count) = true)
    (a_first_before : PySem.W.nsIn K mainGlobals "first_before" = some (some (.ref f_first_before)))
    (l_first_before : K.lookup f_first_before = some ⟨oc_first_before, od_first_before, .func (PySem.W.fnOf "first_before" "first_before" (defArgs s_first_before) (defBody s_first_before) (defScope s_first_before) .none kV_first_before dc_first_before pm_first_before an_first_before cd_first_before ct_first_before), sl_first_before⟩)
    (c_first_before : PySem.W.codeIn K cd_first_before "first_before" = true)
    (k_first_before : PySem.W.keepIn K (.ref f_first_before) = true)
    (a_law_some_picture : PySem.W.nsIn K mainGlobals "_law_some_picture" = some (some (.ref f_law_some_picture)))
    (l_law_some_picture : K.lookup f_law_some_picture = some ⟨oc_law_some_picture, od_law_some_picture, .func (PySem.W.fnOf "_law_some_picture" "_law_some_picture" (defArgs s_law_some_picture) (defBody s_law_some_picture) (defScope s_law_some_picture) .none kV_law_some_picture dc_law_some_picture pm_law_some_picture an_law_some_picture cd_law_some_picture ct_law_some_picture), sl_law_some_picture⟩)
    (c_law_some_picture : PySem.W.codeIn K cd_law_some_picture "_law_some_picture" = true)
    (k_law_some_picture : PySem.W.keepIn K (.ref f_law_some_picture) = true)
    (a_law_picture_after : PySem.W.nsIn K mainGlobals "_law_picture_after" = some (some (.ref f_law_picture_after)))
    (l_law_picture_after : K.lookup f_law_picture_after = some ⟨oc_law_picture_after, od_law_picture_after, .func (PySem.W.fnOf "_law_picture_after" "_law_picture_after" (defArgs s_law_picture_after) (defBody s_law_picture_after) (defScope s_law_picture_after) .none kV_law_picture_after dc_law_picture_after pm_law_picture_after an_law_picture_after cd_law_picture_after ct_law_picture_after), sl_law_picture_after⟩)
    (c_law_picture_after : PySem.W.codeIn K cd_law_picture_after "_law_picture_after" = true)
    (k_law_picture_after : PySem.W.keepIn K (.ref f_law_picture_after) = true)
    (a_law : PySem.W.nsIn K mainGlobals "law" = some (some (.ref f_law)))
    (l_law : K.lookup f_law = some ⟨oc_law, od_law, .func (PySem.W.fnOf "law" "law" (defArgs s_law) (defBody s_law) (defScope s_law) .none kV_law dc_law pm_law an_law cd_law ct_law), sl_law⟩)
    (c_law : PySem.W.codeIn K cd_law "law" = true)
    (k_law : PySem.W.keepIn K (.ref f_law) = true) :
    ∃ fd : FuncData, (∀ (s : Shared) (v : Value), BindsTo s fd ⟨[v], []⟩ [("script", v)]) ∧ ∀ base : Heap, K.In base → base.Ns mainGlobals mg → FnOk l.prog w K mg base (L2.CX l.prog w) 9 fa fd ["script"] (spD K 1 R_law) := by
  have e := hfa.symm.trans (PySem.W.mg_of X G a_law)
  cases e
  have g_Befores := PySem.W.mg_of X G a_Befores
  have cl_Befores : Cls K C_Befores := ⟨pg_Befores, hd_Befores, po_Befores, sa_Befores⟩
  have g_ColumnStepper := PySem.W.mg_of X G a_ColumnStepper
  have cl_ColumnStepper : Cls K C_ColumnStepper := ⟨pg_ColumnStepper, hd_ColumnStepper, po_ColumnStepper, sa_ColumnStepper⟩
  have m_isinstance := PySem.W.mg_none_of X G z_isinstance
  have m_int := PySem.W.mg_none_of X G z_int
  have m_bool := PySem.W.mg_none_of X G z_bool
  have m_tuple := PySem.W.mg_none_of X G z_tuple
  have m_len := PySem.W.mg_none_of X G z_len
  have m_list := PySem.W.mg_none_of X G z_list
  have m_range := PySem.W.mg_none_of X G z_range
  have m_str := PySem.W.mg_none_of X G z_str
  have g_MOST_ROWS : ∃ u, mg "MOST_ROWS" = some u ∧ RelV (.int 3) u := ⟨_, PySem.W.mg_of X G z_MOST_ROWS, _, rfl⟩
  have m_all := PySem.W.mg_none_of X G z_all
  have g_MOST_COLUMNS : ∃ u, mg "MOST_COLUMNS" = some u ∧ RelV (.int 30) u := ⟨_, PySem.W.mg_of X G z_MOST_COLUMNS, _, rfl⟩
  have m_divmod := PySem.W.mg_none_of X G z_divmod
  have m_sum := PySem.W.mg_none_of X G z_sum
  have m_enumerate := PySem.W.mg_none_of X G z_enumerate
  have m_min := PySem.W.mg_none_of X G z_min
  have F_is_between := fun_mk (st := s_is_between) l_is_between c_is_between k_is_between
  have b_is_between := F_is_between.binds (ps := ["value", "low", "high"]) fun _ _ _ _ _ _ us hl => match us, hl with | [_, _, _], _ => rfl
  have F_are_counts := fun_mk (st := s_are_counts) l_are_counts c_are_counts k_are_counts
  have b_are_counts := F_are_counts.binds (ps := ["value", "least"]) fun _ _ _ _ _ _ us hl => match us, hl with | [_, _], _ => rfl
  have F_is_rule := fun_mk (st := s_is_rule) l_is_rule c_is_rule k_is_rule
  have b_is_rule := F_is_rule.binds (ps := ["value"]) fun _ _ _ _ _ _ us hl => match us, hl with | [_], _ => rfl
  have F_check_rule := fun_mk (st := s_check_rule) l_check_rule c_check_rule k_check_rule
  have b_check_rule := F_check_rule.binds (ps := ["rule"]) fun _ _ _ _ _ _ us hl => match us, hl with | [_], _ => rfl
  have F_law_alike := fun_mk (st := s_law_alike) l_law_alike c_law_alike k_law_alike
  have b_law_alike := F_law_alike.binds (ps := ["found", "due"]) fun _ _ _ _ _ _ us hl => match us, hl with | [_, _], _ => rfl
  have F_law_taken := fun_mk (st := s_law_taken) l_law_taken c_law_taken k_law_taken
  have b_law_taken := F_law_taken.binds (ps := ["row", "many"]) fun _ _ _ _ _ _ us hl => match us, hl with | [_, _], _ => rfl
  have F_law_pick := fun_mk (st := s_law_pick) l_law_pick c_law_pick k_law_pick
  have b_law_pick := F_law_pick.binds (ps := ["row", "things"]) fun _ _ _ _ _ _ us hl => match us, hl with | [_, _], _ => rfl
  have F_law_some_rule := fun_mk (st := s_law_some_rule) l_law_some_rule c_law_some_rule k_law_some_rule
  have b_law_some_rule := F_law_some_rule.binds (ps := ["row"]) fun _ _ _ _ _ _ us hl => match us, hl with | [_], _ => rfl
  have F_law_around := fun_mk (st := s_law_around) l_law_around c_law_around k_law_around
  have b_law_around := F_law_around.binds (ps := ["place"]) fun _ _ _ _ _ _ us hl => match us, hl with | [_], _ => rfl
  have F_is_column := fun_mk (st := s_is_column) l_is_column c_is_column k_is_column
  have b_is_column := F_is_column.binds (ps := ["value"]) fun _ _ _ _ _ _ us hl => match us, hl with | [_], _ => rfl
  have F_is_picture := fun_mk (st := s_is_picture) l_is_picture c_is_picture k_is_picture
  have b_is_picture := F_is_picture.binds (ps := ["value"]) fun _ _ _ _ _ _ us hl => match us, hl with | [_], _ => rfl
  have F_check_arguments := fun_mk (st := s_check_arguments) l_check_arguments c_check_arguments k_check_arguments
  have b_check_arguments := F_check_arguments.binds (ps := ["rule", "picture"]) fun _ _ _ _ _ _ us hl => match us, hl with | [_, _], _ => rfl
  have F_column_of := fun_mk (st := s_column_of) l_column_of c_column_of k_column_of
  have b_column_of := F_column_of.binds (ps := ["cells"]) fun _ _ _ _ _ _ us hl => match us, hl with | [_], _ => rfl
  have F_cells_of := fun_mk (st := s_cells_of) l_cells_of c_cells_of k_cells_of
  have b_cells_of := F_cells_of.binds (ps := ["column", "many"]) fun _ _ _ _ _ _ us hl => match us, hl with | [_, _], _ => rfl
  have F_later_cells := fun_mk (st := s_later_cells) l_later_cells c_later_cells k_later_cells
  have b_later_cells := F_later_cells.binds (ps := ["rule"]) fun _ _ _ _ _ _ us hl => match us, hl with | [_], _ => rfl
  have F_ColumnStepper_init := fun_mk (st := s_ColumnStepper_init) l_ColumnStepper_init c_ColumnStepper_init k_ColumnStepper_init
  have b_ColumnStepper_init := F_ColumnStepper_init.binds (ps := ["self", "rule", "many"]) fun _ _ _ _ _ _ us hl => match us, hl with | [_, _, _], _ => rfl
  have F_ColumnStepper_later := fun_mk (st := s_ColumnStepper_later) l_ColumnStepper_later c_ColumnStepper_later k_ColumnStepper_later
  have b_ColumnStepper_later := F_ColumnStepper_later.binds (ps := ["self", "left", "middle", "right"]) fun _ _ _ _ _ _ us hl => match us, hl with | [_, _, _, _], _ => rfl
  have F_Befores_init := fun_mk (st := s_Befores_init) l_Befores_init c_Befores_init k_Befores_init
  have b_Befores_init := F_Befores_init.binds (ps := ["self", "rule", "high"]) fun _ _ _ _ _ _ us hl => match us, hl with | [_, _, _], _ => rfl
  have F_Befores_how_many := fun_mk (st := s_Befores_how_many) l_Befores_how_many c_Befores_how_many k_Befores_how_many
  have b_Befores_how_many := F_Befores_how_many.binds (ps := ["self", "columns"]) fun _ _ _ _ _ _ us hl => match us, hl with | [_, _], _ => rfl
  have F_Befores_fitting := fun_mk (st := s_Befores_fitting) l_Befores_fitting c_Befores_fitting k_Befores_fitting
  have b_Befores_fitting := F_Befores_fitting.binds (ps := ["self", "columns"]) fun _ _ _ _ _ _ us hl => match us, hl with | [_, _], _ => rfl
  have F_Befores_least := fun_mk (st := s_Befores_least) l_Befores_least c_Befores_least k_Befores_least
  have b_Befores_least := F_Befores_least.binds (ps := ["self", "columns"]) fun _ _ _ _ _ _ us hl => match us, hl with | [_, _], _ => rfl
  have F_befores_count := fun_mk (st := s_befores_count) l_befores_count c_befores_count k_befores_count
  have b_befores_count := F_befores_count.binds (ps := ["rule", "picture"]) fun _ _ _ _ _ _ us hl => match us, hl with | [_, _], _ => rfl
  have F_first_before := fun_mk (st := s_first_before) l_first_before c_first_before k_first_before
  have b_first_before := F_first_before.binds (ps := ["rule", "picture"]) fun _ _ _ _ _ _ us hl => match us, hl with | [_, _], _ => rfl
  have F_law_some_picture := fun_mk (st := s_law_some_picture) l_law_some_picture c_law_some_picture k_law_some_picture
  have b_law_some_picture := F_law_some_picture.binds (ps := ["row", "wide", "high"]) fun _ _ _ _ _ _ us hl => match us, hl with | [_, _, _], _ => rfl
  have F_law_picture_after := fun_mk (st := s_law_picture_after) l_law_picture_after c_law_picture_after k_law_picture_after
  have b_law_picture_after := F_law_picture_after.binds (ps := ["rule", "picture"]) fun _ _ _ _ _ _ us hl => match us, hl with | [_, _], _ => rfl
  have F_law := fun_mk (st := s_law) l_law c_law k_law
  refine ⟨PySem.W.fnOf "law" "law" (defArgs s_law) (defBody s_law) (defScope s_law) .none kV_law dc_law pm_law an_law cd_law ct_law, fun s v => .of_eq rfl, fun base _ _ => ?_⟩
  have c_is_between : Cal l.prog w K mg base 1 "is_between" (spD K 3 R_between) := ⟨_, _, _, ok_is_between F_is_between (m_isinstance := m_isinstance) (m_int := m_int) (m_bool := m_bool), PySem.W.mg_of X G a_is_between, k_is_between, b_is_between⟩
  have c__are_counts : Cal l.prog w K mg base 2 "_are_counts" (spD K 2 R_counts) := ⟨_, _, _, ok_are_counts F_are_counts (m_isinstance := m_isinstance) (m_tuple := m_tuple) (c_is_between := c_is_between), PySem.W.mg_of X G a_are_counts, k_are_counts, b_are_counts⟩
  have c__is_rule : Cal l.prog w K mg base 3 "_is_rule" (spD K 1 R_isRule) := ⟨_, _, _, ok_is_rule F_is_rule (m_len := m_len) (m_isinstance := m_isinstance) (m_tuple := m_tuple) (c_is_between := c_is_between) (c__are_counts := c__are_counts), PySem.W.mg_of X G a_is_rule, k_is_rule, b_is_rule⟩
  have c_check_rule : Cal l.prog w K mg base 4 "check_rule" (spD K 1 R_chkRule) := ⟨_, _, _, ok_check_rule F_check_rule (c__is_rule := c__is_rule), PySem.W.mg_of X G a_check_rule, k_check_rule, b_check_rule⟩
  have z0_law_alike : Cal l.prog w K mg base 1 "_law_alike" (spD K 2 (R_alike 0)) := ⟨_, _, _, alike_vac F_law_alike, PySem.W.mg_of X G a_law_alike, k_law_alike, b_law_alike⟩
  have z1_law_alike : Cal l.prog w K mg base 2 "_law_alike" (spD K 2 (R_alike 1)) := ⟨_, _, _, ok_law_alike (j := 1) (n := 0) F_law_alike (m_isinstance := m_isinstance) (m_list := m_list) (m_tuple := m_tuple) (m_len := m_len) (m_range := m_range) (m_str := m_str) (m_bool := m_bool) (m_int := m_int) (c__law_alike := z0_law_alike), PySem.W.mg_of X G a_law_alike, k_law_alike, b_law_alike⟩
  have z2_law_alike : Cal l.prog w K mg base 3 "_law_alike" (spD K 2 (R_alike 2)) := ⟨_, _, _, ok_law_alike (j := 2) (n := 1) F_law_alike (m_isinstance := m_isinstance) (m_list := m_list) (m_tuple := m_tuple) (m_len := m_len) (m_range := m_range) (m_str := m_str) (m_bool := m_bool) (m_int := m_int) (c__law_alike := z1_law_alike), PySem.W.mg_of X G a_law_alike, k_law_alike, b_law_alike⟩
  have z3_law_alike : Cal l.prog w K mg base 4 "_law_alike" (spD K 2 (R_alike 3)) := ⟨_, _, _, ok_law_alike (j := 3) (n := 2) F_law_alike (m_isinstance := m_isinstance) (m_list := m_list) (m_tuple := m_tuple) (m_len := m_len) (m_range := m_range) (m_str := m_str) (m_bool := m_bool) (m_int := m_int) (c__law_alike := z2_law_alike), PySem.W.mg_of X G a_law_alike, k_law_alike, b_law_alike⟩
  have z4_law_alike : Cal l.prog w K mg base 5 "_law_alike" (spD K 2 (R_alike 4)) := ⟨_, _, _, ok_law_alike (j := 4) (n := 3) F_law_alike (m_isinstance := m_isinstance) (m_list := m_list) (m_tuple := m_tuple) (m_len := m_len) (m_range := m_range) (m_str := m_str) (m_bool := m_bool) (m_int := m_int) (c__law_alike := z3_law_alike), PySem.W.mg_of X G a_law_alike, k_law_alike, b_law_alike⟩
  have z5_law_alike : Cal l.prog w K mg base 6 "_law_alike" (spD K 2 (R_alike 5)) := ⟨_, _, _, ok_law_alike (j := 5) (n := 4) F_law_alike (m_isinstance := m_isinstance) (m_list := m_list) (m_tuple := m_tuple) (m_len := m_len) (m_range := m_range) (m_str := m_str) (m_bool := m_bool) (m_int := m_int) (c__law_alike := z4_law_alike), PySem.W.mg_of X G a_law_alike, k_law_alike, b_law_alike⟩
  have c__law_alike := z5_law_alike
  have c__law_taken : Cal l.prog w K mg base 1 "_law_taken" (spC K 1 R_taken) := ⟨_, _, _, ok_law_taken F_law_taken (m_int := m_int) (m_len := m_len), PySem.W.mg_of X G a_law_taken, k_law_taken, b_law_taken⟩
  have c__law_pick : Cal l.prog w K mg base 2 "_law_pick" (spC K 1 R_pick) := ⟨_, _, _, ok_law_pick F_law_pick (m_len := m_len) (c__law_taken := c__law_taken), PySem.W.mg_of X G a_law_pick, k_law_pick, b_law_pick⟩
  have c__law_some_rule : Cal l.prog w K mg base 3 "_law_some_rule" (spC K 0 R_someRule) := ⟨_, _, _, ok_law_some_rule F_law_some_rule (m_tuple := m_tuple) (m_range := m_range) (c__law_taken := c__law_taken) (c__law_pick := c__law_pick), PySem.W.mg_of X G a_law_some_rule, k_law_some_rule, b_law_some_rule⟩
  have c__law_around : Cal l.prog w K mg base 1 "_law_around" (spD K 1 R_laround) := ⟨_, _, _, ok_law_around F_law_around , PySem.W.mg_of X G a_law_around, k_law_around, b_law_around⟩
  have c__is_column : Cal l.prog w K mg base 2 "_is_column" (spD K 1 R_isCol) := ⟨_, _, _, ok_is_column F_is_column (m_len := m_len) (g_MOST_ROWS := g_MOST_ROWS) (m_isinstance := m_isinstance) (m_tuple := m_tuple) (m_all := m_all) (c_is_between := c_is_between), PySem.W.mg_of X G a_is_column, k_is_column, b_is_column⟩
  have c__is_picture : Cal l.prog w K mg base 3 "_is_picture" (spD K 1 R_isPic) := ⟨_, _, _, ok_is_picture F_is_picture (m_len := m_len) (g_MOST_COLUMNS := g_MOST_COLUMNS) (m_isinstance := m_isinstance) (m_tuple := m_tuple) (m_all := m_all) (c__is_column := c__is_column), PySem.W.mg_of X G a_is_picture, k_is_picture, b_is_picture⟩
  have c__check_arguments : Cal l.prog w K mg base 5 "_check_arguments" (spD K 2 R_chkArgs) := ⟨_, _, _, ok_check_arguments F_check_arguments (c_check_rule := c_check_rule) (c__is_picture := c__is_picture), PySem.W.mg_of X G a_check_arguments, k_check_arguments, b_check_arguments⟩
  have c_column_of : Cal l.prog w K mg base 1 "column_of" (spD K 1 R_colOf) := ⟨_, _, _, ok_column_of F_column_of , PySem.W.mg_of X G a_column_of, k_column_of, b_column_of⟩
  have c_cells_of : Cal l.prog w K mg base 1 "cells_of" (spD K 2 R_cellsOf) := ⟨_, _, _, ok_cells_of F_cells_of (m_tuple := m_tuple) (m_range := m_range), PySem.W.mg_of X G a_cells_of, k_cells_of, b_cells_of⟩
  have c__later_cells : Cal l.prog w K mg base 1 "_later_cells" (spD K 1 R_later9) := ⟨_, _, _, ok_later_cells F_later_cells (m_range := m_range), PySem.W.mg_of X G a_later_cells, k_later_cells, b_later_cells⟩
  have c_ColumnStepper_init : Mkr l.prog w K mg base 2 "ColumnStepper" C_ColumnStepper (spO K C_ColumnStepper 2 R_csInit) := ⟨_, _, _, ok_ColumnStepper_init F_ColumnStepper_init (na_ColumnStepper_many := na_ColumnStepper_many) (na_ColumnStepper_later_cells := na_ColumnStepper_later_cells) (c__later_cells := c__later_cells) (cl_ColumnStepper := cl_ColumnStepper), ⟨mk_ColumnStepper, a_ColumnStepper_init, i_ColumnStepper_init, kc_ColumnStepper⟩, g_ColumnStepper, b_ColumnStepper_init⟩
  have c_ColumnStepper_later : Mtd l.prog w K mg base 1 C_ColumnStepper "later" (spO K C_ColumnStepper 3 R_csLater) := ⟨_, _, _, ok_ColumnStepper_later F_ColumnStepper_later (m_range := m_range) (na_ColumnStepper_many := na_ColumnStepper_many) (na_ColumnStepper_later_cells := na_ColumnStepper_later_cells) (cl_ColumnStepper := cl_ColumnStepper), ⟨a_ColumnStepper_later, i_ColumnStepper_later, k_ColumnStepper_later⟩, b_ColumnStepper_later⟩
  have c_Befores_init : Mkr l.prog w K mg base 4 "Befores" C_Befores (spO K C_Befores 2 R_bfInit) := ⟨_, _, _, ok_Befores_init F_Befores_init (na_Befores_size := na_Befores_size) (na_Befores_pairs := na_Befores_pairs) (na_Befores_ways := na_Befores_ways) (m_range := m_range) (m_divmod := m_divmod) (c_ColumnStepper_init := c_ColumnStepper_init) (c_ColumnStepper_later := c_ColumnStepper_later) (cl_Befores := cl_Befores) (cl_ColumnStepper := cl_ColumnStepper), ⟨mk_Befores, a_Befores_init, i_Befores_init, kc_Befores⟩, g_Befores, b_Befores_init⟩
  have c_Befores_how_many : Mtd l.prog w K mg base 1 C_Befores "how_many" (spO K C_Befores 1 R_howMany) := ⟨_, _, _, ok_Befores_how_many F_Befores_how_many (na_Befores_pairs := na_Befores_pairs) (na_Befores_ways := na_Befores_ways) (m_sum := m_sum) (cl_Befores := cl_Befores), ⟨a_Befores_how_many, i_Befores_how_many, k_Befores_how_many⟩, b_Befores_how_many⟩
  have c_Befores_fitting : Mtd l.prog w K mg base 1 C_Befores "_fitting" (spO K C_Befores 1 R_fitting) := ⟨_, _, _, ok_Befores_fitting F_Befores_fitting (na_Befores_pairs := na_Befores_pairs) (na_Befores_ways := na_Befores_ways) (cl_Befores := cl_Befores), ⟨a_Befores_fitting, i_Befores_fitting, k_Befores_fitting⟩, b_Befores_fitting⟩
  have c_Befores_least : Mtd l.prog w K mg base 2 C_Befores "least" (spO K C_Befores 1 R_least) := ⟨_, _, _, ok_Befores_least F_Befores_least (na_Befores_size := na_Befores_size) (m_enumerate := m_enumerate) (m_min := m_min) (na_Befores_ways := na_Befores_ways) (c_Befores_fitting := c_Befores_fitting) (cl_Befores := cl_Befores), ⟨a_Befores_least, i_Befores_least, k_Befores_least⟩, b_Befores_least⟩
  have c_befores_count : Cal l.prog w K mg base 6 "befores_count" (spD K 2 R_befCount) := ⟨_, _, _, ok_befores_count F_befores_count (m_len := m_len) (c__check_arguments := c__check_arguments) (c_Befores_how_many := c_Befores_how_many) (c_Befores_init := c_Befores_init) (c_column_of := c_column_of) (cl_Befores := cl_Befores), PySem.W.mg_of X G a_befores_count, k_befores_count, b_befores_count⟩
  have c_first_before : Cal l.prog w K mg base 6 "first_before" (spD K 2 R_firstBefore) := ⟨_, _, _, ok_first_before F_first_before (m_len := m_len) (m_tuple := m_tuple) (c__check_arguments := c__check_arguments) (c_Befores_least := c_Befores_least) (c_Befores_init := c_Befores_init) (c_column_of := c_column_of) (c_cells_of := c_cells_of) (cl_Befores := cl_Befores), PySem.W.mg_of X G a_first_before, k_first_before, b_first_before⟩
  have c__law_some_picture : Cal l.prog w K mg base 2 "_law_some_picture" (spC K 2 R_somePic) := ⟨_, _, _, ok_law_some_picture F_law_some_picture (m_tuple := m_tuple) (m_range := m_range) (c__law_taken := c__law_taken), PySem.W.mg_of X G a_law_some_picture, k_law_some_picture, b_law_some_picture⟩
  have c__law_picture_after : Cal l.prog w K mg base 2 "_law_picture_after" (spD K 2 R_picAfter) := ⟨_, _, _, ok_law_picture_after F_law_picture_after (m_range := m_range) (m_len := m_len) (m_sum := m_sum) (m_int := m_int) (m_tuple := m_tuple) (c__law_around := c__law_around), PySem.W.mg_of X G a_law_picture_after, k_law_picture_after, b_law_picture_after⟩
  exact ok_law F_law (m_range := m_range) (m_int := m_int) (m_tuple := m_tuple) (c__law_some_rule := c__law_some_rule) (c__law_pick := c__law_pick) (c__law_some_picture := c__law_some_picture) (c__law_picture_after := c__law_picture_after) (c__law_alike := c__law_alike) (c_first_before := c_first_before) (c_befores_count := c_befores_count) (c__law_taken := c__law_taken)
theorem dpa_ints {K : Fg} {G : Hp} : ∀ ns : List Int, DzAll K G (ns.map V.int) (ns.map PyData.int)
  | [] => .nil
  | n :: ns => .cons (Dz.int n) (dpa_ints ns)
theorem walk {l : PySem.W.OpenLaw} {q : Program} {loose : List Str} {XP : (Str → Option Value) → Heap → Prop} {YP : World → Heap → Prop} {d : DefRec} {K : Params → PySem.W.Frag} (hn : l.most = some 63) (hdf : d.params.defaults = [])
    (hY : ∀ (w : World) (h : Heap), YP w h → (K w.params).In h)
    (F : ∀ (w : World) (mg : Str → Option Value) (fa : Addr) (h : Heap), (K w.params).In h → h.Ns mainGlobals mg → mg d.name = some (.ref fa) →
      ∃ fd : FuncData, (∀ (s : Shared) (u : Value), BindsTo s fd ⟨[u], []⟩ [("script", u)]) ∧ ∀ base : Heap, (K w.params).In base → base.Ns mainGlobals mg → FnOk l.prog w (K w.params) mg base (L2.CX l.prog w) 9 fa fd ["script"] (spD (K w.params) 1 R_law)) :
    PySem.W.WalkO q loose XP YP l.row.toRowW d [] (fun f vs => PySem.call f vs) :=
  L2.walk_of (n := 63) (k := 9) (x := "script") (CX := fun w => L2.CX l.prog w) (sp := fun w => spD (K w.params) 1 R_law) hn (by decide) hdf ⟨rfl, by decide, by decide⟩ hY F
    (fun w H a ns hl _ hS => ⟨H, [.list (ns.map .int)], .ok (.bool true), fun _ _ z => z, rfl, .cons (.lst hS (dpa_ints ns)) .nil, ⟨ns, rfl, rfl⟩, fun d hd v G' H' _ av => by cases hd; exact dp_bl av, fun x hx => (nomatch hx)⟩)
    fun w H s e s' z => by obtain ⟨_, _, _, _, _, _, _, _, _, _, _, _, z⟩ := z; exact z
end K26
open PySem PySem.W PyProof.Rows in
set_option maxRecDepth 100000 in
set_option maxHeartbeats 0 in
theorem PySem.Challenge.cw_fateboards_k26_whole_what_came_before_holds : PySem.Challenge.rw_fateboards_k26_whole_what_came_before.Holds := by
  w_on; o_law; k_head; (case hw => w_witness2)
  k_fill
  refine K26.walk (l := PySem.Challenge.rw_fateboards_k26_whole_what_came_before) rfl rfl (fun w h Y => PySem.W.kIn_of Y) ?F
  case F =>
    intro w mg fa h KX G hmg
    refine' K26.all_mk KX G hmg ?a_Befores ?pg_Befores ?hd_Befores ?po_Befores ?sa_Befores ?mk_Befores ?kc_Befores ?a_ColumnStepper ?pg_ColumnStepper ?hd_ColumnStepper ?po_ColumnStepper ?sa_ColumnStepper ?mk_ColumnStepper ?kc_ColumnStepper ?z_isinstance ?z_int ?z_bool ?z_tuple ?z_len ?z_list ?z_range ?z_str ?z_MOST_ROWS ?z_all ?z_MOST_COLUMNS ?na_ColumnStepper_many ?na_ColumnStepper_later_cells ?na_Befores_size ?na_Befores_pairs ?na_Befores_ways ?z_divmod ?z_sum ?z_enumerate ?z_min ?a_is_between ?l_is_between ?c_is_between ?k_is_between ?a_are_counts ?l_are_counts ?c_are_counts ?k_are_counts ?a_is_rule ?l_is_rule ?c_is_rule ?k_is_rule ?a_check_rule ?l_check_rule ?c_check_rule ?k_check_rule ?a_law_alike ?l_law_alike ?c_law_alike ?k_law_alike ?a_law_taken ?l_law_taken ?c_law_taken ?k_law_taken ?a_law_pick ?l_law_pick ?c_law_pick ?k_law_pick ?a_law_some_rule ?l_law_some_rule ?c_law_some_rule ?k_law_some_rule ?a_law_around ?l_law_around ?c_law_around ?k_law_around ?a_is_column ?l_is_column ?c_is_column ?k_is_column ?a_is_picture ?l_is_picture ?c_is_picture ?k_is_picture ?a_check_arguments ?l_check_arguments ?c_check_arguments ?k_check_arguments ?a_column_of ?l_column_of ?c_column_of ?k_column_of ?a_cells_of ?l_cells_of ?c_cells_of ?k_cells_of ?a_later_cells ?l_later_cells ?c_later_cells ?k_later_cells ?a_ColumnStepper_init ?i_ColumnStepper_init ?l_ColumnStepper_init ?c_ColumnStepper_init ?k_ColumnStepper_init ?a_ColumnStepper_later ?i_ColumnStepper_later ?l_ColumnStepper_later ?c_ColumnStepper_later ?k_ColumnStepper_later ?a_Befores_init ?i_Befores_init ?l_Befores_init ?c_Befores_init ?k_Befores_init ?a_Befores_how_many ?i_Befores_how_many ?l_Befores_how_many ?c_Befores_how_many ?k_Befores_how_many ?a_Befores_fitting ?i_Befores_fitting ?l_Befores_fitting ?c_Befores_fitting ?k_Befores_fitting ?a_Befores_least ?i_Befores_least ?l_Befores_least ?c_Befores_least ?k_Befores_least ?a_befores_count ?l_befores_count ?c_befores_count ?k_befores_count ?a_first_before ?l_first_before ?c_first_before ?k_first_before ?a_law_some_picture ?l_law_some_picture ?c_law_some_picture ?k_law_some_picture ?a_law_picture_after ?l_law_picture_after ?c_law_picture_after ?k_law_picture_after ?a_law ?l_law ?c_law ?k_law
    (case a_Befores => k_is)
    (case pg_Befores => k_is)
    (case hd_Befores => k_is)
    (case po_Befores => k_is)
    (case sa_Befores => k_is)
    (case mk_Befores => k_is)
    (case kc_Befores => k_is)
    (case a_ColumnStepper => k_is)
    (case pg_ColumnStepper => k_is)
    (case hd_ColumnStepper => k_is)
    (case po_ColumnStepper => k_is)
    (case sa_ColumnStepper => k_is)
    (case mk_ColumnStepper => k_is)
    (case kc_ColumnStepper => k_is)
    (case z_isinstance => k_is)
    (case z_int => k_is)
    (case z_bool => k_is)
    (case z_tuple => k_is)
    (case z_len => k_is)
    (case z_list => k_is)
    (case z_range => k_is)
    (case z_str => k_is)
    (case z_MOST_ROWS => k_is)
    (case z_all => k_is)
    (case z_MOST_COLUMNS => k_is)
    (case na_ColumnStepper_many => k_is)
    (case na_ColumnStepper_later_cells => k_is)
    (case na_Befores_size => k_is)
    (case na_Befores_pairs => k_is)
    (case na_Befores_ways => k_is)
    (case z_divmod => k_is)
    (case z_sum => k_is)
    (case z_enumerate => k_is)
    (case z_min => k_is)
    (case a_is_between => k_is)
    (case l_is_between => k_is)
    (case c_is_between => k_is)
    (case k_is_between => k_is)
    (case a_are_counts => k_is)
    (case l_are_counts => k_is)
    (case c_are_counts => k_is)
    (case k_are_counts => k_is)
    (case a_is_rule => k_is)
    (case l_is_rule => k_is)
    (case c_is_rule => k_is)
    (case k_is_rule => k_is)
    (case a_check_rule => k_is)
    (case l_check_rule => k_is)
    (case c_check_rule => k_is)
    (case k_check_rule => k_is)
    (case a_law_alike => k_is)
    (case l_law_alike => k_is)
    (case c_law_alike => k_is)
    (case k_law_alike => k_is)
    (case a_law_taken => k_is)
    (case l_law_taken => k_is)
    (case c_law_taken => k_is)
    (case k_law_taken => k_is)
    (case a_law_pick => k_is)
    (case l_law_pick => k_is)
    (case c_law_pick => k_is)
    (case k_law_pick => k_is)
    (case a_law_some_rule => k_is)
    (case l_law_some_rule => k_is)
    (case c_law_some_rule => k_is)
    (case k_law_some_rule => k_is)
    (case a_law_around => k_is)
    (case l_law_around => k_is)
    (case c_law_around => k_is)
    (case k_law_around => k_is)
    (case a_is_column => k_is)
    (case l_is_column => k_is)
    (case c_is_column => k_is)
    (case k_is_column => k_is)
    (case a_is_picture => k_is)
    (case l_is_picture => k_is)
    (case c_is_picture => k_is)
    (case k_is_picture => k_is)
    (case a_check_arguments => k_is)
    (case l_check_arguments => k_is)
    (case c_check_arguments => k_is)
    (case k_check_arguments => k_is)
    (case a_column_of => k_is)
    (case l_column_of => k_is)
    (case c_column_of => k_is)
    (case k_column_of => k_is)
    (case a_cells_of => k_is)
    (case l_cells_of => k_is)
    (case c_cells_of => k_is)
    (case k_cells_of => k_is)
    (case a_later_cells => k_is)
    (case l_later_cells => k_is)
    (case c_later_cells => k_is)
    (case k_later_cells => k_is)
    (case a_ColumnStepper_init => k_is)
    (case i_ColumnStepper_init => k_is)
    (case l_ColumnStepper_init => k_is)
    (case c_ColumnStepper_init => k_is)
    (case k_ColumnStepper_init => k_is)
    (case a_ColumnStepper_later => k_is)
    (case i_ColumnStepper_later => k_is)
    (case l_ColumnStepper_later => k_is)
    (case c_ColumnStepper_later => k_is)
    (case k_ColumnStepper_later => k_is)
    (case a_Befores_init => k_is)
    (case i_Befores_init => k_is)
    (case l_Befores_init => k_is)
    (case c_Befores_init => k_is)
    (case k_Befores_init => k_is)
    (case a_Befores_how_many => k_is)
    (case i_Befores_how_many => k_is)
    (case l_Befores_how_many => k_is)
    (case c_Befores_how_many => k_is)
    (case k_Befores_how_many => k_is)
    (case a_Befores_fitting => k_is)
    (case i_Befores_fitting => k_is)
    (case l_Befores_fitting => k_is)
    (case c_Befores_fitting => k_is)
    (case k_Befores_fitting => k_is)
    (case a_Befores_least => k_is)
    (case i_Befores_least => k_is)
    (case l_Befores_least => k_is)
    (case c_Befores_least => k_is)
    (case k_Befores_least => k_is)
    (case a_befores_count => k_is)
    (case l_befores_count => k_is)
    (case c_befores_count => k_is)
    (case k_befores_count => k_is)
    (case a_first_before => k_is)
    (case l_first_before => k_is)
    (case c_first_before => k_is)
    (case k_first_before => k_is)
    (case a_law_some_picture => k_is)
    (case l_law_some_picture => k_is)
    (case c_law_some_picture => k_is)
    (case k_law_some_picture => k_is)
    (case a_law_picture_after => k_is)
    (case l_law_picture_after => k_is)
    (case c_law_picture_after => k_is)
    (case k_law_picture_after => k_is)
    (case a_law => k_is)
    (case l_law => k_is)
    (case c_law => k_is)
    (case k_law => k_is)
