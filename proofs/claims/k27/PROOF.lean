import PyProof.Rows.All
import Wide.All
import OpenK.AllK
import Wide.FinOn
import HandS.ForMost
import HandS.Deep
import HandS.Evl
import KE.KDictKeyed
import HandS.IsInst
import HandS.TupAny
import HandS.FStr
import HandS.Codes
import HandS.WordsExc
import HandS.ExcOwn
import HandS.TupLe
import HandS.Wide
import HandS.RaiseMore
import HandS.Style
import KE.KExcSuper
import HandS.ForExc
import KE.KExcIs
import HandS.ExcIs
import HandS.ExcField
import HandS.Gcd
import KE.GoesEnum
import HandS.DictComp
import KE.KDictPairs
import KE.KSortTupUse
import PyProof.FString3
import PyProof.Rows.StrIntSpec
import PyProof.StrLawsFrom
import PyProof.Rows.RegReprOcc
import HandS.WideBits
import HandS.StrMore
import KE.OsArith
import HandS.Iter
import HandS.TryOnly
import HandS.DictTup
import KE.KDictCopyH
import KE.KDictSum
import HandS.TupMul
import KE.DataMinMax
import PyProof.P3Eq
import KE.DatumOrd
import KE.SortData
import HandS.TupSets
import HandS.Replace
import HandS.Conv
import HandS.More
import HandS.SortInts
import KE.KMathGC
import HandS.TupLen
import PySem.Challenge.RW_fateboards_k27_whole_strips
set_option Elab.async false
set_option linter.all false
set_option maxRecDepth 100000
set_option maxHeartbeats 4000000
set_option autoImplicit false
namespace Z
open PySem PySem.Spec PyProof.Rows L2
open Evl (Ex)
/-! ### dicts keyed by tuples of whole numbers and of such tuples -/
mutual
def nk : PyData → Option NestedKey
  | .int i => some (.num i)
  | .tuple ds => (nkAll ds).map .tup
  | _ => none
def nkAll : List PyData → Option (List NestedKey)
  | [] => some []
  | d :: ds => match nk d, nkAll ds with
    | some k, some ks => some (k :: ks)
    | _, _ => none
end
theorem nk_str (x : Str) : nk (.str x) = none := by simp [nk]
mutual
/-- a value that is a key: whole numbers, tuples that are told -/
inductive NKV (H : Hp) : V → NestedKey → Prop
  | int (i : Int) : NKV H (.int i) (.num i)
  | tup {p : Addr} {vs : List V} {ks : List NestedKey} (at_ : H p = some (.tup vs)) (all : NKAll H vs ks) : NKV H (.ref p) (.tup ks)
inductive NKAll (H : Hp) : List V → List NestedKey → Prop
  | nil : NKAll H [] []
  | cons {u : V} {us : List V} {k : NestedKey} {ks : List NestedKey} (hd : NKV H u k) (tl : NKAll H us ks) : NKAll H (u :: us) (k :: ks)
end
mutual
theorem NKV.mono {H H' : Hp} (e : ∀ a xs, H a = some (.tup xs) → H' a = some (.tup xs)) : ∀ {v : V} {k : NestedKey}, NKV H v k → NKV H' v k
  | _, _, .int i => .int i
  | _, _, .tup a r => .tup (e _ _ a) (NKAll.mono e r)
theorem NKAll.mono {H H' : Hp} (e : ∀ a xs, H a = some (.tup xs) → H' a = some (.tup xs)) : ∀ {vs : List V} {ks : List NestedKey}, NKAll H vs ks → NKAll H' vs ks
  | _, _, .nil => .nil
  | _, _, .cons a b => .cons (NKV.mono e a) (NKAll.mono e b)
end
section
variable {P : Program} {w : World} {H : Hp} {h : Heap}
mutual
theorem NKV.is (ok : HOk P w H h) : ∀ {v : V} {k : NestedKey} {u : Value}, NKV H v k → RelV v u → NestedIs h k u
  | _, _, u, .int i, r => by
    obtain ⟨t, rfl⟩ : ∃ t, u = .int i t := r
    exact .int i t
  | _, _, u, .tup (p := p) (vs := vs) a b, r => by
    cases (show u = Value.ref p from r)
    obtain ⟨_, its, rr, o, h1, h2, n, h3⟩ := (show ObjOk P w H h p (.tup vs) from ok p _ a)
    exact .tup h1 h2 h3 (NKAll.is ok b (by simpa using rr))
theorem NKAll.is (ok : HOk P w H h) : ∀ {vs : List V} {ks : List NestedKey} {us : List Value}, NKAll H vs ks → Vals vs us → NestedAll h ks us
  | _, _, _, .nil, .nil => .nil
  | _, _, _, .cons a b, .cons r s => .cons (NKV.is ok a r) (NKAll.is ok b s)
end
end
/-! the hash of such a key asks no world -/
mutual
def plainN : NestedKey → Bool
  | .num _ => true
  | .tup ks => plainNs ks
  | _ => false
def plainNs : List NestedKey → Bool
  | [] => true
  | k :: ks => plainN k && plainNs ks
end
mutual
def hashN : NestedKey → Int
  | .num i => hashInt i
  | .tup ks => reduceHash (Builtin.Tuple.tupleHashOf (hashNs ks))
  | _ => 0
def hashNs : List NestedKey → List Int
  | [] => []
  | k :: ks => hashN k :: hashNs ks
end
mutual
theorem hash_plain (w : World) : ∀ k : NestedKey, plainN k = true → k.hash w = hashN k
  | .num i, _ => by rw [NestedKey.hash, hashN]
  | .tup ks, h => by
    rw [plainN] at h
    rw [NestedKey.hash, hashN, hashes_plain w ks h]
  | .none, h => by rw [plainN] at h <;> first | exact nomatch h | (intros; exact NestedKey.noConfusion)
  | .text _, h => by rw [plainN] at h <;> first | exact nomatch h | (intros; exact NestedKey.noConfusion)
theorem hashes_plain (w : World) : ∀ ks : List NestedKey, plainNs ks = true → NestedKey.hashes w ks = hashNs ks
  | [], _ => by rw [NestedKey.hashes, hashNs]
  | k :: ks, h => by
    rw [plainNs, Bool.and_eq_true] at h
    rw [NestedKey.hashes, hashNs, hash_plain w k h.1, hashes_plain w ks h.2]
end
/-! the dict -/
/-- at p stands a dict of such keys, each with the address of its tuple -/
def DnOk (p : Addr) (ws : List (NestedKey × Addr × V)) (h : Heap) : Prop := ws.length ≤ sizeLine ∧ (p == sysModules) = false ∧ (∀ x ∈ ws, plainN x.1 = true ∧ x.1.depth ≤ 8) ∧ ∃ xs : List (NestedKey × Addr × Value),
  Paired (fun (a : NestedKey × Addr × V) (b : NestedKey × Addr × Value) => a.1 = b.1 ∧ a.2.1 = b.2.1 ∧ RelV a.2.2 b.2.2) ws xs ∧
  ∃ o es ep, h.get? p = some o ∧ o.ExactDict ∧ o.data = .dict es ep ∧ es.toList = xs.map (fun x => ⟨hashN x.1, .ref x.2.1, x.2.2⟩) ∧ (xs.map (·.1)).Nodup
def dnO (p : Addr) (ws : List (NestedKey × Addr × V)) : HO := .ext (DnOk p ws)
section
variable {P : Program} {w : World} {H : Hp} {h : Heap} {p : Addr} {ws : List (NestedKey × Addr × V)}
theorem dn_at (ok : HOk P w H h) (e : H p = some (dnO p ws)) : DnOk p ws h := (show ObjOk P w H h p (dnO p ws) from ok p _ e).1
/-- what the library says of it, where the keys' tuples are told -/
theorem DnOk.dict (x : DnOk p ws h) (hk : ∀ y ∈ ws, NestedIs h y.1 (.ref y.2.1)) : ws.length ≤ sizeLine ∧ (p == sysModules) = false ∧ ∃ xs : List (NestedKey × Addr × Value),
    Paired (fun (a : NestedKey × Addr × V) (b : NestedKey × Addr × Value) => a.1 = b.1 ∧ a.2.1 = b.2.1 ∧ RelV a.2.2 b.2.2) ws xs ∧ h.DictOfH (nestedKind P w) p xs := by
  obtain ⟨a, b, c, xs, r, o, es, ep, h1, h2, h3, h4, h5⟩ := x
  have each : ∀ {l : List (NestedKey × Addr × V)} {m : List (NestedKey × Addr × Value)}, Paired (fun (a : NestedKey × Addr × V) (b : NestedKey × Addr × Value) => a.1 = b.1 ∧ a.2.1 = b.2.1 ∧ RelV a.2.2 b.2.2) l m →
      (∀ y ∈ l, (plainN y.1 = true ∧ y.1.depth ≤ 8) ∧ NestedIs h y.1 (.ref y.2.1)) → ∀ x ∈ m, plainN x.1 = true ∧ x.1.depth ≤ 8 ∧ NestedIs h x.1 (.ref x.2.1) := by
    intro l m q
    induction q with
    | nil => exact fun _ x hx => nomatch hx
    | @cons y z ys zs hq t ih =>
      intro hl x hx
      rcases List.mem_cons.mp hx with e | hx
      · subst e
        have := hl y List.mem_cons_self
        rw [hq.1, hq.2.1] at this
        exact ⟨this.1.1, this.1.2, this.2⟩
      · exact ih (fun y hy => hl y (List.mem_cons_of_mem _ hy)) x hx
  have all := each r fun y hy => ⟨c y hy, hk y hy⟩
  refine ⟨a, b, xs, r, o, es, ep, h1, h2, h3, ?_, fun x hx => ⟨(all x hx).2.2, (all x hx).2.1⟩, h5⟩
  rw [h4]
  refine List.map_congr_left fun x hx => ?_
  show (⟨hashN x.1, .ref x.2.1, x.2.2⟩ : DictEntry) = ⟨x.1.hash w, .ref x.2.1, x.2.2⟩
  rw [hash_plain w x.1 (all x hx).1]
end
/-! what is held, and what is written -/
abbrev NW := List (NestedKey × Addr × V)
abbrev NX := List (NestedKey × Addr × Value)
abbrev SameN : NestedKey × Addr × V → NestedKey × Addr × Value → Prop := fun a b => a.1 = b.1 ∧ a.2.1 = b.2.1 ∧ RelV a.2.2 b.2.2
def heldN (ws : NW) (k : NestedKey) : Option V := (ws.find? fun x => decide (x.1 = k)).map fun x => x.2.2
def storeN (ws : NW) (k : NestedKey) (b : Addr) (v : V) : NW := if (heldN ws k).isSome then ws.map fun x => if x.1 = k then (x.1, x.2.1, v) else x else ws ++ [(k, b, v)]
theorem paired_app {α β : Type} {F : α → β → Prop} : ∀ {l : List α} {m : List β} {a : α} {b : β}, Paired F l m → F a b → Paired F (l ++ [a]) (m ++ [b])
  | _, _, _, _, .nil, h => .cons h .nil
  | _, _, _, _, .cons x y, h => .cons x (paired_app y h)
section
variable {X : Cx} {pins : List (Addr × Obj)} {σ : L2.St} {H : Hp} {s : Shared} {p b : Addr} {v : V} {u : Value} {A : Around} {E : Value → Shared → Prop} {ws : NW} {k : NestedKey}
/-- the dict, and all its keys told -/
structure DnH (H : Hp) (p : Addr) (ws : NW) : Prop where
  at_ : H p = some (dnO p ws)
  keys : ∀ x ∈ ws, NKV H (.ref x.2.1) x.1
theorem DnH.of (d : DnH H p ws) (I : Inv X pins σ H s) : ws.length ≤ sizeLine ∧ (p == sysModules) = false ∧ ∃ xs : NX, Paired SameN ws xs ∧ s.heap.DictOfH (nestedKind X.prog X.w) p xs :=
  (dn_at I.hok d.at_).dict fun y hy => NKV.is I.hok (d.keys y hy) rfl
end
/-! what is asked of such a dict in a text -/
def tNewN : TE := fun _ H Q => ∀ p, H p = none → Q (.ref p) (upd H p (dnO p []))
def tGetN (td tk : TE) : TE := fun σ H Q => td σ H fun x H1 => tk σ H1 fun y H2 => ∃ p ws b k v, x = .ref p ∧ y = .ref b ∧ DnH H2 p ws ∧ NKV H2 (.ref b) k ∧ k.depth ≤ 8 ∧ heldN ws k = some v ∧ Q v H2
def sPutN (td tk tv : TE) : TS := fun D σ H => tv σ H fun z H1 => td σ H1 fun x H2 => tk σ H2 fun y H3 => ∃ p ws b k, x = .ref p ∧ y = .ref b ∧ DnH H3 p ws ∧ NKV H3 (.ref b) k ∧ k.depth ≤ 8 ∧ ws.length < sizeLine ∧ D.nx σ (upd H3 p (dnO p (storeN ws k b z)))
section
variable {X : Cx} {o i e : Expr} {pos pos2 : Pos} {td tk tv : TE}
/-- D.get(key, x) -/
def tGet2N (td tk tx : TE) : TE := fun σ H Q => td σ H fun x H1 => ∃ p ws1, x = .ref p ∧ DnH H1 p ws1 ∧ tk σ H1 fun y H2 => tx σ H2 fun z H3 => ∃ ws b k, y = .ref b ∧ DnH H3 p ws ∧ NKV H3 (.ref b) k ∧ k.depth ≤ 8 ∧ Q ((heldN ws k).getD z) H3
end
end Z
namespace Z
open PySem PySem.Spec PyProof.Rows L2
open Evl (Ex)
/-! ### data in a growing frozen part G of the heap H; own cells beside it -/
/-- a tuple that is told: as it was made, or a constant row that begins with a text -/
def TupR (K : PySem.W.Frag) (G : Hp) (a : Addr) (xs : List V) : Prop := G a = some (.tup xs) ∨ (SqT K G a xs ∧ ∃ s r, xs = V.str s :: r)
/-! data that stands in G: of its tuples it is known how they were made (so they can be keys) -/
mutual
inductive Dz (K : PySem.W.Frag) (G : Hp) : V → PyData → Prop
  | int (i : Int) : Dz K G (.int i) (.int i)
  | str (x : Str) : Dz K G (.str x) (.str x)
  | bl (b : Bool) : Dz K G (.bl b) (.bool b)
  | non : Dz K G .non .none
  | tup {p : Addr} {vs : List V} {zs : List PyData} (at_ : TupR K G p vs) (all : DzAll K G vs zs) : Dz K G (.ref p) (.tuple zs)
  | lst {p : Addr} {vs : List V} {zs : List PyData} (at_ : SqL K G p vs) (all : DzAll K G vs zs) : Dz K G (.ref p) (.list zs)
inductive DzAll (K : PySem.W.Frag) (G : Hp) : List V → List PyData → Prop
  | nil : DzAll K G [] []
  | cons {u : V} {us : List V} {z : PyData} {zs : List PyData} (hd : Dz K G u z) (tl : DzAll K G us zs) : DzAll K G (u :: us) (z :: zs)
end
theorem TupR.sq {K : PySem.W.Frag} {G : Hp} {a : Addr} {xs : List V} (h : TupR K G a xs) : SqT K G a xs := h.elim Evl.st_of And.left
theorem TupR.mono {K : PySem.W.Frag} {G G' : Hp} {a : Addr} {xs : List V} (e : Ex G G') (h : TupR K G a xs) : TupR K G' a xs := h.elim (fun q => .inl (e _ _ q)) fun q => .inr ⟨Evl.ex_t e q.1, q.2⟩
/-- what is raised, as data: its class, its fields -/
structure XD where
  cls : Addr
  fs : List (Str × PyData)
/-- d | c an own cell | e a caught exception, its class, its dict, what it is | f a dict, o an object that nobody writes any more | l, t a list, a tuple of such -/
inductive ZV where
  | d (x : PyData)
  | c (p : Addr)
  | f (kvs : List (List Key × PyData))
  | e (a : Addr) (cls : Value) (dd : Option Addr) (x : XD)
  | o (C : Addr) (fs : List (Str × ZV))
  | l (zs : List ZV)
  | t (zs : List ZV)
abbrev Fg := PySem.W.Frag
abbrev Zs : Type := List (Option ZV)
def XAt (K : Fg) (G : Hp) (cls : Value) (d : Option Addr) (x : XD) : Prop := cls = .ref x.cls ∧ match x.fs with
  | [] => d = none
  | f :: fs => ∃ dd fv, d = some dd ∧ G dd = some (.xd fv) ∧ Paired (fun (a : Str × V) (b : Str × PyData) => a.1 = b.1 ∧ Dz K G a.2 b.2) fv (f :: fs)
/-! what stands in G and holds more than data -/
mutual
inductive Fz (K : Fg) (G : Hp) : V → ZV → Prop
  | d {v : V} {x : PyData} (h : Dz K G v x) : Fz K G v (.d x)
  | f {p : Addr} {ws : List (List Key × V)} {kvs : List (List Key × PyData)} (at_ : G p = some (.dT ws)) (h : Paired (fun (a : List Key × V) (b : List Key × PyData) => a.1 = b.1 ∧ Dz K G a.2 b.2) ws kvs) : Fz K G (.ref p) (.f kvs)
  | o {p C : Addr} {dx : Addr} {fv : List (Str × V)} {fs : List (Str × ZV)} (at_ : G p = some (.ins C dx fv)) (h : FzF K G fv fs) : Fz K G (.ref p) (.o C fs)
  | l {p : Addr} {ws : List V} {zs : List ZV} (at_ : G p = some (.lst ws)) (h : FzAll K G ws zs) : Fz K G (.ref p) (.l zs)
  | t {p : Addr} {ws : List V} {zs : List ZV} (at_ : G p = some (.tup ws)) (h : FzAll K G ws zs) : Fz K G (.ref p) (.t zs)
inductive FzAll (K : Fg) (G : Hp) : List V → List ZV → Prop
  | nil : FzAll K G [] []
  | cons {u : V} {us : List V} {z : ZV} {zs : List ZV} (hd : Fz K G u z) (tl : FzAll K G us zs) : FzAll K G (u :: us) (z :: zs)
inductive FzF (K : Fg) (G : Hp) : List (Str × V) → List (Str × ZV) → Prop
  | nil : FzF K G [] []
  | cons {m : Str} {u : V} {us : List (Str × V)} {z : ZV} {zs : List (Str × ZV)} (hd : Fz K G u z) (tl : FzF K G us zs) : FzF K G ((m, u) :: us) ((m, z) :: zs)
end
def ZV.at (K : Fg) (G : Hp) (v : V) : ZV → Prop
  | .d x => Dz K G v x
  | .c p => v = .ref p
  | .f kvs => ∃ p ws, v = .ref p ∧ G p = some (.dT ws) ∧ Paired (fun (a : List Key × V) (b : List Key × PyData) => a.1 = b.1 ∧ Dz K G a.2 b.2) ws kvs
  | .e a cls dd x => v = .ref a ∧ XAt K G cls dd x
  | .o C fs => Fz K G v (.o C fs)
  | .l zs => Fz K G v (.l zs)
  | .t zs => Fz K G v (.t zs)
abbrev ZAll (K : Fg) (G : Hp) : List V → List ZV → Prop := Paired (fun v z => ZV.at K G v z)
inductive CD where
  | lst (xs : List PyData)
  | obj (C : Addr) (fs : List (Str × ZV))
  | dT (kvs : List (List Key × PyData))
  | dK (kvs : List (Key × PyData))
  | lz (zs : List ZV)
  | dz (kvs : List (List Key × ZV))
  | lk (od : Obj) (ws : List (List Key × V)) (kvs : List (List Key × ZV))
  | dN (kvs : List (PyData × PyData))
def CD.at (K : Fg) (G H : Hp) (p : Addr) : CD → Prop
  | .lst xs => ∃ ws, H p = some (.lst ws) ∧ DzAll K G ws xs
  | .obj C fs => ∃ dx fv, H p = some (.ins C dx fv) ∧ H dx = some (.own p) ∧ G dx = none ∧ Paired (fun (a : Str × V) (b : Str × ZV) => a.1 = b.1 ∧ ZV.at K G a.2 b.2) fv fs
  | .dT kvs => ∃ ws, H p = some (.dT ws) ∧ Paired (fun (a : List Key × V) (b : List Key × PyData) => a.1 = b.1 ∧ Dz K G a.2 b.2) ws kvs
  | .dK kvs => ∃ ws, H p = some (.dK ws) ∧ Paired (fun (a : Key × V) (b : Key × PyData) => a.1 = b.1 ∧ Dz K G a.2 b.2) ws kvs
  | .lz zs => ∃ ws, H p = some (.lst ws) ∧ ZAll K G ws zs
  | .lk od ws kvs => H p = some (.frz od (.dT ws)) ∧ Paired (fun (a : List Key × V) (b : List Key × ZV) => a.1 = b.1 ∧ ZV.at K G a.2 b.2) ws kvs
  | .dz kvs => ∃ ws, H p = some (.dT ws) ∧ Paired (fun (a : List Key × V) (b : List Key × ZV) => a.1 = b.1 ∧ ZV.at K G a.2 b.2) ws kvs
  | .dN kvs => ∃ ws, H p = some (dnO p ws) ∧ Paired (fun (a : NestedKey × Addr × V) (b : PyData × PyData) => nk b.1 = some a.1 ∧ Dz K G (.ref a.2.1) b.1 ∧ Dz K G a.2.2 b.2) ws kvs
abbrev Ms : Type := List (Addr × Bool × CD)
mutual
theorem dp_mono {K : Fg} {G G' : Hp} (e : Ex G G') : ∀ {d : PyData} {v : V}, Dz K G v d → Dz K G' v d
  | _, _, .non => .non
  | _, _, .bl b => .bl b
  | _, _, .int i => .int i
  | _, _, .str s => .str s
  | _, _, .lst s a => .lst (Evl.ex_l e s) (dpAll_mono e a)
  | _, _, .tup s a => .tup (s.mono e) (dpAll_mono e a)
theorem dpAll_mono {K : Fg} {G G' : Hp} (e : Ex G G') : ∀ {ds : List PyData} {vs : List V}, DzAll K G vs ds → DzAll K G' vs ds
  | _, _, .nil => .nil
  | _, _, .cons a b => .cons (dp_mono e a) (dpAll_mono e b)
end
mutual
theorem dz_dp {K : Fg} {G : Hp} : ∀ {d : PyData} {v : V}, Dz K G v d → L2.Dp K G v d
  | _, _, .non => .non
  | _, _, .bl b => .bl b
  | _, _, .int i => .int i
  | _, _, .str s => .str s
  | _, _, .lst s a => .lst s (dzAll_dp a)
  | _, _, .tup s a => .tup s.sq (dzAll_dp a)
theorem dzAll_dp {K : Fg} {G : Hp} : ∀ {ds : List PyData} {vs : List V}, DzAll K G vs ds → L2.DpAll K G vs ds
  | _, _, .nil => .nil
  | _, _, .cons a b => .cons (dz_dp a) (dzAll_dp b)
end
theorem paired_mono {α β : Type} {F F' : α → β → Prop} (h : ∀ a b, F a b → F' a b) : ∀ {l : List α} {m : List β}, Paired F l m → Paired F' l m
  | _, _, .nil => .nil
  | _, _, .cons a b => .cons (h _ _ a) (paired_mono h b)
theorem xat_mono {K : Fg} {G G' : Hp} (e : Ex G G') {cls : Value} {d : Option Addr} {x : XD} (h : XAt K G cls d x) : XAt K G' cls d x := by
  obtain ⟨h1, h2⟩ := h
  refine ⟨h1, ?_⟩
  split at h2
  · exact h2
  · obtain ⟨dd, fv, q1, q2, q3⟩ := h2
    exact ⟨dd, fv, q1, e _ _ q2, paired_mono (fun a b q => ⟨q.1, dp_mono e q.2⟩) q3⟩
mutual
theorem fz_mono {K : Fg} {G G' : Hp} (e : Ex G G') : ∀ {z : ZV} {v : V}, Fz K G v z → Fz K G' v z
  | _, _, .d h => .d (dp_mono e h)
  | _, _, .f a h => .f (e _ _ a) (paired_mono (fun _ _ q => ⟨q.1, dp_mono e q.2⟩) h)
  | _, _, .o a h => .o (e _ _ a) (fzF_mono e h)
  | _, _, .l a h => .l (e _ _ a) (fzAll_mono e h)
  | _, _, .t a h => .t (e _ _ a) (fzAll_mono e h)
theorem fzAll_mono {K : Fg} {G G' : Hp} (e : Ex G G') : ∀ {zs : List ZV} {vs : List V}, FzAll K G vs zs → FzAll K G' vs zs
  | _, _, .nil => .nil
  | _, _, .cons a b => .cons (fz_mono e a) (fzAll_mono e b)
theorem fzF_mono {K : Fg} {G G' : Hp} (e : Ex G G') : ∀ {zs : List (Str × ZV)} {vs : List (Str × V)}, FzF K G vs zs → FzF K G' vs zs
  | _, _, .nil => .nil
  | _, _, .cons a b => .cons (fz_mono e a) (fzF_mono e b)
end
theorem ZV.mono {K : Fg} {G G' : Hp} (e : Ex G G') {v : V} : ∀ {z : ZV}, ZV.at K G v z → ZV.at K G' v z
  | .d _, h => dp_mono e h
  | .c _, h => h
  | .f _, ⟨p, ws, h1, h2, h3⟩ => ⟨p, ws, h1, e _ _ h2, paired_mono (fun a b q => ⟨q.1, dp_mono e q.2⟩) h3⟩
  | .e _ _ _ _, h => ⟨h.1, xat_mono e h.2⟩
  | .o _ _, h => fz_mono e h
  | .l _, h => fz_mono e h
  | .t _, h => fz_mono e h
theorem zall_mono {K : Fg} {G G' : Hp} (e : Ex G G') : ∀ {zs : List ZV} {vs : List V}, ZAll K G vs zs → ZAll K G' vs zs
  | _, _, .nil => .nil
  | _, _, .cons a b => .cons (ZV.mono e a) (zall_mono e b)
/-- a cell's content stands, where its own addresses do -/
theorem CD.stay {K : Fg} {G G' H H' : Hp} {p : Addr} {c : CD} (h : CD.at K G H p c) (e : Ex G G') (hp : ∀ o, H p = some o → H' p = some o) (hd : ∀ a x, H a = some (.own x) → H' a = some (.own x) ∧ (G a = none → G' a = none)) : CD.at K G' H' p c := by
  cases c with
  | lst xs => obtain ⟨ws, h1, h2⟩ := h; exact ⟨ws, hp _ h1, dpAll_mono e h2⟩
  | obj C fs =>
    obtain ⟨dx, fv, h1, h2, h3, h4⟩ := h
    exact ⟨dx, fv, hp _ h1, (hd _ _ h2).1, (hd _ _ h2).2 h3, paired_mono (fun a b q => ⟨q.1, ZV.mono e q.2⟩) h4⟩
  | dT kvs => obtain ⟨ws, h1, h2⟩ := h; exact ⟨ws, hp _ h1, paired_mono (fun a b q => ⟨q.1, dp_mono e q.2⟩) h2⟩
  | dK kvs => obtain ⟨ws, h1, h2⟩ := h; exact ⟨ws, hp _ h1, paired_mono (fun a b q => ⟨q.1, dp_mono e q.2⟩) h2⟩
  | lz zs => obtain ⟨ws, h1, h2⟩ := h; exact ⟨ws, hp _ h1, zall_mono e h2⟩
  | lk od ws kvs => obtain ⟨h1, h2⟩ := h; exact ⟨hp _ h1, paired_mono (fun a b q => ⟨q.1, ZV.mono e q.2⟩) h2⟩
  | dz kvs => obtain ⟨ws, h1, h2⟩ := h; exact ⟨ws, hp _ h1, paired_mono (fun a b q => ⟨q.1, ZV.mono e q.2⟩) h2⟩
  | dN kvs => obtain ⟨ws, h1, h2⟩ := h; exact ⟨ws, hp _ h1, paired_mono (fun a b q => ⟨q.1, dp_mono e q.2.1, dp_mono e q.2.2⟩) h2⟩
theorem CD.there {K : Fg} {G H : Hp} {p : Addr} {c : CD} (h : CD.at K G H p c) : ∃ o, H p = some o ∧ (∀ x, o ≠ .own x) ∧ ∀ xs, o ≠ .tup xs := by
  cases c with
  | lst xs => obtain ⟨ws, h1, _⟩ := h; exact ⟨_, h1, (fun _ q => nomatch q), fun _ q => nomatch q⟩
  | obj C fs => obtain ⟨dx, fv, h1, _⟩ := h; exact ⟨_, h1, (fun _ q => nomatch q), fun _ q => nomatch q⟩
  | dT kvs => obtain ⟨ws, h1, _⟩ := h; exact ⟨_, h1, (fun _ q => nomatch q), fun _ q => nomatch q⟩
  | dK kvs => obtain ⟨ws, h1, _⟩ := h; exact ⟨_, h1, (fun _ q => nomatch q), fun _ q => nomatch q⟩
  | lz zs => obtain ⟨ws, h1, _⟩ := h; exact ⟨_, h1, (fun _ q => nomatch q), fun _ q => nomatch q⟩
  | lk od ws kvs => obtain ⟨h1, _⟩ := h; exact ⟨_, h1, (fun _ q => nomatch q), fun _ q => nomatch q⟩
  | dz kvs => obtain ⟨ws, h1, _⟩ := h; exact ⟨_, h1, (fun _ q => nomatch q), fun _ q => nomatch q⟩
  | dN kvs => obtain ⟨ws, h1, _⟩ := h; exact ⟨_, h1, (fun _ q => nomatch q), fun _ q => nomatch q⟩
/-- what is not frozen, or a tuple that came to be known -/
theorem gn_none {G H : Hp} {a : Addr} {u : HO} (e : Ex G H) (f : G a = none ∨ ∃ xs, G a = some (.tup xs)) (h : H a = some u) (nt : ∀ xs, u ≠ .tup xs) : G a = none := by
  rcases f with f | ⟨xs, f⟩
  · exact f
  · have := e _ _ f
    rw [h] at this
    exact absurd (Option.some.inj this) (nt xs)
theorem gn_trans {G G' : Hp} {a : Addr} (e : Ex G G') (f : G a = none ∨ ∃ xs, G a = some (.tup xs)) (g : G a = none → G' a = none ∨ ∃ xs, G' a = some (.tup xs)) : G' a = none ∨ ∃ xs, G' a = some (.tup xs) := by
  rcases f with f | ⟨xs, f⟩
  · exact g f
  · exact .inr ⟨xs, e _ _ f⟩
/-! ### the state, seen from the entry n of the def -/
structure Sn where
  G : Hp
  H : Hp
  A : List Addr
structure Rel (K : Fg) (n : Sn) (S : Zs) (M : Ms) (σ : L2.St) (G H : Hp) : Prop where
  ex : Ex G H
  len : σ.length = S.length
  sl : ∀ (i : Nat) (z : ZV), S[i]? = some (some z) → ∃ v, σ[i]? = some (some v) ∧ ZV.at K G v z
  nd : (M.map (·.1)).Nodup
  ce : ∀ p b c, (p, b, c) ∈ M → G p = none ∧ CD.at K G H p c
  g0 : Ex n.G G
  h0 : ∀ a o, n.H a = some o → a ∉ n.A → H a = some o
  lv : ∀ a o, n.H a = some o → ∃ o', H a = some o'
  f0 : ∀ a o, n.H a = some o → n.G a = none → G a = none ∨ ∃ xs, G a = some (.tup xs)
  a0 : ∀ p c, (p, false, c) ∈ M → p ∈ n.A
  o0 : ∀ p c, (p, true, c) ∈ M → n.H p = none
section
variable {K : Fg} {n : Sn} {S S' : Zs} {M M' : Ms} {σ σ' : L2.St} {G G' H H' : Hp} {p : Addr} {o : HO}
theorem ex_upd (e : Ex G H) (hp : G p = none) : Ex G (upd H p o) := fun a u h => by
  rw [upd_ne (ne_of_none h hp)]
  exact e a u h
theorem ex_both (e : Ex G H) : Ex (upd G p o) (upd H p o) := fun a u h => by
  by_cases q : a = p
  · subst q
    rw [upd_same] at h ⊢
    exact h
  · rw [upd_ne q] at h ⊢
    exact e a u h
theorem ex_gnone (e : Ex G H) (h : H p = none) : G p = none := Evl.fresh_back e h
/-- a new frozen thing -/
theorem Rel.new (R : Rel K n S M σ G H) (hp : H p = none) (hno : ∀ x, o ≠ .own x) : Rel K n S M σ (upd G p o) (upd H p o) where
  ex := ex_both R.ex
  len := R.len
  sl := fun i z e => by
    obtain ⟨v, h1, h2⟩ := R.sl i z e
    exact ⟨v, h1, ZV.mono (Ex.new (ex_gnone R.ex hp)) h2⟩
  nd := R.nd
  ce := fun q b c hm => by
    obtain ⟨h1, h2⟩ := R.ce q b c hm
    obtain ⟨u, hu, _⟩ := CD.there h2
    have qp : q ≠ p := ne_of_none hu hp
    refine ⟨by rw [upd_ne qp]; exact h1, CD.stay h2 (Ex.new (ex_gnone R.ex hp)) (fun o' h => by rw [upd_ne qp]; exact h) fun a x h => ?_⟩
    have ap : a ≠ p := ne_of_none h hp
    exact ⟨by rw [upd_ne ap]; exact h, fun g => by rw [upd_ne ap]; exact g⟩
  g0 := R.g0.trans (Ex.new (ex_gnone R.ex hp))
  h0 := fun a u h1 h2 => by
    have q := R.h0 a u h1 h2
    rw [upd_ne (ne_of_none q hp)]
    exact q
  lv := fun a u h1 => by
    obtain ⟨o', q⟩ := R.lv a u h1
    exact ⟨o', by rw [upd_ne (ne_of_none q hp)]; exact q⟩
  f0 := fun a u h1 h2 => by
    obtain ⟨o', q⟩ := R.lv a u h1
    rw [upd_ne (ne_of_none q hp)]
    exact R.f0 a u h1 h2
  a0 := R.a0
  o0 := R.o0
theorem Rel.fresh (R : Rel K n S M σ G H) (hp : H p = none) : n.H p = none := by
  cases e : n.H p with
  | none => rfl
  | some u =>
    obtain ⟨o', q⟩ := R.lv p u e
    rw [hp] at q
    cases q
theorem Rel.notin (R : Rel K n S M σ G H) (hp : H p = none) : p ∉ M.map (·.1) := fun hm => by
  obtain ⟨⟨q, b, c⟩, h1, h2⟩ := List.mem_map.mp hm
  obtain ⟨u, hu, _⟩ := CD.there (R.ce q b c h1).2
  have e : q = p := h2
  rw [e, hp] at hu
  cases hu
/-- an object laid beside (its own dict ..): neither frozen nor a cell -/
theorem Rel.lay (R : Rel K n S M σ G H) (hp : H p = none) : Rel K n S M σ G (upd H p o) where
  ex := ex_upd R.ex (ex_gnone R.ex hp)
  len := R.len
  sl := R.sl
  nd := R.nd
  ce := fun q b c hm => by
    obtain ⟨h1, h2⟩ := R.ce q b c hm
    obtain ⟨u, hu, _⟩ := CD.there h2
    have qp : q ≠ p := ne_of_none hu hp
    refine ⟨h1, CD.stay h2 (Ex.refl G) (fun o' h => by rw [upd_ne qp]; exact h) fun a x h => ?_⟩
    exact ⟨by rw [upd_ne (ne_of_none h hp)]; exact h, fun g => g⟩
  g0 := R.g0
  h0 := fun a u h1 h2 => by
    have q := R.h0 a u h1 h2
    rw [upd_ne (ne_of_none q hp)]
    exact q
  lv := fun a u h1 => by
    obtain ⟨o', q⟩ := R.lv a u h1
    exact ⟨o', by rw [upd_ne (ne_of_none q hp)]; exact q⟩
  f0 := R.f0
  a0 := R.a0
  o0 := R.o0
/-- what was laid beside becomes a cell -/
theorem Rel.cell {c : CD} (R : Rel K n S M σ G H) (hn : n.H p = none) (hm : p ∉ M.map (·.1)) (hg : G p = none) (hc : CD.at K G H p c) : Rel K n S ((p, true, c) :: M) σ G H where
  ex := R.ex
  len := R.len
  sl := R.sl
  nd := List.nodup_cons.mpr ⟨hm, R.nd⟩
  ce := fun q b c' h => by
    rcases List.mem_cons.mp h with e | h
    · cases e
      exact ⟨hg, hc⟩
    · exact R.ce q b c' h
  g0 := R.g0
  h0 := R.h0
  lv := R.lv
  f0 := R.f0
  a0 := fun q c' h => by
    rcases List.mem_cons.mp h with e | h
    · cases e
    · exact R.a0 q c' h
  o0 := fun q c' h => by
    rcases List.mem_cons.mp h with e | h
    · cases e
      exact hn
    · exact R.o0 q c' h
theorem Rel.newLst {ws : List V} {xs : List PyData} (R : Rel K n S M σ G H) (hp : H p = none) (h : DzAll K G ws xs) : Rel K n S ((p, true, .lst xs) :: M) σ G (upd H p (.lst ws)) :=
  (R.lay hp).cell (R.fresh hp) (R.notin hp) (ex_gnone R.ex hp) ⟨ws, upd_same, h⟩
/-- one entry of the cells is changed, is taken out -/
inductive Upd1 (p : Addr) (b : Bool) (c c' : CD) : Ms → Ms → Prop
  | here {M : Ms} : Upd1 p b c c' ((p, b, c) :: M) ((p, b, c') :: M)
  | there {q : Addr × Bool × CD} {M M' : Ms} : Upd1 p b c c' M M' → Upd1 p b c c' (q :: M) (q :: M')
inductive Rem1 (p : Addr) (b : Bool) (c : CD) : Ms → Ms → Prop
  | here {M : Ms} : Rem1 p b c ((p, b, c) :: M) M
  | there {q : Addr × Bool × CD} {M M' : Ms} : Rem1 p b c M M' → Rem1 p b c (q :: M) (q :: M')
theorem Upd1.mem {b : Bool} {c c' : CD} (u : Upd1 p b c c' M M') : (p, b, c) ∈ M := by
  induction u with
  | here => exact List.mem_cons_self
  | there _ ih => exact List.mem_cons_of_mem _ ih
theorem Upd1.fst {b : Bool} {c c' : CD} (u : Upd1 p b c c' M M') : M'.map (·.1) = M.map (·.1) := by
  induction u with
  | here => rfl
  | there _ ih => simp only [List.map_cons, ih]
theorem Upd1.of {b : Bool} {c c' : CD} (u : Upd1 p b c c' M M') (nd : (M.map (·.1)).Nodup) : ∀ q b' e, (q, b', e) ∈ M' → (q = p ∧ b' = b ∧ e = c') ∨ (q ≠ p ∧ (q, b', e) ∈ M) := by
  induction u with
  | here =>
    intro q b' e h
    rcases List.mem_cons.mp h with z | h
    · cases z
      exact .inl ⟨rfl, rfl, rfl⟩
    · refine .inr ⟨fun z => ?_, List.mem_cons_of_mem _ h⟩
      have hp := List.mem_map_of_mem (f := (·.1)) h
      have hp : q ∈ _ := hp
      rw [z] at hp
      exact (List.nodup_cons.mp nd).1 hp
  | @there r M M' v ih =>
    intro q b' e h
    rcases List.mem_cons.mp h with z | h
    · subst z
      refine .inr ⟨fun z => ?_, List.mem_cons_self⟩
      have z : q = p := z
      have hp := List.mem_map_of_mem (f := (·.1)) v.mem
      rw [← z] at hp
      exact (List.nodup_cons.mp nd).1 hp
    · rcases ih (List.nodup_cons.mp nd).2 q b' e h with z | ⟨z1, z2⟩
      · exact .inl z
      · exact .inr ⟨z1, List.mem_cons_of_mem _ z2⟩
theorem Rem1.mem {b : Bool} {c : CD} (u : Rem1 p b c M M') : (p, b, c) ∈ M := by
  induction u with
  | here => exact List.mem_cons_self
  | there _ ih => exact List.mem_cons_of_mem _ ih
theorem Rem1.sub {b : Bool} {c : CD} (u : Rem1 p b c M M') : M'.Sublist M := by
  induction u with
  | here => exact List.sublist_cons_self _ _
  | there _ ih => exact ih.cons₂ _
theorem Rem1.ne {b : Bool} {c : CD} (u : Rem1 p b c M M') (nd : (M.map (·.1)).Nodup) : ∀ q ∈ M', q.1 ≠ p := by
  induction u with
  | here =>
    intro q h z
    rw [← z] at nd
    exact (List.nodup_cons.mp nd).1 (List.mem_map_of_mem (f := (·.1)) h)
  | @there r M M' v ih =>
    intro q h
    rcases List.mem_cons.mp h with z | h
    · intro e
      have hp := List.mem_map_of_mem (f := (·.1)) v.mem
      rw [z] at e
      rw [← e] at hp
      exact (List.nodup_cons.mp nd).1 hp
    · exact ih (List.nodup_cons.mp nd).2 q h
/-- a cell is written -/
theorem Rel.put {b : Bool} {c c' : CD} (R : Rel K n S M σ G H) (u : Upd1 p b c c' M M') (hno : ∀ x, H p ≠ some (.own x)) (hc : CD.at K G (upd H p o) p c') : Rel K n S M' σ G (upd H p o) := by
  have hm := u.mem
  obtain ⟨hg, hcd⟩ := R.ce p b c hm
  obtain ⟨u0, hu0, _⟩ := CD.there hcd
  have np : ∀ a o', n.H a = some o' → a ∉ n.A → a ≠ p := fun a o' h1 h2 z => by
    subst z
    cases b with
    | false => exact h2 (R.a0 _ _ hm)
    | true => rw [R.o0 _ _ hm] at h1; cases h1
  refine ⟨ex_upd R.ex hg, R.len, R.sl, by rw [u.fst]; exact R.nd, fun q b' e h => ?_, R.g0, fun a o' h1 h2 => ?_, fun a o' h1 => ?_, R.f0, fun q e h => ?_, fun q e h => ?_⟩
  · rcases u.of R.nd q b' e h with ⟨rfl, rfl, rfl⟩ | ⟨z1, z2⟩
    · exact ⟨hg, hc⟩
    · obtain ⟨h1, h2⟩ := R.ce q b' e z2
      refine ⟨h1, CD.stay h2 (Ex.refl G) (fun o' h => by rw [upd_ne z1]; exact h) fun a x h => ⟨?_, fun g => g⟩⟩
      rw [upd_ne (fun z => hno x (by rw [← z]; exact h))]
      exact h
  · rw [upd_ne (np a o' h1 h2)]
    exact R.h0 a o' h1 h2
  · by_cases z : a = p
    · subst z
      exact ⟨_, upd_same⟩
    · obtain ⟨o2, q⟩ := R.lv a o' h1
      exact ⟨o2, by rw [upd_ne z]; exact q⟩
  · rcases u.of R.nd q false e h with ⟨rfl, z, _⟩ | ⟨_, z⟩
    · subst z
      exact R.a0 _ _ hm
    · exact R.a0 q e z
  · rcases u.of R.nd q true e h with ⟨rfl, z, _⟩ | ⟨_, z⟩
    · subst z
      exact R.o0 _ _ hm
    · exact R.o0 q e z
theorem Rel.putLst {b : Bool} {xs ys : List PyData} {ws : List V} (R : Rel K n S M σ G H) (u : Upd1 p b (.lst xs) (.lst ys) M M') (h : DzAll K G ws ys) : Rel K n S M' σ G (upd H p (.lst ws)) := by
  obtain ⟨_, vs, h1, _⟩ := R.ce p b _ u.mem
  exact R.put u (fun x z => by rw [h1] at z; cases z) ⟨ws, upd_same, h⟩
/-- an own list that nobody will change any more -/
theorem Rel.frz {xs : List PyData} (R : Rel K n S M σ G H) (u : Rem1 p true (.lst xs) M M') : ∃ G', Ex G G' ∧ Rel K n S M' σ G' H ∧ Dz K G' (.ref p) (.list xs) := by
  obtain ⟨hg, ws, h1, h2⟩ := R.ce p true _ u.mem
  refine ⟨upd G p (.lst ws), Ex.new hg, ⟨fun a o' h => ?_, R.len, fun i z e => ?_, R.nd.sublist (u.sub.map _), fun q b c h => ?_, R.g0.trans (Ex.new hg), R.h0, R.lv, fun a o' q1 q2 => ?_, fun q c h => R.a0 q c (u.sub.subset h), fun q c h => R.o0 q c (u.sub.subset h)⟩, ?_⟩
  · by_cases z : a = p
    · subst z
      rw [upd_same] at h
      rw [h1]; exact h
    · rw [upd_ne z] at h
      exact R.ex a o' h
  · obtain ⟨v, q1, q2⟩ := R.sl i z e
    exact ⟨v, q1, ZV.mono (Ex.new hg) q2⟩
  · obtain ⟨q1, q2⟩ := R.ce q b c (u.sub.subset h)
    have z := u.ne R.nd _ h
    refine ⟨by rw [upd_ne z]; exact q1, CD.stay q2 (Ex.new hg) (fun o' h => h) fun a x h => ⟨h, fun g => ?_⟩⟩
    rw [upd_ne (fun z => by rw [z, h1] at h; cases h)]
    exact g
  · have z : a ≠ p := fun z => by rw [z, R.o0 _ _ u.mem] at q1; cases q1
    rw [upd_ne z]
    exact R.f0 a o' q1 q2
  · exact .lst (Evl.sq_of upd_same) (dpAll_mono (Ex.new hg) h2)
/-- a tuple that stands in the heap comes to be known -/
theorem Rel.tell {xs : List V} (R : Rel K n S M σ G H) (h : H p = some (.tup xs)) : ∃ G', Ex G G' ∧ Rel K n S M σ G' H ∧ G' p = some (.tup xs) := by
  cases hg : G p with
  | some o =>
    have := R.ex _ _ hg
    rw [h] at this
    cases this
    exact ⟨G, Ex.refl G, R, hg⟩
  | none =>
    refine ⟨upd G p (.tup xs), Ex.new hg, ⟨fun a o' e => ?_, R.len, fun i z e => ?_, R.nd, fun q b c hm => ?_, R.g0.trans (Ex.new hg), R.h0, R.lv, fun a o' q1 q2 => ?_, R.a0, R.o0⟩, upd_same⟩
    · by_cases z : a = p
      · subst z; rw [upd_same] at e; rw [h]; exact e
      · rw [upd_ne z] at e; exact R.ex a o' e
    · obtain ⟨v, q1, q2⟩ := R.sl i z e
      exact ⟨v, q1, ZV.mono (Ex.new hg) q2⟩
    · obtain ⟨q1, q2⟩ := R.ce q b c hm
      obtain ⟨u, hu, no, nt⟩ := CD.there q2
      have z : q ≠ p := fun z => by rw [z, h] at hu; exact nt _ (Option.some.inj hu).symm
      refine ⟨by rw [upd_ne z]; exact q1, CD.stay q2 (Ex.new hg) (fun o' h => h) fun a x h' => ⟨h', fun g => ?_⟩⟩
      rw [upd_ne (fun z => by rw [z, h] at h'; cases h')]
      exact g
    · by_cases z : a = p
      · subst z; exact .inr ⟨xs, upd_same⟩
      · rw [upd_ne z]; exact R.f0 a o' q1 q2
/-- slots -/
theorem Rel.set {i : Nat} {v : V} {z : ZV} (R : Rel K n S M σ G H) (h : ZV.at K G v z) : Rel K n (S.set i (some z)) M (σ.set i (some v)) G H := by
  refine ⟨R.ex, by simp [R.len], fun j z' e => ?_, R.nd, R.ce, R.g0, R.h0, R.lv, R.f0, R.a0, R.o0⟩
  by_cases q : i = j
  · subst q
    rw [List.getElem?_set] at e
    simp only [if_true] at e
    split at e
    · rename_i hl
      cases e
      exact ⟨v, by rw [List.getElem?_set]; simp [R.len, hl], h⟩
    · cases e
  · rw [List.getElem?_set_ne q] at e
    obtain ⟨u, h1, h2⟩ := R.sl j z' e
    exact ⟨u, by rw [List.getElem?_set_ne q]; exact h1, h2⟩
theorem Rel.unset {i : Nat} (R : Rel K n S M σ G H) : Rel K n (S.set i none) M (σ.set i none) G H := by
  refine ⟨R.ex, by simp [R.len], fun j z' e => ?_, R.nd, R.ce, R.g0, R.h0, R.lv, R.f0, R.a0, R.o0⟩
  by_cases q : i = j
  · subst q
    rw [List.getElem?_set] at e
    simp only [if_true] at e
    split at e <;> cases e
  · rw [List.getElem?_set_ne q] at e
    obtain ⟨u, h1, h2⟩ := R.sl j z' e
    exact ⟨u, by rw [List.getElem?_set_ne q]; exact h1, h2⟩
/-- what is known of slots may be forgotten -/
theorem Rel.weak (R : Rel K n S M σ G H) (hl : S'.length = S.length) (h : ∀ (i : Nat) (z : ZV), S'[i]? = some (some z) → S[i]? = some (some z)) : Rel K n S' M σ G H :=
  ⟨R.ex, R.len.trans hl.symm, fun i z e => R.sl i z (h i z e), R.nd, R.ce, R.g0, R.h0, R.lv, R.f0, R.a0, R.o0⟩
/-- cells may be forgotten -/
theorem Rel.drop (R : Rel K n S M σ G H) (h : M'.Sublist M) : Rel K n S M' σ G H :=
  ⟨R.ex, R.len, R.sl, R.nd.sublist (h.map _), fun p b c q => R.ce p b c (h.subset q), R.g0, R.h0, R.lv, R.f0, fun p c q => R.a0 p c (h.subset q), fun p c q => R.o0 p c (h.subset q)⟩
end
/-! ### what a call leaves: A the cells it may write -/
structure Ext (A : List Addr) (G H G' H' : Hp) : Prop where
  g : Ex G G'
  h : ∀ a o, H a = some o → a ∉ A → H' a = some o
  l : ∀ a o, H a = some o → ∃ o', H' a = some o'
  x : Ex G' H'
  f : ∀ a o, H a = some o → G a = none → G' a = none ∨ ∃ xs, G' a = some (.tup xs)
section
variable {K : Fg} {n : Sn} {S S' : Zs} {M M' : Ms} {σ σ' : L2.St} {G G' H H' : Hp} {p : Addr}
theorem Rel.ext (R : Rel K n S M σ G H) : Ext n.A n.G n.H G H := ⟨R.g0, R.h0, R.lv, R.ex, R.f0⟩
/-- behind a call that writes no cell -/
theorem Rel.call (R : Rel K n S M σ G H) (e : Ext [] G H G' H') : Rel K n S M σ G' H' := by
  have hh : Ex H H' := fun a o h => e.h a o h (by simp)
  refine ⟨e.x, R.len, fun i z q => ?_, R.nd, fun q b c hm => ?_, R.g0.trans e.g, fun a o h1 h2 => hh a o (R.h0 a o h1 h2), fun a o h1 => ?_, fun a o h1 h2 => ?_, R.a0, R.o0⟩
  · obtain ⟨v, h1, h2⟩ := R.sl i z q
    exact ⟨v, h1, ZV.mono e.g h2⟩
  · obtain ⟨h1, h2⟩ := R.ce q b c hm
    obtain ⟨u, hu, _, nt⟩ := CD.there h2
    exact ⟨gn_none e.x (e.f q u hu h1) (hh _ _ hu) nt, CD.stay h2 e.g (fun o h => hh _ _ h) fun a x h => ⟨hh _ _ h, fun g => gn_none e.x (e.f a _ h g) (hh _ _ h) (fun _ z => nomatch z)⟩⟩
  · obtain ⟨o', q⟩ := R.lv a o h1
    exact e.l a o' q
  · obtain ⟨o', q⟩ := R.lv a o h1
    exact gn_trans e.g (R.f0 a o h1 h2) (e.f a o' q)
/-- behind a call that writes one cell -/
theorem Rel.call1 {b : Bool} {c c' : CD} (R : Rel K n S M σ G H) (e : Ext [p] G H G' H') (u : Upd1 p b c c' M M') (hd : ∀ a x, H a = some (.own x) → H' a = some (.own x)) (hc : CD.at K G' H' p c') : Rel K n S M' σ G' H' := by
  have hm := u.mem
  obtain ⟨hg, hcd⟩ := R.ce p b c hm
  obtain ⟨u0, hu0, _⟩ := CD.there hcd
  refine ⟨e.x, R.len, fun i z q => ?_, by rw [u.fst]; exact R.nd, fun q b' e' h => ?_, R.g0.trans e.g, fun a o h1 h2 => ?_, fun a o h1 => ?_, fun a o h1 h2 => ?_, fun q e' h => ?_, fun q e' h => ?_⟩
  · obtain ⟨v, h1, h2⟩ := R.sl i z q
    exact ⟨v, h1, ZV.mono e.g h2⟩
  · rcases u.of R.nd q b' e' h with ⟨rfl, rfl, rfl⟩ | ⟨z1, z2⟩
    · obtain ⟨u2, hu2, _, nt⟩ := CD.there hc
      exact ⟨gn_none e.x (e.f q _ hu0 hg) hu2 nt, hc⟩
    · obtain ⟨h1, h2⟩ := R.ce q b' e' z2
      obtain ⟨u1, hu1, _, nt⟩ := CD.there h2
      exact ⟨gn_none e.x (e.f q u1 hu1 h1) (e.h _ _ hu1 (by simpa using z1)) nt, CD.stay h2 e.g (fun o h => e.h _ _ h (by simpa using z1)) fun a x h => ⟨hd a x h, fun g => gn_none e.x (e.f a _ h g) (hd a x h) (fun _ z => nomatch z)⟩⟩
  · have np : a ∉ [p] := by
      intro z
      have z : a = p := by simpa using z
      subst z
      cases b with
      | false => exact h2 (R.a0 _ _ hm)
      | true => rw [R.o0 _ _ hm] at h1; cases h1
    exact e.h a o (R.h0 a o h1 h2) np
  · obtain ⟨o', q⟩ := R.lv a o h1
    exact e.l a o' q
  · obtain ⟨o', q⟩ := R.lv a o h1
    exact gn_trans e.g (R.f0 a o h1 h2) (e.f a o' q)
  · rcases u.of R.nd q false e' h with ⟨rfl, z, _⟩ | ⟨_, z⟩
    · subst z
      exact R.a0 _ _ hm
    · exact R.a0 q e' z
  · rcases u.of R.nd q true e' h with ⟨rfl, z, _⟩ | ⟨_, z⟩
    · subst z
      exact R.o0 _ _ hm
    · exact R.o0 q e' z
end
end Z
namespace Z
open PySem PySem.Spec PyProof.Rows L2
open Evl (Ex)
/-! ### the judgements: readings over data -/
abbrev QZ := ZV → Ms → Prop
abbrev XZ := XD → Zs → Ms → Prop
def XOk (K : Fg) (E : XK) (n : Sn) (σ : L2.St) (G : Hp) (X : XZ) : Prop := ∀ cls d G' H' x S' M', Ex G G' → Rel K n S' M' σ G' H' → XAt K G' cls d x → X x S' M' → E cls d H'
def ZW (K : Fg) (E : L2.St → XK) (te : TE) (S : Zs) (M : Ms) (Q : QZ) (X : XZ) : Prop := ∀ (n : Sn) (σ : L2.St) (G H : Hp), Rel K n S M σ G H → ∀ Qv : VK,
  (∀ v G' H' z M', Ex G G' → Rel K n S M' σ G' H' → ZV.at K G' v z → Q z M' → Qv v H') → XOk K (E σ) n σ G X → te σ H Qv
def ZA (K : Fg) (E : L2.St → XK) (ta : TA) (S : Zs) (M : Ms) (Q : List ZV → Ms → Prop) (X : XZ) : Prop := ∀ (n : Sn) (σ : L2.St) (G H : Hp), Rel K n S M σ G H → ∀ Qv : List V → Hp → Prop,
  (∀ vs G' H' zs M', Ex G G' → Rel K n S M' σ G' H' → ZAll K G' vs zs → Q zs M' → Qv vs H') → XOk K (E σ) n σ G X → ta σ H Qv
def ZT (K : Fg) (E : L2.St → XK) (tt : TT) (S : Zs) (M : Ms) (Q : Bool → Ms → Prop) (X : XZ) : Prop := ∀ (n : Sn) (σ : L2.St) (G H : Hp), Rel K n S M σ G H → ∀ Qv : Bool → Hp → Prop,
  (∀ b G' H' M', Ex G G' → Rel K n S M' σ G' H' → Q b M' → Qv b H') → XOk K (E σ) n σ G X → tt σ H Qv
structure ZP where
  nx : Zs → Ms → Prop
  rt : QZ
  bk : Zs → Ms → Prop
  ct : Zs → Ms → Prop
  ex : XZ
structure DOk (K : Fg) (E : L2.St → XK) (n : Sn) (G : Hp) (P : ZP) (D : Ends) : Prop where
  nx : ∀ σ' G' H' S' M', Ex G G' → Rel K n S' M' σ' G' H' → P.nx S' M' → D.nx σ' H'
  rt : ∀ v σ' G' H' z S' M', Ex G G' → Rel K n S' M' σ' G' H' → ZV.at K G' v z → P.rt z M' → D.rt v H'
  bk : ∀ σ' G' H' S' M', Ex G G' → Rel K n S' M' σ' G' H' → P.bk S' M' → D.bk σ' H'
  ct : ∀ σ' G' H' S' M', Ex G G' → Rel K n S' M' σ' G' H' → P.ct S' M' → D.ct σ' H'
  ex : ∀ cls d σ' G' H' x S' M', Ex G G' → Rel K n S' M' σ' G' H' → XAt K G' cls d x → P.ex x S' M' → E σ' cls d H'
theorem DOk.mono {K : Fg} {E : L2.St → XK} {n : Sn} {G G' : Hp} {P : ZP} {D : Ends} (k : DOk K E n G P D) (e : Ex G G') : DOk K E n G' P D :=
  ⟨fun a b c d f g => k.nx a b c d f (e.trans g), fun a b c d f h i g => k.rt a b c d f h i (e.trans g), fun a b c d f g => k.bk a b c d f (e.trans g), fun a b c d f g => k.ct a b c d f (e.trans g), fun a b c d f h i j g => k.ex a b c d f h i j (e.trans g)⟩
def ZS (K : Fg) (E : L2.St → XK) (t : TS) (S : Zs) (M : Ms) (P : ZP) : Prop := ∀ (n : Sn) (σ : L2.St) (G H : Hp), Rel K n S M σ G H → ∀ D, DOk K E n G P D → t D σ H
section
variable {K : Fg} {E : L2.St → XK} {e0 : XK} {te ta tb tc : TE} {tA : TA} {t u : TT} {S S' : Zs} {M M' : Ms} {Q : QZ} {X : XZ} {n : Sn} {σ : L2.St} {G G' H H' : Hp}
theorem XOk.mono (h : XOk K e0 n σ G X) (e : Ex G G') : XOk K e0 n σ G' X := fun cls d G2 H2 x S2 M2 e2 => h cls d G2 H2 x S2 M2 (e.trans e2)
theorem ZW.imp {Q' : QZ} (h : ZW K E te S M Q X) (i : ∀ z M', Q z M' → Q' z M') : ZW K E te S M Q' X := fun n σ G H R Qv q x => h n σ G H R Qv (fun v G' H' z M' e R' a b => q v G' H' z M' e R' a (i _ _ b)) x
/-! ### expressions -/
theorem zw_var {i : Nat} {z : ZV} (h : S[i]? = some (some z)) (q : Q z M) : ZW K E (tVar i) S M Q X := fun n σ G H R Qv k _ => by
  obtain ⟨v, h1, h2⟩ := R.sl i z h
  exact ⟨v, h1, k v G H z M (Ex.refl G) R h2 q⟩
theorem zw_c {v : V} {d : PyData} (h : ∀ H, Dz K H v d) (q : Q (.d d) M) : ZW K E (tC v) S M Q X := fun n σ G H R Qv k _ => k v G H (.d d) M (Ex.refl G) R (h G) q
theorem zw_int {i : Int} (q : Q (.d (.int i)) M) : ZW K E (tC (.int i)) S M Q X := zw_c (fun _ => .int i) q
theorem zw_str {x : Str} (q : Q (.d (.str x)) M) : ZW K E (tC (.str x)) S M Q X := zw_c (fun _ => .str x) q
theorem zw_bl {b : Bool} (q : Q (.d (.bool b)) M) : ZW K E (tC (.bl b)) S M Q X := zw_c (fun _ => .bl b) q
theorem zw_non (q : Q (.d .none) M) : ZW K E (tC .non) S M Q X := zw_c (fun _ => .non) q
/-- an operation on values, over data -/
def ZO (K : Fg) (r : R2) (x y : ZV) (M : Ms) (Q : QZ) : Prop := ∀ (n : Sn) (S : Zs) (σ : L2.St) (G H : Hp), Rel K n S M σ G H → ∀ v u, ZV.at K G v x → ZV.at K G u y → ∀ Qv : VK,
  (∀ w G' H' z M', Ex G G' → Rel K n S M' σ G' H' → ZV.at K G' w z → Q z M' → Qv w H') → r v u H Qv
theorem zw_op {r : R2} (h : ZW K E ta S M (fun x M1 => ZW K E tb S M1 (fun y M2 => ZO K r x y M2 Q) X) X) : ZW K E (tOp r ta tb) S M Q X := fun n σ G H R Qv k kx =>
  h n σ G H R _ (fun v G1 H1 x M1 e1 R1 a1 h1 => h1 n σ G1 H1 R1 _ (fun u G2 H2 y M2 e2 R2 a2 h2 => h2 n S σ G2 H2 R2 v u (ZV.mono e2 a1) a2 Qv
    fun w G3 H3 z M3 e3 R3 a3 q => k w G3 H3 z M3 ((e1.trans e2).trans e3) R3 a3 q) (kx.mono e1)) kx
def ZU (K : Fg) (r : V → Hp → VK → Prop) (x : ZV) (M : Ms) (Q : QZ) : Prop := ∀ (n : Sn) (S : Zs) (σ : L2.St) (G H : Hp), Rel K n S M σ G H → ∀ v, ZV.at K G v x → ∀ Qv : VK,
  (∀ w G' H' z M', Ex G G' → Rel K n S M' σ G' H' → ZV.at K G' w z → Q z M' → Qv w H') → r v H Qv
theorem zw_un {r : V → Hp → VK → Prop} (h : ZW K E ta S M (fun x M1 => ZU K r x M1 Q) X) : ZW K E (tUn r ta) S M Q X := fun n σ G H R Qv k kx =>
  h n σ G H R _ (fun v G1 H1 x M1 e1 R1 a1 h1 => h1 n S σ G1 H1 R1 v a1 Qv fun w G3 H3 z M3 e3 R3 a3 q => k w G3 H3 z M3 (e1.trans e3) R3 a3 q) kx
/-- the plain ones: a value that is there already, nothing made -/
theorem zo_val {r : R2} {x y : ZV} {z : ZV} (h : ∀ G H v u, Ex G H → ZV.at K G v x → ZV.at K G u y → ∃ w, ZV.at K G w z ∧ ∀ Qv : VK, Qv w H → r v u H Qv) (q : Q z M) : ZO K r x y M Q := fun n S σ G H R v u a b Qv k => by
  obtain ⟨w, h1, h2⟩ := h G H v u R.ex a b
  exact h2 Qv (k w G H z M (Ex.refl G) R h1 q)
theorem dp_int {G : Hp} {v : V} {i : Int} (h : Dz K G v (.int i)) : v = .int i := by cases h; rfl
theorem dp_str {G : Hp} {v : V} {i : Str} (h : Dz K G v (.str i)) : v = .str i := by cases h; rfl
theorem dp_bl {G : Hp} {v : V} {i : Bool} (h : Dz K G v (.bool i)) : v = .bl i := by cases h; rfl
theorem dp_non {G : Hp} {v : V} (h : Dz K G v .none) : v = .non := by cases h; rfl
theorem dp_tup {G : Hp} {v : V} {ds : List PyData} (h : Dz K G v (.tuple ds)) : ∃ a xs, v = .ref a ∧ SqT K G a xs ∧ DzAll K G xs ds := by cases h with | tup s a => exact ⟨_, _, rfl, s.sq, a⟩
theorem dp_lst {G : Hp} {v : V} {ds : List PyData} (h : Dz K G v (.list ds)) : ∃ a xs, v = .ref a ∧ SqL K G a xs ∧ DzAll K G xs ds := by cases h with | lst s a => exact ⟨_, _, rfl, s, a⟩
theorem dpa_len {G : Hp} : ∀ {vs : List V} {ds : List PyData}, DzAll K G vs ds → vs.length = ds.length
  | _, _, .nil => rfl
  | _, _, .cons _ b => by simp [dpa_len b]
theorem dpa_get {G : Hp} : ∀ {vs : List V} {ds : List PyData} {i : Nat} {d : PyData}, DzAll K G vs ds → ds[i]? = some d → ∃ v, vs[i]? = some v ∧ Dz K G v d
  | _, _, _, _, .nil, h => by simp at h
  | _, _, 0, _, .cons a _, h => by simp at h; subst h; exact ⟨_, rfl, a⟩
  | _, _, i + 1, _, .cons _ b, h => by
    obtain ⟨v, h1, h2⟩ := dpa_get (i := i) b (by simpa using h)
    exact ⟨v, by simpa using h1, h2⟩
theorem dpa_app {G : Hp} : ∀ {vs ws : List V} {ds es : List PyData}, DzAll K G vs ds → DzAll K G ws es → DzAll K G (vs ++ ws) (ds ++ es)
  | _, _, _, _, .nil, h => h
  | _, _, _, _, .cons a b, h => .cons a (dpa_app b h)
theorem dpa_take {G : Hp} : ∀ {vs : List V} {ds : List PyData} (k : Nat), DzAll K G vs ds → DzAll K G (vs.take k) (ds.take k)
  | _, _, 0, _ => .nil
  | _, _, _ + 1, .nil => .nil
  | _, _, k + 1, .cons a b => .cons a (dpa_take k b)
theorem dpa_drop {G : Hp} : ∀ {vs : List V} {ds : List PyData} (k : Nat), DzAll K G vs ds → DzAll K G (vs.drop k) (ds.drop k)
  | _, _, 0, h => h
  | _, _, _ + 1, .nil => .nil
  | _, _, k + 1, .cons _ b => dpa_drop k b
theorem dpa_one {G : Hp} {v : V} {d : PyData} (h : Dz K G v d) : DzAll K G [v] [d] := .cons h .nil
theorem dpa_set {G : Hp} {v : V} {d : PyData} (h : Dz K G v d) : ∀ {vs : List V} {ds : List PyData} (k : Nat), DzAll K G vs ds → DzAll K G (vs.set k v) (ds.set k d)
  | _, _, _, .nil => .nil
  | _, _, 0, .cons _ b => .cons h b
  | _, _, k + 1, .cons a b => .cons a (dpa_set h k b)
theorem zall_d {G : Hp} : ∀ {vs : List V} {ds : List PyData}, ZAll K G vs (ds.map .d) → DzAll K G vs ds
  | [], [], .nil => .nil
  | _ :: _, _ :: _, .cons a b => .cons a (zall_d b)
theorem zo_I0 {g : Int → Int → V} {gd : Int → Int → PyData} {i j : Int} (hg : ∀ H, Dz K H (g i j) (gd i j)) (q : Q (.d (gd i j)) M) : ZO K (rI0 g) (.d (.int i)) (.d (.int j)) M Q :=
  zo_val (z := .d (gd i j)) (fun G H v u _ a b => ⟨g i j, hg G, fun Qv h => ⟨i, j, dp_int a, dp_int b, h⟩⟩) q
theorem zo_I {C : Int → Int → Prop} {g : Int → Int → V} {gd : Int → Int → PyData} {i j : Int} (hg : ∀ H, Dz K H (g i j) (gd i j)) (hc : C i j) (q : Q (.d (gd i j)) M) : ZO K (rI C g) (.d (.int i)) (.d (.int j)) M Q :=
  zo_val (z := .d (gd i j)) (fun G H v u _ a b => ⟨g i j, hg G, fun Qv h => ⟨i, j, dp_int a, dp_int b, hc, h⟩⟩) q
theorem zo_add {i j : Int} (q : Q (.d (.int (i + j))) M) : ZO K (rI0 fun i j => .int (i + j)) (.d (.int i)) (.d (.int j)) M Q := zo_I0 (gd := fun i j => .int (i + j)) (fun _ => .int _) q
theorem zo_sub {i j : Int} (q : Q (.d (.int (i - j))) M) : ZO K (rI0 fun i j => .int (i - j)) (.d (.int i)) (.d (.int j)) M Q := zo_I0 (gd := fun i j => .int (i - j)) (fun _ => .int _) q
theorem zo_mul {i j : Int} (hc : CMul i j) (q : Q (.d (.int (i * j))) M) : ZO K (rI CMul fun i j => .int (i * j)) (.d (.int i)) (.d (.int j)) M Q := zo_I (gd := fun i j => .int (i * j)) (fun _ => .int _) hc q
theorem zo_mod {i j : Int} (hc : 0 < j) (q : Q (.d (.int (i % j))) M) : ZO K (rI (fun _ j => 0 < j) fun i j => .int (i % j)) (.d (.int i)) (.d (.int j)) M Q := zo_I (C := fun _ j => 0 < j) (gd := fun i j => .int (i % j)) (fun _ => .int _) hc q
theorem zo_pow {i j : Int} (hc : CPow i j) (q : Q (.d (.int (i ^ j.toNat))) M) : ZO K (rI CPow fun i j => .int (i ^ j.toNat)) (.d (.int i)) (.d (.int j)) M Q := zo_I (gd := fun i j => .int (i ^ j.toNat)) (fun _ => .int _) hc q
theorem zo_lt {i j : Int} (q : Q (.d (.bool (decide (i < j)))) M) : ZO K (rI0 fun i j => .bl (decide (i < j))) (.d (.int i)) (.d (.int j)) M Q := zo_I0 (gd := fun i j => .bool (decide (i < j))) (fun _ => .bl _) q
theorem zo_le {i j : Int} (q : Q (.d (.bool (decide (i ≤ j)))) M) : ZO K (rI0 fun i j => .bl (decide (i ≤ j))) (.d (.int i)) (.d (.int j)) M Q := zo_I0 (gd := fun i j => .bool (decide (i ≤ j))) (fun _ => .bl _) q
theorem zo_gt {i j : Int} (q : Q (.d (.bool (decide (j < i)))) M) : ZO K (rI0 fun i j => .bl (decide (j < i))) (.d (.int i)) (.d (.int j)) M Q := zo_I0 (gd := fun i j => .bool (decide (j < i))) (fun _ => .bl _) q
theorem zo_ge {i j : Int} (q : Q (.d (.bool (decide (j ≤ i)))) M) : ZO K (rI0 fun i j => .bl (decide (j ≤ i))) (.d (.int i)) (.d (.int j)) M Q := zo_I0 (gd := fun i j => .bool (decide (j ≤ i))) (fun _ => .bl _) q
theorem zu_neg {i : Int} (q : Q (.d (.int (-i))) M) : ZU K (rU fun i => .int (-i)) (.d (.int i)) M Q := fun n S σ G H R v a Qv k => ⟨i, dp_int a, k _ G H (.d (.int (-i))) M (Ex.refl G) R (.int _) q⟩
/-- == over data -/
theorem zo_eq {x y : PyData} (hx : SeqAt.shaped x = true) (hy : SeqAt.shaped y = true) (q : Q (.d (.bool (PyData.eqv x y))) M) : ZO K (rEqD K) (.d x) (.d y) M Q :=
  zo_val (z := .d (.bool (PyData.eqv x y))) (fun G H v u e a b => ⟨_, .bl _, fun Qv h => ⟨x, y, dz_dp (dp_mono e a), dz_dp (dp_mono e b), hx, hy, h⟩⟩) q
theorem zo_ne {x y : PyData} (hx : SeqAt.shaped x = true) (hy : SeqAt.shaped y = true) (q : Q (.d (.bool (!PyData.eqv x y))) M) : ZO K (rNeD K) (.d x) (.d y) M Q :=
  zo_val (z := .d (.bool (!PyData.eqv x y))) (fun G H v u e a b => ⟨_, .bl _, fun Qv h => ⟨x, y, dz_dp (dp_mono e a), dz_dp (dp_mono e b), hx, hy, h⟩⟩) q
abbrev rAddS1 : R2 := fun x y H Q => ∃ i j, x = .str i ∧ y = .str j ∧ i.length + j.length ≤ sizeLine ∧ Q (.str (i ++ j)) H
/-! ### arguments, displays -/
theorem za_nil {Q : List ZV → Ms → Prop} (q : Q [] M) : ZA K E tNil S M Q X := fun n σ G H R Qv k _ => k [] G H [] M (Ex.refl G) R .nil q
theorem za_cons {Q : List ZV → Ms → Prop} (h : ZW K E te S M (fun x M1 => ZA K E tA S M1 (fun zs M2 => Q (x :: zs) M2) X) X) : ZA K E (tCons te tA) S M Q X := fun n σ G H R Qv k kx =>
  h n σ G H R _ (fun v G1 H1 x M1 e1 R1 a1 h1 => h1 n σ G1 H1 R1 _ (fun vs G2 H2 zs M2 e2 R2 a2 q => k (v :: vs) G2 H2 (x :: zs) M2 (e1.trans e2) R2 (.cons (ZV.mono e2 a1) a2) q) (kx.mono e1)) kx
/-- all plain data -/
def AllD (zs : List ZV) (ds : List PyData) : Prop := zs = ds.map .d
theorem allD_nil : AllD [] [] := rfl
theorem allD_cons {d : PyData} {zs : List ZV} {ds : List PyData} (h : AllD zs ds) : AllD (.d d :: zs) (d :: ds) := by unfold AllD at *; rw [h]; rfl
theorem zw_tup (h : ZA K E tA S M (fun zs M1 => ∃ ds, AllD zs ds ∧ ds.length ≤ sizeLine ∧ Q (.d (.tuple ds)) M1) X) : ZW K E (tTup tA) S M Q X := fun n σ G H R Qv k kx =>
  h n σ G H R _ (fun vs G1 H1 zs M1 e1 R1 a1 ⟨ds, hd, hl, q⟩ => by
    have a2 : DzAll K G1 vs ds := zall_d (by rw [← hd]; exact a1)
    refine ⟨by rw [dpa_len a2]; exact hl, fun p hp => ?_⟩
    have g := ex_gnone R1.ex hp
    exact k (.ref p) _ _ (.d (.tuple ds)) M1 (e1.trans (Ex.new g)) (R1.new hp (fun _ z => nomatch z)) (.tup (.inl upd_same) (dpAll_mono (Ex.new g) a2)) q) kx
/-- a list: frozen at once | a cell -/
theorem zw_lstD (h : ZA K E tA S M (fun zs M1 => ∃ ds, AllD zs ds ∧ ds.length ≤ sizeLine ∧ Q (.d (.list ds)) M1) X) : ZW K E (tLst tA) S M Q X := fun n σ G H R Qv k kx =>
  h n σ G H R _ (fun vs G1 H1 zs M1 e1 R1 a1 ⟨ds, hd, hl, q⟩ => by
    have a2 : DzAll K G1 vs ds := zall_d (by rw [← hd]; exact a1)
    refine ⟨by rw [dpa_len a2]; exact hl, fun p hp => ?_⟩
    have g := ex_gnone R1.ex hp
    exact k (.ref p) _ _ (.d (.list ds)) M1 (e1.trans (Ex.new g)) (R1.new hp (fun _ z => nomatch z)) (.lst (Evl.sq_of upd_same) (dpAll_mono (Ex.new g) a2)) q) kx
theorem zw_lstC (h : ZA K E tA S M (fun zs M1 => ∃ ds, AllD zs ds ∧ ds.length ≤ sizeLine ∧ ∀ p, Q (.c p) ((p, true, .lst ds) :: M1)) X) : ZW K E (tLst tA) S M Q X := fun n σ G H R Qv k kx =>
  h n σ G H R _ (fun vs G1 H1 zs M1 e1 R1 a1 ⟨ds, hd, hl, q⟩ => by
    have a2 : DzAll K G1 vs ds := zall_d (by rw [← hd]; exact a1)
    exact ⟨by rw [dpa_len a2]; exact hl, fun p hp => k (.ref p) _ _ (.c p) _ e1 (R1.newLst hp a2) rfl (q p)⟩) kx
/-- an own list is taken as data from here on -/
theorem zw_frz (h : ZW K E te S M (fun z M1 => ∃ p xs M2, z = .c p ∧ Rem1 p true (.lst xs) M1 M2 ∧ Q (.d (.list xs)) M2) X) : ZW K E te S M Q X := fun n σ G H R Qv k kx =>
  h n σ G H R _ (fun v G1 H1 z M1 e1 R1 a1 ⟨p, xs, M2, hz, hr, q⟩ => by
    subst hz
    obtain ⟨G2, e2, R2, d2⟩ := R1.frz hr
    have ev : v = .ref p := a1
    subst ev
    exact k _ G2 H1 (.d (.list xs)) M2 (e1.trans e2) R2 d2 q) kx
/-! ### tests, and, or, not, if .. else -/
theorem zt_test {Q : Bool → Ms → Prop} (h : ZW K E te S M (fun z M1 => ∃ b, z = .d (.bool b) ∧ Q b M1) X) : ZT K E (tTest te) S M Q X := fun n σ G H R Qv k kx =>
  h n σ G H R _ (fun v G1 H1 z M1 e1 R1 a1 ⟨b, hz, q⟩ => by subst hz; exact ⟨b, dp_bl a1, k b G1 H1 M1 e1 R1 q⟩) kx
theorem zt_B {Q : Bool → Ms → Prop} (h : ZW K E te S M (fun z M1 => ∃ b, z = .d (.bool b) ∧ Q b M1) X) : ZT K E (tB te) S M Q X := fun n σ G H R Qv k kx =>
  h n σ G H R _ (fun v G1 H1 z M1 e1 R1 a1 ⟨b, hz, q⟩ => by subst hz; exact ⟨b, dp_bl a1, k b G1 H1 M1 e1 R1 q⟩) kx
/-- a value's truth -/
def dTru : PyData → Option Bool
  | .none => some false
  | .bool b => some b
  | .int i => some (i != 0)
  | .str y => if y.length ≤ sizeLine then some ((y.length : Int) != 0) else none
  | .list xs => some (!xs.isEmpty)
  | .tuple xs => some (!xs.isEmpty)
  | .dict _ => none
theorem dTru_ok {K : Fg} {G : Hp} {v : V} {d : PyData} {b : Bool} (h : Dz K G v d) (e : dTru d = some b) : TruV K v G b := by
  cases h with
  | non => exact (Option.some.inj e).symm
  | bl x => exact (Option.some.inj e).symm
  | int i => exact (Option.some.inj e).symm
  | str y =>
    simp only [dTru] at e
    split at e
    · rename_i hl; exact ⟨hl, (Option.some.inj e).symm⟩
    · cases e
  | lst s a =>
    refine .inl ⟨_, s, ?_⟩
    have := dpa_len a
    have e := Option.some.inj e
    rw [← e]
    cases a <;> rfl
  | tup s a =>
    refine .inr (.inl ⟨_, s.sq, ?_⟩)
    have e := Option.some.inj e
    rw [← e]
    cases a <;> rfl
theorem truV_mono {K : Fg} {G H : Hp} (e : Ex G H) {v : V} {b : Bool} (h : TruV K v G b) : TruV K v H b := by
  cases v with
  | ref p =>
    rcases h with ⟨xs, s, z⟩ | ⟨xs, s, z⟩ | ⟨kvs, s, z⟩
    · exact .inl ⟨xs, Evl.ex_l e s, z⟩
    · exact .inr (.inl ⟨xs, Evl.ex_t e s, z⟩)
    · exact .inr (.inr ⟨kvs, e _ _ s, z⟩)
  | _ => exact h
theorem zt_tru {Q : Bool → Ms → Prop} (h : ZW K E te S M (fun z M1 => ∃ d b, z = .d d ∧ dTru d = some b ∧ Q b M1) X) : ZT K E (fun σ H Q => te σ H fun x H' => ∃ k, TruV K x H' k ∧ Q k H') S M Q X := fun n σ G H R Qv k kx =>
  h n σ G H R _ (fun v G1 H1 z M1 e1 R1 a1 ⟨d, b, hz, hb, q⟩ => by subst hz; exact ⟨b, truV_mono R1.ex (dTru_ok a1 hb), k b G1 H1 M1 e1 R1 q⟩) kx
theorem zt_not {Q : Bool → Ms → Prop} (h : ZT K E t S M (fun b M1 => Q (!b) M1) X) : ZT K E (tNot t) S M Q X := fun n σ G H R Qv k kx =>
  h n σ G H R _ (fun b G1 H1 M1 e1 R1 q => k (!b) G1 H1 M1 e1 R1 q) kx
theorem zt_and {Q : Bool → Ms → Prop} (h : ZT K E t S M (fun b M1 => (b = false → Q false M1) ∧ (b = true → ZT K E u S M1 Q X)) X) : ZT K E (tAnd t u) S M Q X := fun n σ G H R Qv k kx =>
  h n σ G H R _ (fun b G1 H1 M1 e1 R1 q => by
    cases b with
    | true =>
      show u σ H1 Qv
      exact q.2 rfl n σ G1 H1 R1 Qv (fun b G2 H2 M2 e2 R2 q2 => k b G2 H2 M2 (e1.trans e2) R2 q2) (kx.mono e1)
    | false =>
      show Qv false H1
      exact k false G1 H1 M1 e1 R1 (q.1 rfl)) kx
theorem zt_or {Q : Bool → Ms → Prop} (h : ZT K E t S M (fun b M1 => (b = true → Q true M1) ∧ (b = false → ZT K E u S M1 Q X)) X) : ZT K E (tOr t u) S M Q X := fun n σ G H R Qv k kx =>
  h n σ G H R _ (fun b G1 H1 M1 e1 R1 q => by
    cases b with
    | true =>
      show Qv true H1
      exact k true G1 H1 M1 e1 R1 (q.1 rfl)
    | false =>
      show u σ H1 Qv
      exact q.2 rfl n σ G1 H1 R1 Qv (fun b G2 H2 M2 e2 R2 q2 => k b G2 H2 M2 (e1.trans e2) R2 q2) (kx.mono e1)) kx
theorem zw_andV (h : ZW K E ta S M (fun z M1 => ∃ b, z = .d (.bool b) ∧ (b = false → Q (.d (.bool false)) M1) ∧ (b = true → ZW K E tb S M1 Q X)) X) : ZW K E (tAndV ta tb) S M Q X := fun n σ G H R Qv k kx =>
  h n σ G H R _ (fun v G1 H1 z M1 e1 R1 a1 ⟨b, hz, q⟩ => by
    subst hz
    refine ⟨b, dp_bl a1, ?_⟩
    cases b with
    | true =>
      show tb σ H1 Qv
      exact q.2 rfl n σ G1 H1 R1 Qv (fun w G2 H2 z M2 e2 R2 a2 q2 => k w G2 H2 z M2 (e1.trans e2) R2 a2 q2) (kx.mono e1)
    | false =>
      show Qv (.bl false) H1
      exact k _ G1 H1 (.d (.bool false)) M1 e1 R1 (Dz.bl false) (q.1 rfl)) kx
theorem zw_orV (h : ZW K E ta S M (fun z M1 => ∃ b, z = .d (.bool b) ∧ (b = true → Q (.d (.bool true)) M1) ∧ (b = false → ZW K E tb S M1 Q X)) X) : ZW K E (tOrV ta tb) S M Q X := fun n σ G H R Qv k kx =>
  h n σ G H R _ (fun v G1 H1 z M1 e1 R1 a1 ⟨b, hz, q⟩ => by
    subst hz
    refine ⟨b, dp_bl a1, ?_⟩
    cases b with
    | true =>
      show Qv (.bl true) H1
      exact k _ G1 H1 (.d (.bool true)) M1 e1 R1 (Dz.bl true) (q.1 rfl)
    | false =>
      show tb σ H1 Qv
      exact q.2 rfl n σ G1 H1 R1 Qv (fun w G2 H2 z M2 e2 R2 a2 q2 => k w G2 H2 z M2 (e1.trans e2) R2 a2 q2) (kx.mono e1)) kx
theorem zw_notV (h : ZW K E ta S M (fun z M1 => ∃ b, z = .d (.bool b) ∧ Q (.d (.bool (!b))) M1) X) : ZW K E (tNotV ta) S M Q X := fun n σ G H R Qv k kx =>
  h n σ G H R _ (fun v G1 H1 z M1 e1 R1 a1 ⟨b, hz, q⟩ => by subst hz; exact ⟨b, dp_bl a1, k _ G1 H1 (.d (.bool (!b))) M1 e1 R1 (Dz.bl (!b)) q⟩) kx
theorem zw_if (h : ZT K E t S M (fun b M1 => (b = true → ZW K E ta S M1 Q X) ∧ (b = false → ZW K E tb S M1 Q X)) X) : ZW K E (tIf t ta tb) S M Q X := fun n σ G H R Qv k kx =>
  h n σ G H R _ (fun b G1 H1 M1 e1 R1 q => by
    cases b with
    | true =>
      show ta σ H1 Qv
      exact q.1 rfl n σ G1 H1 R1 Qv (fun w G2 H2 z M2 e2 R2 a2 q2 => k w G2 H2 z M2 (e1.trans e2) R2 a2 q2) (kx.mono e1)
    | false =>
      show tb σ H1 Qv
      exact q.2 rfl n σ G1 H1 R1 Qv (fun w G2 H2 z M2 e2 R2 a2 q2 => k w G2 H2 z M2 (e1.trans e2) R2 a2 q2) (kx.mono e1)) kx
end
end Z
namespace Z
open PySem PySem.Spec PyProof.Rows L2
open Evl (Ex)
section
variable {K : Fg} {E : L2.St → XK} {e0 : XK} {te ta tb tc : TE} {tA : TA} {tt : TT} {t u : TS} {S S' : Zs} {M M' : Ms} {P : ZP} {Q : QZ} {X : XZ} {n : Sn} {σ : L2.St} {G G' H H' : Hp}
/-! ### statements -/
theorem DOk.xok {D : Ends} (k : DOk K E n G P D) : XOk K (E σ) n σ G P.ex := fun cls d G' H' x S' M' e R a b => k.ex cls d σ G' H' x S' M' e R a b
theorem zs_next (h : P.nx S M) : ZS K E tNext S M P := fun n σ G H R D k => k.nx σ G H S M (Ex.refl G) R h
theorem zs_seq (h : ZS K E t S M { P with nx := fun S' M' => ZS K E u S' M' P }) : ZS K E (tSeq t u) S M P := fun n σ G H R D k =>
  h n σ G H R _ ⟨fun σ' G' H' S' M' e R' z => z n σ' G' H' R' D (k.mono e), k.rt, k.bk, k.ct, k.ex⟩
theorem zs_asg {i : Nat} (h : ZW K E te S M (fun z M1 => P.nx (S.set i (some z)) M1) P.ex) : ZS K E (tAsg te (gName i)) S M P := fun n σ G H R D k =>
  h n σ G H R _ (fun v G1 H1 z M1 e1 R1 a1 q => k.nx _ G1 H1 _ M1 e1 (R1.set a1) q) k.xok
theorem zs_drop (h : ZW K E te S M (fun _ M1 => P.nx S M1) P.ex) : ZS K E (tDrop te) S M P := fun n σ G H R D k =>
  h n σ G H R _ (fun v G1 H1 z M1 e1 R1 a1 q => k.nx _ G1 H1 S M1 e1 R1 q) k.xok
theorem zs_ret (h : ZW K E te S M P.rt P.ex) : ZS K E (tRet te) S M P := fun n σ G H R D k =>
  h n σ G H R _ (fun v G1 H1 z M1 e1 R1 a1 q => k.rt v σ G1 H1 z S M1 e1 R1 a1 q) k.xok
theorem zs_retN (h : P.rt (.d .none) M) : ZS K E tRetN S M P := fun n σ G H R D k => k.rt .non σ G H (.d .none) S M (Ex.refl G) R Dz.non h
theorem zs_if (h : ZT K E tt S M (fun b M1 => (b = true → ZS K E t S M1 P) ∧ (b = false → ZS K E u S M1 P)) P.ex) : ZS K E (tIfS tt t u) S M P := fun n σ G H R D k =>
  h n σ G H R _ (fun b G1 H1 M1 e1 R1 q => by
    cases b with
    | true =>
      show t D σ H1
      exact q.1 rfl n σ G1 H1 R1 D (k.mono e1)
    | false =>
      show u D σ H1
      exact q.2 rfl n σ G1 H1 R1 D (k.mono e1)) k.xok
theorem zs_aug {i : Nat} {f : Int → Int → Int} {a : Int} (hs : S[i]? = some (some (.d (.int a)))) (h : ZW K E te S M (fun z M1 => ∃ b, z = .d (.int b) ∧ P.nx (S.set i (some (.d (.int (f a b))))) M1) P.ex) : ZS K E (tAug i te (ipI f)) S M P := fun n σ G H R D k => by
  obtain ⟨v, h1, h2⟩ := R.sl i _ hs
  have e := dp_int h2
  subst e
  refine ⟨_, h1, h n σ G H R _ (fun v G1 H1 z M1 e1 R1 a1 ⟨b, hz, q⟩ => ?_) k.xok⟩
  subst hz
  exact ⟨a, b, rfl, dp_int a1, k.nx _ G1 H1 _ M1 e1 (R1.set (v := .int (f a b)) (z := .d (.int (f a b))) (Dz.int _)) q⟩
/-- what holds of the state may be weakened ahead of a statement -/
theorem zs_weak (h : ZS K E t S' M' P) (hl : S'.length = S.length) (hs : ∀ (i : Nat) (z : ZV), S'[i]? = some (some z) → S[i]? = some (some z)) (hm : M'.Sublist M) : ZS K E t S M P := fun n σ G H R D k =>
  h n σ G H ((R.weak hl hs).drop hm) D k
/-- a row[i] = e over an own list -/
theorem zs_setL {to ti : TE} (h : ZW K E te S M (fun z M1 => ∃ d, z = .d d ∧ ZW K E to S M1 (fun o M2 => ZW K E ti S M2 (fun y M3 => ∃ p b xs k j M4, o = .c p ∧ y = .d (.int k) ∧ ixN xs.length k = some j ∧ Upd1 p b (.lst xs) (.lst (xs.set j d)) M3 M4 ∧ P.nx S M4) P.ex) P.ex) P.ex) :
    ZS K E (tAsg te (gSub to ti rSetL)) S M P := fun n σ G H R D k =>
  h n σ G H R _ (fun v G1 H1 z M1 e1 R1 a1 ⟨d, hz, h2⟩ => by
    subst hz
    refine h2 n σ G1 H1 R1 _ (fun o G2 H2 zo M2 e2 R2 a2 h3 => h3 n σ G2 H2 R2 _ (fun y G3 H3 zi M3 e3 R3 a3 ⟨p, b, xs, kk, j, M4, ho, hy, hj, hu, q⟩ => ?_) (XOk.mono k.xok ((e1.trans e2)))) (XOk.mono k.xok e1)
    subst ho hy
    have ev : o = .ref p := a2
    subst ev
    obtain ⟨_, ws, h4, h5⟩ := R3.ce p b _ hu.mem
    exact ⟨p, ws, kk, j, rfl, dp_int a3, h4, by rw [dpa_len h5]; exact hj, k.nx _ G3 _ S M4 ((e1.trans e2).trans e3) (R3.putLst hu (dpa_set (dp_mono (e2.trans e3) a1) j h5)) q⟩) k.xok
theorem zs_par {i j : Nat} (h : ZA K E tA S M (fun zs M1 => ∃ z w, zs = [z, w] ∧ P.nx ((S.set i (some z)).set j (some w)) M1) P.ex) : ZS K E (tPar i j tA) S M P := fun n σ G H R D k =>
  h n σ G H R _ (fun vs G1 H1 zs M1 e1 R1 a1 ⟨z, w, hz, q⟩ => by
    subst hz
    cases a1 with
    | cons a b => cases b with | cons b c => cases c; exact ⟨_, _, rfl, k.nx _ G1 H1 _ M1 e1 ((R1.set a).set b) q⟩) k.xok
/-! ### the defs' promises -/
inductive DOut where
  | ok (d : PyData)
  | ex (x : XD)
/-- a def over data: R its graph -/
def spD (K : Fg) (k : Nat) (R : List PyData → DOut → Prop) : Sp := fun vs H Q E => ∃ (G : Hp) (ds : List PyData) (o : DOut), Ex G H ∧ ds.length = k ∧ DzAll K G vs ds ∧ R ds o ∧
  (∀ d, o = .ok d → ∀ v G' H', Ext [] G H G' H' → Dz K G' v d → Q v H') ∧ (∀ x, o = .ex x → ∀ cls dd G' H', Ext [] G H G' H' → XAt K G' cls dd x → E cls dd H')
/-- a def whose first argument is an own list, which it may write -/
def spC (K : Fg) (k : Nat) (R : List PyData → List PyData → (DOut → List PyData → Prop) → Prop) : Sp := fun vs H Q E => ∃ (G : Hp) (p : Addr) (xs : List PyData) (us : List V) (ds : List PyData) (F : DOut → List PyData → Prop), vs = .ref p :: us ∧ ds.length = k ∧ Ex G H ∧ G p = none ∧ CD.at K G H p (.lst xs) ∧ DzAll K G us ds ∧ R xs ds F ∧
  (∀ o ys, F o ys → (∀ d, o = .ok d → ∀ v G' H', Ext [p] G H G' H' → (∀ a x, H a = some (.own x) → H' a = some (.own x)) → CD.at K G' H' p (.lst ys) → Dz K G' v d → Q v H') ∧
  (∀ x, o = .ex x → ∀ cls dd G' H', Ext [p] G H G' H' → (∀ a x, H a = some (.own x) → H' a = some (.own x)) → CD.at K G' H' p (.lst ys) → XAt K G' cls dd x → E cls dd H'))
/-- a method of an own object: fields before and behind -/
def spO (K : Fg) (C : Addr) (k : Nat) (R : List (Str × ZV) → List PyData → DOut → List (Str × ZV) → Prop) : Sp := fun vs H Q E => ∃ (G : Hp) (p : Addr) (fs : List (Str × ZV)) (us : List V) (ds : List PyData) (o : DOut) (fs' : List (Str × ZV)), vs = .ref p :: us ∧ ds.length = k ∧ Ex G H ∧ G p = none ∧ CD.at K G H p (.obj C fs) ∧ DzAll K G us ds ∧ R fs ds o fs' ∧
  (∀ d, o = .ok d → ∀ v G' H', Ext [p] G H G' H' → (∀ a x, H a = some (.own x) → H' a = some (.own x)) → CD.at K G' H' p (.obj C fs') → Dz K G' v d → Q v H') ∧
  (∀ x, o = .ex x → ∀ cls dd G' H', Ext [p] G H G' H' → (∀ a x, H a = some (.own x) → H' a = some (.own x)) → CD.at K G' H' p (.obj C fs') → XAt K G' cls dd x → E cls dd H')
def PFn (o : DOut) : ZP := ⟨fun _ _ => o = .ok .none, fun z _ => ∃ d, z = .d d ∧ o = .ok d, fun _ _ => False, fun _ _ => False, fun x _ _ => o = .ex x⟩
def PFc (p : Addr) (o : DOut) (c : CD) : ZP := ⟨fun _ M => o = .ok .none ∧ (p, false, c) ∈ M, fun z M => (∃ d, z = .d d ∧ o = .ok d) ∧ (p, false, c) ∈ M, fun _ _ => False, fun _ _ => False, fun x _ M => o = .ex x ∧ (p, false, c) ∈ M⟩
def PFl (p : Addr) (F : DOut → List PyData → Prop) : ZP := ⟨fun _ M => ∃ ys, F (.ok .none) ys ∧ (p, false, .lst ys) ∈ M, fun z M => ∃ d ys, z = .d d ∧ F (.ok d) ys ∧ (p, false, .lst ys) ∈ M, fun _ _ => False, fun _ _ => False, fun x _ M => ∃ ys, F (.ex x) ys ∧ (p, false, .lst ys) ∈ M⟩
def stS (ds : List PyData) : Zs := ds.map fun d => some (.d d)
theorem stS_get {vs : List V} {ds : List PyData} (h : DzAll K G vs ds) (k : Nat) : ∀ (i : Nat) (z : ZV), (stS ds ++ List.replicate k none)[i]? = some (some z) → ∃ v, (vs.map some ++ List.replicate k none)[i]? = some (some v) ∧ ZV.at K G v z := fun i z e => by
  have hl := dpa_len h
  by_cases hi : i < ds.length
  · rw [List.getElem?_append_left (by simpa [stS] using hi)] at e
    simp only [stS, List.getElem?_map] at e
    cases q : ds[i]? with
    | none => rw [q] at e; cases e
    | some d =>
      rw [q] at e
      simp only [Option.map_some, Option.some.injEq] at e
      subst e
      obtain ⟨v, h1, h2⟩ := dpa_get h q
      refine ⟨v, ?_, h2⟩
      rw [List.getElem?_append_left (by simpa [hl] using hi), List.getElem?_map, h1]
      rfl
  · rw [List.getElem?_append_right (by simpa [stS] using hi), List.getElem?_replicate] at e
    split at e <;> cases e
theorem rel_start {N : List Str} {vs : List V} {ds : List PyData} (e : Ex G H) (h : DzAll K G vs ds) : Rel K ⟨G, H, []⟩ (stS ds ++ List.replicate (N.length - ds.length) none) [] (L2.start N vs) G H where
  ex := e
  len := by unfold L2.start; simp [stS, dpa_len h]
  sl := fun i z q => by
    unfold L2.start
    rw [dpa_len h]
    exact stS_get h _ i z q
  nd := List.nodup_nil
  ce := fun _ _ _ q => by simp at q
  g0 := Ex.refl G
  h0 := fun _ _ q _ => q
  lv := fun _ o q => ⟨o, q⟩
  f0 := fun _ _ _ q => .inl q
  a0 := fun _ _ q => by simp at q
  o0 := fun _ _ q => by simp at q
theorem rel_startC {N : List Str} {p : Addr} {c : CD} {vs : List V} {ds : List PyData} (e : Ex G H) (hp : G p = none) (hc : CD.at K G H p c) (h : DzAll K G vs ds) :
    Rel K ⟨G, H, [p]⟩ (some (.c p) :: (stS ds ++ List.replicate (N.length - (ds.length + 1)) none)) [(p, false, c)] (L2.start N (.ref p :: vs)) G H where
  ex := e
  len := by unfold L2.start; simp [stS, dpa_len h]
  sl := fun i z q => by
    unfold L2.start
    cases i with
    | zero => simp at q; subst q; exact ⟨.ref p, rfl, rfl⟩
    | succ i =>
      simp only [List.getElem?_cons_succ] at q
      obtain ⟨v, h1, h2⟩ := stS_get h _ i z q
      exact ⟨v, by simpa [dpa_len h] using h1, h2⟩
  nd := by simp
  ce := fun q b c' hm => by
    simp at hm
    obtain ⟨rfl, rfl, rfl⟩ := hm
    exact ⟨hp, hc⟩
  g0 := Ex.refl G
  h0 := fun _ _ q _ => q
  lv := fun _ o q => ⟨o, q⟩
  f0 := fun _ _ _ q => .inl q
  a0 := fun q c' hm => by simp at hm; simp [hm.1]
  o0 := fun q c' hm => by simp at hm
theorem fn_D {R : List PyData → DOut → Prop} {k : Nat} {N : List Str} {vs : List V} {Qv : VK} (h : spD K k R vs H Qv e0) (b : ∀ ds o, ds.length = k → R ds o → ZS K (fun _ => e0) t (stS ds ++ List.replicate (N.length - ds.length) none) [] (PFn o)) : t { nx := fun _ H' => Qv .non H', rt := Qv } (L2.start N vs) H := by
  obtain ⟨G, ds, o, e, hk, hd, hR, q1, q2⟩ := h
  refine b ds o hk hR ⟨G, H, []⟩ _ G H (rel_start e hd) _ ⟨fun σ' G' H' S' M' _ R z => ?_, fun v σ' G' H' z S' M' _ R a z' => ?_, fun _ _ _ _ _ _ _ z => z.elim, fun _ _ _ _ _ _ _ z => z.elim, fun cls d σ' G' H' x S' M' _ R a z => ?_⟩
  · exact q1 _ z .non G' H' R.ext .non
  · obtain ⟨d, rfl, z'⟩ := z'
    exact q1 _ z' v G' H' R.ext a
  · exact q2 _ z cls d G' H' R.ext a
theorem Rel.own (R : Rel K n S M σ G H) (hk : ∀ a x, n.H a = some (.own x) → a ∉ n.A) : ∀ a x, n.H a = some (.own x) → H a = some (.own x) := fun a x h => R.h0 a _ h (hk a x h)
theorem fn_C {R : List PyData → List PyData → (DOut → List PyData → Prop) → Prop} {kk : Nat} {N : List Str} {vs : List V} {Qv : VK} (h : spC K kk R vs H Qv e0)
    (b : ∀ p xs ds F, ds.length = kk → R xs ds F → ZS K (fun _ => e0) t (some (.c p) :: (stS ds ++ List.replicate (N.length - (ds.length + 1)) none)) [(p, false, .lst xs)] (PFl p F)) : t { nx := fun _ H' => Qv .non H', rt := Qv } (L2.start N vs) H := by
  obtain ⟨G, p, xs, us, ds, F, rfl, hkk, e, hp, hc, hd, hR, qq⟩ := h
  have hk : ∀ a x, H a = some (.own x) → a ∉ [p] := fun a x h1 z => by
    have z : a = p := by simpa using z
    obtain ⟨ws, h2, _⟩ := hc
    rw [z, h2] at h1
    cases h1
  refine b p xs ds F hkk hR ⟨G, H, [p]⟩ _ G H (rel_startC e hp hc hd) _ ⟨fun σ' G' H' S' M' _ R z => ?_, fun v σ' G' H' z S' M' _ R a z' => ?_, fun _ _ _ _ _ _ _ z => z.elim, fun _ _ _ _ _ _ _ z => z.elim, fun cls d σ' G' H' x S' M' _ R a z => ?_⟩
  · obtain ⟨ys, z1, z2⟩ := z
    exact (qq _ ys z1).1 _ rfl .non G' H' R.ext (R.own hk) (R.ce _ _ _ z2).2 .non
  · obtain ⟨d, ys, rfl, z1, z2⟩ := z'
    exact (qq _ ys z1).1 _ rfl v G' H' R.ext (R.own hk) (R.ce _ _ _ z2).2 a
  · obtain ⟨ys, z1, z2⟩ := z
    exact (qq _ ys z1).2 _ rfl cls d G' H' R.ext (R.own hk) (R.ce _ _ _ z2).2 a
theorem fn_O {C : Addr} {R : List (Str × ZV) → List PyData → DOut → List (Str × ZV) → Prop} {kk : Nat} {N : List Str} {vs : List V} {Qv : VK} (h : spO K C kk R vs H Qv e0)
    (b : ∀ p fs ds o fs', ds.length = kk → R fs ds o fs' → ZS K (fun _ => e0) t (some (.c p) :: (stS ds ++ List.replicate (N.length - (ds.length + 1)) none)) [(p, false, .obj C fs)] (PFc p o (.obj C fs'))) : t { nx := fun _ H' => Qv .non H', rt := Qv } (L2.start N vs) H := by
  obtain ⟨G, p, xs, us, ds, o, ys, rfl, hkk, e, hp, hc, hd, hR, q1, q2⟩ := h
  have hk : ∀ a x, H a = some (.own x) → a ∉ [p] := fun a x h1 z => by
    have z : a = p := by simpa using z
    obtain ⟨dx, ws, h2, _⟩ := hc
    rw [z, h2] at h1
    cases h1
  refine b p xs ds o ys hkk hR ⟨G, H, [p]⟩ _ G H (rel_startC e hp hc hd) _ ⟨fun σ' G' H' S' M' _ R z => ?_, fun v σ' G' H' z S' M' _ R a z' => ?_, fun _ _ _ _ _ _ _ z => z.elim, fun _ _ _ _ _ _ _ z => z.elim, fun cls d σ' G' H' x S' M' _ R a z => ?_⟩
  · exact q1 _ z.1 .non G' H' R.ext (R.own hk) (R.ce _ _ _ z.2).2 .non
  · obtain ⟨⟨d, rfl, z'⟩, zm⟩ := z'
    exact q1 _ z' v G' H' R.ext (R.own hk) (R.ce _ _ _ zm).2 a
  · exact q2 _ z.1 cls d G' H' R.ext (R.own hk) (R.ce _ _ _ z.2).2 a
theorem len_D {R : List PyData → DOut → Prop} {k : Nat} {vs : List V} {Qv : VK} (h : spD K k R vs H Qv e0) : vs.length = k := by
  obtain ⟨G, ds, o, e, hk, hd, h1, _⟩ := h
  rw [dpa_len hd, hk]
theorem len_C {R : List PyData → List PyData → (DOut → List PyData → Prop) → Prop} {k : Nat} {vs : List V} {Qv : VK} (h : spC K k R vs H Qv e0) : vs.length = k + 1 := by
  obtain ⟨G, p, xs, us, ds, F, rfl, hk, e, hp, hc, hd, h1, _⟩ := h
  rw [List.length_cons, dpa_len hd, hk]
theorem len_O {C : Addr} {R : List (Str × ZV) → List PyData → DOut → List (Str × ZV) → Prop} {k : Nat} {vs : List V} {Qv : VK} (h : spO K C k R vs H Qv e0) : vs.length = k + 1 := by
  obtain ⟨G, p, xs, us, ds, o, ys, rfl, hk, e, hp, hc, hd, h1, _⟩ := h
  rw [List.length_cons, dpa_len hd, hk]
/-! ### calls: e0 what is wanted of an exception; E0 nothing (none is raised here) -/
theorem zw_call {ar : Nat} {R : List PyData → DOut → Prop} (h : ZA K (fun _ => e0) tA S M (fun zs M1 => ∃ ds o, AllD zs ds ∧ ds.length = ar ∧ R ds o ∧ (∀ d, o = .ok d → Q (.d d) M1) ∧ (∀ x, o = .ex x → X x S M1)) X) : ZW K (fun _ => e0) (tCall (spD K ar R) [] e0 tA) S M Q X := fun n σ G H Rl Qv k kx =>
  h n σ G H Rl _ (fun vs G1 H1 zs M1 e1 R1 a1 ⟨ds, o, hd, hk, hR, q1, q2⟩ => by
    refine ⟨G1, ds, o, R1.ex, hk, ?_, hR, fun d ho v G' H' e a => k v G' H' (.d d) M1 (e1.trans e.g) (R1.call e) a (q1 d ho), fun x ho cls dd G' H' e a => kx cls dd G' H' x S M1 (e1.trans e.g) (R1.call e) a (q2 x ho)⟩
    rw [List.append_nil]
    exact zall_d (by rw [← hd]; exact a1)) kx
theorem zw_call0 {ar : Nat} {R : List PyData → DOut → Prop} (h : ZA K E tA S M (fun zs M1 => ∃ ds d, AllD zs ds ∧ ds.length = ar ∧ R ds (.ok d) ∧ Q (.d d) M1) X) : ZW K E (tCall (spD K ar R) [] E0 tA) S M Q X := fun n σ G H Rl Qv k kx =>
  h n σ G H Rl _ (fun vs G1 H1 zs M1 e1 R1 a1 ⟨ds, d, hd, hk, hR, q1⟩ => by
    refine ⟨G1, ds, .ok d, R1.ex, hk, ?_, hR, fun d' ho v G' H' e a => k v G' H' (.d d') M1 (e1.trans e.g) (R1.call e) a (by cases ho; exact q1), fun x ho => nomatch ho⟩
    rw [List.append_nil]
    exact zall_d (by rw [← hd]; exact a1)) kx
def FC (p : Addr) (b : Bool) (xs : List PyData) (S : Zs) (M1 : Ms) (Q : QZ) (X : XZ) : DOut → List PyData → Prop := fun o ys => ∃ M2, Upd1 p b (.lst xs) (.lst ys) M1 M2 ∧ (∀ d, o = .ok d → Q (.d d) M2) ∧ (∀ x, o = .ex x → X x S M2)
theorem zw_callC {ar : Nat} {R : List PyData → List PyData → (DOut → List PyData → Prop) → Prop} (h : ZA K (fun _ => e0) tA S M (fun zs M1 => ∃ p b xs zs' ds, zs = .c p :: zs' ∧ (p, b, CD.lst xs) ∈ M1 ∧ AllD zs' ds ∧ ds.length = ar ∧ R xs ds (FC p b xs S M1 Q X)) X) : ZW K (fun _ => e0) (tCall (spC K ar R) [] e0 tA) S M Q X := fun n σ G H Rl Qv k kx =>
  h n σ G H Rl _ (fun vs G1 H1 zs M1 e1 R1 a1 ⟨p, b, xs, zs', ds, hz, hm, hd, hk, hR⟩ => by
    subst hz
    cases a1 with
    | cons a1 a2 =>
      have ev := a1
      obtain ⟨hp, hc⟩ := R1.ce p b _ hm
      subst ev
      refine ⟨G1, p, xs, _, ds, _, by rw [List.append_nil], hk, R1.ex, hp, hc, zall_d (by rw [← hd]; exact a2), hR, fun o ys ⟨M2, hu, q1, q2⟩ => ⟨fun d ho v G' H' e own hc' a => k v G' H' (.d d) M2 (e1.trans e.g) (R1.call1 e hu own hc') a (q1 d ho), fun x ho cls dd G' H' e own hc' a => kx cls dd G' H' x S M2 (e1.trans e.g) (R1.call1 e hu own hc') a (q2 x ho)⟩⟩) kx
def FC0 (p : Addr) (b : Bool) (xs : List PyData) (M1 : Ms) (Q : QZ) : DOut → List PyData → Prop := fun o ys => ∃ d M2, o = .ok d ∧ Upd1 p b (.lst xs) (.lst ys) M1 M2 ∧ Q (.d d) M2
theorem zw_callC0 {ar : Nat} {R : List PyData → List PyData → (DOut → List PyData → Prop) → Prop} (h : ZA K E tA S M (fun zs M1 => ∃ p b xs zs' ds, zs = .c p :: zs' ∧ (p, b, CD.lst xs) ∈ M1 ∧ AllD zs' ds ∧ ds.length = ar ∧ R xs ds (FC0 p b xs M1 Q)) X) : ZW K E (tCall (spC K ar R) [] E0 tA) S M Q X := fun n σ G H Rl Qv k kx =>
  h n σ G H Rl _ (fun vs G1 H1 zs M1 e1 R1 a1 ⟨p, b, xs, zs', ds, hz, hm, hd, hk, hR⟩ => by
    subst hz
    cases a1 with
    | cons a1 a2 =>
      have ev := a1
      obtain ⟨hp, hc⟩ := R1.ce p b _ hm
      subst ev
      refine ⟨G1, p, xs, _, ds, _, by rw [List.append_nil], hk, R1.ex, hp, hc, zall_d (by rw [← hd]; exact a2), hR, fun o ys ⟨d, M2, ho, hu, q⟩ => ?_⟩
      subst ho
      refine ⟨fun d' ho v G' H' e own hc' a => ?_, fun x ho => nomatch ho⟩
      cases ho
      exact k v G' H' (.d d) M2 (e1.trans e.g) (R1.call1 e hu own hc') a q) kx
/-- o.m(..), o an own object of the class C -/
theorem lookup_paired {fv : List (Str × V)} {fs : List (Str × ZV)} (h : Paired (fun (a : Str × V) (b : Str × ZV) => a.1 = b.1 ∧ ZV.at K G a.2 b.2) fv fs) (m : Str) : (fs.lookup m = none → fv.lookup m = none) ∧ (∀ z, fs.lookup m = some z → ∃ v, fv.lookup m = some v ∧ ZV.at K G v z) := by
  induction h with
  | nil => exact ⟨fun _ => rfl, fun z e => by cases e⟩
  | @cons a b l1 l2 q t ih =>
    obtain ⟨a1, a2⟩ := a
    obtain ⟨b1, b2⟩ := b
    obtain ⟨q1, q2⟩ := q
    dsimp only at q1 q2
    subst q1
    rw [List.lookup_cons, List.lookup_cons]
    split
    · refine ⟨fun e => (nomatch e), fun z e => ?_⟩
      have e := Option.some.inj e
      subst e
      exact ⟨_, rfl, q2⟩
    · exact ih
theorem zw_methO {ar : Nat} {C : Addr} {m : Str} {R : List (Str × ZV) → List PyData → DOut → List (Str × ZV) → Prop} (h : ZW K (fun _ => e0) te S M (fun z M0 => ∃ p, z = .c p ∧ (∃ b fs0, (p, b, CD.obj C fs0) ∈ M0 ∧ fs0.lookup m = none) ∧ ZA K (fun _ => e0) tA S M0 (fun zs M1 => ∃ b fs ds o fs' M2, AllD zs ds ∧ ds.length = ar ∧ R fs ds o fs' ∧ Upd1 p b (.obj C fs) (.obj C fs') M1 M2 ∧ (∀ d, o = .ok d → Q (.d d) M2) ∧ (∀ x, o = .ex x → X x S M2)) X) X) :
    ZW K (fun _ => e0) (tMeth C m (spO K C ar R) [] e0 te tA) S M Q X := fun n σ G H Rl Qv k kx =>
  h n σ G H Rl _ (fun v G0 H0 z M0 e0' R0 a0 ⟨p, hz, ⟨b0, fs0, hm0, hl0⟩, h2⟩ => by
    subst hz
    have ev : v = .ref p := a0
    subst ev
    obtain ⟨_, dx, fv, h3, h4, h5, h6⟩ := R0.ce p b0 _ hm0
    refine ⟨p, dx, fv, rfl, h3, (lookup_paired h6 m).1 hl0, h2 n σ G0 H0 R0 _ (fun vs G1 H1 zs M1 e1 R1 a1 ⟨b, fs, ds, o, fs', M2, hd, hk, hR, hu, q1, q2⟩ => ?_) (kx.mono e0')⟩
    obtain ⟨hp, hc⟩ := R1.ce p b _ hu.mem
    refine ⟨G1, p, fs, _, ds, o, fs', by rw [List.append_nil], hk, R1.ex, hp, hc, zall_d (by rw [← hd]; exact a1), hR, fun d ho v G' H' e own hc' a => k v G' H' (.d d) M2 ((e0'.trans e1).trans e.g) (R1.call1 e hu own hc') a (q1 d ho), fun x ho cls dd G' H' e own hc' a => kx cls dd G' H' x S M2 ((e0'.trans e1).trans e.g) (R1.call1 e hu own hc') a (q2 x ho)⟩) kx
end
end Z
namespace Z
open PySem PySem.Spec PyProof.Rows L2
open Evl (Ex)
section
variable {K : Fg} {E : L2.St → XK} {e0 : XK} {te ta tb tc : TE} {tA : TA} {tt : TT} {t u : TS} {S S' : Zs} {M M' : Ms} {P : ZP} {Q : QZ} {X : XZ} {n : Sn} {σ : L2.St} {G G' H H' : Hp}
/-! ### membership of cells -/
theorem m0 {q : Addr × Bool × CD} {M : Ms} : q ∈ q :: M := List.mem_cons_self
theorem m1 {q r : Addr × Bool × CD} {M : Ms} (h : q ∈ M) : q ∈ r :: M := List.mem_cons_of_mem _ h
/-! ### subscripts -/
def dIx : PyData → Int → Option PyData
  | .list ds, i => atI ds i
  | .tuple ds, i => atI ds i
  | .str z, i => if z.length ≤ sizeLine then (atI z.cps.toList i).map fun c => .str ⟨#[c]⟩ else none
  | _, _ => none
theorem dpa_at {vs : List V} {ds : List PyData} {i : Int} {d : PyData} (h : DzAll K G vs ds) (e : atI ds i = some d) : ∃ v, atI vs i = some v ∧ Dz K G v d := by
  unfold atI at e ⊢
  rw [← dpa_len h] at e
  cases q : ixN vs.length i with
  | none => rw [q] at e; cases e
  | some j =>
    rw [q] at e
    exact dpa_get h e
theorem zo_ix {x d : PyData} {i : Int} (h : dIx x i = some d) (q : Q (.d d) M) : ZO K (rIx K) (.d x) (.d (.int i)) M Q :=
  zo_val (z := .d d) (fun G H v u e a b => by
    have eu := dp_int b
    subst eu
    cases x with
    | list ds =>
      obtain ⟨p, xs, rfl, h1, h2⟩ := dp_lst a
      obtain ⟨w, h3, h4⟩ := dpa_at h2 h
      exact ⟨w, h4, fun Qv k => .inl ⟨p, xs, i, w, rfl, rfl, Evl.ex_l e h1, h3, k⟩⟩
    | tuple ds =>
      obtain ⟨p, xs, rfl, h1, h2⟩ := dp_tup a
      obtain ⟨w, h3, h4⟩ := dpa_at h2 h
      exact ⟨w, h4, fun Qv k => .inr (.inl ⟨p, xs, i, w, rfl, rfl, Evl.ex_t e h1, h3, k⟩)⟩
    | str z =>
      have ev := dp_str a
      subst ev
      simp only [dIx] at h
      split at h
      · rename_i hl
        cases q2 : atI z.cps.toList i with
        | none => rw [q2] at h; cases h
        | some c =>
          rw [q2] at h
          cases h
          exact ⟨.str ⟨#[c]⟩, Dz.str _, fun Qv k => .inr (.inr ⟨z, i, c, rfl, rfl, hl, q2, k⟩)⟩
      · cases h
    | none => cases h
    | bool _ => cases h
    | int _ => cases h
    | dict _ => cases h) q
theorem zo_ixC {p : Addr} {b : Bool} {xs : List PyData} {i : Int} {d : PyData} (hm : (p, b, CD.lst xs) ∈ M) (h : atI xs i = some d) (q : Q (.d d) M) : ZO K (rIx K) (.c p) (.d (.int i)) M Q := fun n S σ G H R v u a b' Qv k => by
  have eu := dp_int b'
  have ev : v = .ref p := a
  subst eu ev
  obtain ⟨_, ws, h1, h2⟩ := R.ce p b _ hm
  obtain ⟨w, h3, h4⟩ := dpa_at h2 h
  exact .inl ⟨p, ws, i, w, rfl, rfl, Evl.sq_of h1, h3, k w G H (.d d) M (Ex.refl G) R h4 q⟩
theorem atI0 {α : Type} {x : α} {r : List α} : atI (x :: r) 0 = some x := atI_nat (j := 0) rfl
theorem atI1 {α : Type} {x y : α} {r : List α} : atI (x :: y :: r) 1 = some y := atI_nat (j := 1) rfl
theorem atI2 {α : Type} {x y z : α} {r : List α} : atI (x :: y :: z :: r) 2 = some z := atI_nat (j := 2) rfl
theorem atI3 {α : Type} {x y z w : α} {r : List α} : atI (x :: y :: z :: w :: r) 3 = some w := atI_nat (j := 3) rfl
/-! ### built-in functions over data -/
/-- a call on values, over data -/
def ZC (K : Fg) (r : List V → Hp → VK → Prop) (zs : List ZV) (M : Ms) (Q : QZ) : Prop := ∀ (n : Sn) (S : Zs) (σ : L2.St) (G H : Hp), Rel K n S M σ G H → ∀ vs, ZAll K G vs zs → ∀ Qv : VK,
  (∀ w G' H' z M', Ex G G' → Rel K n S M' σ G' H' → ZV.at K G' w z → Q z M' → Qv w H') → r vs H Qv
theorem zw_cb {r : List V → Hp → VK → Prop} (h : ZA K E tA S M (fun zs M1 => ZC K r zs M1 Q) X) : ZW K E (tCB r tA) S M Q X := fun n σ G H R Qv k kx =>
  h n σ G H R _ (fun vs G1 H1 zs M1 e1 R1 a1 h1 => h1 n S σ G1 H1 R1 vs a1 Qv fun w G3 H3 z M3 e3 R3 a3 q => k w G3 H3 z M3 (e1.trans e3) R3 a3 q) kx
theorem zc_val {r : List V → Hp → VK → Prop} {zs : List ZV} {z : ZV} (h : ∀ G H vs, Ex G H → ZAll K G vs zs → ∃ w, ZV.at K G w z ∧ ∀ Qv : VK, Qv w H → r vs H Qv) (q : Q z M) : ZC K r zs M Q := fun n S σ G H R vs a Qv k => by
  obtain ⟨w, h1, h2⟩ := h G H vs R.ex a
  exact h2 Qv (k w G H z M (Ex.refl G) R h1 q)
theorem zall1 {vs : List V} {z : ZV} (h : ZAll K G vs [z]) : ∃ v, vs = [v] ∧ ZV.at K G v z := by
  cases h with
  | cons a b => cases b; exact ⟨_, rfl, a⟩
theorem zall2 {vs : List V} {z y : ZV} (h : ZAll K G vs [z, y]) : ∃ v u, vs = [v, u] ∧ ZV.at K G v z ∧ ZV.at K G u y := by
  cases h with
  | cons a b => cases b with | cons b c => cases c; exact ⟨_, _, rfl, a, b⟩
def dLen : PyData → Option Nat
  | .list ds => some ds.length
  | .tuple ds => some ds.length
  | .str z => if z.length ≤ sizeLine then some z.length else none
  | _ => none
abbrev rLenA (K : Fg) : List V → Hp → VK → Prop := fun xs H Q => ∃ x n, xs = [x] ∧ LenV K x H n ∧ Q (.int (n : Nat)) H
theorem zc_len {x : PyData} {k : Nat} (h : dLen x = some k) (q : Q (.d (.int (k : Nat))) M) : ZC K (rLenA K) [.d x] M Q := zc_val (z := .d (.int (k : Nat))) (fun G H vs e a => by
  obtain ⟨v, rfl, av⟩ := zall1 a
  refine ⟨.int (k : Nat), Dz.int _, fun Qv hq => ⟨v, k, rfl, ?_, hq⟩⟩
  cases x with
  | list ds => obtain ⟨p, xs, rfl, h1, h2⟩ := dp_lst av; cases h; exact .inl ⟨xs, Evl.ex_l e h1, (dpa_len h2).symm⟩
  | tuple ds => obtain ⟨p, xs, rfl, h1, h2⟩ := dp_tup av; cases h; exact .inr ⟨xs, Evl.ex_t e h1, (dpa_len h2).symm⟩
  | str z =>
    have ev := dp_str av
    subst ev
    simp only [dLen] at h
    split at h
    · rename_i hl; cases h; exact ⟨hl, rfl⟩
    · cases h
  | none => cases h
  | bool _ => cases h
  | int _ => cases h
  | dict _ => cases h) q
theorem zc_lenC {p : Addr} {b : Bool} {xs : List PyData} (hm : (p, b, CD.lst xs) ∈ M) (q : Q (.d (.int (xs.length : Nat))) M) : ZC K (rLenA K) [.c p] M Q := fun n S σ G H R vs a Qv k => by
  obtain ⟨v, rfl, av⟩ := zall1 a
  have ev : v = .ref p := av
  subst ev
  obtain ⟨_, ws, h1, h2⟩ := R.ce p b _ hm
  exact ⟨_, xs.length, rfl, .inl ⟨ws, Evl.sq_of h1, (dpa_len h2).symm⟩, k (.int (xs.length : Nat)) G H (.d (.int (xs.length : Nat))) M (Ex.refl G) R (Dz.int _) q⟩
/-- int(an int) -/
abbrev rInt1 : List V → Hp → VK → Prop := fun xs H Q => (∃ i, xs = [.int i] ∧ Q (.int i) H) ∨ ∃ k, xs = [.bl k] ∧ Q (.int (if k then 1 else 0)) H
abbrev rIntS : List V → Hp → VK → Prop := fun xs H Q => ∃ a n, xs = [.str a] ∧ PySem.intText? a = some n ∧ a.length ≤ 640 ∧ Q (.int n) H
abbrev rIntA : List V → Hp → VK → Prop := fun xs H Q => rInt1 xs H Q ∨ rIntS xs H Q
theorem zc_int {i : Int} (q : Q (.d (.int i)) M) : ZC K rIntA [.d (.int i)] M Q := zc_val (z := .d (.int i)) (fun G H vs e a => by
  obtain ⟨v, rfl, av⟩ := zall1 a
  exact ⟨v, av, fun Qv hq => .inl (.inl ⟨i, by rw [dp_int av], by rw [← dp_int av]; exact hq⟩)⟩) q
/-- tuple(a list), tuple(a tuple) -/
abbrev rTupOf (K : Fg) : List V → Hp → VK → Prop := fun xs H Q => ∃ p ys, xs = [.ref p] ∧ ((SqL K H p ys ∧ ∀ l, H l = none → Q (.ref l) (upd H l (.tup ys))) ∨ (SqT K H p ys ∧ Q (.ref p) H))
theorem zc_tupL {xs : List PyData} (q : Q (.d (.tuple xs)) M) : ZC K (rTupOf K) [.d (.list xs)] M Q := fun n S σ G H R vs a Qv k => by
  obtain ⟨v, rfl, av⟩ := zall1 a
  obtain ⟨p, ys, rfl, h1, h2⟩ := dp_lst av
  refine ⟨p, ys, rfl, .inl ⟨Evl.ex_l R.ex h1, fun l hl => ?_⟩⟩
  have g := ex_gnone R.ex hl
  exact k (.ref l) _ _ (.d (.tuple xs)) M (Ex.new g) (R.new hl (fun _ z => nomatch z)) (Dz.tup (.inl upd_same) (dpAll_mono (Ex.new g) h2)) q
theorem zc_tupC {p : Addr} {b : Bool} {xs : List PyData} (hm : (p, b, CD.lst xs) ∈ M) (q : Q (.d (.tuple xs)) M) : ZC K (rTupOf K) [.c p] M Q := fun n S σ G H R vs a Qv k => by
  obtain ⟨v, rfl, av⟩ := zall1 a
  have ev : v = .ref p := av
  subst ev
  obtain ⟨_, ys, h1, h2⟩ := R.ce p b _ hm
  refine ⟨p, ys, rfl, .inl ⟨Evl.sq_of h1, fun l hl => ?_⟩⟩
  have g := ex_gnone R.ex hl
  exact k (.ref l) _ _ (.d (.tuple xs)) M (Ex.new g) (R.new hl (fun _ z => nomatch z)) (Dz.tup (.inl upd_same) (dpAll_mono (Ex.new g) h2)) q
/-- isinstance(x, a built-in class) -/
def dTy : PyData → String
  | .none => "NoneType"
  | .bool _ => "bool"
  | .int _ => "int"
  | .str _ => "str"
  | .list _ => "list"
  | .tuple _ => "tuple"
  | .dict _ => "dict"
theorem rd_tyL {a : Addr} {xs : List V} (h : SqL K H a xs) : TyX K H (.ref a) (.type "list") := by
  rcases h with (h | ⟨o, h⟩) | ⟨o, its, k, h1, h2, _⟩
  · exact .base (.lst h)
  · exact .base (.frz h)
  · exact .kList h1 h2
theorem rd_tyT {a : Addr} {xs : List V} (h : SqT K H a xs) : TyX K H (.ref a) (.type "tuple") := by
  rcases h with (h | ⟨o, h⟩) | ⟨o, its, k, h1, h2, _⟩
  · exact .base (.tup h)
  · exact .fTuple h
  · exact .kTuple h1 h2
theorem dp_ty {x : PyData} {v : V} (e : Ex G H) (h : Dz K G v x) : TyX K H v (.type (dTy x)) := by
  cases h with
  | non => exact .base .non
  | bl b => exact .base (.bl b)
  | int i => exact .base (.int i)
  | str s => exact .base (.str s)
  | lst s a => exact rd_tyL (Evl.ex_l e s)
  | tup s a => exact rd_tyT (Evl.ex_t e s.sq)
theorem zt_isi {T : String} {tcl : TE} (hcl : tcl = tC (.ty T)) (h : ZW K E te S M (fun z M1 => ∃ x b, z = .d x ∧ kitB (dTy x) T = some b ∧ Q (.d (.bool b)) M1) X) : ZW K E (tCB (rIsi K) (tCons te (tCons tcl tNil))) S M Q X := fun n σ G H R Qv k kx =>
  h n σ G H R _ (fun v G1 H1 z M1 e1 R1 a1 ⟨x, b, hz, hb, q⟩ => by
    subst hz hcl
    exact ⟨v, .ty T, .type (dTy x), .type T, b, rfl, .ty T, dp_ty R1.ex a1, kit_ty hb, k _ G1 H1 (.d (.bool b)) M1 e1 R1 (Dz.bl b) q⟩) kx
/-- isinstance(x, (T1, T2)) -/
theorem kitAny2 {a T1 T2 : String} {b1 b2 : Bool} (h1 : kitB a T1 = some b1) (h2 : kitB a T2 = some b2) : PySem.W.kitAny K (.type a) [.type T1, .type T2] = some (b1 || b2) := by
  refine kitAny_cons (kit_ty h1) (fun e => ?_) (fun e => by rw [e]; rfl)
  refine kitAny_cons (kit_ty h2) (fun e2 => ?_) (fun e2 => by rw [e2, Bool.or_true])
  rw [e, e2]
  rfl
theorem zt_isi2 {T1 T2 : String} (h : ZW K E te S M (fun z M1 => ∃ x b1 b2, z = .d x ∧ kitB (dTy x) T1 = some b1 ∧ kitB (dTy x) T2 = some b2 ∧ Q (.d (.bool (b1 || b2))) M1) X) :
    ZW K E (tCB (rIsiT K) (tCons te (tCons (tTup (tCons (tC (.ty T1)) (tCons (tC (.ty T2)) tNil))) tNil))) S M Q X := fun n σ G H R Qv k kx =>
  h n σ G H R _ (fun v G1 H1 z M1 e1 R1 a1 ⟨x, b1, b2, hz, hb1, hb2, q⟩ => by
    subst hz
    refine ⟨by show 2 ≤ sizeLine; decide, fun p hp => ?_⟩
    have g := ex_gnone R1.ex hp
    exact ⟨v, p, [.ty T1, .ty T2], .type (dTy x), [.type T1, .type T2], b1 || b2, rfl, upd_same, .cons (.ty T1) (.cons (.ty T2) .nil), dp_ty (R1.ex.trans (Ex.new hp)) a1, kitAny2 hb1 hb2,
      k _ _ _ (.d (.bool (b1 || b2))) M1 (e1.trans (Ex.new g)) (R1.new hp (o := .tup [.ty T1, .ty T2]) (fun _ z => nomatch z)) (Dz.bl _) q⟩) kx
/-! ### lists and tuples glued; x in flat ones -/
theorem zo_catT {xs ys : List PyData} (hl : xs.length + ys.length ≤ sizeLine) (q : Q (.d (.tuple (xs ++ ys))) M) : ZO K (rCatA K) (.d (.tuple xs)) (.d (.tuple ys)) M Q := fun n S σ G H R v u a b Qv k => by
  obtain ⟨p, vs, rfl, h1, h2⟩ := dp_tup a
  obtain ⟨p2, ws, rfl, h3, h4⟩ := dp_tup b
  have l1 := dpa_len h2
  have l2 := dpa_len h4
  refine ⟨p, p2, vs, ws, rfl, rfl, Evl.ex_t R.ex h1, Evl.ex_t R.ex h3, by rw [l1, l2]; exact hl, fun e => ?_, fun _ e => ?_, fun _ _ r hr => ?_⟩
  · subst e
    have e : xs = [] := by cases xs with | nil => rfl | cons _ _ => cases l1
    subst e
    exact k (.ref p2) G H (.d (.tuple ys)) M (Ex.refl G) R b q
  · subst e
    have e : ys = [] := by cases ys with | nil => rfl | cons _ _ => cases l2
    subst e
    rw [List.append_nil] at q
    exact k (.ref p) G H (.d (.tuple xs)) M (Ex.refl G) R a q
  · have g := ex_gnone R.ex hr
    exact k (.ref r) _ _ (.d (.tuple (xs ++ ys))) M (Ex.new g) (R.new hr (fun _ z => nomatch z)) (Dz.tup (.inl upd_same) (dpAll_mono (Ex.new g) (dpa_app h2 h4))) q
theorem zo_catL {p p2 : Addr} {b b2 : Bool} {xs ys : List PyData} (hm : (p, b, CD.lst xs) ∈ M) (hm2 : (p2, b2, CD.lst ys) ∈ M) (hl : xs.length + ys.length ≤ sizeLine) (q : ∀ r, Q (.c r) ((r, true, .lst (xs ++ ys)) :: M)) : ZO K rCat (.c p) (.c p2) M Q := fun n S σ G H R v u a b Qv k => by
  have ev : v = .ref p := a
  have eu : u = .ref p2 := b
  subst ev eu
  obtain ⟨_, vs, h1, h2⟩ := R.ce p _ _ hm
  obtain ⟨_, ws, h3, h4⟩ := R.ce p2 _ _ hm2
  exact ⟨p, p2, vs, ws, rfl, rfl, h1, h3, by rw [dpa_len h2, dpa_len h4]; exact hl, fun r hr => k (.ref r) G _ (.c r) _ (Ex.refl G) (R.newLst hr (dpa_app h2 h4)) rfl (q r)⟩
def flatD : PyData → Bool
  | .none => true
  | .bool _ => true
  | .int _ => true
  | .str _ => true
  | _ => false
def vOf : PyData → V
  | .none => .non
  | .bool b => .bl b
  | .int i => .int i
  | .str s => .str s
  | _ => .non
theorem dp_flat {x : PyData} {v : V} (h : Dz K G v x) (f : flatD x = true) : v = vOf x := by
  cases h with
  | lst => cases f
  | tup => cases f
  | _ => rfl
theorem dpa_flat {vs : List V} {ds : List PyData} (h : DzAll K G vs ds) (f : ds.all flatD = true) : vs = ds.map vOf := by
  induction ds generalizing vs with
  | nil => cases h; rfl
  | cons d ds ih =>
    cases h with
    | cons a b =>
      simp only [List.all_cons, Bool.and_eq_true] at f
      rw [dp_flat a f.1, ih b f.2]
      rfl
theorem zo_inT {neg : Bool} {x : PyData} {ds : List PyData} (hx : flatV (vOf x) = true ∧ flatD x = true) (hd : (ds.map vOf).all flatV = true ∧ ds.all flatD = true) (q : Q (.d (.bool (if neg then !inV (vOf x) (ds.map vOf) else inV (vOf x) (ds.map vOf)))) M) : ZO K (rIn K neg) (.d x) (.d (.tuple ds)) M Q :=
  zo_val (z := .d (.bool (if neg then !inV (vOf x) (ds.map vOf) else inV (vOf x) (ds.map vOf)))) (fun G H v u e a b => by
    obtain ⟨p, vs, rfl, h1, h2⟩ := dp_tup b
    have e1 := dp_flat a hx.2
    have e2 := dpa_flat h2 hd.2
    subst e1 e2
    exact ⟨_, Dz.bl _, fun Qv hq => ⟨p, _, rfl, .inr (Evl.ex_t e h1), hx.1, hd.1, hq⟩⟩) q
theorem zo_inL {neg : Bool} {x : PyData} {ds : List PyData} (hx : flatV (vOf x) = true ∧ flatD x = true) (hd : (ds.map vOf).all flatV = true ∧ ds.all flatD = true) (q : Q (.d (.bool (if neg then !inV (vOf x) (ds.map vOf) else inV (vOf x) (ds.map vOf)))) M) : ZO K (rIn K neg) (.d x) (.d (.list ds)) M Q :=
  zo_val (z := .d (.bool (if neg then !inV (vOf x) (ds.map vOf) else inV (vOf x) (ds.map vOf)))) (fun G H v u e a b => by
    obtain ⟨p, vs, rfl, h1, h2⟩ := dp_lst b
    have e1 := dp_flat a hx.2
    have e2 := dpa_flat h2 hd.2
    subst e1 e2
    exact ⟨_, Dz.bl _, fun Qv hq => ⟨p, _, rfl, .inl (Evl.ex_l e h1), hx.1, hd.1, hq⟩⟩) q
/-! ### slices -/
abbrev rSlAny (K : Fg) : V → Option Int → Option Int → Hp → VK → Prop := fun x lo hi H Q => rSlL K x lo hi H Q ∨ (rSlA K x lo hi H Q ∨ C8.rSlX x lo hi H Q)
theorem sl_any {X : Cx} : SlR X (rSlAny X.K) := sl_list.or (sl_tupA.or C8.sl_txt)
def ZPt (K : Fg) (E : L2.St → XK) (to : TO) (S : Zs) (M : Ms) (Q : Option Int → Ms → Prop) (X : XZ) : Prop := ∀ (n : Sn) (σ : L2.St) (G H : Hp), Rel K n S M σ G H → ∀ Qv : Option Int → Hp → Prop,
  (∀ o G' H' M', Ex G G' → Rel K n S M' σ G' H' → Q o M' → Qv o H') → XOk K (E σ) n σ G X → to σ H Qv
theorem zp_none {Q : Option Int → Ms → Prop} (q : Q none M) : ZPt K E tNoPart S M Q X := fun n σ G H R Qv k _ => k none G H M (Ex.refl G) R q
theorem zp_some {Q : Option Int → Ms → Prop} (h : ZW K E te S M (fun z M1 => ∃ i, z = .d (.int i) ∧ Q (some i) M1) X) : ZPt K E (tPart te) S M Q X := fun n σ G H R Qv k kx =>
  h n σ G H R _ (fun v G1 H1 z M1 e1 R1 a1 ⟨i, hz, q⟩ => by subst hz; exact ⟨i, dp_int a1, k (some i) G1 H1 M1 e1 R1 q⟩) kx
def cutD (xs : List PyData) (lo hi : Option Int) : List PyData := (xs.drop (HT.sIx xs.length 0 lo)).take (HT.sIx xs.length xs.length hi - HT.sIx xs.length 0 lo)
def dSl : PyData → Option Int → Option Int → Option PyData
  | .tuple ds, lo, hi => some (.tuple (cutD ds lo hi))
  | .list ds, lo, hi => some (.list (cutD ds lo hi))
  | .str z, lo, hi => if z.length ≤ sizeLine then some (.str (Txt.slice z lo hi)) else none
  | _, _, _ => none
theorem cut_whole {ds : List PyData} {lo hi : Option Int} (h : HT.sIx ds.length 0 lo = 0 ∧ HT.sIx ds.length ds.length hi = ds.length) : cutD ds lo hi = ds := by
  unfold cutD
  rw [h.1, h.2]
  simp
theorem dpa_cut {vs : List V} {ds : List PyData} (lo hi : Option Int) (h : DzAll K G vs ds) : DzAll K G (cutV vs lo hi) (cutD ds lo hi) := by
  unfold cutV cutD
  rw [dpa_len h]
  exact dpa_take _ (dpa_drop _ h)
theorem zw_sl {tl th : TO} (h : ZW K E te S M (fun z M1 => ZPt K E tl S M1 (fun lo M2 => ZPt K E th S M2 (fun hi M3 => ∃ x y, z = .d x ∧ dSl x lo hi = some y ∧ Q (.d y) M3) X) X) X) : ZW K E (tSl (rSlAny K) te tl th) S M Q X := fun n σ G H R Qv k kx =>
  h n σ G H R _ (fun v G1 H1 z M1 e1 R1 a1 h1 => h1 n σ G1 H1 R1 _ (fun lo G2 H2 M2 e2 R2 h2 => h2 n σ G2 H2 R2 _ (fun hi G3 H3 M3 e3 R3 ⟨x, y, hz, hy, q⟩ => by
    subst hz
    have a3 : Dz K G3 v x := dp_mono (e2.trans e3) a1
    have e13 := (e1.trans e2).trans e3
    cases x with
    | tuple ds =>
      obtain ⟨p, vs, rfl, h1, h2⟩ := dp_tup a3
      cases hy
      refine .inr (.inl ⟨p, vs, rfl, Evl.ex_t R3.ex h1, fun c => ?_, fun _ r hr => ?_⟩)
      · rw [dpa_len h2] at c
        rw [cut_whole c] at q
        exact k (.ref p) G3 H3 (.d (.tuple ds)) M3 e13 R3 a3 q
      · have g := ex_gnone R3.ex hr
        exact k (.ref r) _ _ (.d (.tuple (cutD ds lo hi))) M3 (e13.trans (Ex.new g)) (R3.new hr (fun _ z => nomatch z)) (Dz.tup (.inl upd_same) (dpAll_mono (Ex.new g) (dpa_cut lo hi h2))) q
    | list ds =>
      obtain ⟨p, vs, rfl, h1, h2⟩ := dp_lst a3
      cases hy
      refine .inl ⟨p, vs, rfl, Evl.ex_l R3.ex h1, fun r hr => ?_⟩
      have g := ex_gnone R3.ex hr
      exact k (.ref r) _ _ (.d (.list (cutD ds lo hi))) M3 (e13.trans (Ex.new g)) (R3.new hr (fun _ z => nomatch z)) (Dz.lst (Evl.sq_of upd_same) (dpAll_mono (Ex.new g) (dpa_cut lo hi h2))) q
    | str z =>
      have ev := dp_str a3
      subst ev
      simp only [dSl] at hy
      split at hy
      · rename_i hl
        cases hy
        exact .inr (.inr ⟨z, rfl, hl, k _ G3 H3 (.d (.str (Txt.slice z lo hi))) M3 e13 R3 (Dz.str _) q⟩)
      · cases hy
    | none => cases hy
    | bool _ => cases hy
    | int _ => cases hy
    | dict _ => cases hy) (kx.mono (e1.trans e2))) (kx.mono e1)) kx
/-! ### methods of built-in things -/
/-- o.append(e), o an own list -/
theorem zw_append {to : TE} (h : ZW K E to S M (fun z M0 => ∃ p, z = .c p ∧ (∃ b xs, (p, b, CD.lst xs) ∈ M0) ∧ ZW K E te S M0 (fun y M1 => ∃ d b xs M2, y = .d d ∧ Upd1 p b (.lst xs) (.lst (xs ++ [d])) M1 M2 ∧ xs.length < sizeLine ∧ Q (.d .none) M2) X) X) :
    ZW K E (tBM K "list" rAppend to (tCons te tNil)) S M Q X := fun n σ G H R Qv k kx =>
  h n σ G H R _ (fun v G0 H0 z M0 e0 R0 a0 ⟨p, hz, ⟨b0, xs0, hm0⟩, h2⟩ => by
    subst hz
    have ev : v = .ref p := a0
    subst ev
    obtain ⟨_, ws0, h3, _⟩ := R0.ce p b0 _ hm0
    refine ⟨.inl ⟨rfl, ws0, Evl.sq_of h3⟩, h2 n σ G0 H0 R0 _ (fun u G1 H1 y M1 e1 R1 a1 ⟨d, b, xs, M2, hy, hu, hl, q⟩ => ?_) (kx.mono e0)⟩
    subst hy
    obtain ⟨_, ws, h4, h5⟩ := R1.ce p b _ hu.mem
    exact ⟨p, ws, u, rfl, rfl, h4, by rw [dpa_len h5]; exact hl, k .non G1 _ (.d .none) M2 (e0.trans e1) (R1.putLst hu (dpa_app h5 (dpa_one a1))) Dz.non q⟩) kx
/-- a text's method with one argument; without -/
def ZM (K : Fg) (r : V → List V → Hp → VK → Prop) (x : ZV) (zs : List ZV) (M : Ms) (Q : QZ) : Prop := ∀ (n : Sn) (S : Zs) (σ : L2.St) (G H : Hp), Rel K n S M σ G H → ∀ v vs, ZV.at K G v x → ZAll K G vs zs → ∀ Qv : VK,
  (∀ w G' H' z M', Ex G G' → Rel K n S M' σ G' H' → ZV.at K G' w z → Q z M' → Qv w H') → r v vs H Qv
theorem zw_m1 {r : V → List V → Hp → VK → Prop} {to : TE} (h : ZW K E to S M (fun x M0 => ∃ a, x = .d (.str a) ∧ ZW K E te S M0 (fun y M1 => ZM K r x [y] M1 Q) X) X) : ZW K E (tM1 r to te) S M Q X := fun n σ G H R Qv k kx =>
  h n σ G H R _ (fun v G0 H0 x M0 e0 R0 a0 ⟨a, hx, h2⟩ => by
    subst hx
    refine ⟨⟨a, dp_str a0⟩, h2 n σ G0 H0 R0 _ (fun u G1 H1 y M1 e1 R1 a1 h3 => ?_) (kx.mono e0)⟩
    exact h3 n S σ G1 H1 R1 v [u] (dp_mono e1 a0) (.cons a1 .nil) Qv fun w G' H' z M' e' R' a' q => k w G' H' z M' ((e0.trans e1).trans e') R' a' q) kx
end
end Z
namespace Z
open PySem PySem.Spec PyProof.Rows L2
open Evl (Ex)
section
variable {K : Fg} {E : L2.St → XK} {e0 : XK} {te ta tb tc : TE} {tA : TA} {tt : TT} {t u : TS} {S S' : Zs} {M M' : Ms} {P : ZP} {Q : QZ} {X : XZ} {n : Sn} {σ σ' : L2.St} {G G' H H' : Hp} {g : TG}
/-! ### targets -/
def ZG (K : Fg) (g : TG) (x : ZV) (S : Zs) (is : List Nat) (S' : Zs) : Prop := ∀ (n : Sn) (M : Ms) (σ : L2.St) (G H : Hp) (v : V), Rel K n S M σ G H → ZV.at K G v x → ∀ Qv : L2.St → Hp → Prop,
  (∀ σ', σ'.length = σ.length → (∀ j : Nat, j ∉ is → σ'[j]? = σ[j]?) → Rel K n S' M σ' G H → Qv σ' H) → g v σ H Qv
def ZGs (K : Fg) (g : TGs) (xs : List PyData) (S : Zs) (is : List Nat) (S' : Zs) : Prop := ∀ (n : Sn) (M : Ms) (σ : L2.St) (G H : Hp) (vs : List V), Rel K n S M σ G H → DzAll K G vs xs → ∀ Qv : L2.St → Hp → Prop,
  (∀ σ', σ'.length = σ.length → (∀ j : Nat, j ∉ is → σ'[j]? = σ[j]?) → Rel K n S' M σ' G H → Qv σ' H) → g vs σ H Qv
theorem zg_name {i : Nat} {z : ZV} : ZG K (gName i) z S [i] (S.set i (some z)) := fun n M σ G H v R a Qv k =>
  k _ (by simp) (fun j hj => by rw [List.getElem?_set_ne (by simpa using fun e => hj (by simp [e]))]) (R.set a)
theorem zgs_nil : ZGs K gNil [] S [] S := fun n M σ G H vs R a Qv k => by
  cases a
  exact ⟨rfl, k σ rfl (fun _ _ => rfl) R⟩
theorem zgs_cons {i : Nat} {us : TGs} {x : PyData} {xs : List PyData} {is : List Nat} (h : ZGs K us xs (S.set i (some (.d x))) is S') : ZGs K (gCons (gName i) us) (x :: xs) S (i :: is) S' := fun n M σ G H vs R a Qv k => by
  cases a with
  | cons a b =>
    refine ⟨_, _, rfl, h n M _ G H _ (R.set (z := .d x) a) b Qv fun σ' hl hj R' => k σ' (by simpa using hl) (fun j q => ?_) R'⟩
    rw [hj j (fun z => q (List.mem_cons_of_mem _ z)), List.getElem?_set_ne (fun z => q (by simp [z]))]
theorem zg_tup {us : TGs} {k : Nat} {xs : List PyData} {is : List Nat} (hk : xs.length = k) (h : ZGs K us xs S is S') : ZG K (gTup K k us) (.d (.tuple xs)) S is S' := fun n M σ G H v R a Qv q => by
  obtain ⟨p, vs, rfl, h1, h2⟩ := dp_tup a
  exact ⟨p, vs, rfl, Evl.ex_t R.ex h1, by rw [dpa_len h2, hk], h n M σ G H vs R h2 Qv q⟩
theorem zs_asgG (h : ZW K E te S M (fun z M1 => ∃ is S2, ZG K g z S is S2 ∧ P.nx S2 M1) P.ex) : ZS K E (tAsg te g) S M P := fun n σ G H R D k =>
  h n σ G H R _ (fun v G1 H1 z M1 e1 R1 a1 ⟨is, S2, hg, q⟩ => hg n M1 σ G1 H1 v R1 a1 _ fun σ' _ _ R2 => k.nx σ' G1 H1 S2 M1 e1 R2 q) k.xok
/-! ### for -/
def LoopP (P : ZP) (I : Zs → Ms → Prop) : ZP := { P with nx := I, ct := I, bk := P.nx }
theorem DOk.loop {D : Ends} {I : Zs → Ms → Prop} {N : L2.St → Hp → Prop} (k : DOk K E n G P D) (h : ∀ σ' G' H' S' M', Ex G G' → Rel K n S' M' σ' G' H' → I S' M' → N σ' H') : DOk K E n G (LoopP P I) { D with nx := N, ct := N, bk := D.nx } :=
  ⟨h, k.rt, k.nx, h, k.ex⟩
/-- the invariant of a loop over what is data of the frozen part -/
def FI (K : Fg) (n : Sn) (G0 : Hp) (I : Nat → Zs → Ms → Prop) (i : Nat) (σ : L2.St) (H : Hp) : Prop := ∃ G S M, Rel K n S M σ G H ∧ Ex G0 G ∧ I i S M
theorem dpa_at_v {vs : List V} {ds : List PyData} (h : DzAll K G vs ds) {i : Nat} {v : V} (e : vs[i]? = some v) : ∃ d, ds[i]? = some d ∧ Dz K G v d := by
  have hi : i < ds.length := by rw [← dpa_len h]; exact (List.getElem?_eq_some_iff.mp e).1
  obtain ⟨w, h1, h2⟩ := dpa_get h (List.getElem?_eq_getElem hi)
  rw [e] at h1
  cases h1
  exact ⟨_, List.getElem?_eq_getElem hi, h2⟩
theorem zs_forT (h : ZW K E te S M (fun z M1 => ∃ xs, z = .d (.tuple xs) ∧ ∃ I : Nat → Zs → Ms → Prop, I 0 S M1 ∧
      (∀ i x S' M', xs[i]? = some x → I i S' M' → ∃ is S2, ZG K g (.d x) S' is S2 ∧ ZS K E t S2 M' (LoopP P (I (i + 1)))) ∧ (∀ S' M', I xs.length S' M' → P.nx S' M')) P.ex) : ZS K E (tFor (iTup K te) g t) S M P := fun n σ G H R D k =>
  h n σ G H R _ (fun v G1 H1 z M1 e1 R1 a1 ⟨xs, hz, I, i0, is, id⟩ => by
    subst hz
    obtain ⟨p, vs, rfl, h1, h2⟩ := dp_tup a1
    refine ⟨p, rfl, ⟨vs, Evl.ex_t R1.ex h1⟩, for_tup (xs := vs) (FI K n G1 I) ⟨G1, S, M1, R1, Ex.refl _, i0⟩ (fun i σ' H' _ ⟨G', S', M', R', e', _⟩ => Evl.ex_t (e'.trans R'.ex) h1) (fun i x σ' H' hx ⟨G', S', M', R', e', hi⟩ => ?_) (fun σ' H' ⟨G', S', M', R', e', hi⟩ => k.nx σ' G' H' S' M' (e1.trans e') R' (id S' M' (by rw [← dpa_len h2]; exact hi)))⟩
    obtain ⟨d, hd, ax⟩ := dpa_at_v h2 hx
    obtain ⟨js, S2, hg, hb⟩ := is i d S' M' hd hi
    exact hg n M' σ' G' H' x R' (dp_mono e' ax) _ fun σ2 _ _ R2 => hb n σ2 G' H' R2 _ ((k.mono (e1.trans e')).loop fun σ3 G3 H3 S3 M3 e3 R3 i3 => ⟨G3, S3, M3, R3, e'.trans e3, i3⟩)) k.xok
theorem zs_forL (h : ZW K E te S M (fun z M1 => ∃ xs, z = .d (.list xs) ∧ ∃ I : Nat → Zs → Ms → Prop, I 0 S M1 ∧
      (∀ i x S' M', xs[i]? = some x → I i S' M' → ∃ is S2, ZG K g (.d x) S' is S2 ∧ ZS K E t S2 M' (LoopP P (I (i + 1)))) ∧ (∀ S' M', I xs.length S' M' → P.nx S' M')) P.ex) : ZS K E (tFor (iList K te) g t) S M P := fun n σ G H R D k =>
  h n σ G H R _ (fun v G1 H1 z M1 e1 R1 a1 ⟨xs, hz, I, i0, is, id⟩ => by
    subst hz
    obtain ⟨p, vs, rfl, h1, h2⟩ := dp_lst a1
    refine ⟨p, rfl, ⟨vs, Evl.ex_l R1.ex h1⟩, for_list (xs := vs) (FI K n G1 I) ⟨G1, S, M1, R1, Ex.refl _, i0⟩ (fun i σ' H' _ ⟨G', S', M', R', e', _⟩ => Evl.ex_l (e'.trans R'.ex) h1) (fun i x σ' H' hx ⟨G', S', M', R', e', hi⟩ => ?_) (fun σ' H' ⟨G', S', M', R', e', hi⟩ => k.nx σ' G' H' S' M' (e1.trans e') R' (id S' M' (by rw [← dpa_len h2]; exact hi)))⟩
    obtain ⟨d, hd, ax⟩ := dpa_at_v h2 hx
    obtain ⟨js, S2, hg, hb⟩ := is i d S' M' hd hi
    exact hg n M' σ' G' H' x R' (dp_mono e' ax) _ fun σ2 _ _ R2 => hb n σ2 G' H' R2 _ ((k.mono (e1.trans e')).loop fun σ3 G3 H3 S3 M3 e3 R3 i3 => ⟨G3, S3, M3, R3, e'.trans e3, i3⟩)) k.xok
theorem zs_forR1 (h : ZA K E tA S M (fun zs M1 => ∃ j : Int, zs = [.d (.int j)] ∧ -(2 ^ 62) ≤ j ∧ j < 2 ^ 62 ∧ ∃ I : Nat → Zs → Ms → Prop, I 0 S M1 ∧
      (∀ i S' M', i < j.toNat → I i S' M' → ∃ is S2, ZG K g (.d (.int (0 + (i : Nat)))) S' is S2 ∧ ZS K E t S2 M' (LoopP P (I (i + 1)))) ∧ (∀ S' M', I j.toNat S' M' → P.nx S' M')) P.ex) : ZS K E (tFor (iRng1 tA) g t) S M P := fun n σ G H R D k =>
  h n σ G H R _ (fun vs G1 H1 zs M1 e1 R1 a1 ⟨j, hz, l1, l2, I, i0, is, id⟩ => by
    subst hz
    obtain ⟨v, rfl, av⟩ := zall1 a1
    have ev := dp_int av
    subst ev
    refine ⟨j, rfl, l1, l2, for_range (n := j.toNat) (FI K n G1 I) ⟨G1, S, M1, R1, Ex.refl _, i0⟩ (fun i σ' H' hx ⟨G', S', M', R', e', hi⟩ => ?_) (fun σ' H' ⟨G', S', M', R', e', hi⟩ => k.nx σ' G' H' S' M' (e1.trans e') R' (id S' M' hi))⟩
    obtain ⟨js, S2, hg, hb⟩ := is i S' M' hx hi
    exact hg n M' σ' G' H' _ R' (Dz.int _) _ fun σ2 _ _ R2 => hb n σ2 G' H' R2 _ ((k.mono (e1.trans e')).loop fun σ3 G3 H3 S3 M3 e3 R3 i3 => ⟨G3, S3, M3, R3, e'.trans e3, i3⟩)) k.xok
theorem zs_forR2 (h : ZA K E tA S M (fun zs M1 => ∃ a j : Int, zs = [.d (.int a), .d (.int j)] ∧ (-(2 ^ 62) ≤ a ∧ a < 2 ^ 62 ∧ -(2 ^ 62) ≤ j ∧ j < 2 ^ 62) ∧ ∃ I : Nat → Zs → Ms → Prop, I 0 S M1 ∧
      (∀ i S' M', i < (j - a).toNat → I i S' M' → ∃ is S2, ZG K g (.d (.int (a + (i : Nat)))) S' is S2 ∧ ZS K E t S2 M' (LoopP P (I (i + 1)))) ∧ (∀ S' M', I (j - a).toNat S' M' → P.nx S' M')) P.ex) : ZS K E (tFor (iRng2 tA) g t) S M P := fun n σ G H R D k =>
  h n σ G H R _ (fun vs G1 H1 zs M1 e1 R1 a1 ⟨a, j, hz, l1, I, i0, is, id⟩ => by
    subst hz
    obtain ⟨v, u, rfl, av, au⟩ := zall2 a1
    have ev := dp_int av
    have eu := dp_int au
    subst ev eu
    refine ⟨a, j, rfl, l1, for_range (n := (j - a).toNat) (FI K n G1 I) ⟨G1, S, M1, R1, Ex.refl _, i0⟩ (fun i σ' H' hx ⟨G', S', M', R', e', hi⟩ => ?_) (fun σ' H' ⟨G', S', M', R', e', hi⟩ => k.nx σ' G' H' S' M' (e1.trans e') R' (id S' M' hi))⟩
    obtain ⟨js, S2, hg, hb⟩ := is i S' M' hx hi
    exact hg n M' σ' G' H' _ R' (Dz.int _) _ fun σ2 _ _ R2 => hb n σ2 G' H' R2 _ ((k.mono (e1.trans e')).loop fun σ3 G3 H3 S3 M3 e3 R3 i3 => ⟨G3, S3, M3, R3, e'.trans e3, i3⟩)) k.xok
/-- while: I by a measure -/
theorem zs_while (I : Nat → Zs → Ms → Prop) (h0 : ∃ m, I m S M)
    (hs : ∀ m S' M', I m S' M' → ZT K E tt S' M' (fun b M1 => (b = true → ZS K E t S' M1 (LoopP P fun S2 M2 => ∃ m', m' < m ∧ I m' S2 M2)) ∧ (b = false → P.nx S' M1)) P.ex) : ZS K E (tWhile tt t) S M P := fun n σ G H R D k => by
  obtain ⟨m0, i0⟩ := h0
  refine ⟨fun m σ' H' => ∃ G' S' M', Rel K n S' M' σ' G' H' ∧ Ex G G' ∧ I m S' M', ⟨m0, G, S, M, R, Ex.refl G, i0⟩, ?_⟩
  rintro m σ' H' ⟨G', S', M', R', e', hi⟩
  refine hs m S' M' hi n σ' G' H' R' _ (fun b G1 H1 M1 e1 R1 q => ?_) (XOk.mono k.xok e')
  cases b with
  | true =>
    show ∃ N : L2.St → Hp → Prop, _ ∧ _
    exact ⟨fun σ2 H2 => ∃ G2 S2 M2, Rel K n S2 M2 σ2 G2 H2 ∧ Ex G G2 ∧ ∃ m', m' < m ∧ I m' S2 M2, fun σ2 H2 ⟨G2, S2, M2, R2, e2, m', hm, i2⟩ => ⟨m', hm, G2, S2, M2, R2, e2, i2⟩,
      q.1 rfl n σ' G1 H1 R1 _ ((k.mono (e'.trans e1)).loop fun σ3 G3 H3 S3 M3 e3 R3 i3 => ⟨G3, S3, M3, R3, (e'.trans e1).trans e3, i3⟩)⟩
  | false =>
    show D.nx σ' H1
    exact k.nx σ' G1 H1 S' M1 (e'.trans e1) R1 (q.2 rfl)
/-! ### comprehensions -/
def wipeZ (S : Zs) : List Nat → Zs
  | [] => S
  | v :: vs => (wipeZ S vs).set v none
theorem Rel.wipe (R : Rel K n S M σ G H) : ∀ vs : List Nat, Rel K n (wipeZ S vs) M (L2.wipe σ vs) G H
  | [] => R
  | v :: vs => (R.wipe vs).unset
theorem wipe_get (σ : L2.St) (j : Nat) : ∀ vs : List Nat, j ∉ vs → (L2.wipe σ vs)[j]? = σ[j]?
  | [], _ => rfl
  | v :: vs, h => by
    show ((L2.wipe σ vs).set v none)[j]? = _
    rw [List.getElem?_set_ne (fun e => h (by simp [e])), wipe_get σ j vs (fun z => h (List.mem_cons_of_mem _ z))]
theorem wipe_in (σ : L2.St) (j : Nat) : ∀ vs : List Nat, j ∈ vs → j < σ.length → (L2.wipe σ vs)[j]? = some none
  | v :: vs, h, hl => by
    show ((L2.wipe σ vs).set v none)[j]? = _
    by_cases e : v = j
    · subst e
      rw [List.getElem?_set]
      simp [L2.wipe_length, hl]
    · rw [List.getElem?_set_ne e]
      rcases List.mem_cons.mp h with z | z
      · exact absurd z.symm e
      · exact wipe_in σ j vs z hl
theorem wipe_eq {σ2 : L2.St} {vs : List Nat} (hl : σ2.length = (L2.wipe σ vs).length) (h : ∀ j : Nat, j ∉ vs → σ2[j]? = (L2.wipe σ vs)[j]?) : L2.wipe σ2 vs = L2.wipe σ vs := by
  refine List.ext_getElem? fun j => ?_
  by_cases hj : j ∈ vs
  · by_cases hb : j < σ.length
    · rw [wipe_in σ j vs hj hb, wipe_in σ2 j vs hj (by rw [hl, L2.wipe_length]; exact hb)]
    · have hb := Nat.le_of_not_lt hb
      have l1 : (L2.wipe σ2 vs).length ≤ j := by rw [L2.wipe_length, hl, L2.wipe_length]; exact hb
      have l2 : (L2.wipe σ vs).length ≤ j := by rw [L2.wipe_length]; exact hb
      rw [List.getElem?_eq_none l1, List.getElem?_eq_none l2]
  · rw [wipe_get σ2 j vs hj, h j hj]
/-- the slots of the entry over the rest of a later state -/
theorem Rel.reslot (R0 : Rel K n S M σ G H) (R : Rel K n S' M' σ' G' H') (e : Ex G G') : Rel K n S M' σ G' H' :=
  ⟨R.ex, R0.len, fun i z q => by obtain ⟨v, h1, h2⟩ := R0.sl i z q; exact ⟨v, h1, ZV.mono e h2⟩, R.nd, R.ce, R.g0, R.h0, R.lv, R.f0, R.a0, R.o0⟩
/-- one turn of a comprehension; I: behind i turns, the list so far, the cells -/
def LcTurn (K : Fg) (E : L2.St → XK) (g : TG) (tt : TT) (te : TE) (S : Zs) (vs : List Nat) (I : Nat → List PyData → Ms → Prop) (i : Nat) (x : PyData) : Prop := ∀ acc M' D, I i acc M' → ∃ is S2, (∀ j ∈ is, j ∈ vs) ∧ ZG K g (.d x) (wipeZ S vs) is S2 ∧
  ZT K E tt S2 ((D, true, .lst acc) :: M') (fun b Mb => (b = false → ∃ M2, Mb = (D, true, .lst acc) :: M2 ∧ I (i + 1) acc M2) ∧
    (b = true → ZW K E te S2 Mb (fun y Mc => ∃ d M2, y = .d d ∧ Mc = (D, true, .lst acc) :: M2 ∧ I (i + 1) (acc ++ [d]) M2) fun _ _ _ => False)) fun _ _ _ => False
def LcI (K : Fg) (n : Sn) (G0 : Hp) (S : Zs) (σ : L2.St) (vs : List Nat) (D : Addr) (I : Nat → List PyData → Ms → Prop) (i : Nat) (H : Hp) : Prop :=
  ∃ G M acc, Rel K n (wipeZ S vs) ((D, true, .lst acc) :: M) (L2.wipe σ vs) G H ∧ Ex G0 G ∧ acc.length ≤ i ∧ I i acc M
theorem lc_turn {vs : List Nat} {I : Nat → List PyData → Ms → Prop} {G0 : Hp} {D : Addr} {i : Nat} {v : V} {x : PyData} (ht : LcTurn K E g tt te S vs I i x) (hi : LcI K n G0 S σ vs D I i H) (hv : Dz K G0 v x) (hz : i < sizeLine) :
    g v (L2.wipe σ vs) H fun σ2 H2 => L2.wipe σ2 vs = L2.wipe σ vs ∧ tt σ2 H2 fun b H3 => if b = true then te σ2 H3 fun y H4 => ∃ acc, H4 D = some (.lst acc) ∧ acc.length < sizeLine ∧ LcI K n G0 S σ vs D I (i + 1) (upd H4 D (.lst (acc ++ [y]))) else LcI K n G0 S σ vs D I (i + 1) H3 := by
  obtain ⟨G, M, acc, R, e, hl, hI⟩ := hi
  obtain ⟨is, S2, hs, hg, hb⟩ := ht acc M D hI
  refine hg n _ _ G H v R (dp_mono e hv) _ fun σ2 l2 g2 R2 => ?_
  have ew : L2.wipe σ2 vs = L2.wipe σ vs := wipe_eq l2 fun j hj => g2 j fun z => hj (hs j z)
  have back : ∀ {G' H' : Hp} {M' : Ms}, Rel K n S2 M' σ2 G' H' → Ex G G' → Rel K n (wipeZ S vs) M' (L2.wipe σ vs) G' H' := fun R' e' => R.reslot R' e'
  refine ⟨ew, hb n σ2 G H R2 _ (fun b G3 H3 Mb e3 R3 q => ?_) ?_⟩
  · cases b with
    | true =>
      show te σ2 H3 _
      refine q.2 rfl n σ2 G3 H3 R3 _ (fun y G4 H4 z Mc e4 R4 a4 ⟨d, M2, hz2, hM, hI2⟩ => ?_) ?_
      · subst hz2 hM
        obtain ⟨_, ws, h1, h2⟩ := R4.ce D true _ m0
        refine ⟨ws, h1, by rw [dpa_len h2]; omega, G4, M2, acc ++ [d], ?_, (e.trans e3).trans e4, by simp; omega, hI2⟩
        exact (back R4 (e3.trans e4)).putLst .here (dpa_app h2 (dpa_one a4))
      · exact fun _ _ _ _ _ _ _ _ _ _ q => q.elim
    | false =>
      show LcI K n G0 S σ vs D I (i + 1) H3
      obtain ⟨M2, hM, hI2⟩ := q.1 rfl
      subst hM
      exact ⟨G3, M2, acc, back R3 e3, e.trans e3, by omega, hI2⟩
  · exact fun _ _ _ _ _ _ _ _ _ _ q => q.elim
/-- behind the last turn: the list is data -/
theorem lc_done {vs : List Nat} {I : Nat → List PyData → Ms → Prop} {G0 H0 : Hp} {D : Addr} {i : Nat} {Qv : VK} (R0 : Rel K n S M σ G0 H0) (hi : LcI K n G0 S σ vs D I i H) (hd : ∀ acc M', I i acc M' → Q (.d (.list acc)) M')
    (k : ∀ v G' H' z M', Ex G0 G' → Rel K n S M' σ G' H' → ZV.at K G' v z → Q z M' → Qv v H') : Qv (.ref D) H := by
  obtain ⟨G, M', acc, R, e, hl, hI⟩ := hi
  obtain ⟨G2, e2, R2, d2⟩ := R.frz .here
  exact k (.ref D) G2 H (.d (.list acc)) M' (e.trans e2) (R0.reslot R2 (e.trans e2)) d2 (hd acc M' hI)
theorem lc_start {vs : List Nat} {I : Nat → List PyData → Ms → Prop} {D : Addr} (R : Rel K n S M σ G H) (hD : H D = none) (h0 : I 0 [] M) : LcI K n G S σ vs D I 0 (upd H D (.lst [])) :=
  ⟨G, M, [], (R.newLst hD .nil).wipe vs, Ex.refl G, Nat.le_refl _, h0⟩
theorem zw_lcT {vs : List Nat} (h : ZW K E ta S M (fun z M1 => ∃ xs, z = .d (.tuple xs) ∧ xs.length ≤ sizeLine ∧ ∃ I : Nat → List PyData → Ms → Prop, I 0 [] M1 ∧ (∀ i x, xs[i]? = some x → LcTurn K E g tt te S vs I i x) ∧ (∀ acc M', I xs.length acc M' → Q (.d (.list acc)) M')) X) :
    ZW K E (tLc (iTup K ta) g tt te vs) S M Q X := fun n σ G H R Qv k kx =>
  h n σ G H R _ (fun v G1 H1 z M1 e1 R1 a1 ⟨xs, hz, hl, I, i0, is, id⟩ => by
    subst hz
    obtain ⟨p, ws, rfl, h1, h2⟩ := dp_tup a1
    refine ⟨p, rfl, ⟨ws, Evl.ex_t R1.ex h1⟩, fun D hD => lc_tup (xs := ws) (LcI K n G1 S σ vs D I) (lc_start R1 hD i0) (fun i H' _ ⟨G', _, _, R', e', _⟩ => Evl.ex_t (e'.trans R'.ex) h1) (fun i x H' hx hi => ?_) (fun H' hi => lc_done R1 hi (fun acc M' q => id acc M' (by rw [← dpa_len h2]; exact q)) fun v G' H' z M' e' => k v G' H' z M' (e1.trans e'))⟩
    obtain ⟨d, hd, ax⟩ := dpa_at_v h2 hx
    have hi2 : i < xs.length := (List.getElem?_eq_some_iff.mp hd).1
    exact lc_turn (is i d hd) hi ax (Nat.lt_of_lt_of_le hi2 hl)) kx
theorem zw_lcL {vs : List Nat} (h : ZW K E ta S M (fun z M1 => ∃ xs, z = .d (.list xs) ∧ xs.length ≤ sizeLine ∧ ∃ I : Nat → List PyData → Ms → Prop, I 0 [] M1 ∧ (∀ i x, xs[i]? = some x → LcTurn K E g tt te S vs I i x) ∧ (∀ acc M', I xs.length acc M' → Q (.d (.list acc)) M')) X) :
    ZW K E (tLc (iList K ta) g tt te vs) S M Q X := fun n σ G H R Qv k kx =>
  h n σ G H R _ (fun v G1 H1 z M1 e1 R1 a1 ⟨xs, hz, hl, I, i0, is, id⟩ => by
    subst hz
    obtain ⟨p, ws, rfl, h1, h2⟩ := dp_lst a1
    refine ⟨p, rfl, ⟨ws, Evl.ex_l R1.ex h1⟩, fun D hD => lc_list (xs := ws) (LcI K n G1 S σ vs D I) (lc_start R1 hD i0) (fun i H' _ ⟨G', _, _, R', e', _⟩ => Evl.ex_l (e'.trans R'.ex) h1) (fun i x H' hx hi => ?_) (fun H' hi => lc_done R1 hi (fun acc M' q => id acc M' (by rw [← dpa_len h2]; exact q)) fun v G' H' z M' e' => k v G' H' z M' (e1.trans e'))⟩
    obtain ⟨d, hd, ax⟩ := dpa_at_v h2 hx
    have hi2 : i < xs.length := (List.getElem?_eq_some_iff.mp hd).1
    exact lc_turn (is i d hd) hi ax (Nat.lt_of_lt_of_le hi2 hl)) kx
theorem zw_lcR1 {vs : List Nat} (h : ZA K E tA S M (fun zs M1 => ∃ j : Int, zs = [.d (.int j)] ∧ 0 ≤ j ∧ j.toNat ≤ sizeLine ∧ ∃ I : Nat → List PyData → Ms → Prop, I 0 [] M1 ∧ (∀ i, i < j.toNat → LcTurn K E g tt te S vs I i (.int (0 + (i : Nat)))) ∧ (∀ acc M', I j.toNat acc M' → Q (.d (.list acc)) M')) X) :
    ZW K E (tLc (iRng1 tA) g tt te vs) S M Q X := fun n σ G H R Qv k kx =>
  h n σ G H R _ (fun us G1 H1 zs M1 e1 R1 a1 ⟨j, hz, l0, l1, I, i0, is, id⟩ => by
    subst hz
    obtain ⟨v, rfl, av⟩ := zall1 a1
    have ev := dp_int av
    subst ev
    have hs : (sizeLine : Nat) < 2 ^ 62 := by rw [sizeLine_eq]; decide
    exact ⟨j, rfl, by omega, by omega, fun D hD => lc_range (n := j.toNat) (LcI K n G1 S σ vs D I) (lc_start R1 hD i0) (fun i H' hx hi => lc_turn (is i hx) hi (Dz.int _) (Nat.lt_of_lt_of_le hx l1)) (fun H' hi => lc_done R1 hi id fun v G' H' z M' e' => k v G' H' z M' (e1.trans e'))⟩) kx
theorem zw_lcR2 {vs : List Nat} (h : ZA K E tA S M (fun zs M1 => ∃ a j : Int, zs = [.d (.int a), .d (.int j)] ∧ (-(2 ^ 62) ≤ a ∧ a < 2 ^ 62 ∧ -(2 ^ 62) ≤ j ∧ j < 2 ^ 62) ∧ (j - a).toNat ≤ sizeLine ∧ ∃ I : Nat → List PyData → Ms → Prop, I 0 [] M1 ∧ (∀ i, i < (j - a).toNat → LcTurn K E g tt te S vs I i (.int (a + (i : Nat)))) ∧ (∀ acc M', I (j - a).toNat acc M' → Q (.d (.list acc)) M')) X) :
    ZW K E (tLc (iRng2 tA) g tt te vs) S M Q X := fun n σ G H R Qv k kx =>
  h n σ G H R _ (fun us G1 H1 zs M1 e1 R1 a1 ⟨a, j, hz, l0, l1, I, i0, is, id⟩ => by
    subst hz
    obtain ⟨v, u, rfl, av, au⟩ := zall2 a1
    have ev := dp_int av
    have eu := dp_int au
    subst ev eu
    exact ⟨a, j, rfl, l0, fun D hD => lc_range (n := (j - a).toNat) (LcI K n G1 S σ vs D I) (lc_start R1 hD i0) (fun i H' hx hi => lc_turn (is i hx) hi (Dz.int _) (Nat.lt_of_lt_of_le hx l1)) (fun H' hi => lc_done R1 hi id fun v G' H' z M' e' => k v G' H' z M' (e1.trans e'))⟩) kx
theorem zt_yes {Q : Bool → Ms → Prop} (q : Q true M) : ZT K E tYes S M Q X := fun n σ G H R Qv k _ => k true G H M (Ex.refl G) R q
/-! ### objects of the program's own classes -/
theorem zw_fld {C : Addr} {f : Str} (cl : Cls K C) (na : NoAttr K C f) (h : ZW K E te S M (fun z M1 => ∃ p b fs y, z = .c p ∧ (p, b, CD.obj C fs) ∈ M1 ∧ fs.lookup f = some y ∧ Q y M1) X) : ZW K E (tFld K te f) S M Q X := fun n σ G H R Qv k kx =>
  h n σ G H R _ (fun v G1 H1 z M1 e1 R1 a1 ⟨p, b, fs, y, hz, hm, hl, q⟩ => by
    subst hz
    have ev : v = .ref p := a1
    subst ev
    obtain ⟨_, dx, fv, h1, h2, h3, h4⟩ := R1.ce p b _ hm
    obtain ⟨w, l1, l2⟩ := (lookup_paired h4 f).2 y hl
    exact ⟨p, C, dx, fv, w, rfl, h1, cl, na, l1, k w G1 H1 y M1 e1 R1 l2 q⟩) kx
def putZ (f : Str) (z : ZV) : List (Str × ZV) → List (Str × ZV)
  | [] => [(f, z)]
  | (g, y) :: r => if g = f then (g, z) :: r else (g, y) :: putZ f z r
theorem putF_paired {f : Str} {v : V} {z : ZV} (a : ZV.at K G v z) : ∀ {fv : List (Str × V)} {fs : List (Str × ZV)}, Paired (fun (a : Str × V) (b : Str × ZV) => a.1 = b.1 ∧ ZV.at K G a.2 b.2) fv fs → Paired (fun (a : Str × V) (b : Str × ZV) => a.1 = b.1 ∧ ZV.at K G a.2 b.2) (putF f v fv) (putZ f z fs)
  | [], [], .nil => .cons ⟨rfl, a⟩ .nil
  | (g, x) :: fv, (g2, y) :: fs, .cons q t => by
    obtain ⟨q1, q2⟩ := q
    dsimp only at q1 q2
    subst q1
    unfold putF putZ
    by_cases e : g = f
    · rw [if_pos e, if_pos e]; exact .cons ⟨rfl, a⟩ t
    · rw [if_neg e, if_neg e]; exact .cons ⟨rfl, q2⟩ (putF_paired a t)
theorem paired_len {α β : Type} {F : α → β → Prop} : ∀ {l : List α} {m : List β}, Paired F l m → l.length = m.length
  | _, _, .nil => rfl
  | _, _, .cons _ t => by simp [paired_len t]
theorem Rel.putObj {p C : Addr} {b : Bool} {fs : List (Str × ZV)} {f : Str} {v : V} {z : ZV} {dx : Addr} {fv : List (Str × V)} (R : Rel K n S M σ G H) (u : Upd1 p b (.obj C fs) (.obj C (putZ f z fs)) M M') (h1 : H p = some (.ins C dx fv)) (h2 : H dx = some (.own p)) (h3 : G dx = none) (h4 : Paired (fun (a : Str × V) (b : Str × ZV) => a.1 = b.1 ∧ ZV.at K G a.2 b.2) fv fs) (a : ZV.at K G v z) :
    Rel K n S M' σ G (upd H p (.ins C dx (putF f v fv))) := by
  refine R.put u (fun x q => by rw [h1] at q; cases q) ⟨dx, putF f v fv, upd_same, ?_, h3, putF_paired a h4⟩
  rw [upd_ne (fun e => by rw [e, h1] at h2; cases h2)]
  exact h2
theorem zs_fld {C : Addr} {f : Str} {to tv : TE} (cl : Cls K C) (na : NoAttr K C f) (h : ZW K E tv S M (fun y M1 => ZW K E to S M1 (fun z M2 => ∃ p b fs M3, z = .c p ∧ fs.length < 1000 ∧ Upd1 p b (.obj C fs) (.obj C (putZ f y fs)) M2 M3 ∧ P.nx S M3) P.ex) P.ex) : ZS K E (sFld K to tv f) S M P := fun n σ G H R D k =>
  h n σ G H R _ (fun v G1 H1 y M1 e1 R1 a1 h2 => h2 n σ G1 H1 R1 _ (fun w G2 H2 z M2 e2 R2 a2 ⟨p, b, fs, M3, hz, hl, hu, q⟩ => by
    subst hz
    have ev : w = .ref p := a2
    subst ev
    obtain ⟨_, dx, fv, h1, h3, h4, h5⟩ := R2.ce p b _ hu.mem
    exact ⟨p, C, dx, fv, rfl, h1, cl, na, by rw [paired_len h5]; exact hl, k.nx σ G2 _ S M3 (e1.trans e2) (R2.putObj hu h1 h3 h4 h5 (ZV.mono e2 a1)) q⟩) (XOk.mono k.xok e1)) k.xok
/-- o.f += an int -/
theorem zs_fldaug {C : Addr} {f : Str} {to tv : TE} (cl : Cls K C) (na : NoAttr K C f) (h : ZW K E to S M (fun z M1 => ∃ p a, z = .c p ∧ (∃ b0 fs0, (p, b0, CD.obj C fs0) ∈ M1 ∧ fs0.lookup f = some (.d (.int a))) ∧ ZW K E tv S M1 (fun y M2 => ∃ j b fs M3, y = .d (.int j) ∧ fs.length < 1000 ∧ Upd1 p b (.obj C fs) (.obj C (putZ f (.d (.int (a + j))) fs)) M2 M3 ∧ P.nx S M3) P.ex) P.ex) :
    ZS K E (sFldAug K to tv rAdd f) S M P := fun n σ G H R D k =>
  h n σ G H R _ (fun w G1 H1 z M1 e1 R1 a1 ⟨p, a, hz, ⟨b0, fs0, hm0, hl0⟩, h2⟩ => by
    subst hz
    have ev : w = .ref p := a1
    subst ev
    obtain ⟨_, dx, fv, h1, h3, h4, h5⟩ := R1.ce p b0 _ hm0
    obtain ⟨x, l1, l2⟩ := (lookup_paired h5 f).2 _ hl0
    refine ⟨p, C, dx, fv, x, rfl, h1, cl, na, l1, h2 n σ G1 H1 R1 _ (fun y G2 H2 zy M2 e2 R2 a2 ⟨j, b, fs, M3, hy, hl, hu, q⟩ => ?_) (XOk.mono k.xok e1)⟩
    subst hy
    obtain ⟨_, dx', fv', h1', h3', h4', h5'⟩ := R2.ce p b _ hu.mem
    exact ⟨a, j, dp_int l2, dp_int a2, dx', fv', h1', by rw [paired_len h5']; exact hl, k.nx σ G2 _ S M3 (e1.trans e2) (R2.putObj hu h1' h3' h4' h5' (v := .int (a + j)) (Dz.int _)) q⟩) k.xok
/-- C(..): a new own object -/
theorem zw_make {ar : Nat} {C : Addr} {R : List (Str × ZV) → List PyData → DOut → List (Str × ZV) → Prop} (h : ZA K (fun _ => e0) tA S M (fun zs M1 => ∃ ds o fs', AllD zs ds ∧ ds.length = ar ∧ R [] ds o fs' ∧ (∀ d, o = .ok d → d = .none ∧ ∀ p, Q (.c p) ((p, true, .obj C fs') :: M1)) ∧ (∀ x, o = .ex x → ∀ p, X x S ((p, true, .obj C fs') :: M1))) X) : ZW K (fun _ => e0) (tMake C (spO K C ar R) [] e0 tA) S M Q X := fun n σ G H Rl Qv k kx =>
  h n σ G H Rl _ (fun vs G1 H1 zs M1 e1 R1 a1 ⟨ds, o, fs', hd, hk, hR, q1, q2⟩ x dx hx hdx hne => by
    have R2 := R1.lay (p := dx) (o := .own x) hdx
    have hx2 : (upd H1 dx (.own x)) x = none := by rw [upd_ne (Ne.symm hne)]; exact hx
    have R3 := R2.lay (p := x) (o := .ins C dx []) hx2
    have gdx := ex_gnone R1.ex hdx
    have hown : (upd (upd H1 dx (.own x)) x (.ins C dx [])) dx = some (.own x) := by rw [upd_ne hne, upd_same]
    have hc : CD.at K G1 (upd (upd H1 dx (.own x)) x (.ins C dx [])) x (.obj C []) := ⟨dx, [], upd_same, hown, gdx, .nil⟩
    have R4 := R3.cell (R1.fresh hx) (R1.notin hx) (ex_gnone R1.ex hx) hc
    refine ⟨G1, x, [], vs, ds, o, fs', by rw [List.append_nil], hk, R4.ex, ex_gnone R1.ex hx, hc, zall_d (by rw [← hd]; exact a1), hR, fun d ho v G' H' e own hc' a => ?_, fun y ho cls dd G' H' e own hc' a => ?_⟩
    · obtain ⟨hd2, q⟩ := q1 d ho
      subst hd2
      exact ⟨dp_non a, k (.ref x) G' H' (.c x) _ (e1.trans e.g) (R4.call1 e .here own hc') rfl (q x)⟩
    · exact kx cls dd G' H' y S _ (e1.trans e.g) (R4.call1 e .here own hc') a (q2 y ho x)) kx
/-! ### texts with fields -/
def ZJ (K : Fg) (E : L2.St → XK) (ts : List TE) (acc : Str) (S : Zs) (M : Ms) (Q : Str → Ms → Prop) (X : XZ) : Prop := ∀ (n : Sn) (σ : L2.St) (G H : Hp), Rel K n S M σ G H → ∀ Qv : Str → Hp → Prop,
  (∀ o G' H' M', Ex G G' → Rel K n S M' σ G' H' → Q o M' → Qv o H') → XOk K (E σ) n σ G X → tJs ts acc σ H Qv
theorem zj_nil {acc : Str} {Q : Str → Ms → Prop} (q : Q acc M) : ZJ K E [] acc S M Q X := fun n σ G H R Qv k _ => k acc G H M (Ex.refl G) R q
theorem zj_cons {acc : Str} {ts : List TE} {Q : Str → Ms → Prop} (h : ZW K E te S M (fun z M1 => ∃ y, z = .d (.str y) ∧ (acc ++ y).length ≤ sizeLine ∧ ZJ K E ts (acc ++ y) S M1 Q X) X) : ZJ K E (te :: ts) acc S M Q X := fun n σ G H R Qv k kx =>
  h n σ G H R _ (fun v G1 H1 z M1 e1 R1 a1 ⟨y, hz, hl, q⟩ => by
    subst hz
    exact ⟨y, dp_str a1, hl, q n σ G1 H1 R1 Qv (fun o G2 H2 M2 e2 R2 q2 => k o G2 H2 M2 (e1.trans e2) R2 q2) (kx.mono e1)⟩) kx
theorem zw_js {ts : List TE} (h : ZJ K E ts Str.empty S M (fun o M1 => Q (.d (.str o)) M1) X) : ZW K E (fun σ H Q => tJs ts Str.empty σ H fun out H1 => Q (.str out) H1) S M Q X := fun n σ G H R Qv k kx =>
  h n σ G H R _ (fun o G1 H1 M1 e1 R1 q => k (.str o) G1 H1 (.d (.str o)) M1 e1 R1 (Dz.str _) q) kx
/-- a < b <= c -/
theorem zw_chain {r r' : R2} (h : ZW K E ta S M (fun x M1 => ZW K E tb S M1 (fun y M2 => ZO K r x y M2 (fun z M3 => ∃ b, z = .d (.bool b) ∧ (b = false → Q (.d (.bool false)) M3) ∧ (b = true → ZW K E tc S M3 (fun w M4 => ZO K r' y w M4 Q) X))) X) X) : ZW K E (tChain r r' ta tb tc) S M Q X := fun n σ G H R Qv k kx =>
  h n σ G H R _ (fun v G1 H1 x M1 e1 R1 a1 h1 => h1 n σ G1 H1 R1 _ (fun u G2 H2 y M2 e2 R2 a2 h2 => h2 n S σ G2 H2 R2 v u (ZV.mono e2 a1) a2 _ (fun w G3 H3 z M3 e3 R3 a3 ⟨b, hz, q⟩ => by
    subst hz
    refine ⟨b, dp_bl a3, ?_⟩
    cases b with
    | true =>
      show tc σ H3 _
      exact q.2 rfl n σ G3 H3 R3 _ (fun w' G4 H4 z4 M4 e4 R4 a4 h4 => h4 n S σ G4 H4 R4 u w' (ZV.mono (e3.trans e4) a2) a4 Qv fun w5 G5 H5 z5 M5 e5 R5 a5 q5 => k w5 G5 H5 z5 M5 ((((e1.trans e2).trans e3).trans e4).trans e5) R5 a5 q5) (kx.mono ((e1.trans e2).trans e3))
    | false =>
      show Qv (.bl false) H3
      exact k (.bl false) G3 H3 (.d (.bool false)) M3 ((e1.trans e2).trans e3) R3 (Dz.bl false) (q.1 rfl))) (kx.mono e1)) kx
end
end Z
namespace Z
open PySem PySem.Spec PyProof.Rows L2
open Evl (Ex)
section
variable {X : Cx} {j k : Nat} {x : Str} {sp : Sp} {E : XK} {e o : Expr} {es : List Expr} {t : TA} {ta : TE} {p pos apos : Pos}
/-- a def of the module: what it promises, at level k -/
def Cal (P : Program) (w : World) (K : Fg) (mg : Str → Option Value) (base : Heap) (k : Nat) (x : Str) (sp : Sp) : Prop :=
  ∃ f fd ps, FnOk P w K mg base (L2.CX P w) k f fd ps sp ∧ mg x = some (.ref f) ∧ PySem.W.keepIn K (.ref f) = true ∧ Binds K fd ps []
theorem pe_cl (c : Cal X.prog X.w X.K X.mg X.base k x sp) (hr : Room j X.A) (hk : k ≤ j) (hx : Passes (L2.CX X.prog X.w) X E) (ha : PA X (e :: es) t) (hg : Gl X x := by rfl) (hdb : (x == ("__debug__" : Str)) = false := by decide)
    (he : starEach (e :: es) X.env = (false, eval e X.env) :: starEach es X.env := by rfl) (hpl : (backTo pos (starEach es X.env)).any (·.1) = false := by rfl) : PE X (.Call (.Name x p) (e :: es) [] pos) (tCall sp [] E t) := by
  obtain ⟨f, fd, ps, F, hm, hkp, hb⟩ := c
  exact pe_call F (hr.mono hk) hg hm hkp hb .nil hx ha hdb he hpl
/-- a method of an own class -/
def Mtd (P : Program) (w : World) (K : Fg) (mg : Str → Option Value) (base : Heap) (k : Nat) (C : Addr) (m : Str) (sp : Sp) : Prop :=
  ∃ f fd ps, FnOk P w K mg base (L2.CX P w) k f fd ps sp ∧ Meth K C m f ∧ Binds K fd ps []
def Mkr (P : Program) (w : World) (K : Fg) (mg : Str → Option Value) (base : Heap) (k : Nat) (x : Str) (C : Addr) (sp : Sp) : Prop :=
  ∃ f fd ps, FnOk P w K mg base (L2.CX P w) k f fd ps sp ∧ Mk K C f ∧ mg x = some (.ref C) ∧ Binds K fd ps []
theorem pe_mkr {C : Addr} (c : Mkr X.prog X.w X.K X.mg X.base k x C sp) (hr : Room (j + 1) X.A) (hk : k ≤ j) (hx : Passes (L2.CX X.prog X.w) X E) (ha : PA X (e :: es) t) (hg : Gl X x := by rfl)
    (he : starEach (e :: es) X.env = (false, eval e X.env) :: starEach es X.env := by rfl) (hpl : (backTo pos (starEach es X.env)).any (·.1) = false := by rfl) (hdb : (x == ("__debug__" : Str)) = false := by decide) : PE X (.Call (.Name x p) (e :: es) [] pos) (tMake C sp [] E t) := by
  obtain ⟨f, fd, ps, F, M, hm, hb⟩ := c
  exact pe_make M F (hr.mono (by omega)) hg hm hb .nil hx ha hdb he hpl
end
/-! ### an operator on several kinds -/
section
variable {K : Fg} {r r' : R2} {x y : ZV} {M : Ms} {Q : QZ}
theorem zo_l (h : ZO K r x y M Q) : ZO K (fun x y H Q => r x y H Q ∨ r' x y H Q) x y M Q := fun n S σ G H R v u a b Qv k => .inl (h n S σ G H R v u a b Qv k)
theorem zo_r (h : ZO K r' x y M Q) : ZO K (fun x y H Q => r x y H Q ∨ r' x y H Q) x y M Q := fun n S σ G H R v u a b Qv k => .inr (h n S σ G H R v u a b Qv k)
end
abbrev rAddA (K : Fg) : R2 := fun x y H Q => rI0 (fun i j => .int (i + j)) x y H Q ∨ (rAddS1 x y H Q ∨ (rCatA K x y H Q ∨ rCat x y H Q))
theorem op_addA {X : Cx} : OpR X (binaryOp .Add) (rAddA X.K) := op_add.or (op_add_str.or (op_catA.or op_cat))
section
variable {K : Fg} {M : Ms} {Q : QZ}
theorem za_i {i j : Int} (q : Q (.d (.int (i + j))) M) : ZO K (rAddA K) (.d (.int i)) (.d (.int j)) M Q := zo_l (zo_add q)
theorem za_t {xs ys : List PyData} (hl : xs.length + ys.length ≤ sizeLine) (q : Q (.d (.tuple (xs ++ ys))) M) : ZO K (rAddA K) (.d (.tuple xs)) (.d (.tuple ys)) M Q := zo_r (zo_r (zo_l (zo_catT hl q)))
theorem za_l {p p2 : Addr} {b b2 : Bool} {xs ys : List PyData} (hm : (p, b, CD.lst xs) ∈ M) (hm2 : (p2, b2, CD.lst ys) ∈ M) (hl : xs.length + ys.length ≤ sizeLine) (q : ∀ r, Q (.c r) ((r, true, .lst (xs ++ ys)) :: M)) : ZO K (rAddA K) (.c p) (.c p2) M Q := zo_r (zo_r (zo_r (zo_catL hm hm2 hl q)))
end
section
variable {K : Fg} {M : Ms} {Q : QZ}
theorem zo_fdivW {i j : Int} (hc : CDivW i j) (q : Q (.d (.int (i / j))) M) : ZO K (rI CDivW fun i j => .int (i / j)) (.d (.int i)) (.d (.int j)) M Q := zo_I (gd := fun i j => .int (i / j)) (fun _ => .int _) hc q
end
/-! ### built-in names as values -/
theorem bt_tuple : bootBuiltins "tuple" = some (.type "tuple") := by decide +kernel
theorem bt_list : bootBuiltins "list" = some (.type "list") := by decide +kernel
theorem bt_str : bootBuiltins "str" = some (.type "str") := by decide +kernel
theorem bt_int : bootBuiltins "int" = some (.type "int") := by decide +kernel
theorem bt_bool : bootBuiltins "bool" = some (.type "bool") := by decide +kernel
theorem bt_dict : bootBuiltins "dict" = some (.type "dict") := by decide +kernel
theorem bb_len : bootBuiltins "len" = some (.builtin "len") := by decide +kernel
theorem bb_isinstance : bootBuiltins "isinstance" = some (.builtin "isinstance") := by decide +kernel
theorem bb_max : bootBuiltins "max" = some (.builtin "max") := by decide +kernel
theorem bb_sorted : bootBuiltins "sorted" = some (.builtin "sorted") := by decide +kernel
theorem bb_sum : bootBuiltins "sum" = some (.builtin "sum") := by decide +kernel
end Z
namespace Z
open PySem PySem.Spec PyProof.Rows L2
open Evl (Ex)
section
variable {K : Fg} {E : L2.St → XK} {S : Zs} {M : Ms}
theorem zs_raiseO {C : Addr} {P : ZP} (h : P.ex ⟨C, []⟩ S M) : ZS K E (fun _ σ H => E σ (.ref C) none H) S M P := fun n σ G H R D k => k.ex (.ref C) none σ G H ⟨C, []⟩ S M (Ex.refl G) R ⟨rfl, rfl⟩ h
end
section
variable {K : Fg} {E : L2.St → XK} {e0 : XK} {te ta : TE} {tA : TA} {S : Zs} {M : Ms} {Q : QZ} {X : XZ}
/-- f(o, ..), f a def whose first argument is an own object of the class C -/
theorem zw_callO {ar : Nat} {C : Addr} {R : List (Str × ZV) → List PyData → DOut → List (Str × ZV) → Prop} (h : ZA K (fun _ => e0) tA S M (fun zs M1 => ∃ p b fs zs' ds o fs' M2, zs = .c p :: zs' ∧ AllD zs' ds ∧ ds.length = ar ∧ R fs ds o fs' ∧ Upd1 p b (.obj C fs) (.obj C fs') M1 M2 ∧ (∀ d, o = .ok d → Q (.d d) M2) ∧ (∀ x, o = .ex x → X x S M2)) X) :
    ZW K (fun _ => e0) (tCall (spO K C ar R) [] e0 tA) S M Q X := fun n σ G H Rl Qv k kx =>
  h n σ G H Rl _ (fun vs G1 H1 zs M1 e1 R1 a1 ⟨p, b, fs, zs', ds, o, fs', M2, hz, hd, hk, hR, hu, q1, q2⟩ => by
    subst hz
    cases a1 with
    | cons a1 a2 =>
      have ev := a1
      obtain ⟨hp, hc⟩ := R1.ce p b _ hu.mem
      subst ev
      exact ⟨G1, p, fs, _, ds, o, fs', by rw [List.append_nil], hk, R1.ex, hp, hc, zall_d (by rw [← hd]; exact a2), hR, fun d ho v G' H' e own hc' a => k v G' H' (.d d) M2 (e1.trans e.g) (R1.call1 e hu own hc') a (q1 d ho), fun x ho cls dd G' H' e own hc' a => kx cls dd G' H' x S M2 (e1.trans e.g) (R1.call1 e hu own hc') a (q2 x ho)⟩) kx
theorem flat_strs (al : List Str) : ((al.map PyData.str).map vOf).all flatV = true ∧ (al.map PyData.str).all flatD = true := by
  constructor <;> (induction al with
  | nil => rfl
  | cons a l ih => simpa [vOf, flatV, flatD] using ih)
theorem inV_strs (w : Str) (al : List Str) : inV (vOf (.str w)) ((al.map PyData.str).map vOf) = decide (w ∈ al) := by
  induction al with
  | nil => rfl
  | cons a l ih =>
    have e : inV (vOf (.str w)) (((a :: l).map PyData.str).map vOf) = (eqV (.str a) (.str w) || inV (vOf (.str w)) ((l.map PyData.str).map vOf)) := rfl
    rw [e, ih]
    have e2 : eqV (.str a) (.str w) = decide (w = a) := by
      show (a == w) = decide (w = a)
      by_cases h : w = a
      · subst h; simp
      · simp [h, Ne.symm h]
    rw [e2]
    simp
theorem zo_inTS {M : Ms} {Q : QZ} {neg : Bool} {w : Str} {al : List Str} (q : Q (.d (.bool (if neg then !decide (w ∈ al) else decide (w ∈ al)))) M) : ZO K (rIn K neg) (.d (.str w)) (.d (.tuple (al.map .str))) M Q :=
  zo_inT ⟨rfl, rfl⟩ (flat_strs al) (by rw [inV_strs]; exact q)
theorem zo_inLS {M : Ms} {Q : QZ} {neg : Bool} {w : Str} {al : List Str} (q : Q (.d (.bool (if neg then !decide (w ∈ al) else decide (w ∈ al)))) M) : ZO K (rIn K neg) (.d (.str w)) (.d (.list (al.map .str))) M Q :=
  zo_inL ⟨rfl, rfl⟩ (flat_strs al) (by rw [inV_strs]; exact q)
abbrev rEqA (K : Fg) : R2 := fun x y H Q => rEq x y H Q ∨ rEqD K x y H Q
abbrev rNeA (K : Fg) : R2 := fun x y H Q => rNe x y H Q ∨ rNeD K x y H Q
theorem op_eqA {X : Cx} (hu : X.A.units + 64 < cLine) : OpR X (compareOp .Eq) (rEqA X.K) := op_eq.or (op_eqD hu)
theorem op_neA {X : Cx} (hu : X.A.units + 64 < cLine) : OpR X (compareOp .NotEq) (rNeA X.K) := op_ne.or (op_neD hu)
theorem zo_eqV {M : Ms} {Q : QZ} {x y : PyData} (hx : flatD x = true) (hy : flatD y = true) (hs : scal (vOf x) (vOf y) = true) {c : Bool} (hc : c = decide (vOf x = vOf y)) (q : Q (.d (.bool c)) M) : ZO K rEq (.d x) (.d y) M Q :=
  zo_val (z := .d (.bool c)) (fun G H v u e a b => by
    have ev := dp_flat a hx
    have eu := dp_flat b hy
    subst ev eu
    exact ⟨_, .bl _, fun Qv h => ⟨hs, by rw [← hc]; exact h⟩⟩) q
theorem zo_neV {M : Ms} {Q : QZ} {x y : PyData} (hx : flatD x = true) (hy : flatD y = true) (hs : scal (vOf x) (vOf y) = true) {c : Bool} (hc : c = !decide (vOf x = vOf y)) (q : Q (.d (.bool c)) M) : ZO K rNe (.d x) (.d y) M Q :=
  zo_val (z := .d (.bool c)) (fun G H v u e a b => by
    have ev := dp_flat a hx
    have eu := dp_flat b hy
    subst ev eu
    exact ⟨_, .bl _, fun Qv h => ⟨hs, by rw [← hc]; exact h⟩⟩) q
theorem vint_eq (a b : Int) : decide (a = b) = decide (vOf (.int a) = vOf (.int b)) := by
  simp [vOf]
theorem vstr_eq (a b : Str) : decide (a = b) = decide (vOf (.str a) = vOf (.str b)) := by
  simp [vOf]
theorem zo_eqI {M : Ms} {Q : QZ} {a b : Int} (q : Q (.d (.bool (decide (a = b)))) M) : ZO K (rEqA K) (.d (.int a)) (.d (.int b)) M Q := zo_l (zo_eqV rfl rfl rfl (vint_eq a b) q)
theorem zo_eqS {M : Ms} {Q : QZ} {a b : Str} (q : Q (.d (.bool (decide (a = b)))) M) : ZO K (rEqA K) (.d (.str a)) (.d (.str b)) M Q := zo_l (zo_eqV rfl rfl rfl (vstr_eq a b) q)
theorem zo_neI {M : Ms} {Q : QZ} {a b : Int} (q : Q (.d (.bool (!decide (a = b)))) M) : ZO K (rNeA K) (.d (.int a)) (.d (.int b)) M Q := zo_l (zo_neV rfl rfl rfl (by rw [vint_eq]) q)
theorem zo_neS {M : Ms} {Q : QZ} {a b : Str} (q : Q (.d (.bool (!decide (a = b)))) M) : ZO K (rNeA K) (.d (.str a)) (.d (.str b)) M Q := zo_l (zo_neV rfl rfl rfl (by rw [vstr_eq]) q)
theorem zo_eqDD {M : Ms} {Q : QZ} {x y : PyData} (hx : SeqAt.shaped x = true) (hy : SeqAt.shaped y = true) (q : Q (.d (.bool (PyData.eqv x y))) M) : ZO K (rEqA K) (.d x) (.d y) M Q := zo_r (zo_eq hx hy q)
theorem zo_neDD {M : Ms} {Q : QZ} {x y : PyData} (hx : SeqAt.shaped x = true) (hy : SeqAt.shaped y = true) (q : Q (.d (.bool (!PyData.eqv x y))) M) : ZO K (rNeA K) (.d x) (.d y) M Q := zo_r (zo_ne hx hy q)
/-- a constant of the module: data that the classes' part holds -/
theorem zw_con {v : V} {d : PyData} (hd : ∀ G, Dz K G v d) (q : Q (.d d) M) : ZW K E (tC v) S M Q X := fun n σ G H R Qv k kx => k v G H (.d d) M (Ex.refl G) R (hd G) q
theorem zw_make0 {ar : Nat} {C : Addr} {R : List (Str × ZV) → List PyData → DOut → List (Str × ZV) → Prop} (h : ZA K E tA S M (fun zs M1 => ∃ ds fs', AllD zs ds ∧ ds.length = ar ∧ R [] ds (.ok .none) fs' ∧ ∀ p, Q (.c p) ((p, true, .obj C fs') :: M1)) X) : ZW K E (tMake C (spO K C ar R) [] E0 tA) S M Q X := fun n σ G H Rl Qv k kx =>
  h n σ G H Rl _ (fun vs G1 H1 zs M1 e1 R1 a1 ⟨ds, fs', hd, hk, hR, q1⟩ x dx hx hdx hne => by
    have R2 := R1.lay (p := dx) (o := .own x) hdx
    have hx2 : (upd H1 dx (.own x)) x = none := by rw [upd_ne (Ne.symm hne)]; exact hx
    have R3 := R2.lay (p := x) (o := .ins C dx []) hx2
    have gdx := ex_gnone R1.ex hdx
    have hown : (upd (upd H1 dx (.own x)) x (.ins C dx [])) dx = some (.own x) := by rw [upd_ne hne, upd_same]
    have hc : CD.at K G1 (upd (upd H1 dx (.own x)) x (.ins C dx [])) x (.obj C []) := ⟨dx, [], upd_same, hown, gdx, .nil⟩
    have R4 := R3.cell (R1.fresh hx) (R1.notin hx) (ex_gnone R1.ex hx) hc
    refine ⟨G1, x, [], vs, ds, .ok .none, fs', by rw [List.append_nil], hk, R4.ex, ex_gnone R1.ex hx, hc, zall_d (by rw [← hd]; exact a1), hR, fun d ho v G' H' e own hc' a => ?_, fun y ho => nomatch ho⟩
    have ho := DOut.ok.inj ho
    subst ho
    exact ⟨dp_non a, k (.ref x) G' H' (.c x) _ (e1.trans e.g) (R4.call1 e .here own hc') rfl (q1 x)⟩) kx
theorem zw_methO0 {ar : Nat} {C : Addr} {m : Str} {R : List (Str × ZV) → List PyData → DOut → List (Str × ZV) → Prop} (h : ZW K E te S M (fun z M0 => ∃ p, z = .c p ∧ (∃ b fs0, (p, b, CD.obj C fs0) ∈ M0 ∧ fs0.lookup m = none) ∧ ZA K E tA S M0 (fun zs M1 => ∃ b fs ds d fs' M2, AllD zs ds ∧ ds.length = ar ∧ R fs ds (.ok d) fs' ∧ Upd1 p b (.obj C fs) (.obj C fs') M1 M2 ∧ Q (.d d) M2) X) X) :
    ZW K E (tMeth C m (spO K C ar R) [] E0 te tA) S M Q X := fun n σ G H Rl Qv k kx =>
  h n σ G H Rl _ (fun v G0 H0 z M0 e0' R0 a0 ⟨p, hz, ⟨b0, fs0, hm0, hl0⟩, h2⟩ => by
    subst hz
    have ev : v = .ref p := a0
    subst ev
    obtain ⟨_, dx, fv, h3, h4, h5, h6⟩ := R0.ce p b0 _ hm0
    refine ⟨p, dx, fv, rfl, h3, (lookup_paired h6 m).1 hl0, h2 n σ G0 H0 R0 _ (fun vs G1 H1 zs M1 e1 R1 a1 ⟨b, fs, ds, d, fs', M2, hd, hk, hR, hu, q1⟩ => ?_) (kx.mono e0')⟩
    obtain ⟨hp, hc⟩ := R1.ce p b _ hu.mem
    refine ⟨G1, p, fs, _, ds, .ok d, fs', by rw [List.append_nil], hk, R1.ex, hp, hc, zall_d (by rw [← hd]; exact a1), hR, fun d' ho v G' H' e own hc' a => ?_, fun x ho => nomatch ho⟩
    have ho := DOut.ok.inj ho
    subst ho
    exact k v G' H' (.d d) M2 ((e0'.trans e1).trans e.g) (R1.call1 e hu own hc') a q1) kx
theorem zw_callO0 {ar : Nat} {C : Addr} {R : List (Str × ZV) → List PyData → DOut → List (Str × ZV) → Prop} (h : ZA K E tA S M (fun zs M1 => ∃ p b fs zs' ds d fs' M2, zs = .c p :: zs' ∧ AllD zs' ds ∧ ds.length = ar ∧ R fs ds (.ok d) fs' ∧ Upd1 p b (.obj C fs) (.obj C fs') M1 M2 ∧ Q (.d d) M2) X) :
    ZW K E (tCall (spO K C ar R) [] E0 tA) S M Q X := fun n σ G H Rl Qv k kx =>
  h n σ G H Rl _ (fun vs G1 H1 zs M1 e1 R1 a1 ⟨p, b, fs, zs', ds, d, fs', M2, hz, hd, hk, hR, hu, q1⟩ => by
    subst hz
    cases a1 with
    | cons a1 a2 =>
      have ev := a1
      obtain ⟨hp, hc⟩ := R1.ce p b _ hu.mem
      subst ev
      refine ⟨G1, p, fs, _, ds, .ok d, fs', by rw [List.append_nil], hk, R1.ex, hp, hc, zall_d (by rw [← hd]; exact a2), hR, fun d' ho v G' H' e own hc' a => ?_, fun x ho => nomatch ho⟩
      have ho := DOut.ok.inj ho
      subst ho
      exact k v G' H' (.d d) M2 (e1.trans e.g) (R1.call1 e hu own hc') a q1) kx
theorem vbl_eq (a b : Bool) : (a == b) = decide (vOf (.bool a) = vOf (.bool b)) := by
  cases a <;> cases b <;> rfl
theorem zo_eqB {M : Ms} {Q : QZ} {a b : Bool} (q : Q (.d (.bool (a == b))) M) : ZO K (rEqA K) (.d (.bool a)) (.d (.bool b)) M Q := zo_l (zo_eqV rfl rfl rfl (vbl_eq a b) q)
theorem zo_neB {M : Ms} {Q : QZ} {a b : Bool} (q : Q (.d (.bool (!(a == b)))) M) : ZO K (rNeA K) (.d (.bool a)) (.d (.bool b)) M Q := zo_l (zo_neV rfl rfl rfl (by rw [vbl_eq]) q)
def dNone : PyData → Bool
  | .none => true
  | _ => false
theorem dp_isN {G : Hp} {v : V} {x : PyData} (h : Dz K G v x) : decide (v = V.non) = dNone x := by
  cases h <;> simp [dNone]
theorem zo_isN {M : Ms} {Q : QZ} {x : PyData} (q : Q (.d (.bool (dNone x))) M) : ZO K (fun x y H Q => y = V.non ∧ Q (.bl (decide (x = V.non))) H) (.d x) (.d .none) M Q := fun n S σ G H R v u a b Qv k =>
  ⟨dp_non b, by rw [dp_isN a]; exact k (.bl (dNone x)) G H (.d (.bool (dNone x))) M (Ex.refl G) R (Dz.bl _) q⟩
theorem zo_notN {M : Ms} {Q : QZ} {x : PyData} (q : Q (.d (.bool (!dNone x))) M) : ZO K (fun x y H Q => y = V.non ∧ Q (.bl (!decide (x = V.non))) H) (.d x) (.d .none) M Q := fun n S σ G H R v u a b Qv k =>
  ⟨dp_non b, by rw [dp_isN a]; exact k (.bl (!dNone x)) G H (.d (.bool (!dNone x))) M (Ex.refl G) R (Dz.bl _) q⟩
theorem zs_par3 {i j l : Nat} {P : ZP} (h : ZA K E tA S M (fun zs M1 => ∃ z w y, zs = [z, w, y] ∧ P.nx (((S.set i (some z)).set j (some w)).set l (some y)) M1) P.ex) : ZS K E (tPar3 i j l tA) S M P := fun n σ G H R D k =>
  h n σ G H R _ (fun vs G1 H1 zs M1 e1 R1 a1 ⟨z, w, y, hz, q⟩ => by
    subst hz
    cases a1 with
    | cons a b => cases b with | cons b c => cases c with | cons c d => cases d; exact ⟨_, _, _, rfl, k.nx _ G1 H1 _ M1 e1 (((R1.set a).set b).set c) q⟩) k.xok
theorem zc_min2 {M : Ms} {Q : QZ} {i j : Int} (q : Q (.d (.int (if j < i then j else i))) M) : ZC K (fun xs H Q => ∃ i j, xs = [.int i, .int j] ∧ Q (.int (if j < i then j else i)) H) [.d (.int i), .d (.int j)] M Q :=
  zc_val (z := .d (.int (if j < i then j else i))) (fun G H vs e a => by
    obtain ⟨v, u, rfl, av, au⟩ := zall2 a
    exact ⟨.int _, Dz.int _, fun Qv hq => ⟨i, j, by rw [dp_int av, dp_int au], hq⟩⟩) q
theorem zc_max2 {M : Ms} {Q : QZ} {i j : Int} (q : Q (.d (.int (if j > i then j else i))) M) : ZC K (fun xs H Q => ∃ i j, xs = [.int i, .int j] ∧ Q (.int (if j > i then j else i)) H) [.d (.int i), .d (.int j)] M Q :=
  zc_val (z := .d (.int (if j > i then j else i))) (fun G H vs e a => by
    obtain ⟨v, u, rfl, av, au⟩ := zall2 a
    exact ⟨.int _, Dz.int _, fun Qv hq => ⟨i, j, by rw [dp_int av, dp_int au], hq⟩⟩) q
/-- a statement's own end, ahead of what follows -/
theorem zs_nx {t : TS} {P : ZP} {N : Zs → Ms → Prop} (h : ZS K E t S M { P with nx := N }) (hi : ∀ S' M', N S' M' → P.nx S' M') : ZS K E t S M P := fun n σ G H R D k =>
  h n σ G H R D ⟨fun σ' G' H' S' M' e R' q => k.nx σ' G' H' S' M' e R' (hi S' M' q), k.rt, k.bk, k.ct, k.ex⟩
end
end Z
/-! raise C(e), C an own exception class over ValueError whose __init__ says super().__init__(f'text{f}') and self.f = f -/
namespace PySem
end PySem
namespace L2
open PySem PySem.Spec PyProof.Rows
def FldV (v : V) : Prop := v = .non ∨ ∃ i : Int, v = .int i ∧ i.natAbs.log2 < 1920
/-- C(e): the error's own dict d, new, holds the field -/
def tMkS (C : Addr) (f : Str) (ta : TA) : L2.St → Hp → XK → Prop := fun σ H Q => ta σ H fun vs H1 => ∃ v, vs = [v] ∧ FldV v ∧ ∀ d, H1 d = none → Q (.ref C) (some d) (upd H1 d (.xd [(f, v)]))
end L2
/-! in an except suite: isinstance(e, C) and e.f, whatever e's dict -/
namespace Z
open PySem PySem.Spec PyProof.Rows L2
open Evl (Ex)
def rIsX (K : Fg) (cls : Value) (a : Addr) (d : Option Addr) : List V → Hp → VK → Prop := fun xs H Q => ∃ (c : V) (cv : Value) (b : Bool) (D : Addr), xs = [.ref a, c] ∧ cls = .ref D ∧ ExcC K D ∧ (∀ dd, d = some dd → ∃ fs, H dd = some (.xd fs)) ∧ (∀ u, RelV c u → u = cv) ∧ PySem.W.kitOne K (.ref D) cv = some b ∧ Q (.bl b) H
section
variable {K : Fg} {E : L2.St → XK} {te ta : TE} {S : Zs} {M : Ms} {Q : QZ} {X : XZ}
theorem zw_isX {a : Addr} {cls : Value} {d : Option Addr} {C : Addr} {tcl : TE} (hcl : tcl = tC (.ref C)) (h : ZW K E te S M (fun z M1 => ∃ x b, z = .e a cls d x ∧ ExcC K x.cls ∧ PySem.W.kitOne K (.ref x.cls) (.ref C) = some b ∧ Q (.d (.bool b)) M1) X) :
    ZW K E (tCB (rIsX K cls a d) (tCons te (tCons tcl tNil))) S M Q X := fun n σ G H R Qv k kx =>
  h n σ G H R _ (fun v G1 H1 z M1 e1 R1 a1 ⟨x, b, hz, hE, hb, q⟩ => by
    subst hz hcl
    obtain ⟨rfl, hc, hx⟩ := a1
    refine ⟨.ref C, .ref C, b, x.cls, rfl, hc, hE, fun dd hd => ?_, fun u r => r, hb, k _ G1 H1 (.d (.bool b)) M1 e1 R1 (Dz.bl b) q⟩
    subst hd
    split at hx
    · cases hx
    · obtain ⟨dd', fv, h1, h2, _⟩ := hx
      cases h1
      exact ⟨fv, R1.ex _ _ h2⟩) kx
def FldD (x : PyData) : Prop := x = .none ∨ ∃ i : Int, x = .int i ∧ i.natAbs.log2 < 1920
theorem zs_raiseS {C : Addr} {f : Str} {tA : TA} {P : ZP} (h : ZA K E tA S M (fun zs M1 => ∃ x, zs = [.d x] ∧ FldD x ∧ P.ex ⟨C, [(f, x)]⟩ S M1) P.ex) : ZS K E (fun _ σ H => tMkS C f tA σ H fun cls d H' => E σ cls d H') S M P := fun n σ G H R D k =>
  h n σ G H R _ (fun vs G1 H1 zs M1 e1 R1 a1 ⟨x, hz, hx, q⟩ => by
    subst hz
    obtain ⟨v, rfl, av⟩ := zall1 a1
    have av' : Dz K G1 v x := av
    refine ⟨v, rfl, ?_, fun d hd => ?_⟩
    · rcases hx with rfl | ⟨i, rfl, hi⟩
      · cases av'
        exact .inl rfl
      · exact .inr ⟨i, dp_int av', hi⟩
    · have g := ex_gnone R1.ex hd
      refine k.ex (.ref C) (some d) σ _ _ ⟨C, [(f, x)]⟩ S M1 (e1.trans (Ex.new g)) (R1.new hd (fun _ z => nomatch z)) ⟨rfl, d, [(f, v)], rfl, upd_same, .cons ⟨rfl, dp_mono (Ex.new g) av'⟩ .nil⟩ q) k.xok
end
end Z
/-! a def that hands back a new own object; an object of a class without __init__; one of several readings; //, gcd, abs of great numbers; x is True -/
namespace Z
open PySem PySem.Spec PyProof.Rows L2
open Evl (Ex)
/-! ### one of several readings of an expression -/
section
variable {K : Fg} {E : L2.St → XK} {e0 : XK} {te ta tb : TE} {tA : TA} {t : TS} {S : Zs} {M : Ms} {P : ZP} {Q : QZ} {X : XZ} {n : Sn} {σ : L2.St} {G G' H H' : Hp}
/-! ### a def over data that hands back a new own object -/
def spB (K : Fg) (k : Nat) (R : List PyData → Addr → List (Str × ZV) → Prop) : Sp := fun vs H Q E => ∃ (G : Hp) (ds : List PyData) (C : Addr) (fs : List (Str × ZV)), Ex G H ∧ ds.length = k ∧ DzAll K G vs ds ∧ R ds C fs ∧
  ∀ p G' H', Ext [] G H G' H' → H p = none → G' p = none → CD.at K G' H' p (.obj C fs) → Q (.ref p) H'
theorem zw_callB0 {ar : Nat} {R : List PyData → Addr → List (Str × ZV) → Prop} (h : ZA K E tA S M (fun zs M1 => ∃ ds C fs, AllD zs ds ∧ ds.length = ar ∧ R ds C fs ∧ ∀ p, Q (.c p) ((p, true, .obj C fs) :: M1)) X) : ZW K E (tCall (spB K ar R) [] E0 tA) S M Q X := fun n σ G H Rl Qv k kx =>
  h n σ G H Rl _ (fun vs G1 H1 zs M1 e1 R1 a1 ⟨ds, C, fs, hd, hk, hR, q⟩ => by
    refine ⟨G1, ds, C, fs, R1.ex, hk, ?_, hR, fun p G' H' e hp hg hc => ?_⟩
    · rw [List.append_nil]
      exact zall_d (by rw [← hd]; exact a1)
    · exact k (.ref p) G' H' (.c p) _ (e1.trans e.g) ((R1.call e).cell (R1.fresh hp) (R1.notin hp) hg hc) rfl (q p)) kx
/-! ### C(), C a class without __init__ -/
def tMakeE (C : Addr) : TE := fun _ H Q => ∀ x dx, H x = none → H dx = none → dx ≠ x → Q (.ref x) (upd (upd H dx (.own x)) x (.ins C dx []))
theorem zw_makeE {C : Addr} (q : ∀ p, Q (.c p) ((p, true, .obj C []) :: M)) : ZW K E (tMakeE C) S M Q X := fun n σ G H Rl Qv k kx x dx hx hdx hne => by
  have R2 := Rl.lay (p := dx) (o := .own x) hdx
  have hx2 : (upd H dx (.own x)) x = none := by rw [upd_ne (Ne.symm hne)]; exact hx
  have R3 := R2.lay (p := x) (o := .ins C dx []) hx2
  have hown : (upd (upd H dx (.own x)) x (.ins C dx [])) dx = some (.own x) := by rw [upd_ne hne, upd_same]
  have hc : CD.at K G (upd (upd H dx (.own x)) x (.ins C dx [])) x (.obj C []) := ⟨dx, [], upd_same, hown, ex_gnone Rl.ex hdx, .nil⟩
  exact k (.ref x) G _ (.c x) _ (Ex.refl G) (R3.cell (Rl.fresh hx) (Rl.notin hx) (ex_gnone Rl.ex hx) hc) rfl (q x)
end
section
variable {K : Fg} {M : Ms} {Q : QZ}
abbrev rAbs : List V → Hp → VK → Prop := fun xs H Q => ∃ i, xs = [.int i] ∧ Q (.int (if i < 0 then -i else i)) H
theorem zc_abs {i : Int} (q : Q (.d (.int (if i < 0 then -i else i))) M) : ZC K rAbs [.d (.int i)] M Q := zc_val (z := .d (.int (if i < 0 then -i else i))) (fun G H vs e a => by
  obtain ⟨v, rfl, av⟩ := zall1 a
  exact ⟨_, Dz.int _, fun Qv hq => ⟨i, by rw [dp_int av], hq⟩⟩) q
theorem zc_gcd {i j : Int} (q : Q (.d (.int ((Nat.gcd i.natAbs j.natAbs : Nat) : Int))) M) : ZC K rGcd [.d (.int i), .d (.int j)] M Q := zc_val (z := .d (.int ((Nat.gcd i.natAbs j.natAbs : Nat) : Int))) (fun G H vs e a => by
  obtain ⟨v, u, rfl, av, au⟩ := zall2 a
  exact ⟨_, Dz.int _, fun Qv hq => ⟨i, j, by rw [dp_int av, dp_int au], hq⟩⟩) q
abbrev rIsB : R2 := fun x y H Q => ∃ a b, x = .bl a ∧ y = .bl b ∧ Q (.bl (decide (a = b))) H
abbrev rIsntB : R2 := fun x y H Q => ∃ a b, x = .bl a ∧ y = .bl b ∧ Q (.bl (!decide (a = b))) H
theorem zo_isB {a b : Bool} (q : Q (.d (.bool (decide (a = b)))) M) : ZO K rIsB (.d (.bool a)) (.d (.bool b)) M Q :=
  zo_val (z := .d (.bool (decide (a = b)))) (fun G H v u e x y => ⟨_, .bl _, fun Qv h => ⟨a, b, dp_bl x, dp_bl y, h⟩⟩) q
theorem zo_isntB {a b : Bool} (q : Q (.d (.bool (!decide (a = b)))) M) : ZO K rIsntB (.d (.bool a)) (.d (.bool b)) M Q :=
  zo_val (z := .d (.bool (!decide (a = b)))) (fun G H v u e x y => ⟨_, .bl _, fun Qv h => ⟨a, b, dp_bl x, dp_bl y, h⟩⟩) q
end
end Z
/-! [e for x in range(a, b) for y in range(c, d)] -/
namespace Z
open PySem PySem.Spec PyProof.Rows L2
open Evl (Ex)
theorem par_go {F : ZV → ZV → Prop} {z w : ZV} (h : F z w) : ∃ a b, [z, w] = [a, b] ∧ F a b := ⟨z, w, rfl, h⟩
theorem par_go3 {F : ZV → ZV → ZV → Prop} {z w y : ZV} (h : F z w y) : ∃ a b c, [z, w, y] = [a, b, c] ∧ F a b c := ⟨z, w, y, rfl, h⟩
end Z
/-! for i, x in enumerate(t), t a tuple: the turn of an iterator that hands out pairs (PySem.WalksT) as a turn of HandS; enumerate's one-argument call over whatever begins an iterator -/
namespace Z
open PySem PySem.Spec PyProof.Rows L2
open Evl (Ex)
/-- a: the tuple; each turn a new pair -/
def ItN (K : Fg) (a : Addr) : It where
  go i H := ∃ xs x, SqT K H a xs ∧ xs[i]? = some x
  yld i H v H' := ∃ T x, (H T = none ∧ v = .ref T ∧ H' = upd H T (.tup [.int (i : Nat), x])) ∧ ∀ xs, SqT K H a xs → xs[i]? = some x
  stop i H := ∃ xs, SqT K H a xs ∧ xs.length = i
/-- enumerate(t) as what a loop walks -/
def iEnumT (K : Fg) (ta : TA) : TI := fun σ H R => ta σ H fun vs H1 => ∃ a, vs = [.ref a] ∧ (∃ xs, SqT K H1 a xs) ∧ R (ItN K a) H1
section
variable {K : Fg} {E : L2.St → XK} {tA : TA} {g : TG} {t : TS} {S : Zs} {M : Ms} {P : ZP}
theorem zs_forN (h : ZA K E tA S M (fun zs M1 => ∃ xs, zs = [.d (.tuple xs)] ∧ ∃ I : Nat → Zs → Ms → Prop, I 0 S M1 ∧
      (∀ i x S' M', xs[i]? = some x → I i S' M' → ∃ is S2, ZG K g (.d (.tuple [.int (i : Nat), x])) S' is S2 ∧ ZS K E t S2 M' (LoopP P (I (i + 1)))) ∧ (∀ S' M', I xs.length S' M' → P.nx S' M')) P.ex) : ZS K E (tFor (iEnumT K tA) g t) S M P := by
  intro n σ G H R D k
  refine h n σ G H R _ (fun vs G1 H1 zs M1 e1 R1 a1 ⟨xs, hz, I, i0, is, id⟩ => ?_) k.xok
  subst hz
  obtain ⟨v, rfl, av⟩ := zall1 a1
  obtain ⟨p, ws, rfl, h1, h2⟩ := dp_tup av
  have hl := dpa_len h2
  have stays : ∀ {G' H' : Hp} {S' M' σ'}, Rel K n S' M' σ' G' H' → Ex G1 G' → SqT K H' p ws := fun R' e' => Evl.ex_t (e'.trans R'.ex) h1
  refine ⟨p, rfl, ⟨ws, Evl.ex_t R1.ex h1⟩, fun i m σ' H' => m = ws.length - i ∧ i ≤ ws.length ∧ FI K n G1 I i σ' H', ⟨_, rfl, Nat.zero_le _, G1, S, M1, R1, Ex.refl _, i0⟩, ?_⟩
  rintro i m σ' H' ⟨rfl, hi, G', S', M', R', e', hI⟩
  by_cases hlt : i < ws.length
  · have hw : ws[i]? = some ws[i] := List.getElem?_eq_getElem hlt
    obtain ⟨d, hd, ad⟩ := dpa_at_v h2 hw
    refine .inr ⟨⟨ws, _, stays R' e', hw⟩, FI K n G1 I (i + 1), fun σ2 H2 q => ⟨_, by omega, rfl, hlt, q⟩, fun y H2 hy => ?_⟩
    obtain ⟨T, x, ⟨hT, rfl, rfl⟩, hx⟩ := hy
    have ex : x = ws[i] := Option.some.inj ((hx ws (stays R' e')).symm.trans hw)
    subst ex
    have gT := ex_gnone R'.ex hT
    have R2 := R'.new (o := .tup [.int (i : Nat), ws[i]]) hT (fun _ z => nomatch z)
    obtain ⟨js, S2, hg, hb⟩ := is i d S' M' hd hI
    have pair : Dz K (upd G' T (.tup [.int (i : Nat), ws[i]])) (.ref T) (.tuple [.int (i : Nat), d]) := .tup (.inl upd_same) (.cons (.int _) (.cons (dp_mono (e'.trans (Ex.new gT)) ad) .nil))
    refine hg n M' σ' _ _ _ R2 pair _ fun σ2 _ _ R3 => hb n σ2 _ _ R3 _ ((k.mono ((e1.trans e').trans (Ex.new gT))).loop fun σ3 G3 H3 S3 M3 e3 R4 i3 => ⟨G3, S3, M3, R4, (e'.trans (Ex.new gT)).trans e3, i3⟩)
  · have e : i = ws.length := by omega
    subst e
    exact .inl ⟨⟨ws, stays R' e', rfl⟩, k.nx σ' G' H' S' M' (e1.trans e') R' (id S' M' (by rw [← hl]; exact hI))⟩
end
end Z
/-! dicts whose keys are tuples: {(..): e for .. in ..}, dict([..]), .get, in -/
namespace Z
open PySem PySem.Spec PyProof.Rows L2
open Evl (Ex)
/-! ### dict([(key, value), ..]) -/
/-- the rows stored one behind the other -/
def storeAll (rows : List (List Key × Addr × V)) : List (List Key × V) := rows.foldl (fun acc r => putK acc r.1 r.2.2) []
theorem storeAll_len : ∀ (rows : List (List Key × Addr × V)) (acc : List (List Key × V)), (rows.foldl (fun acc r => putK acc r.1 r.2.2) acc).length ≤ acc.length + rows.length
  | [], acc => Nat.le_refl _
  | r :: rows, acc => by
    have h1 := storeAll_len rows (putK acc r.1 r.2.2)
    have h2 := length_putK acc r.1 r.2.2
    rw [List.foldl_cons, List.length_cons]
    omega
theorem kt_all {H : Hp} : ∀ {rows : List (List Key × Addr × V)} {us : List Value} {acc : List (List Key × V)} {xs : List (List Key × Addr × Value)}, Paired (fun r u => H r.2.1 = some (.tup (r.1.map kV)) ∧ RelV r.2.2 u) rows us → KT H acc xs →
    KT H (rows.foldl (fun acc r => putK acc r.1 r.2.2) acc) (storedAllH xs (List.zipWith (fun r u => (r.1, r.2.1, u)) rows us))
  | [], [], _, _, .nil, k => k
  | r :: rows, u :: us, acc, xs, .cons h t, k => kt_all (rows := rows) (us := us) t (KT.put k r.1 h.1 h.2)
def rDictT (K : Fg) : List V → Hp → VK → Prop := fun vs H Q => ∃ (a : Addr) (ts : List Addr) (rows : List (List Key × Addr × V)), vs = [.ref a] ∧ SqL K H a (ts.map V.ref) ∧
  Paired (fun t r => SqT K H t [.ref r.2.1, r.2.2] ∧ H r.2.1 = some (.tup (r.1.map kV))) ts rows ∧ ∀ p, H p = none → Q (.ref p) (upd H p (.dT (storeAll rows)))
theorem pair_raw {X : Cx} {pins : List (Addr × Obj)} {σ : L2.St} {H : Hp} {s : Shared} (I : Inv X pins σ H s) {t b : Addr} {v : V} (h : SqT X.K H t [.ref b, v]) : ∃ u, s.heap.IsTuple t #[.ref b, u] ∧ RelV v u := by
  obtain ⟨its, rv, ht, _⟩ := I.tuple h
  cases rv with
  | cons rx r2 =>
    cases r2 with
    | cons ru r3 =>
      cases r3
      cases rx
      exact ⟨_, ht, ru⟩
theorem rows_raw {X : Cx} {pins : List (Addr × Obj)} {σ : L2.St} {H : Hp} {s : Shared} (I : Inv X pins σ H s) {ts : List Addr} {rows : List (List Key × Addr × V)} (hp : Paired (fun t r => SqT X.K H t [.ref r.2.1, r.2.2] ∧ H r.2.1 = some (.tup (r.1.map kV))) ts rows) :
    ∃ us, Paired (fun r u => H r.2.1 = some (.tup (r.1.map kV)) ∧ RelV r.2.2 u) rows us ∧ ∀ (j : Nat) (t : Addr), ts[j]? = some t → ∃ r u, rows[j]? = some r ∧ us[j]? = some u ∧ s.heap.IsTuple t #[.ref r.2.1, u] := by
  induction hp with
  | nil => exact ⟨[], .nil, fun j t h => by simp at h⟩
  | cons h _ ih =>
    obtain ⟨us, p, k⟩ := ih
    obtain ⟨u, ht, ru⟩ := pair_raw I h.1
    refine ⟨u :: us, .cons ⟨h.2, ru⟩ p, fun j t' hj => ?_⟩
    cases j with
    | zero =>
      cases hj
      exact ⟨_, u, rfl, rfl, ht⟩
    | succ j => exact k j t' hj
theorem paired_lens {α β : Type} {F : α → β → Prop} : ∀ {l : List α} {m : List β}, Paired F l m → l.length = m.length
  | _, _, .nil => rfl
  | _, _, .cons _ t => congrArg (· + 1) (paired_lens t)
theorem call_dictT {X : Cx} (hc : X.calm = true) (hu : X.A.units + 64 < cLine) : CallR X (.type "dict") (rDictT X.K) := by
  rintro pins s σ H vs us Q I r ⟨a, ts, rows, rfl, hq, hp, q⟩
  rw [Vals.ref1 r]
  obtain ⟨its, rv, pl, hz⟩ := I.list hq
  have hi := refs_at rv
  subst hi
  obtain ⟨ws, pw, each⟩ := rows_raw I hp
  have l1 := paired_lens hp
  have l2 := paired_lens pw
  rw [List.length_map] at hz
  have hm : (s.heap.objs.size == sysModules) = false := beq_eq_false_iff_ne.mpr (Nat.ne_of_gt I.big)
  let prs := List.zipWith (fun (r : List Key × Addr × V) (u : Value) => ((Value.ref r.2.1, u) : Value × Value)) rows ws
  let ps := List.zipWith (fun (r : List Key × Addr × V) (u : Value) => (r.1, r.2.1, u)) rows ws
  have lp : prs.length = rows.length := by simp [prs, l2]
  have lq : ps.length = rows.length := by simp [ps, l2]
  have plain : PlainSeq "list" s.heap a (ts.map Value.ref).toArray := by
    obtain ⟨o, n, ho, h1, h2, h3⟩ := pl
    exact ⟨o, n, ho, h1, h2, h3⟩
  have items : PairItems s.heap (ts.map Value.ref).toArray (fun j => ts.getD j 0) prs := by
    refine ⟨by simp [lp, l1], fun j k v hj => ?_⟩
    have hlt : j < ts.length := by have := (List.getElem?_eq_some_iff.mp hj).1; omega
    obtain ⟨r, u, h1, h2, h3⟩ := each j ts[j] (List.getElem?_eq_getElem hlt)
    have e : prs[j]? = some (.ref r.2.1, u) := by simp only [prs, List.getElem?_zipWith, h1, h2]
    rw [e] at hj
    cases hj
    have et : ts.getD j 0 = ts[j] := by simp [List.getD_eq_getElem?_getD, hlt]
    show _ = some (Value.ref (ts.getD j 0)) ∧ PairAt s.heap (ts.getD j 0) (.ref r.2.1) v
    rw [et]
    exact ⟨by simp [hlt], .inl h3⟩
  have keys : ∀ x ∈ ps, H x.2.1 = some (.tup (x.1.map kV)) := by
    have go : ∀ {rows : List (List Key × Addr × V)} {ws : List Value}, Paired (fun r u => H r.2.1 = some (.tup (r.1.map kV)) ∧ RelV r.2.2 u) rows ws → ∀ x ∈ List.zipWith (fun (r : List Key × Addr × V) (u : Value) => (r.1, r.2.1, u)) rows ws, H x.2.1 = some (.tup (x.1.map kV)) := by
      intro rows ws h
      induction h with
      | nil => intro x hx; simp at hx
      | cons h _ ih =>
        intro x hx
        rw [List.zipWith_cons_cons] at hx
        rcases List.mem_cons.mp hx with rfl | hx
        · exact h.1
        · exact ih x hx
    exact go pw
  refine call_dict_pairsH (knd := tupleKind (mixKind X.prog X.w)) (ps := ps) (PairArg.list a (ts.map Value.ref).toArray (fun j => ts.getD j 0) prs) (I.ok.hd hc) (show X.A.in1.in1.units < cLine from (show X.A.units + 2 < cLine by omega)) ⟨plain, items⟩ ⟨by rw [lq, lp], fun i k v hk => ?_⟩ (fun g old x hx => ?_) (by rw [lp, ← l1]; exact hz) fun g tk hd old => ?_
  · have hlt : i < rows.length := by have := (List.getElem?_eq_some_iff.mp hk).1; omega
    obtain ⟨r, u, h1, h2, _⟩ := each i ts[i] (List.getElem?_eq_getElem (by omega))
    have e : prs[i]? = some (.ref r.2.1, u) := by simp only [prs, List.getElem?_zipWith, h1, h2]
    have hk : prs[i]? = some (k, v) := hk
    rw [e] at hk
    cases hk
    exact ⟨r.1, r.2.1, by simp only [ps, List.getElem?_zipWith, h1, h2], rfl⟩
  · obtain ⟨o, its, n, g1, g2, g3, g4⟩ := key_of (P := X.prog) (w := X.w) I.hok (keys x hx)
    exact ⟨o, its, n, old _ o (Nat.ne_of_lt (Heap.lt_size g1)) (by simp) g1, g2, g3, g4⟩
  · obtain ⟨o, es, ep, p1, p2, p3, p4, _, p5⟩ := hd
    have hf := I.hok.fresh (Nat.le_refl s.heap.objs.size)
    have hl : (storeAll rows).length ≤ sizeLine := Nat.le_trans (storeAll_len rows []) (by rw [List.length_nil, Nat.zero_add, ← l1]; exact hz)
    refine ⟨.ref s.heap.objs.size, upd H s.heap.objs.size (.dT (storeAll rows)), I.laid (t' := tk) (fun b u e => old b u (by simp) e) (Nat.le_refl _) ⟨hl, hm, _, (kt_all pw .nil).keeps fun b ys e => ?_, o, es, ep, p1, p2, p3, p4, p5⟩, rfl, q _ hf⟩
    rw [upd_ne (ne_of_none e hf)]
    exact e
end Z
/-! sorted(rows), rows a list or a tuple of tuples of ints of any size -/
namespace Z
open PySem PySem.Spec PyProof.Rows L2
open Evl (Ex)
/-- row a does not stand behind row b -/
def leI (a b : List Int) : Bool := !lexLt itemOrd (b.map Sum.inl) (a.map Sum.inl)
theorem leI_iff {a b : List Int} : leI a b = true ↔ (listOrd itemOrd).kle (a.map Sum.inl) (b.map Sum.inl) := by
  unfold leI KeyOrd.kle
  rw [Bool.not_eq_true']
theorem leI_trans (a b c : List Int) (h1 : leI a b = true) (h2 : leI b c = true) : leI a c = true := leI_iff.mpr (KeyOrd.kle_trans (leI_iff.mp h1) (leI_iff.mp h2))
theorem leI_total (a b : List Int) : (leI a b || leI b a) = true := by
  rw [Bool.or_eq_true]
  by_cases h : (listOrd itemOrd).klt (a.map Sum.inl) (b.map Sum.inl)
  · exact .inl (leI_iff.mpr (KeyOrd.kle_of_klt h))
  · exact .inr (leI_iff.mpr (KeyOrd.kle_of_not_klt h))
theorem inl_inj {a b : List Int} (h : a.map (Sum.inl (β := List Nat)) = b.map Sum.inl) : a = b := by
  induction a generalizing b with
  | nil => cases b with
    | nil => rfl
    | cons y b => cases h
  | cons x a ih => cases b with
    | nil => cases h
    | cons y b =>
      rw [List.map_cons, List.map_cons] at h
      injection h with h1 h2
      injection h1 with h1
      rw [h1, ih h2]
theorem leI_anti (a b : List Int) (h1 : leI a b = true) (h2 : leI b a = true) : a = b := inl_inj (KeyOrd.kle_antisymm (leI_iff.mp h1) (leI_iff.mp h2))
/-- the rows in order -/
def sortI (rows : List (List Int)) : List (List Int) := rows.mergeSort leI
theorem sortI_perm (rows : List (List Int)) : (sortI rows).Perm rows := List.mergeSort_perm _ _
theorem sortI_pw (rows : List (List Int)) : (sortI rows).Pairwise (fun a b => leI a b = true) := List.pairwise_mergeSort leI_trans leI_total rows
theorem sortI_uniq {rows l : List (List Int)} (hp : l.Perm rows) (hw : l.Pairwise (fun a b => leI a b = true)) : l = sortI rows :=
  List.Perm.eq_of_pairwise (fun a b _ _ => leI_anti a b) hw (sortI_pw rows) (hp.trans (sortI_perm rows).symm)
/-- x is a row of these ints -/
def RowI (K : Fg) (H : Hp) (x : V) (ns : List Int) : Prop := ∃ t, x = .ref t ∧ SqT K H t (ns.map V.int)
def refV : Value → V
  | .ref a => .ref a
  | _ => .non
theorem items_ints {ns : List Int} : ∀ {us : List Value} (i : Nat), Vals (ns.map V.int) us → tupItems (fun _ => false) i us = some (ns.map Sum.inl) := by
  induction ns with
  | nil => intro us i h; cases h; rfl
  | cons n ns ih =>
    intro us i h
    cases h with
    | cons a b =>
      obtain ⟨t, rfl⟩ := a
      show Option.map _ (tupItems _ (i + 1) _) = _
      rw [ih (i + 1) b]
      rfl
section
variable {X : Cx} {pins : List (Addr × Obj)} {σ : L2.St} {H : Hp} {s : Shared}
theorem row_key (I : Inv X pins σ H s) {x : V} {ns : List Int} (h : RowI X.K H x ns) : ∃ t, x = .ref t ∧ G.tupKeyC s.heap (fun _ => false) (.ref t) = some (ns.map Sum.inl) := by
  obtain ⟨t, rfl, hq⟩ := h
  obtain ⟨us, rv, ⟨o, ho, hc, n, hd⟩, _⟩ := I.tuple hq
  refine ⟨t, rfl, ?_⟩
  exact G.tupKeyC_of ho hc hd (items_ints 0 rv)
theorem row_first (I : Inv X pins σ H s) {x : V} {ns : List Int} (h : RowI X.K H x ns) (h0 : ns ≠ []) : ∃ t f, x = .ref t ∧ TupOf s.heap (fun _ => false) (.ref t) f := by
  obtain ⟨t, rfl, hq⟩ := h
  obtain ⟨us, rv, ⟨o, ho, hc, n, hd⟩, _⟩ := I.tuple hq
  cases ns with
  | nil => exact absurd rfl h0
  | cons m ns =>
    cases rv with
    | cons a b =>
      obtain ⟨k, rfl⟩ := a
      exact ⟨t, _, rfl, t, o, _, n, rfl, ho, hc, hd, rfl, fun _ => ⟨_, _, rfl⟩, fun z => nomatch z⟩
end
end Z
/-! rows sorted, compared; min, max, any, list(..) over data; dicts as own cells; defs that hand back a dict -/
namespace Z
open PySem PySem.Spec PyProof.Rows L2
open Evl (Ex)
abbrev rowD (r : List Int) : PyData := .tuple (r.map .int)
theorem paired_perm {α β : Type} {F : α → β → Prop} {xs ys : List α} (hp : ys.Perm xs) : ∀ {rs : List β}, Paired F xs rs → ∃ rs', rs'.Perm rs ∧ Paired F ys rs' := by
  induction hp with
  | nil => intro rs h; exact ⟨rs, .refl _, h⟩
  | cons x _ ih =>
    intro rs h
    cases h with
    | cons a b =>
      obtain ⟨rs', p, q⟩ := ih b
      exact ⟨_ :: rs', p.cons _, .cons a q⟩
  | swap x y l =>
    intro rs h
    cases h with
    | cons a b => cases b with
      | cons c d => exact ⟨_, .swap _ _ _, .cons c (.cons a d)⟩
  | trans _ _ ih1 ih2 =>
    intro rs h
    obtain ⟨r1, p1, q1⟩ := ih2 h
    obtain ⟨r2, p2, q2⟩ := ih1 q1
    exact ⟨r2, p2.trans p1, q2⟩
section
variable {K : Fg} {E : L2.St → XK} {e0 : XK} {te ta tb tk tv td : TE} {tA : TA} {t : TS} {g : TG} {S : Zs} {M M' : Ms} {P : ZP} {Q : QZ} {X : XZ} {n : Sn} {σ : L2.St} {G G' H H' : Hp}
theorem dza_rows {rows : List (List Int)} : ∀ {vs : List V}, DzAll K G vs (rows.map rowD) → Paired (fun v r => Dz K G v (rowD r)) vs rows := by
  induction rows with
  | nil => intro vs h; cases h; exact .nil
  | cons r rows ih => intro vs h; cases h with | cons a b => exact .cons a (ih b)
theorem dza_ints {ns : List Int} : ∀ {vs : List V}, DzAll K G vs (ns.map .int) → vs = ns.map V.int := by
  induction ns with
  | nil => intro vs h; cases h; rfl
  | cons i ns ih => intro vs h; cases h with | cons a b => rw [dp_int a, ih b]; rfl
theorem dza_bools {bs : List Bool} : ∀ {vs : List V}, DzAll K G vs (bs.map .bool) → vs = bs.map V.bl := by
  induction bs with
  | nil => intro vs h; cases h; rfl
  | cons i bs ih => intro vs h; cases h with | cons a b => rw [dp_bl a, ih b]; rfl
theorem dz_row {v : V} {r : List Int} (e : Ex G H) (h : Dz K G v (rowD r)) : RowI K H v r := by
  obtain ⟨p, ws, rfl, h1, h2⟩ := dp_tup h
  rw [dza_ints h2] at h1
  exact ⟨p, rfl, Evl.ex_t e h1⟩
/-- rows compared -/
def leQ (a b : List Int) : Bool := Ob.lexAt (fun j => decide (a.getD j 0 = b.getD j 0)) (fun j => decide (a.getD j 0 ≤ b.getD j 0)) (decide (a.length ≤ b.length)) 0 (min a.length b.length)
theorem zo_leR {a b : List Int} (q : Q (.d (.bool (leQ a b))) M) : ZO K (rLeT K) (.d (rowD a)) (.d (rowD b)) M Q :=
  zo_val (z := .d (.bool (leQ a b))) (fun G H v u e x y => by
    obtain ⟨p, rfl, h1⟩ := dz_row e x
    obtain ⟨p2, rfl, h2⟩ := dz_row e y
    exact ⟨_, .bl _, fun Qv h => ⟨p, p2, a, b, rfl, rfl, h1, h2, h⟩⟩) q
/-! ### min, max, any, list -/
theorem zc_any {bs : List Bool} (q : Q (.d (.bool (bs.any id))) M) : ZC K (rAny K) [.d (.list (bs.map .bool))] M Q := zc_val (z := .d (.bool (bs.any id))) (fun G H vs e a => by
  obtain ⟨v, rfl, av⟩ := zall1 a
  obtain ⟨p, ws, rfl, h1, h2⟩ := dp_lst av
  rw [dza_bools h2] at h1
  exact ⟨.bl _, Dz.bl _, fun Qv hq => ⟨p, bs, rfl, Evl.ex_l e h1, hq⟩⟩) q
/-! ### dicts whose keys are rows -/
abbrev keyI (r : List Int) : List Key := r.map Sum.inl
theorem keyI_v (r : List Int) : (keyI r).map kV = r.map V.int := by
  rw [List.map_map]
  rfl
/-- what is held at a row -/
def heldP (kvs : List (List Key × PyData)) (k : List Key) : Option PyData := (kvs.find? fun kv => decide (kv.1 = k)).map (·.2)
def putP (kvs : List (List Key × PyData)) (k : List Key) (d : PyData) : List (List Key × PyData) := if (kvs.any fun kv => decide (kv.1 = k)) = true then kvs.map fun kv => if kv.1 = k then (kv.1, d) else kv else kvs ++ [(k, d)]
abbrev DPr (K : Fg) (G : Hp) : List (List Key × V) → List (List Key × PyData) → Prop := Paired (fun a b => a.1 = b.1 ∧ Dz K G a.2 b.2)
theorem held_rel {ws : List (List Key × V)} {kvs : List (List Key × PyData)} (h : DPr K G ws kvs) (k : List Key) : (heldP kvs k = none ∧ valV ws k = none) ∨ ∃ d v, heldP kvs k = some d ∧ valV ws k = some v ∧ Dz K G v d := by
  induction h with
  | nil => exact .inl ⟨rfl, rfl⟩
  | @cons a b ws kvs q _ ih =>
    unfold heldP valV at ih ⊢
    rw [List.find?_cons, List.find?_cons, ← q.1]
    by_cases e : a.1 = k
    · rw [decide_eq_true e]
      exact .inr ⟨_, _, rfl, rfl, q.2⟩
    · rw [decide_eq_false e]
      exact ih
theorem put_rel {ws : List (List Key × V)} {kvs : List (List Key × PyData)} (h : DPr K G ws kvs) (k : List Key) {v : V} {d : PyData} (a : Dz K G v d) : DPr K G (putK ws k v) (putP kvs k d) := by
  have an : (ws.any fun kv => decide (kv.1 = k)) = kvs.any fun kv => decide (kv.1 = k) := by
    induction h with
    | nil => rfl
    | cons q _ ih => rw [List.any_cons, List.any_cons, ih, q.1]
  unfold putK putP
  rw [an]
  split
  · rename_i hh
    clear an hh
    induction h with
    | nil => exact .nil
    | @cons x y ws kvs q _ ih =>
      rw [List.map_cons, List.map_cons]
      refine .cons ?_ ih
      rw [← q.1]
      split
      · exact ⟨rfl, a⟩
      · exact q
  · rename_i hh
    clear an hh
    induction h with
    | nil => exact .cons ⟨rfl, a⟩ .nil
    | cons q _ ih => exact .cons q ih
theorem dpr_len {ws : List (List Key × V)} {kvs : List (List Key × PyData)} (h : DPr K G ws kvs) : ws.length = kvs.length := paired_lens h
theorem dz_key {v : V} {i : Int} {r : List Int} (h : Dz K G v (rowD (i :: r))) : ∃ p, v = .ref p ∧ G p = some (.tup ((keyI (i :: r)).map kV)) := by
  cases h with
  | tup s a =>
    have e := dza_ints (ns := i :: r) a
    rcases s with s | ⟨_, x, l, s⟩
    · exact ⟨_, rfl, by rw [keyI_v, s, e]⟩
    · rw [e] at s
      cases s
/-- d.get(key, other) -/
theorem zw_dget2 (h : ZW K E td S M (fun z M1 => ∃ p, z = .c p ∧ (∃ b kvs, (p, b, CD.dT kvs) ∈ M1) ∧ ZW K E tk S M1 (fun y M2 => ∃ i r, y = .d (rowD (i :: r)) ∧ ZW K E tv S M2 (fun w M3 => ∃ b kvs o, w = .d o ∧ (p, b, CD.dT kvs) ∈ M3 ∧ Q (.d ((heldP kvs (keyI (i :: r))).getD o)) M3) X) X) X) :
    ZW K E (tDGet2 td tk tv) S M Q X := fun n σ G H R Qv k kx =>
  h n σ G H R _ (fun v G1 H1 z M1 e1 R1 a1 ⟨p, hz, ⟨b, kvs, hm⟩, h2⟩ => by
    subst hz
    have ev : v = .ref p := a1
    subst ev
    obtain ⟨_, ws, hw, _⟩ := R1.ce p b _ hm
    refine ⟨p, rfl, .inr ⟨ws, .inl hw⟩, h2 n σ G1 H1 R1 _ (fun y G2 H2 zy M2 e2 R2 a2 ⟨i, r, hy, h3⟩ => h3 n σ G2 H2 R2 _ (fun w G3 H3 zw M3 e3 R3 a3 ⟨b', kvs', o, hw3, hm3, q⟩ => ?_) ((kx.mono e1).mono e2)) (kx.mono e1)⟩
    subst hy hw3
    obtain ⟨c, rfl, hc⟩ := dz_key a2
    obtain ⟨_, ws', hw', rel⟩ := R3.ce p b' _ hm3
    refine ⟨_, DGet.t hw' (R3.ex _ _ (e3 _ _ hc)), ?_⟩
    have e123 := (e1.trans e2).trans e3
    rcases held_rel rel (keyI (i :: r)) with ⟨x1, x2⟩ | ⟨d, v, x1, x2, x3⟩
    · rw [x2]
      rw [x1] at q
      exact k w G3 H3 (.d o) M3 e123 R3 a3 q
    · rw [x2]
      rw [x1] at q
      exact k v G3 H3 (.d d) M3 e123 R3 x3 q) kx
/-- key in d -/
theorem zw_din (h : ZW K E tk S M (fun y M1 => ∃ i r, y = .d (rowD (i :: r)) ∧ ZW K E td S M1 (fun z M2 => ∃ p b kvs, z = .c p ∧ (p, b, CD.dT kvs) ∈ M2 ∧ Q (.d (.bool (heldP kvs (keyI (i :: r))).isSome)) M2) X) X) : ZW K E (tDIn tk td) S M Q X := fun n σ G H R Qv k kx =>
  h n σ G H R _ (fun y G1 H1 zy M1 e1 R1 a1 ⟨i, r, hy, h2⟩ => h2 n σ G1 H1 R1 _ (fun v G2 H2 z M2 e2 R2 a2 ⟨p, b, kvs, hz, hm, q⟩ => by
    subst hy hz
    have ev : v = .ref p := a2
    subst ev
    obtain ⟨c, rfl, hc⟩ := dz_key a1
    obtain ⟨_, ws, hw, rel⟩ := R2.ce p b _ hm
    refine ⟨p, _, rfl, DGet.t hw (R2.ex _ _ (e2 _ _ hc)), ?_⟩
    have same : (valV ws (keyI (i :: r))).isSome = (heldP kvs (keyI (i :: r))).isSome := by
      rcases held_rel rel (keyI (i :: r)) with ⟨x1, x2⟩ | ⟨d, v, x1, x2, _⟩ <;> rw [x1, x2] <;> rfl
    rw [same]
    exact k _ G2 H2 (.d (.bool (heldP kvs (keyI (i :: r))).isSome)) M2 (e1.trans e2) R2 (Dz.bl _) q) (kx.mono e1)) kx
theorem Rel.putD {p : Addr} {b : Bool} {xs ys : List (List Key × PyData)} {ws : List (List Key × V)} (R : Rel K n S M σ G H) (u : Upd1 p b (.dT xs) (.dT ys) M M') (h : DPr K G ws ys) : Rel K n S M' σ G (upd H p (.dT ws)) := by
  obtain ⟨_, vs, h1, _⟩ := R.ce p b _ u.mem
  exact R.put u (fun x z => by rw [h1] at z; cases z) ⟨ws, upd_same, h⟩
theorem Rel.newD {p : Addr} {ws : List (List Key × V)} {xs : List (List Key × PyData)} (R : Rel K n S M σ G H) (hp : H p = none) (h : DPr K G ws xs) : Rel K n S ((p, true, .dT xs) :: M) σ G (upd H p (.dT ws)) :=
  (R.lay hp).cell (R.fresh hp) (R.notin hp) (ex_gnone R.ex hp) ⟨ws, upd_same, h⟩
/-- dict([..]) of rows and what they hold -/
def rowsP (rows : List (List Int × PyData)) : List (List Key × PyData) := rows.foldl (fun acc r => putP acc (keyI r.1) r.2) []
theorem zc_dict {rows : List (List Int × PyData)} (h0 : ∀ r ∈ rows, r.1 ≠ []) (q : ∀ p, Q (.c p) ((p, true, .dT (rowsP rows)) :: M)) : ZC K (rDictT K) [.d (.list (rows.map fun r => .tuple [rowD r.1, r.2]))] M Q := fun n S σ G H R vs a Qv k => by
  obtain ⟨v, rfl, av⟩ := zall1 a
  obtain ⟨p, ws, rfl, h1, h2⟩ := dp_lst av
  have go : ∀ {rows : List (List Int × PyData)} {ws : List V}, (∀ r ∈ rows, r.1 ≠ []) → DzAll K G ws (rows.map fun r => .tuple [rowD r.1, r.2]) → ∃ (ts : List Addr) (rs : List (List Key × Addr × V)), ws = ts.map V.ref ∧
      Paired (fun t r => SqT K H t [.ref r.2.1, r.2.2] ∧ H r.2.1 = some (.tup (r.1.map kV))) ts rs ∧ Paired (fun (a : List Key × Addr × V) (b : List Int × PyData) => a.1 = keyI b.1 ∧ Dz K G a.2.2 b.2) rs rows := by
    intro rows
    induction rows with
    | nil => intro ws _ h; cases h; exact ⟨[], [], rfl, .nil, .nil⟩
    | cons r rows ih =>
      intro ws h0 h
      cases h with
      | cons a b =>
        obtain ⟨ts, rs, e1, e2, e3⟩ := ih (fun r hr => h0 r (List.mem_cons_of_mem _ hr)) b
        obtain ⟨t, us, rfl, u1, u2⟩ := dp_tup a
        cases u2 with
        | cons x y => cases y with
          | cons y z =>
            cases z
            obtain ⟨k, d⟩ := r
            cases k with
            | nil => exact absurd rfl (h0 _ List.mem_cons_self)
            | cons i k =>
              obtain ⟨c, rfl, hc⟩ := dz_key x
              exact ⟨t :: ts, (keyI (i :: k), c, _) :: rs, by rw [e1]; rfl, .cons ⟨Evl.ex_t R.ex u1, R.ex _ _ hc⟩ e2, .cons ⟨rfl, y⟩ e3⟩
  obtain ⟨ts, rs, e1, e2, e3⟩ := go h0 h2
  rw [e1] at h1
  refine ⟨p, ts, rs, rfl, Evl.ex_l R.ex h1, e2, fun l hl => ?_⟩
  have fold : ∀ {rs : List (List Key × Addr × V)} {rows : List (List Int × PyData)}, Paired (fun (a : List Key × Addr × V) (b : List Int × PyData) => a.1 = keyI b.1 ∧ Dz K G a.2.2 b.2) rs rows → ∀ {ws : List (List Key × V)} {kvs : List (List Key × PyData)}, DPr K G ws kvs →
      DPr K G (rs.foldl (fun acc r => putK acc r.1 r.2.2) ws) (rows.foldl (fun acc r => putP acc (keyI r.1) r.2) kvs) := by
    intro rs rows q
    induction q with
    | nil => intro ws kvs h; exact h
    | cons a _ ih =>
      intro ws kvs h
      rw [List.foldl_cons, List.foldl_cons]
      refine ih ?_
      rw [a.1]
      exact put_rel h _ a.2
  exact k (.ref l) G _ (.c l) _ (Ex.refl G) (R.newD hl (fold e3 .nil)) rfl (q l)
theorem putP_len (kvs : List (List Key × PyData)) (k : List Key) (d : PyData) : (putP kvs k d).length ≤ kvs.length + 1 := by
  unfold putP
  split <;> simp
/-! ### a def over data that hands back an own thing -/
def spE (K : Fg) (k : Nat) (R : List PyData → CD → Prop) : Sp := fun vs H Q E => ∃ (G : Hp) (ds : List PyData) (c : CD), Ex G H ∧ ds.length = k ∧ DzAll K G vs ds ∧ R ds c ∧
  ∀ p G' H', Ext [] G H G' H' → H p = none → G' p = none → CD.at K G' H' p c → Q (.ref p) H'
theorem zw_callE0 {ar : Nat} {R : List PyData → CD → Prop} (h : ZA K E tA S M (fun zs M1 => ∃ ds c, AllD zs ds ∧ ds.length = ar ∧ R ds c ∧ ∀ p, Q (.c p) ((p, true, c) :: M1)) X) : ZW K E (tCall (spE K ar R) [] E0 tA) S M Q X := fun n σ G H Rl Qv k kx =>
  h n σ G H Rl _ (fun vs G1 H1 zs M1 e1 R1 a1 ⟨ds, c, hd, hk, hR, q⟩ => by
    refine ⟨G1, ds, c, R1.ex, hk, ?_, hR, fun p G' H' e hp hg hc => ?_⟩
    · rw [List.append_nil]
      exact zall_d (by rw [← hd]; exact a1)
    · exact k (.ref p) G' H' (.c p) _ (e1.trans e.g) ((R1.call e).cell (R1.fresh hp) (R1.notin hp) hg hc) rfl (q p)) kx
end
end Z
/-! [e for .. in a tuple if test] as filter and map -/
namespace Z
open PySem PySem.Spec PyProof.Rows L2
open Evl (Ex)
section
variable {K : Fg} {E : L2.St → XK} {te ta tb : TE} {tt : TT} {g : TG} {S : Zs} {M : Ms} {Q : QZ} {X : XZ}
theorem ZT.imp {Q Q' : Bool → Ms → Prop} (h : ZT K E tt S M Q X) (i : ∀ z M', Q z M' → Q' z M') : ZT K E tt S M Q' X := fun n σ G H R Qv q x => h n σ G H R Qv (fun v G' H' M' e R' b => q v G' H' M' e R' (i _ _ b)) x
theorem take_filter {α : Type} (p : α → Bool) {l : List α} {i : Nat} {c : α} (h : l[i]? = some c) : (l.take (i + 1)).filter p = (l.take i).filter p ++ if p c then [c] else [] := by
  rw [List.take_add_one, h, List.filter_append]
  congr 1
  show List.filter p [c] = _
  rw [List.filter_cons]
  rfl
theorem lcT_fm {α : Type} {vs : List Nat} (items : List α) (enc f : α → PyData) (p : α → Bool) (h : ZW K E ta S M (fun z M1 => z = .d (.tuple (items.map enc)) ∧ items.length ≤ sizeLine ∧
      (∀ c ∈ items, ∃ is S2, (∀ j ∈ is, j ∈ vs) ∧ ZG K g (.d (enc c)) (wipeZ S vs) is S2 ∧ ∀ D acc, ZT K E tt S2 ((D, true, .lst acc) :: M1) (fun b Mb => b = p c ∧ Mb = (D, true, .lst acc) :: M1) (fun _ _ _ => False) ∧
        (p c = true → ZW K E te S2 ((D, true, .lst acc) :: M1) (fun y Mc => y = .d (f c) ∧ Mc = (D, true, .lst acc) :: M1) fun _ _ _ => False)) ∧ Q (.d (.list ((items.filter p).map f))) M1) X) : ZW K E (tLc (iTup K ta) g tt te vs) S M Q X := by
  refine zw_lcT (h.imp ?_)
  rintro z M1 ⟨hz, hl, each, q⟩
  refine ⟨_, hz, by rw [List.length_map]; exact hl, fun i acc M' => acc = ((items.take i).filter p).map f ∧ M' = M1, ⟨by simp, rfl⟩, ?_, ?_⟩
  · intro i x hx acc M' D hI
    rw [List.getElem?_map] at hx
    obtain ⟨c, hc, rfl⟩ := Option.map_eq_some_iff.mp hx
    obtain ⟨is, S2, h1, h2, h3⟩ := each c (List.mem_of_getElem? hc)
    obtain ⟨ha, hM⟩ := hI
    subst hM
    obtain ⟨h4, h5⟩ := h3 D acc
    refine ⟨is, S2, h1, h2, ZT.imp h4 ?_⟩
    rintro b Mb ⟨rfl, rfl⟩
    refine ⟨fun hb => ⟨_, rfl, ?_, rfl⟩, fun hb => (h5 hb).imp ?_⟩
    · rw [take_filter p hc, hb, ha]
      simp
    · rintro y Mc ⟨rfl, rfl⟩
      refine ⟨_, _, rfl, rfl, ?_, rfl⟩
      rw [take_filter p hc, hb, ha]
      simp
  · rintro acc M' ⟨ha, rfl⟩
    rw [List.length_map, List.take_length] at ha
    rw [ha]
    exact q
theorem lcT_map {α : Type} {vs : List Nat} (items : List α) (enc f : α → PyData) (h : ZW K E ta S M (fun z M1 => z = .d (.tuple (items.map enc)) ∧ items.length ≤ sizeLine ∧
      (∀ c ∈ items, ∃ is S2, (∀ j ∈ is, j ∈ vs) ∧ ZG K g (.d (enc c)) (wipeZ S vs) is S2 ∧ ∀ D acc, ZW K E te S2 ((D, true, .lst acc) :: M1) (fun y Mc => y = .d (f c) ∧ Mc = (D, true, .lst acc) :: M1) fun _ _ _ => False) ∧ Q (.d (.list (items.map f))) M1) X) : ZW K E (tLc (iTup K ta) g tYes te vs) S M Q X := by
  refine lcT_fm items enc f (fun _ => true) (h.imp ?_)
  rintro z M1 ⟨hz, hl, each, q⟩
  refine ⟨hz, hl, fun c hc => ?_, by rw [List.filter_eq_self.mpr (fun _ _ => rfl)]; exact q⟩
  obtain ⟨is, S2, h1, h2, h3⟩ := each c hc
  exact ⟨is, S2, h1, h2, fun D acc => ⟨zt_yes ⟨rfl, rfl⟩, fun _ => h3 D acc⟩⟩
end
end Z
namespace MB
def binL (n : Nat) : List Nat := (Nat.toDigits 2 n).map Char.toNat
theorem binL_lt {n : Nat} (h : n < 2) : binL n = [if n.testBit 0 then 49 else 48] := by
  unfold binL
  rw [Nat.toDigits_of_lt_base h]
  rcases Nat.lt_or_ge n 1 with z | z
  · have : n = 0 := by omega
    subst this; rfl
  · have : n = 1 := by omega
    subst this; rfl
theorem binL_ge {n : Nat} (h : 2 ≤ n) : binL n = binL (n / 2) ++ [if n.testBit 0 then 49 else 48] := by
  unfold binL
  rw [Nat.toDigits_of_base_le (by decide) h, List.map_append]
  congr 1
  rw [Nat.testBit_zero]
  rcases Nat.mod_two_eq_zero_or_one n with z | z <;> rw [z] <;> rfl
theorem binL_pos (n : Nat) : 0 < (binL n).length := by
  rcases Nat.lt_or_ge n 2 with h | h
  · rw [binL_lt h]; exact Nat.zero_lt_one
  · rw [binL_ge h, List.length_append]; simp
theorem binL_len (n : Nat) : (binL n).length = n.log2 + 1 := by
  induction n using Nat.strongRecOn with
  | _ n ih =>
    rcases Nat.lt_or_ge n 2 with h | h
    · have e : ¬ 2 ≤ n := by omega
      rw [binL_lt h, Nat.log2_def, if_neg e]; rfl
    · rw [binL_ge h, Nat.log2_def, if_pos h, List.length_append, ih (n / 2) (by omega)]; rfl
theorem binL_get (n : Nat) : ∀ k, k < (binL n).length → (binL n)[(binL n).length - 1 - k]? = some (if n.testBit k then 49 else 48) := by
  induction n using Nat.strongRecOn with
  | _ n ih =>
    intro k hk
    rcases Nat.lt_or_ge n 2 with h | h
    · rw [binL_lt h] at hk ⊢
      have : k = 0 := by simpa using hk
      subst this; rfl
    · rw [binL_ge h, List.length_append] at hk ⊢
      simp only [List.length_cons, List.length_nil] at hk ⊢
      have hp := binL_pos (n / 2)
      cases k with
      | zero =>
        rw [List.getElem?_append_right (by omega)]
        have : (binL (n / 2)).length + (0 + 1) - 1 - 0 - (binL (n / 2)).length = 0 := by omega
        rw [this]; rfl
      | succ k =>
        rw [List.getElem?_append_left (by omega)]
        have e : (binL (n / 2)).length + (0 + 1) - 1 - (k + 1) = (binL (n / 2)).length - 1 - k := by omega
        rw [e, ih (n / 2) (by omega) k (by omega), Nat.testBit_succ]
theorem binL_off (n k : Nat) (h : (binL n).length ≤ k) : n.testBit k = false := by
  rw [binL_len] at h
  exact Nat.testBit_lt_two_pow (Nat.lt_of_lt_of_le Nat.lt_log2_self (Nat.pow_le_pow_right (by decide) (by omega)))
theorem binL_at (n j : Nat) (h : j < (binL n).length) : (binL n)[j]? = some (if n.testBit ((binL n).length - 1 - j) then 49 else 48) := by
  have := binL_get n ((binL n).length - 1 - j) (by omega)
  have e : (binL n).length - 1 - ((binL n).length - 1 - j) = j := by omega
  rw [e] at this
  exact this
/-- the places of the ones, the greatest first, those that the text shows ahead of an index -/
def onesTo (n m : Nat) : List Nat := ((List.range m).filter fun j => n.testBit ((binL n).length - 1 - j)).map fun j => (binL n).length - 1 - j
def ones (n : Nat) : List Nat := onesTo n (binL n).length
theorem mem_ones (n k : Nat) : k ∈ ones n ↔ n.testBit k = true := by
  unfold ones onesTo
  simp only [List.mem_map, List.mem_filter, List.mem_range]
  constructor
  · rintro ⟨j, ⟨h1, h2⟩, rfl⟩; exact h2
  · intro h
    have hk : k < (binL n).length := by
      rcases Nat.lt_or_ge k (binL n).length with z | z
      · exact z
      · rw [binL_off n k z] at h; cases h
    refine ⟨(binL n).length - 1 - k, ⟨by omega, ?_⟩, by omega⟩
    have e : (binL n).length - 1 - ((binL n).length - 1 - k) = k := by omega
    rw [e]; exact h
theorem ones_nodup (n : Nat) : (ones n).Nodup := by
  unfold ones onesTo
  unfold List.Nodup
  rw [List.pairwise_map]
  have h1 : ((List.range (binL n).length).filter fun j => n.testBit ((binL n).length - 1 - j)).Nodup := (List.nodup_range).filter _
  have h2 : ∀ j ∈ (List.range (binL n).length).filter fun j => n.testBit ((binL n).length - 1 - j), j < (binL n).length := fun j hj => List.mem_range.mp (List.mem_filter.mp hj).1
  refine List.Pairwise.imp_of_mem ?_ h1
  intro a b ha hb hab e
  have := h2 a ha
  have := h2 b hb
  exact hab (by omega)
theorem onesTo_step_no {n m k : Nat} (hm : m ≤ k) (h : ∀ j, m ≤ j → j < k → n.testBit ((binL n).length - 1 - j) = false) : onesTo n k = onesTo n m := by
  obtain ⟨d, rfl⟩ := Nat.exists_eq_add_of_le hm
  clear hm
  induction d with
  | zero => rfl
  | succ d ih =>
    have := ih (fun j h1 h2 => h j h1 (by omega))
    rw [← this]
    unfold onesTo
    rw [← Nat.add_assoc, List.range_succ, List.filter_append, List.map_append]
    simp [h (m + d) (by omega) (by omega)]
theorem onesTo_succ {n m : Nat} (h : n.testBit ((binL n).length - 1 - m) = true) : onesTo n (m + 1) = onesTo n m ++ [(binL n).length - 1 - m] := by
  unfold onesTo
  rw [List.range_succ, List.filter_append, List.map_append]
  simp [h]
theorem ones_count (n : Nat) : (ones n).length = (binL n).count 49 := by
  have key : ∀ m, m ≤ (binL n).length → (onesTo n m).length = ((binL n).take m).count 49 := by
    intro m
    induction m with
    | zero => intro _; rfl
    | succ m ih =>
      intro h
      have hg := binL_at n m (by omega)
      have e : (binL n).take (m + 1) = (binL n).take m ++ [if n.testBit ((binL n).length - 1 - m) then 49 else 48] := by
        rw [List.take_succ, hg]; rfl
      rw [e, List.count_append, ← ih (by omega)]
      cases z : n.testBit ((binL n).length - 1 - m) with
      | true => rw [onesTo_succ z, List.length_append]; rfl
      | false => rw [onesTo_step_no (Nat.le_succ m) (fun j h1 h2 => (show j = m by omega) ▸ z)]; rfl
  have := key _ (Nat.le_refl _)
  rw [List.take_length] at this
  exact this
/-- ^ of numbers -/
theorem or_parts (a : Nat) : ∀ b, (a ||| b) = (a ^^^ b) + (a &&& b) := by
  induction a using Nat.strongRecOn with
  | _ a ih =>
    intro b
    rcases Nat.eq_zero_or_pos a with z | z
    · subst z; simp
    · have h := ih (a / 2) (by omega) (b / 2)
      have d1 := @Nat.or_div_two a b
      have d2 := @Nat.xor_div_two a b
      have d3 := @Nat.and_div_two a b
      have m : (a ||| b) % 2 = (a ^^^ b) % 2 + (a &&& b) % 2 := by
        have t1 : ((a ||| b) % 2 = 1) ↔ (a.testBit 0 || b.testBit 0) = true := by rw [← Nat.testBit_or, Nat.testBit_zero, decide_eq_true_iff]
        have t2 : ((a ^^^ b) % 2 = 1) ↔ (a.testBit 0 ^^ b.testBit 0) = true := by rw [← Nat.testBit_xor, Nat.testBit_zero, decide_eq_true_iff]
        have t3 : ((a &&& b) % 2 = 1) ↔ (a.testBit 0 && b.testBit 0) = true := by rw [← Nat.testBit_and, Nat.testBit_zero, decide_eq_true_iff]
        have l1 := Nat.mod_two_eq_zero_or_one (a ||| b)
        have l2 := Nat.mod_two_eq_zero_or_one (a ^^^ b)
        have l3 := Nat.mod_two_eq_zero_or_one (a &&& b)
        generalize (a ||| b) % 2 = p at *
        generalize (a ^^^ b) % 2 = q at *
        generalize (a &&& b) % 2 = r at *
        cases x : a.testBit 0 <;> cases y : b.testBit 0 <;> rw [x, y] at t1 t2 t3 <;> simp only [Bool.or_true, Bool.or_false, Bool.xor_true, Bool.xor_false, Bool.and_true, Bool.and_false, Bool.not_true, Bool.not_false, Bool.false_eq_true, iff_true, iff_false] at t1 t2 t3 <;> omega
      rw [← d1, ← d2, ← d3] at h
      have m1 := Nat.div_add_mod (a ||| b) 2
      have m2 := Nat.div_add_mod (a ^^^ b) 2
      have m3 := Nat.div_add_mod (a &&& b) 2
      omega
end MB
namespace MB
/-! a floor as bits: what a step of planes is -/
/-! ### the rule -/
def nextS (births stays : List Nat) (states : Int) (c : Int) (n : Nat) : Int :=
  if c = 0 then (if n ∈ births then 1 else 0) else if c = 1 ∧ n ∈ stays then 1 else if c + 1 < states then c + 1 else 0
abbrev Fl := Int → Int → Int
def liv (f : Fl) (x y : Int) : Nat := if f x y = 1 then 1 else 0
/-- the living ones among the eight places around one -/
def nb (f : Fl) (x y : Int) : Nat := liv f (x - 1) (y - 1) + liv f (x - 1) y + liv f (x - 1) (y + 1) + liv f x (y - 1) + liv f x (y + 1) + liv f (x + 1) (y - 1) + liv f (x + 1) y + liv f (x + 1) (y + 1)
def next (births stays : List Nat) (states : Int) (f : Fl) : Fl := fun x y => nextS births stays states (f x y) (nb f x y)
section
variable {f : Fl} {l t : Int} {W H m : Nat} {P : List Nat}
theorem liv_zero {x y : Int} (h : f x y = 0) : liv f x y = 0 := by unfold liv; rw [if_neg (by rw [h]; decide)]
theorem next_sup {births stays : List Nat} {states : Int} (h0 : 0 ∉ births) (sup : ∀ x y, f x y ≠ 0 → l + (m + 1 : Nat) ≤ x ∧ x + (m + 1 : Nat) < l + W ∧ t + (m + 1 : Nat) ≤ y ∧ y + (m + 1 : Nat) < t + H) :
    ∀ x y, next births stays states f x y ≠ 0 → l + m ≤ x ∧ x + m < l + W ∧ t + m ≤ y ∧ y + m < t + H := by
  intro x y h
  by_cases z : f x y = 0
  · have : nb f x y ≠ 0 := by
      intro e
      apply h
      unfold next nextS
      rw [if_pos z, e, if_neg h0]
    have key : ∀ a b, liv f a b ≠ 0 → f a b ≠ 0 := fun a b q e => q (liv_zero e)
    by_cases p1 : liv f (x - 1) (y - 1) = 0
    · by_cases p2 : liv f (x - 1) y = 0
      · by_cases p3 : liv f (x - 1) (y + 1) = 0
        · by_cases p4 : liv f x (y - 1) = 0
          · by_cases p5 : liv f x (y + 1) = 0
            · by_cases p6 : liv f (x + 1) (y - 1) = 0
              · by_cases p7 : liv f (x + 1) y = 0
                · by_cases p8 : liv f (x + 1) (y + 1) = 0
                  · exact absurd (by unfold nb; omega) this
                  · have := sup _ _ (key _ _ p8); omega
                · have := sup _ _ (key _ _ p7); omega
              · have := sup _ _ (key _ _ p6); omega
            · have := sup _ _ (key _ _ p5); omega
          · have := sup _ _ (key _ _ p4); omega
        · have := sup _ _ (key _ _ p3); omega
      · have := sup _ _ (key _ _ p2); omega
    · have := sup _ _ (key _ _ p1); omega
  · have := sup x y z
    omega
end
end MB
/-! f'{n:b}' of a number from nought, and the ones in that text -/
namespace Z
open PySem PySem.Spec PyProof.Rows L2
open Evl (Ex)
open MB (binL)
/-- a number's figures in twos, the greatest first -/
def binS (n : Nat) : Str := ⟨(binL n).toArray⟩
def specB : Str := "b"
theorem cut_int {P : Program} {w : World} {A : Around} {E : Value → Shared → Prop} {s : Shared} {n : Nat} {a : Int} {t : Tok} {Q : String → Shared → Prop} (h : Q "int" s) : wpAny (model P w) A (typeNameOfCut n (.int a t)) Q E s :=
  wpAny_typeNameOfCut_int h
theorem parseB (name : String) : Builtin.Float.parseFormatSpec specB.cps.toList name 62 = .ok { align := 62, type := some 98 } := by
  rfl
section
open Builtin Builtin.Int
theorem gives_cut {a : Int} {t : Tok} {n : Nat} {k : String → Sem Fin} {m : Made} (g : ∀ x, Gives (k x) m) : Gives (do let x ← typeNameOfCut n (.int a t); k x) m :=
  fun _ _ _ _ _ hq => wpAny_bind (cut_int (g _ _ _ _ _ _ hq))
theorem tyne : (Value.type "str" == Value.type "builtin_function_or_method") = false := by decide +kernel
def digsB (n : Nat) : List Nat := (Nat.toDigits 2 n).map fun c => (if (98 : Nat) == 88 then c.toUpper else c).toNat
theorem field_bin (n : Nat) : intField' { align := 62, type := some 98 } (decide ((n : Int) < 0)) [] (digsB n) [] 4 = binS n := by
  have e : decide ((n : Int) < 0) = false := decide_eq_false (by omega)
  have hd : digsB n = binL n := rfl
  rw [e, hd]
  unfold intField' binS
  simp
theorem gives_bin (n : Nat) (t u : Tok) : Gives («int.__format__» ⟨[.int (n : Int) t, .str specB u], []⟩) (.str (binS n)) := by
  unfold «int.__format__»
  simp only [selfAndOne, noKeywords, intOfSelf, asInt?, asStr?, List.isEmpty_nil, if_true, pure_bind, bind_pure, bind_assoc]
  have h1 : (Value.str specB u == Value.none) = false := rfl
  have h2 : (specB.length == 0) = false := by decide
  have h3 : (((List.drop 1 specB.cps.toList).any fun x => decide (x ≥ 128)) || decide (specB.cps.getD 0 0 ≥ 128) && ![60, 62, 61, 94].contains (specB.cps.getD 1 0)) = false := by decide
  have h4 : (some 98).getD (if (specB.cps.back? == some 0) = true then 0 else 100) = 98 := rfl
  simp (decide := true) only [h1, h2, h3, parseB, Bool.false_eq_true, if_false, h4, if_true]
  have ty : ∀ s : Shared, s.TypeIs (Value.str specB u) "str" := fun s => typeIs_str s _ _
  refine gives_after_typeNameOf (v := Value.str specB u) ty tyne fun _ => ?_
  refine gives_cut (a := (n : Int)) (t := t) (n := 200) fun _ => ?_
  show Gives (retStr (intField' { align := 62, type := some 98 } (decide ((n : Int) < 0)) [] (digsB n) [] 4)) _
  rw [field_bin]
  exact .of_eq rfl
end
/-- f'{e:b}' of a number from nought -/
def tFmtB (te : TE) : TE := fun σ H Q => te σ H fun x H1 => ∃ n : Nat, x = .int (n : Int) ∧ (binS n).length ≤ sizeLine ∧ Q (.str (binS n)) H1
theorem pe_fmtB {X : Cx} {e sp : Expr} {te : TE} {pos : Pos} (he : PE X e te) (hs : PE X sp (tC (.str specB))) : PE X (.FormattedValue e (-1) (some sp) pos) (tFmtB te) := by
  refine ⟨fun pins s σ H Q I h => ?_⟩
  refine wpAny_FormattedValue_spec (thn (he.run pins s σ H _ I h) fun v s1 hv => ?_)
  obtain ⟨x, H1, I1, r1, n, rfl, hz, q⟩ := hv
  obtain ⟨t, rfl⟩ := r1
  refine thn (hs.run pins s1 σ H1 (fun y H2 => y = .str specB ∧ Q (.str (binS n)) H2) I1 ⟨rfl, q⟩) fun r s2 hr => ?_
  obtain ⟨y, H2, I2, r2, rfl, q2⟩ := hr
  obtain ⟨t2, rfl⟩ := r2
  exact ⟨specB, t2, rfl, wpAny_formatField_spec (by decide) (fun s' => typeIs_int s' _ _) PySem.F.slot_int_format PySem.F.entry_int_format PySem.F.args_int_format_2 (fun u => gives_bin n _ u) ⟨.str (binS n), H2, I2.tok _, ⟨_, rfl⟩, q2⟩ (by decide) hz⟩
section
variable {K : Fg} {E : L2.St → XK} {te : TE} {tA : TA} {S : Zs} {M : Ms} {Q : QZ} {X : XZ}
theorem zw_fmtB (h : ZW K E te S M (fun z M1 => ∃ n : Nat, z = .d (.int (n : Int)) ∧ (binS n).length ≤ sizeLine ∧ Q (.d (.str (binS n))) M1) X) : ZW K E (tFmtB te) S M Q X := fun n σ G H R Qv k kx =>
  h n σ G H R _ (fun v G1 H1 z M1 e1 R1 a1 ⟨m, hz, hl, q⟩ => by
    subst hz
    exact ⟨m, dp_int a1, hl, k _ G1 H1 (.d (.str (binS m))) M1 e1 R1 (.str _) q⟩) kx
end
/-! ### numbers from nought, bit by bit -/
theorem band_nat (a b : Nat) : Builtin.bitAnd (a : Int) (b : Int) = ((a &&& b : Nat) : Int) := PySem.W.os_band a b
theorem bor_nat (a b : Nat) : Builtin.bitOr (a : Int) (b : Int) = ((a ||| b : Nat) : Int) := by
  rw [bitOr_nn (Int.natCast_nonneg a) (Int.natCast_nonneg b), Int.toNat_natCast, Int.toNat_natCast]
end Z
/-! numbers from nought, bit by bit; divmod; find and count of one sign; row[i] |= e; a list's sum; lists joined -/
namespace Z
open PySem PySem.Spec PyProof.Rows L2
open Evl (Ex)
open MB (binL)
theorem bxor_nat (a b : Nat) : Builtin.bitXor (a : Int) (b : Int) = ((a ^^^ b : Nat) : Int) := by
  show Builtin.bitOr (a : Int) (b : Int) - Builtin.bitAnd (a : Int) (b : Int) = _
  rw [bor_nat, band_nat, MB.or_parts]
  omega
theorem shl_nat (a k : Nat) : (a : Int) * 2 ^ ((k : Int).toNat) = ((a <<< k : Nat) : Int) := by
  rw [Int.toNat_natCast, Nat.shiftLeft_eq]
  simp
theorem shr_nat (a k : Nat) : (a : Int) / 2 ^ ((k : Int).toNat) = ((a >>> k : Nat) : Int) := by
  rw [Int.toNat_natCast, Nat.shiftRight_eq_div_pow]
  simp
theorem divp_small {i j : Int} (hj : 0 < j) (hi : i.natAbs < 2 ^ 4000) : CDivP i j := divp_ok hj (Nat.le_trans (PyProof.Rows.intBits_le hi) (Nat.le_add_left _ _))
theorem ip_or {X : Cx} : PIp X .BitOr (ipI fun i j => Builtin.bitOr i j) := fun pins s σ H x y v u Q I r1 r2 h => iop_or pins s σ H x y v u Q I r1 r2 h
abbrev rGetL (K : Fg) : V → V → Hp → VK → Prop := fun o i H Q => ∃ p xs k x, o = .ref p ∧ i = .int ((k : Nat) : Int) ∧ SqL K H p xs ∧ xs[k]? = some x ∧ Q x H
theorem get_list {X : Cx} : PGet X (rGetL X.K) := by
  intro pins s σ H o i ov iv Q I ro ri h
  obtain ⟨p, xs, k, x, rfl, rfl, hq, hx, q⟩ := h
  cases ro
  obtain ⟨t, rfl⟩ := ri
  obtain ⟨its, r, pl, hz⟩ := I.list hq
  obtain ⟨w, ew, rw'⟩ := r.get hx
  have hk := (List.getElem?_eq_some_iff.mp hx).1
  have hn := line63
  exact getItem_listL pl.isList (Int.natCast_nonneg _) (by omega) (by rw [Int.toNat_natCast]; exact ew) ⟨x, H, I, rw', q⟩
abbrev rDivm : List V → Hp → VK → Prop := fun xs H Q => ∃ i j, xs = [.int i, .int j] ∧ CDivP i j ∧ ∀ p, H p = none → Q (.ref p) (upd H p (.tup [.int (i / j), .int (i % j)]))
abbrev rStr1 (f : Str → Str → Int) : V → List V → Hp → VK → Prop := fun x xs H Q => ∃ a b, x = .str a ∧ xs = [.str b] ∧ Q (.int (f a b)) H
abbrev rStr2 (f : Str → Str → Int → Int) : V → List V → Hp → VK → Prop := fun x xs H Q => ∃ a b i, x = .str a ∧ xs = [.str b, .int i] ∧ Q (.int (f a b i)) H
theorem bb_divmod : bootBuiltins "divmod" = some (.builtin "divmod") := by decide +kernel
section
variable {K : Fg} {E : L2.St → XK} {te to ti : TE} {tA : TA} {t : TS} {S : Zs} {M M' : Ms} {Q : QZ} {X : XZ} {P : ZP} {n : Sn} {σ : L2.St} {G H : Hp}
theorem zo_band {a b : Nat} (q : Q (.d (.int ((a &&& b : Nat) : Int))) M) : ZO K (rI0 fun i j => .int (Builtin.bitAnd i j)) (.d (.int (a : Int))) (.d (.int (b : Int))) M Q := zo_I0 (gd := fun i j => .int (Builtin.bitAnd i j)) (fun _ => .int _) (by rw [band_nat]; exact q)
theorem zo_bor {a b : Nat} (q : Q (.d (.int ((a ||| b : Nat) : Int))) M) : ZO K (rI0 fun i j => .int (Builtin.bitOr i j)) (.d (.int (a : Int))) (.d (.int (b : Int))) M Q := zo_I0 (gd := fun i j => .int (Builtin.bitOr i j)) (fun _ => .int _) (by rw [bor_nat]; exact q)
theorem zo_bxor {a b : Nat} (q : Q (.d (.int ((a ^^^ b : Nat) : Int))) M) : ZO K (rI0 fun i j => .int (Builtin.bitXor i j)) (.d (.int (a : Int))) (.d (.int (b : Int))) M Q := zo_I0 (gd := fun i j => .int (Builtin.bitXor i j)) (fun _ => .int _) (by rw [bxor_nat]; exact q)
theorem zo_shlN {a k : Nat} (hc : CShl (a : Int) (k : Int)) (q : Q (.d (.int ((a <<< k : Nat) : Int))) M) : ZO K (rI CShl fun i j => .int (i * 2 ^ j.toNat)) (.d (.int (a : Int))) (.d (.int (k : Int))) M Q := zo_I (gd := fun i j => .int (i * 2 ^ j.toNat)) (fun _ => .int _) hc (by rw [shl_nat]; exact q)
theorem zo_shrN {a k : Nat} (q : Q (.d (.int ((a >>> k : Nat) : Int))) M) : ZO K (rI (fun _ j => 0 ≤ j) fun i j => .int (i / 2 ^ j.toNat)) (.d (.int (a : Int))) (.d (.int (k : Int))) M Q := zo_I (C := fun _ j => 0 ≤ j) (gd := fun i j => .int (i / 2 ^ j.toNat)) (fun _ => .int _) (Int.natCast_nonneg k) (by rw [shr_nat]; exact q)
theorem zc_divmod {i j : Int} (hc : CDivP i j) (q : Q (.d (.tuple [.int (i / j), .int (i % j)])) M) : ZC K rDivm [.d (.int i), .d (.int j)] M Q := fun n S σ G H R vs a Qv k => by
  obtain ⟨v, u, rfl, av, au⟩ := zall2 a
  refine ⟨i, j, by rw [dp_int av, dp_int au], hc, fun p hp => ?_⟩
  have g := ex_gnone R.ex hp
  exact k (.ref p) _ _ (.d (.tuple [.int (i / j), .int (i % j)])) M (Ex.new g) (R.new hp (fun _ z => nomatch z)) (.tup (.inl upd_same) (.cons (.int _) (.cons (.int _) .nil))) q
/-- a text's method -/
theorem zw_bmS {r : V → List V → Hp → VK → Prop} (h : ZW K E to S M (fun z M0 => ∃ s, z = .d (.str s) ∧ ZA K E tA S M0 (fun zs M1 => ZM K r (.d (.str s)) zs M1 Q) X) X) : ZW K E (tBM K "str" r to tA) S M Q X := fun n σ G H R Qv k kx =>
  h n σ G H R _ (fun v G0 H0 z M0 e0 R0 a0 ⟨s, hz, h2⟩ => by
    subst hz
    have ev := dp_str a0
    subst ev
    refine ⟨rfl, h2 n σ G0 H0 R0 _ (fun vs G1 H1 zs M1 e1 R1 a1 h3 => ?_) (kx.mono e0)⟩
    exact h3 n S σ G1 H1 R1 (.str s) vs (.str s) a1 Qv fun w G' H' z M' e' R' a' q => k w G' H' z M' ((e0.trans e1).trans e') R' a' q) kx
theorem zm_str1 {f : Str → Str → Int} {a b : Str} (q : Q (.d (.int (f a b))) M) : ZM K (rStr1 f) (.d (.str a)) [.d (.str b)] M Q := fun n S σ G H R v vs av au Qv k => by
  obtain ⟨u, rfl, au2⟩ := zall1 au
  exact ⟨a, b, dp_str av, by rw [dp_str au2], k _ G H (.d (.int (f a b))) M (Ex.refl G) R (.int _) q⟩
theorem zm_str2 {f : Str → Str → Int → Int} {a b : Str} {i : Int} (q : Q (.d (.int (f a b i))) M) : ZM K (rStr2 f) (.d (.str a)) [.d (.str b), .d (.int i)] M Q := fun n S σ G H R v vs av au Qv k => by
  obtain ⟨u, w, rfl, au2, aw⟩ := zall2 au
  exact ⟨a, b, i, dp_str av, by rw [dp_str au2, dp_int aw], k _ G H (.d (.int (f a b i))) M (Ex.refl G) R (.int _) q⟩
/-- x |= e -/
theorem zs_augOr {i a : Nat} (hs : S[i]? = some (some (.d (.int (a : Int))))) (h : ZW K E te S M (fun z M1 => ∃ b : Nat, z = .d (.int (b : Int)) ∧ P.nx (S.set i (some (.d (.int ((a ||| b : Nat) : Int))))) M1) P.ex) : ZS K E (tAug i te (ipI fun i j => Builtin.bitOr i j)) S M P :=
  zs_aug hs (fun n σ G H R Qv k kx => h n σ G H R Qv (fun v G' H' z M' e R' a' ⟨b, hz, q⟩ => k v G' H' z M' e R' a' ⟨b, hz, by rw [bor_nat]; exact q⟩) kx)
/-- row[i] op= e, an own list of numbers -/
theorem zs_augL {f : Int → Int → Int} (h : ZW K E to S M (fun o M1 => ZW K E ti S M1 (fun y M2 => ∃ p b xs k a, o = .c p ∧ y = .d (.int ((k : Nat) : Int)) ∧ (p, b, CD.lst xs) ∈ M2 ∧ xs[k]? = some (PyData.int a) ∧ ZW K E te S M2 (fun z M3 => ∃ j b' ys M4, z = .d (.int j) ∧ Upd1 p b' (.lst ys) (.lst (ys.set k (.int (f a j)))) M3 M4 ∧ k < ys.length ∧ P.nx S M4) P.ex) P.ex) P.ex) :
    ZS K E (tAugS to ti te (rGetL K) (ipI f) rSetL) S M P := fun n σ G H R D k =>
  h n σ G H R _ (fun v G1 H1 o M1 e1 R1 a1 h1 => h1 n σ G1 H1 R1 _ (fun u G2 H2 y M2 e2 R2 a2 ⟨p, b, xs, kk, a, ho, hy, hm, hx, h2⟩ => by
    subst ho hy
    have ev : v = .ref p := a1
    subst ev
    have eu := dp_int a2
    subst eu
    obtain ⟨_, ws, h3, h4⟩ := R2.ce p b _ hm
    obtain ⟨x, hx1, hx2⟩ := dpa_get h4 hx
    refine ⟨p, ws, kk, x, rfl, rfl, Evl.sq_of h3, hx1, ?_⟩
    refine h2 n σ G2 H2 R2 _ (fun w G3 H3 z M3 e3 R3 a3 ⟨j, b', ys, M4, hz, hu, hl, q⟩ => ?_) (XOk.mono k.xok (e1.trans e2))
    subst hz
    obtain ⟨_, ws3, h5, h6⟩ := R3.ce p b' _ hu.mem
    refine ⟨a, j, dp_int hx2, dp_int a3, p, ws3, (kk : Int), kk, rfl, rfl, h5, ?_, ?_⟩
    · unfold ixN
      rw [dpa_len h6, if_pos (Int.natCast_nonneg _), if_pos (by omega), Int.toNat_natCast]
    · exact k.nx _ G3 _ S M4 ((e1.trans e2).trans e3) (R3.putLst hu (dpa_set (.int _) kk h6)) q) (XOk.mono k.xok e1)) k.xok
theorem zc_sum {ns : List Int} (q : Q (.d (.int ns.sum)) M) : ZC K (rSum K) [.d (.list (ns.map .int))] M Q := zc_val (z := .d (.int ns.sum)) (fun G H vs e a => by
  obtain ⟨v, rfl, av⟩ := zall1 a
  obtain ⟨p, ws, rfl, h1, h2⟩ := dp_lst av
  exact ⟨_, .int _, fun Qv h => ⟨p, ns, rfl, by rw [← dza_ints h2]; exact Evl.ex_l e h1, h⟩⟩) q
end
end Z
/-! own cells seen anew, frozen within a field; fields as targets; an object with one own part -/
namespace Z
open PySem PySem.Spec PyProof.Rows L2
open Evl (Ex)
section
variable {K : Fg} {n : Sn} {S S' : Zs} {M M' M1 M2 : Ms} {σ σ' : L2.St} {G G' H H' : Hp} {p q C : Addr} {b : Bool} {c c' : CD}
theorem Rel.perm (R : Rel K n S M σ G H) (h : M.Perm M') : Rel K n S M' σ G H :=
  ⟨R.ex, R.len, R.sl, (h.map _).nodup_iff.mp R.nd, fun p b c q => R.ce p b c (h.mem_iff.mpr q), R.g0, R.h0, R.lv, R.f0, fun p c q => R.a0 p c (h.mem_iff.mpr q), fun p c q => R.o0 p c (h.mem_iff.mpr q)⟩
end
section
variable {K : Fg} {E : L2.St → XK} {e0 : XK} {te to : TE} {tA : TA} {t : TS} {S S' : Zs} {M M' M1 M2 : Ms} {Q : QZ} {X : XZ} {P : ZP} {n : Sn} {σ σ' : L2.St} {G G' H H' : Hp} {p q C : Addr} {b : Bool}
/-! ### targets that may be fields -/
def ZH (K : Fg) (g : TG) (x : ZV) (S : Zs) (M : Ms) (N : Zs → Ms → Prop) : Prop := ∀ (n : Sn) (σ : L2.St) (G H : Hp) (v : V), Rel K n S M σ G H → ZV.at K G v x → ∀ Qv : L2.St → Hp → Prop,
  (∀ σ' G' H' S' M', Ex G G' → Rel K n S' M' σ' G' H' → N S' M' → Qv σ' H') → g v σ H Qv
def gFld (K : Fg) (to : TE) (f : Str) : TG := fun v σ H Q => to σ H fun x H1 => ∃ a C dx fs, x = .ref a ∧ H1 a = some (.ins C dx fs) ∧ Cls K C ∧ NoAttr K C f ∧ fs.length < 1000 ∧ Q σ (upd H1 a (.ins C dx (putF f v fs)))
theorem zs_asgH {g : TG} (h : ZW K E te S M (fun z M1 => ZH K g z S M1 P.nx) P.ex) : ZS K E (tAsg te g) S M P := fun n σ G H R D k =>
  h n σ G H R _ (fun v G1 H1 z M1 e1 R1 a1 h2 => h2 n σ G1 H1 v R1 a1 _ fun σ' G' H' S' M' e R' q => k.nx σ' G' H' S' M' (e1.trans e) R' q) k.xok
theorem zs_asgF {f : Str} {gs : TGs} {k : Nat} (h : ZW K E te S M (fun z M1 => ZH K (gTup K k (gCons (gFld K to f) gs)) z S M1 P.nx) P.ex) : ZS K E (tAsg te (gTup K k (gCons (gFld K to f) gs))) S M P := zs_asgH h
end
end Z
/-! an object with one own part, made by a def, changed by its methods -/
namespace Z
open PySem PySem.Spec PyProof.Rows L2
open Evl (Ex)
abbrev FsF := Addr → List (Str × ZV)
/-- two entries of the cells -/
def Two (x y : Addr × Bool × CD) (M : Ms) : Prop := [x, y].Sublist M ∨ [y, x].Sublist M
theorem Two.ne {x y : Addr × Bool × CD} {M : Ms} (h : Two x y M) (nd : (M.map (·.1)).Nodup) : x.1 ≠ y.1 ∧ x ∈ M ∧ y ∈ M := by
  rcases h with h | h
  · have := nd.sublist (h.map _)
    refine ⟨fun e => ?_, h.subset (by simp), h.subset (by simp)⟩
    rw [List.map_cons, List.nodup_cons] at this
    exact this.1 (by rw [e]; simp)
  · have := nd.sublist (h.map _)
    refine ⟨fun e => ?_, h.subset (by simp), h.subset (by simp)⟩
    rw [List.map_cons, List.nodup_cons] at this
    exact this.1 (by rw [← e]; simp)
/-- __init__: the object's fields, its own part -/
def spI (K : Fg) (C : Addr) (k : Nat) (R : List PyData → FsF → CD → Prop) : Sp := fun vs H Q E => ∃ (G : Hp) (p : Addr) (us : List V) (ds : List PyData) (fs : FsF) (cd : CD), vs = .ref p :: us ∧ ds.length = k ∧ Ex G H ∧ G p = none ∧ CD.at K G H p (.obj C []) ∧ DzAll K G us ds ∧ R ds fs cd ∧
  ∀ q G' H', Ext [p] G H G' H' → (∀ a x, H a = some (.own x) → H' a = some (.own x)) → H q = none → G' q = none → q ≠ p → CD.at K G' H' p (.obj C (fs q)) → CD.at K G' H' q cd → Q .non H'
/-- a method of such an object; nothing is raised -/
def spF (K : Fg) (C : Addr) (k : Nat) (R : FsF → CD → List PyData → PyData → FsF → CD → Prop) : Sp := fun vs H Q E => ∃ (G : Hp) (p q : Addr) (fs : FsF) (cd : CD) (us : List V) (ds : List PyData) (d : PyData) (fs' : FsF) (cd' : CD), vs = .ref p :: us ∧ ds.length = k ∧ Ex G H ∧ p ≠ q ∧ G p = none ∧ G q = none ∧ CD.at K G H p (.obj C (fs q)) ∧ CD.at K G H q cd ∧ DzAll K G us ds ∧ R fs cd ds d fs' cd' ∧
  ∀ v q' G' H', Ext [p, q] G H G' H' → (∀ a x, H a = some (.own x) → H' a = some (.own x)) → (q' = q ∨ H q' = none) → q' ≠ p → G' q' = none → CD.at K G' H' p (.obj C (fs' q')) → CD.at K G' H' q' cd' → Dz K G' v d → Q v H'
section
variable {K : Fg} {E : L2.St → XK} {e0 : XK} {te : TE} {tA : TA} {t : TS} {S : Zs} {M M2 : Ms} {Q : QZ} {X : XZ} {n : Sn} {σ : L2.St} {G G' H H' : Hp} {p q q' C : Addr}
/-- C(..) -/
theorem zw_makeI {ar : Nat} {R : List PyData → FsF → CD → Prop} (h : ZA K E tA S M (fun zs M1 => ∃ ds fs cd, AllD zs ds ∧ ds.length = ar ∧ R ds fs cd ∧ ∀ p q, Q (.c p) ((p, true, .obj C (fs q)) :: (q, true, cd) :: M1)) X) : ZW K E (tMake C (spI K C ar R) [] E0 tA) S M Q X := fun n σ G H Rl Qv k kx =>
  h n σ G H Rl _ (fun vs G1 H1 zs M1 e1 R1 a1 ⟨ds, fs, cd, hd, hk, hR, qf⟩ x dx hx hdx hne => by
    have R2 := R1.lay (p := dx) (o := .own x) hdx
    have hx2 : (upd H1 dx (.own x)) x = none := by rw [upd_ne (Ne.symm hne)]; exact hx
    have R3 := R2.lay (p := x) (o := .ins C dx []) hx2
    have gdx := ex_gnone R1.ex hdx
    have hown : (upd (upd H1 dx (.own x)) x (.ins C dx [])) dx = some (.own x) := by rw [upd_ne hne, upd_same]
    have hc : CD.at K G1 (upd (upd H1 dx (.own x)) x (.ins C dx [])) x (.obj C []) := ⟨dx, [], upd_same, hown, gdx, .nil⟩
    have R4 := R3.cell (R1.fresh hx) (R1.notin hx) (ex_gnone R1.ex hx) hc
    refine ⟨G1, x, vs, ds, fs, cd, by rw [List.append_nil], hk, R4.ex, ex_gnone R1.ex hx, hc, zall_d (by rw [← hd]; exact a1), hR, fun q G' H' e own hq gq neq h1 h2 => ⟨rfl, ?_⟩⟩
    have R5 := R4.call1 e .here own h1
    have nq : q ∉ ((x, true, CD.obj C (fs q)) :: M1).map (·.1) := fun hm => by
      rcases List.mem_cons.mp hm with z | z
      · exact neq z
      · exact R4.notin hq (List.mem_cons_of_mem _ z)
    have R6 := R5.cell (R4.fresh hq) nq gq h2
    exact k (.ref x) G' H' (.c x) _ (e1.trans e.g) (R6.perm (List.Perm.swap _ _ _)) rfl (qf x q)) kx
theorem Rel.call2 {c d c' d' : CD} (R : Rel K n S ((p, true, c) :: (q, true, d) :: M) σ G H) (e : Ext [p, q] G H G' H') (own : ∀ a x, H a = some (.own x) → H' a = some (.own x)) (fr : q' = q ∨ H q' = none) (ne : q' ≠ p) (gq : G' q' = none)
    (h1 : CD.at K G' H' p c') (h2 : CD.at K G' H' q' d') : Rel K n S ((p, true, c') :: (q', true, d') :: M) σ G' H' := by
  have mp : (p, true, c) ∈ (p, true, c) :: (q, true, d) :: M := List.mem_cons_self
  have mq : (q, true, d) ∈ (p, true, c) :: (q, true, d) :: M := List.mem_cons_of_mem _ List.mem_cons_self
  have mM : ∀ x, x ∈ M → x ∈ (p, true, c) :: (q, true, d) :: M := fun x h => List.mem_cons_of_mem _ (List.mem_cons_of_mem _ h)
  have nd := R.nd
  rw [List.map_cons, List.map_cons, List.nodup_cons, List.nodup_cons] at nd
  obtain ⟨n1, n2, n3⟩ := nd
  have off : ∀ r b x, (r, b, x) ∈ M → r ∉ [p, q] := fun r b x h z => by
    have hr : r ∈ M.map (·.1) := List.mem_map.mpr ⟨_, h, rfl⟩
    rcases List.mem_cons.mp z with z | z
    · subst z; exact n1 (List.mem_cons_of_mem _ hr)
    · have z : r = q := by simpa using z
      subst z; exact n2 hr
  have base : ∀ a o, n.H a = some o → a ∉ [p, q] := fun a o h z => by
    rcases List.mem_cons.mp z with z | z
    · rw [z, R.o0 p _ mp] at h; cases h
    · have z : a = q := by simpa using z
      rw [z, R.o0 q _ mq] at h; cases h
  have nq : n.H q' = none := by
    rcases fr with z | z
    · rw [z]; exact R.o0 q _ mq
    · exact R.fresh z
  refine ⟨e.x, R.len, fun i z hz => ?_, ?_, fun r b x hm => ?_, R.g0.trans e.g, fun a o h1 h2 => e.h a o (R.h0 a o h1 h2) (base a o h1), fun a o h1 => ?_, fun a o h1 h2 => ?_, fun r x hm => ?_, fun r x hm => ?_⟩
  · obtain ⟨v, q1, q2⟩ := R.sl i z hz
    exact ⟨v, q1, ZV.mono e.g q2⟩
  · rw [List.map_cons, List.map_cons, List.nodup_cons, List.nodup_cons]
    have f1 : q' ∉ M.map (·.1) := by
      rcases fr with z | z
      · rw [z]; exact n2
      · intro hm
        exact R.notin z (List.mem_cons_of_mem _ (List.mem_cons_of_mem _ hm))
    refine ⟨fun hm => ?_, f1, n3⟩
    rcases List.mem_cons.mp hm with z | z
    · exact ne z.symm
    · exact n1 (List.mem_cons_of_mem _ z)
  · rcases List.mem_cons.mp hm with z | hm
    · cases z
      obtain ⟨g, hc⟩ := R.ce _ _ _ mp
      obtain ⟨u, hu, _⟩ := CD.there hc
      obtain ⟨u2, hu2, _, nt⟩ := CD.there h1
      exact ⟨gn_none e.x (e.f _ u hu g) hu2 nt, h1⟩
    · rcases List.mem_cons.mp hm with z | hm
      · cases z
        exact ⟨gq, h2⟩
      · obtain ⟨g, hc⟩ := R.ce r b x (mM _ hm)
        obtain ⟨u, hu, _, nt⟩ := CD.there hc
        exact ⟨gn_none e.x (e.f r u hu g) (e.h _ _ hu (off r b x hm)) nt, CD.stay hc e.g (fun o h => e.h _ _ h (off r b x hm)) fun a y h => ⟨own a y h, fun g => gn_none e.x (e.f a _ h g) (own a y h) (fun _ z => nomatch z)⟩⟩
  · obtain ⟨o', z⟩ := R.lv a o h1
    exact e.l a o' z
  · obtain ⟨o', z⟩ := R.lv a o h1
    exact gn_trans e.g (R.f0 a o h1 h2) (e.f a o' z)
  · rcases List.mem_cons.mp hm with z | hm
    · cases z
    · rcases List.mem_cons.mp hm with z | hm
      · cases z
      · exact R.a0 r x (mM _ hm)
  · rcases List.mem_cons.mp hm with z | hm
    · cases z; exact R.o0 p _ mp
    · rcases List.mem_cons.mp hm with z | hm
      · cases z; exact nq
      · exact R.o0 r x (mM _ hm)
theorem zw_methF {ar : Nat} {m : Str} {R : FsF → CD → List PyData → PyData → FsF → CD → Prop} (h : ZW K E te S M (fun z M0 => ∃ p, z = .c p ∧ (∃ b fs0, (p, b, CD.obj C fs0) ∈ M0 ∧ fs0.lookup m = none) ∧ ZA K E tA S M0 (fun zs M1 => ∃ q fs cd ds d fs' cd' M2, AllD zs ds ∧ ds.length = ar ∧ M1.Perm ((p, true, .obj C (fs q)) :: (q, true, cd) :: M2) ∧ R fs cd ds d fs' cd' ∧ ∀ q', Q (.d d) ((p, true, .obj C (fs' q')) :: (q', true, cd') :: M2)) X) X) :
    ZW K E (tMeth C m (spF K C ar R) [] E0 te tA) S M Q X := fun n σ G H Rl Qv k kx =>
  h n σ G H Rl _ (fun v G0 H0 z M0 e0' R0 a0 ⟨p, hz, ⟨b0, fs0, hm0, hl0⟩, h2⟩ => by
    subst hz
    have ev : v = .ref p := a0
    subst ev
    obtain ⟨_, dx, fv, h3, h4, h5, h6⟩ := R0.ce p b0 _ hm0
    refine ⟨p, dx, fv, rfl, h3, (lookup_paired h6 m).1 hl0, h2 n σ G0 H0 R0 _ (fun vs G1 H1 zs M1 e1 R1 a1 ⟨q, fs, cd, ds, d, fs', cd', M2, hd, hk, hp, hR, qf⟩ => ?_) (kx.mono e0')⟩
    have R2 := R1.perm hp
    have mp := R2.ce p true _ List.mem_cons_self
    have mq := R2.ce q true _ (List.mem_cons_of_mem _ List.mem_cons_self)
    have ne : p ≠ q := by
      have := R2.nd
      rw [List.map_cons, List.map_cons, List.nodup_cons] at this
      intro z
      exact this.1 (by rw [z]; exact List.mem_cons_self)
    refine ⟨G1, p, q, fs, cd, _, ds, d, fs', cd', by rw [List.append_nil], hk, R1.ex, ne, mp.1, mq.1, mp.2, mq.2, zall_d (by rw [← hd]; exact a1), hR, fun v q' G' H' e own fr ne2 gq c1 c2 a => ?_⟩
    exact k v G' H' (.d d) _ ((e0'.trans e1).trans e.g) (R2.call2 e own fr ne2 gq c1 c2) a (qf q')) kx
end
end Z
/-! own dicts with rows as keys: {}, d[row] = v, sorted(d.keys()); a loop over an empty dict -/
namespace Z
open PySem PySem.Spec PyProof.Rows L2
open Evl (Ex)
/-! ### d.keys(), sorted of it -/
def keysO (p d : Addr) : HO := .ext fun h => PySem.W.KdlKeysView h p d
theorem keysO_ok {P : Program} {w : World} {H : Hp} {h : Heap} {p d : Addr} (e : h.get? p = some { cls := .type "dict_keys", data := .fields #[.ref d] }) : ObjOk P w H h p (keysO p d) :=
  ⟨⟨_, e, rfl, rfl⟩, ⟨_, e⟩, fun h1 h2 ⟨o, q1, q2⟩ k => ⟨o, k o q1, q2⟩⟩
abbrev rKeysT : V → List V → Hp → VK → Prop := fun x xs H Q => ∃ (a : Addr) (kvs : List (List L2.Key × V)), x = .ref a ∧ xs = [] ∧ H a = some (.dT kvs) ∧ ∀ p, H p = none → Q (.ref p) (upd H p (keysO p a))
def rSortK : List V → Hp → VK → Prop := fun vs H Q => ∃ (p a : Addr) (kvs : List (List L2.Key × V)) (rows : List (List Int)), vs = [.ref p] ∧ H p = some (keysO p a) ∧ H a = some (.dT kvs) ∧ kvs.map (·.1) = rows.map (fun r => r.map Sum.inl) ∧ (∀ r ∈ rows, r ≠ []) ∧
  ∀ (ys : List V) (q : Addr), Paired (fun y r => ∃ b, y = V.ref b ∧ H b = some (.tup (r.map V.int))) ys (sortI rows) → H q = none → Q (.ref q) (upd H q (.lst ys))
theorem keep_tups {h h' : Heap} (k : ∀ b o, h.get? b = some o → h'.get? b = some o) : G.KeepsTups h h' := fun b o e _ => k b o e
section
variable {prog : Program} {w : World} {A : Around} {E : Value → Shared → Prop} {s : Shared}
/-- what a walk gives, taken into a new list: the heap has grown -/
theorem collect_src {T : String} {r d : Addr} {n : Nat} {P : Nat → Value → Prop} {OK : Heap → Prop} {R : List Value → Shared → Prop} (K : PySem.W.KdlSrc prog w T r d n P OK) (hh : A.handled = none) (hok : OK s.heap) (hn : n ≤ sizeLine)
    (h : ∀ (m : Heap) (tk : Nat) (acc : Array Value), s.heap.objs.size ≤ m.objs.size → (∀ b o, s.heap.get? b = some o → m.get? b = some o) → ItemsOf P acc n → R acc.toList { s with heap := m, toks := tk }) :
    wpAny (model prog w) A (collect (.ref r)) R E s := by
  have lt := K.there _ hok
  have grown : ∀ b o, s.heap.get? b = some o → (s.heap.push { cls := .type "list", data := .seq ([] : List Value).toArray }).get? b = some o := fun b o e => Heap.get?_push_of_some _ e
  have nl : (s.heap.push { cls := .type "list", data := .seq ([] : List Value).toArray }).get? s.heap.objs.size = some { cls := .type "list", data := .seq #[] } := Heap.get?_push_size _ rfl
  have out := PySem.W.kdl_extend (A := A) (s := { s with heap := s.heap.push { cls := .type "list", data := .seq ([] : List Value).toArray } })
    (R := fun res t => ∃ (m : Heap) (tk : Nat) (acc : Array Value) (c : Nat), res = .ok (.ret (.ref s.heap.objs.size)) ∧ t = { s with heap := m, toks := tk } ∧ (∀ b o, s.heap.get? b = some o → m.get? b = some o) ∧ m.get? s.heap.objs.size = some { cls := .type "list", dict := none, data := .seq acc c, slots := #[] } ∧ ItemsOf P acc n)
    K hh (K.keep _ _ hok fun b _ => grown b) s.heap.objs.size (Nat.ne_of_gt lt.1) (Nat.ne_of_gt lt.2) (.ref s.heap.objs.size) 0 nl
    (fun m tk acc c k at_ hacc => ⟨m, tk, acc, c, rfl, rfl, fun b o e => k b o (Nat.ne_of_lt (Heap.lt_size e)) (grown b o e), at_, hacc⟩) hn
  have last : ∀ (m : Heap) (tk : Nat) (acc : Array Value) (c : Nat), (∀ b o, s.heap.get? b = some o → m.get? b = some o) → m.get? s.heap.objs.size = some { cls := .type "list", dict := none, data := .seq acc c, slots := #[] } → ItemsOf P acc n → R acc.toList { s with heap := m, toks := tk } :=
    fun m tk acc c k at_ hacc => h m tk acc (Nat.le_of_lt (Heap.lt_size at_)) k hacc
  unfold collect
  refine wpAny_bind (wpAny_runValue (codeAny_builtin entry_proto_collect' ?_))
  rw [Around.under_plainId PySem.F.plain_proto_collect _]
  show wpAny _ A.in1 (newList [] >>= fun l => again (.builtin "list.__iadd__" ⟨[l, .ref r], []⟩)) _ _ s
  refine wpAny_bind (wpAny_newObj_type (wpAny_pure ⟨plainId_quiet PySem.F.plain_list_iadd _, codeAny_builtin entry_list_iadd' ?_⟩))
  rw [Around.under_plainId PySem.F.plain_list_iadd _]
  show wpAny _ A.in1 (Builtin.List.listExtendWith (.ref s.heap.objs.size) (.ref r) (.ref s.heap.objs.size)) _ _ _
  refine wpAny_mono out (fun fin t x => ?_) fun e t x => ?_
  · cases fin with
    | done f =>
      obtain ⟨m, tk, acc, c, e, rfl, k, at_, hacc⟩ := x
      cases e
      exact wpAny_bind (wpAny_load at_ (wpAny_pure (last m tk acc c k at_ hacc)))
    | again c1 =>
      refine ⟨x.1, codeAny_mono x.2 fun q t2 y => ?_⟩
      obtain ⟨m, tk, acc, c, rfl, rfl, k, at_, hacc⟩ := y
      exact wpAny_bind (wpAny_load at_ (wpAny_pure (last m tk acc c k at_ hacc)))
  · obtain ⟨_, _, _, _, z, _⟩ := x
    cases z
open G in
/-- sorted of something that is taken into a list first -/
theorem sorted_from {κ : KeyKind} {kd : SortKind} {t : Addr} {vs : List Value} {Q : Value → Shared → Prop} (hl : vs.length ≤ sizeLine) (hk : KeysOf κ (pairsOf vs)) (hO : ∀ s2 : Shared, KeepsTups s.heap s2.heap → LtAt prog w s2 κ kd)
    (hkk : 2 ≤ vs.length → ∀ (A : Around) (E : Value → Shared → Prop) (s2 : Shared) {Q : SortKind → Shared → Prop}, KeepsTups s.heap s2.heap → Q kd s2 → wpAny (model prog w) A (keyKind' vs.toArray) Q E s2)
    (hc : ∀ R : List Value → Shared → Prop, (∀ h' tk, s.heap.objs.size ≤ h'.objs.size → (∀ b o, s.heap.get? b = some o → h'.get? b = some o) → R vs { s with heap := h', toks := tk }) → wpAny (model prog w) A.in1 (collect (.ref t)) R E s)
    (h : ∀ (st : SortSt) (m : Heap) (tk : Nat), s.heap.objs.size ≤ m.objs.size → (∀ b o, s.heap.get? b = some o → m.get? b = some o) → (arrOf st).Perm (pairsOf vs) → SortedToK κ (arrOf st) (pairsOf vs).size →
      Q (.ref m.objs.size) { s with heap := sortedHeap (m.push (seqObj "list" vs.toArray 0)) m.objs.size vs ((arrOf st).map (·.2)), toks := tk }) :
    wpAny (model prog w) A (call (.builtin "sorted") [.ref t]) Q E s := by
  refine Calls.call_function_entry kind_sorted plain_sorted entry_sorted (args_sorted1 _) ?_
  unfold Builtin.«sorted»
  refine wpAny_bind (m := checkCount "sorted" 1 1 _) (wpAny_pure (wpAny_bind (hc _ fun m tk zm k => wpAny_bind (wpAny_newList ?_))))
  have nl : (m.push (seqObj "list" vs.toArray 0)).get? m.objs.size = some (seqObj "list" vs.toArray 0) := Heap.get?_push_size _ rfl
  have k2 := ((keep_tups k).trans (KeepsTups.push m (seqObj "list" vs.toArray 0))).trans (keeps_sort6 (vs := vs) nl)
  show wpAny _ _ _ _ _ { s with heap := m.push (seqObj "list" vs.toArray 0), toks := tk }
  exact wpAny_bind (wpAny_holding (wpAny_call_entry slot_list_sort ⟨_, nl, rfl⟩ entry_list_sort (list_sort_treeG nl hk (hO _ k2) (fun h2 R q => hkk h2 _ _ _ k2 q) hl fun st p1 p2 _ => ⟨_, rfl, wpAny_pure ⟨_, rfl, h st m tk zm k p1 p2⟩⟩) (args_list_sort _)))
end
section
variable {X : Cx} {pins : List (Addr × Obj)} {σ : L2.St} {H : Hp} {s : Shared}
def IsRow (K : Fg) (H : Hp) (u : Value) : Prop := ∃ t ns, u = Value.ref t ∧ SqT K H t (ns.map V.int) ∧ ns ≠ []
theorem rows_keys (I : Inv X pins σ H s) {its : List Value} (each : ∀ u ∈ its, IsRow X.K H u) : (∀ u, u ∈ its → ∃ l, G.tupKeyC s.heap (fun _ => false) u = some l) ∧ ∃ fs, TupsOf s.heap (fun _ => false) its fs := by
  constructor
  · intro u hu
    obtain ⟨t, ns, rfl, h1, _⟩ := each u hu
    obtain ⟨t', e, k⟩ := row_key I (x := .ref t) ⟨t, rfl, h1⟩
    cases e
    exact ⟨_, k⟩
  · have go : ∀ l : List Value, (∀ u ∈ l, IsRow X.K H u) → ∃ fs, TupsOf s.heap (fun _ => false) l fs := by
      intro l
      induction l with
      | nil => exact fun _ => ⟨[], .nil⟩
      | cons u l ih =>
        intro h
        obtain ⟨fs, hfs⟩ := ih fun v hv => h v (List.mem_cons_of_mem _ hv)
        obtain ⟨t, ns, rfl, h1, h0⟩ := h u List.mem_cons_self
        obtain ⟨t', f, e, k⟩ := row_first I (x := .ref t) ⟨t, rfl, h1⟩ h0
        cases e
        exact ⟨f :: fs, .cons k hfs⟩
    exact go its each
theorem rows_out (I : Inv X pins σ H s) {its : List Value} (each : ∀ u ∈ its, IsRow X.K H u) {arr : Array (Value × Value)} (hp : arr.Perm (pairsOf its)) (hst : SortedToK (G.tupKindC s.heap (fun _ => false)) arr (pairsOf its).size) :
    (arr.map (·.2)).toList.Perm its ∧ ((arr.map (·.2)).toList.map refV).Pairwise (fun x y => ∀ n m, RowI X.K H x n → RowI X.K H y m → leI n m = true) := by
  have hpl : arr.toList.Perm (its.zip its) := by rw [← pairsOf_toList]; exact Array.perm_iff_toList_perm.mp hp
  have twin : ∀ p ∈ arr.toList, p.1 = p.2 ∧ p.1 ∈ its := fun p hp => mem_zip_self (hpl.mem_iff.mp hp)
  have po : (arr.map (·.2)).toList.Perm its := by
    rw [Array.toList_map]
    have z := hpl.map Prod.snd
    rw [List.map_snd_zip (Nat.le_refl _)] at z
    exact z
  refine ⟨po, ?_⟩
  rw [List.pairwise_map, List.pairwise_iff_getElem]
  intro i j hi hj hij n m hn hm
  have hi' : i < arr.size := by simpa using hi
  have hj' : j < arr.size := by simpa using hj
  have hsz : (pairsOf its).size = arr.size := hp.size_eq.symm
  have le := hst i j (Nat.le_of_lt hij) (by rw [hsz]; exact hj')
  have kk : ∀ (k : Nat) (hk : k < arr.size) (l : List Int), RowI X.K H (refV ((arr.map (·.2)).toList[k]'(by simpa using hk))) l → KK (G.tupKindC s.heap (fun _ => false)) arr k = l.map Sum.inl := by
    intro k hk l hl
    have e3 : (arr.map (·.2)).toList[k]'(by simpa using hk) = arr[k].2 := by simp
    rw [e3] at hl
    have mem : arr[k] ∈ arr.toList := by simp
    obtain ⟨t1, t2⟩ := twin _ mem
    obtain ⟨t, e4, k4⟩ := row_key I hl
    obtain ⟨t', _, e6, _⟩ := each _ t2
    have e5 : arr[k].1 = .ref t := by
      rw [t1] at e6 ⊢
      rw [e6] at e4 ⊢
      cases e4
      rfl
    unfold KK
    rw [Array.getElem?_eq_getElem hk]
    show (G.tupKeyC s.heap (fun _ => false) arr[k].1).getD [] = _
    rw [e5, k4]
    rfl
  rw [kk i hi' n hn, kk j hj' m hm] at le
  exact leI_iff.mpr le
theorem mt_keysT : MtR X "dict.keys" rKeysT := by
  intro pins s σ H x xs v us Q I rx rxs h
  obtain ⟨a, kvs, rfl, rfl, ha, q⟩ := h
  cases rx
  cases rxs
  obtain ⟨z, hd, xs', rel, o, es, ep, ho, hx, hdat, _⟩ := dt_of I.hok ha
  have raw : s.heap.DictRaw a es ep := ⟨o, ho, hx, hdat⟩
  refine call_meetsIn PySem.F.slot_dict_keys raw.typeIs PySem.F.entry_dict_keys (PySem.F.args_dict_keys_1 _) (meets_dict_keys_raw a hd) ⟨⟨es, ep, raw⟩, ?_⟩
  exact ⟨.ref s.heap.objs.size, _, I.laid (t' := s.toks) (fun b u e => Heap.get?_push_of_some _ e) (Nat.le_refl _) (keysO_ok (Heap.get?_push_size _ rfl)), rfl, q _ (I.hok.fresh (Nat.le_refl _))⟩
theorem paired_of {α β : Type} {F : α → β → Prop} : ∀ {l : List α} {m : List β}, l.length = m.length → (∀ (i : Nat) (h : i < l.length) (h' : i < m.length), F l[i] m[i]) → Paired F l m
  | [], [], _, _ => .nil
  | a :: l, b :: m, e, h => .cons (h 0 (by simp) (by simp)) (paired_of (by simpa using e) fun i h1 h2 => h (i + 1) (by simpa using h1) (by simpa using h2))
theorem cr_sortK (hc : X.calm = true) : CallR X (.builtin "sorted") rSortK := by
  intro pins s σ H xs us Q I r h
  obtain ⟨p, a, kvs, rows, rfl, hp, ha, hr, h0, q⟩ := h
  obtain rfl := Vals.ref1 r
  have view : PySem.W.KdlKeysView s.heap p a := (show ObjOk X.prog X.w H s.heap p (keysO p a) from I.hok p _ hp).1
  obtain ⟨z, hd, xs', rel, o, es, ep, ho, hx, hdat, hes, his, hn⟩ := dt_of I.hok ha
  have raw : s.heap.DictRaw a es ep := ⟨o, ho, hx, hdat⟩
  have l1 : kvs.length = xs'.length := Paired.length rel
  have l2 : es.size = xs'.length := by rw [← Array.length_toList, hes, List.length_map]
  have l3 : kvs.length = rows.length := by have := congrArg List.length hr; simpa using this
  -- the keys as they stand
  have key : ∀ (i : Nat) (h1 : i < xs'.length) (h2 : i < rows.length), H xs'[i].2.1 = some (.tup (rows[i].map V.int)) := fun i h1 h2 => by
    obtain ⟨e, he, r1, r2, _⟩ := L2.DX.pget rel (List.getElem?_eq_getElem h1)
    have : (kvs.map (·.1))[i]? = (rows.map fun r => r.map Sum.inl)[i]? := by rw [hr]
    rw [List.getElem?_map, List.getElem?_map, he, List.getElem?_eq_getElem h2] at this
    have e1 : e.1 = rows[i].map Sum.inl := Option.some.inj this
    rw [r2, e1]
    exact congrArg _ (congrArg HO.tup (keyI_v rows[i]))
  have vsl : (xs'.map fun x => Value.ref x.2.1).length = xs'.length := List.length_map _
  have each : ∀ u ∈ (xs'.map fun x => Value.ref x.2.1), IsRow X.K H u := fun u hu => by
    obtain ⟨x, hx, rfl⟩ := List.mem_map.mp hu
    obtain ⟨i, hi, rfl⟩ := List.getElem_of_mem hx
    exact ⟨_, rows[i]'(by omega), rfl, Evl.st_of (key i hi (by omega)), h0 _ (List.getElem_mem _)⟩
  obtain ⟨keys, fs, tf⟩ := rows_keys I each
  refine sorted_from (vs := xs'.map fun x => Value.ref x.2.1) (by rw [vsl]; omega) (G.tupKeys keys) (fun s2 k => G.tupC_ltAt (s := s2) true k) (fun h2 _ _ s2 _ k hq => tup_kind (s := s2) (by rw [G.TupsOf.length tf]; omega) (G.TupsOf.keep k tf) hq) (fun R hR => ?_) fun st m tk zm k hperm hst => ?_
  · refine collect_src (A := X.A.in1) (s := s) (KdlSrc.rawKeys (es := es) (ep := ep)) (I.ok.hd hc) ⟨view, raw⟩ (by omega) fun h' tk acc zm k hacc => ?_
    have e : acc.toList = xs'.map fun x => Value.ref x.2.1 := by
      refine List.ext_getElem? fun i => ?_
      have es_at : es.toList[i]? = (xs'[i]?).map (entryOfKey (tupleKind (mixKind X.prog X.w))) := by rw [hes, List.getElem?_map]
      by_cases hi : i < xs'.length
      · have hia : i < acc.size := by rw [hacc.1]; omega
        obtain ⟨hi2, e2⟩ := hacc.2 i acc[i] (Array.getElem?_eq_getElem hia)
        rw [Array.getElem?_toList, Array.getElem?_eq_getElem hia, e2, List.getElem?_map, List.getElem?_eq_getElem hi]
        rw [List.getElem?_eq_getElem hi, Array.getElem?_toList, Array.getElem?_eq_getElem hi2] at es_at
        have es_at := Option.some.inj es_at
        rw [es_at]
        rfl
      · rw [List.getElem?_eq_none (by rw [Array.length_toList, hacc.1]; omega), List.getElem?_eq_none (by rw [vsl]; omega)]
    rw [e]
    exact hR h' tk zm k
  · obtain ⟨po, pw⟩ := rows_out I each hperm hst
    have nl : (m.push (seqObj "list" (xs'.map fun x => Value.ref x.2.1).toArray 0)).get? m.objs.size = some (seqObj "list" (xs'.map fun x => Value.ref x.2.1).toArray 0) := Heap.get?_push_size _ rfl
    obtain ⟨ep2, at_⟩ := sortedHeap_at (out := (arrOf st).map (·.2)) nl
    have old : ∀ b o, s.heap.get? b = some o → (sortedHeap (m.push (seqObj "list" (xs'.map fun x => Value.ref x.2.1).toArray 0)) m.objs.size (xs'.map fun x => Value.ref x.2.1) ((arrOf st).map (·.2))).get? b = some o := fun b o e => by
      have hb := Heap.lt_size (k b o e)
      rw [sortedHeap_old (Nat.ne_of_lt hb) (Nat.lt_of_lt_of_le hb (by rw [Heap.size_push]; exact Nat.le_succ _))]
      exact Heap.get?_push_of_some _ (k b o e)
    have fresh : H m.objs.size = none := by
      exact I.hok.fresh zm
    have vals : Vals (((arrOf st).map (·.2)).toList.map refV) ((arrOf st).map (·.2)).toList := by
      have go : ∀ l : List Value, (∀ u ∈ l, u ∈ (xs'.map fun x => Value.ref x.2.1)) → Vals (l.map refV) l := by
        intro l
        induction l with
        | nil => exact fun _ => .nil
        | cons u l ih =>
          intro h
          obtain ⟨t, ns, rfl, _⟩ := each u (h u List.mem_cons_self)
          exact .cons rfl (ih fun v hv => h v (List.mem_cons_of_mem _ hv))
      exact go _ fun u hu => po.mem_iff.mp hu
    have pr0 : Paired (fun (y : V) (r : List Int) => ∃ b, y = V.ref b ∧ H b = some (.tup (r.map V.int))) ((xs'.map fun x => Value.ref x.2.1).map refV) rows := by
      refine paired_of (by simp; omega) fun i h1 h2 => ?_
      have hi : i < xs'.length := by simpa using h1
      refine ⟨xs'[i].2.1, by simp [refV], key i hi h2⟩
    obtain ⟨rs, prm, prd⟩ := paired_perm (po.map refV) pr0
    have pwr : rs.Pairwise (fun a b => leI a b = true) := by
      rw [List.pairwise_iff_getElem]
      intro i j hi hj hij
      have ln := Paired.length prd
      have at1 := List.pairwise_iff_getElem.mp pw i j (Nat.lt_of_lt_of_eq hi ln.symm) (Nat.lt_of_lt_of_eq hj ln.symm) hij
      have g : ∀ (k : Nat) (hk : k < rs.length) (hk' : k < (((arrOf st).map (·.2)).toList.map refV).length), RowI X.K H (((arrOf st).map (·.2)).toList.map refV)[k] rs[k] := fun k hk hk' => by
        obtain ⟨y, hy, b, e1, e2⟩ := L2.DX.pget prd (List.getElem?_eq_getElem hk)
        rw [List.getElem?_eq_getElem hk'] at hy
        exact ⟨b, (Option.some.inj hy).trans e1, Evl.st_of e2⟩
      exact at1 _ _ (g i hi (Nat.lt_of_lt_of_eq hi ln.symm)) (g j hj (Nat.lt_of_lt_of_eq hj ln.symm))
    rw [sortI_uniq prm pwr] at prd
    exact ⟨.ref m.objs.size, upd H m.objs.size (.lst (((arrOf st).map (·.2)).toList.map refV)), I.laid (t' := tk) old zm ⟨by rw [List.length_map, po.length_eq, vsl]; omega, _, ep2, vals, at_⟩, rfl, q _ _ prd fresh⟩
end
end Z
/-! dicts over data: {}, d[row] = v, sorted(d.keys()), a frozen dict; a walk over an empty one; a method that hands back a new dict -/
namespace Z
open PySem PySem.Spec PyProof.Rows L2
open Evl (Ex)
section
variable {K : Fg} {E : L2.St → XK} {e0 : XK} {te to td tk tv : TE} {tA : TA} {t : TS} {S S' : Zs} {M M' : Ms} {Q : QZ} {X : XZ} {P : ZP} {n : Sn} {σ : L2.St} {G G' H H' : Hp} {p C : Addr}
theorem zw_dnewT (q : ∀ p, Q (.c p) ((p, true, .dT []) :: M)) : ZW K E tDNewT S M Q X := fun n σ G H R Qv k kx p hp => k (.ref p) G _ (.c p) _ (Ex.refl G) (R.newD hp .nil) rfl (q p)
theorem zs_dputT (h : ZW K E tv S M (fun z M1 => ∃ d, z = .d d ∧ ZW K E td S M1 (fun o M2 => ZW K E tk S M2 (fun y M3 => ∃ p b kvs i r M4, o = .c p ∧ y = .d (rowD (i :: r)) ∧ kvs.length < sizeLine ∧ Upd1 p b (.dT kvs) (.dT (putP kvs (keyI (i :: r)) d)) M3 M4 ∧ P.nx S M4) P.ex) P.ex) P.ex) : ZS K E (sDPut td tk tv) S M P := fun n σ G H R D k =>
  h n σ G H R _ (fun v G1 H1 z M1 e1 R1 a1 ⟨d, hz, h2⟩ => h2 n σ G1 H1 R1 _ (fun o G2 H2 zo M2 e2 R2 a2 h3 => h3 n σ G2 H2 R2 _ (fun y G3 H3 zy M3 e3 R3 a3 ⟨p, b, kvs, i, r, M4, ho, hy, hl, hu, q⟩ => by
    subst hz ho hy
    have ev : o = .ref p := a2
    subst ev
    obtain ⟨c, rfl, hc⟩ := dz_key a3
    obtain ⟨_, ws, hw, rel⟩ := R3.ce p b _ hu.mem
    refine ⟨p, _, rfl, DPut.t hw (R3.ex _ _ hc) (by rw [dpr_len rel]; exact hl), ?_⟩
    exact k.nx σ G3 _ S M4 ((e1.trans e2).trans e3) (R3.putD hu (put_rel rel _ (dp_mono (e2.trans e3) a1))) q) (XOk.mono k.xok (e1.trans e2))) (XOk.mono k.xok e1)) k.xok
theorem tells {rows : List (List Int)} {ys : List V} (R : Rel K n S M σ G H) (h : Paired (fun y r => ∃ b, y = V.ref b ∧ H b = some (.tup (r.map V.int))) ys rows) : ∃ G', Ex G G' ∧ Rel K n S M σ G' H ∧ DzAll K G' ys (rows.map rowD) := by
  induction h generalizing G with
  | nil => exact ⟨G, Ex.refl G, R, .nil⟩
  | @cons y r ys rows a _ ih =>
    obtain ⟨b, rfl, hb⟩ := a
    obtain ⟨G1, e1, R1, g1⟩ := R.tell hb
    obtain ⟨G2, e2, R2, d2⟩ := ih R1
    exact ⟨G2, e1.trans e2, R2, .cons (.tup (.inl (e2 _ _ g1)) (by
      have go : ∀ l : List Int, DzAll K G2 (l.map V.int) (l.map PyData.int) := fun l => by
        induction l with
        | nil => exact .nil
        | cons a l ih => exact .cons (.int a) ih
      exact go r)) d2⟩
theorem dpr_keys : ∀ {ws : List (List Key × V)} {kvs : List (List Key × PyData)}, DPr K G ws kvs → ws.map (·.1) = kvs.map (·.1)
  | _, _, .nil => rfl
  | _, _, .cons a b => by rw [List.map_cons, List.map_cons, dpr_keys b, a.1]
/-- sorted(d.keys()) -/
theorem zw_sortKeys (h : ZW K E to S M (fun z M1 => ∃ p b kvs rows, z = .c p ∧ (p, b, CD.dT kvs) ∈ M1 ∧ kvs.map (·.1) = rows.map keyI ∧ (∀ r ∈ rows, r ≠ []) ∧ Q (.d (.list ((sortI rows).map rowD))) M1) X) : ZW K E (tCB rSortK (tCons (tBM0 K "dict" rKeysT to) tNil)) S M Q X := fun n σ G H R Qv k kx =>
  h n σ G H R _ (fun v G1 H1 z M1 e1 R1 a1 ⟨p, b, kvs, rows, hz, hm, hk, h0, q⟩ => by
    subst hz
    have ev : v = .ref p := a1
    subst ev
    obtain ⟨_, ws, hw, rel⟩ := R1.ce p b _ hm
    refine ⟨.inr (.inr (.inl ⟨rfl, .inr ⟨ws, hw⟩⟩)), p, ws, rfl, rfl, hw, fun view hv => ?_⟩
    have R2 := R1.lay (o := keysO view p) hv
    have np : p ≠ view := ne_of_none hw hv
    refine ⟨view, p, ws, rows, rfl, upd_same, by rw [upd_ne np]; exact hw, ?_, h0, fun ys l hp hl => ?_⟩
    · rw [dpr_keys rel]; exact hk
    · obtain ⟨G3, e3, R3, d3⟩ := tells R2 hp
      have g := ex_gnone R3.ex hl
      exact k (.ref l) _ _ (.d (.list ((sortI rows).map rowD))) M1 ((e1.trans e3).trans (Ex.new g)) (R3.new hl (fun _ z => nomatch z)) (.lst (Evl.sq_of upd_same) (dpAll_mono (Ex.new g) d3)) q) kx
/-! ### a walk over an empty dict -/
end
section
variable {K : Fg} {E : L2.St → XK} {e0 : XK} {te to td tk tv : TE} {tA : TA} {t : TS} {S S' : Zs} {M M' : Ms} {Q : QZ} {X : XZ} {P : ZP} {n : Sn} {σ : L2.St} {G G' H H' : Hp} {p C : Addr} {g : TG} {tt : TT}
/-! ### a method that hands back a new dict -/
def spH (K : Fg) (C : Addr) (k : Nat) (R : List (Str × ZV) → List PyData → CD → Prop) : Sp := fun vs H Q E => ∃ (G : Hp) (p : Addr) (fs : List (Str × ZV)) (us : List V) (ds : List PyData) (c : CD), vs = .ref p :: us ∧ ds.length = k ∧ Ex G H ∧ G p = none ∧ CD.at K G H p (.obj C fs) ∧ DzAll K G us ds ∧ R fs ds c ∧
  ∀ q G' H', Ext [p] G H G' H' → (∀ a x, H a = some (.own x) → H' a = some (.own x)) → CD.at K G' H' p (.obj C fs) → H q = none → G' q = none → CD.at K G' H' q c → Q (.ref q) H'
theorem Upd1.self {c : CD} {b : Bool} : ∀ {M : Ms}, (p, b, c) ∈ M → ∃ M', Upd1 p b c c M M' ∧ M' = M
  | x :: M, h => by
    rcases List.mem_cons.mp h with z | z
    · subst z; exact ⟨_, .here, rfl⟩
    · obtain ⟨M', u, e⟩ := Upd1.self z
      exact ⟨x :: M', .there u, by rw [e]⟩
theorem zw_methH0 {ar : Nat} {m : Str} {R : List (Str × ZV) → List PyData → CD → Prop} (h : ZW K E te S M (fun z M0 => ∃ p, z = .c p ∧ (∃ b fs0, (p, b, CD.obj C fs0) ∈ M0 ∧ fs0.lookup m = none) ∧ ZA K E tA S M0 (fun zs M1 => ∃ b fs ds c, AllD zs ds ∧ ds.length = ar ∧ (p, b, CD.obj C fs) ∈ M1 ∧ R fs ds c ∧ ∀ q, Q (.c q) ((q, true, c) :: M1)) X) X) :
    ZW K E (tMeth C m (spH K C ar R) [] E0 te tA) S M Q X := fun n σ G H Rl Qv k kx =>
  h n σ G H Rl _ (fun v G0 H0 z M0 e0' R0 a0 ⟨p, hz, ⟨b0, fs0, hm0, hl0⟩, h2⟩ => by
    subst hz
    have ev : v = .ref p := a0
    subst ev
    obtain ⟨_, dx, fv, h3, h4, h5, h6⟩ := R0.ce p b0 _ hm0
    refine ⟨p, dx, fv, rfl, h3, (lookup_paired h6 m).1 hl0, h2 n σ G0 H0 R0 _ (fun vs G1 H1 zs M1 e1 R1 a1 ⟨b, fs, ds, c, hd, hk, hm, hR, qf⟩ => ?_) (kx.mono e0')⟩
    obtain ⟨hp, hc⟩ := R1.ce p b _ hm
    refine ⟨G1, p, fs, _, ds, c, by rw [List.append_nil], hk, R1.ex, hp, hc, zall_d (by rw [← hd]; exact a1), hR, fun q G' H' e own hc' hq gq hcq => ?_⟩
    obtain ⟨M', u, eM⟩ := Upd1.self hm
    have R2 := R1.call1 e u own hc'
    rw [eM] at R2
    exact k (.ref q) G' H' (.c q) _ ((e0'.trans e1).trans e.g) (R2.cell (R1.fresh hq) (R1.notin hq) gq hcq) rfl (qf q)) kx
end
end Z
/-! filter and map over a list, over a range; a walk over enumerate of a list -/
namespace Z
open PySem PySem.Spec PyProof.Rows L2
open Evl (Ex)
section
variable {K : Fg} {E : L2.St → XK} {te ta : TE} {tA : TA} {g : TG} {tt : TT} {t : TS} {S : Zs} {M : Ms} {Q : QZ} {X : XZ} {P : ZP}
theorem lcL_fm {α : Type} {vs : List Nat} (items : List α) (enc f : α → PyData) (p : α → Bool) (h : ZW K E ta S M (fun z M1 => z = .d (.list (items.map enc)) ∧ items.length ≤ sizeLine ∧
      (∀ c ∈ items, ∃ is S2, (∀ j ∈ is, j ∈ vs) ∧ ZG K g (.d (enc c)) (wipeZ S vs) is S2 ∧ ∀ D acc, ZT K E tt S2 ((D, true, .lst acc) :: M1) (fun b Mb => b = p c ∧ Mb = (D, true, .lst acc) :: M1) (fun _ _ _ => False) ∧
        (p c = true → ZW K E te S2 ((D, true, .lst acc) :: M1) (fun y Mc => y = .d (f c) ∧ Mc = (D, true, .lst acc) :: M1) fun _ _ _ => False)) ∧ Q (.d (.list ((items.filter p).map f))) M1) X) : ZW K E (tLc (iList K ta) g tt te vs) S M Q X := by
  refine zw_lcL (h.imp fun z M1 ⟨hz, hl, each, q⟩ => ⟨_, hz, by rw [List.length_map]; exact hl, fun i acc M' => M' = M1 ∧ acc = ((items.take i).filter p).map f, ⟨rfl, by simp⟩, fun i x hx acc M' D hI => ?_, fun acc M' hI => ?_⟩)
  · rw [List.getElem?_map] at hx
    obtain ⟨c, hc, rfl⟩ := Option.map_eq_some_iff.mp hx
    obtain ⟨is, S2, h1, h2, h3⟩ := each c (List.mem_of_getElem? hc)
    obtain ⟨rfl, rfl⟩ := hI
    obtain ⟨h4, h5⟩ := h3 D (((items.take i).filter p).map f)
    refine ⟨is, S2, h1, h2, h4.imp fun b Mb hb => ?_⟩
    obtain ⟨rfl, rfl⟩ := hb
    have st := take_filter p hc
    refine ⟨fun e => ⟨_, rfl, rfl, ?_⟩, fun e => (h5 e).imp fun y Mc hy => ?_⟩
    · rw [st, e]; simp
    · obtain ⟨rfl, rfl⟩ := hy
      exact ⟨_, _, rfl, rfl, rfl, by rw [st, e]; simp⟩
  · obtain ⟨rfl, rfl⟩ := hI
    rw [List.length_map, List.take_length]
    exact q
theorem lcL_map {α : Type} {vs : List Nat} (items : List α) (enc f : α → PyData) (h : ZW K E ta S M (fun z M1 => z = .d (.list (items.map enc)) ∧ items.length ≤ sizeLine ∧
      (∀ c ∈ items, ∃ is S2, (∀ j ∈ is, j ∈ vs) ∧ ZG K g (.d (enc c)) (wipeZ S vs) is S2 ∧ ∀ D acc, ZW K E te S2 ((D, true, .lst acc) :: M1) (fun y Mc => y = .d (f c) ∧ Mc = (D, true, .lst acc) :: M1) fun _ _ _ => False) ∧ Q (.d (.list (items.map f))) M1) X) : ZW K E (tLc (iList K ta) g tYes te vs) S M Q X := by
  refine lcL_fm items enc f (fun _ => true) (h.imp fun z M1 ⟨hz, hl, each, q⟩ => ⟨hz, hl, fun c hc => ?_, by rw [List.filter_eq_self.mpr (fun _ _ => rfl)]; exact q⟩)
  obtain ⟨is, S2, h1, h2, h3⟩ := each c hc
  exact ⟨is, S2, h1, h2, fun D acc => ⟨zt_yes ⟨rfl, rfl⟩, fun _ => h3 D acc⟩⟩
/-- for i, x in enumerate(a list) -/
theorem zs_forE (h : ZA K E tA S M (fun zs M1 => ∃ xs, zs = [.d (.list xs)] ∧ ∃ I : Nat → Zs → Ms → Prop, I 0 S M1 ∧
      (∀ i x S' M', xs[i]? = some x → I i S' M' → ∃ is S2, ZG K g (.d (.tuple [.int (i : Nat), x])) S' is S2 ∧ ZS K E t S2 M' (LoopP P (I (i + 1)))) ∧ (∀ S' M', I xs.length S' M' → P.nx S' M')) P.ex) : ZS K E (tFor (iEnum K tA) g t) S M P := by
  intro n σ G H R D k
  refine h n σ G H R _ (fun vs G1 H1 zs M1 e1 R1 a1 ⟨xs, hz, I, i0, is, id⟩ => ?_) k.xok
  subst hz
  obtain ⟨v, rfl, av⟩ := zall1 a1
  obtain ⟨p, ws, rfl, h1, h2⟩ := dp_lst av
  have hl := dpa_len h2
  have stays : ∀ {G' H' : Hp} {S' M' σ'}, Rel K n S' M' σ' G' H' → Ex G1 G' → SqL K H' p ws := fun R' e' => Evl.ex_l (e'.trans R'.ex) h1
  refine ⟨p, ws, rfl, Evl.ex_l R1.ex h1, fun i m σ' H' => m = ws.length - i ∧ i ≤ ws.length ∧ FI K n G1 I i σ' H', ⟨_, rfl, Nat.zero_le _, G1, S, M1, R1, Ex.refl _, i0⟩, ?_⟩
  rintro i m σ' H' ⟨rfl, hi, G', S', M', R', e', hI⟩
  rcases Nat.lt_or_ge i ws.length with hlt | hge
  · have hw : ws[i]? = some ws[i] := List.getElem?_eq_getElem hlt
    obtain ⟨d, hd, ad⟩ := dpa_at_v h2 hw
    obtain ⟨js, S2, hg, hb⟩ := is i d S' M' hd hI
    refine .inr ⟨⟨ws, _, stays R' e', hw⟩, FI K n G1 I (i + 1), fun σ2 H2 q => ⟨_, by omega, rfl, hlt, q⟩, fun y H2 hy => ?_⟩
    obtain ⟨T, x, rfl, hT, rfl, hx⟩ := hy
    obtain rfl : x = ws[i] := Option.some.inj ((hx ws (stays R' e')).symm.trans hw)
    have gT := ex_gnone R'.ex hT
    have e2 := e'.trans (Ex.new (o := .tup [.int (i : Nat), ws[i]]) gT)
    refine hg n M' σ' _ _ _ (R'.new (o := .tup [.int (i : Nat), ws[i]]) hT (fun _ z => nomatch z)) (.tup (.inl upd_same) (.cons (.int _) (.cons (dp_mono e2 ad) .nil))) _ fun σ2 _ _ R3 => ?_
    exact hb n σ2 _ _ R3 _ ((k.mono (e1.trans e2)).loop fun σ3 G3 H3 S3 M3 e3 R4 i3 => ⟨G3, S3, M3, R4, e2.trans e3, i3⟩)
  · obtain rfl : i = ws.length := by omega
    exact .inl ⟨⟨ws, stays R' e', Nat.le_refl _⟩, k.nx σ' G' H' S' M' (e1.trans e') R' (id S' M' (by rw [← hl]; exact hI))⟩
end
/-- three names from a tuple that holds own things -/
theorem zs_asgT3 {kk : Nat} (hk3 : 3 = kk) {K : Fg} {E : L2.St → XK} {tA : TA} {S : Zs} {M : Ms} {i j l : Nat} {P : ZP} (h : ZA K E tA S M (fun zs M1 => ∃ z w y, zs = [z, w, y] ∧ P.nx (((S.set i (some z)).set j (some w)).set l (some y)) M1) P.ex) :
    ZS K E (tAsg (tTup tA) (gTup K kk (gCons (gName i) (gCons (gName j) (gCons (gName l) gNil))))) S M P := fun n σ G H R D k =>
  h n σ G H R _ (fun vs G1 H1 zs M1 e1 R1 a1 ⟨z, w, y, hz, q⟩ => by
    subst hz
    cases a1 with
    | cons a b => cases b with | cons b c => cases c with | cons c d => cases d with | nil =>
      refine ⟨by rw [sizeLine_eq]; exact Nat.le_of_ble_eq_true rfl, fun p hp => ?_⟩
      have e2 : ∀ o, Ex G1 (upd G1 p o) := fun o => Ex.new (ex_gnone R1.ex hp)
      refine ⟨p, _, rfl, .inl (.inl upd_same), hk3, _, _, rfl, _, _, rfl, _, _, rfl, rfl, ?_⟩
      exact k.nx _ _ _ _ M1 (e1.trans (e2 _)) ((((R1.new hp (by intro _ z; cases z)).set (ZV.mono (e2 _) a)).set (ZV.mono (e2 _) b)).set (ZV.mono (e2 _) c)) q) k.xok
end Z
/-! all of a list of bools -/
namespace Z
open PySem PySem.Spec PyProof.Rows L2
open Evl (Ex)
end Z
/-! a def that hands back None or a new own object; an own object is not None; a tuple many times -/
namespace Z
open PySem PySem.Spec PyProof.Rows L2
open Evl (Ex)
/-- None, or an object of a class with its fields -/
abbrev MayO := Option (Addr × List (Str × ZV))
def spM (K : Fg) (k : Nat) (R : List PyData → MayO → Prop) : Sp := fun vs H Q E => ∃ (G : Hp) (ds : List PyData) (o : MayO), Ex G H ∧ ds.length = k ∧ DzAll K G vs ds ∧ R ds o ∧
  (o = none → ∀ G' H', Ext [] G H G' H' → Q .non H') ∧
  (∀ C fs, o = some (C, fs) → ∀ p G' H', Ext [] G H G' H' → H p = none → G' p = none → CD.at K G' H' p (.obj C fs) → Q (.ref p) H')
section
variable {K : Fg} {E : L2.St → XK} {e0 : XK} {te ta tb : TE} {tA : TA} {t : TS} {S : Zs} {M : Ms} {P : ZP} {Q : QZ} {X : XZ} {n : Sn} {σ : L2.St} {G G' H H' : Hp}
theorem zw_callM0 {ar : Nat} {R : List PyData → MayO → Prop} (h : ZA K E tA S M (fun zs M1 => ∃ ds o, AllD zs ds ∧ ds.length = ar ∧ R ds o ∧ (o = none → Q (.d .none) M1) ∧ ∀ C fs, o = some (C, fs) → ∀ p, Q (.c p) ((p, true, .obj C fs) :: M1)) X) : ZW K E (tCall (spM K ar R) [] E0 tA) S M Q X := fun n σ G H Rl Qv k kx =>
  h n σ G H Rl _ (fun vs G1 H1 zs M1 e1 R1 a1 ⟨ds, o, hd, hk, hR, q0, q1⟩ => by
    refine ⟨G1, ds, o, R1.ex, hk, ?_, hR, fun ho G' H' e => k .non G' H' (.d .none) M1 (e1.trans e.g) (R1.call e) .non (q0 ho), fun C fs ho p G' H' e hp hg hc => ?_⟩
    · rw [List.append_nil]
      exact zall_d (by rw [← hd]; exact a1)
    · exact k (.ref p) G' H' (.c p) _ (e1.trans e.g) ((R1.call e).cell (R1.fresh hp) (R1.notin hp) hg hc) rfl (q1 C fs ho p)) kx
theorem zs_perm {t : TS} {P : ZP} {M' : Ms} (hp : M.Perm M') (h : ZS K E t S M' P) : ZS K E t S M P := fun n σ G H R D k => h n σ G H (R.perm hp) D k
theorem zo_notNC {p : Addr} (q : Q (.d (.bool true)) M) : ZO K (fun x y H Q => y = V.non ∧ Q (.bl (!decide (x = V.non))) H) (.c p) (.d .none) M Q := fun n S σ G H R v u a b Qv k => by
  obtain rfl : v = .ref p := a
  refine ⟨dp_non b, ?_⟩
  rw [decide_eq_false (fun z => nomatch z)]
  exact k (.bl true) G H (.d (.bool true)) M (Ex.refl G) R (Dz.bl _) q
theorem zo_isNC {p : Addr} (q : Q (.d (.bool false)) M) : ZO K (fun x y H Q => y = V.non ∧ Q (.bl (decide (x = V.non))) H) (.c p) (.d .none) M Q := fun n S σ G H R v u a b Qv k => by
  obtain rfl : v = .ref p := a
  refine ⟨dp_non b, ?_⟩
  rw [decide_eq_false (fun z => nomatch z)]
  exact k (.bl false) G H (.d (.bool false)) M (Ex.refl G) R (Dz.bl _) q
theorem dpa_flat_rep {vs : List V} {ds : List PyData} (h : DzAll K G vs ds) : ∀ k : Nat, DzAll K G (List.replicate k vs).flatten (List.replicate k ds).flatten
  | 0 => .nil
  | k + 1 => by
    rw [List.replicate_succ, List.replicate_succ, List.flatten_cons, List.flatten_cons]
    exact dpa_app h (dpa_flat_rep h k)
end
end Z
/-! min over a list of nested data; [e for x in a list for y in range(n)] -/
namespace Z
open PySem PySem.Spec PyProof.Rows L2
open Evl (Ex)
end Z
/-! dicts by whole numbers or texts: k in d, d.pop(k), {k: e for ..}; own lists: pop, extend, walked, made by comprehensions, sorted; every second of four -/
namespace Z
open PySem PySem.Spec PyProof.Rows L2
open Evl (Ex)
abbrev DKr (K : Fg) (G : Hp) : List (Key × V) → List (Key × PyData) → Prop := Paired (fun a b => a.1 = b.1 ∧ Dz K G a.2 b.2)
/-- what is held by a key -/
def heldK (kvs : List (Key × PyData)) (k : Key) : Option PyData := (kvs.find? fun kv => decide (kv.1 = k)).map (·.2)
def dropD (kvs : List (Key × PyData)) (k : Key) : List (Key × PyData) := kvs.filter fun kv => decide (kv.1 ≠ k)
def putD (kvs : List (Key × PyData)) (k : Key) (d : PyData) : List (Key × PyData) := if (kvs.any fun kv => decide (kv.1 = k)) = true then kvs.map fun kv => if kv.1 = k then (kv.1, d) else kv else kvs ++ [(k, d)]
section
variable {K : Fg} {E : L2.St → XK} {te ta td tk tv to : TE} {tA tB : TA} {g g1 : TG} {tt : TT} {t : TS} {S S' : Zs} {M M' : Ms} {Q : QZ} {X : XZ} {P : ZP} {n : Sn} {σ : L2.St} {G G' H H' : Hp} {p : Addr}
theorem heldK_rel {ws : List (Key × V)} {kvs : List (Key × PyData)} (h : DKr K G ws kvs) (k : Key) : (heldK kvs k = none ∧ valV ws k = none) ∨ ∃ d v, heldK kvs k = some d ∧ valV ws k = some v ∧ Dz K G v d := by
  induction h with
  | nil => exact .inl (And.intro rfl rfl)
  | @cons a b ws kvs q _ ih =>
    unfold heldK valV at ih ⊢
    rw [List.find?_cons, List.find?_cons, ← q.1]
    by_cases e : a.1 = k
    · rw [decide_eq_true e]
      exact .inr ⟨_, _, rfl, rfl, q.2⟩
    · rw [decide_eq_false e]
      exact ih
theorem dropD_rel {ws : List (Key × V)} {kvs : List (Key × PyData)} (h : DKr K G ws kvs) (k : Key) : DKr K G (dropK ws k) (dropD kvs k) := by
  induction h with
  | nil => exact .nil
  | @cons a b ws kvs q _ ih =>
    unfold dropK dropD at ih ⊢
    rw [List.filter_cons, List.filter_cons, ← q.1]
    split
    · exact .cons q ih
    · exact ih
theorem Rel.putDK {b : Bool} {xs ys : List (Key × PyData)} {ws : List (Key × V)} (R : Rel K n S M σ G H) (u : Upd1 p b (.dK xs) (.dK ys) M M') (h : DKr K G ws ys) : Rel K n S M' σ G (upd H p (.dK ws)) := by
  obtain ⟨_, vs, h1, _⟩ := R.ce p b _ u.mem
  exact R.put u (fun x z => by rw [h1] at z; cases z) ⟨ws, upd_same, h⟩
/-- d.pop(i) -/
theorem zw_dpopK (h : ZW K E td S M (fun z M1 => ∃ p, z = .c p ∧ (∃ b kvs, (p, b, CD.dK kvs) ∈ M1) ∧ ZW K E tk S M1 (fun y M2 => ∃ (i : Int) (b : Bool) (kvs : List (Key × PyData)) (d : PyData) (M3 : Ms), y = .d (.int i) ∧ heldK kvs (.inl i) = some d ∧ Upd1 p b (.dK kvs) (.dK (dropD kvs (.inl i))) M2 M3 ∧ Q (.d d) M3) X) X) : ZW K E (tDPop1 td tk) S M Q X := fun n σ G H R Qv k kx =>
  h n σ G H R _ (fun v G1 H1 z M1 e1 R1 a1 ⟨p, hz, ⟨b0, kvs0, hm0⟩, h2⟩ => by
    subst hz
    obtain rfl : v = .ref p := a1
    obtain ⟨_, ws0, hw0, _⟩ := R1.ce p b0 _ hm0
    refine ⟨p, rfl, .inl ⟨ws0, .inl hw0⟩, h2 n σ G1 H1 R1 _ (fun y G2 H2 zy M2 e2 R2 a2 ⟨i, b, kvs, d, M3, hy, hd, hu, q⟩ => ?_) (kx.mono e1)⟩
    subst hy
    obtain rfl : y = .int i := dp_int a2
    obtain ⟨_, ws, hw, rel⟩ := R2.ce p b _ hu.mem
    rcases heldK_rel rel (.inl i) with ⟨x1, _⟩ | ⟨d', v, x1, x2, x3⟩
    · rw [hd] at x1
      cases x1
    · rw [hd] at x1
      cases x1
      exact ⟨ws, .inl i, v, hw, rfl, x2, k v G2 _ (.d d) M3 (e1.trans e2) (R2.putDK hu (dropD_rel rel _)) x3 q⟩) kx
/-! ### own lists -/
theorem dpa_snoc : ∀ {ys : List PyData} {d : PyData} {vs : List V}, DzAll K G vs (ys ++ [d]) → ∃ us v, vs = us ++ [v] ∧ DzAll K G us ys ∧ Dz K G v d
  | [], d, vs, h => by
    cases h with
    | cons a b => cases b; exact ⟨[], _, rfl, .nil, a⟩
  | y :: ys, d, vs, h => by
    cases h with
    | cons a b =>
      obtain ⟨us, v, e, h1, h2⟩ := dpa_snoc (ys := ys) b
      exact ⟨_ :: us, v, by rw [e]; rfl, .cons a h1, h2⟩
/-- xs.pop() -/
theorem zw_lpop (h : ZW K E to S M (fun z M1 => ∃ (p : Addr) (b : Bool) (ys : List PyData) (d : PyData) (M2 : Ms), z = .c p ∧ Upd1 p b (.lst (ys ++ [d])) (.lst ys) M1 M2 ∧ Q (.d d) M2) X) : ZW K E (tBM0 K "list" rPop to) S M Q X := fun n σ G H R Qv k kx =>
  h n σ G H R _ (fun v G1 H1 z M1 e1 R1 a1 ⟨p, b, ys, d, M2, hz, hu, q⟩ => by
    subst hz
    obtain rfl : v = .ref p := a1
    obtain ⟨_, ws, hw, hd⟩ := R1.ce p b _ hu.mem
    obtain ⟨us, u, rfl, h1, h2⟩ := dpa_snoc hd
    refine ⟨.inl ⟨rfl, _, Evl.sq_of hw⟩, p, us ++ [u], u, rfl, rfl, hw, by simp, ?_⟩
    rw [List.dropLast_concat]
    exact k u G1 _ (.d d) M2 e1 (R1.putLst hu h1) h2 q) kx
/-- xs.extend(ys), two own lists -/
theorem zw_lext (h : ZW K E to S M (fun z M1 => ∃ p, z = .c p ∧ (∃ b xs, (p, b, CD.lst xs) ∈ M1) ∧ ZW K E te S M1 (fun y M2 => ∃ (p2 : Addr) (b b2 : Bool) (xs zs : List PyData) (M3 : Ms), y = .c p2 ∧ (p2, b2, CD.lst zs) ∈ M2 ∧ xs.length + zs.length ≤ sizeLine ∧ Upd1 p b (.lst xs) (.lst (xs ++ zs)) M2 M3 ∧ Q (.d .none) M3) X) X) : ZW K E (tBM K "list" rExtend to (tCons te tNil)) S M Q X := fun n σ G H R Qv k kx =>
  h n σ G H R _ (fun v G0 H0 z M0 e0 R0 a0 ⟨p, hz, ⟨b0, xs0, hm0⟩, h2⟩ => by
    subst hz
    obtain rfl : v = .ref p := a0
    obtain ⟨_, ws0, h3, _⟩ := R0.ce p b0 _ hm0
    refine ⟨.inl ⟨rfl, ws0, Evl.sq_of h3⟩, h2 n σ G0 H0 R0 _ (fun u G1 H1 y M1 e1 R1 a1 ⟨p2, b, b2, xs, zs, M3, hy, hm2, hl, hu, q⟩ => ?_) (kx.mono e0)⟩
    subst hy
    obtain rfl : u = .ref p2 := a1
    obtain ⟨_, ws, h4, h5⟩ := R1.ce p b _ hu.mem
    obtain ⟨_, us, h6, h7⟩ := R1.ce p2 b2 _ hm2
    exact ⟨p, p2, ws, us, rfl, rfl, h4, h6, by rw [dpa_len h5, dpa_len h7]; exact hl, k .non G1 _ (.d .none) M3 (e0.trans e1) (R1.putLst hu (dpa_app h5 h7)) Dz.non q⟩) kx
/-! ### {k: e for .. in a tuple}, k a whole number -/
end
end Z
/-! t[1::2], t a tuple of four; [e for x in range(a, b) for y in range(c, d)] where e reads own things -/
namespace Z
open PySem PySem.Spec PyProof.Rows L2
open Evl (Ex)
section
variable {K : Fg} {E : L2.St → XK} {te : TE} {tA tB : TA} {g g1 : TG} {S : Zs} {M : Ms} {Q : QZ} {X : XZ}
/-- what is behind a statement with fewer cells -/
theorem zs_post {t : TS} {P : ZP} {N : Zs → Ms → Prop} (h : ZS K E t S M { P with nx := N }) (hi : ∀ S' M', N S' M' → ∃ M2, M2.Sublist M' ∧ P.nx S' M2) : ZS K E t S M P := fun n σ G H R D k =>
  h n σ G H R D ⟨fun σ' G' H' S' M' e R' z => by
    obtain ⟨M2, h1, h2⟩ := hi S' M' z
    exact k.nx σ' G' H' S' M2 e (R'.drop h1) h2, k.rt, k.bk, k.ct, k.ex⟩
/-- an expression of two ways to the same value -/
theorem zw_cut {z0 : ZV} {M0 : Ms} (h : ZW K E te S M (fun z M1 => z = z0 ∧ M1 = M0) X) (q : Q z0 M0) : ZW K E te S M Q X := fun n σ G H R Qv k kx => h n σ G H R Qv (fun v G1 H1 z M1 e R1 a hh => by
  rw [hh.1] at a
  rw [hh.2] at R1
  exact k v G1 H1 z0 M0 e R1 a q) kx
end
end Z
/-! x in a list of nested data; sorted of nested data that stand in order -/
namespace Z
open PySem PySem.Spec PyProof.Rows L2
open Evl (Ex)
/-- xs + ys, two lists -/
def rCatD (K : Fg) : R2 := fun x y H Q => ∃ (a b : Addr) (xs ys : List V), x = .ref a ∧ y = .ref b ∧ SqL K H a xs ∧ SqL K H b ys ∧ xs.length + ys.length ≤ sizeLine ∧ ∀ p, H p = none → Q (.ref p) (upd H p (.lst (xs ++ ys)))
theorem op_catD {X : Cx} : OpR X (binaryOp .Add) (rCatD X.K) := by
  rintro pins s σ H x y v u Q I rx ry ⟨a, b, xs, ys, rfl, rfl, h1, h2, hl, q⟩
  obtain rfl : v = Value.ref a := rx
  obtain rfl : u = Value.ref b := ry
  obtain ⟨its, rv, p1, _⟩ := I.list h1
  obtain ⟨jts, rw, p2, _⟩ := I.list h2
  obtain ⟨⟨c1, dd1, da1, sl1⟩, n1, g1, rfl, rfl, rfl⟩ := p1
  obtain ⟨⟨c2, dd2, da2, sl2⟩, n2, g2, rfl, rfl, rfl⟩ := p2
  have hsz : its.toArray.size + jts.toArray.size ≤ sizeLine := by
    have := rv.length
    have := rw.length
    simp
    omega
  have hv := L2.Vals.append rv rw
  have I2 := I.lnew (t' := s.toks) hv (by rw [List.length_append]; exact hl)
  rw [← List.append_toArray] at I2
  refine PySem.concat_meets (T := "list") (id := "list.__add__") ⟨_, g1, rfl⟩ ⟨_, g2, rfl⟩ PySem.noFill_list_add PySem.seq_list_add PySem.F.slot_list_add PySem.F.entry_list_add (PySem.F.args_list_add_2 _ _) (PyProof.Rows.list_addW a b its.toArray jts.toArray n1 n2 none none sl1 sl2 hsz) ⟨g1, g2, ?_⟩
  exact ⟨.ref _, _, I2, rfl, q _ I.fresh⟩
section
variable {K : Fg} {E : L2.St → XK} {S : Zs} {M : Ms} {Q : QZ} {X : XZ}
theorem zo_catD {xs ys : List PyData} (hl : xs.length + ys.length ≤ sizeLine) (q : Q (.d (.list (xs ++ ys))) M) : ZO K (rCatD K) (.d (.list xs)) (.d (.list ys)) M Q := fun n S σ G H R v u a b Qv k => by
  obtain ⟨p, vs, rfl, h1, h2⟩ := dp_lst a
  obtain ⟨p2, us, rfl, h3, h4⟩ := dp_lst b
  refine ⟨p, p2, vs, us, rfl, rfl, Evl.ex_l R.ex h1, Evl.ex_l R.ex h3, by rw [dpa_len h2, dpa_len h4]; exact hl, fun r hr => ?_⟩
  have gr := ex_gnone R.ex hr
  exact k (.ref r) _ _ (.d (.list (xs ++ ys))) M (Ex.new gr) (R.new hr (fun _ z => nomatch z)) (Dz.lst (Evl.sq_of upd_same) (dpAll_mono (Ex.new gr) (dpa_app h2 h4))) q
end
end Z
/-! sorted(a set of rows of ints of any size) -/
namespace Z
open PySem PySem.Spec PyProof.Rows L2
open Evl (Ex)
/-- sorted(a set of rows) -/
def rSortSet (K : Fg) (P : Program) (w : World) : List V → Hp → VK → Prop := fun vs H Q => ∃ (a : Addr) (L : List (Addr × List Int)), vs = [V.ref a] ∧ H a = some (SetTO P w a L) ∧ (∀ p ∈ L, SqT K H p.1 (p.2.map V.int)) ∧ (∀ p ∈ L, p.2 ≠ []) ∧
  ∀ (L' : List (Addr × List Int)) (r : Addr), L'.Perm L → L'.Pairwise (fun q r => leI q.2 r.2 = true) → H r = none → Q (.ref r) (upd H r (.lst (L'.map fun q => V.ref q.1)))
end Z
/-! set(a tuple of rows), sorted of it -/
namespace Z
open PySem PySem.Spec PyProof.Rows L2
open Evl (Ex)
/-- set(t), t a tuple of few rows -/
def rSetTup (K : Fg) (P : Program) (w : World) : List V → Hp → VK → Prop := fun vs H Q => ∃ (l : Addr) (ks : List (Addr × List Int)), vs = [V.ref l] ∧ SqT K H l (ks.map fun p => V.ref p.1) ∧ (∀ p ∈ ks, SqT K H p.1 (p.2.map V.int)) ∧ ks.length < 64 ∧
  ∀ (r : Addr) (L : List (Addr × List Int)), H r = none → (∀ p ∈ L, p ∈ ks) → (L.map (·.2)).Nodup → (∀ p ∈ ks, p.2 ∈ L.map (·.2)) → Q (.ref r) (upd H r (SetTO P w r L))
section
variable {K : Fg} {E : L2.St → XK} {tA : TA} {S : Zs} {M : Ms} {Q : QZ} {X : XZ} {P : Program} {w : World}
theorem rows_at {G : Hp} : ∀ {ws : List V} {rows : List (List Int)}, Paired (fun v r => Dz K G v (rowD r)) ws rows → ∃ ks : List (Addr × List Int), ws = ks.map (fun p => V.ref p.1) ∧ rows = ks.map (·.2) ∧ ∀ p ∈ ks, Dz K G (.ref p.1) (rowD p.2)
  | _, _, .nil => ⟨[], rfl, rfl, fun _ h => nomatch h⟩
  | v :: _, r :: _, .cons a b => by
    obtain ⟨ks, h1, h2, h3⟩ := rows_at b
    obtain ⟨p, _, rfl, _, _⟩ := dp_tup a
    refine ⟨(p, r) :: ks, by rw [h1]; rfl, by rw [h2]; rfl, fun x hx => ?_⟩
    rcases List.mem_cons.mp hx with rfl | hx
    · exact a
    · exact h3 x hx
/-- sorted(set(t)), t a tuple of few rows, all different -/
theorem zw_sortSet (h : ZA K E tA S M (fun zs M1 => ∃ rows : List (List Int), zs = [.d (.tuple (rows.map rowD))] ∧ rows.length < 64 ∧ (∀ r ∈ rows, r ≠ []) ∧ rows.Nodup ∧ Q (.d (.list ((sortI rows).map rowD))) M1) X) : ZW K E (tCB (rSortSet K P w) (tCons (tCB (rSetTup K P w) tA) tNil)) S M Q X := fun n σ G H R Qv k kx =>
  h n σ G H R _ (fun vs G1 H1 zs M1 e1 R1 a1 ⟨rows, hz, hl, h0, hn, q⟩ => by
    subst hz
    obtain ⟨v, rfl, av⟩ := zall1 a1
    obtain ⟨p, ws, rfl, h1, h2⟩ := dp_tup av
    obtain ⟨ks, rfl, rfl, h3⟩ := rows_at (dza_rows h2)
    have h4 : ∀ {H' : Hp}, Ex G1 H' → ∀ p ∈ ks, SqT K H' p.1 (p.2.map V.int) := fun e p hp => by
      obtain ⟨t, ht, hs⟩ := dz_row e (h3 p hp)
      cases ht
      exact hs
    refine ⟨p, ks, rfl, Evl.ex_t R1.ex h1, h4 R1.ex, by rw [List.length_map] at hl; exact hl, fun r L hr hs hd ha => ?_⟩
    have R2 := R1.lay (o := SetTO P w r L) hr
    refine ⟨r, L, rfl, upd_same, fun p hp => h4 R2.ex p (hs p hp), fun p hp => h0 _ (List.mem_map.mpr ⟨p, hs p hp, rfl⟩), fun L' r2 pm pw hr2 => ?_⟩
    have gr := ex_gnone R2.ex hr2
    have pr : (L'.map (·.2)).Perm (ks.map (·.2)) := by
      refine (pm.map _).trans ((List.perm_ext_iff_of_nodup hd hn).mpr fun x => ⟨fun hx => ?_, fun hx => ?_⟩)
      · obtain ⟨p, hp, rfl⟩ := List.mem_map.mp hx
        exact List.mem_map.mpr ⟨p, hs p hp, rfl⟩
      · obtain ⟨p, hp, rfl⟩ := List.mem_map.mp hx
        exact ha p hp
    have es : L'.map (·.2) = sortI (ks.map (·.2)) := sortI_uniq pr (List.pairwise_map.mpr pw)
    refine k (.ref r2) _ _ (.d (.list ((sortI (ks.map (·.2))).map rowD))) M1 (e1.trans (Ex.new gr)) (R2.new hr2 (fun _ z => nomatch z)) (Dz.lst (Evl.sq_of upd_same) (dpAll_mono (Ex.new gr) ?_)) q
    rw [← es]
    have go : ∀ l : List (Addr × List Int), (∀ p ∈ l, p ∈ ks) → DzAll K G1 (l.map fun q => V.ref q.1) ((l.map (·.2)).map rowD) := by
      intro l
      induction l with
      | nil => exact fun _ => .nil
      | cons a l ih => exact fun hm => .cons (h3 a (hm a List.mem_cons_self)) (ih fun p hp => hm p (List.mem_cons_of_mem _ hp))
    exact go L' fun p hp => hs p (pm.mem_iff.mp hp)) kx
end
/-! a comprehension within a comprehension: the names of its block -/
end Z
/-! own lists of own lists: made empty by a comprehension, indexed, taken as data -/
namespace Z
open PySem PySem.Spec PyProof.Rows L2
open Evl (Ex)
/-- the cells of the inner lists -/
def nestM (qs : List Addr) (xss : List (List PyData)) : Ms := (qs.zip xss).map fun p => (p.1, true, CD.lst p.2)
theorem nest_snoc {qs : List Addr} {xss : List (List PyData)} (h : qs.length = xss.length) (q : Addr) (xs : List PyData) : nestM (qs ++ [q]) (xss ++ [xs]) = nestM qs xss ++ [(q, true, .lst xs)] := by
  unfold nestM
  rw [List.zip_append h, List.map_append]
  rfl
section
variable {K : Fg} {E : L2.St → XK} {te : TE} {tA : TA} {S : Zs} {M M' : Ms} {Q : QZ} {X : XZ} {n : Sn} {σ : L2.St} {G H : Hp} {p : Addr}
theorem zall_app {vs ws : List V} {zs ys : List ZV} (h : ZAll K G vs zs) (k : ZAll K G ws ys) : ZAll K G (vs ++ ws) (zs ++ ys) := by
  induction h with
  | nil => exact k
  | cons a _ ih => exact .cons a ih
/-- [[] for _ in range(n)] -/
theorem zw_lcNew {i : Nat} {vs : List Nat} (hv : vs = [i]) (h : ZA K E tA S M (fun zs M1 => ∃ j : Nat, zs = [.d (.int (j : Int))] ∧ j ≤ sizeLine ∧ ∀ D qs, qs.length = j → Q (.c D) ((D, true, .lz (qs.map ZV.c)) :: (nestM qs (List.replicate j []) ++ M1))) X) : ZW K E (tLc (iRng1 tA) (gName i) tYes (tLst tNil) vs) S M Q X := fun n σ G H R Qv k kx => by
  subst hv
  exact h n σ G H R _ (fun us G1 H1 zs M1 e1 R1 a1 ⟨j, hz, l1, id⟩ => by
    subst hz
    obtain ⟨v, rfl, av⟩ := zall1 a1
    obtain rfl := dp_int av
    have hs : (sizeLine : Nat) = 16777216 := sizeLine_eq
    refine ⟨j, rfl, by omega, by omega, fun D hD => ?_⟩
    let I : Nat → Hp → Prop := fun m H' => ∃ (qs : List Addr) (G' : Hp), qs.length = m ∧ Rel K n (wipeZ S [i]) ((D, true, .lz (qs.map ZV.c)) :: (nestM qs (List.replicate m []) ++ M1)) (L2.wipe σ [i]) G' H' ∧ Ex G1 G'
    have R0 : Rel K n S ((D, true, .lz []) :: M1) σ G1 (upd H1 D (.lst [])) := (R1.lay hD).cell (R1.fresh hD) (R1.notin hD) (ex_gnone R1.ex hD) ⟨[], upd_same, .nil⟩
    refine lc_range (n := (j : Int).toNat) I ⟨[], G1, rfl, R0.wipe [i], Ex.refl _⟩ (fun m H' hm ⟨qs, G', hq, R', e'⟩ => ?_) fun H' ⟨qs, G', hq, R', e'⟩ => ?_
    · have hm : m < j := by omega
      have zg := zg_name (K := K) (i := i) (S := wipeZ S [i]) (z := .d (.int (0 + (m : Int))))
      refine zg n _ _ G' H' _ R' (Dz.int _) _ fun σ2 l2 g2 R2 => ⟨wipe_eq l2 fun b hb => g2 b hb, ?_⟩
      unfold tYes
      dsimp only
      rw [if_pos rfl]
      refine ⟨Nat.zero_le _, fun q hq2 => ?_⟩
      have R3 := R2.newLst (xs := []) hq2 .nil
      obtain ⟨_, ws, w1, w2⟩ := R3.ce D true _ (List.mem_cons_of_mem _ List.mem_cons_self)
      have wl := paired_len w2
      rw [List.length_map] at wl
      refine ⟨ws, w1, by omega, qs ++ [q], G', by rw [List.length_append, List.length_singleton, hq], ?_, e'⟩
      have R4 : Rel K n _ ((q, true, .lst []) :: (D, true, .lz ((qs ++ [q]).map ZV.c)) :: (nestM qs (List.replicate m []) ++ M1)) σ2 G' (upd (upd H' q (.lst [])) D (.lst (ws ++ [V.ref q]))) :=
        R3.put (.there .here) (fun x z => by rw [w1] at z; cases z) ⟨_, upd_same, by rw [List.map_append]; exact zall_app w2 (.cons rfl .nil)⟩
      have R5 := R'.reslot R4 (Ex.refl _)
      rw [List.replicate_succ', nest_snoc (by rw [hq, List.length_replicate])]
      refine R5.perm ((List.Perm.swap _ _ _).trans (List.Perm.cons _ ?_))
      rw [List.append_assoc]
      exact List.perm_middle.symm
    · have e : (j : Int).toNat = j := by omega
      rw [e] at hq R'
      exact k (.ref D) G' H' (.c D) _ (e1.trans e') (R1.reslot R' e') rfl (id D qs hq)) kx
end
end Z
/-! for i, sign in enumerate(text) -/
namespace Z
open PySem PySem.Spec PyProof.Rows L2
open Evl (Ex)
/-- each turn a new pair: the place and the sign -/
def ItE (z : Str) : It where
  go i _ := i < z.cps.size
  yld i H v H' := ∃ T c, (H T = none ∧ v = .ref T ∧ H' = upd H T (.tup [.int (i : Nat), .str ⟨#[c]⟩])) ∧ z.cps[i]? = some c
  stop i _ := i = z.cps.size
/-- enumerate(text) as what a loop walks -/
def iEnumS (ta : TA) : TI := fun σ H R => ta σ H fun vs H1 => ∃ z, vs = [.str z] ∧ R (ItE z) H1
section
variable {K : Fg} {E : L2.St → XK} {tA : TA} {g : TG} {t : TS} {S : Zs} {M : Ms} {P : ZP}
theorem zs_forE2 (h : ZA K E tA S M (fun zs M1 => ∃ z : Str, zs = [.d (.str z)] ∧ ∃ I : Nat → Zs → Ms → Prop, I 0 S M1 ∧
      (∀ i c S' M', z.cps[i]? = some c → I i S' M' → ∃ is S2, ZG K g (.d (.tuple [.int (i : Nat), .str ⟨#[c]⟩])) S' is S2 ∧ ZS K E t S2 M' (LoopP P (I (i + 1)))) ∧ (∀ S' M', I z.cps.size S' M' → P.nx S' M')) P.ex) : ZS K E (tFor (iEnumS tA) g t) S M P := by
  intro n σ G H R D k
  refine h n σ G H R _ (fun vs G1 H1 zs M1 e1 R1 a1 ⟨z, hz, I, i0, is, id⟩ => ?_) k.xok
  subst hz
  obtain ⟨v, rfl, av⟩ := zall1 a1
  obtain rfl := dp_str av
  refine ⟨z, rfl, fun i m σ' H' => m = z.cps.size - i ∧ i ≤ z.cps.size ∧ FI K n G1 I i σ' H', ⟨_, rfl, Nat.zero_le _, G1, S, M1, R1, Ex.refl _, i0⟩, ?_⟩
  rintro i m σ' H' ⟨rfl, hi, G', S', M', R', e', hI⟩
  by_cases hlt : i < z.cps.size
  · refine .inr ⟨hlt, FI K n G1 I (i + 1), fun σ2 H2 q => ⟨_, by omega, rfl, hlt, q⟩, fun y H2 hy => ?_⟩
    obtain ⟨T, c, ⟨hT, rfl, rfl⟩, hc⟩ := hy
    have gT := ex_gnone R'.ex hT
    have R2 := R'.new (o := .tup [.int (i : Nat), .str ⟨#[c]⟩]) hT (fun _ z => nomatch z)
    obtain ⟨js, S2, hg, hb⟩ := is i c S' M' hc hI
    have pair : Dz K (upd G' T (.tup [.int (i : Nat), .str ⟨#[c]⟩])) (.ref T) (.tuple [.int (i : Nat), .str ⟨#[c]⟩]) := .tup (.inl upd_same) (.cons (.int _) (.cons (.str _) .nil))
    refine hg n M' σ' _ _ _ R2 pair _ fun σ2 _ _ R3 => hb n σ2 _ _ R3 _ ((k.mono ((e1.trans e').trans (Ex.new gT))).loop fun σ3 G3 H3 S3 M3 e3 R4 i3 => ⟨G3, S3, M3, R4, (e'.trans (Ex.new gT)).trans e3, i3⟩)
  · have e : i = z.cps.size := by omega
    subst e
    exact .inl ⟨rfl, k.nx σ' G' H' S' M' (e1.trans e') R' (id S' M' hI)⟩
end
end Z
/-! a sign in a text, its place, the sign at a place; dict(pairs), d.get, list(d) of dicts by whole numbers -/
namespace Z
open PySem PySem.Spec PyProof.Rows L2
open Evl (Ex)
section
variable {K : Fg} {E : L2.St → XK} {te td tk tv : TE} {tA : TA} {S : Zs} {M : Ms} {Q : QZ} {X : XZ} {n : Sn} {σ : L2.St} {G H : Hp} {p : Addr}
/-! ### texts as lists of codes -/
abbrev rInSg : R2 := fun x y H Q => ∃ (c : Nat) (z : Str), x = .str ⟨#[c]⟩ ∧ y = .str z ∧ Q (.bl (decide (c ∈ z.cps.toList))) H
/-- sign in text -/
theorem zo_inSg {c : Nat} {l : List Nat} (q : Q (.d (.bool (decide (c ∈ l)))) M) : ZO K rInSg (.d (.str (SX.S [c]))) (.d (.str (SX.S l))) M Q :=
  zo_val (z := .d (.bool (decide (c ∈ l)))) (fun G H v u _ a b => ⟨_, .bl _, fun Qv h => ⟨c, SX.S l, dp_str a, dp_str b, h⟩⟩) q
/-! ### dicts by whole numbers -/
end
end Z
/-! a method of an object with one own part, called from another method of it -/
namespace Z
open PySem PySem.Spec PyProof.Rows L2
open Evl (Ex)
end Z
/-! an object with several own parts, which stay where they are: made by a def, changed by its methods -/
namespace Z
open PySem PySem.Spec PyProof.Rows L2
open Evl (Ex)
abbrev FsP := List Addr → List (Str × ZV)
def pM (b : Bool) (qs : List Addr) (cds : List CD) : Ms := (qs.zip cds).map fun x => (x.1, b, x.2)
theorem pM_mem {b b' : Bool} {qs : List Addr} {cds : List CD} {q : Addr} {c : CD} : (q, b', c) ∈ pM b qs cds ↔ b' = b ∧ (q, c) ∈ qs.zip cds := by
  unfold pM
  rw [List.mem_map]
  constructor
  · rintro ⟨⟨q2, c2⟩, h, e⟩
    cases e
    exact ⟨rfl, h⟩
  · rintro ⟨rfl, h⟩
    exact ⟨_, h, rfl⟩
theorem pM_fst {b : Bool} {qs : List Addr} {cds : List CD} (h : qs.length = cds.length) : (pM b qs cds).map (·.1) = qs := by
  unfold pM
  rw [List.map_map]
  exact List.map_fst_zip (Nat.le_of_eq h)
/-- __init__ -/
def spJ (K : Fg) (C : Addr) (k : Nat) (R : List PyData → FsP → List CD → Prop) : Sp := fun vs H Q E => ∃ (G : Hp) (p : Addr) (us : List V) (ds : List PyData) (fs : FsP) (cds : List CD), vs = .ref p :: us ∧ ds.length = k ∧ Ex G H ∧ G p = none ∧ CD.at K G H p (.obj C []) ∧ DzAll K G us ds ∧ R ds fs cds ∧
  ∀ qs G' H', Ext [p] G H G' H' → (∀ a x, H a = some (.own x) → H' a = some (.own x)) → qs.length = cds.length → (p :: qs).Nodup → (∀ q ∈ qs, H q = none ∧ G' q = none) → CD.at K G' H' p (.obj C (fs qs)) → (∀ q c, (q, c) ∈ qs.zip cds → CD.at K G' H' q c) → Q .non H'
/-- a method; nothing is raised -/
def spG (K : Fg) (C : Addr) (k : Nat) (R : FsP → List CD → List PyData → PyData → FsP → List CD → Prop) : Sp := fun vs H Q E => ∃ (G : Hp) (p : Addr) (qs : List Addr) (fs : FsP) (cds : List CD) (us : List V) (ds : List PyData) (d : PyData) (fs' : FsP) (cds' : List CD),
  vs = .ref p :: us ∧ ds.length = k ∧ Ex G H ∧ (p :: qs).Nodup ∧ qs.length = cds.length ∧ cds'.length = cds.length ∧ G p = none ∧ (∀ q ∈ qs, G q = none) ∧ CD.at K G H p (.obj C (fs qs)) ∧ (∀ q c, (q, c) ∈ qs.zip cds → CD.at K G H q c) ∧ DzAll K G us ds ∧ R fs cds ds d fs' cds' ∧
  ∀ v G' H', Ext (p :: qs) G H G' H' → (∀ a x, H a = some (.own x) → H' a = some (.own x)) → CD.at K G' H' p (.obj C (fs' qs)) → (∀ q c, (q, c) ∈ qs.zip cds' → CD.at K G' H' q c) → Dz K G' v d → Q v H'
section
variable {K : Fg} {E : L2.St → XK} {e0 : XK} {te : TE} {tA : TA} {t : TS} {S : Zs} {M M2 : Ms} {Q : QZ} {X : XZ} {n : Sn} {σ : L2.St} {G G' H H' : Hp} {p C : Addr}
theorem parts_nd {b b' : Bool} {c : CD} {qs : List Addr} {cds : List CD} (R : Rel K n S ((p, b, c) :: (pM b' qs cds ++ M)) σ G H) (hl : qs.length = cds.length) : (p :: qs).Nodup ∧ ∀ a ∈ p :: qs, a ∉ M.map (·.1) := by
  have nd := R.nd
  rw [List.map_cons, List.map_append, pM_fst hl, ← List.cons_append] at nd
  have h := List.nodup_append.mp nd
  exact ⟨h.1, fun a ha hm => h.2.2 a ha a hm rfl⟩
theorem Rel.callN {b b' : Bool} {c c' : CD} {qs : List Addr} {cds cds' : List CD} (R : Rel K n S ((p, b, c) :: (pM b' qs cds ++ M)) σ G H) (hl : qs.length = cds.length) (hl' : cds'.length = cds.length) (e : Ext (p :: qs) G H G' H') (own : ∀ a x, H a = some (.own x) → H' a = some (.own x))
    (h1 : CD.at K G' H' p c') (h2 : ∀ q d, (q, d) ∈ qs.zip cds' → CD.at K G' H' q d) : Rel K n S ((p, b, c') :: (pM b' qs cds' ++ M)) σ G' H' := by
  have pn := parts_nd R hl
  have hl2 : qs.length = cds'.length := by omega
  have part : ∀ q ∈ qs, ∃ d, (q, b', d) ∈ (p, b, c) :: (pM b' qs cds ++ M) := fun q hq => by
    obtain ⟨i, hi⟩ := List.mem_iff_getElem?.mp hq
    have hil := (List.getElem?_eq_some_iff.mp hi).1
    have hci := List.getElem?_eq_getElem (l := cds) (i := i) (by omega)
    exact ⟨_, List.mem_cons_of_mem _ (List.mem_append_left _ (pM_mem.mpr ⟨rfl, List.mem_of_getElem? (i := i) (by rw [List.getElem?_zip_eq_some]; exact ⟨hi, hci⟩)⟩))⟩
  have one : ∀ (r : Addr) (f : Bool) (x : CD), (r, f, x) ∈ (p, b, c) :: (pM b' qs cds ++ M) → ∀ o, n.H r = some o → r ∈ n.A := fun r f x hm o ho => by
    cases f with
    | false => exact R.a0 r x hm
    | true => rw [R.o0 r x hm] at ho; cases ho
  have base : ∀ a o, n.H a = some o → a ∉ n.A → a ∉ p :: qs := fun a o h hA z => by
    rcases List.mem_cons.mp z with z | z
    · subst z; exact hA (one _ _ _ List.mem_cons_self o h)
    · obtain ⟨d, hd⟩ := part a z
      exact hA (one _ _ _ hd o h)
  have keep : ∀ (r : Addr) (f : Bool) (x : CD), (r, f, x) ∈ (p, b, c) :: (pM b' qs cds ++ M) → ∀ y, CD.at K G' H' r y → G' r = none := fun r f x hm y hy => by
    obtain ⟨g, hc⟩ := R.ce _ _ _ hm
    obtain ⟨u, hu, _⟩ := CD.there hc
    obtain ⟨u2, hu2, _, nt⟩ := CD.there hy
    exact gn_none e.x (e.f _ u hu g) hu2 nt
  have rest : ∀ x, x ∈ M → x ∈ (p, b, c) :: (pM b' qs cds ++ M) := fun x h => List.mem_cons_of_mem _ (List.mem_append_right _ h)
  refine ⟨e.x, R.len, fun i z hz => ?_, ?_, fun r f x hm => ?_, R.g0.trans e.g, fun a o q1 q2 => e.h a o (R.h0 a o q1 q2) (base a o q1 q2), fun a o q1 => ?_, fun a o q1 q2 => ?_, fun r x hm => ?_, fun r x hm => ?_⟩
  · obtain ⟨v, q1, q2⟩ := R.sl i z hz
    exact ⟨v, q1, ZV.mono e.g q2⟩
  · have nd := R.nd
    rw [List.map_cons, List.map_append, pM_fst hl] at nd
    rw [List.map_cons, List.map_append, pM_fst hl2]
    exact nd
  · rcases List.mem_cons.mp hm with z | hm
    · cases z
      exact ⟨keep _ _ _ List.mem_cons_self _ h1, h1⟩
    · rcases List.mem_append.mp hm with hm | hm
      · obtain ⟨rfl, z⟩ := pM_mem.mp hm
        obtain ⟨d, hd⟩ := part r (List.of_mem_zip z).1
        exact ⟨keep _ _ _ hd _ (h2 r x z), h2 r x z⟩
      · obtain ⟨g, hc⟩ := R.ce r f x (rest _ hm)
        obtain ⟨u, hu, _, nt⟩ := CD.there hc
        have off : r ∉ p :: qs := fun z => pn.2 r z (List.mem_map.mpr ⟨_, hm, rfl⟩)
        exact ⟨gn_none e.x (e.f r u hu g) (e.h _ _ hu off) nt, CD.stay hc e.g (fun o h => e.h _ _ h off) fun a y h => ⟨own a y h, fun g => gn_none e.x (e.f a _ h g) (own a y h) (fun _ z => nomatch z)⟩⟩
  · obtain ⟨o', z⟩ := R.lv a o q1
    exact e.l a o' z
  · obtain ⟨o', z⟩ := R.lv a o q1
    exact gn_trans e.g (R.f0 a o q1 q2) (e.f a o' z)
  · rcases List.mem_cons.mp hm with z | hm
    · cases z; exact R.a0 _ _ List.mem_cons_self
    · rcases List.mem_append.mp hm with hm | hm
      · obtain ⟨rfl, z⟩ := pM_mem.mp hm
        obtain ⟨d, hd⟩ := part r (List.of_mem_zip z).1
        exact R.a0 r d hd
      · exact R.a0 r x (rest _ hm)
  · rcases List.mem_cons.mp hm with z | hm
    · cases z; exact R.o0 _ _ List.mem_cons_self
    · rcases List.mem_append.mp hm with hm | hm
      · obtain ⟨rfl, z⟩ := pM_mem.mp hm
        obtain ⟨d, hd⟩ := part r (List.of_mem_zip z).1
        exact R.o0 r d hd
      · exact R.o0 r x (rest _ hm)
/-- o.m(..) -/
theorem zw_methP {ar : Nat} {m : Str} {R : FsP → List CD → List PyData → PyData → FsP → List CD → Prop} (h : ZW K E te S M (fun z M0 => ∃ p, z = .c p ∧ (∃ b fs0, (p, b, CD.obj C fs0) ∈ M0 ∧ fs0.lookup m = none) ∧ ZA K E tA S M0 (fun zs M1 => ∃ qs b b' fs cds ds d fs' cds' M2, AllD zs ds ∧ ds.length = ar ∧ qs.length = cds.length ∧ cds'.length = cds.length ∧ M1.Perm ((p, b, .obj C (fs qs)) :: (pM b' qs cds ++ M2)) ∧ R fs cds ds d fs' cds' ∧ Q (.d d) ((p, b, .obj C (fs' qs)) :: (pM b' qs cds' ++ M2))) X) X) :
    ZW K E (tMeth C m (spG K C ar R) [] E0 te tA) S M Q X := fun n σ G H Rl Qv k kx =>
  h n σ G H Rl _ (fun v G0 H0 z M0 e0' R0 a0 ⟨p, hz, ⟨b0, fs0, hm0, hl0⟩, h2⟩ => by
    subst hz
    obtain rfl : v = .ref p := a0
    obtain ⟨_, dx, fv, h3, h4, h5, h6⟩ := R0.ce p b0 _ hm0
    refine ⟨p, dx, fv, rfl, h3, (lookup_paired h6 m).1 hl0, h2 n σ G0 H0 R0 _ (fun vs G1 H1 zs M1 e1 R1 a1 ⟨qs, b, b', fs, cds, ds, d, fs', cds', M2, hd, hk, hl, hl', hp, hR, qf⟩ => ?_) (kx.mono e0')⟩
    have R2 := R1.perm hp
    have pn := parts_nd R2 hl
    have mp := R2.ce p b _ List.mem_cons_self
    have mq : ∀ q c, (q, c) ∈ qs.zip cds → G1 q = none ∧ CD.at K G1 H1 q c := fun q c hz => R2.ce q b' c (List.mem_cons_of_mem _ (List.mem_append_left _ (pM_mem.mpr ⟨rfl, hz⟩)))
    have gq : ∀ q ∈ qs, G1 q = none := fun q hq => by
      obtain ⟨i, hi⟩ := List.mem_iff_getElem?.mp hq
      have hil := (List.getElem?_eq_some_iff.mp hi).1
      have hci := List.getElem?_eq_getElem (l := cds) (i := i) (by omega)
      exact (mq q _ (List.mem_of_getElem? (i := i) (by rw [List.getElem?_zip_eq_some]; exact ⟨hi, hci⟩))).1
    refine ⟨G1, p, qs, fs, cds, _, ds, d, fs', cds', by rw [List.append_nil], hk, R1.ex, pn.1, hl, hl', mp.1, gq, mp.2, (fun q c hz => (mq q c hz).2), zall_d (by rw [← hd]; exact a1), hR, fun v G' H' e own c1 c2 a => ?_⟩
    exact k v G' H' (.d d) _ ((e0'.trans e1).trans e.g) (R2.callN hl hl' e own c1 c2) a qf) kx
/-- C(..) -/
theorem zw_makeJ {ar : Nat} {R : List PyData → FsP → List CD → Prop} (h : ZA K E tA S M (fun zs M1 => ∃ ds fs cds, AllD zs ds ∧ ds.length = ar ∧ R ds fs cds ∧ ∀ p qs, qs.length = cds.length → Q (.c p) ((p, true, .obj C (fs qs)) :: (pM true qs cds ++ M1))) X) : ZW K E (tMake C (spJ K C ar R) [] E0 tA) S M Q X := fun n σ G H Rl Qv k kx =>
  h n σ G H Rl _ (fun vs G1 H1 zs M1 e1 R1 a1 ⟨ds, fs, cds, hd, hk, hR, qf⟩ x dx hx hdx hne => by
    have R2 := R1.lay (p := dx) (o := .own x) hdx
    have hx2 : (upd H1 dx (.own x)) x = none := by rw [upd_ne (Ne.symm hne)]; exact hx
    have R3 := R2.lay (p := x) (o := .ins C dx []) hx2
    have gdx := ex_gnone R1.ex hdx
    have hown : (upd (upd H1 dx (.own x)) x (.ins C dx [])) dx = some (.own x) := by rw [upd_ne hne, upd_same]
    have hc : CD.at K G1 (upd (upd H1 dx (.own x)) x (.ins C dx [])) x (.obj C []) := ⟨dx, [], upd_same, hown, gdx, .nil⟩
    have R4 := R3.cell (R1.fresh hx) (R1.notin hx) (ex_gnone R1.ex hx) hc
    refine ⟨G1, x, vs, ds, fs, cds, by rw [List.append_nil], hk, R4.ex, ex_gnone R1.ex hx, hc, zall_d (by rw [← hd]; exact a1), hR, fun qs G' H' e own hl nd fresh h1 h2 => ⟨rfl, ?_⟩⟩
    have R5 := R4.call1 e .here own h1
    have R6 : ∀ (rs : List Addr) (cs : List CD), rs.length = cs.length → (x :: rs).Nodup → (∀ q ∈ rs, H1 q = none ∧ q ≠ dx ∧ G' q = none) → (∀ q c, (q, c) ∈ rs.zip cs → CD.at K G' H' q c) → Rel K n S (pM true rs cs ++ ((x, true, .obj C (fs qs)) :: M1)) σ G' H' := by
      intro rs
      induction rs with
      | nil => exact fun cs _ _ _ _ => R5
      | cons r rs ih =>
        intro cs hl nd fr at_
        cases cs with
        | nil => cases hl
        | cons c cs =>
          have nd1 := List.nodup_cons.mp nd
          have nd2 := List.nodup_cons.mp nd1.2
          have R7 := ih cs (by simpa using hl) (List.nodup_cons.mpr ⟨fun z => nd1.1 (List.mem_cons_of_mem _ z), nd2.2⟩) (fun q hq => fr q (List.mem_cons_of_mem _ hq)) fun q c hm => at_ q c (List.mem_cons_of_mem _ hm)
          have hr := fr r List.mem_cons_self
          refine R7.cell (R1.fresh hr.1) (fun hm => ?_) hr.2.2 (at_ r c List.mem_cons_self)
          rw [List.map_append, pM_fst (by simpa using hl), List.map_cons] at hm
          rcases List.mem_append.mp hm with hm | hm
          · exact nd2.1 hm
          · rcases List.mem_cons.mp hm with z | hm
            · exact nd1.1 (by have z2 : r = x := z; rw [z2]; exact List.mem_cons_self)
            · exact R1.notin hr.1 hm
    have fr2 : ∀ q ∈ qs, H1 q = none ∧ q ≠ dx ∧ G' q = none := fun q hq => by
      have h0 := fresh q hq
      have nx : q ≠ x := fun z => (List.nodup_cons.mp nd).1 (by rw [← z]; exact hq)
      have nd2 : q ≠ dx := fun z => by
        have := h0.1
        rw [z, hown] at this
        cases this
      have h3 := h0.1
      rw [upd_ne nx, upd_ne nd2] at h3
      exact ⟨h3, nd2, h0.2⟩
    exact k (.ref x) G' H' (.c x) _ (e1.trans e.g) ((R6 qs cds hl nd fr2 h2).perm (List.perm_middle)) rfl (qf x qs hl)) kx
end
end Z
/-! a dict of the module's own, with texts as keys: D[key] -/
namespace Z
open PySem PySem.Spec PyProof.Rows L2
open Evl (Ex)
def tKd (K : Fg) (tab : List (Str × PyData)) (ty : TE) : TE := fun σ H Q => ty σ H fun y H1 => ∃ z d, y = .str z ∧ (z, d) ∈ tab ∧ ∀ v, (∀ G, Dz K G v d) → Q v H1
section
variable {K : Fg} {E : L2.St → XK} {e0 : XK} {te : TE} {S : Zs} {M M2 : Ms} {Q : QZ} {X : XZ} {tab : List (Str × PyData)}
theorem zw_kd (h : ZW K E te S M (fun y M1 => ∃ z d, y = .d (.str z) ∧ (z, d) ∈ tab ∧ Q (.d d) M1) X) : ZW K E (tKd K tab te) S M Q X := fun n σ G H R Qv k kx =>
  h n σ G H R _ (fun v G1 H1 z M1 e1 R1 a1 ⟨s, d, hz, hm, q⟩ => by
    subst hz
    obtain rfl : v = .str s := dp_str a1
    exact ⟨s, d, rfl, hm, fun v2 dz => k v2 G1 H1 (.d d) M1 e1 R1 (dz G1) q⟩) kx
end
end Z
/-! frozen things as values: objects and dicts that nobody writes any more, handed on in calls -/
namespace Z
open PySem PySem.Spec PyProof.Rows L2
open Evl (Ex)
def ZV.fro : ZV → Bool
  | .c _ => false
  | .e _ _ _ _ => false
  | _ => true
theorem fz_of {K : Fg} {G : Hp} {v : V} {z : ZV} (h : ZV.at K G v z) (f : z.fro = true) : Fz K G v z := by
  cases z with
  | d x => exact .d h
  | c p => cases f
  | f kvs =>
    obtain ⟨p, ws, rfl, h1, h2⟩ := h
    exact .f h1 h2
  | e a b c d => cases f
  | o C fs => exact h
  | l zs => exact h
  | t zs => exact h
theorem at_of {K : Fg} {G : Hp} {v : V} {z : ZV} (h : Fz K G v z) : ZV.at K G v z := by
  cases h with
  | d h => exact h
  | f a h => exact ⟨_, _, rfl, a, h⟩
  | o a h => exact .o a h
  | l a h => exact .l a h
  | t a h => exact .t a h
theorem fzAll_of {K : Fg} {G : Hp} : ∀ {zs : List ZV} {vs : List V}, ZAll K G vs zs → zs.all ZV.fro = true → FzAll K G vs zs
  | _, _, .nil, _ => .nil
  | z :: zs, _, .cons a b, f => by
    rw [List.all_cons, Bool.and_eq_true] at f
    exact .cons (fz_of a f.1) (fzAll_of b f.2)
theorem lookup_fz {K : Fg} {G : Hp} {m : Str} : ∀ {fs : List (Str × ZV)} {fv : List (Str × V)}, FzF K G fv fs → (fs.lookup m = none → fv.lookup m = none) ∧ (∀ z, fs.lookup m = some z → ∃ v, fv.lookup m = some v ∧ Fz K G v z)
  | _, _, .nil => ⟨fun _ => rfl, fun z e => by cases e⟩
  | (m2, z2) :: fs, (_, v2) :: fv, .cons a b => by
    have ih := lookup_fz (m := m) b
    rw [List.lookup_cons, List.lookup_cons]
    split
    · refine ⟨fun e => (nomatch e), fun z e => ?_⟩
      have e := Option.some.inj e
      subst e
      exact ⟨_, rfl, a⟩
    · exact ih
inductive ZOut where
  | ok (z : ZV)
  | ex (x : XD)
/-- a def over frozen things: R its graph -/
def spZ (K : Fg) (k : Nat) (R : List ZV → ZOut → Prop) : Sp := fun vs H Q E => ∃ (G : Hp) (zs : List ZV) (o : ZOut), Ex G H ∧ zs.length = k ∧ FzAll K G vs zs ∧ R zs o ∧
  (∀ z, o = .ok z → ∀ v G' H', Ext [] G H G' H' → Fz K G' v z → Q v H') ∧ (∀ x, o = .ex x → ∀ cls dd G' H', Ext [] G H G' H' → XAt K G' cls dd x → E cls dd H')
section
variable {K : Fg} {n : Sn} {S : Zs} {M M' : Ms} {σ : L2.St} {G H : Hp} {e0 : XK} {t : TS} {E : L2.St → XK} {Q : QZ} {X : XZ} {tA : TA} {te : TE}
theorem zw_callZ {ar : Nat} {R : List ZV → ZOut → Prop} (h : ZA K (fun _ => e0) tA S M (fun zs M1 => ∃ o, zs.all ZV.fro = true ∧ zs.length = ar ∧ R zs o ∧ (∀ z, o = .ok z → Q z M1) ∧ (∀ x, o = .ex x → X x S M1)) X) : ZW K (fun _ => e0) (tCall (spZ K ar R) [] e0 tA) S M Q X := fun n σ G H Rl Qv k kx =>
  h n σ G H Rl _ (fun vs G1 H1 zs M1 e1 R1 a1 ⟨o, hf, hk, hR, q1, q2⟩ => by
    refine ⟨G1, zs, o, R1.ex, hk, ?_, hR, fun z ho v G' H' e a => k v G' H' z M1 (e1.trans e.g) (R1.call e) (at_of a) (q1 z ho), fun x ho cls dd G' H' e a => kx cls dd G' H' x S M1 (e1.trans e.g) (R1.call e) a (q2 x ho)⟩
    rw [List.append_nil]
    exact fzAll_of a1 hf) kx
theorem zw_callZ0 {ar : Nat} {R : List ZV → ZOut → Prop} (h : ZA K E tA S M (fun zs M1 => ∃ z, zs.all ZV.fro = true ∧ zs.length = ar ∧ R zs (.ok z) ∧ Q z M1) X) : ZW K E (tCall (spZ K ar R) [] E0 tA) S M Q X := fun n σ G H Rl Qv k kx =>
  h n σ G H Rl _ (fun vs G1 H1 zs M1 e1 R1 a1 ⟨z, hf, hk, hR, q1⟩ => by
    refine ⟨G1, zs, .ok z, R1.ex, hk, ?_, hR, fun z' ho v G' H' e a => by cases ho; exact k v G' H' z M1 (e1.trans e.g) (R1.call e) (at_of a) q1, fun x ho => nomatch ho⟩
    rw [List.append_nil]
    exact fzAll_of a1 hf) kx
/-- o.m(..) of a frozen object -/
theorem zw_methZ0 {ar : Nat} {C : Addr} {m : Str} {R : List ZV → ZOut → Prop} (h : ZW K E te S M (fun x M0 => ∃ fs, x = .o C fs ∧ fs.lookup m = none ∧ ZA K E tA S M0 (fun zs M1 => ∃ z, zs.all ZV.fro = true ∧ zs.length + 1 = ar ∧ R (.o C fs :: zs) (.ok z) ∧ Q z M1) X) X) :
    ZW K E (tMeth C m (spZ K ar R) [] E0 te tA) S M Q X := fun n σ G H Rl Qv k kx =>
  h n σ G H Rl _ (fun v G0 H0 x M0 e0' R0 a0 ⟨fs, hx, hl, h2⟩ => by
    subst hx
    have f0 : Fz K G0 v (.o C fs) := a0
    cases f0 with
    | @o p _ dx fv _ at_ hf =>
      refine ⟨p, dx, fv, rfl, R0.ex _ _ at_, (lookup_fz hf).1 hl, h2 n σ G0 H0 R0 _ (fun vs G1 H1 zs M1 e1 R1 a1 ⟨z, hfr, hk, hR, q1⟩ => ?_) (kx.mono e0')⟩
      refine ⟨G1, .o C fs :: zs, .ok z, R1.ex, hk, ?_, hR, fun z' ho v G' H' e a => by cases ho; exact k v G' H' z M1 ((e0'.trans e1).trans e.g) (R1.call e) (at_of a) q1, fun x ho => nomatch ho⟩
      rw [List.append_nil]
      exact .cons (fz_mono e1 (.o at_ hf)) (fzAll_of a1 hfr)) kx
/-- o.f of a frozen object -/
theorem zw_fldZ {C : Addr} {f : Str} (cl : Cls K C) (na : NoAttr K C f) (h : ZW K E te S M (fun z M1 => ∃ fs y, z = .o C fs ∧ fs.lookup f = some y ∧ Q y M1) X) : ZW K E (tFld K te f) S M Q X := fun n σ G H R Qv k kx =>
  h n σ G H R _ (fun v G1 H1 z M1 e1 R1 a1 ⟨fs, y, hz, hl, q⟩ => by
    subst hz
    have f0 : Fz K G1 v (.o C fs) := a1
    cases f0 with
    | @o p _ dx fv _ at_ hf =>
      obtain ⟨u, l1, l2⟩ := (lookup_fz hf).2 _ hl
      exact ⟨p, C, dx, fv, u, rfl, R1.ex _ _ at_, cl, na, l1, k u G1 H1 y M1 e1 R1 (at_of l2) q⟩) kx
end
end Z
/-! {key: value for a in one for b in two}, the keys tuples -/
namespace Z
open PySem PySem.Spec PyProof.Rows L2
open Evl (Ex)
end Z
/-! own dicts of own lists: d.setdefault(row, []), a walk over a dict's rows, {row: e for row in d} -/
namespace Z
open PySem PySem.Spec PyProof.Rows L2
open Evl (Ex)
/-! ### d.setdefault(row, x) -/
/-! ### dicts of anything that is known -/
section
variable {K : Fg} {n : Sn} {S S' : Zs} {M M' : Ms} {σ : L2.St} {G H : Hp} {P : ZP} {E : L2.St → XK} {Q : QZ} {X : XZ} {tk tv te td tx : TE} {t : TS} {g : TG} {p : Addr}
/-! ### a dict of own lists: its rows, the lists' cells, what they hold -/
/-! ### for row in d -/
/-! ### {row: e for row in d} -/
/-! ### {row: value for a in a tuple for row in a list} -/
/-! ### sorted of whole numbers -/
/-! ### lcm -/
/-! ### range with a step, break -/
theorem zs_brk (h : P.bk S M) : ZS K E tBreak S M P := fun n σ G H R D k => k.bk σ G H S M (Ex.refl G) R h
theorem zs_forR3 {tA : TA} (h : ZA K E tA S M (fun zs M1 => ∃ (a j c : Int) (m : Nat), zs = [.d (.int a), .d (.int j), .d (.int c)] ∧ RgC a j c m ∧ ∃ I : Nat → Zs → Ms → Prop, I 0 S M1 ∧
      (∀ i S' M', i < m → I i S' M' → ∃ is S2, ZG K g (.d (.int (a + (i : Nat) * c))) S' is S2 ∧ ZS K E t S2 M' (LoopP P (I (i + 1)))) ∧ (∀ S' M', I m S' M' → P.nx S' M')) P.ex) : ZS K E (tFor (iRng3 tA) g t) S M P := fun n σ G H R D k =>
  h n σ G H R _ (fun vs G1 H1 zs M1 e1 R1 a1 ⟨a, j, c, m, hz, hr, I, i0, is, id⟩ => by
    subst hz
    cases a1 with
    | cons x1 r1 => cases r1 with
      | cons x2 r2 => cases r2 with
        | cons x3 r3 =>
          cases r3
          obtain rfl := dp_int x1
          obtain rfl := dp_int x2
          obtain rfl := dp_int x3
          refine ⟨a, j, c, m, rfl, hr, for_rangeC (n := m) (FI K n G1 I) ⟨G1, S, M1, R1, Ex.refl _, i0⟩ (fun i σ' H' hx ⟨G', S', M', R', e', hi⟩ => ?_) (fun σ' H' ⟨G', S', M', R', e', hi⟩ => k.nx σ' G' H' S' M' (e1.trans e') R' (id S' M' hi))⟩
          obtain ⟨js, S2, hg, hb⟩ := is i S' M' hx hi
          exact hg n M' σ' G' H' _ R' (Dz.int _) _ fun σ2 _ _ R2 => hb n σ2 G' H' R2 _ ((k.mono (e1.trans e')).loop fun σ3 G3 H3 S3 M3 e3 R3 i3 => ⟨G3, S3, M3, R3, e'.trans e3, i3⟩)) k.xok
end
end Z
/-! lists of frozen things: made by append, frozen, walked, enumerated, cut; objects made of frozen things; [x for row in rows for x in row]; {.. for .. in a list} -/
namespace Z
open PySem PySem.Spec PyProof.Rows L2
open Evl (Ex)
section
variable {K : Fg} {n : Sn} {S S' : Zs} {M M' : Ms} {σ : L2.St} {G H : Hp} {e0 : XK} {t : TS} {E : L2.St → XK} {Q : QZ} {X : XZ} {tA : TA} {te ta tb tk tv : TE} {P : ZP} {g g1 : TG} {p : Addr}
/-! ### an object's first def over frozen things -/
/-! ### [x for row in rows for x in row] -/
/-! ### {row: e for .. in a tuple or in a list} -/
/-- [e for i in range(m)] -/
theorem lcR_map {vs : List Nat} {m : Nat} (f : Nat → PyData) (h : ZA K E tA S M (fun zs M1 => zs = [.d (.int (m : Nat))] ∧ m ≤ sizeLine ∧
      (∀ i, i < m → ∃ is S2, (∀ j ∈ is, j ∈ vs) ∧ ZG K g (.d (.int (i : Nat))) (wipeZ S vs) is S2 ∧ ∀ D acc, ZW K E te S2 ((D, true, .lst acc) :: M1) (fun y Mc => y = .d (f i) ∧ Mc = (D, true, .lst acc) :: M1) fun _ _ _ => False) ∧ Q (.d (.list ((List.range m).map f))) M1) X) : ZW K E (tLc (iRng1 tA) g tYes te vs) S M Q X := by
  refine zw_lcR1 fun n σ G H R Qv q x => h n σ G H R Qv (fun vs' G' H' zs M1 e R' a ⟨hz, hm, each, qq⟩ => q vs' G' H' zs M1 e R' a ?_) x
  refine ⟨(m : Nat), hz, by omega, by omega, fun i acc M' => acc = (List.range i).map f ∧ M' = M1, ⟨rfl, rfl⟩, fun i hi acc M' D hI => ?_, fun acc M' hI => ?_⟩
  · obtain ⟨rfl, rfl⟩ := hI
    obtain ⟨is, S2, h1, h2, h3⟩ := each i (by omega)
    rw [Int.zero_add]
    refine ⟨is, S2, h1, h2, zt_yes ⟨fun z => (nomatch z), fun _ => (h3 D _).imp ?_⟩⟩
    rintro y Mc ⟨rfl, rfl⟩
    exact ⟨_, _, rfl, rfl, by rw [List.range_succ, List.map_append]; rfl, rfl⟩
  · obtain ⟨rfl, rfl⟩ := hI
    rw [Int.toNat_natCast]
    exact qq
end
end Z
namespace Z
open PySem PySem.Spec PyProof.Rows L2
open Evl (Ex)
/-! ### own dicts keyed by nested tuples -/
mutual
theorem nkv_of {K : PySem.W.Frag} {G : Hp} : ∀ {v : V} {d : PyData} {k : NestedKey}, Dz K G v d → nk d = some k → NKV G v k
  | _, _, k, .int i, h => by
    rw [nk] at h
    cases h
    exact .int i
  | _, _, k, .tup s a, h => by
    rw [nk] at h
    obtain ⟨ks, h1, rfl⟩ := Option.map_eq_some_iff.mp h
    rcases s with s | ⟨_, t, r, rfl⟩
    · exact .tup s (nkAll_of a h1)
    · cases a with
      | cons b c =>
        cases b
        rw [nkAll, nk_str] at h1
        exact nomatch h1
  | _, _, _, .str _, h => by rw [nk] at h <;> first | exact nomatch h | (intros; exact PyData.noConfusion)
  | _, _, _, .bl _, h => by rw [nk] at h <;> first | exact nomatch h | (intros; exact PyData.noConfusion)
  | _, _, _, .non, h => by rw [nk] at h <;> first | exact nomatch h | (intros; exact PyData.noConfusion)
  | _, _, _, .lst _ _, h => by rw [nk] at h <;> first | exact nomatch h | (intros; exact PyData.noConfusion)
theorem nkAll_of {K : PySem.W.Frag} {G : Hp} : ∀ {vs : List V} {ds : List PyData} {ks : List NestedKey}, DzAll K G vs ds → nkAll ds = some ks → NKAll G vs ks
  | _, _, ks, .nil, h => by
    rw [nkAll] at h
    cases h
    exact .nil
  | _, _, ks, .cons (z := z) (zs := zs) a b, h => by
    rw [nkAll] at h
    cases h1 : nk z with
    | none => rw [h1] at h; exact nomatch h
    | some k =>
      cases h2 : nkAll zs with
      | none => rw [h1, h2] at h; exact nomatch h
      | some ks2 =>
        rw [h1, h2] at h
        cases h
        exact .cons (nkv_of a h1) (nkAll_of b h2)
end
abbrev DNr (K : PySem.W.Frag) (G : Hp) : NW → List (PyData × PyData) → Prop := Paired (fun (a : NestedKey × Addr × V) (b : PyData × PyData) => nk b.1 = some a.1 ∧ Dz K G (.ref a.2.1) b.1 ∧ Dz K G a.2.2 b.2)
def heldD (kvs : List (PyData × PyData)) (d : PyData) : Option PyData := (kvs.find? fun x => decide (nk x.1 = nk d)).map fun x => x.2
def storeD (kvs : List (PyData × PyData)) (d e : PyData) : List (PyData × PyData) := if (heldD kvs d).isSome then kvs.map fun x => if nk x.1 = nk d then (x.1, e) else x else kvs ++ [(d, e)]
section
variable {K : PySem.W.Frag} {G : Hp}
theorem heldD_rel {d : PyData} {k : NestedKey} (hd : nk d = some k) : ∀ {ws : NW} {kvs : List (PyData × PyData)}, DNr K G ws kvs → (heldD kvs d = none ∧ heldN ws k = none) ∨ ∃ e v, heldD kvs d = some e ∧ heldN ws k = some v ∧ Dz K G v e
  | _, _, .nil => .inl ⟨rfl, rfl⟩
  | a :: ws, b :: kvs, .cons q r => by
    have ih := heldD_rel hd r
    unfold heldD heldN at ih ⊢
    rw [List.find?_cons, List.find?_cons, q.1, hd]
    rw [hd] at ih
    by_cases z : a.1 = k
    · rw [decide_eq_true z, decide_eq_true (congrArg some z)]
      exact .inr ⟨_, _, rfl, rfl, q.2.2⟩
    · rw [decide_eq_false z, decide_eq_false fun e => z (Option.some.inj e)]
      exact ih
theorem putN_rel {d e : PyData} {k : NestedKey} {v : V} (hd : nk d = some k) (he : Dz K G v e) : ∀ {ws : NW} {kvs : List (PyData × PyData)}, DNr K G ws kvs → DNr K G (ws.map fun x => if x.1 = k then (x.1, x.2.1, v) else x) (kvs.map fun x => if nk x.1 = nk d then (x.1, e) else x)
  | _, _, .nil => .nil
  | a :: ws, b :: kvs, .cons q r => by
    rw [List.map_cons, List.map_cons]
    refine .cons ?_ (putN_rel hd he r)
    rw [q.1, hd]
    by_cases z : a.1 = k
    · rw [if_pos z, if_pos (congrArg some z)]
      exact ⟨q.1, q.2.1, he⟩
    · rw [if_neg z, if_neg fun e => z (Option.some.inj e)]
      exact q
theorem storeD_rel {d e : PyData} {k : NestedKey} {b : Addr} {v : V} (hd : nk d = some k) (hb : Dz K G (.ref b) d) (he : Dz K G v e) {ws : NW} {kvs : List (PyData × PyData)} (r : DNr K G ws kvs) : DNr K G (storeN ws k b v) (storeD kvs d e) := by
  unfold storeN storeD
  have same : (heldD kvs d).isSome = (heldN ws k).isSome := by
    rcases heldD_rel hd r with ⟨h1, h2⟩ | ⟨_, _, h1, h2, _⟩ <;> rw [h1, h2] <;> rfl
  rw [same]
  split
  · exact putN_rel hd he r
  · exact paired_app r ⟨hd, hb, he⟩
theorem dnr_len : ∀ {ws : NW} {kvs : List (PyData × PyData)}, DNr K G ws kvs → ws.length = kvs.length
  | _, _, .nil => rfl
  | _, _, .cons _ r => by rw [List.length_cons, List.length_cons, dnr_len r]
theorem dnr_keys {H : Hp} (ex : Ex G H) : ∀ {ws : NW} {kvs : List (PyData × PyData)}, DNr K G ws kvs → ∀ x ∈ ws, NKV H (.ref x.2.1) x.1
  | _, _, .nil => fun x h => nomatch h
  | a :: ws, b :: kvs, .cons q r => fun x hx => by
    rcases List.mem_cons.mp hx with e | hx
    · rw [e]
      exact (nkv_of q.2.1 q.1).mono fun c xs h => ex _ _ h
    · exact dnr_keys ex r x hx
theorem dz_ref {v : V} {ds : List PyData} (h : Dz K G v (.tuple ds)) : ∃ b, v = .ref b := by
  cases h
  exact ⟨_, rfl⟩
end
section
variable {K : Fg} {E : L2.St → XK} {S : Zs} {M : Ms} {Q : QZ} {X : XZ} {P : ZP} {td tk tv : TE}
theorem zw_newN (q : ∀ p, Q (.c p) ((p, true, .dN []) :: M)) : ZW K E tNewN S M Q X := fun n σ G H R Qv k kx p hp =>
  k (.ref p) G _ (.c p) _ (Ex.refl G) ((R.lay hp).cell (c := .dN []) (R.fresh hp) (R.notin hp) (ex_gnone R.ex hp) ⟨[], upd_same, .nil⟩) rfl (q p)
theorem zw_getN (h : ZW K E td S M (fun z M1 => ZW K E tk S M1 (fun y M2 => ∃ p b kvs ds k e, z = .c p ∧ y = .d (.tuple ds) ∧ (p, b, CD.dN kvs) ∈ M2 ∧ nk (.tuple ds) = some k ∧ k.depth ≤ 8 ∧ heldD kvs (.tuple ds) = some e ∧ Q (.d e) M2) X) X) : ZW K E (tGetN td tk) S M Q X := fun n σ G H R Qv kk kx =>
  h n σ G H R _ (fun v G1 H1 z M1 e1 R1 a1 h2 => h2 n σ G1 H1 R1 _ (fun y G2 H2 zy M2 e2 R2 a2 h3 => by
    obtain ⟨p, b, kvs, ds, k, e, rfl, rfl, hm, hk, h8, hh, q⟩ := h3
    obtain rfl : v = .ref p := a1
    obtain ⟨bb, rfl⟩ := dz_ref a2
    obtain ⟨_, ws, hw, rel⟩ := R2.ce p b _ hm
    rcases heldD_rel hk rel with ⟨h1, _⟩ | ⟨e0, v0, h1, h2, h3⟩
    · rw [h1] at hh
      cases hh
    · rw [h1] at hh
      obtain rfl : e0 = e := Option.some.inj hh
      refine ⟨p, ws, bb, k, v0, rfl, rfl, ⟨hw, dnr_keys R2.ex rel⟩, (nkv_of a2 hk).mono fun c xs h => R2.ex _ _ h, h8, h2, ?_⟩
      exact kk v0 G2 H2 (.d _) M2 (e1.trans e2) R2 h3 q) (kx.mono e1)) kx
theorem zs_putN (h : ZW K E tv S M (fun z M1 => ∃ e, z = .d e ∧ ZW K E td S M1 (fun o M2 => ZW K E tk S M2 (fun y M3 => ∃ p b kvs ds k M4, o = .c p ∧ y = .d (.tuple ds) ∧ nk (.tuple ds) = some k ∧ k.depth ≤ 8 ∧ kvs.length < sizeLine ∧ Upd1 p b (.dN kvs) (.dN (storeD kvs (.tuple ds) e)) M3 M4 ∧ P.nx S M4) P.ex) P.ex) P.ex) : ZS K E (sPutN td tk tv) S M P := fun n σ G H R D kk =>
  h n σ G H R _ (fun v G1 H1 z M1 e1 R1 a1 ⟨e, hz, h2⟩ => h2 n σ G1 H1 R1 _ (fun o G2 H2 zo M2 e2 R2 a2 h3 => h3 n σ G2 H2 R2 _ (fun y G3 H3 zy M3 e3 R3 a3 h4 => by
    subst hz
    obtain ⟨p, b, kvs, ds, k, M4, rfl, rfl, hk, h8, hl, hu, q⟩ := h4
    obtain rfl : o = .ref p := a2
    obtain ⟨bb, rfl⟩ := dz_ref a3
    obtain ⟨_, ws, hw, rel⟩ := R3.ce p b _ hu.mem
    refine ⟨p, ws, bb, k, rfl, rfl, ⟨hw, dnr_keys R3.ex rel⟩, (nkv_of a3 hk).mono fun c xs h => R3.ex _ _ h, h8, by rw [dnr_len rel]; exact hl, ?_⟩
    have new := storeD_rel hk a3 (dp_mono (e2.trans e3) a1) rel
    have R4 := R3.put (o := dnO p (storeN ws k bb v)) hu (fun x w => by rw [hw] at w; exact nomatch w) ⟨_, upd_same, new⟩
    exact kk.nx σ G3 _ S M4 ((e1.trans e2).trans e3) R4 q) (XOk.mono kk.xok (e1.trans e2))) (XOk.mono kk.xok e1)) kk.xok
theorem zw_get2N {tx : TE} (h : ZW K E td S M (fun z M1 => ∃ p, z = .c p ∧ (∃ b kvs, (p, b, CD.dN kvs) ∈ M1) ∧ ZW K E tk S M1 (fun y M2 => ZW K E tx S M2 (fun w M3 => ∃ b kvs ds k o, y = .d (.tuple ds) ∧ w = .d o ∧ (p, b, CD.dN kvs) ∈ M3 ∧ nk (.tuple ds) = some k ∧ k.depth ≤ 8 ∧ Q (.d ((heldD kvs (.tuple ds)).getD o)) M3) X) X) X) : ZW K E (tGet2N td tk tx) S M Q X := fun n σ G H R Qv kk kx =>
  h n σ G H R _ (fun v G1 H1 z M1 e1 R1 a1 ⟨p, hz, ⟨b, kvs, hm⟩, h2⟩ => by
    subst hz
    obtain rfl : v = .ref p := a1
    obtain ⟨_, ws, hw, rel⟩ := R1.ce p b _ hm
    refine ⟨p, ws, rfl, ⟨hw, dnr_keys R1.ex rel⟩, h2 n σ G1 H1 R1 _ (fun y G2 H2 zy M2 e2 R2 a2 h3 => h3 n σ G2 H2 R2 _ (fun w G3 H3 zw M3 e3 R3 a3 h4 => ?_) ((kx.mono e1).mono e2)) (kx.mono e1)⟩
    obtain ⟨b', kvs', ds, k, o, rfl, rfl, hm3, hk, h8, q⟩ := h4
    obtain ⟨bb, rfl⟩ := dz_ref a2
    obtain ⟨_, ws', hw', rel'⟩ := R3.ce p b' _ hm3
    refine ⟨ws', bb, k, rfl, ⟨hw', dnr_keys R3.ex rel'⟩, (nkv_of (dp_mono e3 a2) hk).mono fun c xs h => R3.ex _ _ h, h8, ?_⟩
    rcases heldD_rel hk rel' with ⟨h1, h2⟩ | ⟨e0, v0, h1, h2, h3⟩
    · rw [h2]
      rw [h1] at q
      exact kk w G3 H3 (.d o) M3 ((e1.trans e2).trans e3) R3 a3 q
    · rw [h2]
      rw [h1] at q
      exact kk v0 G3 H3 (.d e0) M3 ((e1.trans e2).trans e3) R3 h3 q) kx
end
end Z
/-! sorted of nested data in any order -/
namespace Z
open PySem PySem.Spec PyProof.Rows L2
open Evl (Ex)
/-- the data, sorted -/
def sortG (ds : List PyData) : List PyData := ds.mergeSort fun x y => PySem.W.dataLe false id x y
theorem dza_paired {K : Fg} {G : Hp} : ∀ {vs : List V} {ds : List PyData}, DzAll K G vs ds → Paired (fun v d => Dz K G v d) vs ds
  | _, _, .nil => .nil
  | _, _, .cons a b => .cons a (dza_paired b)
theorem paired_dza {K : Fg} {G : Hp} : ∀ {vs : List V} {ds : List PyData}, Paired (fun v d => Dz K G v d) vs ds → DzAll K G vs ds
  | _, _, .nil => .nil
  | _, _, .cons a b => .cons a (paired_dza b)
end Z
/-! sorted of a dict with nested keys, of its keys -/
namespace Z
open PySem PySem.Spec PyProof.Rows L2
open Evl (Ex)
section
variable {X : Cx}
/-- sorted(D), sorted(D.keys()) -/
def rSortN (K : Fg) : List V → Hp → VK → Prop := fun vs H Q => ∃ (t a : Addr) (ws : NW) (ds : List PyData), vs = [.ref t] ∧ (t = a ∨ H t = some (keysO t a)) ∧ DnH H a ws ∧ L2.DpAll K H (ws.map fun x => V.ref x.2.1) ds ∧ PySem.W.AllAlike ds ∧ PySem.W.Sortable ds ∧ (∀ d ∈ ds, d.depth ≤ 50) ∧
  ∀ ys, (∀ F : V → PyData → Prop, Paired F (ws.map fun x => V.ref x.2.1) ds → Paired F ys (sortG ds)) → ∀ r, H r = none → Q (.ref r) (upd H r (.lst ys))
def tKeysN (to : TE) : TE := fun σ H Q => to σ H fun x H1 => ∃ (a : Addr) (ws : NW), x = .ref a ∧ H1 a = some (dnO a ws) ∧ ∀ p, H1 p = none → Q (.ref p) (upd H1 p (keysO p a))
end
/-! over own cells -/
section
variable {K : Fg} {E : L2.St → XK} {S : Zs} {M : Ms} {Q : QZ} {X : XZ} {to : TE}
theorem dnr_data {G : Hp} : ∀ {ws : NW} {kvs : List (PyData × PyData)}, DNr K G ws kvs → DzAll K G (ws.map fun x => V.ref x.2.1) (kvs.map fun x => x.1)
  | _, _, .nil => .nil
  | _, _, .cons q r => .cons q.2.1 (dnr_data r)
theorem zw_sortKeysN (h : ZW K E to S M (fun z M1 => ∃ p b kvs, z = .c p ∧ (p, b, CD.dN kvs) ∈ M1 ∧ PySem.W.AllAlike (kvs.map fun x => x.1) ∧ PySem.W.Sortable (kvs.map fun x => x.1) ∧ (∀ d ∈ kvs.map (fun x => x.1), d.depth ≤ 50) ∧ Q (.d (.list (sortG (kvs.map fun x => x.1)))) M1) X) : ZW K E (tCB (rSortN K) (tCons (tKeysN to) tNil)) S M Q X := fun n σ G H R Qv k kx =>
  h n σ G H R _ (fun v G1 H1 z M1 e1 R1 a1 ⟨p, b, kvs, hz, hm, ha, hs, hd, q⟩ => by
    subst hz
    obtain rfl : v = .ref p := a1
    obtain ⟨_, ws, hw, rel⟩ := R1.ce p b _ hm
    have all := dnr_data rel
    refine ⟨p, ws, rfl, hw, fun view hv => ?_⟩
    have R2 := R1.lay (o := keysO view p) hv
    have np : p ≠ view := ne_of_none hw hv
    have up : upd H1 view (keysO view p) p = some (dnO p ws) := by rw [upd_ne np]; exact hw
    refine ⟨view, p, ws, _, rfl, .inr upd_same, ⟨up, dnr_keys R2.ex rel⟩, dzAll_dp (dpAll_mono R2.ex all), ha, hs, hd, fun ys hys r hr => ?_⟩
    have gr := ex_gnone R2.ex hr
    exact k (.ref r) _ _ (.d (.list (sortG (kvs.map fun x => x.1)))) M1 (e1.trans (Ex.new gr)) (R2.new hr (fun _ z => nomatch z)) (.lst (Evl.sq_of upd_same) (dpAll_mono (Ex.new gr) (paired_dza (hys _ (dza_paired all))))) q) kx
end
end Z
/-! methods of an object with several own parts, over frozen things -/
namespace Z
open PySem PySem.Spec PyProof.Rows L2
open Evl (Ex)
/-- a method; nothing is raised -/
def spR (K : Fg) (C : Addr) (k : Nat) (R : FsP → List CD → List ZV → PyData → FsP → List CD → Prop) : Sp := fun vs H Q E => ∃ (G : Hp) (p : Addr) (qs : List Addr) (fs : FsP) (cds : List CD) (us : List V) (zs : List ZV) (d : PyData) (fs' : FsP) (cds' : List CD),
  vs = .ref p :: us ∧ zs.length = k ∧ Ex G H ∧ (p :: qs).Nodup ∧ qs.length = cds.length ∧ cds'.length = cds.length ∧ G p = none ∧ (∀ q ∈ qs, G q = none) ∧ CD.at K G H p (.obj C (fs qs)) ∧ (∀ q c, (q, c) ∈ qs.zip cds → CD.at K G H q c) ∧ FzAll K G us zs ∧ R fs cds zs d fs' cds' ∧
  ∀ v G' H', Ext (p :: qs) G H G' H' → (∀ a x, H a = some (.own x) → H' a = some (.own x)) → CD.at K G' H' p (.obj C (fs' qs)) → (∀ q c, (q, c) ∈ qs.zip cds' → CD.at K G' H' q c) → Dz K G' v d → Q v H'
section
variable {K : Fg} {E : L2.St → XK} {e0 : XK} {te : TE} {tA : TA} {t : TS} {S : Zs} {M M2 : Ms} {Q : QZ} {X : XZ} {n : Sn} {σ : L2.St} {G G' H H' : Hp} {p C : Addr}
/-- o.m(..) -/
theorem zw_methR {ar : Nat} {m : Str} {R : FsP → List CD → List ZV → PyData → FsP → List CD → Prop} (h : ZW K E te S M (fun z M0 => ∃ p, z = .c p ∧ (∃ b fs0, (p, b, CD.obj C fs0) ∈ M0 ∧ fs0.lookup m = none) ∧ ZA K E tA S M0 (fun zs M1 => ∃ qs b b' fs cds d fs' cds' M2, zs.all ZV.fro = true ∧ zs.length = ar ∧ qs.length = cds.length ∧ cds'.length = cds.length ∧ M1.Perm ((p, b, .obj C (fs qs)) :: (pM b' qs cds ++ M2)) ∧ R fs cds zs d fs' cds' ∧ Q (.d d) ((p, b, .obj C (fs' qs)) :: (pM b' qs cds' ++ M2))) X) X) :
    ZW K E (tMeth C m (spR K C ar R) [] E0 te tA) S M Q X := fun n σ G H Rl Qv k kx =>
  h n σ G H Rl _ (fun v G0 H0 z M0 e0' R0 a0 ⟨p, hz, ⟨b0, fs0, hm0, hl0⟩, h2⟩ => by
    subst hz
    obtain rfl : v = .ref p := a0
    obtain ⟨_, dx, fv, h3, h4, h5, h6⟩ := R0.ce p b0 _ hm0
    refine ⟨p, dx, fv, rfl, h3, (lookup_paired h6 m).1 hl0, h2 n σ G0 H0 R0 _ (fun vs G1 H1 zs M1 e1 R1 a1 ⟨qs, b, b', fs, cds, d, fs', cds', M2, hd, hk, hl, hl', hp, hR, qf⟩ => ?_) (kx.mono e0')⟩
    have R2 := R1.perm hp
    have pn := parts_nd R2 hl
    have mp := R2.ce p b _ List.mem_cons_self
    have mq : ∀ q c, (q, c) ∈ qs.zip cds → G1 q = none ∧ CD.at K G1 H1 q c := fun q c hz => R2.ce q b' c (List.mem_cons_of_mem _ (List.mem_append_left _ (pM_mem.mpr ⟨rfl, hz⟩)))
    have gq : ∀ q ∈ qs, G1 q = none := fun q hq => by
      obtain ⟨i, hi⟩ := List.mem_iff_getElem?.mp hq
      have hil := (List.getElem?_eq_some_iff.mp hi).1
      have hci := List.getElem?_eq_getElem (l := cds) (i := i) (by omega)
      exact (mq q _ (List.mem_of_getElem? (i := i) (by rw [List.getElem?_zip_eq_some]; exact ⟨hi, hci⟩))).1
    refine ⟨G1, p, qs, fs, cds, _, zs, d, fs', cds', by rw [List.append_nil], hk, R1.ex, pn.1, hl, hl', mp.1, gq, mp.2, (fun q c hz => (mq q c hz).2), fzAll_of a1 hd, hR, fun v G' H' e own c1 c2 a => ?_⟩
    exact k v G' H' (.d d) _ ((e0'.trans e1).trans e.g) (R2.callN hl hl' e own c1 c2) a qf) kx
end
end Z
/-! sorted(D.items()) of a dict with nested keys -/
namespace Z
open PySem PySem.Spec PyProof.Rows L2
open Evl (Ex)
/-- tuples laid one behind another -/
def laysT (H : Hp) : List (Addr × List V) → Hp
  | [] => H
  | x :: L => laysT (upd H x.1 (.tup x.2)) L
theorem laysT_off : ∀ {L : List (Addr × List V)} {H : Hp} {a : Addr}, a ∉ L.map (·.1) → laysT H L a = H a
  | [], _, _, _ => rfl
  | x :: L, H, a, h => by
    rw [List.map_cons, List.mem_cons, not_or] at h
    rw [laysT, laysT_off h.2, upd_ne h.1]
theorem laysT_at : ∀ {L : List (Addr × List V)} {H : Hp} {x : Addr × List V}, (L.map (·.1)).Nodup → x ∈ L → laysT H L x.1 = some (.tup x.2)
  | y :: L, H, x, nd, h => by
    rw [List.map_cons, List.nodup_cons] at nd
    rw [laysT]
    rcases List.mem_cons.mp h with rfl | h
    · rw [laysT_off nd.1, upd_same]
    · exact laysT_at nd.2 h
section
variable {X : Cx}
/-- D.items() -/
def tItemsN (to : TE) : TE := fun σ H Q => to σ H fun x H1 => ∃ (a : Addr) (ws : NW), x = .ref a ∧ H1 a = some (dnO a ws) ∧ ∀ p, H1 p = none → Q (.ref p) (upd H1 p (DX.itemsO p a))
/-- sorted(D.items()) -/
def rSortIN (K : Fg) : List V → Hp → VK → Prop := fun vs H Q => ∃ (t a : Addr) (ws : NW) (ks es : List PyData), vs = [.ref t] ∧ H t = some (DX.itemsO t a) ∧ DnH H a ws ∧ L2.DpAll K H (ws.map fun x => V.ref x.2.1) ks ∧ L2.DpAll K H (ws.map fun x => x.2.2) es ∧
  PySem.W.AllAlike ((ks.zip es).map fun x => .tuple [x.1, x.2]) ∧ PySem.W.Sortable ((ks.zip es).map fun x => .tuple [x.1, x.2]) ∧ (∀ d ∈ (ks.zip es).map (fun x => PyData.tuple [x.1, x.2]), d.depth ≤ 50) ∧
  ∀ as : List Addr, as.length = ws.length → as.Nodup → (∀ b ∈ as, H b = none) → ∀ ys, (∀ F : V → PyData → Prop, Paired F (as.map V.ref) ((ks.zip es).map fun x => .tuple [x.1, x.2]) → Paired F ys (sortG ((ks.zip es).map fun x => .tuple [x.1, x.2]))) →
    ∀ r, H r = none → r ∉ as → Q (.ref r) (upd (laysT H (as.zip (ws.map fun x => [V.ref x.2.1, x.2.2]))) r (.lst ys))
end
/-! over own cells -/
section
variable {K : Fg} {E : L2.St → XK} {S : Zs} {M : Ms} {Q : QZ} {X : XZ} {to : TE}
theorem Rel.lays {n : Sn} {σ : L2.St} : ∀ {L : List (Addr × List V)} {G H : Hp}, Rel K n S M σ G H → (L.map (·.1)).Nodup → (∀ x ∈ L, H x.1 = none) → Rel K n S M σ (laysT G L) (laysT H L) ∧ Ex G (laysT G L)
  | [], G, H, R, _, _ => ⟨R, Ex.refl _⟩
  | x :: L, G, H, R, nd, fr => by
    rw [List.map_cons, List.nodup_cons] at nd
    have hx := fr x List.mem_cons_self
    obtain ⟨R2, e2⟩ := Rel.lays (L := L) (R.new (o := .tup x.2) hx (fun _ z => nomatch z)) nd.2 fun y hy => by
      rw [upd_ne fun z => nd.1 (by rw [← z]; exact List.mem_map_of_mem hy)]
      exact fr y (List.mem_cons_of_mem _ hy)
    exact ⟨R2, (Ex.new (ex_gnone R.ex hx)).trans e2⟩
theorem dnr_vals {G : Hp} : ∀ {ws : NW} {kvs : List (PyData × PyData)}, DNr K G ws kvs → DzAll K G (ws.map fun x => x.2.2) (kvs.map fun x => x.2)
  | _, _, .nil => .nil
  | _, _, .cons q r => .cons q.2.2 (dnr_vals r)
/-- the pairs that a dict holds, as data -/
def itemD (x : PyData × PyData) : PyData := .tuple [x.1, x.2]
theorem zip_items (kvs : List (PyData × PyData)) : ((kvs.map fun x => x.1).zip (kvs.map fun x => x.2)).map (fun x => PyData.tuple [x.1, x.2]) = kvs.map itemD := by
  induction kvs with
  | nil => rfl
  | cons x kvs ih => rw [List.map_cons, List.map_cons, List.zip_cons_cons, List.map_cons, ih]; rfl
theorem pairs_dz {G : Hp} : ∀ {as : List Addr} {ws : NW} {kvs : List (PyData × PyData)}, as.length = ws.length → DNr K G ws kvs → (∀ x ∈ as.zip (ws.map fun x => [V.ref x.2.1, x.2.2]), G x.1 = some (.tup x.2)) → DzAll K G (as.map V.ref) (kvs.map itemD)
  | [], [], _, _, .nil, _ => .nil
  | [], _ :: _, _, h, _, _ => by simp at h
  | _ :: _, [], _, h, _, _ => by simp at h
  | a :: as, w :: ws, _, h, .cons q r, hz => by
    refine .cons (.tup (.inl (hz (a, _) List.mem_cons_self)) (.cons q.2.1 (.cons q.2.2 .nil))) (pairs_dz (by simpa using h) r fun x hx => hz x (List.mem_cons_of_mem _ hx))
theorem zw_sortItemsN (h : ZW K E to S M (fun z M1 => ∃ p b kvs, z = .c p ∧ (p, b, CD.dN kvs) ∈ M1 ∧ PySem.W.AllAlike (kvs.map itemD) ∧ PySem.W.Sortable (kvs.map itemD) ∧ (∀ d ∈ kvs.map itemD, d.depth ≤ 50) ∧ Q (.d (.list (sortG (kvs.map itemD)))) M1) X) : ZW K E (tCB (rSortIN K) (tCons (tItemsN to) tNil)) S M Q X := fun n σ G H R Qv k kx =>
  h n σ G H R _ (fun v G1 H1 z M1 e1 R1 a1 ⟨p, b, kvs, hz, hm, ha, hs, hd, q⟩ => by
    subst hz
    obtain rfl : v = .ref p := a1
    obtain ⟨_, ws, hw, rel⟩ := R1.ce p b _ hm
    refine ⟨p, ws, rfl, hw, fun view hv => ?_⟩
    have R2 := R1.lay (o := DX.itemsO view p) hv
    have np : p ≠ view := ne_of_none hw hv
    have up : upd H1 view (DX.itemsO view p) p = some (dnO p ws) := by rw [upd_ne np]; exact hw
    refine ⟨view, p, ws, kvs.map fun x => x.1, kvs.map fun x => x.2, rfl, upd_same, ⟨up, dnr_keys R2.ex rel⟩, dzAll_dp (dpAll_mono R2.ex (dnr_data rel)), dzAll_dp (dpAll_mono R2.ex (dnr_vals rel)), ?_⟩
    rw [zip_items]
    refine ⟨ha, hs, hd, fun as lak nd fr ys hys r hr nas => ?_⟩
    have hL1 : (as.zip (ws.map fun x => [V.ref x.2.1, x.2.2])).map (·.1) = as := List.map_fst_zip (by rw [List.length_map, lak]; exact Nat.le_refl _)
    obtain ⟨R3, e3⟩ := R2.lays (L := as.zip (ws.map fun x => [V.ref x.2.1, x.2.2])) (by rw [hL1]; exact nd) fun x hx => fr x.1 (by rw [← hL1]; exact List.mem_map_of_mem hx)
    have hr3 : laysT (upd H1 view (DX.itemsO view p)) (as.zip (ws.map fun x => [V.ref x.2.1, x.2.2])) r = none := by rw [laysT_off (by rw [hL1]; exact nas)]; exact hr
    have gr := ex_gnone R3.ex hr3
    have all : DzAll K (laysT G1 (as.zip (ws.map fun x => [V.ref x.2.1, x.2.2]))) (as.map V.ref) (kvs.map itemD) := pairs_dz lak (Paired.mono (fun a b q => ⟨q.1, dp_mono e3 q.2.1, dp_mono e3 q.2.2⟩) rel) fun x hx => laysT_at (by rw [hL1]; exact nd) hx
    exact k (.ref r) _ _ (.d (.list (sortG (kvs.map itemD)))) M1 ((e1.trans e3).trans (Ex.new gr)) (R3.new hr3 (fun _ z => nomatch z)) (.lst (Evl.sq_of upd_same) (dpAll_mono (Ex.new gr) (paired_dza (hys _ (dza_paired all))))) q) kx
end
end Z
/-! [e for x in a tuple], e a frozen thing -/
namespace Z
open PySem PySem.Spec PyProof.Rows L2
open Evl (Ex)
section
variable {K : Fg} {n : Sn} {S : Zs} {M : Ms} {σ : L2.St} {G H : Hp} {E : L2.St → XK} {Q : QZ} {X : XZ} {ta : TE} {te : TE} {tt : TT} {g : TG}
/-- fields, the class told by the field -/
theorem zw_fldN {C : Addr} {f : Str} (na : NoAttr K C f) (cl : Cls K C) (h : ZW K E te S M (fun z M1 => ∃ p b fs y, z = .c p ∧ (p, b, CD.obj C fs) ∈ M1 ∧ fs.lookup f = some y ∧ Q y M1) X) : ZW K E (tFld K te f) S M Q X := zw_fld cl na h
theorem zw_fldZN {C : Addr} {f : Str} (na : NoAttr K C f) (cl : Cls K C) (h : ZW K E te S M (fun z M1 => ∃ fs y, z = .o C fs ∧ fs.lookup f = some y ∧ Q y M1) X) : ZW K E (tFld K te f) S M Q X := zw_fldZ cl na h
end
end Z
/-! [e for i, x in enumerate(a list) if ..] -/
namespace Z
open PySem PySem.Spec PyProof.Rows L2
open Evl (Ex)
section
variable {K : Fg} {n : Sn} {S : Zs} {M : Ms} {σ : L2.St} {G H : Hp} {E : L2.St → XK} {Q : QZ} {X : XZ} {tA : TA} {te : TE} {tt : TT} {g : TG}
theorem lc_turnH {vs : List Nat} {I : Nat → List PyData → Ms → Prop} {G0 : Hp} {D : Addr} {i : Nat} {v : V} {x : PyData} {acc : List PyData} (ht : LcTurn K E g tt te S vs I i x) (R : Rel K n (wipeZ S vs) ((D, true, .lst acc) :: M) (L2.wipe σ vs) G H) (e : Ex G0 G) (hl : acc.length ≤ i) (hI : I i acc M) (hv : Dz K G v x) (hz : i < sizeLine) :
    g v (L2.wipe σ vs) H fun σ2 H2 => L2.wipe σ2 vs = L2.wipe σ vs ∧ tt σ2 H2 fun b H3 => if b = true then te σ2 H3 fun y H4 => ∃ acc, H4 D = some (.lst acc) ∧ acc.length < sizeLine ∧ LcI K n G0 S σ vs D I (i + 1) (upd H4 D (.lst (acc ++ [y]))) else LcI K n G0 S σ vs D I (i + 1) H3 := by
  obtain ⟨is, S2, hs, hg, hb⟩ := ht acc M D hI
  refine hg n _ _ G H v R hv _ fun σ2 l2 g2 R2 => ?_
  have ew : L2.wipe σ2 vs = L2.wipe σ vs := wipe_eq l2 fun j hj => g2 j fun z => hj (hs j z)
  have back : ∀ {G' H' : Hp} {M' : Ms}, Rel K n S2 M' σ2 G' H' → Ex G G' → Rel K n (wipeZ S vs) M' (L2.wipe σ vs) G' H' := fun R' e' => R.reslot R' e'
  refine ⟨ew, hb n σ2 G H R2 _ (fun b G3 H3 Mb e3 R3 q => ?_) ?_⟩
  · cases b with
    | true =>
      show te σ2 H3 _
      refine q.2 rfl n σ2 G3 H3 R3 _ (fun y G4 H4 z Mc e4 R4 a4 ⟨d, M2, hz2, hM, hI2⟩ => ?_) ?_
      · subst hz2 hM
        obtain ⟨_, ws, h1, h2⟩ := R4.ce D true _ m0
        refine ⟨ws, h1, by rw [dpa_len h2]; omega, G4, M2, acc ++ [d], ?_, (e.trans e3).trans e4, by simp; omega, hI2⟩
        exact (back R4 (e3.trans e4)).putLst .here (dpa_app h2 (dpa_one a4))
      · exact fun _ _ _ _ _ _ _ _ _ _ q => q.elim
    | false =>
      show LcI K n G0 S σ vs D I (i + 1) H3
      obtain ⟨M2, hM, hI2⟩ := q.1 rfl
      subst hM
      exact ⟨G3, M2, acc, back R3 e3, e.trans e3, by omega, hI2⟩
  · exact fun _ _ _ _ _ _ _ _ _ _ q => q.elim
theorem zw_lcEn {vs : List Nat} (h : ZA K E tA S M (fun zs M1 => ∃ xs, zs = [.d (.list xs)] ∧ xs.length ≤ sizeLine ∧ ∃ I : Nat → List PyData → Ms → Prop, I 0 [] M1 ∧ (∀ i x, xs[i]? = some x → LcTurn K E g tt te S vs I i (.tuple [.int (i : Nat), x])) ∧ (∀ acc M', I xs.length acc M' → Q (.d (.list acc)) M')) X) :
    ZW K E (tLc (iEnum K tA) g tt te vs) S M Q X := fun n σ G H R Qv k kx =>
  h n σ G H R _ (fun us G1 H1 zs M1 e1 R1 a1 ⟨xs, hz, hl, I, i0, is, id⟩ => by
    subst hz
    obtain ⟨v, rfl, av⟩ := zall1 a1
    obtain ⟨p, ws, rfl, h1, h2⟩ := dp_lst av
    have hlw := dpa_len h2
    have stays : ∀ {i : Nat} {D : Addr} {H' : Hp}, LcI K n G1 S σ vs D I i H' → SqL K H' p ws := fun ⟨G', _, _, R', e', _⟩ => Evl.ex_l (e'.trans R'.ex) h1
    refine ⟨p, ws, rfl, Evl.ex_l R1.ex h1, fun D hD => ⟨fun i m H' => m = ws.length - i ∧ i ≤ ws.length ∧ LcI K n G1 S σ vs D I i H', ⟨_, rfl, Nat.zero_le _, lc_start R1 hD i0⟩, ?_⟩⟩
    rintro i m H' ⟨rfl, hi, hL⟩
    have st := stays hL
    rcases Nat.lt_or_ge i ws.length with hlt | hge
    · have hw : ws[i]? = some ws[i] := List.getElem?_eq_getElem hlt
      obtain ⟨d, hd, ad⟩ := dpa_at_v h2 hw
      refine .inr ⟨⟨ws, _, st, hw⟩, LcI K n G1 S σ vs D I (i + 1), fun H2 q => ⟨_, by omega, rfl, hlt, q⟩, fun y H2 hy => ?_⟩
      obtain ⟨T, x, rfl, hT, rfl, hx⟩ := hy
      obtain rfl : x = ws[i] := Option.some.inj ((hx ws st).symm.trans hw)
      obtain ⟨G', M', acc, R', e', hla, hI⟩ := hL
      have gT := ex_gnone R'.ex hT
      have e2 := e'.trans (Ex.new (o := .tup [.int (i : Nat), ws[i]]) gT)
      exact lc_turnH (is i d hd) (R'.new (o := .tup [.int (i : Nat), ws[i]]) hT (fun _ z => nomatch z)) e2 hla hI (.tup (.inl upd_same) (.cons (.int _) (.cons (dp_mono e2 ad) .nil))) (by omega)
    · obtain rfl : i = ws.length := by omega
      exact .inl ⟨⟨ws, st, Nat.le_refl _⟩, lc_done R1 hL (fun acc M' q => id acc M' (by rw [← hlw]; exact q)) fun v G' H' z M' e' => k v G' H' z M' (e1.trans e')⟩) kx
end
end Z
/-! [e for x in range(a) for y in range(b)] -/
namespace Z
open PySem PySem.Spec PyProof.Rows L2
open Evl (Ex)
end Z
/-! [e for x in range(a, b, -1)] -/
namespace Z
open PySem PySem.Spec PyProof.Rows L2
open Evl (Ex)
section
variable {K : Fg} {E : L2.St → XK} {tA : TA} {g : TG} {te : TE} {tt : TT} {S : Zs} {M : Ms} {Q : QZ} {X : XZ}
theorem zw_lcR3 {vs : List Nat} (h : ZA K E tA S M (fun zs M1 => ∃ (a b c : Int) (m : Nat), zs = [.d (.int a), .d (.int b), .d (.int c)] ∧ RgC a b c m ∧ m ≤ sizeLine ∧ ∃ I : Nat → List PyData → Ms → Prop, I 0 [] M1 ∧ (∀ i, i < m → LcTurn K E g tt te S vs I i (.int (a + (i : Nat) * c))) ∧ (∀ acc M', I m acc M' → Q (.d (.list acc)) M')) X) :
    ZW K E (tLc (iRng3 tA) g tt te vs) S M Q X := fun n σ G H R Qv k kx =>
  h n σ G H R _ (fun us G1 H1 zs M1 e1 R1 a1 ⟨a, b, c, m, hz, hr, hm, I, i0, turn, last⟩ => by
    subst hz
    cases a1 with
    | cons x1 a1 => cases a1 with
      | cons x2 a1 => cases a1 with
        | cons x3 a1 =>
          cases a1
          obtain rfl := dp_int x1
          obtain rfl := dp_int x2
          obtain rfl := dp_int x3
          refine ⟨a, b, c, m, rfl, hr, fun D hD => ⟨fun i k H' => k = m - i ∧ i ≤ m ∧ LcI K n G1 S σ vs D I i H', ⟨m, rfl, Nat.zero_le _, lc_start R1 hD i0⟩, ?_⟩⟩
          rintro i k2 H' ⟨rfl, hi, hL⟩
          rcases Nat.lt_or_ge i m with lt | ge
          · refine .inr ⟨lt, LcI K n G1 S σ vs D I (i + 1), fun H2 q => ⟨_, by omega, rfl, lt, q⟩, fun y H2 hy => ?_⟩
            obtain ⟨e, rfl⟩ := hy
            subst e
            exact lc_turn (turn i lt) hL (Dz.int _) (by omega)
          · obtain rfl : i = m := by omega
            exact .inl ⟨(by first | exact Nat.lt_irrefl _ | exact Nat.le_refl _), lc_done R1 hL last fun v G' H' z M' e' => k v G' H' z M' (e1.trans e')⟩) kx
end
end Z
/-! an object's own list of own lists becomes data in its field -/
namespace Z
open PySem PySem.Spec PyProof.Rows L2
open Evl (Ex)
section
variable {K : Fg} {E : L2.St → XK} {to tv te : TE} {S : Zs} {M : Ms} {P : ZP} {Q : QZ} {X : XZ}
/-- a field set, the class told by the field -/
theorem zs_fldN {C : Addr} {f : Str} {to tv : TE} (na : NoAttr K C f) (cl : Cls K C) (h : ZW K E tv S M (fun y M1 => ZW K E to S M1 (fun z M2 => ∃ p b fs M3, z = .c p ∧ fs.length < 1000 ∧ Upd1 p b (.obj C fs) (.obj C (putZ f y fs)) M2 M3 ∧ P.nx S M3) P.ex) P.ex) : ZS K E (sFld K to tv f) S M P := zs_fld cl na h
end
end Z
/-! an own list, so often; the sum of an own list -/
namespace Z
open PySem PySem.Spec PyProof.Rows L2
open Evl (Ex)
section
variable {K : Fg} {M : Ms} {Q : QZ} {p : Addr} {b : Bool}
theorem zo_rep {xs : List PyData} {k : Nat} (hm : (p, b, CD.lst xs) ∈ M) (hk : k ≤ 1000000) (hl : xs.length * k ≤ sizeLine) (q : ∀ r, Q (.c r) ((r, true, .lst (List.replicate k xs).flatten) :: M)) : ZO K rRep (.c p) (.d (.int (k : Int))) M Q := fun n S σ G H R v u a c Qv kk => by
  obtain rfl : v = .ref p := a
  obtain rfl := dp_int c
  obtain ⟨_, ws, h1, h2⟩ := R.ce p b _ hm
  refine ⟨p, (k : Int), ws, rfl, rfl, h1, by omega, by omega, by rw [dpa_len h2, Int.toNat_natCast]; exact hl, fun r hr => ?_⟩
  rw [Int.toNat_natCast]
  exact kk (.ref r) G _ (.c r) _ (Ex.refl G) (R.newLst hr (dpa_flat_rep h2 k)) rfl (q r)
theorem rep_one {α : Type} (x : α) (k : Nat) : (List.replicate k [x]).flatten = List.replicate k x := by
  induction k with
  | zero => rfl
  | succ k ih => rw [List.replicate_succ, List.flatten_cons, ih, List.replicate_succ]; rfl
end
end Z
/-! a list from its end; where the first True stands -/
namespace Z
open PySem PySem.Spec PyProof.Rows L2
open Evl (Ex)
section
variable {K : Fg} {E : L2.St → XK} {te : TE} {S : Zs} {M : Ms} {Q : QZ} {X : XZ} {p : Addr} {b : Bool}
theorem dza_rev {G : Hp} : ∀ {vs : List V} {xs : List PyData}, DzAll K G vs xs → DzAll K G vs.reverse xs.reverse
  | _, _, .nil => .nil
  | _, _, .cons a h => by
    rw [List.reverse_cons, List.reverse_cons]
    exact dpa_app (dza_rev h) (.cons a .nil)
/-- of data -/
theorem zw_revD (h : ZW K E te S M (fun z M1 => ∃ xs, z = .d (.list xs) ∧ ∀ r, Q (.c r) ((r, true, .lst xs.reverse) :: M1)) X) : ZW K E (tRevL K te) S M Q X := fun n σ G H R Qv k kx =>
  h n σ G H R _ (fun v G1 H1 z M1 e1 R1 a1 ⟨xs, hz, q⟩ => by
    subst hz
    obtain ⟨p, vs, rfl, h1, h2⟩ := dp_lst a1
    exact ⟨p, vs, rfl, Evl.ex_l R1.ex h1, fun r hr => k (.ref r) _ _ (.c r) _ e1 (R1.newLst hr (dza_rev h2)) rfl (q r)⟩) kx
end
end Z
/-! [e for a, b in zip(two lists)] -/
namespace Z
open PySem PySem.Spec PyProof.Rows L2
open Evl (Ex)
section
variable {K : Fg} {n : Sn} {S : Zs} {M : Ms} {σ : L2.St} {G H : Hp} {E : L2.St → XK} {Q : QZ} {X : XZ} {tA : TA} {te : TE} {tt : TT} {g : TG}
theorem zw_lcZip {vs : List Nat} (h : ZA K E tA S M (fun zs M1 => ∃ xs ys, zs = [.d (.list xs), .d (.list ys)] ∧ xs.length ≤ ys.length ∧ xs.length ≤ sizeLine ∧ ∃ I : Nat → List PyData → Ms → Prop, I 0 [] M1 ∧ (∀ i x y, xs[i]? = some x → ys[i]? = some y → LcTurn K E g tt te S vs I i (.tuple [x, y])) ∧ (∀ acc M', I xs.length acc M' → Q (.d (.list acc)) M')) X) :
    ZW K E (tLc (iZip K tA) g tt te vs) S M Q X := fun n σ G H R Qv k kx =>
  h n σ G H R _ (fun us G1 H1 zs M1 e1 R1 a1 ⟨xs, ys, hz, hxy, hl, I, i0, is, id⟩ => by
    subst hz
    cases a1 with
    | cons av a1 =>
    obtain ⟨v2, rfl, av2⟩ := zall1 a1
    obtain ⟨p, ws, rfl, h1, h2⟩ := dp_lst av
    obtain ⟨p', ws', rfl, h1', h2'⟩ := dp_lst av2
    have hlw := dpa_len h2
    have hlw' := dpa_len h2'
    have stays : ∀ {i : Nat} {D : Addr} {H' : Hp}, LcI K n G1 S σ vs D I i H' → SqL K H' p ws ∧ SqL K H' p' ws' := fun ⟨G', _, _, R', e', _⟩ => ⟨Evl.ex_l (e'.trans R'.ex) h1, Evl.ex_l (e'.trans R'.ex) h1'⟩
    refine ⟨p, p', ws, ws', rfl, Evl.ex_l R1.ex h1, Evl.ex_l R1.ex h1', fun D hD => ⟨fun i m H' => m = ws.length - i ∧ i ≤ ws.length ∧ LcI K n G1 S σ vs D I i H', ⟨_, rfl, Nat.zero_le _, lc_start R1 hD i0⟩, ?_⟩⟩
    rintro i m H' ⟨rfl, hi, hL⟩
    obtain ⟨st, st'⟩ := stays hL
    rcases Nat.lt_or_ge i ws.length with hlt | hge
    · have hlt' : i < ws'.length := by omega
      have hw : ws[i]? = some ws[i] := List.getElem?_eq_getElem hlt
      have hw' : ws'[i]? = some ws'[i] := List.getElem?_eq_getElem hlt'
      obtain ⟨d, hd, ad⟩ := dpa_at_v h2 hw
      obtain ⟨d', hd', ad'⟩ := dpa_at_v h2' hw'
      refine .inr ⟨⟨ws, ws', _, _, st, st', hw, hw'⟩, LcI K n G1 S σ vs D I (i + 1), fun H2 q => ⟨_, by omega, rfl, hlt, q⟩, fun y H2 hy => ?_⟩
      obtain ⟨T, x, y, rfl, hT, rfl, hx, hy⟩ := hy
      obtain rfl : x = ws[i] := Option.some.inj ((hx ws st).symm.trans hw)
      obtain rfl : y = ws'[i] := Option.some.inj ((hy ws' st').symm.trans hw')
      obtain ⟨G', M', acc, R', e', hla, hI⟩ := hL
      have gT := ex_gnone R'.ex hT
      have e2 := e'.trans (Ex.new (o := .tup [ws[i], ws'[i]]) gT)
      exact lc_turnH (is i d d' hd hd') (R'.new (o := .tup [ws[i], ws'[i]]) hT (fun _ z => nomatch z)) e2 hla hI (.tup (.inl upd_same) (.cons (dp_mono e2 ad) (.cons (dp_mono e2 ad') .nil))) (by omega)
    · obtain rfl : i = ws.length := by omega
      exact .inl ⟨⟨ws, ws', st, st', .inl (Nat.le_refl _)⟩, lc_done R1 hL (fun acc M' q => id acc M' (by rw [← hlw]; exact q)) fun v G' H' z M' e' => k v G' H' z M' (e1.trans e')⟩) kx
theorem ZA.imp' {Q Q' : List ZV → Ms → Prop} (h : ZA K E tA S M Q X) (i : ∀ zs M', Q zs M' → Q' zs M') : ZA K E tA S M Q' X := fun n σ G H R Qv q x => h n σ G H R Qv (fun v G' H' z M' e R' a b => q v G' H' z M' e R' a (i _ _ b)) x
/-- a list of whole numbers -/
abbrev iD (l : List Int) : PyData := .list (l.map .int)
theorem zipWith_take (f : Int → Int → Int) : ∀ (a b : List Int) (i : Nat) {x y : Int}, a[i]? = some x → b[i]? = some y → (List.zipWith f a b).take (i + 1) = (List.zipWith f a b).take i ++ [f x y] := by
  intro a b i x y ha hb
  rw [List.take_add_one, List.getElem?_zipWith, ha, hb]
  rfl
theorem lcZip_int {vs : List Nat} (a b : List Int) (f : Int → Int → Int) (h : ZA K E tA S M (fun zs M1 => zs = [.d (iD a), .d (iD b)] ∧ a.length ≤ b.length ∧ a.length ≤ sizeLine ∧
      (∀ x ∈ a, ∀ y ∈ b, ∃ is S2, (∀ j ∈ is, j ∈ vs) ∧ ZG K g (.d (.tuple [.int x, .int y])) (wipeZ S vs) is S2 ∧ ∀ D acc, ZW K E te S2 ((D, true, .lst acc) :: M1) (fun y' Mc => y' = .d (.int (f x y)) ∧ Mc = (D, true, .lst acc) :: M1) fun _ _ _ => False) ∧ Q (.d (iD (List.zipWith f a b))) M1) X) : ZW K E (tLc (iZip K tA) g tYes te vs) S M Q X := by
  refine zw_lcZip (ZA.imp' h fun zs M1 ⟨hz, hab, hl, each, q⟩ => ⟨_, _, hz, by rw [List.length_map, List.length_map]; exact hab, by rw [List.length_map]; exact hl, fun i acc M' => M' = M1 ∧ acc = ((List.zipWith f a b).take i).map .int, ⟨rfl, by simp⟩, fun i x y hx hy acc M' D hI => ?_, fun acc M' hI => ?_⟩)
  · rw [List.getElem?_map] at hx hy
    obtain ⟨u, hu, rfl⟩ := Option.map_eq_some_iff.mp hx
    obtain ⟨v, hv, rfl⟩ := Option.map_eq_some_iff.mp hy
    obtain ⟨is, S2, h1, h2, h3⟩ := each u (List.mem_of_getElem? hu) v (List.mem_of_getElem? hv)
    obtain ⟨rfl, rfl⟩ := hI
    refine ⟨is, S2, h1, h2, zt_yes ⟨fun e => Bool.noConfusion e, fun _ => (h3 D _).imp fun y' Mc hy' => ?_⟩⟩
    obtain ⟨rfl, rfl⟩ := hy'
    exact ⟨_, _, rfl, rfl, rfl, by rw [zipWith_take f a b i hu hv, List.map_append]; rfl⟩
  · obtain ⟨rfl, rfl⟩ := hI
    rw [List.length_map, show a.length = (List.zipWith f a b).length by rw [List.length_zipWith]; omega, List.take_length]
    exact q
/-- [e for i, x in enumerate(numbers)] -/
theorem lcEn_int {vs : List Nat} (a : List Int) (f : Nat → Int → Int) (h : ZA K E tA S M (fun zs M1 => zs = [.d (iD a)] ∧ a.length ≤ sizeLine ∧
      (∀ i x, a[i]? = some x → ∃ is S2, (∀ j ∈ is, j ∈ vs) ∧ ZG K g (.d (.tuple [.int (i : Nat), .int x])) (wipeZ S vs) is S2 ∧ ∀ D acc, ZW K E te S2 ((D, true, .lst acc) :: M1) (fun y' Mc => y' = .d (.int (f i x)) ∧ Mc = (D, true, .lst acc) :: M1) fun _ _ _ => False) ∧ Q (.d (iD (a.mapIdx f))) M1) X) : ZW K E (tLc (iEnum K tA) g tYes te vs) S M Q X := by
  refine zw_lcEn (ZA.imp' h fun zs M1 ⟨hz, hl, each, q⟩ => ⟨_, hz, by rw [List.length_map]; exact hl, fun i acc M' => M' = M1 ∧ acc = ((a.mapIdx f).take i).map .int, ⟨rfl, by simp⟩, fun i x hx acc M' D hI => ?_, fun acc M' hI => ?_⟩)
  · rw [List.getElem?_map] at hx
    obtain ⟨u, hu, rfl⟩ := Option.map_eq_some_iff.mp hx
    obtain ⟨is, S2, h1, h2, h3⟩ := each i u hu
    obtain ⟨rfl, rfl⟩ := hI
    refine ⟨is, S2, h1, h2, zt_yes ⟨fun e => Bool.noConfusion e, fun _ => (h3 D _).imp fun y' Mc hy' => ?_⟩⟩
    obtain ⟨rfl, rfl⟩ := hy'
    refine ⟨_, _, rfl, rfl, rfl, ?_⟩
    rw [List.take_add_one, List.getElem?_mapIdx, hu, List.map_append]; rfl
  · obtain ⟨rfl, rfl⟩ := hI
    rw [List.length_map, show a.length = (a.mapIdx f).length by rw [List.length_mapIdx], List.take_length]
    exact q
/-- for c in a text -/
theorem zs_forS {t : TS} {P : ZP} (h : ZW K E te S M (fun z M1 => ∃ x : Str, z = .d (.str x) ∧ ∃ I : Nat → Zs → Ms → Prop, I 0 S M1 ∧
      (∀ i c S' M', x.cps[i]? = some c → I i S' M' → ∃ is S2, ZG K g (.d (.str ⟨#[c]⟩)) S' is S2 ∧ ZS K E t S2 M' (LoopP P (I (i + 1)))) ∧ (∀ S' M', I x.cps.size S' M' → P.nx S' M')) P.ex) : ZS K E (tFor (iStr te) g t) S M P := by
  intro n σ G H R D k
  refine h n σ G H R _ (fun v G1 H1 z M1 e1 R1 a1 ⟨x, hz, I, i0, is, id⟩ => ?_) k.xok
  subst hz
  obtain rfl := dp_str a1
  refine ⟨x, rfl, fun i m σ' H' => m = x.cps.size - i ∧ i ≤ x.cps.size ∧ FI K n G1 I i σ' H', ⟨_, rfl, Nat.zero_le _, G1, S, M1, R1, Ex.refl _, i0⟩, ?_⟩
  rintro i m σ' H' ⟨rfl, hi, G', S', M', R', e', hI⟩
  by_cases hlt : i < x.cps.size
  · refine .inr ⟨hlt, FI K n G1 I (i + 1), fun σ2 H2 q => ⟨_, by omega, rfl, hlt, q⟩, fun y H2 hy => ?_⟩
    obtain ⟨rfl, c, hc, rfl⟩ := hy
    obtain ⟨js, S2, hg, hb⟩ := is i c S' M' hc hI
    refine hg n M' σ' _ _ _ R' (Dz.str _) _ fun σ2 _ _ R3 => hb n σ2 _ _ R3 _ ((k.mono (e1.trans e')).loop fun σ3 G3 H3 S3 M3 e3 R4 i3 => ⟨G3, S3, M3, R4, e'.trans e3, i3⟩)
  · have e : i = x.cps.size := by omega
    subst e
    exact .inl ⟨Nat.le_refl _, k.nx σ' G' H' S' M' (e1.trans e') R' (id S' M' hI)⟩
theorem zc_intB {b : Bool} (q : Q (.d (.int (if b then 1 else 0))) M) : ZC K rIntA [.d (.bool b)] M Q := zc_val (z := .d (.int (if b then 1 else 0))) (fun G H vs e a => by
  obtain ⟨v, rfl, av⟩ := zall1 a
  have ev : v = .bl b := by cases av; rfl
  exact ⟨.int (if b then 1 else 0), Dz.int _, fun Qv hq => .inl (.inr ⟨b, by rw [ev], hq⟩)⟩) q
/-- [e for x in range(j) if test] -/
theorem lcR1_fm {vs : List Nat} (m : Nat) (f : Nat → PyData) (p : Nat → Bool) (h : ZA K E tA S M (fun zs M1 => zs = [.d (.int (m : Nat))] ∧ m ≤ sizeLine ∧
      (∀ i, i < m → ∃ is S2, (∀ j ∈ is, j ∈ vs) ∧ ZG K g (.d (.int (i : Nat))) (wipeZ S vs) is S2 ∧ ∀ D acc, ZT K E tt S2 ((D, true, .lst acc) :: M1) (fun b Mb => b = p i ∧ Mb = (D, true, .lst acc) :: M1) (fun _ _ _ => False) ∧
        (p i = true → ZW K E te S2 ((D, true, .lst acc) :: M1) (fun y Mc => y = .d (f i) ∧ Mc = (D, true, .lst acc) :: M1) fun _ _ _ => False)) ∧ Q (.d (.list (((List.range m).filter p).map f))) M1) X) : ZW K E (tLc (iRng1 tA) g tt te vs) S M Q X := by
  refine zw_lcR1 (ZA.imp' h fun zs M1 ⟨hz, hm, each, qq⟩ => ⟨(m : Nat), hz, by omega, by omega, fun i acc M' => acc = ((List.range i).filter p).map f ∧ M' = M1, ⟨rfl, rfl⟩, fun i hi acc M' D hI => ?_, fun acc M' hI => ?_⟩)
  · obtain ⟨rfl, rfl⟩ := hI
    obtain ⟨is, S2, h1, h2, h3⟩ := each i (by omega)
    rw [Int.zero_add]
    obtain ⟨h4, h5⟩ := h3 D (((List.range i).filter p).map f)
    refine ⟨is, S2, h1, h2, ZT.imp h4 ?_⟩
    rintro b Mb ⟨rfl, rfl⟩
    have st : (List.range (i + 1)).filter p = (List.range i).filter p ++ if p i = true then [i] else [] := by
      rw [List.range_succ, List.filter_append]
      cases hp : p i <;> simp [hp]
    refine ⟨fun e => ⟨_, rfl, ?_, rfl⟩, fun e => (h5 e).imp ?_⟩
    · rw [st, e]; simp
    · rintro y Mc ⟨rfl, rfl⟩
      exact ⟨_, _, rfl, rfl, by rw [st, if_pos e, List.map_append]; rfl, rfl⟩
  · obtain ⟨rfl, rfl⟩ := hI
    rw [Int.toNat_natCast]
    exact qq
/-- [e for x in range(a, j) if test] -/
theorem lcR2_fm {vs : List Nat} (a m : Nat) (f : Nat → PyData) (p : Nat → Bool) (h : ZA K E tA S M (fun zs M1 => ∃ j : Int, zs = [.d (.int (a : Nat)), .d (.int j)] ∧ j = ((a + m : Nat) : Int) ∧ a + m ≤ sizeLine ∧
      (∀ i, i < m → ∃ is S2, (∀ j ∈ is, j ∈ vs) ∧ ZG K g (.d (.int ((a + i : Nat) : Int))) (wipeZ S vs) is S2 ∧ ∀ D acc, ZT K E tt S2 ((D, true, .lst acc) :: M1) (fun b Mb => b = p (a + i) ∧ Mb = (D, true, .lst acc) :: M1) (fun _ _ _ => False) ∧
        (p (a + i) = true → ZW K E te S2 ((D, true, .lst acc) :: M1) (fun y Mc => y = .d (f (a + i)) ∧ Mc = (D, true, .lst acc) :: M1) fun _ _ _ => False)) ∧ Q (.d (.list ((((List.range m).map fun i => a + i).filter p).map f))) M1) X) : ZW K E (tLc (iRng2 tA) g tt te vs) S M Q X := by
  have hsz : sizeLine = 16777216 := sizeLine_eq
  refine zw_lcR2 (ZA.imp' h fun zs M1 ⟨j, hz, hj, hm, each, qq⟩ => ⟨(a : Nat), j, hz, by omega, by omega, fun i acc M' => acc = (((List.range i).map fun i => a + i).filter p).map f ∧ M' = M1, ⟨rfl, rfl⟩, fun i hi acc M' D hI => ?_, fun acc M' hI => ?_⟩)
  · obtain ⟨rfl, rfl⟩ := hI
    obtain ⟨is, S2, h1, h2, h3⟩ := each i (by omega)
    rw [show ((a : Nat) : Int) + ((i : Nat) : Int) = ((a + i : Nat) : Int) by omega]
    obtain ⟨h4, h5⟩ := h3 D ((((List.range i).map fun i => a + i).filter p).map f)
    refine ⟨is, S2, h1, h2, ZT.imp h4 ?_⟩
    rintro b Mb ⟨rfl, rfl⟩
    have st : ((List.range (i + 1)).map fun i => a + i).filter p = ((List.range i).map fun i => a + i).filter p ++ if p (a + i) = true then [a + i] else [] := by
      rw [List.range_succ, List.map_append, List.filter_append]
      cases hp : p (a + i) <;> simp [hp]
    refine ⟨fun e => ⟨_, rfl, ?_, rfl⟩, fun e => (h5 e).imp ?_⟩
    · rw [st, e]; simp
    · rintro y Mc ⟨rfl, rfl⟩
      exact ⟨_, _, rfl, rfl, by rw [st, if_pos e, List.map_append]; rfl, rfl⟩
  · obtain ⟨rfl, rfl⟩ := hI
    rw [show (j - ((a : Nat) : Int)).toNat = m by omega]
    exact qq
end
end Z
set_option autoImplicit true
namespace K27
open PySem PySem.Spec PyProof.Rows L2 Z
local macro_rules | `(tactic| walk_at "zd") => `(tactic| repeat (first | exact allD_nil | refine allD_cons ?_))
local macro_rules | `(tactic| walk_at "zm") => `(tactic| first | exact m1 (m1 (m1 (m1 m0))) | fail)
local macro_rules | `(tactic| walk_at "zm") => `(tactic| first | exact m1 (m1 (m1 m0)) | fail)
local macro_rules | `(tactic| walk_at "zm") => `(tactic| first | exact m1 (m1 m0) | fail)
local macro_rules | `(tactic| walk_at "zm") => `(tactic| first | exact m1 m0 | fail)
local macro_rules | `(tactic| walk_at "zm") => `(tactic| first | exact m0 | fail)
local macro_rules | `(tactic| walk_at "zu") => `(tactic| first | exact .there (.there (.there (.there .here))) | fail)
local macro_rules | `(tactic| walk_at "zu") => `(tactic| first | exact .there (.there (.there .here)) | fail)
local macro_rules | `(tactic| walk_at "zu") => `(tactic| first | exact .there (.there .here) | fail)
local macro_rules | `(tactic| walk_at "zu") => `(tactic| first | exact .there .here | fail)
local macro_rules | `(tactic| walk_at "zu") => `(tactic| first | exact .here | fail)
local macro_rules | `(tactic| walk_at "z") => `(tactic| first | with_reducible refine zw_chain ?_ | fail)
local macro_rules | `(tactic| walk_at "z") => `(tactic| first | with_reducible refine zj_cons ?_ | fail)
local macro_rules | `(tactic| walk_at "z") => `(tactic| first | with_reducible refine zj_nil ?_ | fail)
local macro_rules | `(tactic| walk_at "z") => `(tactic| first | with_reducible refine zw_js ?_ | fail)
local macro_rules | `(tactic| walk_at "z") => `(tactic| first | with_reducible refine' zs_raiseS ?_ | fail)
local macro_rules | `(tactic| walk_at "z") => `(tactic| first | with_reducible refine zo_inLS ?_ | fail)
local macro_rules | `(tactic| walk_at "z") => `(tactic| first | with_reducible refine zo_inTS ?_ | fail)
local macro_rules | `(tactic| walk_at "z") => `(tactic| first | with_reducible refine zo_neS ?_ | fail)
local macro_rules | `(tactic| walk_at "z") => `(tactic| first | with_reducible refine zo_neI ?_ | fail)
local macro_rules | `(tactic| walk_at "z") => `(tactic| first | with_reducible refine zo_neB ?_ | fail)
local macro_rules | `(tactic| walk_at "z") => `(tactic| first | with_reducible refine zo_eqB ?_ | fail)
local macro_rules | `(tactic| walk_at "z") => `(tactic| first | with_reducible refine zo_notN ?_ | fail)
local macro_rules | `(tactic| walk_at "z") => `(tactic| first | with_reducible refine zo_isN ?_ | fail)
local macro_rules | `(tactic| walk_at "z") => `(tactic| first | with_reducible refine zc_max2 ?_ | fail)
local macro_rules | `(tactic| walk_at "z") => `(tactic| first | with_reducible refine zc_min2 ?_ | fail)
local macro_rules | `(tactic| walk_at "z") => `(tactic| first | with_reducible refine zs_par3 ?_ | fail)
local macro_rules | `(tactic| walk_at "z") => `(tactic| first | with_reducible refine zo_eqS ?_ | fail)
local macro_rules | `(tactic| walk_at "z") => `(tactic| first | with_reducible refine zo_eqI ?_ | fail)
local macro_rules | `(tactic| walk_at "z") => `(tactic| first | with_reducible refine zt_yes ?_ | fail)
local macro_rules | `(tactic| walk_at "z") => `(tactic| first | with_reducible refine zw_lcR2 ?_ | fail)
local macro_rules | `(tactic| walk_at "z") => `(tactic| first | with_reducible refine zw_lcR1 ?_ | fail)
local macro_rules | `(tactic| walk_at "z") => `(tactic| first | with_reducible refine zs_forR2 ?_ | fail)
local macro_rules | `(tactic| walk_at "z") => `(tactic| first | with_reducible refine zs_forR1 ?_ | fail)
local macro_rules | `(tactic| walk_at "z") => `(tactic| first | with_reducible refine zs_forL ?_ | fail)
local macro_rules | `(tactic| walk_at "z") => `(tactic| first | with_reducible refine zs_forT ?_ | fail)
local macro_rules | `(tactic| walk_at "z") => `(tactic| first | with_reducible refine zw_call ?_ | fail)
local macro_rules | `(tactic| walk_at "z") => `(tactic| first | with_reducible refine zw_callC ?_ | fail)
local macro_rules | `(tactic| walk_at "z") => `(tactic| first | with_reducible refine zw_callO ?_ | fail)
local macro_rules | `(tactic| walk_at "z") => `(tactic| first | with_reducible refine zw_methO ?_ | fail)
local macro_rules | `(tactic| walk_at "z") => `(tactic| first | with_reducible refine zw_make ?_ | fail)
local macro_rules | `(tactic| walk_at "z") => `(tactic| first | with_reducible refine zw_callO0 ?_ | fail)
local macro_rules | `(tactic| walk_at "z") => `(tactic| first | with_reducible refine zw_methO0 ?_ | fail)
local macro_rules | `(tactic| walk_at "z") => `(tactic| first | with_reducible refine zw_make0 ?_ | fail)
local macro_rules | `(tactic| walk_at "z") => `(tactic| first | with_reducible refine zw_callC0 ?_ | fail)
local macro_rules | `(tactic| walk_at "z") => `(tactic| first | with_reducible refine zw_call0 ?_ | fail)
local macro_rules | `(tactic| walk_at "z") => `(tactic| first | with_reducible refine zs_asgG ?_ | fail)
local macro_rules | `(tactic| walk_at "z") => `(tactic| first | with_reducible refine' zs_raiseO ?_ | fail)
local macro_rules | `(tactic| walk_at "z") => `(tactic| first | with_reducible refine zw_con (by assumption) ?_ | fail)
local macro_rules | `(tactic| walk_at "z") => `(tactic| first | with_reducible refine zt_tru ?_ | fail)
local macro_rules | `(tactic| walk_at "z") => `(tactic| first | ((with_reducible refine' zc_lenC ?za ?_); (case za => walk_at "zm")) | fail)
local macro_rules | `(tactic| walk_at "z") => `(tactic| first | ((with_reducible refine' zc_len ?zb ?_); (case zb => first | rfl | assumption)) | fail)
local macro_rules | `(tactic| walk_at "z") => `(tactic| first | ((with_reducible refine' zo_ix ?zb ?_); (case zb => first | rfl | assumption)) | fail)
local macro_rules | `(tactic| walk_at "z") => `(tactic| first | ((with_reducible refine' zo_ixC ?za ?zb ?_); (case za => walk_at "zm"); (case zb => first | exact atI0 | exact atI1 | exact atI2 | exact atI3 | assumption)) | fail)
local macro_rules | `(tactic| walk_at "z") => `(tactic| first | with_reducible refine zc_int ?_ | fail)
local macro_rules | `(tactic| walk_at "z") => `(tactic| first | with_reducible refine zw_cb ?_ | fail)
local macro_rules | `(tactic| walk_at "z") => `(tactic| first | with_reducible refine zw_isX rfl ?_ | fail)
local macro_rules | `(tactic| walk_at "z") => `(tactic| first | with_reducible refine zt_isi2 ?_ | fail)
local macro_rules | `(tactic| walk_at "z") => `(tactic| first | with_reducible refine zt_isi rfl ?_ | fail)
local macro_rules | `(tactic| walk_at "z") => `(tactic| first | with_reducible refine zu_neg ?_ | fail)
local macro_rules | `(tactic| walk_at "z") => `(tactic| first | with_reducible refine zo_ge ?_ | fail)
local macro_rules | `(tactic| walk_at "z") => `(tactic| first | with_reducible refine zo_gt ?_ | fail)
local macro_rules | `(tactic| walk_at "z") => `(tactic| first | with_reducible refine zo_le ?_ | fail)
local macro_rules | `(tactic| walk_at "z") => `(tactic| first | with_reducible refine zo_lt ?_ | fail)
local macro_rules | `(tactic| walk_at "z") => `(tactic| first | with_reducible refine zo_sub ?_ | fail)
local macro_rules | `(tactic| walk_at "z") => `(tactic| first | with_reducible refine za_i ?_ | fail)
local macro_rules | `(tactic| walk_at "z") => `(tactic| first | with_reducible refine za_nil ?_ | fail)
local macro_rules | `(tactic| walk_at "z") => `(tactic| first | with_reducible refine za_cons ?_ | fail)
local macro_rules | `(tactic| walk_at "z") => `(tactic| first | with_reducible refine zw_if ?_ | fail)
local macro_rules | `(tactic| walk_at "z") => `(tactic| first | with_reducible refine zw_notV ?_ | fail)
local macro_rules | `(tactic| walk_at "z") => `(tactic| first | with_reducible refine zw_orV ?_ | fail)
local macro_rules | `(tactic| walk_at "z") => `(tactic| first | with_reducible refine zw_andV ?_ | fail)
local macro_rules | `(tactic| walk_at "z") => `(tactic| first | with_reducible refine zt_or ?_ | fail)
local macro_rules | `(tactic| walk_at "z") => `(tactic| first | with_reducible refine zt_and ?_ | fail)
local macro_rules | `(tactic| walk_at "z") => `(tactic| first | with_reducible refine zt_not ?_ | fail)
local macro_rules | `(tactic| walk_at "z") => `(tactic| first | with_reducible refine zt_B ?_ | fail)
local macro_rules | `(tactic| walk_at "z") => `(tactic| first | with_reducible refine zt_test ?_ | fail)
local macro_rules | `(tactic| walk_at "z") => `(tactic| first | with_reducible refine zw_m1 ?_ | fail)
local macro_rules | `(tactic| walk_at "z") => `(tactic| first | with_reducible refine zp_some ?_ | fail)
local macro_rules | `(tactic| walk_at "z") => `(tactic| first | with_reducible refine zp_none ?_ | fail)
local macro_rules | `(tactic| walk_at "z") => `(tactic| first | with_reducible refine zw_sl ?_ | fail)
local macro_rules | `(tactic| walk_at "z") => `(tactic| first | with_reducible refine zw_tup ?_ | fail)
local macro_rules | `(tactic| walk_at "z") => `(tactic| first | with_reducible refine zw_un ?_ | fail)
local macro_rules | `(tactic| walk_at "z") => `(tactic| first | with_reducible refine zw_op ?_ | fail)
local macro_rules | `(tactic| walk_at "z") => `(tactic| first | with_reducible refine zw_non ?_ | fail)
local macro_rules | `(tactic| walk_at "z") => `(tactic| first | with_reducible refine zw_bl ?_ | fail)
local macro_rules | `(tactic| walk_at "z") => `(tactic| first | with_reducible refine zw_str ?_ | fail)
local macro_rules | `(tactic| walk_at "z") => `(tactic| first | with_reducible refine zw_int ?_ | fail)
local macro_rules | `(tactic| walk_at "z") => `(tactic| first | ((with_reducible refine' zw_var ?zv ?_); (case zv => rfl)) | fail)
local macro_rules | `(tactic| walk_at "z") => `(tactic| first | with_reducible refine zs_par ?_ | fail)
local macro_rules | `(tactic| walk_at "z") => `(tactic| first | with_reducible refine zs_if ?_ | fail)
local macro_rules | `(tactic| walk_at "z") => `(tactic| first | with_reducible refine zs_drop ?_ | fail)
local macro_rules | `(tactic| walk_at "z") => `(tactic| first | with_reducible refine zs_retN ?_ | fail)
local macro_rules | `(tactic| walk_at "z") => `(tactic| first | with_reducible refine zs_ret ?_ | fail)
local macro_rules | `(tactic| walk_at "z") => `(tactic| first | with_reducible refine zs_next ?_ | fail)
local macro_rules | `(tactic| walk_at "z") => `(tactic| first | with_reducible refine zs_setL ?_ | fail)
local macro_rules | `(tactic| walk_at "z") => `(tactic| first | with_reducible refine zs_asg ?_ | fail)
local macro_rules | `(tactic| walk_at "z") => `(tactic| first | with_reducible refine zs_seq ?_ | fail)
local macro_rules | `(tactic| walk_at "zz") => `(tactic| repeat (walk_at "z"))
local macro_rules | `(tactic| walk_at "ze") => `(tactic| first | exact ⟨_, rfl, rfl⟩ | fail)
local macro_rules | `(tactic| walk_at "ze") => `(tactic| first | refine ⟨_, rfl, ?_⟩ | fail)
local macro_rules | `(tactic| walk_at "ze") => `(tactic| first | refine ⟨_, _, rfl, rfl, ?_⟩ | fail)
local macro_rules | `(tactic| walk_at "ze") => `(tactic| first | refine ⟨_, _, _, rfl, rfl, rfl, ?_⟩ | fail)
local macro_rules | `(tactic| walk_at "ze") => `(tactic| first | refine ⟨_, _, zg_name, ?_⟩ | fail)
local macro_rules | `(tactic| walk_at "ze") => `(tactic| first | refine ⟨_, _, zg_tup rfl (zgs_cons (zgs_cons (zgs_cons zgs_nil))), ?_⟩ | fail)
local macro_rules | `(tactic| walk_at "ze") => `(tactic| first | refine ⟨_, _, zg_tup rfl (zgs_cons (zgs_cons zgs_nil)), ?_⟩ | fail)
local macro_rules | `(tactic| walk_at "ze") => `(tactic| first | refine ⟨fun z => Bool.noConfusion z, fun _ => ?_⟩ | fail)
local macro_rules | `(tactic| walk_at "ze") => `(tactic| first | refine ⟨fun _ => ?_, fun z => Bool.noConfusion z⟩ | fail)
local macro_rules | `(tactic| walk_at "zf") => `(tactic| first | with_reducible refine zs_fldaug (by assumption) (by assumption) ?_ | fail)
local macro_rules | `(tactic| walk_at "zf") => `(tactic| first | with_reducible refine zw_fld (by assumption) (by assumption) ?_ | fail)
local macro_rules | `(tactic| walk_at "zf") => `(tactic| first | with_reducible refine zs_fld (by assumption) (by assumption) ?_ | fail)
local macro_rules | `(tactic| walk_at "zf") => `(tactic| first | refine ⟨_, _, _, _, rfl, (by exact Nat.le_of_ble_eq_true rfl), .here, ?_⟩ | fail)
local macro_rules | `(tactic| walk_at "zf") => `(tactic| first | refine ⟨_, _, rfl, ⟨_, _, m0, rfl⟩, ?_⟩ | fail)
local macro_rules | `(tactic| walk_at "zf") => `(tactic| first | refine ⟨_, _, _, _, rfl, m0, rfl, ?_⟩ | fail)
local macro_rules | `(tactic| walk_at "zfq") => `(tactic| repeat (first | walk_at "zf" | walk_at "z" | walk_at "ze"))
local macro_rules | `(tactic| walk_at "zq") => `(tactic| repeat (first | walk_at "z" | walk_at "ze"))
local macro_rules | `(tactic| walk_at "zt") => `(tactic| first | (refine ⟨_, (allD_cons (allD_cons (allD_cons (allD_cons (allD_cons (allD_cons (allD_cons (allD_cons (allD_cons (allD_cons (allD_cons (allD_cons (allD_cons (allD_cons (allD_cons (allD_cons (allD_cons (allD_cons (allD_cons (allD_cons (allD_cons (allD_cons (allD_cons allD_nil))))))))))))))))))))))), (by rw [sizeLine_eq]; first | decide | exact Nat.le_of_ble_eq_true rfl), ?_⟩) | fail)
local macro_rules | `(tactic| walk_at "zt") => `(tactic| first | (refine ⟨_, (allD_cons (allD_cons (allD_cons (allD_cons (allD_cons (allD_cons (allD_cons (allD_cons (allD_cons (allD_cons (allD_cons (allD_cons (allD_cons (allD_cons (allD_cons (allD_cons (allD_cons (allD_cons (allD_cons (allD_cons (allD_cons (allD_cons allD_nil)))))))))))))))))))))), (by rw [sizeLine_eq]; first | decide | exact Nat.le_of_ble_eq_true rfl), ?_⟩) | fail)
local macro_rules | `(tactic| walk_at "zt") => `(tactic| first | (refine ⟨_, (allD_cons (allD_cons (allD_cons (allD_cons (allD_cons (allD_cons (allD_cons (allD_cons (allD_cons (allD_cons (allD_cons (allD_cons (allD_cons (allD_cons (allD_cons (allD_cons (allD_cons (allD_cons (allD_cons (allD_cons (allD_cons allD_nil))))))))))))))))))))), (by rw [sizeLine_eq]; first | decide | exact Nat.le_of_ble_eq_true rfl), ?_⟩) | fail)
local macro_rules | `(tactic| walk_at "zt") => `(tactic| first | (refine ⟨_, (allD_cons (allD_cons (allD_cons (allD_cons (allD_cons (allD_cons (allD_cons (allD_cons (allD_cons (allD_cons (allD_cons (allD_cons (allD_cons (allD_cons (allD_cons (allD_cons (allD_cons (allD_cons (allD_cons (allD_cons allD_nil)))))))))))))))))))), (by rw [sizeLine_eq]; first | decide | exact Nat.le_of_ble_eq_true rfl), ?_⟩) | fail)
local macro_rules | `(tactic| walk_at "zt") => `(tactic| first | (refine ⟨_, (allD_cons (allD_cons (allD_cons (allD_cons (allD_cons (allD_cons (allD_cons (allD_cons (allD_cons (allD_cons (allD_cons (allD_cons (allD_cons (allD_cons (allD_cons (allD_cons (allD_cons (allD_cons (allD_cons allD_nil))))))))))))))))))), (by rw [sizeLine_eq]; first | decide | exact Nat.le_of_ble_eq_true rfl), ?_⟩) | fail)
local macro_rules | `(tactic| walk_at "zt") => `(tactic| first | (refine ⟨_, (allD_cons (allD_cons (allD_cons (allD_cons (allD_cons (allD_cons (allD_cons (allD_cons (allD_cons (allD_cons (allD_cons (allD_cons (allD_cons (allD_cons (allD_cons (allD_cons (allD_cons (allD_cons allD_nil)))))))))))))))))), (by rw [sizeLine_eq]; first | decide | exact Nat.le_of_ble_eq_true rfl), ?_⟩) | fail)
local macro_rules | `(tactic| walk_at "zt") => `(tactic| first | (refine ⟨_, (allD_cons (allD_cons (allD_cons (allD_cons (allD_cons (allD_cons (allD_cons (allD_cons (allD_cons (allD_cons (allD_cons (allD_cons (allD_cons (allD_cons (allD_cons (allD_cons (allD_cons allD_nil))))))))))))))))), (by rw [sizeLine_eq]; first | decide | exact Nat.le_of_ble_eq_true rfl), ?_⟩) | fail)
local macro_rules | `(tactic| walk_at "zt") => `(tactic| first | (refine ⟨_, (allD_cons (allD_cons (allD_cons (allD_cons (allD_cons (allD_cons (allD_cons (allD_cons (allD_cons (allD_cons (allD_cons (allD_cons (allD_cons (allD_cons (allD_cons (allD_cons allD_nil)))))))))))))))), (by rw [sizeLine_eq]; first | decide | exact Nat.le_of_ble_eq_true rfl), ?_⟩) | fail)
local macro_rules | `(tactic| walk_at "zt") => `(tactic| first | (refine ⟨_, (allD_cons (allD_cons (allD_cons (allD_cons (allD_cons (allD_cons (allD_cons (allD_cons (allD_cons (allD_cons (allD_cons (allD_cons (allD_cons (allD_cons (allD_cons allD_nil))))))))))))))), (by rw [sizeLine_eq]; first | decide | exact Nat.le_of_ble_eq_true rfl), ?_⟩) | fail)
local macro_rules | `(tactic| walk_at "zt") => `(tactic| first | (refine ⟨_, (allD_cons (allD_cons (allD_cons (allD_cons (allD_cons (allD_cons (allD_cons (allD_cons (allD_cons (allD_cons (allD_cons (allD_cons (allD_cons (allD_cons allD_nil)))))))))))))), (by rw [sizeLine_eq]; first | decide | exact Nat.le_of_ble_eq_true rfl), ?_⟩) | fail)
local macro_rules | `(tactic| walk_at "zt") => `(tactic| first | (refine ⟨_, (allD_cons (allD_cons (allD_cons (allD_cons (allD_cons (allD_cons (allD_cons (allD_cons (allD_cons (allD_cons (allD_cons (allD_cons (allD_cons allD_nil))))))))))))), (by rw [sizeLine_eq]; first | decide | exact Nat.le_of_ble_eq_true rfl), ?_⟩) | fail)
local macro_rules | `(tactic| walk_at "zt") => `(tactic| first | (refine ⟨_, (allD_cons (allD_cons (allD_cons (allD_cons (allD_cons (allD_cons (allD_cons (allD_cons (allD_cons (allD_cons (allD_cons (allD_cons allD_nil)))))))))))), (by rw [sizeLine_eq]; first | decide | exact Nat.le_of_ble_eq_true rfl), ?_⟩) | fail)
local macro_rules | `(tactic| walk_at "zt") => `(tactic| first | (refine ⟨_, (allD_cons (allD_cons (allD_cons (allD_cons (allD_cons (allD_cons (allD_cons (allD_cons (allD_cons (allD_cons (allD_cons allD_nil))))))))))), (by rw [sizeLine_eq]; first | decide | exact Nat.le_of_ble_eq_true rfl), ?_⟩) | fail)
local macro_rules | `(tactic| walk_at "zt") => `(tactic| first | (refine ⟨_, (allD_cons (allD_cons (allD_cons (allD_cons (allD_cons (allD_cons (allD_cons (allD_cons (allD_cons (allD_cons allD_nil)))))))))), (by rw [sizeLine_eq]; first | decide | exact Nat.le_of_ble_eq_true rfl), ?_⟩) | fail)
local macro_rules | `(tactic| walk_at "zt") => `(tactic| first | (refine ⟨_, (allD_cons (allD_cons (allD_cons (allD_cons (allD_cons (allD_cons (allD_cons (allD_cons (allD_cons allD_nil))))))))), (by rw [sizeLine_eq]; first | decide | exact Nat.le_of_ble_eq_true rfl), ?_⟩) | fail)
local macro_rules | `(tactic| walk_at "zt") => `(tactic| first | (refine ⟨_, (allD_cons (allD_cons (allD_cons (allD_cons (allD_cons (allD_cons (allD_cons (allD_cons allD_nil)))))))), (by rw [sizeLine_eq]; first | decide | exact Nat.le_of_ble_eq_true rfl), ?_⟩) | fail)
local macro_rules | `(tactic| walk_at "zt") => `(tactic| first | (refine ⟨_, (allD_cons (allD_cons (allD_cons (allD_cons (allD_cons (allD_cons (allD_cons allD_nil))))))), (by rw [sizeLine_eq]; first | decide | exact Nat.le_of_ble_eq_true rfl), ?_⟩) | fail)
local macro_rules | `(tactic| walk_at "zt") => `(tactic| first | (refine ⟨_, (allD_cons (allD_cons (allD_cons (allD_cons (allD_cons (allD_cons allD_nil)))))), (by rw [sizeLine_eq]; first | decide | exact Nat.le_of_ble_eq_true rfl), ?_⟩) | fail)
local macro_rules | `(tactic| walk_at "zt") => `(tactic| first | (refine ⟨_, (allD_cons (allD_cons (allD_cons (allD_cons (allD_cons allD_nil))))), (by rw [sizeLine_eq]; first | decide | exact Nat.le_of_ble_eq_true rfl), ?_⟩) | fail)
local macro_rules | `(tactic| walk_at "zt") => `(tactic| first | (refine ⟨_, (allD_cons (allD_cons (allD_cons (allD_cons allD_nil)))), (by rw [sizeLine_eq]; first | decide | exact Nat.le_of_ble_eq_true rfl), ?_⟩) | fail)
local macro_rules | `(tactic| walk_at "zt") => `(tactic| first | (refine ⟨_, (allD_cons (allD_cons (allD_cons allD_nil))), (by rw [sizeLine_eq]; first | decide | exact Nat.le_of_ble_eq_true rfl), ?_⟩) | fail)
local macro_rules | `(tactic| walk_at "zt") => `(tactic| first | (refine ⟨_, (allD_cons (allD_cons allD_nil)), (by rw [sizeLine_eq]; first | decide | exact Nat.le_of_ble_eq_true rfl), ?_⟩) | fail)
local macro_rules | `(tactic| walk_at "zt") => `(tactic| first | (refine ⟨_, (allD_cons allD_nil), (by rw [sizeLine_eq]; first | decide | exact Nat.le_of_ble_eq_true rfl), ?_⟩) | fail)
local macro_rules | `(tactic| walk_at "zt") => `(tactic| first | (refine ⟨_, allD_nil, (by rw [sizeLine_eq]; first | decide | exact Nat.le_of_ble_eq_true rfl), ?_⟩) | fail)
local macro_rules | `(tactic| walk_at "z") => `(tactic| first | with_reducible refine par_go3 ?_ | fail)
local macro_rules | `(tactic| walk_at "z") => `(tactic| first | with_reducible refine par_go ?_ | fail)
local macro_rules | `(tactic| walk_at "z") => `(tactic| first | with_reducible refine zo_isntB ?_ | fail)
local macro_rules | `(tactic| walk_at "z") => `(tactic| first | with_reducible refine zo_isB ?_ | fail)
local macro_rules | `(tactic| walk_at "z") => `(tactic| first | with_reducible refine zc_gcd ?_ | fail)
local macro_rules | `(tactic| walk_at "z") => `(tactic| first | with_reducible refine zc_abs ?_ | fail)
local macro_rules | `(tactic| walk_at "z") => `(tactic| first | with_reducible refine zw_makeE ?_ | fail)
local macro_rules | `(tactic| walk_at "z") => `(tactic| first | with_reducible refine zw_callB0 ?_ | fail)
local macro_rules | `(tactic| walk_at "z") => `(tactic| first | with_reducible refine zc_any ?_ | fail)
local macro_rules | `(tactic| walk_at "z") => `(tactic| first | with_reducible refine zw_dget2 ?_ | fail)
local macro_rules | `(tactic| walk_at "z") => `(tactic| first | with_reducible refine zw_din ?_ | fail)
local macro_rules | `(tactic| walk_at "z") => `(tactic| first | with_reducible refine zo_leR ?_ | fail)
local macro_rules | `(tactic| walk_at "z") => `(tactic| first | with_reducible refine zw_callE0 ?_ | fail)
local macro_rules | `(tactic| walk_at "z") => `(tactic| first | with_reducible refine zs_forN ?_ | fail)
local macro_rules | `(tactic| walk_at "z") => `(tactic| first | with_reducible refine zw_makeI ?_ | fail)
local macro_rules | `(tactic| walk_at "z") => `(tactic| first | with_reducible refine zw_methF ?_ | fail)
local macro_rules | `(tactic| walk_at "z") => `(tactic| first | with_reducible refine zw_methH0 ?_ | fail)
local macro_rules | `(tactic| walk_at "z") => `(tactic| first | with_reducible refine zs_augL ?_ | fail)
local macro_rules | `(tactic| walk_at "z") => `(tactic| first | with_reducible refine zs_dputT ?_ | fail)
local macro_rules | `(tactic| walk_at "z") => `(tactic| first | with_reducible refine zw_sortKeys ?_ | fail)
local macro_rules | `(tactic| walk_at "z") => `(tactic| first | with_reducible refine zw_dnewT ?_ | fail)
local macro_rules | `(tactic| walk_at "z") => `(tactic| first | with_reducible refine zm_str2 ?_ | fail)
local macro_rules | `(tactic| walk_at "z") => `(tactic| first | with_reducible refine zm_str1 ?_ | fail)
local macro_rules | `(tactic| walk_at "z") => `(tactic| first | with_reducible refine zw_bmS ?_ | fail)
local macro_rules | `(tactic| walk_at "z") => `(tactic| first | with_reducible refine zw_fmtB ?_ | fail)
local macro_rules | `(tactic| walk_at "z") => `(tactic| first | with_reducible refine zo_shrN ?_ | fail)
local macro_rules | `(tactic| walk_at "z") => `(tactic| first | with_reducible refine zo_bxor ?_ | fail)
local macro_rules | `(tactic| walk_at "z") => `(tactic| first | with_reducible refine zo_bor ?_ | fail)
local macro_rules | `(tactic| walk_at "z") => `(tactic| first | with_reducible refine zo_band ?_ | fail)
local macro_rules | `(tactic| walk_at "z") => `(tactic| first | with_reducible refine zs_forE ?_ | fail)
local macro_rules | `(tactic| walk_at "z") => `(tactic| first | with_reducible refine zs_asgF ?_ | fail)
local macro_rules | `(tactic| walk_at "zf") => `(tactic| first | refine ⟨_, _, rfl, ⟨_, _, m1 m0, rfl⟩, ?_⟩ | fail)
local macro_rules | `(tactic| walk_at "zf") => `(tactic| first | refine ⟨_, _, _, _, rfl, m1 m0, rfl, ?_⟩ | fail)
local macro_rules | `(tactic| walk_at "zf") => `(tactic| refine ⟨_, _, _, _, rfl, Nat.le_of_ble_eq_true rfl, .there .here, ?_⟩)
local macro_rules | `(tactic| walk_at "z") => `(tactic| first | with_reducible refine zo_isNC ?_ | fail)
local macro_rules | `(tactic| walk_at "z") => `(tactic| first | with_reducible refine zo_notNC ?_ | fail)
local macro_rules | `(tactic| walk_at "z") => `(tactic| first | with_reducible refine zw_callM0 ?_ | fail)
local macro_rules | `(tactic| walk_at "z") => `(tactic| first | with_reducible refine zw_lext ?_ | fail)
local macro_rules | `(tactic| walk_at "z") => `(tactic| first | with_reducible refine zw_lpop ?_ | fail)
local macro_rules | `(tactic| walk_at "z") => `(tactic| first | with_reducible refine zw_dpopK ?_ | fail)
local macro_rules | `(tactic| walk_at "z") => `(tactic| with_reducible refine zw_sortSet ?_)
local macro_rules | `(tactic| walk_at "z") => `(tactic| first | with_reducible refine zo_inSg ?_ | fail)
local macro_rules | `(tactic| walk_at "z") => `(tactic| first | with_reducible refine zs_forE2 ?_ | fail)
local macro_rules | `(tactic| walk_at "z") => `(tactic| first | ((with_reducible refine' zw_lcNew ?hv ?_); (case hv => rfl)) | fail)
local macro_rules | `(tactic| walk_at "z") => `(tactic| first | with_reducible refine zw_kd ?_ | fail)
local macro_rules | `(tactic| walk_at "z") => `(tactic| first | with_reducible refine zw_methP ?_ | fail)
local macro_rules | `(tactic| walk_at "z") => `(tactic| first | with_reducible refine zw_makeJ ?_ | fail)
local macro_rules | `(tactic| walk_at "zy") => `(tactic| first | refine ⟨_, rfl, rfl, ?_⟩ | fail)
local macro_rules | `(tactic| walk_at "zy") => `(tactic| first | refine ⟨_, _, rfl, rfl, ?_⟩ | fail)
local macro_rules | `(tactic| walk_at "zy") => `(tactic| first | with_reducible refine zw_callZ ?_ | fail)
local macro_rules | `(tactic| walk_at "zy") => `(tactic| first | with_reducible refine zw_callZ0 ?_ | fail)
local macro_rules | `(tactic| walk_at "zy") => `(tactic| first | with_reducible refine zw_methZ0 ?_ | fail)
local macro_rules | `(tactic| walk_at "zy") => `(tactic| first | with_reducible refine zw_fldZ (by assumption) (by assumption) ?_ | fail)
local macro_rules | `(tactic| walk_at "zyq") => `(tactic| repeat (first | walk_at "zy" | walk_at "z" | walk_at "ze"))
local macro_rules | `(tactic| walk_at "z") => `(tactic| first | with_reducible refine zs_brk ?_ | fail)
local macro_rules | `(tactic| walk_at "z") => `(tactic| first | with_reducible refine zs_forR3 ?_ | fail)
local macro_rules | `(tactic| walk_at "z") => `(tactic| first | with_reducible refine zw_lcR3 ?_ | fail)
local macro_rules | `(tactic| walk_at "z") => `(tactic| first | with_reducible refine zw_lcEn ?_ | fail)
local macro_rules | `(tactic| walk_at "z") => `(tactic| first | with_reducible refine zw_methR ?_ | fail)
local macro_rules | `(tactic| walk_at "z") => `(tactic| first | with_reducible refine zw_sortItemsN ?_ | fail)
local macro_rules | `(tactic| walk_at "z") => `(tactic| first | with_reducible refine zw_sortKeysN ?_ | fail)
local macro_rules | `(tactic| walk_at "z") => `(tactic| first | with_reducible refine zw_get2N ?_ | fail)
local macro_rules | `(tactic| walk_at "z") => `(tactic| first | with_reducible refine zw_getN ?_ | fail)
local macro_rules | `(tactic| walk_at "z") => `(tactic| first | with_reducible refine zs_putN ?_ | fail)
local macro_rules | `(tactic| walk_at "z") => `(tactic| first | with_reducible refine zw_newN ?_ | fail)
local macro_rules | `(tactic| walk_at "zgq") => `(tactic| repeat (first | walk_at "zf" | walk_at "zy" | walk_at "z" | walk_at "ze"))
local macro_rules | `(tactic| walk_at "zf") => `(tactic| with_reducible refine zw_fldN (by assumption) (by assumption) ?_)
local macro_rules | `(tactic| walk_at "zy") => `(tactic| with_reducible refine zw_fldZN (by assumption) (by assumption) ?_)
local macro_rules | `(tactic| walk_at "zf") => `(tactic| with_reducible refine zs_fldN (by assumption) (by assumption) ?_)
local macro_rules | `(tactic| walk_at "z") => `(tactic| first | with_reducible refine zs_forS ?_ | fail)
local macro_rules | `(tactic| walk_at "z") => `(tactic| first | with_reducible refine zw_lcZip ?_ | fail)
local macro_rules | `(tactic| walk_at "z") => `(tactic| first | with_reducible refine lcZip_int ?_ | fail)
def topS (i : Nat) : Stmt := PySem.Challenge.pw_fateboards_k27_whole_strips.main.body.getD i (.Pass ⟨0, 0, 0, 0⟩)
abbrev s_is_between : Stmt := topS 6
abbrev N_is_between : List Str := ["value", "low", "high"]
theorem sc_is_between : FnScope N_is_between ["value", "low", "high"] (defScope s_is_between) := ⟨rfl, rfl, rfl, by decide +kernel, rfl, by decide +kernel, by decide +kernel⟩
abbrev s_check_number : Stmt := topS 7
abbrev N_check_number : List Str := ["value", "low", "high"]
theorem sc_check_number : FnScope N_check_number ["value", "low", "high"] (defScope s_check_number) := ⟨rfl, rfl, rfl, by decide +kernel, rfl, by decide +kernel, by decide +kernel⟩
abbrev s_ColumnStepper_init : Stmt := inClass (topS 9) 0
abbrev N_ColumnStepper_init : List Str := ["self", "rule", "many"]
theorem sc_ColumnStepper_init : FnScope N_ColumnStepper_init ["self", "rule", "many"] (defScope s_ColumnStepper_init) := ⟨rfl, rfl, rfl, by decide +kernel, rfl, by decide +kernel, by decide +kernel⟩
abbrev s_ColumnStepper_later : Stmt := inClass (topS 9) 1
abbrev N_ColumnStepper_later : List Str := ["self", "left", "middle", "right", "column", "row", "around"]
theorem sc_ColumnStepper_later : FnScope N_ColumnStepper_later ["self", "left", "middle", "right"] (defScope s_ColumnStepper_later) := ⟨rfl, rfl, rfl, by decide +kernel, rfl, by decide +kernel, by decide +kernel⟩
abbrev s_later_cells : Stmt := topS 10
abbrev N_later_cells : List Str := ["rule", "births", "stays", "later", "around", "alive", "many"]
theorem sc_later_cells : FnScope N_later_cells ["rule"] (defScope s_later_cells) := ⟨rfl, rfl, rfl, by decide +kernel, rfl, by decide +kernel, by decide +kernel⟩
abbrev s_inverse : Stmt := topS 12
abbrev N_inverse : List Str := ["number", "size", "before", "now", "large", "small", "many"]
theorem sc_inverse : FnScope N_inverse ["number", "size"] (defScope s_inverse) := ⟨rfl, rfl, rfl, by decide +kernel, rfl, by decide +kernel, by decide +kernel⟩
abbrev s_far_term : Stmt := topS 15
abbrev N_far_term : List Str := ["terms", "index", "recurrence", "shares", "share", "term"]
theorem sc_far_term : FnScope N_far_term ["terms", "index"] (defScope s_far_term) := ⟨rfl, rfl, rfl, by decide +kernel, rfl, by decide +kernel, by decide +kernel⟩
abbrev s_shortest_recurrence : Stmt := topS 16
abbrev N_shortest_recurrence : List Str := ["terms", "now", "failed", "place", "gap", "index", "term", "missing", "back", "share", "often", "mend", "later"]
theorem sc_shortest_recurrence : FnScope N_shortest_recurrence ["terms"] (defScope s_shortest_recurrence) := ⟨rfl, rfl, rfl, by decide +kernel, rfl, by decide +kernel, by decide +kernel⟩
abbrev s_sum_of : Stmt := topS 17
abbrev N_sum_of : List Str := ["one", "other", "many", "first", "second"]
theorem sc_sum_of : FnScope N_sum_of ["one", "other"] (defScope s_sum_of) := ⟨rfl, rfl, rfl, by decide +kernel, rfl, by decide +kernel, by decide +kernel⟩
abbrev s_shares : Stmt := topS 18
abbrev N_shares : List Str := ["recurrence", "index", "shares", "figure"]
theorem sc_shares : FnScope N_shares ["recurrence", "index"] (defScope s_shares) := ⟨rfl, rfl, rfl, by decide +kernel, rfl, by decide +kernel, by decide +kernel⟩
abbrev s_one_on : Stmt := topS 19
abbrev N_one_on : List Str := ["shares", "recurrence", "share"]
theorem sc_one_on : FnScope N_one_on ["shares", "recurrence"] (defScope s_one_on) := ⟨rfl, rfl, rfl, by decide +kernel, rfl, by decide +kernel, by decide +kernel⟩
abbrev s_doubled : Stmt := topS 20
abbrev N_doubled : List Str := ["shares", "recurrence", "many", "sums", "one", "share", "two", "other", "index", "top", "back", "number"]
theorem sc_doubled : FnScope N_doubled ["shares", "recurrence"] (defScope s_doubled) := ⟨rfl, rfl, rfl, by decide +kernel, rfl, by decide +kernel, by decide +kernel⟩
abbrev s_check_rule : Stmt := topS 22
abbrev N_check_rule : List Str := ["rule"]
theorem sc_check_rule : FnScope N_check_rule ["rule"] (defScope s_check_rule) := ⟨rfl, rfl, rfl, by decide +kernel, rfl, by decide +kernel, by decide +kernel⟩
abbrev s_is_rule : Stmt := topS 23
abbrev N_is_rule : List Str := ["value", "births", "stays", "states"]
theorem sc_is_rule : FnScope N_is_rule ["value"] (defScope s_is_rule) := ⟨rfl, rfl, rfl, by decide +kernel, rfl, by decide +kernel, by decide +kernel⟩
abbrev s_are_counts : Stmt := topS 24
abbrev N_are_counts : List Str := ["value", "least", "count"]
theorem sc_are_counts : FnScope N_are_counts ["value", "least"] (defScope s_are_counts) := ⟨rfl, rfl, rfl, by decide +kernel, rfl, by decide +kernel, by decide +kernel⟩
abbrev s_stills_in_strip : Stmt := topS 28
abbrev N_stills_in_strip : List Str := ["rule", "high", "wide"]
theorem sc_stills_in_strip : FnScope N_stills_in_strip ["rule", "high", "wide"] (defScope s_stills_in_strip) := ⟨rfl, rfl, rfl, by decide +kernel, rfl, by decide +kernel, by decide +kernel⟩
abbrev s_stills_far : Stmt := topS 29
abbrev N_stills_far : List Str := ["rule", "high", "wide", "pairs"]
theorem sc_stills_far : FnScope N_stills_far ["rule", "high", "wide"] (defScope s_stills_far) := ⟨rfl, rfl, rfl, by decide +kernel, rfl, by decide +kernel, by decide +kernel⟩
abbrev s_numbers : Stmt := topS 30
abbrev N_numbers : List Str := ["rule", "high", "most", "ways", "counts", "numbers", "_", "later", "pair", "behind"]
theorem sc_numbers : FnScope N_numbers ["rule", "high", "most"] (defScope s_numbers) := ⟨rfl, rfl, rfl, by decide +kernel, rfl, by decide +kernel, by decide +kernel⟩
abbrev s_ways : Stmt := topS 31
abbrev N_ways : List Str := ["rule", "high", "stepper", "size", "ways", "pair", "left", "middle", "right"]
theorem sc_ways : FnScope N_ways ["rule", "high"] (defScope s_ways) := ⟨rfl, rfl, rfl, by decide +kernel, rfl, by decide +kernel, by decide +kernel⟩
abbrev s_law_taken : Stmt := topS 33
abbrev N_law_taken : List Str := ["row", "many", "found", "cell"]
theorem sc_law_taken : FnScope N_law_taken ["row", "many"] (defScope s_law_taken) := ⟨rfl, rfl, rfl, by decide +kernel, rfl, by decide +kernel, by decide +kernel⟩
abbrev s_law_pick : Stmt := topS 34
abbrev N_law_pick : List Str := ["row", "things"]
theorem sc_law_pick : FnScope N_law_pick ["row", "things"] (defScope s_law_pick) := ⟨rfl, rfl, rfl, by decide +kernel, rfl, by decide +kernel, by decide +kernel⟩
abbrev s_law_some_rule : Stmt := topS 35
abbrev N_law_some_rule : List Str := ["row", "way", "births", "k", "stays"]
theorem sc_law_some_rule : FnScope N_law_some_rule ["row"] (defScope s_law_some_rule) := ⟨rfl, rfl, rfl, by decide +kernel, rfl, by decide +kernel, by decide +kernel⟩
abbrev s_law_around : Stmt := topS 36
abbrev N_law_around : List Str := ["place", "found", "a", "b"]
theorem sc_law_around : FnScope N_law_around ["place"] (defScope s_law_around) := ⟨rfl, rfl, rfl, by decide +kernel, rfl, by decide +kernel, by decide +kernel⟩
abbrev s_law_step : Stmt := topS 37
abbrev N_law_step : List Str := ["rule", "board", "cells", "places", "found", "cell", "place", "near", "one", "state", "new"]
theorem sc_law_step : FnScope N_law_step ["rule", "board"] (defScope s_law_step) := ⟨rfl, rfl, rfl, by decide +kernel, rfl, by decide +kernel, by decide +kernel⟩
abbrev s_law_alike : Stmt := topS 38
abbrev N_law_alike : List Str := ["found", "due", "k"]
theorem sc_law_alike : FnScope N_law_alike ["found", "due"] (defScope s_law_alike) := ⟨rfl, rfl, rfl, by decide +kernel, rfl, by decide +kernel, by decide +kernel⟩
abbrev s_law : Stmt := topS 39
abbrev N_law : List Str := ["script", "row", "rule", "high", "wide", "many", "prime", "number", "board", "x", "y", "numbers", "at", "far", "start", "size", "rows", "k", "near", "a", "b", "c", "bad"]
theorem sc_law : FnScope N_law ["script"] (defScope s_law) := ⟨rfl, rfl, rfl, by decide +kernel, rfl, by decide +kernel, by decide +kernel⟩
def dBetween (x : PyData) (lo hi : Int) : Bool := match x with | .int i => decide (lo ≤ i) && decide (i ≤ hi) | _ => false
def R_between (ds : List PyData) (o : DOut) : Prop := ∃ x lo hi, ds = [x, .int lo, .int hi] ∧ o = .ok (.bool (dBetween x lo hi))
theorem ok_is_between {P : Program} {w : World} {K : Fg} {mg : Str → Option Value} {base : Heap} {f : Addr} {fd : FuncData} (F : Fun K "is_between" "is_between" s_is_between f fd)
    (m_isinstance : mg "isinstance" = none)
    (m_int : mg "int" = none)
    (m_bool : mg "bool" = none) :
    FnOk P w K mg base (L2.CX P w) 1 f fd ["value", "low", "high"] (spD K 3 R_between) := by
  refine F.okX sc_is_between (fun vs H Q E h => len_D h) (fun cdv A outer s H vs Q E hr h => ⟨_, (pss_cons (ps_if (PW.pt (pw_or (pt_val (pe_callB call_isi (by rfl) m_isinstance bb_isinstance (pa_cons (pv 0) (pa_cons (pe_bltn (v := .ty "bool") (by rfl) m_bool bt_bool rfl) pa_nil))) (fun _ => rfl)) (pw_or1 (pt_not (pt_val (pe_callB call_isi (by rfl) m_isinstance bb_isinstance (pa_cons (pv 0) (pa_cons (pe_bltn (v := .ty "int") (by rfl) m_int bt_int rfl) pa_nil))) (fun _ => rfl)))))) (pss_one (ps_ret pe_bl)) pss_nil)
      (pss_one (ps_ret (pe_chain op_le op_le (pv 1) (pv 0) (pv 2))))),
    fn_D h fun ds o hk hR => ?_⟩)
  try dsimp only [L2.cxOf]
  obtain ⟨x, lo, hi, rfl, rfl⟩ := hR
  walk_at "zz"
  cases x <;> walk_at "zq"
  all_goals try rfl
  rename_i i _ _
  have hb : dBetween (.int i) lo hi = (decide (lo ≤ i) && decide (i ≤ hi)) := rfl
  refine ⟨fun e => ?_, fun e => ?_⟩
  · exact ⟨_, rfl, by rw [hb, e]; rfl⟩
  · walk_at "zq"
    show _ = _
    rw [hb, e]
    rfl
def R_chknum (ds : List PyData) (o : DOut) : Prop := ∃ x lo hi, ds = [.int x, .int lo, .int hi] ∧ lo ≤ x ∧ x ≤ hi ∧ o = .ok .none
theorem ok_check_number {P : Program} {w : World} {K : Fg} {mg : Str → Option Value} {base : Heap} {f : Addr} {fd : FuncData} (F : Fun K "check_number" "check_number" s_check_number f fd)
    (c_is_between : Cal P w K mg base 1 "is_between" (spD K 3 R_between)) :
    FnOk P w K mg base (L2.CX P w) 2 f fd ["value", "low", "high"] (spD K 3 R_chknum) := by
  refine F.okX sc_check_number (fun vs H Q E h => len_D h) (fun cdv A outer s H vs Q E hr h => ⟨_, (pss_one (ps_if (pt_not (pt_val (pe_cl c_is_between hr (show 1 ≤ 1 by decide) passL (pa_cons (pv 0) (pa_cons (pv 1) (pa_cons (pv 2) pa_nil)))) (fun _ => rfl))) (pss_one ps_never) pss_nil)),
    fn_D h fun ds o hk hR => ?_⟩)
  try dsimp only [L2.cxOf]
  obtain ⟨x, lo, hi, rfl, h1, h2, rfl⟩ := hR
  walk_at "zq"
  refine ⟨_, _, by walk_at "zd", rfl, ⟨_, _, _, rfl, rfl⟩, ?_⟩
  rw [show dBetween (.int x) lo hi = true by unfold dBetween; simp only [decide_eq_true h1, decide_eq_true h2]; rfl]
  walk_at "zq"
  rfl
/-- a place or a move -/
abbrev pr (x y : Int) : PyData := .tuple [.int x, .int y]
/-! ### cells -/
structure Cell where
  x : Int
  y : Int
  s : Int
def Cell.r (c : Cell) : List Int := [c.x, c.y, c.s]
abbrev Cell.d (c : Cell) : PyData := .tuple [.int c.x, .int c.y, .int c.s]
abbrev bD (b : List Cell) : PyData := .tuple (b.map Cell.d)
theorem pw_at {α : Type} {R : α → α → Prop} {l : List α} (h : l.Pairwise R) {i j : Nat} {a b : α} (hij : i < j) (ha : l[i]? = some a) (hb : l[j]? = some b) : R a b := by
  obtain ⟨h1, e1⟩ := List.getElem?_eq_some_iff.mp ha
  obtain ⟨h2, e2⟩ := List.getElem?_eq_some_iff.mp hb
  rw [← e1, ← e2]
  exact List.pairwise_iff_getElem.mp h i j h1 h2 hij
/-- what stands at which place -/
def plcs (b : List Cell) : List (List Key × PyData) := rowsP (b.map fun c => ([c.x, c.y], PyData.int c.s))
/-! ### rules -/
theorem between_t {x lo hi : Int} (h1 : lo ≤ x) (h2 : x ≤ hi) : dBetween (.int x) lo hi = true := by
  show (decide (lo ≤ x) && decide (x ≤ hi)) = true
  rw [decide_eq_true h1, decide_eq_true h2]
  rfl
structure Rl where
  b : List Nat
  s : List Nat
  n : Nat
abbrev natsD (l : List Nat) : PyData := .tuple (l.map fun (k : Nat) => .int (k : Int))
abbrev Rl.d (r : Rl) : PyData := .tuple [natsD r.b, natsD r.s, .int (r.n : Int)]
structure Rule (r : Rl) : Prop where
  bl : ∀ k ∈ r.b, 1 ≤ k ∧ k ≤ 8
  sl : ∀ k ∈ r.s, k ≤ 8
  bu : r.b.Pairwise (· < ·)
  su : r.s.Pairwise (· < ·)
  n2 : 2 ≤ r.n
  n6 : r.n ≤ 6
def R_counts (ds : List PyData) (o : DOut) : Prop := ∃ (l : List Nat) (m : Nat), ds = [natsD l, .int (m : Int)] ∧ (∀ k ∈ l, m ≤ k ∧ k ≤ 8) ∧ l.Pairwise (· < ·) ∧ o = .ok (.bool true)
theorem ok_are_counts {P : Program} {w : World} {K : Fg} {mg : Str → Option Value} {base : Heap} {f : Addr} {fd : FuncData} (F : Fun K "_are_counts" "_are_counts" s_are_counts f fd)
    (m_isinstance : mg "isinstance" = none)
    (m_tuple : mg "tuple" = none)
    (c_is_between : Cal P w K mg base 1 "is_between" (spD K 3 R_between)) :
    FnOk P w K mg base (L2.CX P w) 2 f fd ["value", "least"] (spD K 2 R_counts) := by
  refine F.okX sc_are_counts (fun vs H Q E h => len_D h) (fun cdv A outer s H vs Q E hr h => ⟨_, (pss_cons (ps_if (pt_not (pt_val (pe_callB call_isi (by rfl) m_isinstance bb_isinstance (pa_cons (pv 0) (pa_cons (pe_bltn (v := .ty "tuple") (by rfl) m_tuple bt_tuple rfl) pa_nil))) (fun _ => rfl))) (pss_one (ps_ret pe_bl)) pss_nil)
      (pss_cons (ps_for (passes_of rfl) rfl (pi_tup (pv 0)) (pg_name (i := 2) sc_are_counts.nd rfl (by first | exact Or.inl rfl | exact Or.inr rfl)) (pss_cons (ps_if (pt_not (pt_val (pe_cl c_is_between hr (show 1 ≤ 1 by decide) passL (pa_cons (pv 2) (pa_cons (pv 1) (pa_cons pe_int pa_nil)))) (fun _ => rfl))) (pss_one (ps_ret pe_bl)) pss_nil)
      (pss_one (ps_set (i := 1) sc_are_counts.nd rfl (by first | exact Or.inl rfl | exact Or.inr rfl) (pe_op op_addA (pv 2) pe_int)))))
      (pss_one (ps_ret pe_bl)))),
    fn_D h fun ds o hk hR => ?_⟩)
  try dsimp only [L2.cxOf]
  obtain ⟨l, m, rfl, h1, h2, rfl⟩ := hR
  walk_at "zq"
  refine ⟨fun i S2 M2 => ∃ (m' : Nat) (c : Option ZV), S2 = [some (.d (natsD l)), some (.d (.int (m' : Int))), c] ∧ M2 = [] ∧ ∀ k ∈ l.drop i, m' ≤ k, ⟨m, _, rfl, rfl, fun k hk => (h1 k (by simpa using hk)).1⟩, ?_, ?_⟩
  · rintro i v S2 M2 hv ⟨m', c, rfl, rfl, hm⟩
    rw [List.getElem?_map] at hv
    obtain ⟨k, hk, rfl⟩ := Option.map_eq_some_iff.mp hv
    have hkm := List.mem_of_getElem? hk
    have hi := (List.getElem?_eq_some_iff.mp hk).1
    have hmk : m' ≤ k := hm k (List.mem_of_getElem? (i := 0) (by rw [List.getElem?_drop, Nat.add_zero]; exact hk))
    have hk8 := (h1 k hkm).2
    walk_at "zq"
    refine ⟨_, _, by walk_at "zd", rfl, ⟨_, _, _, rfl, rfl⟩, ?_⟩
    rw [between_t (x := (k : Int)) (by omega) (by omega)]
    walk_at "zq"
    intro j hj
    obtain ⟨a, ha⟩ := List.mem_iff_getElem?.mp hj
    rw [List.getElem?_drop] at ha
    exact pw_at h2 (by omega) hk ha
  · rintro S2 M2 ⟨m', c, rfl, rfl, _⟩
    walk_at "zq"
    try rfl
def R_isRule (ds : List PyData) (o : DOut) : Prop := ∃ r : Rl, ds = [r.d] ∧ Rule r ∧ o = .ok (.bool true)
theorem ok_is_rule {P : Program} {w : World} {K : Fg} {mg : Str → Option Value} {base : Heap} {f : Addr} {fd : FuncData} (F : Fun K "_is_rule" "_is_rule" s_is_rule f fd)
    (m_len : mg "len" = none)
    (m_isinstance : mg "isinstance" = none)
    (m_tuple : mg "tuple" = none)
    (c_is_between : Cal P w K mg base 1 "is_between" (spD K 3 R_between))
    (c__are_counts : Cal P w K mg base 2 "_are_counts" (spD K 2 R_counts)) :
    FnOk P w K mg base (L2.CX P w) 3 f fd ["value"] (spD K 1 R_isRule) := by
  refine F.okX sc_is_rule (fun vs H Q E h => len_D h) (fun cdv A outer s H vs Q E hr h => ⟨_, (pss_cons (ps_if (PW.pt (pw_or (pt_not (pt_val (pe_callB call_isi (by rfl) m_isinstance bb_isinstance (pa_cons (pv 0) (pa_cons (pe_bltn (v := .ty "tuple") (by rfl) m_tuple bt_tuple rfl) pa_nil))) (fun _ => rfl))) (pw_or1 (pt_cmpR (op_neA hr.units) (pe_callB call_len (by rfl) m_len bb_len (pa_cons (pv 0) pa_nil)) pe_int (nomark _))))) (pss_one (ps_ret pe_bl)) pss_nil)
      (pss_cons (ps_asg (pv 0) (pg_tup rfl (pgs_cons (pg_name (i := 1) sc_is_rule.nd rfl (by first | exact Or.inl rfl | exact Or.inr rfl)) (pgs_cons (pg_name (i := 2) sc_is_rule.nd rfl (by first | exact Or.inl rfl | exact Or.inr rfl)) (pgs_cons (pg_name (i := 3) sc_is_rule.nd rfl (by first | exact Or.inl rfl | exact Or.inr rfl)) pgs_nil)))))
      (pss_one (ps_ret (pe_and (pe_cl c__are_counts hr (show 2 ≤ 2 by decide) passL (pa_cons (pv 1) (pa_cons pe_int pa_nil))) (pe_and (pe_cl c__are_counts hr (show 2 ≤ 2 by decide) passL (pa_cons (pv 2) (pa_cons pe_int pa_nil))) (pe_one (pe_cl c_is_between hr (show 1 ≤ 2 by decide) passL (pa_cons (pv 3) (pa_cons pe_int (pa_cons pe_int pa_nil))))))))))),
    fn_D h fun ds o hk hR => ?_⟩)
  try dsimp only [L2.cxOf]
  obtain ⟨r, rfl, hr2, rfl⟩ := hR
  walk_at "zq"
  refine ⟨_, _, by walk_at "zd", rfl, ⟨r.b, 1, rfl, hr2.bl, hr2.bu, rfl⟩, ?_⟩
  walk_at "zq"
  refine ⟨_, _, by walk_at "zd", rfl, ⟨r.s, 0, rfl, fun k hk => ⟨Nat.zero_le _, hr2.sl k hk⟩, hr2.su, rfl⟩, ?_⟩
  walk_at "zq"
  refine ⟨_, _, by walk_at "zd", rfl, ⟨_, _, _, rfl, rfl⟩, ?_⟩
  have h2 := hr2.n2
  have h6 := hr2.n6
  rw [between_t (x := (r.n : Int)) (by omega) (by omega)]
  walk_at "zq"
  first | rfl | exact ⟨_, rfl, rfl⟩
def R_chkRule (ds : List PyData) (o : DOut) : Prop := ∃ r : Rl, ds = [r.d] ∧ Rule r ∧ o = .ok .none
theorem ok_check_rule {P : Program} {w : World} {K : Fg} {mg : Str → Option Value} {base : Heap} {f : Addr} {fd : FuncData} (F : Fun K "check_rule" "check_rule" s_check_rule f fd)
    (c__is_rule : Cal P w K mg base 3 "_is_rule" (spD K 1 R_isRule)) :
    FnOk P w K mg base (L2.CX P w) 4 f fd ["rule"] (spD K 1 R_chkRule) := by
  refine F.okX sc_check_rule (fun vs H Q E h => len_D h) (fun cdv A outer s H vs Q E hr h => ⟨_, (pss_one (ps_if (pt_not (pt_val (pe_cl c__is_rule hr (show 3 ≤ 3 by decide) passL (pa_cons (pv 0) pa_nil)) (fun _ => rfl))) (pss_one ps_never) pss_nil)),
    fn_D h fun ds o hk hR => ?_⟩)
  try dsimp only [L2.cxOf]
  obtain ⟨r, rfl, hr2, rfl⟩ := hR
  walk_at "zq"
  refine ⟨_, _, by walk_at "zd", rfl, ⟨r, rfl, hr2, rfl⟩, ?_⟩
  walk_at "zq"
  try rfl
/-! ### boards as what they hold -/
open MB (Fl next nextS nb liv)
abbrev lt2 (a b : Cell) : Prop := a.x < b.x ∨ (a.x = b.x ∧ a.y < b.y)
def isAt (x y : Int) (c : Cell) : Bool := decide (c.x = x) && decide (c.y = y)
theorem isAt_iff {x y : Int} {c : Cell} : isAt x y c = true ↔ c.x = x ∧ c.y = y := by
  unfold isAt
  rw [Bool.and_eq_true, decide_eq_true_iff, decide_eq_true_iff]
/-- the state that a board has at a place -/
def stOf (b : List Cell) : Fl := fun x y => match b.find? (isAt x y) with | some c => c.s | none => 0
structure Told (f : Fl) (b : List Cell) : Prop where
  up : b.Pairwise lt2
  mem : ∀ c : Cell, c ∈ b ↔ (f c.x c.y = c.s ∧ c.s ≠ 0)
theorem cell_eta {a b : Cell} (h1 : a.x = b.x) (h2 : a.y = b.y) (h3 : a.s = b.s) : a = b := by cases a; cases b; simp_all
theorem up_inj {b : List Cell} (h : b.Pairwise lt2) {a c : Cell} (ha : a ∈ b) (hc : c ∈ b) (hx : a.x = c.x) (hy : a.y = c.y) : a = c := by
  obtain ⟨i, hi⟩ := List.mem_iff_getElem?.mp ha
  obtain ⟨j, hj⟩ := List.mem_iff_getElem?.mp hc
  rcases Nat.lt_trichotomy i j with z | z | z
  · have := pw_at h z hi hj; omega
  · subst z; rw [hi] at hj; exact Option.some.inj hj
  · have := pw_at h z hj hi; omega
theorem up_nodup {b : List Cell} (h : b.Pairwise lt2) : b.Nodup := h.imp fun hab e => by subst e; omega
theorem st_some {b : List Cell} (h : b.Pairwise lt2) {c : Cell} (hc : c ∈ b) : stOf b c.x c.y = c.s := by
  unfold stOf
  cases hf : b.find? (isAt c.x c.y) with
  | none => exact absurd (isAt_iff.mpr ⟨rfl, rfl⟩) (List.find?_eq_none.mp hf c hc)
  | some e =>
    have h1 := isAt_iff.mp (List.find?_some hf)
    rw [up_inj h (List.mem_of_find?_eq_some hf) hc h1.1 h1.2]
theorem st_none {b : List Cell} {x y : Int} (h : ∀ c ∈ b, ¬ (c.x = x ∧ c.y = y)) : stOf b x y = 0 := by
  unfold stOf
  cases hf : b.find? (isAt x y) with
  | none => rfl
  | some e => exact absurd (isAt_iff.mp (List.find?_some hf)) (h e (List.mem_of_find?_eq_some hf))
theorem st_mem {b : List Cell} {x y : Int} (h : stOf b x y ≠ 0) : (⟨x, y, stOf b x y⟩ : Cell) ∈ b := by
  unfold stOf at h ⊢
  cases hf : b.find? (isAt x y) with
  | none => rw [hf] at h; exact absurd rfl h
  | some e =>
    have h1 := isAt_iff.mp (List.find?_some hf)
    have : (⟨x, y, e.s⟩ : Cell) = e := cell_eta h1.1.symm h1.2.symm rfl
    show (⟨x, y, e.s⟩ : Cell) ∈ b
    rw [this]
    exact List.mem_of_find?_eq_some hf
theorem told_st {f : Fl} {b : List Cell} (h : Told f b) : stOf b = f := by
  funext x y
  by_cases z : f x y = 0
  · rw [z]
    refine st_none fun c hc e => ?_
    obtain ⟨h1, h2⟩ := (h.mem c).mp hc
    rw [e.1, e.2, z] at h1
    exact h2 h1.symm
  · have hc := (h.mem ⟨x, y, f x y⟩).mpr ⟨rfl, z⟩
    exact st_some h.up hc
theorem told_perm {f : Fl} {b L : List Cell} (h : Told f b) (hn : L.Nodup) (hm : ∀ c, c ∈ L ↔ (f c.x c.y = c.s ∧ c.s ≠ 0)) : b.Perm L :=
  (List.perm_ext_iff_of_nodup (up_nodup h.up) hn).mpr fun c => (h.mem c).trans (hm c).symm
theorem told_uniq {f : Fl} {a b : List Cell} (ha : Told f a) (hb : Told f b) : a = b :=
  List.Perm.eq_of_pairwise (le := lt2) (fun x y _ _ h1 h2 => by omega) ha.up hb.up (told_perm ha (up_nodup hb.up) hb.mem)
/-! ### a board out of a box -/
def boxL (f : Fl) (l t : Int) (W H : Nat) : List Cell := (List.range W).flatMap fun (i : Nat) => ((List.range H).map fun (j : Nat) => (⟨l + (i : Int), t + (j : Int), f (l + (i : Int)) (t + (j : Int))⟩ : Cell)).filter fun c => decide (c.s ≠ 0)
theorem mem_boxL {f : Fl} {l t : Int} {W H : Nat} {c : Cell} : c ∈ boxL f l t W H ↔ (l ≤ c.x ∧ c.x < l + W ∧ t ≤ c.y ∧ c.y < t + H) ∧ f c.x c.y = c.s ∧ c.s ≠ 0 := by
  unfold boxL
  simp only [List.mem_flatMap, List.mem_range, List.mem_filter, List.mem_map, decide_eq_true_iff]
  constructor
  · rintro ⟨i, hi, ⟨j, hj, rfl⟩, hs⟩
    exact ⟨⟨by dsimp only; omega, by dsimp only; omega, by dsimp only; omega, by dsimp only; omega⟩, rfl, hs⟩
  · rintro ⟨⟨h1, h2, h3, h4⟩, h5, h6⟩
    refine ⟨(c.x - l).toNat, by omega, ⟨(c.y - t).toNat, by omega, ?_⟩, h6⟩
    have e1 : l + ((c.x - l).toNat : Int) = c.x := by omega
    have e2 : t + ((c.y - t).toNat : Int) = c.y := by omega
    rw [e1, e2]
    exact cell_eta rfl rfl h5
theorem boxL_up (f : Fl) (l t : Int) (W H : Nat) : (boxL f l t W H).Pairwise lt2 := by
  unfold boxL
  rw [List.pairwise_flatMap]
  refine ⟨fun i _ => ?_, ?_⟩
  · refine List.Pairwise.filter _ ?_
    rw [List.pairwise_map]
    exact List.pairwise_lt_range.imp fun h => .inr ⟨rfl, by dsimp only; omega⟩
  · refine List.pairwise_lt_range.imp fun {a b} h x hx y hy => ?_
    obtain ⟨_, _, rfl⟩ := List.mem_map.mp (List.mem_filter.mp hx).1
    obtain ⟨_, _, rfl⟩ := List.mem_map.mp (List.mem_filter.mp hy).1
    exact .inl (by dsimp only; omega)
theorem boxL_len (f : Fl) (l t : Int) (H : Nat) : ∀ W : Nat, (boxL f l t W H).length ≤ W * H
  | 0 => Nat.zero_le _
  | W + 1 => by
    have := boxL_len f l t H W
    unfold boxL at this ⊢
    rw [List.range_succ, List.flatMap_append, List.length_append]
    simp only [List.flatMap_cons, List.flatMap_nil, List.append_nil]
    refine Nat.le_trans (Nat.add_le_add this (Nat.le_trans (List.length_filter_le _ _) (Nat.le_of_eq (by rw [List.length_map, List.length_range])))) ?_
    rw [Nat.add_mul]; omega
/-- all that is held lies in a box, and is a state -/
structure Sm (f : Fl) (l t : Int) (w h : Nat) : Prop where
  sup : ∀ x y, f x y ≠ 0 → l ≤ x ∧ x < l + w ∧ t ≤ y ∧ y < t + h
  rng : ∀ x y, 0 ≤ f x y ∧ f x y ≤ 5
theorem Sm.told {f : Fl} {l t : Int} {w h : Nat} (S : Sm f l t w h) : Told f (boxL f l t w h) :=
  ⟨boxL_up _ _ _ _ _, fun c => mem_boxL.trans ⟨fun z => z.2, fun z => ⟨S.sup c.x c.y (by rw [z.1]; exact z.2), z⟩⟩⟩
theorem Sm.len {f : Fl} {l t : Int} {w h : Nat} (S : Sm f l t w h) {b : List Cell} (T : Told f b) : b.length ≤ w * h := by
  rw [told_uniq T S.told]
  exact boxL_len _ _ _ _ _
/-- small and not beyond reach -/
structure Sml (f : Fl) (l t : Int) (w h : Nat) : Prop extends Sm f l t w h where
  near : -(2 ^ 120) ≤ l ∧ l ≤ 2 ^ 120 ∧ -(2 ^ 120) ≤ t ∧ t ≤ 2 ^ 120
  few : w ≤ 40 ∧ h ≤ 40
theorem Sml.len {f : Fl} {l t : Int} {w h : Nat} (S : Sml f l t w h) {b : List Cell} (T : Told f b) : b.length ≤ 1600 :=
  Nat.le_trans (S.toSm.len T) (Nat.mul_le_mul S.few.1 S.few.2)
def nx (r : Rl) (f : Fl) : Fl := next r.b r.s (r.n : Int) f
theorem Rule.no0 {r : Rl} (h : Rule r) : 0 ∉ r.b := fun z => absurd (h.bl 0 z).1 (by decide)
theorem nx_rng {r : Rl} (hr : Rule r) {f : Fl} (h : ∀ x y, 0 ≤ f x y ∧ f x y ≤ 5) : ∀ x y, 0 ≤ nx r f x y ∧ nx r f x y ≤ 5 := by
  intro x y
  have := h x y
  have h6 := hr.n6
  unfold nx MB.next MB.nextS
  split
  · split <;> omega
  · split
    · omega
    · split <;> omega
theorem Sm.next {r : Rl} (hr : Rule r) {f : Fl} {l t : Int} {w h : Nat} (S : Sm f l t w h) : Sm (nx r f) (l - 1) (t - 1) (w + 2) (h + 2) := by
  refine ⟨fun x y hx => ?_, nx_rng hr S.rng⟩
  have := MB.next_sup (l := l - 1) (t := t - 1) (W := w + 2) (H := h + 2) (m := 0) (f := f) (births := r.b) (stays := r.s) (states := (r.n : Int)) hr.no0 (fun x y h => by have := S.sup x y h; omega) x y hx
  omega
theorem nx_zero {r : Rl} (hr : Rule r) : nx r (fun _ _ => 0) = fun _ _ => 0 := by
  funext x y
  unfold nx MB.next MB.nextS
  rw [if_pos rfl]
  exact if_neg hr.no0
/-! ### planes -/
theorem nodup_map {α β : Type} {g : α → β} (hg : ∀ a b, g a = g b → a = b) {L : List α} (h : L.Nodup) : (L.map g).Nodup := List.pairwise_map.mpr (h.imp fun hab e => hab (hg _ _ e))
/-- numbers, texts, None, and tuples and lists of such -/
def al : Nat → PyData → Bool
  | 0, _ => false
  | _ + 1, .int _ => true
  | _ + 1, .bool _ => true
  | _ + 1, .str _ => true
  | _ + 1, .none => true
  | n + 1, .tuple xs => decide (xs.length ≤ 1000) && xs.all (al n)
  | n + 1, .list xs => decide (xs.length ≤ 1000) && xs.all (al n)
  | _ + 1, _ => false
def R_alike (n : Nat) (ds : List PyData) (o : DOut) : Prop := ∃ d, ds = [d, d] ∧ al n d = true ∧ o = .ok (.bool true)
theorem alike_vac {P : Program} {w : World} {K : Fg} {mg : Str → Option Value} {base : Heap} {f : Addr} {fd : FuncData} (F : Fun K "_law_alike" "_law_alike" s_law_alike f fd) : FnOk P w K mg base (L2.CX P w) 1 f fd ["found", "due"] (spD K 2 (R_alike 0)) := by
  refine F.okX sc_law_alike (fun vs H Q E h => len_D h) (fun cdv A outer s H vs Q E hr h => ?_)
  obtain ⟨G, ds, o, e, hk, hd, ⟨d, _, h2, _⟩, _⟩ := h
  cases h2
theorem ok_law_alike {P : Program} {w : World} {K : Fg} {mg : Str → Option Value} {base : Heap} {f : Addr} {fd : FuncData} {j : Nat} {n : Nat} (F : Fun K "_law_alike" "_law_alike" s_law_alike f fd)
    (m_isinstance : mg "isinstance" = none)
    (m_list : mg "list" = none)
    (m_tuple : mg "tuple" = none)
    (m_len : mg "len" = none)
    (m_range : mg "range" = none)
    (m_str : mg "str" = none)
    (m_bool : mg "bool" = none)
    (m_int : mg "int" = none)
    (c__law_alike : Cal P w K mg base j "_law_alike" (spD K 2 (R_alike n))) :
    FnOk P w K mg base (L2.CX P w) (j+1) f fd ["found", "due"] (spD K 2 (R_alike (n + 1))) := by
  refine F.okX sc_law_alike (fun vs H Q E h => len_D h) (fun cdv A outer s H vs Q E hr h => ⟨_, (pss_cons (ps_if (pt_val (pe_callB call_isiT (by rfl) m_isinstance bb_isinstance (pa_cons (pv 1) (pa_cons (pe_tup (pa_cons (pe_bltn (v := .ty "tuple") (by rfl) m_tuple bt_tuple rfl) (pa_cons (pe_bltn (v := .ty "list") (by rfl) m_list bt_list rfl) pa_nil))) pa_nil))) (fun _ => rfl)) (pss_cons (ps_if (PW.pt (pw_or (pt_not (pt_val (pe_callB call_isiT (by rfl) m_isinstance bb_isinstance (pa_cons (pv 0) (pa_cons (pe_tup (pa_cons (pe_bltn (v := .ty "tuple") (by rfl) m_tuple bt_tuple rfl) (pa_cons (pe_bltn (v := .ty "list") (by rfl) m_list bt_list rfl) pa_nil))) pa_nil))) (fun _ => rfl))) (pw_or1 (pt_cmpR (op_neA hr.units) (pe_callB call_isi (by rfl) m_isinstance bb_isinstance (pa_cons (pv 0) (pa_cons (pe_bltn (v := .ty "list") (by rfl) m_list bt_list rfl) pa_nil))) (pe_callB call_isi (by rfl) m_isinstance bb_isinstance (pa_cons (pv 1) (pa_cons (pe_bltn (v := .ty "list") (by rfl) m_list bt_list rfl) pa_nil))) (nomark _))))) (pss_one (ps_ret pe_bl)) pss_nil)
      (pss_cons (ps_if (pt_cmpR (op_neA hr.units) (pe_callB call_len (by rfl) m_len bb_len (pa_cons (pv 0) pa_nil)) (pe_callB call_len (by rfl) m_len bb_len (pa_cons (pv 1) pa_nil)) (nomark _)) (pss_one (ps_ret pe_bl)) pss_nil)
      (pss_one (ps_ret (pe_cmpR (op_eqA hr.units) (pe_lc (own := [("k", 2)]) rfl sc_law_alike.nd (pi_range1 (by rfl) m_range (pa_cons (pe_callB call_len (by rfl) m_len bb_len (pa_cons (pv 1) pa_nil)) pa_nil)) (blkOk_by (N := N_law_alike) (sc := defScope s_law_alike) (by decide +kernel)) (fun _ _ _ _ _ => (pg_name (i := 2) sc_law_alike.nd rfl (by first | exact Or.inl rfl | exact Or.inr rfl))) (fun _ _ _ _ _ => (pts_one (pt_not (pt_val (pe_cl c__law_alike hr (Nat.le_refl _) passL (pa_cons (pe_ix (show IxR _ (rIx K) from ix_seq) (pv 0) (pv 2) (fun _ _ => rfl)) (pa_cons (pe_ix (show IxR _ (rIx K) from ix_seq) (pv 1) (pv 2) (fun _ _ => rfl)) pa_nil))) (fun _ => rfl))))) (fun _ _ _ _ _ => (pv 2))) (pe_lst pa_nil) (nomark _)))))) pss_nil)
      (pss_cons (ps_if (PW.pt (pw_or (pt_cmpR op_isN (pv 1) pe_non (nomark _)) (pw_or1 (pt_val (pe_callB call_isi (by rfl) m_isinstance bb_isinstance (pa_cons (pv 1) (pa_cons (pe_bltn (v := .ty "str") (by rfl) m_str bt_str rfl) pa_nil))) (fun _ => rfl))))) (pss_one (ps_ret (pe_and (pe_cmpR (op_eqA hr.units) (pv 0) (pv 1) (nomark _)) (pe_one (pe_cmpR (op_eqA hr.units) (pe_callB call_isi (by rfl) m_isinstance bb_isinstance (pa_cons (pv 0) (pa_cons (pe_bltn (v := .ty "str") (by rfl) m_str bt_str rfl) pa_nil))) (pe_callB call_isi (by rfl) m_isinstance bb_isinstance (pa_cons (pv 1) (pa_cons (pe_bltn (v := .ty "str") (by rfl) m_str bt_str rfl) pa_nil))) (nomark _)))))) pss_nil)
      (pss_one (ps_ret (pe_and (pe_callB call_isi (by rfl) m_isinstance bb_isinstance (pa_cons (pv 0) (pa_cons (pe_bltn (v := .ty "int") (by rfl) m_int bt_int rfl) pa_nil))) (pe_and (pe_cmpR (op_eqA hr.units) (pe_callB call_isi (by rfl) m_isinstance bb_isinstance (pa_cons (pv 0) (pa_cons (pe_bltn (v := .ty "bool") (by rfl) m_bool bt_bool rfl) pa_nil))) (pe_callB call_isi (by rfl) m_isinstance bb_isinstance (pa_cons (pv 1) (pa_cons (pe_bltn (v := .ty "bool") (by rfl) m_bool bt_bool rfl) pa_nil))) (nomark _)) (pe_one (pe_cmpR (op_eqA hr.units) (pv 0) (pv 1) (nomark _))))))))),
    fn_D h fun ds o hk hR => ?_⟩)
  try dsimp only [L2.cxOf]
  obtain ⟨d, rfl, ha, rfl⟩ := hR
  walk_at "zz"
  cases d with
  | tuple xs =>
    have ha2 : xs.length ≤ 1000 ∧ ∀ x ∈ xs, al n x = true := by
      have h : (decide (xs.length ≤ 1000) && xs.all (al n)) = true := ha
      rw [Bool.and_eq_true, List.all_eq_true] at h
      exact ⟨of_decide_eq_true h.1, h.2⟩
    walk_at "zq"
    rw [decide_eq_true rfl]
    walk_at "zq"
    refine ⟨by omega, by rw [sizeLine_eq]; omega, fun i acc M' => acc = [] ∧ M' = [], ⟨rfl, rfl⟩, ?_, ?_⟩
    · rintro i hi acc M2 D ⟨rfl, rfl⟩
      have hi2 : i < xs.length := by omega
      have hat : atI xs (0 + (i : Int)) = some xs[i] := by rw [Int.zero_add]; exact atI_nat (List.getElem?_eq_getElem hi2)
      refine ⟨_, _, ?_, zg_name, ?_⟩
      · simp
      · walk_at "zq"
        refine ⟨_, _, allD_cons (allD_cons allD_nil), rfl, ⟨_, rfl, ha2.2 _ (List.getElem_mem hi2), rfl⟩, ?_⟩
        walk_at "zq"
        exact ⟨rfl, rfl⟩
    · rintro acc M2 ⟨rfl, rfl⟩
      walk_at "zq"
      refine zw_lstD ?_
      walk_at "zq"
      walk_at "zt"
      refine zo_eqDD rfl rfl ?_
      exact ⟨_, rfl, rfl⟩
  | list xs =>
    have ha2 : xs.length ≤ 1000 ∧ ∀ x ∈ xs, al n x = true := by
      have h : (decide (xs.length ≤ 1000) && xs.all (al n)) = true := ha
      rw [Bool.and_eq_true, List.all_eq_true] at h
      exact ⟨of_decide_eq_true h.1, h.2⟩
    walk_at "zq"
    rw [decide_eq_true rfl]
    walk_at "zq"
    refine ⟨by omega, by rw [sizeLine_eq]; omega, fun i acc M' => acc = [] ∧ M' = [], ⟨rfl, rfl⟩, ?_, ?_⟩
    · rintro i hi acc M2 D ⟨rfl, rfl⟩
      have hi2 : i < xs.length := by omega
      have hat : atI xs (0 + (i : Int)) = some xs[i] := by rw [Int.zero_add]; exact atI_nat (List.getElem?_eq_getElem hi2)
      refine ⟨_, _, ?_, zg_name, ?_⟩
      · simp
      · walk_at "zq"
        refine ⟨_, _, allD_cons (allD_cons allD_nil), rfl, ⟨_, rfl, ha2.2 _ (List.getElem_mem hi2), rfl⟩, ?_⟩
        walk_at "zq"
        exact ⟨rfl, rfl⟩
    · rintro acc M2 ⟨rfl, rfl⟩
      walk_at "zq"
      refine zw_lstD ?_
      walk_at "zq"
      walk_at "zt"
      refine zo_eqDD rfl rfl ?_
      exact ⟨_, rfl, rfl⟩
  | str x =>
    walk_at "zq"
    rw [decide_eq_true rfl]
    walk_at "zq"
    all_goals rfl
  | int i =>
    walk_at "zq"
    rw [decide_eq_true rfl]
  | bool i =>
    walk_at "zq"
    rw [show (i == i) = true by cases i <;> rfl]
    try walk_at "zq"
    all_goals first | rfl | exact ⟨_, rfl, rfl⟩
  | none =>
    walk_at "zq"
    refine zo_eqDD rfl rfl ?_
    walk_at "zq"
    rfl
  | _ => cases ha
/-- a draw's row: the script, the cell's number, the seed, the rest -/
structure RowS where
  ns : List Int
  i : Int
  s : Int
  r : Int
  hi : 0 ≤ i
  hs : 0 ≤ s
  ht : s < 2147483647
def RowS.d (t : RowS) : List PyData := [.list (t.ns.map .int), .int t.i, .int t.s, .int t.r]
def RowS.cell (t : RowS) : Int := t.ns.getD t.i.toNat 0
def RowS.draw (t : RowS) (many : Int) : Int := if 0 < t.r then t.r % many else if (t.ns.length : Int) < t.i + 1 then (t.s * 48271 + 11) % 2147483647 / 7 % many else t.cell % many
theorem mod_ok (a : Int) : 0 ≤ a % 2147483647 ∧ a % 2147483647 < 2147483647 := ⟨Int.emod_nonneg _ (by decide), Int.emod_lt_of_pos _ (by decide)⟩
def RowS.next (t : RowS) (many : Int) : RowS := if 0 < t.r then { t with r := t.r / many } else if (t.ns.length : Int) < t.i + 1 then ⟨t.ns, t.i + 1, (t.s * 48271 + 11) % 2147483647, t.r, by have := t.hi; omega, (mod_ok _).1, (mod_ok _).2⟩
  else ⟨t.ns, t.i + 1, (t.s * 48271 + t.cell + 11) % 2147483647, if 10 ^ 18 ≤ t.cell then t.cell / many else t.r, by have := t.hi; omega, (mod_ok _).1, (mod_ok _).2⟩
theorem RowS.draw_lt (t : RowS) {many : Int} (h : 0 < many) : 0 ≤ t.draw many ∧ t.draw many < many := by
  unfold RowS.draw
  split
  · exact ⟨Int.emod_nonneg _ (by omega), Int.emod_lt_of_pos _ h⟩
  · split <;> exact ⟨Int.emod_nonneg _ (by omega), Int.emod_lt_of_pos _ h⟩
def R_taken (xs ds : List PyData) (F : DOut → List PyData → Prop) : Prop := ∃ (t : RowS) (many : Int), xs = t.d ∧ ds = [.int many] ∧ 0 < many ∧ many.natAbs.log2 < 9000 ∧ ∀ (v : Int) (t' : RowS), 0 ≤ v → v < many → F (.ok (.int v)) t'.d
theorem ok_law_taken {P : Program} {w : World} {K : Fg} {mg : Str → Option Value} {base : Heap} {f : Addr} {fd : FuncData} (F : Fun K "_law_taken" "_law_taken" s_law_taken f fd)
    (m_int : mg "int" = none)
    (m_len : mg "len" = none) :
    FnOk P w K mg base (L2.CX P w) 1 f fd ["row", "many"] (spC K 1 R_taken) := by
  refine F.okX sc_law_taken (fun vs H Q E h => len_C h) (fun cdv A outer s H vs Q E hr h => ⟨_, (pss_cons (ps_if (pt_cmpR op_gt (pe_ix ix_seq (pv 0) pe_int (fun _ _ => rfl)) pe_int (nomark _)) (pss_cons (ps_set (i := 2) sc_law_taken.nd rfl (by first | exact Or.inl rfl | exact Or.inr rfl) (pe_op op_mod (pe_callTy (call_int1.or call_int_str) (by rfl) m_int bt_int (pa_cons (pe_ix ix_seq (pv 0) pe_int (fun _ _ => rfl)) pa_nil)) (pv 1)))
      (pss_cons (ps_asg (pe_op op_fdivW (pe_ix ix_seq (pv 0) pe_int (fun _ _ => rfl)) (pv 1)) (pg_sub (pv 0) pe_int set_list))
      (pss_one (ps_ret (pv 2))))) pss_nil)
      (pss_cons (ps_asg (pe_op op_addA (pe_ix ix_seq (pv 0) pe_int (fun _ _ => rfl)) pe_int) (pg_sub (pv 0) pe_int set_list))
      (pss_cons (ps_if (pt_cmpR op_gt (pe_ix ix_seq (pv 0) pe_int (fun _ _ => rfl)) (pe_callB call_len (by rfl) m_len bb_len (pa_cons (pe_ix ix_seq (pv 0) pe_int (fun _ _ => rfl)) pa_nil)) (nomark _)) (pss_cons (ps_asg (pe_op op_mod (pe_callTy (call_int1.or call_int_str) (by rfl) m_int bt_int (pa_cons (pe_op op_addA (pe_op op_mul (pe_ix ix_seq (pv 0) pe_int (fun _ _ => rfl)) pe_int) pe_int) pa_nil)) pe_int) (pg_sub (pv 0) pe_int set_list))
      (pss_one (ps_ret (pe_op op_mod (pe_callTy (call_int1.or call_int_str) (by rfl) m_int bt_int (pa_cons (pe_op op_fdivW (pe_ix ix_seq (pv 0) pe_int (fun _ _ => rfl)) pe_int) pa_nil)) (pv 1))))) pss_nil)
      (pss_cons (ps_set (i := 3) sc_law_taken.nd rfl (by first | exact Or.inl rfl | exact Or.inr rfl) (pe_ix ix_seq (pe_ix ix_seq (pv 0) pe_int (fun _ _ => rfl)) (pe_op op_sub (pe_ix ix_seq (pv 0) pe_int (fun _ _ => rfl)) pe_int) (fun _ _ => rfl)))
      (pss_cons (ps_asg (pe_op op_mod (pe_callTy (call_int1.or call_int_str) (by rfl) m_int bt_int (pa_cons (pe_op op_addA (pe_op op_addA (pe_op op_mul (pe_ix ix_seq (pv 0) pe_int (fun _ _ => rfl)) pe_int) (pv 3)) pe_int) pa_nil)) pe_int) (pg_sub (pv 0) pe_int set_list))
      (pss_cons (ps_if (pt_cmpR op_ge (pv 3) (pe_op op_pow pe_int pe_int) (nomark _)) (pss_one (ps_asg (pe_op op_fdivW (pv 3) (pv 1)) (pg_sub (pv 0) pe_int set_list))) pss_nil)
      (pss_one (ps_ret (pe_op op_mod (pe_callTy (call_int1.or call_int_str) (by rfl) m_int bt_int (pa_cons (pv 3) pa_nil)) (pv 1)))))))))),
    fn_C h fun p xs ds F hk hR => ?_⟩)
  try dsimp only [L2.cxOf]
  obtain ⟨t, many, rfl, rfl, hm, hm2, hF⟩ := hR
  have hG := hF _ (t.next many) (t.draw_lt hm).1 (t.draw_lt hm).2
  clear hF
  have hi := t.hi
  have hs := t.hs
  have ht := t.ht
  walk_at "zz"
  refine ⟨_, rfl, fun hb => ?_, fun hb => ?_⟩
  · have hb : 0 < t.r := of_decide_eq_true hb
    have e1 : t.draw many = t.r % many := if_pos hb
    have e2 : (t.next many).d = [.list (t.ns.map .int), .int t.i, .int t.s, .int (t.r / many)] := by unfold RowS.next; rw [if_pos hb]; rfl
    walk_at "zz"
    refine zo_mod hm ?_
    walk_at "zz"
    refine zo_fdivW ⟨hm, hm2⟩ ?_
    refine ⟨_, rfl, ?_⟩
    walk_at "zz"
    refine ⟨p, false, _, 3, 3, _, rfl, rfl, rfl, .here, ?_⟩
    walk_at "zz"
    exact ⟨_, _, rfl, by rw [e1] at hG; exact hG, by rw [e2]; exact m0⟩
  · have hb : ¬ 0 < t.r := of_decide_eq_false hb
    walk_at "zz"
    refine ⟨_, rfl, ?_⟩
    walk_at "zz"
    refine ⟨p, false, _, 1, 1, _, rfl, rfl, rfl, .here, ?_⟩
    walk_at "zz"
    refine ⟨_, rfl, fun hc => ?_, fun hc => ?_⟩
    · have hc : (t.ns.length : Int) < t.i + 1 := by simpa using of_decide_eq_true hc
      have e1 : t.draw many = (t.s * 48271 + 11) % 2147483647 / 7 % many := by unfold RowS.draw; rw [if_neg hb, if_pos hc]
      have e2 : (t.next many).d = [.list (t.ns.map .int), .int (t.i + 1), .int ((t.s * 48271 + 11) % 2147483647), .int t.r] := by unfold RowS.next; rw [if_neg hb, if_pos hc]; rfl
      walk_at "zz"
      refine zo_mul (.inl ⟨by omega, by omega⟩) ?_
      walk_at "zz"
      refine zo_mod (by decide) ?_
      refine ⟨_, rfl, ?_⟩
      walk_at "zz"
      refine ⟨p, false, _, 2, 2, _, rfl, rfl, rfl, .here, ?_⟩
      walk_at "zz"
      refine zo_fdivW ⟨by decide, by decide⟩ ?_
      walk_at "zz"
      refine zo_mod hm ?_
      exact ⟨_, _, rfl, by rw [e1] at hG; exact hG, by rw [e2]; exact m0⟩
    · have hc : ¬ (t.ns.length : Int) < t.i + 1 := fun z => absurd (of_decide_eq_false hc) (by simpa using z)
      have hg : t.ns[t.i.toNat]? = some t.cell := by
        unfold RowS.cell
        rw [List.getD_eq_getElem?_getD]
        rw [List.getElem?_eq_getElem (by omega)]
        rfl
      have hat : atI (t.ns.map PyData.int) (t.i + 1 - 1) = some (.int t.cell) := by
        have e : t.i + 1 - 1 = ((t.i.toNat : Nat) : Int) := by omega
        rw [e]
        exact atI_nat (by rw [List.getElem?_map, hg]; rfl)
      have e1 : t.draw many = t.cell % many := by unfold RowS.draw; rw [if_neg hb, if_neg hc]
      have e2 : (t.next many).d = [.list (t.ns.map .int), .int (t.i + 1), .int ((t.s * 48271 + t.cell + 11) % 2147483647), .int (if 10 ^ 18 ≤ t.cell then t.cell / many else t.r)] := by unfold RowS.next; rw [if_neg hb, if_neg hc]; rfl
      walk_at "zz"
      refine zo_mul (.inl ⟨by omega, by omega⟩) ?_
      walk_at "zz"
      refine zo_mod (by decide) ?_
      refine ⟨_, rfl, ?_⟩
      walk_at "zz"
      refine ⟨p, false, _, 2, 2, _, rfl, rfl, rfl, .here, ?_⟩
      walk_at "zz"
      refine zo_pow ⟨by decide, by decide, by decide⟩ ?_
      walk_at "zz"
      refine ⟨_, rfl, fun hd => ?_, fun hd => ?_⟩
      · have hd : (10 : Int) ^ 18 ≤ t.cell := of_decide_eq_true hd
        rw [if_pos hd] at e2
        walk_at "zz"
        refine zo_fdivW ⟨hm, hm2⟩ ?_
        refine ⟨_, rfl, ?_⟩
        walk_at "zz"
        refine ⟨p, false, _, 3, 3, _, rfl, rfl, rfl, .here, ?_⟩
        walk_at "zz"
        refine zo_mod hm ?_
        exact ⟨_, _, rfl, by rw [e1] at hG; exact hG, by rw [e2]; exact m0⟩
      · have hd : ¬ (10 : Int) ^ 18 ≤ t.cell := of_decide_eq_false hd
        rw [if_neg hd] at e2
        walk_at "zz"
        refine zo_mod hm ?_
        exact ⟨_, _, rfl, by rw [e1] at hG; exact hG, by rw [e2]; exact m0⟩
theorem log_small {n : Nat} (h : n < 2 ^ 100) : ((n : Int)).natAbs.log2 < 9000 := by
  rw [Int.natAbs_natCast]
  by_cases hz : n = 0
  · subst hz; decide
  · exact Nat.lt_of_lt_of_le ((Nat.log2_lt hz).2 h) (by decide)
def R_pick (xs ds : List PyData) (F : DOut → List PyData → Prop) : Prop := ∃ (t : RowS) (things : List PyData), xs = t.d ∧ ds = [.list things] ∧ things ≠ [] ∧ things.length < 1000 ∧ ∀ (i : Nat) (v : PyData) (t' : RowS), things[i]? = some v → F (.ok v) t'.d
theorem ok_law_pick {P : Program} {w : World} {K : Fg} {mg : Str → Option Value} {base : Heap} {f : Addr} {fd : FuncData} (F : Fun K "_law_pick" "_law_pick" s_law_pick f fd)
    (m_len : mg "len" = none)
    (c__law_taken : Cal P w K mg base 1 "_law_taken" (spC K 1 R_taken)) :
    FnOk P w K mg base (L2.CX P w) 2 f fd ["row", "things"] (spC K 1 R_pick) := by
  refine F.okX sc_law_pick (fun vs H Q E h => len_C h) (fun cdv A outer s H vs Q E hr h => ⟨_, (pss_one (ps_ret (pe_ix ix_seq (pv 1) (pe_cl c__law_taken hr (show 1 ≤ 1 by decide) passL (pa_cons (pv 0) (pa_cons (pe_callB call_len (by rfl) m_len bb_len (pa_cons (pv 1) pa_nil)) pa_nil))) (fun _ _ => rfl)))),
    fn_C h fun p xs ds F hk hR => ?_⟩)
  try dsimp only [L2.cxOf]
  obtain ⟨t, things, rfl, rfl, hne, hl, hF⟩ := hR
  walk_at "zq"
  have hp : 0 < things.length := List.length_pos_iff.mpr hne
  refine ⟨_, _, _, _, _, rfl, m0, allD_cons allD_nil, rfl, ⟨t, things.length, rfl, rfl, by omega, log_small (by omega), fun v t' h0 hv => ⟨_, _, rfl, .here, ?_⟩⟩⟩
  have hi : v.toNat < things.length := by omega
  have hv2 : atI things v = some things[v.toNat] := by
    have e : v = ((v.toNat : Nat) : Int) := by omega
    have h := atI_nat (xs := things) (List.getElem?_eq_getElem hi)
    rw [← e] at h
    exact h
  refine zo_ix hv2 ?_
  exact ⟨_, _, rfl, hF v.toNat _ t' (List.getElem?_eq_getElem hi), m0⟩
/-- the cells drawn so far: the columns below i, and of column i the rows below j -/
def R_someRule (xs ds : List PyData) (F : DOut → List PyData → Prop) : Prop := ∃ t : RowS, xs = t.d ∧ ds = [] ∧ ∀ (r : Rl) (t' : RowS), Rule r → (∀ k ∈ r.b, 2 ≤ k) → F (.ok r.d) t'.d
def Asc (lo i : Nat) (l : List Nat) : Prop := l.Pairwise (· < ·) ∧ ∀ k ∈ l, lo ≤ k ∧ k < lo + i
theorem asc0 {lo : Nat} : Asc lo 0 [] := ⟨.nil, fun k h => (nomatch h)⟩
theorem Asc.skip {lo i : Nat} {l : List Nat} (h : Asc lo i l) : Asc lo (i + 1) l := ⟨h.1, fun k hk => by have := h.2 k hk; omega⟩
theorem Asc.put {lo i : Nat} {l : List Nat} (h : Asc lo i l) : Asc lo (i + 1) (l ++ [lo + i]) := by
  refine ⟨List.pairwise_append.mpr ⟨h.1, by simp, fun a ha b hb => ?_⟩, fun k hk => ?_⟩
  · have : b = lo + i := by simpa using hb
    have := h.2 a ha
    omega
  · rcases List.mem_append.mp hk with z | z
    · have := h.2 k z; omega
    · have : k = lo + i := by simpa using z
      omega
theorem ok_law_some_rule {P : Program} {w : World} {K : Fg} {mg : Str → Option Value} {base : Heap} {f : Addr} {fd : FuncData} (F : Fun K "_law_some_rule" "_law_some_rule" s_law_some_rule f fd)
    (m_tuple : mg "tuple" = none)
    (m_range : mg "range" = none)
    (c__law_taken : Cal P w K mg base 1 "_law_taken" (spC K 1 R_taken))
    (c__law_pick : Cal P w K mg base 2 "_law_pick" (spC K 1 R_pick)) :
    FnOk P w K mg base (L2.CX P w) 3 f fd ["row"] (spC K 0 R_someRule) := by
  refine F.okX sc_law_some_rule (fun vs H Q E h => len_C h) (fun cdv A outer s H vs Q E hr h => ⟨_, (pss_cons (ps_set (i := 1) sc_law_some_rule.nd rfl (by first | exact Or.inl rfl | exact Or.inr rfl) (pe_cl c__law_taken hr (show 1 ≤ 2 by decide) passL (pa_cons (pv 0) (pa_cons pe_int pa_nil))))
      (pss_cons (ps_if (pt_cmpR op_lt (pv 1) pe_int (nomark _)) (pss_one (ps_ret (pe_tup (pa_cons (pe_tup (pa_cons pe_int pa_nil)) (pa_cons (pe_tup (pa_cons pe_int (pa_cons pe_int pa_nil))) (pa_cons pe_int pa_nil)))))) pss_nil)
      (pss_cons (ps_set (i := 2) sc_law_some_rule.nd rfl (by first | exact Or.inl rfl | exact Or.inr rfl) (pe_callTy call_tuple_of (by rfl) m_tuple bt_tuple (pa_cons (pe_lc (own := [("k", 3)]) rfl sc_law_some_rule.nd (pi_range2 (by rfl) m_range (pa_cons pe_int (pa_cons pe_int pa_nil))) (blkOk_by (N := N_law_some_rule) (sc := defScope s_law_some_rule) (by decide +kernel)) (fun _ _ _ _ _ => (pg_name (i := 3) sc_law_some_rule.nd rfl (by first | exact Or.inl rfl | exact Or.inr rfl))) (fun _ _ _ _ _ => (pts_one (pt_cmpR (show OpR _ (compareOp .Eq) (rEqA K) from (op_eqA hr.units)) (pe_cl c__law_taken hr (show 1 ≤ 2 by decide) passL (pa_cons (pv 0) (pa_cons pe_int pa_nil))) pe_int (nomark _)))) (fun _ _ _ _ _ => (pv 3))) pa_nil)))
      (pss_cons (ps_set (i := 4) sc_law_some_rule.nd rfl (by first | exact Or.inl rfl | exact Or.inr rfl) (pe_callTy call_tuple_of (by rfl) m_tuple bt_tuple (pa_cons (pe_lc (own := [("k", 3)]) rfl sc_law_some_rule.nd (pi_range1 (by rfl) m_range (pa_cons pe_int pa_nil)) (blkOk_by (N := N_law_some_rule) (sc := defScope s_law_some_rule) (by decide +kernel)) (fun _ _ _ _ _ => (pg_name (i := 3) sc_law_some_rule.nd rfl (by first | exact Or.inl rfl | exact Or.inr rfl))) (fun _ _ _ _ _ => (pts_one (pt_cmpR (show OpR _ (compareOp .Eq) (rEqA K) from (op_eqA hr.units)) (pe_cl c__law_taken hr (show 1 ≤ 2 by decide) passL (pa_cons (pv 0) (pa_cons pe_int pa_nil))) pe_int (nomark _)))) (fun _ _ _ _ _ => (pv 3))) pa_nil)))
      (pss_one (ps_ret (pe_tup (pa_cons (pv 2) (pa_cons (pv 4) (pa_cons (pe_cl c__law_pick hr (show 2 ≤ 2 by decide) passL (pa_cons (pv 0) (pa_cons (pe_lst (pa_cons pe_int (pa_cons pe_int (pa_cons pe_int (pa_cons pe_int (pa_cons pe_int pa_nil)))))) pa_nil))) pa_nil)))))))))),
    fn_C h fun p xs ds F hk hR => ?_⟩)
  try dsimp only [L2.cxOf]
  obtain ⟨t, rfl, rfl, hF⟩ := hR
  have hsz : (sizeLine : Nat) = 16777216 := sizeLine_eq
  walk_at "zq"
  refine ⟨_, _, _, _, _, rfl, m0, allD_cons allD_nil, rfl, ⟨t, 6, rfl, rfl, by decide, by decide, fun v t1 h0 hv => ⟨_, _, rfl, .here, ?_⟩⟩⟩
  clear t
  walk_at "zq"
  refine ⟨fun h => ?_, fun h => ?_⟩
  · walk_at "zq"
    walk_at "zt"
    walk_at "zq"
    walk_at "zt"
    walk_at "zq"
    walk_at "zt"
    exact ⟨_, _, rfl, hF ⟨[3], [2, 3], 2⟩ t1 ⟨by decide, by decide, by decide, by decide, by decide, by decide⟩ (by decide), m0⟩
  · walk_at "zq"
    refine ⟨2, 9, rfl, ⟨by decide, by decide, by decide, by decide⟩, by rw [hsz]; decide, fun i acc M' => ∃ (t : RowS) (l : List Nat), acc = (l.map fun (k : Nat) => .int (k : Int)) ∧ M' = [(p, false, .lst t.d)] ∧ Asc 2 i l, ⟨t1, [], rfl, rfl, asc0⟩, ?_, ?_⟩
    · rintro i hi acc M2 D ⟨t, l, rfl, rfl, hA⟩
      refine ⟨_, _, ?_, zg_name, ?_⟩
      · simp
      · walk_at "zq"
        refine ⟨p, _, _, _, _, rfl, m1 m0, allD_cons allD_nil, rfl, ⟨t, 4, rfl, rfl, by decide, by decide, fun u t2 h0 hu => ⟨_, _, rfl, .there .here, ?_⟩⟩⟩
        walk_at "zq"
        refine ⟨fun hb => ⟨_, rfl, t2, l, rfl, rfl, hA.skip⟩, fun hb => ?_⟩
        walk_at "zq"
        exact ⟨t2, l ++ [2 + i], by simp, rfl, hA.put⟩
    · rintro acc M2 ⟨t, l, rfl, rfl, hA⟩
      replace hA : Asc 2 7 l := hA
      walk_at "zq"
      refine zc_tupL ?_
      walk_at "zq"
      refine ⟨by decide, by rw [hsz]; decide, fun i acc M' => ∃ (t : RowS) (l : List Nat), acc = (l.map fun (k : Nat) => .int (k : Int)) ∧ M' = [(p, false, .lst t.d)] ∧ Asc 0 i l, ⟨t, [], rfl, rfl, asc0⟩, ?_, ?_⟩
      · rintro i hi acc M2 D ⟨t, s, rfl, rfl, hS⟩
        refine ⟨_, _, ?_, zg_name, ?_⟩
        · simp
        · walk_at "zq"
          refine ⟨p, _, _, _, _, rfl, m1 m0, allD_cons allD_nil, rfl, ⟨t, 3, rfl, rfl, by decide, by decide, fun u t2 h0 hu => ⟨_, _, rfl, .there .here, ?_⟩⟩⟩
          walk_at "zq"
          refine ⟨fun hb => ⟨_, rfl, t2, s, rfl, rfl, hS.skip⟩, fun hb => ?_⟩
          walk_at "zq"
          exact ⟨t2, s ++ [0 + i], by simp, rfl, hS.put⟩
      · rintro acc M2 ⟨t, s, rfl, rfl, hS⟩
        replace hS : Asc 0 9 s := hS
        walk_at "zq"
        refine zc_tupL ?_
        walk_at "zq"
        refine zw_lstD ?_
        walk_at "zq"
        walk_at "zt"
        walk_at "zq"
        refine ⟨p, _, _, _, _, rfl, m0, allD_cons allD_nil, rfl, ⟨t, _, rfl, rfl, by simp, by simp, fun i v t2 hv => ⟨_, _, rfl, .here, ?_⟩⟩⟩
        obtain ⟨n, rfl, hn2, hn6⟩ : ∃ n : Nat, v = .int (n : Int) ∧ 2 ≤ n ∧ n ≤ 6 := by
          have hm := List.mem_of_getElem? hv
          simp only [List.mem_cons, List.not_mem_nil, or_false] at hm
          rcases hm with rfl | rfl | rfl | rfl | rfl
          · exact ⟨2, rfl, by decide, by decide⟩
          · exact ⟨2, rfl, by decide, by decide⟩
          · exact ⟨3, rfl, by decide, by decide⟩
          · exact ⟨4, rfl, by decide, by decide⟩
          · exact ⟨6, rfl, by decide, by decide⟩
        walk_at "zq"
        walk_at "zt"
        exact ⟨_, _, rfl, hF ⟨l, s, n⟩ t2 ⟨fun k hk => by have := hA.2 k hk; omega, fun k hk => by have := hS.2 k hk; omega, hA.1, hS.1, hn2, hn6⟩ (fun k hk => (hA.2 k hk).1), m0⟩
/-! ### the law's own step -/
def arP (x y : Int) : List (Int × Int) := [(x - 1, y - 1), (x - 1, y), (x - 1, y + 1), (x, y - 1), (x, y + 1), (x + 1, y - 1), (x + 1, y), (x + 1, y + 1)]
abbrev prP (p : Int × Int) : PyData := pr p.1 p.2
abbrev arD (x y : Int) : List PyData := (arP x y).map prP
def itm (x y : Int) (i j : Nat) : List PyData := if (i : Int) - 1 = 0 ∧ (j : Int) - 1 = 0 then [] else [pr (x + ((i : Int) - 1)) (y + ((j : Int) - 1))]
def accI (x y : Int) (i j : Nat) : List PyData := (List.range j).flatMap (itm x y i)
def accO (x y : Int) (i : Nat) : List PyData := (List.range i).flatMap fun i => accI x y i 3
theorem accI_succ (x y : Int) (i j : Nat) : accI x y i (j + 1) = accI x y i j ++ itm x y i j := by
  unfold accI
  rw [List.range_succ, List.flatMap_append]
  simp
theorem accO_succ (x y : Int) (i : Nat) : accO x y (i + 1) = accO x y i ++ accI x y i 3 := by
  unfold accO
  rw [List.range_succ, List.flatMap_append]
  simp
theorem accO_all (x y : Int) : accO x y 3 = arD x y := by
  simp [accO, accI, itm, arD, arP, List.range_succ, Int.sub_eq_add_neg]
theorem three_at {i : Nat} {v : PyData} (h : [PyData.int (-1), .int 0, .int 1][i]? = some v) : i < 3 ∧ v = .int ((i : Int) - 1) := by
  match i, h with
  | 0, h => exact ⟨by decide, (Option.some.inj h).symm⟩
  | 1, h => exact ⟨by decide, (Option.some.inj h).symm⟩
  | 2, h => exact ⟨by decide, (Option.some.inj h).symm⟩
theorem accI_len (x y : Int) (i : Nat) : ∀ j, (accI x y i j).length ≤ j
  | 0 => Nat.le_refl 0
  | j + 1 => by
    rw [accI_succ, List.length_append]
    have := accI_len x y i j
    have : (itm x y i j).length ≤ 1 := by unfold itm; split <;> simp
    omega
theorem accO_len (x y : Int) : ∀ i, (accO x y i).length ≤ 3 * i
  | 0 => Nat.le_refl 0
  | i + 1 => by
    rw [accO_succ, List.length_append]
    have := accO_len x y i
    have := accI_len x y i 3
    omega
def R_laround (ds : List PyData) (o : DOut) : Prop := ∃ x y : Int, ds = [pr x y] ∧ o = .ok (.list (arD x y))
theorem ok_law_around {P : Program} {w : World} {K : Fg} {mg : Str → Option Value} {base : Heap} {f : Addr} {fd : FuncData} (F : Fun K "_law_around" "_law_around" s_law_around f fd) :
    FnOk P w K mg base (L2.CX P w) 1 f fd ["place"] (spD K 1 R_laround) := by
  refine F.okX sc_law_around (fun vs H Q E h => len_D h) (fun cdv A outer s H vs Q E hr h => ⟨_, (pss_cons (ps_set (i := 1) sc_law_around.nd rfl (by first | exact Or.inl rfl | exact Or.inr rfl) (pe_lst pa_nil))
      (pss_cons (ps_for (passes_of rfl) rfl (pi_list (pe_lst (pa_cons (pe_un un_neg pe_int) (pa_cons pe_int (pa_cons pe_int pa_nil))))) (pg_name (i := 2) sc_law_around.nd rfl (by first | exact Or.inl rfl | exact Or.inr rfl)) (pss_one (ps_for (passes_of rfl) rfl (pi_list (pe_lst (pa_cons (pe_un un_neg pe_int) (pa_cons pe_int (pa_cons pe_int pa_nil))))) (pg_name (i := 3) sc_law_around.nd rfl (by first | exact Or.inl rfl | exact Or.inr rfl)) (pss_one (ps_if (PW.pt (pw_or (pt_cmpR (op_neA hr.units) (pv 2) pe_int (nomark _)) (pw_or1 (pt_cmpR (op_neA hr.units) (pv 3) pe_int (nomark _))))) (pss_one (ps_expr (pe_bm PySem.F.plainAttrs_list PySem.F.slot_list_append PySem.F.type_list_append mt_append (pv 1) (pa_cons (pe_tup (pa_cons (pe_op op_addA (pe_ix ix_seq (pv 0) pe_int (fun _ _ => rfl)) (pv 2)) (pa_cons (pe_op op_addA (pe_ix ix_seq (pv 0) pe_int (fun _ _ => rfl)) (pv 3)) pa_nil))) pa_nil)))) pss_nil)))))
      (pss_one (ps_ret (pv 1))))),
    fn_D h fun ds o hk hR => ?_⟩)
  try dsimp only [L2.cxOf]
  obtain ⟨x, y, rfl, rfl⟩ := hR
  have hsz : (sizeLine : Nat) = 16777216 := sizeLine_eq
  walk_at "zq"
  refine zw_lstC ?_
  walk_at "zq"
  walk_at "zt"
  intro q
  walk_at "zq"
  refine zw_lstD ?_
  walk_at "zq"
  walk_at "zt"
  refine ⟨_, rfl, fun i S2 M2 => ∃ (c2 c3 : Option ZV), S2 = [some (.d (pr x y)), some (.c q), c2, c3] ∧ M2 = [(q, true, .lst (accO x y i))], ⟨_, _, rfl, rfl⟩, ?_, ?_⟩
  · rintro i v S2 M2 hv ⟨c2, c3, rfl, rfl⟩
    obtain ⟨hi, rfl⟩ := three_at hv
    refine ⟨_, _, zg_name, ?_⟩
    walk_at "zq"
    refine zw_lstD ?_
    walk_at "zq"
    walk_at "zt"
    refine ⟨_, rfl, fun j S2 M2 => ∃ (c3 : Option ZV), S2 = [some (.d (pr x y)), some (.c q), some (.d (.int ((i : Int) - 1))), c3] ∧ M2 = [(q, true, .lst (accO x y i ++ accI x y i j))], ⟨_, rfl, by rw [show accI x y i 0 = [] from rfl, List.append_nil]⟩, ?_, ?_⟩
    · rintro j v S2 M2 hv ⟨c3, rfl, rfl⟩
      obtain ⟨hj, rfl⟩ := three_at hv
      refine ⟨_, _, zg_name, ?_⟩
      have l1 := accO_len x y i
      have l2 := accI_len x y i j
      walk_at "zq"
      refine ⟨fun h => ?_, fun h => ?_⟩
      · have h : ¬ ((i : Int) - 1 = 0) := by simpa using h
        walk_at "zq"
        refine zw_append ?_
        walk_at "zq"
        refine ⟨⟨_, _, m0⟩, ?_⟩
        walk_at "zq"
        walk_at "zt"
        refine ⟨_, _, _, _, rfl, .here, by rw [List.length_append]; omega, ?_⟩
        walk_at "zq"
        rw [accI_succ, show itm x y i j = [pr (x + ((i : Int) - 1)) (y + ((j : Int) - 1))] from if_neg (by omega), List.append_assoc]
      · have h : (i : Int) - 1 = 0 := by simpa using h
        walk_at "zq"
        refine ⟨fun h2 => ?_, fun h2 => ?_⟩
        · have h2 : ¬ ((j : Int) - 1 = 0) := by simpa using h2
          walk_at "zq"
          refine zw_append ?_
          walk_at "zq"
          refine ⟨⟨_, _, m0⟩, ?_⟩
          walk_at "zq"
          walk_at "zt"
          refine ⟨_, _, _, _, rfl, .here, by rw [List.length_append]; omega, ?_⟩
          walk_at "zq"
          rw [accI_succ, show itm x y i j = [pr (x + ((i : Int) - 1)) (y + ((j : Int) - 1))] from if_neg (by omega), List.append_assoc]
        · have h2 : (j : Int) - 1 = 0 := by simpa using h2
          walk_at "zq"
          rw [accI_succ, show itm x y i j = [] from if_pos ⟨h, h2⟩, List.append_nil]
    · rintro S2 M2 ⟨c3, rfl, rfl⟩
      refine ⟨_, _, rfl, ?_⟩
      rw [accO_succ]
      rfl
  · rintro S2 M2 ⟨c2, c3, rfl, rfl⟩
    refine zs_ret (zw_frz ?_)
    walk_at "zq"
    refine ⟨q, _, _, rfl, .here, ?_⟩
    rw [show accO x y [PyData.int (-1), PyData.int 0, PyData.int 1].length = arD x y from accO_all x y]
    exact ⟨_, rfl, rfl⟩
/-! ### the places that the law looks at -/
abbrev row2 (p : Int × Int) : List Int := [p.1, p.2]
theorem row2_inj {a b : Int × Int} (h : row2 a = row2 b) : a = b := by
  injection h with h1 h2
  injection h2 with h2 _
  exact Prod.ext h1 h2
theorem leI_row2 {a b : Int × Int} (h : leI (row2 a) (row2 b) = true) (ne : a ≠ b) : a.1 < b.1 ∨ (a.1 = b.1 ∧ a.2 < b.2) := by
  unfold leI row2 at h
  simp only [List.map_cons, List.map_nil, PyProof.Rows.lexLt, PyProof.Rows.itemLt] at h
  by_cases h1 : b.1 < a.1
  · simp [h1] at h
  · by_cases h2 : a.1 < b.1
    · exact .inl h2
    · have e : a.1 = b.1 := by omega
      by_cases h3 : b.2 < a.2
      · simp [e, h3] at h
      · refine .inr ⟨e, ?_⟩
        have : a.2 ≠ b.2 := fun z => ne (Prod.ext e z)
        omega
/-- the keys once each, in the order in which they came -/
def once (ks : List (Int × Int)) : List (Int × Int) := ks.foldl (fun acc k => if k ∈ acc then acc else acc ++ [k]) []
def trueD (ks : List (Int × Int)) : List (List Key × PyData) := ks.foldl (fun acc k => putP acc (keyI (row2 k)) (.bool true)) []
theorem once_snoc (ks : List (Int × Int)) (k : Int × Int) : once (ks ++ [k]) = if k ∈ once ks then once ks else once ks ++ [k] := by
  unfold once
  rw [List.foldl_append]
  rfl
theorem true_snoc (ks : List (Int × Int)) (k : Int × Int) : trueD (ks ++ [k]) = putP (trueD ks) (keyI (row2 k)) (.bool true) := by
  unfold trueD
  rw [List.foldl_append]
  rfl
theorem keyI_inj {a b : List Int} (h : keyI a = keyI b) : a = b := (List.map_inj_right fun _ _ e => Sum.inl.inj e).mp h
theorem put_old {kvs : List (List Key × PyData)} {k : List Key} (d : PyData) (h : k ∈ kvs.map (·.1)) : (putP kvs k d).map (·.1) = kvs.map (·.1) := by
  unfold putP
  rw [if_pos]
  · rw [List.map_map]
    refine List.map_congr_left fun kv _ => ?_
    show (if kv.1 = k then (kv.1, d) else kv).1 = kv.1
    split <;> rfl
  · obtain ⟨kv, h1, h2⟩ := List.mem_map.mp h
    exact List.any_eq_true.mpr ⟨kv, h1, decide_eq_true h2⟩
theorem put_new {kvs : List (List Key × PyData)} {k : List Key} (d : PyData) (h : k ∉ kvs.map (·.1)) : putP kvs k d = kvs ++ [(k, d)] := by
  unfold putP
  rw [if_neg]
  intro z
  obtain ⟨kv, h1, h2⟩ := List.any_eq_true.mp z
  exact h (List.mem_map.mpr ⟨kv, h1, of_decide_eq_true h2⟩)
theorem snoc_ind {α : Type} {P : List α → Prop} (h0 : P []) (h1 : ∀ l a, P l → P (l ++ [a])) (l : List α) : P l := by
  have : ∀ l : List α, P l.reverse := fun l => by
    induction l with
    | nil => exact h0
    | cons a l ih => rw [List.reverse_cons]; exact h1 _ _ ih
  have h := this l.reverse
  rw [List.reverse_reverse] at h
  exact h
theorem true_keys (ks : List (Int × Int)) : (trueD ks).map (·.1) = ((once ks).map row2).map keyI := by
  refine snoc_ind (P := fun ks => (trueD ks).map (·.1) = ((once ks).map row2).map keyI) rfl (fun ks k ih => ?_) ks
  rw [true_snoc, once_snoc]
  have e : keyI (row2 k) ∈ ((once ks).map row2).map keyI ↔ k ∈ once ks := by
    constructor
    · intro h
      obtain ⟨r, h1, h2⟩ := List.mem_map.mp h
      obtain ⟨q, h3, rfl⟩ := List.mem_map.mp h1
      rw [← row2_inj (keyI_inj h2)]
      exact h3
    · intro h
      exact List.mem_map.mpr ⟨_, List.mem_map.mpr ⟨k, h, rfl⟩, rfl⟩
  by_cases h : k ∈ once ks
  · rw [put_old _ (by rw [ih]; exact e.mpr h), if_pos h, ih]
  · rw [put_new _ (fun z => h (e.mp (by rw [ih] at z; exact z))), if_neg h, List.map_append, List.map_append, List.map_append, ih]
    rfl
theorem once_mem (ks : List (Int × Int)) : (once ks).Nodup ∧ ∀ k, k ∈ once ks ↔ k ∈ ks := by
  refine snoc_ind (P := fun ks => (once ks).Nodup ∧ ∀ k, k ∈ once ks ↔ k ∈ ks) ⟨List.Pairwise.nil, fun k => Iff.rfl⟩ (fun ks a ih => ?_) ks
  rw [once_snoc]
  by_cases h : a ∈ once ks
  · rw [if_pos h]
    refine ⟨ih.1, fun k => ?_⟩
    rw [List.mem_append, ih.2 k]
    exact ⟨.inl, fun z => z.elim id fun z => by rw [List.mem_singleton.mp z]; exact (ih.2 a).mp h⟩
  · rw [if_neg h]
    refine ⟨?_, fun k => ?_⟩
    · rw [List.nodup_append]
      refine ⟨ih.1, by simp, fun x hx y hy e => ?_⟩
      rw [List.mem_singleton.mp hy] at e
      exact h (e ▸ hx)
    · rw [List.mem_append, List.mem_append, ih.2 k]
theorem once_len (ks : List (Int × Int)) : (once ks).length ≤ ks.length := by
  refine snoc_ind (P := fun ks => (once ks).length ≤ ks.length) (Nat.le_refl 0) (fun ks a ih => ?_) ks
  rw [once_snoc, List.length_append]
  split
  · exact Nat.le_trans ih (Nat.le_add_right _ _)
  · rw [List.length_append]
    exact Nat.add_le_add_right ih _
theorem put_len1 (ks : List (Int × Int)) : (trueD ks).length ≤ ks.length := by
  refine snoc_ind (P := fun ks => (trueD ks).length ≤ ks.length) (Nat.le_refl 0) (fun ks a ih => ?_) ks
  rw [true_snoc, List.length_append]
  have := putP_len (trueD ks) (keyI (row2 a)) (.bool true)
  simp only [List.length_cons, List.length_nil]
  omega
theorem rows2_ex : ∀ L : List (List Int), (∀ r ∈ L, ∃ p, r = row2 p) → ∃ ps : List (Int × Int), L = ps.map row2
  | [], _ => ⟨[], rfl⟩
  | r :: L, h => by
    obtain ⟨p, hp⟩ := h r List.mem_cons_self
    obtain ⟨ps, hps⟩ := rows2_ex L fun r hr => h r (List.mem_cons_of_mem _ hr)
    exact ⟨p :: ps, by rw [hp, hps]; rfl⟩
/-- the places in order -/
structure Plcs (ks ps : List (Int × Int)) : Prop where
  eq : sortI ((once ks).map row2) = ps.map row2
  up : ps.Pairwise fun a b => a.1 < b.1 ∨ (a.1 = b.1 ∧ a.2 < b.2)
  mem : ∀ k, k ∈ ps ↔ k ∈ ks
  len : ps.length ≤ ks.length
theorem plcs_ex (ks : List (Int × Int)) : ∃ ps, Plcs ks ps := by
  have hp := sortI_perm ((once ks).map row2)
  obtain ⟨ps, h⟩ := rows2_ex (sortI ((once ks).map row2)) fun r hr => by
    obtain ⟨p, _, rfl⟩ := List.mem_map.mp (hp.mem_iff.mp hr)
    exact ⟨p, rfl⟩
  have hw := sortI_pw ((once ks).map row2)
  rw [h] at hp hw
  have hperm : ps.Perm (once ks) := by
    have hn : ((once ks).map row2).Nodup := nodup_map (fun a b => row2_inj) (once_mem ks).1
    have hn2 : ps.Nodup := (List.pairwise_map.mp (hp.nodup_iff.mpr hn)).imp fun hab e => hab (by rw [e])
    refine (List.perm_ext_iff_of_nodup hn2 (once_mem ks).1).mpr fun a => ?_
    have := hp.mem_iff (a := row2 a)
    rw [List.mem_map, List.mem_map] at this
    constructor
    · intro ha
      obtain ⟨b, hb, e⟩ := this.mp ⟨a, ha, rfl⟩
      rw [← row2_inj e]; exact hb
    · intro ha
      obtain ⟨b, hb, e⟩ := this.mpr ⟨a, ha, rfl⟩
      rw [← row2_inj e]; exact hb
  have hn2 : ps.Nodup := hperm.nodup_iff.mpr (once_mem ks).1
  refine ⟨ps, h, ?_, fun k => by rw [hperm.mem_iff]; exact (once_mem ks).2 k, by rw [hperm.length_eq]; exact once_len ks⟩
  refine List.Pairwise.imp₂ (fun a b h1 h2 => leI_row2 h1 h2) (List.pairwise_map.mp hw) hn2
/-- the keys that a board brings -/
def kcell (c : Cell) : List (Int × Int) := (c.x, c.y) :: arP c.x c.y
def keysB (b : List Cell) : List (Int × Int) := b.flatMap kcell
theorem keysB_snoc {b : List Cell} {i : Nat} {c : Cell} (h : b[i]? = some c) : keysB (b.take (i + 1)) = keysB (b.take i) ++ kcell c := by
  unfold keysB
  rw [List.take_add_one, h, List.flatMap_append]
  simp
theorem keysB_len : ∀ b : List Cell, (keysB b).length = 9 * b.length
  | [] => rfl
  | c :: b => by
    have := keysB_len b
    unfold keysB at this ⊢
    rw [List.flatMap_cons, List.length_append, this, List.length_cons]
    simp [kcell, arP]
    omega
/-- what is at those places -/
def newC (r : Rl) (b : List Cell) (p : Int × Int) : Option Cell := if 0 < nx r (stOf b) p.1 p.2 then some ⟨p.1, p.2, nx r (stOf b) p.1 p.2⟩ else none
theorem near_of {f : Fl} {x y : Int} (h : MB.nb f x y ≠ 0) : ∃ p ∈ arP x y, f p.1 p.2 ≠ 0 := by
  by_cases z : ∃ p ∈ arP x y, f p.1 p.2 ≠ 0
  · exact z
  · refine absurd ?_ h
    have z2 : ∀ p ∈ arP x y, MB.liv f p.1 p.2 = 0 := fun p hp => MB.liv_zero (Decidable.byContradiction fun q => z ⟨p, hp, q⟩)
    unfold MB.nb
    have e1 := z2 (x - 1, y - 1) (by simp [arP])
    have e2 := z2 (x - 1, y) (by simp [arP])
    have e3 := z2 (x - 1, y + 1) (by simp [arP])
    have e4 := z2 (x, y - 1) (by simp [arP])
    have e5 := z2 (x, y + 1) (by simp [arP])
    have e6 := z2 (x + 1, y - 1) (by simp [arP])
    have e7 := z2 (x + 1, y) (by simp [arP])
    have e8 := z2 (x + 1, y + 1) (by simp [arP])
    dsimp only at e1 e2 e3 e4 e5 e6 e7 e8
    omega
theorem ar_back {x y : Int} {p : Int × Int} (h : p ∈ arP x y) : (x, y) ∈ arP p.1 p.2 := by
  simp only [arP, List.mem_cons, List.not_mem_nil, or_false] at h ⊢
  rcases h with h | h | h | h | h | h | h | h <;> subst h <;> simp <;> omega
theorem keys_all {r : Rl} (hr : Rule r) {b : List Cell} {x y : Int} (h : nx r (stOf b) x y ≠ 0) : (x, y) ∈ keysB b := by
  unfold keysB
  by_cases z : stOf b x y = 0
  · have : MB.nb (stOf b) x y ≠ 0 := by
      intro e
      apply h
      unfold nx MB.next MB.nextS
      rw [if_pos z, e, if_neg hr.no0]
    obtain ⟨p, hp, hs⟩ := near_of this
    refine List.mem_flatMap.mpr ⟨_, st_mem hs, ?_⟩
    exact List.mem_cons_of_mem _ (ar_back hp)
  · exact List.mem_flatMap.mpr ⟨_, st_mem z, List.mem_cons_self⟩
theorem told_new {r : Rl} (hr : Rule r) {b : List Cell} (hn : ∀ x y, 0 ≤ nx r (stOf b) x y) {ps : List (Int × Int)} (h : Plcs (keysB b) ps) : Told (nx r (stOf b)) (ps.filterMap (newC r b)) := by
  refine ⟨?_, fun c => ?_⟩
  · refine List.pairwise_filterMap.mpr (h.up.imp fun {a b'} hab c hc e he => ?_)
    unfold newC at hc he
    split at hc
    · split at he
      · cases hc; cases he; exact hab
      · cases he
    · cases hc
  · rw [List.mem_filterMap]
    constructor
    · rintro ⟨p, hp, hc⟩
      unfold newC at hc
      split at hc
      · rename_i z
        cases hc
        exact ⟨rfl, by dsimp only; omega⟩
      · cases hc
    · rintro ⟨h1, h2⟩
      refine ⟨(c.x, c.y), (h.mem _).mpr (keys_all hr (by rw [h1]; exact h2)), ?_⟩
      unfold newC
      have := hn c.x c.y
      rw [if_pos (by dsimp only; omega)]
      exact congrArg some (cell_eta rfl rfl h1)
theorem near_count (f : Fl) (x y : Int) : ((arP x y).filter fun p => decide (f p.1 p.2 = 1)).length = MB.nb f x y := by
  rw [← List.countP_eq_length_filter]
  simp only [arP, List.countP_cons, List.countP_nil, decide_eq_true_eq]
  unfold MB.nb MB.liv
  omega
/-- what a cell's place is known to hold -/
abbrev cellKV (c : Cell) : List Key × PyData := (keyI [c.x, c.y], .int c.s)
theorem plcs_map (b : List Cell) : b.Pairwise lt2 → plcs b = b.map cellKV := by
  refine snoc_ind (P := fun b => b.Pairwise lt2 → plcs b = b.map cellKV) (fun _ => rfl) (fun b c ih h => ?_) b
  obtain ⟨h1, _, h2⟩ := List.pairwise_append.mp h
  have e : plcs (b ++ [c]) = putP (plcs b) (keyI [c.x, c.y]) (.int c.s) := by
    unfold plcs rowsP
    rw [List.map_append, List.foldl_append]
    rfl
  rw [e, ih h1, put_new, List.map_append]
  · rfl
  · intro z
    rw [List.map_map] at z
    obtain ⟨a, ha, hk⟩ := List.mem_map.mp z
    have hk : [a.x, a.y] = [c.x, c.y] := keyI_inj hk
    injection hk with k1 k2
    injection k2 with k2 _
    have := h2 a ha c (List.mem_singleton.mpr rfl)
    omega
theorem plcs_held {b : List Cell} (h : b.Pairwise lt2) (x y : Int) : (heldP (plcs b) (keyI [x, y])).getD (.int 0) = .int (stOf b x y) := by
  rw [plcs_map b h]
  unfold heldP stOf
  rw [List.find?_map]
  have e : ((fun kv : List Key × PyData => decide (kv.1 = keyI [x, y])) ∘ cellKV) = isAt x y := by
    funext c
    rw [Bool.eq_iff_iff, isAt_iff]
    show decide (keyI [c.x, c.y] = keyI [x, y]) = true ↔ _
    rw [decide_eq_true_iff]
    constructor
    · intro z
      have z : [c.x, c.y] = [x, y] := keyI_inj z
      injection z with k1 k2
      injection k2 with k2 _
      exact ⟨k1, k2⟩
    · rintro ⟨rfl, rfl⟩
      rfl
  rw [e]
  cases b.find? (isAt x y) <;> rfl
theorem flat_nats (l : List Nat) : ((l.map fun (k : Nat) => PyData.int (k : Int)).map vOf).all flatV = true ∧ (l.map fun (k : Nat) => PyData.int (k : Int)).all flatD = true := by
  constructor <;> (induction l with
  | nil => rfl
  | cons a l ih => simpa [vOf, flatV, flatD] using ih)
theorem inV_nats (n : Nat) (l : List Nat) : inV (vOf (.int (n : Int))) ((l.map fun (k : Nat) => PyData.int (k : Int)).map vOf) = decide (n ∈ l) := by
  induction l with
  | nil => rfl
  | cons a l ih =>
    have e : inV (vOf (.int (n : Int))) (((a :: l).map fun (k : Nat) => PyData.int (k : Int)).map vOf) = (eqV (.int (a : Int)) (.int (n : Int)) || inV (vOf (.int (n : Int))) ((l.map fun (k : Nat) => PyData.int (k : Int)).map vOf)) := rfl
    rw [e, ih]
    have e2 : eqV (.int (a : Int)) (.int (n : Int)) = decide (n = a) := by
      show ((a : Int) == (n : Int)) = decide (n = a)
      by_cases h : n = a
      · subst h; simp
      · rw [decide_eq_false h, beq_eq_false_iff_ne]
        omega
    rw [e2]
    simp
def R_lstep (ds : List PyData) (o : DOut) : Prop := ∃ (r : Rl) (b b' : List Cell), ds = [r.d, bD b] ∧ Rule r ∧ b.length ≤ 2000 ∧ Told (stOf b) b ∧ Told (nx r (stOf b)) b' ∧ (∀ x y, 0 ≤ nx r (stOf b) x y) ∧ o = .ok (bD b')
theorem ok_law_step {P : Program} {w : World} {K : Fg} {mg : Str → Option Value} {base : Heap} {f : Addr} {fd : FuncData} (F : Fun K "_law_step" "_law_step" s_law_step f fd)
    (m_dict : mg "dict" = none)
    (m_sorted : mg "sorted" = none)
    (m_len : mg "len" = none)
    (m_tuple : mg "tuple" = none)
    (c__law_around : Cal P w K mg base 1 "_law_around" (spD K 1 R_laround)) :
    FnOk P w K mg base (L2.CX P w) 2 f fd ["rule", "board"] (spD K 2 R_lstep) := by
  refine F.okX sc_law_step (fun vs H Q E h => len_D h) (fun cdv A outer s H vs Q E hr h => ⟨_, (pss_cons (ps_asg (pe_tup (pa_cons (pe_callTy (call_dictT rfl hr.units) (by rfl) m_dict bt_dict (pa_cons (pe_lc (own := [("cell", 5)]) rfl sc_law_step.nd (pi_tup (pv 1)) (blkOk_by (N := N_law_step) (sc := defScope s_law_step) (by decide +kernel)) (fun _ _ _ _ _ => (pg_name (i := 5) sc_law_step.nd rfl (by first | exact Or.inl rfl | exact Or.inr rfl))) (fun _ _ _ _ _ => pts_nil) (fun _ _ _ _ _ => (pe_tup (pa_cons (pe_slice (show SlR _ (rSlAny K) from sl_any) (pv 5) po_none (po_some pe_int)) (pa_cons (pe_ix (show IxR _ (rIx K) from ix_seq) (pv 5) pe_int (fun _ _ => rfl)) pa_nil))))) pa_nil)) (pa_cons pe_dnewT (pa_cons (pe_lst pa_nil) pa_nil)))) (pg_tup rfl (pgs_cons (pg_name (i := 2) sc_law_step.nd rfl (by first | exact Or.inl rfl | exact Or.inr rfl)) (pgs_cons (pg_name (i := 3) sc_law_step.nd rfl (by first | exact Or.inl rfl | exact Or.inr rfl)) (pgs_cons (pg_name (i := 4) sc_law_step.nd rfl (by first | exact Or.inl rfl | exact Or.inr rfl)) pgs_nil)))))
      (pss_cons (ps_for (passes_of rfl) rfl (pi_tup (pv 1)) (pg_name (i := 5) sc_law_step.nd rfl (by first | exact Or.inl rfl | exact Or.inr rfl)) (pss_cons (ps_dput (hu_of hr) (pv 3) (pe_slice sl_any (pv 5) po_none (po_some pe_int)) pe_bl rfl)
      (pss_one (ps_for (passes_of rfl) rfl (pi_list (pe_cl c__law_around hr (show 1 ≤ 1 by decide) passL (pa_cons (pe_slice sl_any (pv 5) po_none (po_some pe_int)) pa_nil))) (pg_name (i := 6) sc_law_step.nd rfl (by first | exact Or.inl rfl | exact Or.inr rfl)) (pss_one (ps_dput (hu_of hr) (pv 3) (pv 6) pe_bl rfl))))))
      (pss_cons (ps_for (passes_of rfl) rfl (pi_list (pe_callB (cr_sortK rfl) (by rfl) m_sorted bb_sorted (pa_cons (pe_bm0 PySem.F.plainAttrs_dict PySem.F.slot_dict_keys PySem.F.type_dict_keys mt_keysT (pv 3)) pa_nil))) (pg_name (i := 6) sc_law_step.nd rfl (by first | exact Or.inl rfl | exact Or.inr rfl)) (pss_cons (ps_set (i := 7) sc_law_step.nd rfl (by first | exact Or.inl rfl | exact Or.inr rfl) (pe_callB call_len (by rfl) m_len bb_len (pa_cons (pe_lc (own := [("one", 8)]) rfl sc_law_step.nd (pi_list (pe_cl c__law_around hr (show 1 ≤ 1 by decide) passL (pa_cons (pv 6) pa_nil))) (blkOk_by (N := N_law_step) (sc := defScope s_law_step) (by decide +kernel)) (fun _ _ _ _ _ => (pg_name (i := 8) sc_law_step.nd rfl (by first | exact Or.inl rfl | exact Or.inr rfl))) (fun _ _ _ _ _ => (pts_one (pt_cmpR (show OpR _ (compareOp .Eq) (rEqA K) from (op_eqA hr.units)) (pe_dget2 (hu_of hr) (pv 2) (pv 8) pe_int ⟨rfl, rfl, rfl, rfl⟩) pe_int (nomark _)))) (fun _ _ _ _ _ => pe_int)) pa_nil)))
      (pss_cons (ps_set (i := 9) sc_law_step.nd rfl (by first | exact Or.inl rfl | exact Or.inr rfl) (pe_dget2 (hu_of hr) (pv 2) (pv 6) pe_int ⟨rfl, rfl, rfl, rfl⟩))
      (pss_cons (ps_if (pt_cmpR (op_eqA hr.units) (pv 9) pe_int (nomark _)) (pss_one (ps_set (i := 10) sc_law_step.nd rfl (by first | exact Or.inl rfl | exact Or.inr rfl) (pe_ifExp (pt_cmpR op_in_seq (pv 7) (pe_ix ix_seq (pv 0) pe_int (fun _ _ => rfl)) (by rfl)) pe_int pe_int))) (pss_one (ps_if (PW.pt (pw_and (pt_cmpR (op_eqA hr.units) (pv 9) pe_int (nomark _)) (pw_and1 (pt_cmpR op_in_seq (pv 7) (pe_ix ix_seq (pv 0) pe_int (fun _ _ => rfl)) (by rfl))))) (pss_one (ps_set (i := 10) sc_law_step.nd rfl (by first | exact Or.inl rfl | exact Or.inr rfl) pe_int)) (pss_one (ps_set (i := 10) sc_law_step.nd rfl (by first | exact Or.inl rfl | exact Or.inr rfl) (pe_ifExp (pt_cmpR op_lt (pe_op op_addA (pv 9) pe_int) (pe_ix ix_seq (pv 0) pe_int (fun _ _ => rfl)) (nomark _)) (pe_op op_addA (pv 9) pe_int) pe_int))))))
      (pss_one (ps_set (i := 4) sc_law_step.nd rfl (by first | exact Or.inl rfl | exact Or.inr rfl) (pe_ifExp (pt_cmpR op_gt (pv 10) pe_int (nomark _)) (pe_op op_addA (pv 4) (pe_lst (pa_cons (pe_op op_addA (pv 6) (pe_tup (pa_cons (pv 10) pa_nil))) pa_nil))) (pv 4))))))))
      (pss_one (ps_ret (pe_callTy call_tuple_of (by rfl) m_tuple bt_tuple (pa_cons (pv 4) pa_nil))))))),
    fn_D h fun ds o hk hR => ?_⟩)
  try dsimp only [L2.cxOf]
  obtain ⟨r, b, b', rfl, hr2, hb, hT, hT', hn0, rfl⟩ := hR
  have hsz : (sizeLine : Nat) = 16777216 := sizeLine_eq
  refine zs_seq (zs_asgT3 rfl ?_)
  walk_at "zq"
  refine lcT_map b Cell.d (fun c => .tuple [rowD [c.x, c.y], .int c.s]) ?_
  walk_at "zz"
  refine ⟨rfl, by omega, fun c hc => ⟨_, _, ?_, zg_name, fun D acc => ?_⟩, ?_⟩
  · simp
  · walk_at "zq"
    walk_at "zt"
    exact ⟨rfl, rfl⟩
  rw [show (b.map fun c => PyData.tuple [rowD [c.x, c.y], .int c.s]) = (b.map fun c => ([c.x, c.y], PyData.int c.s)).map fun r => .tuple [rowD r.1, r.2] by rw [List.map_map]; rfl]
  walk_at "zq"
  refine zc_dict (fun r hr => ?_) fun qc => ?_
  · obtain ⟨c, _, rfl⟩ := List.mem_map.mp hr
    intro z
    cases z
  rw [show rowsP (b.map fun c => ([c.x, c.y], PyData.int c.s)) = plcs b from rfl]
  walk_at "zq"
  intro qp
  walk_at "zq"
  refine zw_lstC ?_
  walk_at "zq"
  walk_at "zt"
  intro q
  walk_at "zq"
  refine ⟨fun i S2 M2 => ∃ (c5 c6 c7 c8 c9 c10 : Option ZV), S2 = [some (.d r.d), some (.d (bD b)), some (.c qc), some (.c qp), some (.c q), c5, c6, c7, c8, c9, c10] ∧ M2 = [(q, true, .lst []), (qp, true, .dT (trueD (keysB (b.take i)))), (qc, true, .dT (plcs b))], ⟨_, _, _, _, _, _, rfl, rfl⟩, ?_, ?_⟩
  · rintro i v S2 M2 hv ⟨c5, c6, c7, c8, c9, c10, rfl, rfl⟩
    rw [List.getElem?_map] at hv
    obtain ⟨c, hc, rfl⟩ := Option.map_eq_some_iff.mp hv
    refine ⟨_, _, zg_name, ?_⟩
    walk_at "zq"
    have hil := (List.getElem?_eq_some_iff.mp hc).1
    have hkl : ∀ m, (keysB (b.take i) ++ (kcell c).take m).length ≤ 18009 := fun m => by
      rw [List.length_append, keysB_len, List.length_take, List.length_take]
      have : (kcell c).length = 9 := rfl
      omega
    refine ⟨qp, true, _, c.x, [c.y], _, rfl, rfl, ?_, .there .here, ?_⟩
    · have := hkl 0
      have := put_len1 (keysB (b.take i))
      rw [List.take_zero, List.append_nil] at *
      omega
    walk_at "zq"
    refine ⟨_, _, by walk_at "zd", rfl, ⟨c.x, c.y, rfl, rfl⟩, ?_⟩
    walk_at "zq"
    refine ⟨fun j S2 M2 => ∃ (c6 c7 c8 c9 c10 : Option ZV), S2 = [some (.d r.d), some (.d (bD b)), some (.c qc), some (.c qp), some (.c q), some (.d c.d), c6, c7, c8, c9, c10] ∧ M2 = [(q, true, .lst []), (qp, true, .dT (trueD (keysB (b.take i) ++ (kcell c).take (j + 1)))), (qc, true, .dT (plcs b))], ⟨_, _, _, _, _, rfl, ?_⟩, ?_, ?_⟩
    · rw [show (kcell c).take (0 + 1) = [(c.x, c.y)] from rfl, true_snoc]
    · rintro j v S2 M2 hv ⟨c6, c7, c8, c9, c10, rfl, rfl⟩
      rw [List.getElem?_map] at hv
      obtain ⟨p, hp, rfl⟩ := Option.map_eq_some_iff.mp hv
      walk_at "zq"
      refine ⟨qp, true, _, p.1, [p.2], _, rfl, rfl, ?_, .there .here, ?_⟩
      · have := hkl (j + 1)
        have := put_len1 (keysB (b.take i) ++ (kcell c).take (j + 1))
        omega
      refine ⟨_, _, _, _, _, rfl, ?_⟩
      rw [show (kcell c).take (j + 1 + 1) = (kcell c).take (j + 1) ++ [p] by rw [List.take_add_one, show (kcell c)[j + 1]? = some p from hp]; rfl, ← List.append_assoc, true_snoc]
    · rintro S2 M2 ⟨c6, c7, c8, c9, c10, rfl, rfl⟩
      refine ⟨_, _, _, _, _, _, rfl, ?_⟩
      rw [keysB_snoc hc]
      rfl
  · rintro S2 M2 ⟨c5, c6, c7, c8, c9, c10, rfl, rfl⟩
    rw [List.length_map, List.take_length]
    obtain ⟨ps, hps⟩ := plcs_ex (keysB b)
    have hres := told_uniq hT' (told_new hr2 hn0 hps)
    subst hres
    walk_at "zq"
    refine ⟨qp, _, _, (once (keysB b)).map row2, rfl, m1 m0, true_keys _, fun r hr => ?_, ?_⟩
    · obtain ⟨p, _, rfl⟩ := List.mem_map.mp hr
      intro z
      cases z
    rw [hps.eq]
    walk_at "zq"
    refine ⟨fun i S2 M2 => ∃ (q : Addr) (c5 c6 c7 c8 c9 c10 : Option ZV), S2 = [some (.d r.d), some (.d (bD b)), some (.c qc), some (.c qp), some (.c q), c5, c6, c7, c8, c9, c10] ∧ [(q, true, CD.lst (((ps.take i).filterMap (newC r b)).map Cell.d)), (qc, true, .dT (plcs b))].Sublist M2, ⟨q, _, _, _, _, _, _, rfl, .cons₂ _ (.cons _ (.cons₂ _ .slnil))⟩, ?_, ?_⟩
    · rintro i v S2 M2 hv ⟨q, c5, c6, c7, c8, c9, c10, rfl, hsub⟩
      rw [List.getElem?_map, List.getElem?_map] at hv
      obtain ⟨_, h1, rfl⟩ := Option.map_eq_some_iff.mp hv
      obtain ⟨p, hp, rfl⟩ := Option.map_eq_some_iff.mp h1
      clear hv h1
      refine ⟨_, _, zg_name, ?_⟩
      refine zs_weak (S' := [some (.d r.d), some (.d (bD b)), some (.c qc), some (.c qp), some (.c q), c5, some (.d (prP p)), c7, c8, c9, c10]) ?_ rfl (fun _ _ h => h) hsub
      walk_at "zq"
      refine lcL_fm (arP p.1 p.2) prP (fun _ => .int 1) (fun o => decide (stOf b o.1 o.2 = 1)) ?_
      walk_at "zz"
      refine ⟨_, _, by walk_at "zd", rfl, ⟨p.1, p.2, rfl, rfl⟩, ?_⟩
      refine ⟨rfl, by rw [hsz]; exact Nat.le_of_ble_eq_true rfl, fun o ho => ⟨_, _, ?_, zg_name, fun D acc => ⟨?_, fun z => ?_⟩⟩, ?_⟩
      · simp
      · walk_at "zq"
        refine ⟨⟨_, _, m1 (m1 m0)⟩, ?_⟩
        walk_at "zq"
        refine ⟨o.1, [o.2], rfl, ?_⟩
        walk_at "zq"
        refine ⟨true, _, _, rfl, m1 (m1 m0), ?_⟩
        rw [plcs_held hT.up]
        walk_at "zq"
        try exact ⟨rfl, rfl⟩
      · walk_at "zq"
        try exact ⟨rfl, rfl⟩
      · rw [List.map_const', near_count]
        walk_at "zq"
        rw [List.length_replicate]
        walk_at "zq"
        refine ⟨⟨_, _, m1 m0⟩, ?_⟩
        walk_at "zq"
        refine ⟨p.1, [p.2], rfl, ?_⟩
        walk_at "zq"
        refine ⟨true, _, _, rfl, m1 m0, ?_⟩
        rw [plcs_held hT.up]
        have hnx : nx r (stOf b) p.1 p.2 = MB.nextS r.b r.s r.n (stOf b p.1 p.2) (MB.nb (stOf b) p.1 p.2) := rfl
        have hst0 := hn0 p.1 p.2
        refine zs_seq (zs_nx (N := fun S2 M2 => S2 = [some (.d r.d), some (.d (bD b)), some (.c qc), some (.c qp), some (.c q), c5, some (.d (prP p)), some (.d (.int (MB.nb (stOf b) p.1 p.2 : Nat))), c8, some (.d (.int (stOf b p.1 p.2))), some (.d (.int (nx r (stOf b) p.1 p.2)))] ∧ M2 = [(q, true, CD.lst (((ps.take i).filterMap (newC r b)).map Cell.d)), (qc, true, .dT (plcs b))]) ?_ ?_)
        · rw [hnx]
          generalize stOf b p.1 p.2 = st
          generalize MB.nb (stOf b) p.1 p.2 = nbv
          unfold MB.nextS
          walk_at "zz"
          refine ⟨_, rfl, fun h0 => ?_, fun h0 => ?_⟩
          · rw [if_pos (of_decide_eq_true h0)]
            walk_at "zq"
            refine zo_inT ⟨rfl, rfl⟩ (flat_nats r.b) ?_
            rw [inV_nats]
            walk_at "zq"
            refine ⟨fun h1 => ?_, fun h1 => ?_⟩
            · have h1 : nbv ∈ r.b := by simpa using h1
              rw [if_pos h1]
              walk_at "zq"
              exact ⟨rfl, rfl⟩
            · have h1 : ¬ nbv ∈ r.b := by simpa using h1
              rw [if_neg h1]
              walk_at "zq"
              exact ⟨rfl, rfl⟩
          · rw [if_neg (of_decide_eq_false h0)]
            walk_at "zq"
            refine ⟨fun h1 => ?_, fun h1 => ?_⟩
            · refine ⟨fun z => Bool.noConfusion z, fun _ => ?_⟩
              rw [if_neg (fun z => absurd z.1 (of_decide_eq_false h1))]
              walk_at "zq"
              refine ⟨fun h2 => ?_, fun h2 => ?_⟩
              · have h2 : st + 1 < (r.n : Int) := of_decide_eq_true h2
                rw [if_pos h2]
                walk_at "zq"
                exact ⟨rfl, rfl⟩
              · have h2 : ¬ (st + 1 < (r.n : Int)) := of_decide_eq_false h2
                rw [if_neg h2]
                walk_at "zq"
                exact ⟨rfl, rfl⟩
            · walk_at "zq"
              refine zo_inT ⟨rfl, rfl⟩ (flat_nats r.s) ?_
              rw [inV_nats]
              walk_at "zq"
              refine ⟨fun h3 => ?_, fun h3 => ?_⟩
              · have h3 : nbv ∈ r.s := by simpa using h3
                rw [if_pos ⟨of_decide_eq_true h1, h3⟩]
                walk_at "zq"
                exact ⟨rfl, rfl⟩
              · have h3 : ¬ nbv ∈ r.s := by simpa using h3
                rw [if_neg (fun z => h3 z.2)]
                walk_at "zq"
                refine ⟨fun h2 => ?_, fun h2 => ?_⟩
                · have h2 : st + 1 < (r.n : Int) := of_decide_eq_true h2
                  rw [if_pos h2]
                  walk_at "zq"
                  exact ⟨rfl, rfl⟩
                · have h2 : ¬ (st + 1 < (r.n : Int)) := of_decide_eq_false h2
                  rw [if_neg h2]
                  walk_at "zq"
                  exact ⟨rfl, rfl⟩
        · rintro S2 M2 ⟨rfl, rfl⟩
          have hil := (List.getElem?_eq_some_iff.mp hp).1
          walk_at "zq"
          refine ⟨fun h => ?_, fun h => ?_⟩
          · have h : 0 < nx r (stOf b) p.1 p.2 := of_decide_eq_true h
            walk_at "zq"
            refine zw_lstC ?_
            walk_at "zq"
            walk_at "zt"
            refine za_t (xs := [.int p.1, .int p.2]) (ys := [.int (nx r (stOf b) p.1 p.2)]) (by rw [hsz]; exact Nat.le_of_ble_eq_true rfl) ?_
            walk_at "zq"
            walk_at "zt"
            refine fun q2 => ?_
            have l1 := hps.len
            rw [keysB_len] at l1
            have l2 : ((ps.take i).filterMap (newC r b)).length ≤ ps.length := Nat.le_trans (List.length_filterMap_le _ _) (by rw [List.length_take]; omega)
            refine za_l (p := q) (p2 := q2) (m1 m0) m0 (by rw [List.length_map, hsz]; simp only [List.length_cons, List.length_nil]; omega) fun q3 => ?_
            walk_at "zq"
            have e : ((ps.take (i + 1)).filterMap (newC r b)).map Cell.d = ((ps.take i).filterMap (newC r b)).map Cell.d ++ [.tuple [.int p.1, .int p.2, .int (nx r (stOf b) p.1 p.2)]] := by
              rw [List.take_add_one, hp, List.filterMap_append, List.map_append]
              congr 1
              show (List.filterMap (newC r b) [p]).map Cell.d = _
              rw [List.filterMap_cons, show newC r b p = some ⟨p.1, p.2, nx r (stOf b) p.1 p.2⟩ from if_pos h]
              rfl
            refine ⟨q3, _, _, _, _, _, _, rfl, ?_⟩
            rw [e]
            exact .cons₂ _ (.cons _ (.cons _ (.cons₂ _ .slnil)))
          · have h : ¬ (0 < nx r (stOf b) p.1 p.2) := of_decide_eq_false h
            walk_at "zq"
            have e : (ps.take (i + 1)).filterMap (newC r b) = (ps.take i).filterMap (newC r b) := by
              rw [List.take_add_one, hp, List.filterMap_append]
              show _ ++ List.filterMap (newC r b) [p] = _
              rw [List.filterMap_cons, show newC r b p = none from if_neg h]
              exact List.append_nil _
            refine ⟨q, _, _, _, _, _, _, rfl, ?_⟩
            rw [e]
            exact List.Sublist.refl _
    · rintro S2 M2 ⟨q, c5, c6, c7, c8, c9, c10, rfl, hsub⟩
      rw [List.length_map, List.length_map, List.take_length] at hsub
      walk_at "zq"
      refine zc_tupC (hsub.subset List.mem_cons_self) ?_
      exact ⟨_, rfl, rfl⟩
/-! ### columns as numbers -/
theorem bit_eq (n k : Nat) : decide ((((n >>> k) &&& 1 : Nat) : Int) = 1) = n.testBit k := by
  unfold Nat.testBit
  rw [Nat.and_comm]
  have h : 1 &&& (n >>> k) = (n >>> k) % 2 := Nat.one_and_eq_mod_two _
  rw [h]
  have h2 := Nat.mod_lt (n >>> k) (show 0 < 2 by decide)
  by_cases z : (n >>> k) % 2 = 1
  · rw [z]; rfl
  · have z : (n >>> k) % 2 = 0 := by omega
    rw [z]; rfl
/-! ### what becomes of nine cells -/
theorem binS_len (n : Nat) : (binS n).length = (MB.binL n).length := rfl
theorem cnt_list (l : List Nat) : cnt 49 l = ((l.count 49 : Nat) : Int) := by
  induction l with
  | nil => rfl
  | cons a l ih =>
    rw [cnt_cons, ih, List.count_cons]
    by_cases h : a = 49
    · subst h; simp; omega
    · rw [if_neg h]
      have : (a == 49) = false := by simpa using h
      rw [this]; simp
theorem count_bin (p : Nat) : Txt.count (binS p) ("1" : Str) = (((MB.ones p).length : Nat) : Int) := by
  have e1 : ("1" : Str) = ⟨#[49]⟩ := rfl
  rw [e1, count_cnt, MB.ones_count]
  exact cnt_list _
def lcF (r : Rl) (a : Nat) : Nat := if (MB.ones a).length - (a.testBit 4).toNat ∈ (if a.testBit 4 then r.s else r.b) then 1 else 0
theorem ones_alive (a : Nat) : (a.testBit 4).toNat ≤ (MB.ones a).length := by
  cases h : a.testBit 4 with
  | false => exact Nat.zero_le _
  | true =>
    have : 4 ∈ MB.ones a := (MB.mem_ones a 4).mpr h
    exact List.length_pos_of_mem this
def R_later9 (ds : List PyData) (o : DOut) : Prop := ∃ r : Rl, ds = [r.d] ∧ Rule r ∧ o = .ok (.list ((List.range 512).map fun (a : Nat) => .int (lcF r a : Int)))
theorem ok_later_cells {P : Program} {w : World} {K : Fg} {mg : Str → Option Value} {base : Heap} {f : Addr} {fd : FuncData} (F : Fun K "_later_cells" "_later_cells" s_later_cells f fd)
    (m_range : mg "range" = none) :
    FnOk P w K mg base (L2.CX P w) 1 f fd ["rule"] (spD K 1 R_later9) := by
  refine F.okX sc_later_cells (fun vs H Q E h => len_D h) (fun cdv A outer s H vs Q E hr h => ⟨_, (pss_cons (ps_asg (pe_slice sl_any (pv 0) po_none (po_some pe_int)) (pg_tup rfl (pgs_cons (pg_name (i := 1) sc_later_cells.nd rfl (by first | exact Or.inl rfl | exact Or.inr rfl)) (pgs_cons (pg_name (i := 2) sc_later_cells.nd rfl (by first | exact Or.inl rfl | exact Or.inr rfl)) pgs_nil))))
      (pss_cons (ps_set (i := 3) sc_later_cells.nd rfl (by first | exact Or.inl rfl | exact Or.inr rfl) (pe_lst pa_nil))
      (pss_cons (ps_for (passes_of rfl) rfl (pi_range1 (by rfl) m_range (pa_cons pe_int pa_nil)) (pg_name (i := 4) sc_later_cells.nd rfl (by first | exact Or.inl rfl | exact Or.inr rfl)) (pss_cons (ps_set (i := 5) sc_later_cells.nd rfl (by first | exact Or.inl rfl | exact Or.inr rfl) (pe_op op_and (pe_op op_shr (pv 4) pe_int) pe_int))
      (pss_cons (ps_set (i := 6) sc_later_cells.nd rfl (by first | exact Or.inl rfl | exact Or.inr rfl) (pe_op op_sub (pe_bm PySem.F.plainAttrs_str PySem.F.slot_str_count PySem.F.type_str_count mt_count (pe_joined1 (pe_fmtB (pv 4) (pe_joined1 pe_str))) (pa_cons pe_str pa_nil)) (pv 5)))
      (pss_one (ps_expr (pe_bm PySem.F.plainAttrs_list PySem.F.slot_list_append PySem.F.type_list_append mt_append (pv 3) (pa_cons (pe_ifExp (pt_cmpR op_in_seq (pv 6) (pe_ifExp (pt_cmpR (op_eqA hr.units) (pv 5) pe_int (nomark _)) (pv 2) (pv 1)) (by rfl)) pe_int pe_int) pa_nil)))))))
      (pss_one (ps_ret (pv 3)))))),
    fn_D h fun ds o hk hR => ?_⟩)
  try dsimp only [L2.cxOf]
  obtain ⟨r, rfl, hr2, rfl⟩ := hR
  have hsz : (sizeLine : Nat) = 16777216 := sizeLine_eq
  walk_at "zq"
  refine zw_lstC ?_
  walk_at "zq"
  refine ⟨[], allD_nil, Nat.zero_le _, fun q => ?_⟩
  walk_at "zq"
  refine ⟨by decide, by decide, fun i S2 M2 => ∃ c4 c5 c6 : Option ZV, S2 = [some (.d r.d), some (.d (natsD r.b)), some (.d (natsD r.s)), some (.c q), c4, c5, c6] ∧ M2 = [(q, true, .lst ((List.range i).map fun (a : Nat) => .int (lcF r a : Int)))], ⟨_, _, _, rfl, rfl⟩, ?_, ?_⟩
  · rintro i S2 M2 hi ⟨c4, c5, c6, rfl, rfl⟩
    have hi : i < 512 := hi
    have hal := ones_alive i
    have hb : (((i >>> 4) &&& 1 : Nat) : Int) = ((i.testBit 4).toNat : Int) := by
      have e := bit_eq i 4
      have l : (i >>> 4) &&& 1 ≤ 1 := Nat.and_le_right
      cases z : i.testBit 4 with
      | true =>
        rw [z] at e
        have := of_decide_eq_true e
        simp only [Bool.toNat_true]
        omega
      | false =>
        rw [z] at e
        have := of_decide_eq_false e
        simp only [Bool.toNat_false]
        omega
    have hlen : (binS i).length ≤ 20 := by
      rw [binS_len, MB.binL_len]
      have : i.log2 < 10 := by
        by_cases z : i = 0
        · subst z; decide
        · exact (Nat.log2_lt z).2 (by omega)
      omega
    have ef : ((List.range (i + 1)).map fun (a : Nat) => PyData.int (lcF r a : Int)) = ((List.range i).map fun (a : Nat) => PyData.int (lcF r a : Int)) ++ [.int (lcF r i : Int)] := by
      rw [List.range_succ, List.map_append]
      rfl
    refine ⟨_, _, zg_name, ?_⟩
    rw [show (0 : Int) + (i : Int) = (i : Int) by omega]
    walk_at "zq"
    refine zo_shrN (a := i) (k := 4) ?_
    walk_at "zq"
    refine zo_band (b := 1) ?_
    rw [hb]
    walk_at "zq"
    refine ⟨by omega, ?_⟩
    walk_at "zq"
    rw [count_bin]
    walk_at "zq"
    rw [show (((MB.ones i).length : Nat) : Int) - ((i.testBit 4).toNat : Int) = (((MB.ones i).length - (i.testBit 4).toNat : Nat) : Int) by omega]
    refine zw_append ?_
    walk_at "zz"
    refine ⟨q, rfl, ⟨_, _, m0⟩, ?_⟩
    refine (zw_cut (z0 := .d (.int (lcF r i : Int))) (M0 := [(q, true, .lst ((List.range i).map fun (a : Nat) => .int (lcF r a : Int)))]) ?_ ?_)
    · cases z : i.testBit 4 with
      | true =>
        walk_at "zq"
        refine zo_inT ⟨rfl, rfl⟩ (flat_nats r.s) ?_
        rw [inV_nats]
        have e : lcF r i = if (MB.ones i).length - 1 ∈ r.s then 1 else 0 := by unfold lcF; rw [z]; rfl
        rw [e]
        refine ⟨_, rfl, fun hq => ?_, fun hq => ?_⟩
        · have hq : (MB.ones i).length - 1 ∈ r.s := of_decide_eq_true hq
          rw [if_pos hq]
          walk_at "zq"
          exact ⟨rfl, rfl⟩
        · have hq : ¬ (MB.ones i).length - 1 ∈ r.s := of_decide_eq_false hq
          rw [if_neg hq]
          walk_at "zq"
          exact ⟨rfl, rfl⟩
      | false =>
        walk_at "zq"
        refine zo_inT ⟨rfl, rfl⟩ (flat_nats r.b) ?_
        rw [inV_nats]
        have e : lcF r i = if (MB.ones i).length - 0 ∈ r.b then 1 else 0 := by unfold lcF; rw [z]; rfl
        rw [e]
        refine ⟨_, rfl, fun hq => ?_, fun hq => ?_⟩
        · have hq : (MB.ones i).length - 0 ∈ r.b := of_decide_eq_true hq
          rw [if_pos hq]
          walk_at "zq"
          exact ⟨rfl, rfl⟩
        · have hq : ¬ (MB.ones i).length - 0 ∈ r.b := of_decide_eq_false hq
          rw [if_neg hq]
          walk_at "zq"
          exact ⟨rfl, rfl⟩
    refine ⟨_, true, _, _, rfl, .here, by rw [List.length_map, List.length_range, hsz]; omega, ?_⟩
    refine ⟨_, _, _, rfl, ?_⟩
    rw [ef]
  · rintro S2 M2 ⟨c4, c5, c6, rfl, rfl⟩
    refine zs_ret (zw_frz ?_)
    walk_at "zq"
    refine ⟨q, _, _, rfl, .here, ?_⟩
    exact ⟨_, rfl, rfl⟩
/-! ### the stepper of columns -/
def arN (l m q i : Nat) : Nat := ((((l >>> i) &&& 7) <<< 6) ||| (((m >>> i) &&& 7) <<< 3)) ||| ((q >>> i) &&& 7)
theorem arN_lt (l m q i : Nat) : arN l m q i < 512 := by
  unfold arN
  have h7 : ∀ a : Nat, a &&& 7 < 8 := fun a => Nat.and_lt_two_pow (n := 3) a (by decide)
  have s6 : (((l >>> i) &&& 7) <<< 6) < 2 ^ 9 := by rw [Nat.shiftLeft_eq]; have := h7 (l >>> i); omega
  have s3 : (((m >>> i) &&& 7) <<< 3) < 2 ^ 9 := by rw [Nat.shiftLeft_eq]; have := h7 (m >>> i); omega
  have s0 : ((q >>> i) &&& 7) < 2 ^ 9 := by have := h7 (q >>> i); omega
  exact Nat.or_lt_two_pow (Nat.or_lt_two_pow s6 s3) s0
theorem ite01 {p : Prop} [Decidable p] : (if p then 1 else 0) ≤ 1 := by split <;> omega
theorem lcF_le (r : Rl) (a : Nat) : lcF r a ≤ 1 := ite01
/-- what becomes of the middle one of three columns -/
def latN (r : Rl) (l m q : Nat) : Nat → Nat
  | 0 => 0
  | i + 1 => latN r l m q i ||| (lcF r (arN l m q i) <<< i)
def csFs (r : Rl) (h : Nat) : List (Str × ZV) := [("many", .d (.int (h : Int))), ("later_cells", .d (.list ((List.range 512).map fun (a : Nat) => .int (lcF r a : Int))))]
def R_csInit (fs : List (Str × ZV)) (ds : List PyData) (o : DOut) (fs' : List (Str × ZV)) : Prop := ∃ (r : Rl) (h : Nat), fs = [] ∧ ds = [r.d, .int (h : Int)] ∧ Rule r ∧ o = .ok .none ∧ fs' = csFs r h
theorem ok_ColumnStepper_init {P : Program} {w : World} {K : Fg} {mg : Str → Option Value} {base : Heap} {f : Addr} {fd : FuncData} {C_ColumnStepper : Addr} (F : Fun K "__init__" "ColumnStepper.__init__" s_ColumnStepper_init f fd)
    (na_ColumnStepper_many : NoAttr K C_ColumnStepper "many")
    (na_ColumnStepper_later_cells : NoAttr K C_ColumnStepper "later_cells")
    (c__later_cells : Cal P w K mg base 1 "_later_cells" (spD K 1 R_later9))
    (cl_ColumnStepper : Cls K C_ColumnStepper) :
    FnOk P w K mg base (L2.CX P w) 2 f fd ["self", "rule", "many"] (spO K C_ColumnStepper 2 R_csInit) := by
  refine F.okX sc_ColumnStepper_init (fun vs H Q E h => len_O h) (fun cdv A outer s H vs Q E hr h => ⟨_, (pss_cons (ps_fld (pv 0) (pv 2) rfl)
      (pss_one (ps_fld (pv 0) (pe_cl c__later_cells hr (show 1 ≤ 1 by decide) passL (pa_cons (pv 1) pa_nil)) rfl))),
    fn_O h fun p fs ds o fs2 hk hR => ?_⟩)
  try dsimp only [L2.cxOf]
  obtain ⟨r, h, rfl, rfl, hr2, rfl, rfl⟩ := hR
  walk_at "zfq"
  refine ⟨_, _, by walk_at "zd", rfl, ⟨r, rfl, hr2, rfl⟩, ?_⟩
  walk_at "zfq"
  first | exact ⟨rfl, m0⟩ | exact m0
theorem sh_ok {a k : Nat} (h : a < 2 ^ 20) (hk : k ≤ 20) : CShl (a : Int) (k : Int) := by
  refine ⟨by omega, ?_⟩
  have := PyProof.Rows.intBits_le (a := (a : Int)) (k := 20) h
  omega
theorem and7_lt (a : Nat) : a &&& 7 < 8 := Nat.and_lt_two_pow (n := 3) a (by decide)
def R_csLater (fs : List (Str × ZV)) (ds : List PyData) (o : DOut) (fs' : List (Str × ZV)) : Prop := ∃ (r : Rl) (h l m q : Nat), fs = csFs r h ∧ ds = [.int (l : Int), .int (m : Int), .int (q : Int)] ∧ h ≤ 5 ∧ o = .ok (.int (latN r l m q h : Int)) ∧ fs' = fs
theorem ok_ColumnStepper_later {P : Program} {w : World} {K : Fg} {mg : Str → Option Value} {base : Heap} {f : Addr} {fd : FuncData} {C_ColumnStepper : Addr} (F : Fun K "later" "ColumnStepper.later" s_ColumnStepper_later f fd)
    (m_range : mg "range" = none)
    (na_ColumnStepper_many : NoAttr K C_ColumnStepper "many")
    (na_ColumnStepper_later_cells : NoAttr K C_ColumnStepper "later_cells")
    (cl_ColumnStepper : Cls K C_ColumnStepper) :
    FnOk P w K mg base (L2.CX P w) 1 f fd ["self", "left", "middle", "right"] (spO K C_ColumnStepper 3 R_csLater) := by
  refine F.okX sc_ColumnStepper_later (fun vs H Q E h => len_O h) (fun cdv A outer s H vs Q E hr h => ⟨_, (pss_cons (ps_set (i := 4) sc_ColumnStepper_later.nd rfl (by first | exact Or.inl rfl | exact Or.inr rfl) pe_int)
      (pss_cons (ps_for (passes_of rfl) rfl (pi_range1 (by rfl) m_range (pa_cons (pe_fld (pv 0) rfl) pa_nil)) (pg_name (i := 5) sc_ColumnStepper_later.nd rfl (by first | exact Or.inl rfl | exact Or.inr rfl)) (pss_cons (ps_set (i := 6) sc_ColumnStepper_later.nd rfl (by first | exact Or.inl rfl | exact Or.inr rfl) (pe_op op_or (pe_op op_or (pe_op op_shlW (pe_op op_and (pe_op op_shr (pv 1) (pv 5)) pe_int) pe_int) (pe_op op_shlW (pe_op op_and (pe_op op_shr (pv 2) (pv 5)) pe_int) pe_int)) (pe_op op_and (pe_op op_shr (pv 3) (pv 5)) pe_int)))
      (pss_one (ps_aug (i := 4) sc_ColumnStepper_later.nd rfl (by first | exact Or.inl rfl | exact Or.inr rfl) (pe_op op_shlW (pe_ix ix_seq (pe_fld (pv 0) rfl) (pv 6) (fun _ _ => rfl)) (pv 5)) ip_or))))
      (pss_one (ps_ret (pv 4))))),
    fn_O h fun p fs ds o fs2 hk hR => ?_⟩)
  try dsimp only [L2.cxOf]
  obtain ⟨r, h, l, m, q, rfl, rfl, h4, rfl, rfl⟩ := hR
  have hsz : (sizeLine : Nat) = 16777216 := sizeLine_eq
  walk_at "zfq"
  refine ⟨by omega, by omega, fun i S2 M2 => ∃ c5 c6 : Option ZV, S2 = [some (.c p), some (.d (.int (l : Int))), some (.d (.int (m : Int))), some (.d (.int (q : Int))), some (.d (.int (latN r l m q i : Int))), c5, c6] ∧ M2 = [(p, false, .obj C_ColumnStepper (csFs r h))], ⟨_, _, rfl, rfl⟩, ?_, ?_⟩
  · rintro i S2 M2 hi ⟨c5, c6, rfl, rfl⟩
    have hi : i < h := by omega
    have a1 := and7_lt (l >>> i)
    have a2 := and7_lt (m >>> i)
    have ha := arN_lt l m q i
    have hat : atI ((List.range 512).map fun (a : Nat) => PyData.int (lcF r a : Int)) ((arN l m q i : Nat) : Int) = some (.int (lcF r (arN l m q i) : Int)) := atI_nat (by rw [List.getElem?_map, List.getElem?_range ha]; rfl)
    have h1 := lcF_le r (arN l m q i)
    refine ⟨_, _, zg_name, ?_⟩
    rw [show (0 : Int) + (i : Int) = (i : Int) by omega]
    walk_at "zfq"
    refine zo_band (b := 7) ?_
    walk_at "zfq"
    refine zo_shlN (k := 6) (sh_ok (by omega) (by decide)) ?_
    walk_at "zfq"
    refine zo_band (b := 7) ?_
    walk_at "zfq"
    refine zo_shlN (k := 3) (sh_ok (by omega) (by decide)) ?_
    walk_at "zfq"
    refine zo_band (b := 7) ?_
    walk_at "zfq"
    refine zs_nx (N := fun S M => S = [some (.c p), some (.d (.int (l : Int))), some (.d (.int (m : Int))), some (.d (.int (q : Int))), some (.d (.int (latN r l m q (i + 1) : Int))), some (.d (.int (i : Int))), some (.d (.int (arN l m q i : Int)))] ∧ M = [(p, false, .obj C_ColumnStepper (csFs r h))]) ?_ (fun S M ⟨h1, h2⟩ => ⟨_, _, h1, h2⟩)
    refine zs_augOr rfl ?_
    rw [show (((l >>> i) &&& 7) <<< 6 ||| ((m >>> i) &&& 7) <<< 3 ||| (q >>> i) &&& 7) = arN l m q i from rfl]
    walk_at "zfq"
    refine zo_shlN (sh_ok (by omega) (by omega)) ?_
    exact ⟨_, rfl, rfl, rfl⟩
  · rintro S2 M2 ⟨c5, c6, rfl, rfl⟩
    rw [Int.toNat_natCast]
    walk_at "zfq"
    first | exact ⟨⟨_, rfl, rfl⟩, m0⟩ | trace_state
/-! ### the prime 2 ^ 61 - 1 -/
def P61 : Nat := 2305843009213693951
def pwm (p : Nat) : Nat → Nat → Nat → Nat
  | 0, _, _ => 1 % p
  | f + 1, b, e => if e = 0 then 1 % p else if e % 2 = 1 then pwm p f (b * b % p) (e / 2) * b % p else pwm p f (b * b % p) (e / 2)
theorem pwm_eq (p : Nat) : ∀ (f b e : Nat), e < 2 ^ f → pwm p f b e = b ^ e % p
  | 0, b, e, h => by
    have : e = 0 := by rw [Nat.pow_zero] at h; omega
    subst this; rw [pwm, Nat.pow_zero]
  | f + 1, b, e, h => by
    have hh : e / 2 < 2 ^ f := by rw [Nat.pow_succ] at h; omega
    have ih := pwm_eq p f (b * b % p) (e / 2) hh
    have h2 : (b * b % p) ^ (e / 2) % p = b ^ (2 * (e / 2)) % p := by
      rw [Nat.pow_mul, Nat.pow_two, ← Nat.pow_mod]
    rw [pwm]
    split
    · next h0 => subst h0; rw [Nat.pow_zero]
    · split
      · next h1 =>
        rw [ih, h2, Nat.mul_mod, Nat.mod_mod, ← Nat.mul_mod, ← Nat.pow_succ]
        congr 2; omega
      · next h1 =>
        rw [ih, h2]
        congr 2; omega
/-- an own pigeonhole -/
theorem pigeon : ∀ (m n : Nat) (f : Nat → Nat), (∀ i, i < n → f i < m) → (∀ i j, i < j → j < n → f i ≠ f j) → n ≤ m
  | 0, n, f, h1, _ => by
    cases n with
    | zero => exact Nat.le_refl 0
    | succ n => exact absurd (h1 0 (by omega)) (by omega)
  | m + 1, 0, f, _, _ => Nat.zero_le _
  | m + 1, n + 1, f, h1, h2 => by
    have ih := pigeon m n (fun i => if f n < f i then f i - 1 else f i)
      (fun i hi => by
        have a := h1 i (by omega)
        have b := h1 n (by omega)
        have c := h2 i n hi (by omega)
        try dsimp only
        split <;> omega)
      (fun i j hij hj => by
        have a := h2 i n (by omega) (by omega)
        have b := h2 j n (by omega) (by omega)
        have c := h2 i j hij (by omega)
        try dsimp only
        split <;> split <;> omega)
    omega
theorem pow_one_mod {g n r : Nat} (h : g ^ n % r = 1 % r) (q : Nat) : g ^ (n * q) % r = 1 % r := by
  rw [Nat.pow_mul, Nat.pow_mod, h, ← Nat.pow_mod, Nat.one_pow]
/-- the only numbers that 2 ^ 61 - 2 is a product of -/
def qs61 : List Nat := [2, 3, 3, 5, 5, 7, 11, 13, 31, 41, 61, 151, 331, 1321]
theorem div_small {q : Nat} (hq : (List.range (q + 1)).all (fun d => d < 2 || d == q || q % d != 0) = true) {d : Nat} (hd : d ∣ q) (h0 : 0 < q) : d = 1 ∨ d = q := by
  have hle := Nat.le_of_dvd h0 hd
  have := List.all_eq_true.mp hq d (List.mem_range.mpr (by omega))
  have hm : q % d = 0 := Nat.mod_eq_zero_of_dvd hd
  have hd0 : 0 < d := Nat.pos_of_dvd_of_pos hd h0
  simp only [Bool.or_eq_true, decide_eq_true_eq, beq_iff_eq, bne_iff_ne, ne_eq, hm, not_true_eq_false, or_false] at this
  omega
def prod : List Nat → Nat
  | [] => 1
  | a :: l => a * prod l
theorem some_div : ∀ (l : List Nat) (m : Nat), (∀ q ∈ l, 0 < q ∧ ∀ d, d ∣ q → d = 1 ∨ d = q) → m ∣ prod l → m ≠ 1 → ∃ q ∈ l, q ∣ m
  | [], m, _, h, h1 => absurd (Nat.dvd_one.mp h) h1
  | q :: l, m, hq, h, h1 => by
    rcases (hq q List.mem_cons_self).2 (Nat.gcd m q) (Nat.gcd_dvd_right m q) with hg | hg
    · obtain ⟨q', hm, hd⟩ := some_div l m (fun q' hm => hq q' (List.mem_cons_of_mem _ hm)) (Nat.Coprime.dvd_of_dvd_mul_left hg h) h1
      exact ⟨q', List.mem_cons_of_mem _ hm, hd⟩
    · exact ⟨q, List.mem_cons_self, by rw [← hg]; exact Nat.gcd_dvd_left m q⟩
theorem qs61_prime : ∀ q ∈ qs61, 0 < q ∧ ∀ d, d ∣ q → d = 1 ∨ d = q := by
  have h : ∀ q ∈ qs61, 0 < q ∧ (List.range (q + 1)).all (fun d => d < 2 || d == q || q % d != 0) = true := by
    have : qs61.all (fun q => decide (0 < q) && (List.range (q + 1)).all (fun d => d < 2 || d == q || q % d != 0)) = true := by decide +kernel
    intro q hq
    have := List.all_eq_true.mp this q hq
    rw [Bool.and_eq_true, decide_eq_true_eq] at this
    exact this
  exact fun q hq => ⟨(h q hq).1, fun d hd => div_small (h q hq).2 hd (h q hq).1⟩
theorem P61_gen : 37 ^ 2305843009213693950 % P61 = 1 := by
  rw [← pwm_eq P61 61 37 2305843009213693950 (by decide)]
  decide +kernel
theorem P61_not (q : Nat) (h : q ∈ qs61) : Nat.gcd (37 ^ (2305843009213693950 / q) % P61 - 1) P61 = 1 := by
  have hb : ∀ q, 2305843009213693950 / q < 2 ^ 61 := fun q => Nat.lt_of_le_of_lt (Nat.div_le_self _ q) (by decide)
  rw [← pwm_eq P61 61 37 _ (hb q)]
  have : qs61.all (fun q => Nat.gcd (pwm P61 61 37 (2305843009213693950 / q) - 1) P61 == 1) = true := by decide +kernel
  exact beq_iff_eq.mp (List.all_eq_true.mp this q h)
theorem least_pos (Q : Nat → Prop) : ∀ n, 0 < n → Q n → ∃ k, 0 < k ∧ Q k ∧ ∀ j, 0 < j → j < k → ¬ Q j := by
  intro n
  induction n using Nat.strongRecOn with
  | _ n ih =>
    intro h0 hn
    by_cases h : ∃ j, 0 < j ∧ j < n ∧ Q j
    · obtain ⟨j, a, b, c⟩ := h
      exact ih j b a c
    · exact ⟨n, h0, hn, fun j a b c => h ⟨j, a, b, c⟩⟩
theorem P61_prime {r : Nat} (hr : r ∣ P61) (h1 : r ≠ 1) : r = P61 := by
  have hP : 0 < P61 := by decide
  have hr0 : 0 < r := Nat.pos_of_dvd_of_pos hr hP
  have hr1 : 1 < r := by omega
  have h11 : 1 % r = 1 := Nat.mod_eq_of_lt hr1
  have hall : 37 ^ 2305843009213693950 % r = 1 % r := by
    rw [← Nat.mod_mod_of_dvd (37 ^ 2305843009213693950) hr, P61_gen]
  obtain ⟨n, hn0, hn, hmin⟩ := least_pos (fun n => 37 ^ n % r = 1 % r) 2305843009213693950 (by decide) hall
  have hdv : ∀ m, 37 ^ m % r = 1 % r → n ∣ m := by
    intro m hm
    have he : m = n * (m / n) + m % n := (Nat.div_add_mod m n).symm
    have h2 : 37 ^ (m % n) % r = 1 % r := by
      rw [he, Nat.pow_add, Nat.mul_mod, pow_one_mod hn, ← Nat.mul_mod, Nat.one_mul] at hm
      exact hm
    have hlt := Nat.mod_lt m hn0
    by_cases h0 : m % n = 0
    · exact Nat.dvd_of_mod_eq_zero h0
    · exact absurd h2 (hmin _ (by omega) hlt)
  obtain ⟨m, hm⟩ := hdv _ hall
  have hm1 : m = 1 := by
    refine Classical.byContradiction fun hne => ?_
    obtain ⟨q, hq, hqm⟩ := some_div qs61 m qs61_prime (by rw [show prod qs61 = 2305843009213693950 by decide +kernel, hm]; exact Nat.dvd_mul_left m n) hne
    obtain ⟨t, ht⟩ := hqm
    have hq0 := (qs61_prime q hq).1
    have hdq : 2305843009213693950 / q = n * t := by
      rw [hm, ht, show n * (q * t) = q * (n * t) by ac_rfl]
      exact Nat.mul_div_cancel_left _ hq0
    have hone : 37 ^ (2305843009213693950 / q) % r = 1 % r := by rw [hdq]; exact pow_one_mod hn t
    have hP1 : 0 < 37 ^ (2305843009213693950 / q) % P61 := by
      refine Nat.pos_of_ne_zero fun h0 => ?_
      rw [← Nat.mod_mod_of_dvd _ hr, h0, Nat.zero_mod, h11] at hone
      omega
    have hd1 : r ∣ 37 ^ (2305843009213693950 / q) % P61 - 1 := by
      rw [← Nat.mod_mod_of_dvd _ hr] at hone
      exact Nat.dvd_of_mod_eq_zero (Nat.sub_mod_eq_zero_of_mod_eq hone)
    have := Nat.dvd_gcd hd1 hr
    rw [P61_not q hq] at this
    exact h1 (Nat.dvd_one.mp this)
  rw [hm1, Nat.mul_one] at hm
  have hne0 : ∀ i, i < n → 37 ^ i % r ≠ 0 := by
    intro i hi h0
    have : 37 ^ n % r = 0 := by
      rw [show n = i + (n - i) by omega, Nat.pow_add, Nat.mul_mod, h0, Nat.zero_mul, Nat.zero_mod]
    rw [hn, h11] at this
    omega
  have := pigeon (r - 1) n (fun i => 37 ^ i % r - 1)
    (fun i hi => by
      have a := hne0 i hi
      have b := Nat.mod_lt (37 ^ i) hr0
      try dsimp only
      omega)
    (fun i j hij hj he => by
      have a := hne0 i (by omega)
      have b := hne0 j hj
      have e : 37 ^ i % r = 37 ^ j % r := by (try dsimp only at he); omega
      have h3 : 37 ^ (i + (n - i)) % r = 37 ^ (j + (n - i)) % r := by
        rw [Nat.pow_add, Nat.mul_mod, e, ← Nat.mul_mod, ← Nat.pow_add]
      rw [show i + (n - i) = n by omega, show j + (n - i) = n + (j - i) by omega, hn, Nat.pow_add, Nat.mul_mod, hn, ← Nat.mul_mod, Nat.one_mul] at h3
      exact hmin (j - i) (by omega) (by omega) h3.symm)
  have hle := Nat.le_of_dvd hP hr
  have : P61 = 2305843009213693951 := rfl
  omega
abbrev PZ : Int := 2305843009213693951
/-- what is divided by the prime without a rest -/
abbrev Dv (x : Int) : Prop := PZ ∣ x
theorem Dv.mulz {a b : Int} (h : Dv (a * b)) : Dv a ∨ Dv b := by
  have h1 : P61 ∣ a.natAbs * b.natAbs := by
    rw [← Int.natAbs_mul]; exact Int.natAbs_dvd_natAbs.mpr h
  by_cases hg : Nat.gcd P61 a.natAbs = 1
  · exact Or.inr (Int.natAbs_dvd_natAbs.mp (Nat.Coprime.dvd_of_dvd_mul_left hg h1))
  · have := P61_prime (Nat.gcd_dvd_left P61 a.natAbs) hg
    refine Or.inl (Int.natAbs_dvd_natAbs.mp ?_)
    show P61 ∣ a.natAbs
    rw [← this]; exact Nat.gcd_dvd_right _ _
/-! ### sums, and what they leave -/
def sm : Nat → (Nat → Int) → Int
  | 0, _ => 0
  | n + 1, f => sm n f + f n
theorem sm_congr : ∀ (n : Nat) {f g : Nat → Int}, (∀ i, i < n → f i = g i) → sm n f = sm n g
  | 0, _, _, _ => rfl
  | n + 1, f, g, h => by rw [sm, sm, sm_congr n (fun i hi => h i (by omega)), h n (by omega)]
theorem sm_add (f g : Nat → Int) : ∀ n, sm n (fun i => f i + g i) = sm n f + sm n g
  | 0 => rfl
  | n + 1 => by simp only [sm, sm_add f g n]; omega
theorem sm_mul (a : Int) (f : Nat → Int) : ∀ n, sm n (fun i => a * f i) = a * sm n f
  | 0 => by simp [sm]
  | n + 1 => by simp only [sm, sm_mul a f n, Int.mul_add]
theorem sm_zero : ∀ n, sm n (fun _ => 0) = 0
  | 0 => rfl
  | n + 1 => by simp [sm, sm_zero n]
theorem sm_swap (f : Nat → Nat → Int) (m : Nat) : ∀ n, sm n (fun i => sm m (fun j => f i j)) = sm m (fun j => sm n (fun i => f i j))
  | 0 => by simp only [sm]; rw [sm_zero]
  | n + 1 => by simp only [sm]; rw [sm_swap f m n, ← sm_add]
theorem sm_dv (f : Nat → Int) : ∀ n, (∀ i, i < n → Dv (f i)) → Dv (sm n f)
  | 0, _ => Int.dvd_zero PZ
  | n + 1, h => Int.dvd_add (sm_dv f n fun i hi => h i (by omega)) (h n (by omega))
theorem sm_nonneg (f : Nat → Int) : ∀ n, (∀ i, i < n → 0 ≤ f i) → 0 ≤ sm n f
  | 0, _ => Int.le_refl 0
  | n + 1, h => by
    have := sm_nonneg f n fun i hi => h i (by omega)
    have := h n (by omega)
    rw [sm]; omega
/-- the numbers but one -/
def skp (j i : Nat) : Nat := if i < j then i else i + 1
theorem sm_skip (f : Nat → Int) (j : Nat) : ∀ n, j ≤ n → sm (n + 1) f = f j + sm n (fun i => f (skp j i))
  | 0, h => by
    have : j = 0 := by omega
    subst this; simp [sm]
  | n + 1, h => by
    by_cases hj : j = n + 1
    · subst hj
      rw [sm, Int.add_comm]
      congr 1
      exact sm_congr _ fun i hi => by rw [skp, if_pos (by omega)]
    · rw [sm, sm_skip f j n (by omega)]
      rw [show sm (n + 1) (fun i => f (skp j i)) = sm n (fun i => f (skp j i)) + f (skp j n) from rfl]
      rw [show skp j n = n + 1 by rw [skp, if_neg (by omega)]]
      omega
/-- one more vectors than places depend on one another -/
theorem depend : ∀ (N : Nat) (v : Nat → Nat → Int), ∃ c : Nat → Int, (∃ i, i ≤ N ∧ ¬ Dv (c i)) ∧ ∀ x, x < N → Dv (sm (N + 1) fun i => c i * v i x)
  | 0, v => ⟨fun _ => 1, ⟨0, Nat.le_refl 0, by decide⟩, fun x hx => absurd hx (Nat.not_lt_zero x)⟩
  | N + 1, v => by
    by_cases hall : ∀ i, i ≤ N → Dv (v i N)
    · obtain ⟨c, ⟨i, hi, hc⟩, hs⟩ := depend N v
      refine ⟨fun k => if k ≤ N then c k else 0, ⟨i, by omega, by show ¬ Dv (if i ≤ N then c i else 0); rw [if_pos hi]; exact hc⟩, fun x hx => ?_⟩
      have e : sm (N + 1 + 1) (fun k => (if k ≤ N then c k else 0) * v k x) = sm (N + 1) (fun k => c k * v k x) := by
        rw [sm, if_neg (by omega), Int.zero_mul, Int.add_zero]
        exact sm_congr _ fun k hk => by rw [if_pos (by omega)]
      show Dv (sm (N + 1 + 1) fun k => (if k ≤ N then c k else 0) * v k x)
      rw [e]
      by_cases hx' : x < N
      · exact hs x hx'
      · have : x = N := by omega
        subst this
        exact sm_dv _ _ fun k hk => Int.dvd_mul_of_dvd_right (hall k (by omega))
    · obtain ⟨j, hj⟩ := Classical.not_forall.mp hall
      obtain ⟨hjN, hj⟩ := Classical.not_imp.mp hj
      obtain ⟨c, ⟨i, hi, hc⟩, hs⟩ := depend N fun i x => v j N * v (skp j i) x - v (skp j i) N * v j x
      let t : Int := sm (N + 1) fun i => c i * v (skp j i) N
      let d : Nat → Int := fun k => if k = j then - t else v j N * c (if k < j then k else k - 1)
      have dj : d j = - t := if_pos rfl
      have ds : ∀ i, d (skp j i) = v j N * c i := by
        intro i
        show (if skp j i = j then _ else _) = _
        unfold skp
        by_cases h : i < j
        · rw [if_pos h, if_neg (by omega), if_pos h]
        · rw [if_neg h, if_neg (by omega), if_neg (by omega)]; rfl
      have key : ∀ x, sm (N + 1 + 1) (fun k => d k * v k x) = sm (N + 1) (fun i => c i * (v j N * v (skp j i) x - v (skp j i) N * v j x)) := by
        intro x
        rw [sm_skip _ j (N + 1) (by omega), dj]
        have e1 : sm (N + 1) (fun i => d (skp j i) * v (skp j i) x) = sm (N + 1) (fun i => c i * (v j N * v (skp j i) x - v (skp j i) N * v j x) + v j x * (c i * v (skp j i) N)) :=
          sm_congr _ fun i _ => by rw [ds]; grind
        rw [e1, sm_add, sm_mul]
        show -t * v j x + (_ + v j x * t) = _
        grind
      refine ⟨d, ?_, fun x hx => ?_⟩
      · refine ⟨skp j i, by unfold skp; split <;> omega, ?_⟩
        rw [ds]
        intro h
        rcases h.mulz with h | h
        · exact hj h
        · exact hc h
      · show Dv (sm (N + 1 + 1) fun k => d k * v k x)
        rw [key x]
        by_cases hx' : x < N
        · exact hs x hx'
        · have : x = N := by omega
          subst this
          exact sm_dv _ _ fun k hk => by
            rw [show c k * (v j x * v (skp j k) x - v (skp j k) x * v j x) = 0 by grind]
            exact Int.dvd_zero PZ
/-- the greatest of some numbers below another -/
theorem last_such (Q : Nat → Prop) : ∀ n, (∃ i, i < n ∧ Q i) → ∃ i, i < n ∧ Q i ∧ ∀ k, i < k → k < n → ¬ Q k
  | 0, ⟨i, hi, _⟩ => absurd hi (Nat.not_lt_zero i)
  | n + 1, ⟨i, hi, hq⟩ => by
    by_cases hn : Q n
    · exact ⟨n, by omega, hn, fun k a b => by omega⟩
    · have : i ≠ n := fun h => hn (h ▸ hq)
      obtain ⟨k, a, b, c⟩ := last_such Q n ⟨i, by omega, hq⟩
      refine ⟨k, by omega, b, fun l d e => ?_⟩
      by_cases hl : l = n
      · subst hl; exact hn
      · exact c l d (by omega)
theorem sm_cut (f : Nat → Int) : ∀ (n k : Nat), k ≤ n → (∀ i, k ≤ i → i < n → Dv (f i)) → Dv (sm n f - sm k f)
  | 0, k, h, _ => by
    have : k = 0 := by omega
    subst this; simp
  | n + 1, k, h, hd => by
    by_cases hk : k = n + 1
    · subst hk; simp
    · have h1 := sm_cut f n k (by omega) fun i a b => hd i a (by omega)
      have h2 := hd n (by omega) (by omega)
      rw [show sm (n + 1) f - sm k f = (sm n f - sm k f) + f n by rw [sm]; omega]
      exact Int.dvd_add h1 h2
/-- a number that is no multiple of the prime has an inverse -/
theorem has_inverse {a : Int} (h : ¬ Dv a) : ∃ b, Dv (a * b - 1) := by
  have hg : Nat.gcd a.natAbs P61 = 1 := by
    refine Classical.byContradiction fun hg => ?_
    have := P61_prime (Nat.gcd_dvd_right a.natAbs P61) hg
    refine h (Int.natAbs_dvd_natAbs.mp ?_)
    show P61 ∣ a.natAbs
    rw [← this]; exact Nat.gcd_dvd_left _ _
  -- the rests of the multiples: one of them is 1
  have hP : 0 < P61 := by decide
  have hinj : ∀ i j, i < j → j < P61 → a.natAbs * i % P61 ≠ a.natAbs * j % P61 := by
    intro i j hij hj he
    have h1 : P61 ∣ a.natAbs * (j - i) := by
      rw [Nat.mul_sub]; exact Nat.dvd_of_mod_eq_zero (Nat.sub_mod_eq_zero_of_mod_eq he.symm)
    have h2 := Nat.Coprime.dvd_of_dvd_mul_left (Nat.Coprime.symm hg) h1
    exact absurd (Nat.le_of_dvd (by omega) h2) (by omega)
  have : ∃ i, i < P61 ∧ a.natAbs * i % P61 = 1 := by
    refine Classical.byContradiction fun hno => ?_
    have := pigeon (P61 - 1) P61 (fun i => if a.natAbs * i % P61 = 0 then 0 else a.natAbs * i % P61 - 1)
      (fun i hi => by
        have hlt := Nat.mod_lt (a.natAbs * i) hP
        have : P61 = 2305843009213693951 := rfl
        (try dsimp only)
        split <;> omega)
      (fun i j hij hj => by
        have h1 := hinj i j hij hj
        have n1 : a.natAbs * i % P61 ≠ 1 := fun h => hno ⟨i, by omega, h⟩
        have n2 : a.natAbs * j % P61 ≠ 1 := fun h => hno ⟨j, hj, h⟩
        (try dsimp only)
        split <;> split <;> omega)
    have hP' : P61 = 2305843009213693951 := rfl
    omega
  obtain ⟨i, _, hi⟩ := this
  have h1 : PZ ∣ (a.natAbs : Int) * (i : Int) - 1 := by
    have hd : P61 ∣ a.natAbs * i - 1 := Nat.dvd_of_mod_eq_zero (Nat.sub_mod_eq_zero_of_mod_eq (by rw [hi]; rfl))
    have hpos : 0 < a.natAbs * i := Nat.pos_of_ne_zero fun h0 => by rw [h0] at hi; simp at hi
    have := Int.natCast_dvd_natCast.mpr hd
    rw [Int.natCast_sub (by omega), Int.natCast_mul] at this
    exact this
  rcases Int.natAbs_eq a with ha | ha
  · exact ⟨i, by rw [ha]; exact h1⟩
  · exact ⟨-i, by rw [ha, Int.neg_mul_neg]; exact h1⟩
/-! ### recurrences -/
def dot : List Int → (Nat → Int) → Int
  | [], _ => 0
  | a :: c, f => a * f 0 + dot c fun i => f (i + 1)
theorem dot_append : ∀ (c d : List Int) (f : Nat → Int), dot (c ++ d) f = dot c f + dot d fun i => f (i + c.length)
  | [], d, f => by simp [dot]
  | a :: c, d, f => by
    simp only [List.cons_append, dot, dot_append c d, List.length_cons]
    rw [show (fun i => f (i + c.length + 1)) = (fun i => f (i + (c.length + 1))) from funext fun i => by rw [Nat.add_assoc]]
    omega
theorem dot_rep (f : Nat → Int) : ∀ n, dot (List.replicate n 0) f = 0
  | 0 => rfl
  | n + 1 => by rw [List.replicate_succ, dot, dot_rep]; simp
theorem dot_map (t : Int) : ∀ (c : List Int) (f : Nat → Int), dot (c.map fun x => t * x) f = t * dot c f
  | [], _ => by simp [dot]
  | a :: c, f => by rw [List.map_cons, dot, dot_map t c, dot]; grind
theorem dot_congr : ∀ (c : List Int) {f g : Nat → Int}, (∀ i, i < c.length → f i = g i) → dot c f = dot c g
  | [], _, _, _ => rfl
  | a :: c, f, g, h => by
    rw [dot, dot, h 0 (by simp), dot_congr c fun i hi => h (i + 1) (by simp; omega)]
theorem dot_sub : ∀ (c : List Int) (f g : Nat → Int), dot c (fun i => f i - g i) = dot c f - dot c g
  | [], _, _ => rfl
  | a :: c, f, g => by rw [dot, dot, dot, dot_sub c]; grind
theorem dot_mulf (t : Int) : ∀ (c : List Int) (f : Nat → Int), dot c (fun i => t * f i) = t * dot c f
  | [], _ => by simp [dot]
  | a :: c, f => by rw [dot, dot, dot_mulf t c]; grind
theorem dot_addf : ∀ (c : List Int) (f g : Nat → Int), dot c (fun i => f i + g i) = dot c f + dot c g
  | [], _, _ => rfl
  | a :: c, f, g => by rw [dot, dot, dot, dot_addf c]; grind
theorem dot_dv0 : ∀ (c : List Int) {f : Nat → Int}, (∀ i, i < c.length → Dv (f i)) → Dv (dot c f)
  | [], _, _ => Int.dvd_zero PZ
  | a :: c, f, h => Int.dvd_add (Int.dvd_mul_of_dvd_right (h 0 (by simp))) (dot_dv0 c fun i hi => h (i + 1) (by simp; omega))
theorem dot_dv (c : List Int) {f g : Nat → Int} (h : ∀ i, i < c.length → Dv (f i - g i)) : Dv (dot c f - dot c g) := by
  rw [← dot_sub]; exact dot_dv0 c h
theorem dot_swap (h : Nat → Nat → Int) (d : List Int) : ∀ c : List Int, dot c (fun i => dot d fun j => h i j) = dot d fun j => dot c fun i => h i j
  | [] => by
    simp only [dot]
    induction d with
    | nil => rfl
    | cons a d ih => rw [dot, ← ih]; simp
  | a :: c => by
    simp only [dot]
    rw [dot_swap (fun i j => h (i + 1) j) d c, dot_addf, dot_mulf]
theorem dot_range (g f : Nat → Int) : ∀ n, dot ((List.range n).map g) f = sm n fun j => g j * f j
  | 0 => rfl
  | n + 1 => by
    rw [List.range_succ, List.map_append, dot_append, dot_range g f n, sm]
    simp [dot]
theorem sm_rev (f : Nat → Int) : ∀ n, sm n f = sm n fun i => f (n - 1 - i)
  | 0 => rfl
  | n + 1 => by
    have h := sm_skip (fun i => f (n - i)) 0 n (Nat.zero_le n)
    rw [show n + 1 - 1 = n by omega, h, sm, sm_rev f n, Int.add_comm]
    rw [Nat.sub_zero]
    congr 1
    exact sm_congr _ fun i hi => by
      rw [show skp 0 i = i + 1 from if_neg (by omega)]
      congr 1; omega
/-- how far a sequence is from what a recurrence tells -/
def dis (c : List Int) (s : Nat → Int) (k : Nat) : Int := s k - dot c fun j => s (k - 1 - j)
def Rec (c : List Int) (s : Nat → Int) : Prop := ∀ k, c.length ≤ k → Dv (dis c s k)
/-- the first numbers of vectors that are led on by a matrix -/
theorem has_rec (N : Nat) (v M : Nat → Nat → Int) (hN : 0 < N) (hv : ∀ i x, x < N → v (i + 1) x = sm N fun y => M y x * v i y) : ∃ c : List Int, c.length ≤ N ∧ Rec c fun i => v i 0 := by
  obtain ⟨c, hex, hs⟩ := depend N v
  obtain ⟨K, hK, hc, hlast⟩ := last_such (fun i => ¬ Dv (c i)) (N + 1) (by obtain ⟨i, hi, h⟩ := hex; exact ⟨i, by omega, h⟩)
  obtain ⟨b, hb⟩ := has_inverse hc
  have h0 : ∀ x, x < N → Dv (v K x - sm K fun i => (-b * c i) * v i x) := by
    intro x hx
    have h1 := sm_cut (fun i => c i * v i x) (N + 1) (K + 1) (by omega) fun i a bb => Int.dvd_mul_of_dvd_left (Classical.not_not.mp (hlast i (by omega) bb))
    have h2 : Dv (sm (K + 1) fun i => c i * v i x) := by
      have := Int.dvd_sub (hs x hx) h1
      rwa [show ∀ a b : Int, a - (a - b) = b by intros; omega] at this
    have h3 := Int.dvd_mul_of_dvd_right (b := b) h2
    have h4 := Int.dvd_mul_of_dvd_left (c := v K x) hb
    have e : sm K (fun i => (-b * c i) * v i x) = -b * sm K fun i => c i * v i x := by
      rw [← sm_mul]; exact sm_congr _ fun i _ => by grind
    rw [e]
    have := Int.dvd_sub h3 h4
    rw [show sm (K + 1) (fun i => c i * v i x) = sm K (fun i => c i * v i x) + c K * v K x from rfl] at this
    rwa [show ∀ S : Int, b * (S + c K * v K x) - (c K * b - 1) * v K x = v K x - -b * S by intro S; grind] at this
  have hk : ∀ k x, x < N → Dv (v (K + k) x - sm K fun i => (-b * c i) * v (i + k) x) := by
    intro k
    induction k with
    | zero => exact h0
    | succ k ih =>
      intro x hx
      have e2 : ∀ i, v (i + (k + 1)) x = sm N fun y => M y x * v (i + k) y := fun i => hv (i + k) x hx
      rw [e2 K, sm_congr K (g := fun i => sm N fun y => (-b * c i) * (M y x * v (i + k) y)) (fun i _ => by rw [e2 i, sm_mul]), sm_swap]
      have e3 : (sm N fun y => M y x * v (K + k) y) - (sm N fun y => sm K fun i => (-b * c i) * (M y x * v (i + k) y)) = sm N fun y => M y x * (v (K + k) y - sm K fun i => (-b * c i) * v (i + k) y) := by
        have e4 : ∀ y, M y x * (v (K + k) y - sm K fun i => (-b * c i) * v (i + k) y) = M y x * v (K + k) y + -1 * sm K fun i => (-b * c i) * (M y x * v (i + k) y) := by
          intro y
          have : (sm K fun i => (-b * c i) * (M y x * v (i + k) y)) = M y x * sm K fun i => (-b * c i) * v (i + k) y := by
            rw [← sm_mul]; exact sm_congr _ fun i _ => by grind
          rw [this]; grind
        rw [sm_congr N (fun y _ => e4 y), sm_add, sm_mul]; omega
      rw [e3]
      exact sm_dv _ _ fun y hy => Int.dvd_mul_of_dvd_right (ih y hy)
  refine ⟨(List.range K).map fun j => -b * c (K - 1 - j), by simp; omega, fun k hkl => ?_⟩
  rw [List.length_map, List.length_range] at hkl
  have := hk (k - K) 0 hN
  rw [show K + (k - K) = k by omega] at this
  unfold dis
  rw [dot_range]
  rw [sm_rev] at this
  rw [sm_congr K (g := fun i => (-b * c (K - 1 - i)) * v (K - 1 - i + (k - K)) 0) (fun i hi => by rw [show k - 1 - i = K - 1 - i + (k - K) by omega])]
  exact this
/-- what a recurrence leaves out goes on by any true recurrence -/
theorem dis_go {c : List Int} {s : Nat → Int} (hc : Rec c s) (b : List Int) {k : Nat} (hk : c.length + b.length ≤ k) : Dv (dis b s k - dot c fun i => dis b s (k - 1 - i)) := by
  have h1 := hc k (by omega)
  have h2 : Dv (dot b (fun j => s (k - 1 - j)) - dot b fun j => dot c fun i => s (k - 1 - j - 1 - i)) := dot_dv b fun j hj => hc (k - 1 - j) (by omega)
  have e : dot c (fun i => dis b s (k - 1 - i)) = dot c (fun i => s (k - 1 - i)) - dot b fun j => dot c fun i => s (k - 1 - j - 1 - i) := by
    unfold dis
    rw [dot_sub, dot_swap]
    congr 1
    exact dot_congr _ fun j hj => dot_congr _ fun i hi => by congr 1; omega
  rw [e]
  have := Int.dvd_sub h1 h2
  unfold dis at this ⊢
  rwa [show ∀ A B C D : Int, A - B - (C - D) = A - C - (B - D) by intros; omega] at this
theorem stays {c : List Int} {s : Nat → Int} (hc : Rec c s) (b : List Int) (m : Nat) (hb : b.length ≤ m) (hz : ∀ k, m ≤ k → k < m + c.length → Dv (dis b s k)) : ∀ k, m ≤ k → Dv (dis b s k) := by
  intro k
  induction k using Nat.strongRecOn with
  | _ k ih =>
    intro hk
    by_cases hlt : k < m + c.length
    · exact hz k hk hlt
    · have h1 := dis_go hc b (k := k) (by omega)
      have h2 : Dv (dot c fun i => dis b s (k - 1 - i)) := dot_dv0 c fun i hi => ih (k - 1 - i) (by omega) (by omega)
      have := Int.dvd_add h1 h2
      rwa [Int.sub_add_cancel] at this
theorem massey {c : List Int} {s : Nat → Int} (hc : Rec c s) (b : List Int) {n : Nat} (hz : ∀ k, b.length ≤ k → k < n → Dv (dis b s k)) (hn : ¬ Dv (dis b s n)) : n < c.length + b.length := by
  refine Classical.byContradiction fun hlt => hn ?_
  have h1 := dis_go hc b (k := n) (by omega)
  have h2 : Dv (dot c fun i => dis b s (n - 1 - i)) := dot_dv0 c fun i hi => hz (n - 1 - i) (by omega) (by omega)
  have := Int.dvd_add h1 h2
  rwa [Int.sub_add_cancel] at this
/-! ### the shortest recurrence -/
def padL (c : List Int) (m : Nat) : List Int := c ++ List.replicate (m - c.length) 0
def addL : List Int → List Int → List Int
  | a :: c, b :: d => ((a + b) % PZ) :: addL c d
  | _, _ => []
def sumL (a b : List Int) : List Int := addL (padL a (max a.length b.length)) (padL b (max a.length b.length))
theorem padL_len {c : List Int} {m : Nat} (h : c.length ≤ m) : (padL c m).length = m := by simp [padL]; omega
theorem dot_pad (c : List Int) (m : Nat) (f : Nat → Int) : dot (padL c m) f = dot c f := by rw [padL, dot_append, dot_rep, Int.add_zero]
theorem addL_len : ∀ (a b : List Int), a.length = b.length → (addL a b).length = a.length
  | [], [], _ => rfl
  | _ :: a, _ :: b, h => by rw [addL, List.length_cons, List.length_cons, addL_len a b (by simpa using h)]
theorem sumL_len (a b : List Int) : (sumL a b).length = max a.length b.length := by
  rw [sumL, addL_len _ _ (by rw [padL_len (by omega), padL_len (by omega)]), padL_len (by omega)]
def Few (c : List Int) : Prop := ∀ x ∈ c, 0 ≤ x ∧ x < PZ
theorem modP (x : Int) : 0 ≤ x % PZ ∧ x % PZ < PZ := ⟨Int.emod_nonneg x (by decide), Int.emod_lt_of_pos x (by decide)⟩
theorem addL_few : ∀ (a b : List Int), Few (addL a b)
  | [], b => by intro x hx; cases b <;> exact absurd hx List.not_mem_nil
  | _ :: _, [] => by intro x hx; exact absurd hx List.not_mem_nil
  | a :: c, b :: d => by
    intro x hx
    rw [addL, List.mem_cons] at hx
    rcases hx with rfl | hx
    · exact modP _
    · exact addL_few c d x hx
theorem sumL_few (a b : List Int) : Few (sumL a b) := addL_few _ _
theorem mod_dv (x : Int) : Dv (x % PZ - x) := by
  have := Int.mul_ediv_add_emod x PZ
  exact ⟨-(x / PZ), by rw [Int.mul_neg]; omega⟩
theorem addL_dot : ∀ (a b : List Int) (f : Nat → Int), a.length = b.length → Dv (dot (addL a b) f - (dot a f + dot b f))
  | [], [], f, _ => by simp [addL, dot]
  | a :: c, b :: d, f, h => by
    have ih := addL_dot c d (fun i => f (i + 1)) (by simpa using h)
    have h1 := Int.dvd_mul_of_dvd_left (c := f 0) (mod_dv (a + b))
    have := Int.dvd_add h1 ih
    rw [addL, dot, dot, dot]
    rwa [show ∀ A B C : Int, ((a + b) % PZ - (a + b)) * f 0 + (A - (B + C)) = (a + b) % PZ * f 0 + A - (a * f 0 + B + (b * f 0 + C)) by intros; grind] at this
theorem sumL_dot (a b : List Int) (f : Nat → Int) : Dv (dot (sumL a b) f - (dot a f + dot b f)) := by
  have := addL_dot (padL a (max a.length b.length)) (padL b (max a.length b.length)) f (by rw [padL_len (by omega), padL_len (by omega)])
  rwa [dot_pad, dot_pad] at this
structure BmI (s : Nat → Int) (N n : Nat) (now failed : List Int) (q : Nat) (gap : Int) : Prop where
  len : now.length + failed.length = q
  qn : q ≤ n
  pos : q = 0 ∨ 0 < now.length
  good : ∀ k, now.length ≤ k → k < n → Dv (dis now s k)
  old : ∀ k, failed.length ≤ k → k + 1 < q → Dv (dis failed s k)
  gapd : q ≠ 0 → Dv (dis failed s (q - 1) - gap)
  gap0 : 0 < gap ∧ gap < PZ
  leN : now.length ≤ N
  few : Few now
  fewf : Few failed
theorem bm_start (s : Nat → Int) (N : Nat) : BmI s N 0 [] [] 0 1 :=
  ⟨rfl, Nat.le_refl 0, Or.inl rfl, fun k _ h => absurd h (Nat.not_lt_zero k), fun k _ h => absurd h (by omega), fun h => absurd rfl h, by decide, Nat.zero_le N, fun x h => absurd h List.not_mem_nil, fun x h => absurd h List.not_mem_nil⟩
theorem bm_keep {s : Nat → Int} {N n : Nat} {now failed : List Int} {q : Nat} {gap : Int} (h : BmI s N n now failed q gap) (h0 : dis now s n % PZ = 0) : BmI s N (n + 1) now failed q gap :=
  { h with
    qn := by have := h.qn; omega
    good := fun k a b => by
      by_cases hk : k = n
      · subst hk; exact Int.dvd_of_emod_eq_zero h0
      · exact h.good k a (by omega) }
def mendL (n q : Nat) (often : Int) (failed : List Int) : List Int := List.replicate (n - q) 0 ++ [often] ++ failed.map fun x => -often * x
theorem mendL_len (n q : Nat) (often : Int) (failed : List Int) : (mendL n q often failed).length = n - q + 1 + failed.length := by simp [mendL]; omega
theorem bm_mend {s : Nat → Int} {N n : Nat} {now failed : List Int} {q : Nat} {gap often : Int} (h : BmI s N n now failed q gap) (ho : Dv (often * gap - dis now s n)) {k : Nat} (hk : (sumL now (mendL n q often failed)).length ≤ k) (hkn : k ≤ n) : Dv (dis (sumL now (mendL n q often failed)) s k) := by
  have hl := h.len
  have hqn := h.qn
  rw [sumL_len, mendL_len] at hk
  have hq0 : q ≠ 0 := by intro h0; omega
  have h1 := sumL_dot now (mendL n q often failed) fun j => s (k - 1 - j)
  have e : dot (mendL n q often failed) (fun j => s (k - 1 - j)) = often * dis failed s (k - 1 - (n - q)) := by
    rw [mendL, List.append_assoc, dot_append, dot_rep, dot_append, dot_map]
    simp only [dot, List.length_replicate, List.length_cons, List.length_nil, dis]
    rw [show (0 + (n - q)) = n - q by omega]
    rw [dot_congr failed (f := fun i => s (k - 1 - (i + (0 + 1) + (n - q)))) (g := fun j => s (k - 1 - (n - q) - 1 - j)) (fun i hi => by congr 1; omega)]
    grind
  rw [e] at h1
  have hd : Dv (often * dis failed s (k - 1 - (n - q)) - dis now s k) := by
    by_cases hkk : k = n
    · subst hkk
      rw [show k - 1 - (k - q) = q - 1 by omega]
      have := Int.dvd_add (Int.dvd_mul_of_dvd_right (b := often) (h.gapd hq0)) ho
      rwa [show often * (dis failed s (q - 1) - gap) + (often * gap - dis now s k) = often * dis failed s (q - 1) - dis now s k by grind] at this
    · exact Int.dvd_sub (Int.dvd_mul_of_dvd_right (h.old _ (by omega) (by omega))) (h.good k (by omega) (by omega))
  have := Int.dvd_add h1 hd
  have := Int.dvd_neg.mpr this
  unfold dis at this ⊢
  rwa [show ∀ A B C D : Int, -(A - (B + C) + (C - (D - B))) = D - A by intros; omega] at this
theorem bm_grow {c : List Int} {s : Nat → Int} (hc : Rec c s) {N n : Nat} (hcN : c.length ≤ N) {now failed : List Int} {q : Nat} {gap often : Int} (h : BmI s N n now failed q gap) (h0 : dis now s n % PZ ≠ 0) (ho : Dv (often * gap - dis now s n)) :
    (now.length < (sumL now (mendL n q often failed)).length → BmI s N (n + 1) (sumL now (mendL n q often failed)) now (n + 1) (dis now s n % PZ))
    ∧ (¬ now.length < (sumL now (mendL n q often failed)).length → BmI s N (n + 1) (sumL now (mendL n q often failed)) failed q gap) := by
  have hl := h.len
  have hqn := h.qn
  have hm := massey hc now h.good fun hd => h0 (Int.emod_eq_zero_of_dvd hd)
  have hgood : ∀ k, (sumL now (mendL n q often failed)).length ≤ k → k < n + 1 → Dv (dis (sumL now (mendL n q often failed)) s k) := fun k a b => bm_mend h ho a (by omega)
  have hlen : (sumL now (mendL n q often failed)).length = max now.length (n - q + 1 + failed.length) := by rw [sumL_len, mendL_len]
  have hp := modP (dis now s n)
  have hN := h.leN
  refine ⟨fun hlt => ?_, fun hge => ?_⟩
  · exact { len := by omega, qn := Nat.le_refl _, pos := Or.inr (by omega), good := hgood, old := fun k a b => h.good k a (by omega),
            gapd := fun _ => by
              have := Int.dvd_neg.mpr (mod_dv (dis now s n))
              rwa [Int.neg_sub] at this,
            gap0 := ⟨by omega, hp.2⟩, leN := by omega, few := sumL_few _ _, fewf := h.few }
  · exact { h with len := by omega, qn := by omega, pos := by have := h.pos; omega, good := hgood, leN := by omega, few := sumL_few _ _ }
/-- the recurrence that is found is a recurrence for all terms -/
theorem bm_end {c : List Int} {s : Nat → Int} (hc : Rec c s) {N : Nat} (hcN : c.length ≤ N) {now failed : List Int} {q : Nat} {gap : Int} (h : BmI s N (2 * N) now failed q gap) : Rec now s := by
  have := h.leN
  exact stays hc now now.length (Nat.le_refl _) fun k a b => h.good k a (by omega)
/-! ### shares -/
def Shr (s : Nat → Int) (L : Nat) (sh : List Int) (m : Nat) : Prop := sh.length = L ∧ Few sh ∧ ∀ k, Dv (s (m + k) - dot sh fun i => s (i + k))
theorem shr_start (s : Nat → Int) {L : Nat} (hL : 0 < L) : Shr s L ([1] ++ List.replicate (L - 1) 0) 0 := by
  refine ⟨by simp; omega, ?_, fun k => ?_⟩
  · intro x hx
    rw [List.mem_append, List.mem_singleton, List.mem_replicate] at hx
    rcases hx with rfl | ⟨_, rfl⟩ <;> decide
  · rw [dot_append, dot_rep]
    simp [dot]
theorem dot_reverse : ∀ (c : List Int) (f : Nat → Int), dot c.reverse f = dot c fun i => f (c.length - 1 - i)
  | [], _ => rfl
  | a :: c, f => by
    rw [List.reverse_cons, dot_append, dot_reverse c, List.length_reverse]
    simp only [dot, List.length_cons, Int.add_zero]
    rw [Int.add_comm]
    rw [show 0 + c.length = c.length + 1 - 1 - 0 by omega]
    congr 1
    exact dot_congr _ fun i hi => by congr 1; omega
def oneOn (sh rc : List Int) (t : Int) : List Int := sumL ([0] ++ sh.dropLast) (rc.reverse.map fun x => t * x)
theorem shr_one {s : Nat → Int} {rc sh : List Int} {m : Nat} {t : Int} (hr : Rec rc s) (h : Shr s rc.length sh m) (ht : sh.getLast? = some t) : Shr s rc.length (oneOn sh rc t) (m + 1) := by
  obtain ⟨hl, hf, hs⟩ := h
  have h0 : 0 < sh.length := by
    cases sh with
    | nil => simp at ht
    | cons a l => simp
  refine ⟨by rw [oneOn, sumL_len]; simp; omega, sumL_few _ _, fun k => ?_⟩
  have h1 := sumL_dot ([0] ++ sh.dropLast) (rc.reverse.map fun x => t * x) fun i => s (i + k)
  rw [dot_map, dot_reverse] at h1
  have e : dot ([0] ++ sh.dropLast) (fun i => s (i + k)) = dot sh.dropLast fun i => s (i + (k + 1)) := by
    rw [dot_append]; simp only [dot, Int.zero_mul, Int.zero_add, List.length_singleton]
    exact dot_congr _ fun i _ => by congr 1; omega
  have e2 : dot sh (fun i => s (i + (k + 1))) = dot sh.dropLast (fun i => s (i + (k + 1))) + t * s (sh.length - 1 + (k + 1)) := by
    have hsh : sh = sh.dropLast ++ [t] := by
      rw [List.getLast?_eq_some_iff] at ht
      obtain ⟨l, rfl⟩ := ht
      simp
    conv => lhs; rw [hsh, dot_append]
    simp only [dot, List.length_dropLast]
    rw [show 0 + (sh.length - 1) + (k + 1) = sh.length - 1 + (k + 1) by omega]
    omega
  have h2 := hs (k + 1)
  rw [e2] at h2
  have h3 := Int.dvd_mul_of_dvd_right (b := t) (hr (rc.length + k) (by omega))
  unfold dis at h3
  rw [e] at h1
  rw [dot_congr rc (f := fun i => s (rc.length - 1 - i + k)) (g := fun j => s (rc.length + k - 1 - j)) (fun i hi => by congr 1; omega)] at h1
  rw [show sh.length - 1 + (k + 1) = rc.length + k by omega] at h2
  rw [show m + 1 + k = m + (k + 1) by omega]
  have := Int.dvd_add (Int.dvd_sub h2 h1) h3
  unfold oneOn
  rwa [show ∀ S A U V R : Int, S - (A + t * U) - (R - (A + t * V)) + t * (U - V) = S - R by intros; grind] at this
/-- one number more of a list of sums -/
theorem dot_set : ∀ (c : List Int) (i : Nat) (x y : Int) (f : Nat → Int), c[i]? = some x → dot (c.set i (x + y)) f = dot c f + y * f i
  | [], i, _, _, _, h => by simp at h
  | a :: c, 0, x, y, f, h => by
    have : a = x := by simpa using h
    subst this
    rw [List.set_cons_zero, dot, dot]; grind
  | a :: c, i + 1, x, y, f, h => by
    rw [List.set_cons_succ, dot, dot, dot_set c i x y _ (by simpa using h)]; omega
theorem take_set (c : List Int) (i n : Nat) (x : Int) (h : i < n) : (c.set i x).take n = (c.take n).set i x := by
  rw [List.take_set]
/-- the sums of products -/
def PrI (sh : List Int) (one two : Nat) (sums : List Int) : Prop := sums.length = 2 * sh.length ∧ ∀ g : Nat → Int, dot sums g = dot (sh.take one) (fun i => dot sh fun j => g (i + j)) + (sh[one]?.getD 0) * dot (sh.take two) fun j => g (one + j)
theorem pr_start (sh : List Int) : PrI sh 0 0 (List.replicate (2 * sh.length) 0) := ⟨by simp, fun g => by rw [dot_rep]; simp [dot]⟩
theorem take_dot (c : List Int) {i : Nat} {x : Int} (h : c[i]? = some x) (f : Nat → Int) : dot (c.take (i + 1)) f = dot (c.take i) f + x * f i := by
  have hl := (List.getElem?_eq_some_iff.mp h).1
  rw [List.take_add_one, h, dot_append, List.length_take, Nat.min_eq_left (by omega)]
  simp [dot]
theorem pr_turn {sh sums : List Int} {one two : Nat} {a b x : Int} (h : PrI sh one two sums) (ha : sh[one]? = some a) (hb : sh[two]? = some b) (hx : sums[one + two]? = some x) : PrI sh one (two + 1) (sums.set (one + two) (x + a * b)) := by
  refine ⟨by rw [List.length_set]; exact h.1, fun g => ?_⟩
  rw [dot_set sums _ x _ g hx, h.2 g, take_dot sh hb, ha]
  simp only [Option.getD_some]; grind
theorem pr_row {sh sums : List Int} {one : Nat} {a : Int} (h : PrI sh one sh.length sums) (ha : sh[one]? = some a) : PrI sh (one + 1) 0 sums := by
  refine ⟨h.1, fun g => ?_⟩
  rw [h.2 g, take_dot sh ha, ha, List.take_length]
  simp [dot]
/-- the sums with their ends taken back -/
def RdI (s : Nat → Int) (M i : Nat) (sums : List Int) : Prop := i ≤ sums.length ∧ ∀ k, Dv (s (M + k) - dot (sums.take i) fun j => s (j + k))
theorem rd_start {s : Nat → Int} {L m : Nat} {sh sums : List Int} (h : Shr s L sh m) (hp : PrI sh L 0 sums) : RdI s (m + m) (2 * L) sums := by
  obtain ⟨hl, hf, hs⟩ := h
  refine ⟨by rw [hp.1, hl]; exact Nat.le_refl _, fun k => ?_⟩
  have hpl := hp.1
  rw [List.take_of_length_le (by omega), hp.2, List.take_of_length_le (by omega)]
  rw [List.take_zero]
  simp only [dot, Int.mul_zero, Int.add_zero]
  have h1 := hs (m + k)
  have h2 : Dv (dot sh (fun i => s (i + (m + k))) - dot sh fun i => dot sh fun j => s (i + j + k)) := dot_dv sh fun i hi => by
    have := hs (i + k)
    rw [show m + (i + k) = i + (m + k) by omega] at this
    rwa [dot_congr sh (f := fun j => s (j + (i + k))) (g := fun j => s (i + j + k)) (fun j _ => by congr 1; omega)] at this
  have := Int.dvd_add h1 h2
  rw [show m + m + k = m + (m + k) by omega]
  rwa [show ∀ A B C : Int, A - B + (B - C) = A - C by intros; omega] at this
/-- one end taken back, up to a place of the recurrence -/
def TkI (s : Nat → Int) (rc : List Int) (M i b : Nat) (top : Int) (sums : List Int) : Prop := i < sums.length ∧ ∀ k, Dv (s (M + k) - dot (sums.take i) (fun j => s (j + k)) - top * dot (rc.drop b) fun j => s (i - 1 - (j + b) + k))
theorem tk_start {s : Nat → Int} {rc : List Int} (hr : Rec rc s) {M i : Nat} {x : Int} {sums : List Int} (h : RdI s M (i + 1) sums) (hi : rc.length ≤ i) (hx : sums[i]? = some x) : TkI s rc M i 0 (x % PZ) sums := by
  refine ⟨by have := h.1; omega, fun k => ?_⟩
  have h1 := h.2 k
  rw [take_dot sums hx] at h1
  have h2 := Int.dvd_mul_of_dvd_right (b := x % PZ) (hr (i + k) (by omega))
  unfold dis at h2
  have h3 := Int.dvd_mul_of_dvd_left (c := s (i + k)) (mod_dv x)
  rw [List.drop_zero]
  rw [dot_congr rc (f := fun j => s (i - 1 - (j + 0) + k)) (g := fun j => s (i + k - 1 - j)) (fun j hj => by congr 1; omega)]
  have := Int.dvd_add (Int.dvd_sub h1 h3) h2
  rwa [show ∀ A B C D : Int, A - (B + x * C) - (x % PZ - x) * C + x % PZ * (C - D) = A - B - x % PZ * D by intros; grind] at this
theorem tk_turn {s : Nat → Int} {rc : List Int} {M i b : Nat} {top x r : Int} {sums : List Int} (h : TkI s rc M i b top sums) (hb : rc[b]? = some r) (hi : rc.length ≤ i) (hx : sums[i - 1 - b]? = some x) : TkI s rc M i (b + 1) top (sums.set (i - 1 - b) (x + top * r)) := by
  have hl := (List.getElem?_eq_some_iff.mp hb).1
  refine ⟨by rw [List.length_set]; exact h.1, fun k => ?_⟩
  have h1 := h.2 k
  rw [List.drop_eq_getElem_cons hl, dot, ← Option.some.inj (hb.symm.trans (List.getElem?_eq_getElem hl))] at h1
  rw [take_set _ _ _ _ (by omega), dot_set _ _ x _ _ (by rw [List.getElem?_take_of_lt (by omega)]; exact hx)]
  rw [dot_congr _ (f := fun j => s (i - 1 - (j + (b + 1)) + k)) (g := fun j => s (i - 1 - (j + 1 + b) + k)) (fun j _ => by congr 1; omega)]
  rw [show i - 1 - (0 + b) + k = i - 1 - b + k by omega] at h1
  rwa [show ∀ A B C D : Int, A - B - top * (r * C + D) = A - (B + top * r * C) - top * D by intros; grind] at h1
theorem tk_end {s : Nat → Int} {rc : List Int} {M i : Nat} {top : Int} {sums : List Int} (h : TkI s rc M i rc.length top sums) : RdI s M i sums := by
  refine ⟨by have := h.1; omega, fun k => ?_⟩
  have h1 := h.2 k
  rw [List.drop_length] at h1
  simpa [dot] using h1
theorem rd_end {s : Nat → Int} {M L : Nat} {sums : List Int} (h : RdI s M L sums) : Shr s L ((sums.take L).map fun x => x % PZ) M := by
  have hl := h.1
  refine ⟨by simp; omega, ?_, fun k => ?_⟩
  · intro x hx
    obtain ⟨y, _, rfl⟩ := List.mem_map.mp hx
    exact modP y
  · have h1 := h.2 k
    have h2 : ∀ (c : List Int) (f : Nat → Int), Dv (dot (c.map fun x => x % PZ) f - dot c f) := by
      intro c
      induction c with
      | nil => intro f; simp [dot]
      | cons a c ih =>
        intro f
        rw [List.map_cons, dot, dot]
        have := Int.dvd_add (Int.dvd_mul_of_dvd_left (c := f 0) (mod_dv a)) (ih fun i => f (i + 1))
        rwa [show ∀ A B : Int, (a % PZ - a) * f 0 + (A - B) = a % PZ * f 0 + A - (a * f 0 + B) by intros; grind] at this
    have := Int.dvd_sub h1 (h2 (sums.take L) fun j => s (j + k))
    rwa [show ∀ A B C : Int, A - B - (C - B) = A - C by intros; omega] at this
/-! ### inverses -/
theorem not_dv {a : Int} (h0 : 0 < a) (h1 : a < PZ) : ¬ Dv a := fun h => by
  have := Int.le_of_dvd h0 h
  omega
noncomputable def inv61 (a : Int) : Int := if h : ¬ Dv a then (Classical.choose (has_inverse h)) % PZ else 0
theorem inv61_few (a : Int) : 0 ≤ inv61 a ∧ inv61 a < PZ := by
  unfold inv61
  split
  · exact modP _
  · decide
theorem inv61_dv {a : Int} (h : ¬ Dv a) : Dv (a * inv61 a - 1) := by
  unfold inv61
  rw [dif_pos h]
  have h1 := Classical.choose_spec (has_inverse h)
  have h2 := Int.dvd_mul_of_dvd_right (b := a) (mod_dv (Classical.choose (has_inverse h)))
  have := Int.dvd_add h1 h2
  rwa [show ∀ A B : Int, a * A - 1 + a * (B - A) = a * B - 1 by intros; grind] at this
theorem inv61_uniq {a b : Int} (h : ¬ Dv a) (hb : Dv (b * a - 1)) : b % PZ = inv61 a := by
  have h1 := Int.dvd_sub hb (inv61_dv h)
  rw [show b * a - 1 - (a * inv61 a - 1) = a * (b - inv61 a) by grind] at h1
  rcases Dv.mulz h1 with h2 | h2
  · exact absurd h2 h
  · have h3 := Int.emod_emod_of_dvd b (Int.dvd_refl PZ)
    have h4 := inv61_few a
    have h5 : b % PZ = inv61 a % PZ := Int.emod_eq_emod_iff_emod_sub_eq_zero.mpr (Int.emod_eq_zero_of_dvd h2)
    rw [h5, Int.emod_eq_of_lt h4.1 h4.2]
def R_inverse (ds : List PyData) (o : DOut) : Prop := ∃ a : Int, ds = [.int a, .int PZ] ∧ 0 < a ∧ a < PZ ∧ o = .ok (.int (inv61 a))
theorem gcd_step {L s : Nat} (h : Nat.gcd L s = 1) : Nat.gcd s (L % s) = 1 := by
  rw [Nat.gcd_comm, ← Nat.gcd_rec, Nat.gcd_comm]; exact h
theorem gcd_prime {a : Int} (h0 : 0 < a) (h1 : a < PZ) : Nat.gcd P61 a.toNat = 1 := by
  refine Classical.byContradiction fun hg => ?_
  have := P61_prime (Nat.gcd_dvd_left P61 a.toNat) hg
  have h2 : P61 ∣ a.toNat := by rw [← this]; exact Nat.gcd_dvd_right _ _
  have h3 := Nat.le_of_dvd (by omega) h2
  have : (P61 : Int) = PZ := rfl
  omega
theorem ok_inverse {P : Program} {w : World} {K : Fg} {mg : Str → Option Value} {base : Heap} {f : Addr} {fd : FuncData} (F : Fun K "inverse" "inverse" s_inverse f fd) :
    FnOk P w K mg base (L2.CX P w) 1 f fd ["number", "size"] (spD K 2 R_inverse) := by
  refine F.okX sc_inverse (fun vs H Q E h => len_D h) (fun cdv A outer s H vs Q E hr h => ⟨_, (pss_cons (ps_asg (pe_tup (pa_cons pe_int (pa_cons pe_int pa_nil))) (pg_tup rfl (pgs_cons (pg_name (i := 2) sc_inverse.nd rfl (by first | exact Or.inl rfl | exact Or.inr rfl)) (pgs_cons (pg_name (i := 3) sc_inverse.nd rfl (by first | exact Or.inl rfl | exact Or.inr rfl)) pgs_nil))))
      (pss_cons (ps_par (i := 4) (j := 5) rfl sc_inverse.nd rfl rfl (by decide) rfl rfl (pa_cons (pv 1) (pa_cons (pe_op op_mod (pv 0) (pv 1)) pa_nil)) (by rfl))
      (pss_cons (ps_while (passes_of rfl) (pt_cmpR (op_neA hr.units) (pv 5) pe_int (nomark _)) (pss_cons (ps_set (i := 6) sc_inverse.nd rfl (by first | exact Or.inl rfl | exact Or.inr rfl) (pe_op op_fdivW (pv 4) (pv 5)))
      (pss_cons (ps_par (i := 4) (j := 5) rfl sc_inverse.nd rfl rfl (by decide) rfl rfl (pa_cons (pv 5) (pa_cons (pe_op op_sub (pv 4) (pe_op op_mul (pv 6) (pv 5))) pa_nil)) (by rfl))
      (pss_one (ps_par (i := 2) (j := 3) rfl sc_inverse.nd rfl rfl (by decide) rfl rfl (pa_cons (pv 3) (pa_cons (pe_op op_sub (pv 2) (pe_op op_mul (pv 6) (pv 3))) pa_nil)) (by rfl))))))
      (pss_one (ps_ret (pe_op op_mod (pv 2) (pv 1))))))),
    fn_D h fun ds o hk hR => ?_⟩)
  try dsimp only [L2.cxOf]
  obtain ⟨a, rfl, h0, h1, rfl⟩ := hR
  have hnd := not_dv h0 h1
  walk_at "zq"
  walk_at "zt"
  walk_at "zq"
  refine zo_mod (by decide) ?_
  rw [Int.emod_eq_of_lt (by omega) h1]
  walk_at "zq"
  refine zs_while (fun m S2 M2 => ∃ (b n : Int) (L t : Nat) (c6 : Option ZV), S2 = [some (.d (.int a)), some (.d (.int PZ)), some (.d (.int b)), some (.d (.int n)), some (.d (.int (L : Int))), some (.d (.int (t : Int))), c6] ∧ M2 = [] ∧ m = t ∧ L ≤ P61 ∧ t ≤ P61 ∧ Nat.gcd L t = 1 ∧ Dv ((L : Int) - b * a) ∧ Dv ((t : Int) - n * a)) ⟨_, 0, 1, P61, a.toNat, none, ?_, rfl, rfl, Nat.le_refl _, ?_, gcd_prime h0 h1, ?_, ?_⟩ ?_
  · rw [show ((a.toNat : Nat) : Int) = a by omega]; rfl
  · have : (P61 : Int) = PZ := rfl
    omega
  · exact ⟨1, by rw [show (P61 : Int) = PZ from rfl]; omega⟩
  · exact ⟨0, by omega⟩
  · rintro m S2 M2 ⟨b, n, L, t, c6, rfl, rfl, rfl, hL, ht, hg, hb, hn⟩
    walk_at "zq"
    refine ⟨fun e => ?_, fun e => ?_⟩
    · have e : ¬ ((m : Int) = 0) := by simpa using e
      have hP : P61 = 2305843009213693951 := rfl
      have hm0 : 0 < m := by omega
      walk_at "zq"
      refine zo_fdivW ⟨by omega, ?_⟩ ?_
      · have h2 : m < 2 ^ 62 := by omega
        rw [Int.natAbs_natCast]
        have := (Nat.log2_lt (by omega)).mpr h2
        omega
      rw [← Int.natCast_ediv]
      have hdl : L / m ≤ L := Nat.div_le_self L m
      have hq1 : -(2 ^ 64) < ((L / m : Nat) : Int) ∧ ((L / m : Nat) : Int) < 2 ^ 64 := by generalize L / m = q at hdl; omega
      have hmod : (L : Int) - ((L / m : Nat) : Int) * (m : Int) = ((L % m : Nat) : Int) := by
        have := Nat.div_add_mod L m
        rw [Nat.mul_comm] at this
        rw [← Int.natCast_mul]
        omega
      walk_at "zq"
      refine zo_mul (.inl hq1) ?_
      walk_at "zq"
      refine zo_mul (.inl hq1) ?_
      walk_at "zq"
      refine ⟨L % m, Nat.mod_lt L hm0, n, b - ((L / m : Nat) : Int) * n, m, L % m, some (.d (.int ((L / m : Nat) : Int))), ?_, rfl, rfl, ht, ?_, gcd_step hg, hn, ?_⟩
      · rw [← hmod]; rfl
      · have := Nat.mod_lt L hm0
        omega
      · rw [← hmod]
        have := Int.dvd_sub hb (Int.dvd_mul_of_dvd_right (b := ((L / m : Nat) : Int)) hn)
        rwa [show (L : Int) - b * a - ((L / m : Nat) : Int) * ((m : Int) - n * a) = (L : Int) - ((L / m : Nat) : Int) * (m : Int) - (b - ((L / m : Nat) : Int) * n) * a by grind] at this
    · have e : m = 0 := by simpa using e
      subst e
      have hL1 : L = 1 := by rw [Nat.gcd_zero_right] at hg; exact hg
      subst hL1
      walk_at "zq"
      refine zo_mod (by decide) ?_
      have : Dv (b * a - 1) := by
        have := Int.dvd_neg.mpr hb
        rwa [Int.neg_sub] at this
      rw [inv61_uniq hnd this]
      exact ⟨_, rfl, rfl⟩
/-! ### sums of two lists -/
theorem addL_zip : ∀ a b : List Int, List.zipWith (fun x y => (x + y) % PZ) a b = addL a b
  | [], b => by cases b <;> rfl
  | _ :: _, [] => rfl
  | x :: a, y :: b => by rw [List.zipWith_cons_cons, addL, addL_zip a b]
def R_sumOf (ds : List PyData) (o : DOut) : Prop := ∃ a b : List Int, ds = [iD a, iD b] ∧ a.length ≤ 1000 ∧ b.length ≤ 1000 ∧ o = .ok (iD (sumL a b))
theorem rep0 (k : Nat) : List.replicate k (PyData.int 0) = (List.replicate k (0 : Int)).map PyData.int := by rw [List.map_replicate]
theorem ok_sum_of {P : Program} {w : World} {K : Fg} {mg : Str → Option Value} {base : Heap} {f : Addr} {fd : FuncData} (F : Fun K "_sum_of" "_sum_of" s_sum_of f fd)
    (m_max : mg "max" = none)
    (m_len : mg "len" = none)
    (m_zip : mg "zip" = none)
    (g_PRIME : ∃ u, mg "PRIME" = some u ∧ RelV (.int 2305843009213693951) u) :
    FnOk P w K mg base (L2.CX P w) 2 f fd ["one", "other"] (spD K 2 R_sumOf) := by
  refine F.okX sc_sum_of (fun vs H Q E h => len_D h) (fun cdv A outer s H vs Q E hr h => ⟨_, (pss_cons (ps_set (i := 2) sc_sum_of.nd rfl (by first | exact Or.inl rfl | exact Or.inr rfl) (pe_callB (call_max2 rfl) (by rfl) m_max bb_max (pa_cons (pe_callB call_len (by rfl) m_len bb_len (pa_cons (pv 0) pa_nil)) (pa_cons (pe_callB call_len (by rfl) m_len bb_len (pa_cons (pv 1) pa_nil)) pa_nil))))
      (pss_cons (ps_set (i := 0) sc_sum_of.nd rfl (by first | exact Or.inl rfl | exact Or.inr rfl) (pe_op op_catD (pv 0) (pe_op op_rep (pe_lst (pa_cons pe_int pa_nil)) (pe_op op_sub (pv 2) (pe_callB call_len (by rfl) m_len bb_len (pa_cons (pv 0) pa_nil))))))
      (pss_cons (ps_set (i := 1) sc_sum_of.nd rfl (by first | exact Or.inl rfl | exact Or.inr rfl) (pe_op op_catD (pv 1) (pe_op op_rep (pe_lst (pa_cons pe_int pa_nil)) (pe_op op_sub (pv 2) (pe_callB call_len (by rfl) m_len bb_len (pa_cons (pv 1) pa_nil))))))
      (pss_one (ps_ret (pe_lc (own := [("first", 3), ("second", 4)]) rfl sc_sum_of.nd (pi_zip (by rfl) m_zip (pa_cons (pv 0) (pa_cons (pv 1) pa_nil))) (blkOk_by (N := N_sum_of) (sc := defScope s_sum_of) (by decide +kernel)) (fun _ _ _ _ _ => (show PG _ _ (gTup K 2 _) from (pg_tup rfl (pgs_cons (pg_name (i := 3) sc_sum_of.nd rfl (by first | exact Or.inl rfl | exact Or.inr rfl)) (pgs_cons (pg_name (i := 4) sc_sum_of.nd rfl (by first | exact Or.inl rfl | exact Or.inr rfl)) pgs_nil))))) (fun _ _ _ _ _ => pts_nil) (fun _ _ _ _ _ => (pe_op op_mod (pe_op (show OpR _ (binaryOp .Add) (rAddA K) from op_addA) (pv 3) (pv 4)) (pe_glob (by rfl) g_PRIME.choose_spec.1 g_PRIME.choose_spec.2))))))))),
    fn_D h fun ds o hk hR => ?_⟩)
  try dsimp only [L2.cxOf]
  obtain ⟨a, b, rfl, ha, hb, rfl⟩ := hR
  have hsz : (sizeLine : Nat) = 16777216 := sizeLine_eq
  refine zs_seq (zs_nx (N := fun S M => S = [some (.d (iD a)), some (.d (iD b)), some (.d (.int ((max a.length b.length : Nat) : Int))), none, none] ∧ M = []) ?_ ?_)
  · walk_at "zq"
    refine ⟨?_, rfl⟩
    rw [List.length_map, List.length_map, show (if (b.length : Int) > (a.length : Int) then (b.length : Int) else (a.length : Int)) = ((max a.length b.length : Nat) : Int) by split <;> omega]
    rfl
  rintro S M ⟨rfl, rfl⟩
  refine zs_seq (zs_post (N := fun S M => S = [some (.d (iD (padL a (max a.length b.length)))), some (.d (iD b)), some (.d (.int ((max a.length b.length : Nat) : Int))), none, none]) ?_ ?_)
  · refine zs_asg (zw_op (zw_var rfl (zw_frz (zw_op ?_))))
    refine zw_lstC ?_
    walk_at "zq"
    walk_at "zt"
    intro l
    walk_at "zq"
    rw [List.length_map, show ((max a.length b.length : Nat) : Int) - (a.length : Int) = ((max a.length b.length - a.length : Nat) : Int) by omega]
    refine zo_rep m0 (by omega) (by rw [hsz]; simp only [List.length_singleton]; omega) fun q => ?_
    refine ⟨q, _, _, rfl, .here, ?_⟩
    rw [rep_one, rep0]
    refine zo_catD (by rw [List.length_map, List.length_map, List.length_replicate]; omega) ?_
    rw [← List.map_append]
    exact rfl
  rintro S M rfl
  refine ⟨[], List.nil_sublist _, ?_⟩
  refine zs_seq (zs_post (N := fun S M => S = [some (.d (iD (padL a (max a.length b.length)))), some (.d (iD (padL b (max a.length b.length)))), some (.d (.int ((max a.length b.length : Nat) : Int))), none, none]) ?_ ?_)
  · refine zs_asg (zw_op (zw_var rfl (zw_frz (zw_op ?_))))
    refine zw_lstC ?_
    walk_at "zq"
    walk_at "zt"
    intro l
    walk_at "zq"
    rw [List.length_map, show ((max a.length b.length : Nat) : Int) - (b.length : Int) = ((max a.length b.length - b.length : Nat) : Int) by omega]
    refine zo_rep m0 (by omega) (by rw [hsz]; simp only [List.length_singleton]; omega) fun q => ?_
    refine ⟨q, _, _, rfl, .here, ?_⟩
    rw [rep_one, rep0]
    refine zo_catD (by rw [List.length_map, List.length_map, List.length_replicate]; omega) ?_
    rw [← List.map_append]
    exact rfl
  rintro S M rfl
  refine ⟨[], List.nil_sublist _, ?_⟩
  refine zs_ret ?_
  refine lcZip_int (padL a (max a.length b.length)) (padL b (max a.length b.length)) (fun x y => (x + y) % PZ) ?_
  walk_at "zq"
  refine ⟨rfl, by rw [padL_len (by omega), padL_len (by omega)]; exact Nat.le_refl _, by rw [padL_len (by omega)]; omega, fun x hx y hy => ⟨_, _, ?_, zg_tup rfl (zgs_cons (zgs_cons zgs_nil)), fun D acc => ?_⟩, ?_⟩
  · simp
  · walk_at "zq"
    refine zo_mod (by decide) ?_
    exact ⟨rfl, rfl⟩
  · rw [addL_zip]
    exact ⟨_, rfl, rfl⟩
def R_oneOn (ds : List PyData) (o : DOut) : Prop := ∃ (sh rc : List Int) (t : Int), ds = [iD sh, iD rc] ∧ sh.length ≤ 500 ∧ rc.length ≤ 500 ∧ sh.getLast? = some t ∧ 0 ≤ t ∧ t < PZ ∧ o = .ok (iD (oneOn sh rc t))
theorem atI_lastI {l : List Int} {t : Int} (h : l.getLast? = some t) : atI (l.map PyData.int) (-1) = some (.int t) := by
  rw [List.getLast?_eq_some_iff] at h
  obtain ⟨m, rfl⟩ := h
  rw [List.map_append]
  exact atI_last _ _
theorem cut_last (l : List Int) : Z.cutD (l.map PyData.int) none (some (-1)) = l.dropLast.map .int := by
  unfold Z.cutD
  rw [HT.sIx_none, Nat.sub_zero, List.drop_zero]
  have : HT.sIx (l.map PyData.int).length (l.map PyData.int).length (some (-1)) = l.length - 1 := by
    unfold HT.sIx
    dsimp only
    rw [if_pos (by decide), List.length_map]
    omega
  rw [this, List.dropLast_eq_take, List.map_take]
theorem ok_one_on {P : Program} {w : World} {K : Fg} {mg : Str → Option Value} {base : Heap} {f : Addr} {fd : FuncData} (F : Fun K "_one_on" "_one_on" s_one_on f fd)
    (c__sum_of : Cal P w K mg base 2 "_sum_of" (spD K 2 R_sumOf)) :
    FnOk P w K mg base (L2.CX P w) 3 f fd ["shares", "recurrence"] (spD K 2 R_oneOn) := by
  refine F.okX sc_one_on (fun vs H Q E h => len_D h) (fun cdv A outer s H vs Q E hr h => ⟨_, (pss_one (ps_ret (pe_cl c__sum_of hr (show 2 ≤ 2 by decide) passL (pa_cons (pe_op op_catD (pe_lst (pa_cons pe_int pa_nil)) (pe_slice sl_any (pv 0) po_none (po_some (pe_un un_neg pe_int)))) (pa_cons (pe_lc (own := [("share", 2)]) rfl sc_one_on.nd (pi_list (pe_revL (pv 1))) (blkOk_by (N := N_one_on) (sc := defScope s_one_on) (by decide +kernel)) (fun _ _ _ _ _ => (pg_name (i := 2) sc_one_on.nd rfl (by first | exact Or.inl rfl | exact Or.inr rfl))) (fun _ _ _ _ _ => pts_nil) (fun _ _ _ _ _ => (pe_op op_mul (pe_ix (show IxR _ (rIx K) from ix_seq) (pv 0) (pe_un un_neg pe_int) (fun _ _ => rfl)) (pv 2)))) pa_nil))))),
    fn_D h fun ds o hk hR => ?_⟩)
  try dsimp only [L2.cxOf]
  obtain ⟨sh, rc, t, rfl, h1, h2, ht, ht0, ht1, rfl⟩ := hR
  have hsz : (sizeLine : Nat) = 16777216 := sizeLine_eq
  walk_at "zq"
  refine zw_lstD ?_
  walk_at "zq"
  walk_at "zt"
  walk_at "zq"
  rw [cut_last]
  refine zo_catD (by rw [List.length_map, List.length_dropLast]; simp only [List.length_singleton]; omega) ?_
  walk_at "zq"
  refine lcL_map rc.reverse .int (fun x => .int (t * x)) ?_
  refine zw_frz (zw_revD ?_)
  walk_at "zq"
  refine fun r => ⟨_, _, _, rfl, .here, ?_⟩
  refine ⟨by rw [List.map_reverse], by rw [List.length_reverse]; omega, fun c hc => ⟨_, _, ?_, zg_name, fun D acc => ?_⟩, ?_⟩
  · simp
  · walk_at "zq"
    refine zo_ix (atI_lastI ht) ?_
    walk_at "zq"
    have hPZ : PZ = 2305843009213693951 := rfl
    refine zo_mul (.inl ⟨by omega, by omega⟩) ?_
    exact ⟨rfl, rfl⟩
  · walk_at "zq"
    refine ⟨_, _, allD_cons (allD_cons allD_nil), rfl, ⟨[0] ++ sh.dropLast, rc.reverse.map fun x => t * x, ?_, ?_, ?_, rfl⟩, ?_⟩
    · unfold iD
      rw [List.map_append, List.map_map]
      rfl
    · simp; omega
    · simp; omega
    · exact ⟨_, rfl, rfl⟩
/-! ### twice the index -/
def prodIn (sh : List Int) (one : Nat) : Nat → List Int → List Int
  | 0, l => l
  | j + 1, l => (prodIn sh one j l).set (one + j) ((prodIn sh one j l).getD (one + j) 0 + sh.getD one 0 * sh.getD j 0)
def prodOut (sh : List Int) : Nat → List Int
  | 0 => List.replicate (2 * sh.length) 0
  | i + 1 => prodIn sh i sh.length (prodOut sh i)
def takeIn (rc : List Int) (i : Nat) (top : Int) : Nat → List Int → List Int
  | 0, l => l
  | b + 1, l => (takeIn rc i top b l).set (i - 1 - b) ((takeIn rc i top b l).getD (i - 1 - b) 0 + top * rc.getD b 0)
def takeOut (rc : List Int) (m : Nat) : Nat → List Int → List Int
  | 0, l => l
  | t + 1, l => takeIn rc (2 * m - 1 - t) ((takeOut rc m t l).getD (2 * m - 1 - t) 0 % PZ) rc.length (takeOut rc m t l)
def dbl (sh rc : List Int) : List Int := ((takeOut rc sh.length sh.length (prodOut sh sh.length)).take sh.length).map fun x => x % PZ
theorem prodIn_len (sh : List Int) (one : Nat) : ∀ (j : Nat) (l : List Int), (prodIn sh one j l).length = l.length
  | 0, _ => rfl
  | j + 1, l => by rw [prodIn, List.length_set, prodIn_len sh one j l]
theorem prodOut_len (sh : List Int) : ∀ i, (prodOut sh i).length = 2 * sh.length
  | 0 => List.length_replicate
  | i + 1 => by rw [prodOut, prodIn_len, prodOut_len sh i]
theorem takeIn_len (rc : List Int) (i : Nat) (top : Int) : ∀ (b : Nat) (l : List Int), (takeIn rc i top b l).length = l.length
  | 0, _ => rfl
  | b + 1, l => by rw [takeIn, List.length_set, takeIn_len rc i top b l]
theorem takeOut_len (rc : List Int) (m : Nat) : ∀ (t : Nat) (l : List Int), (takeOut rc m t l).length = l.length
  | 0, _ => rfl
  | t + 1, l => by rw [takeOut, takeIn_len, takeOut_len rc m t l]
theorem getD_some {l : List Int} {k : Nat} (h : k < l.length) : l[k]? = some (l.getD k 0) := by
  rw [List.getD_eq_getElem?_getD, List.getElem?_eq_getElem h]
  rfl
theorem prodIn_inv {sh : List Int} {one : Nat} (ho : one < sh.length) {l : List Int} (h : PrI sh one 0 l) : ∀ j, j ≤ sh.length → PrI sh one j (prodIn sh one j l)
  | 0, _ => h
  | j + 1, hj => by
    have ih := prodIn_inv ho h j (by omega)
    have hl := ih.1
    rw [prodIn]
    exact pr_turn ih (getD_some ho) (getD_some (by omega)) (getD_some (by omega))
theorem prodOut_inv (sh : List Int) : ∀ i, i ≤ sh.length → PrI sh i 0 (prodOut sh i)
  | 0, _ => pr_start sh
  | i + 1, hi => by
    have ih := prodOut_inv sh i (by omega)
    rw [prodOut]
    exact pr_row (prodIn_inv (by omega) ih sh.length (Nat.le_refl _)) (getD_some (by omega))
theorem takeIn_inv {s : Nat → Int} {rc : List Int} {M i : Nat} {top : Int} {l : List Int} (hi : rc.length ≤ i) (h : TkI s rc M i 0 top l) : ∀ b, b ≤ rc.length → TkI s rc M i b top (takeIn rc i top b l)
  | 0, _ => h
  | b + 1, hb => by
    have ih := takeIn_inv hi h b (by omega)
    have hl := ih.1
    rw [takeIn]
    exact tk_turn ih (getD_some (by omega)) hi (getD_some (by omega))
theorem takeOut_inv {s : Nat → Int} {rc : List Int} (hr : Rec rc s) {M m : Nat} (hm : rc.length ≤ m) {l : List Int} (hl : l.length = 2 * m) (h : RdI s M (2 * m) l) : ∀ t, t ≤ m → RdI s M (2 * m - t) (takeOut rc m t l)
  | 0, _ => h
  | t + 1, ht => by
    have ih := takeOut_inv hr hm hl h t (by omega)
    have e : 2 * m - t = 2 * m - 1 - t + 1 := by omega
    rw [e] at ih
    rw [takeOut, show 2 * m - (t + 1) = 2 * m - 1 - t by omega]
    have hlt : 2 * m - 1 - t < (takeOut rc m t l).length := by rw [takeOut_len]; omega
    exact tk_end (takeIn_inv (by omega) (tk_start hr ih (by omega) (getD_some hlt)) rc.length (Nat.le_refl _))
theorem dbl_shr {s : Nat → Int} {rc sh : List Int} {m : Nat} (hr : Rec rc s) (h : Shr s rc.length sh m) : Shr s rc.length (dbl sh rc) (m + m) := by
  have hl : sh.length = rc.length := h.1
  have h1 := prodOut_inv sh sh.length (Nat.le_refl _)
  have h2 : RdI s (m + m) (2 * sh.length) (prodOut sh sh.length) := rd_start (L := sh.length) (by rw [← hl] at h; exact h) h1
  have h3 := takeOut_inv hr (Nat.le_of_eq hl.symm) (prodOut_len sh _) h2 sh.length (Nat.le_refl _)
  rw [show 2 * sh.length - sh.length = sh.length by omega] at h3
  have h4 := rd_end h3
  rw [hl] at h4
  unfold dbl
  rw [hl]
  exact h4
theorem dbl_few (sh rc : List Int) : Few (dbl sh rc) := by
  intro x hx
  obtain ⟨y, _, rfl⟩ := List.mem_map.mp hx
  exact modP y
theorem dbl_len (sh rc : List Int) : (dbl sh rc).length = sh.length := by
  unfold dbl
  rw [List.length_map, List.length_take, takeOut_len, prodOut_len]
  omega
theorem int_set (l : List Int) (k : Nat) (v : Int) : (l.map PyData.int).set k (.int v) = (l.set k v).map .int := by rw [List.map_set]
theorem int_at {l : List Int} {k : Nat} (hk : k < l.length) : (l.map PyData.int)[k]? = some (.int (l.getD k 0)) := by
  rw [List.getElem?_map, getD_some hk]
  rfl
theorem cut_first (l : List PyData) (k : Nat) : Z.cutD l none (some (k : Int)) = l.take k := by
  unfold Z.cutD
  rw [HT.sIx_none, HT.sIx_nat, List.drop_zero, Nat.sub_zero]
  rcases Nat.le_total k l.length with h | h
  · rw [Nat.min_eq_left h]
  · rw [Nat.min_eq_right h, List.take_length, List.take_of_length_le h]
def R_doubled (ds : List PyData) (o : DOut) : Prop := ∃ sh rc : List Int, ds = [iD sh, iD rc] ∧ 1 ≤ sh.length ∧ sh.length ≤ 200 ∧ rc.length ≤ sh.length ∧ Few sh ∧ Few rc ∧ o = .ok (iD (dbl sh rc))
theorem ok_doubled {P : Program} {w : World} {K : Fg} {mg : Str → Option Value} {base : Heap} {f : Addr} {fd : FuncData} (F : Fun K "_doubled" "_doubled" s_doubled f fd)
    (m_len : mg "len" = none)
    (m_enumerate : mg "enumerate" = none)
    (m_range : mg "range" = none)
    (g_PRIME : ∃ u, mg "PRIME" = some u ∧ RelV (.int 2305843009213693951) u) :
    FnOk P w K mg base (L2.CX P w) 2 f fd ["shares", "recurrence"] (spD K 2 R_doubled) := by
  refine F.okX sc_doubled (fun vs H Q E h => len_D h) (fun cdv A outer s H vs Q E hr h => ⟨_, (pss_cons (ps_set (i := 2) sc_doubled.nd rfl (by first | exact Or.inl rfl | exact Or.inr rfl) (pe_callB call_len (by rfl) m_len bb_len (pa_cons (pv 0) pa_nil)))
      (pss_cons (ps_set (i := 3) sc_doubled.nd rfl (by first | exact Or.inl rfl | exact Or.inr rfl) (pe_op op_rep (pe_lst (pa_cons pe_int pa_nil)) (pe_op op_mul pe_int (pv 2))))
      (pss_cons (ps_for (passes_of rfl) rfl (pi_enum (by rfl) m_enumerate (pa_cons (pv 0) pa_nil)) (pg_tup rfl (pgs_cons (pg_name (i := 4) sc_doubled.nd rfl (by first | exact Or.inl rfl | exact Or.inr rfl)) (pgs_cons (pg_name (i := 5) sc_doubled.nd rfl (by first | exact Or.inl rfl | exact Or.inr rfl)) pgs_nil))) (pss_one (ps_for (passes_of rfl) rfl (pi_enum (by rfl) m_enumerate (pa_cons (pv 0) pa_nil)) (pg_tup rfl (pgs_cons (pg_name (i := 6) sc_doubled.nd rfl (by first | exact Or.inl rfl | exact Or.inr rfl)) (pgs_cons (pg_name (i := 7) sc_doubled.nd rfl (by first | exact Or.inl rfl | exact Or.inr rfl)) pgs_nil))) (pss_one (ps_augS (pv 3) (pe_op op_addA (pv 4) (pv 6)) get_list (pe_op op_mul (pv 5) (pv 7)) ip_add set_list)))))
      (pss_cons (ps_for (passes_of rfl) rfl (pi_range3 (by rfl) m_range (pa_cons (pe_op op_sub (pe_op op_mul pe_int (pv 2)) pe_int) (pa_cons (pe_op op_sub (pv 2) pe_int) (pa_cons (pe_un un_neg pe_int) pa_nil)))) (pg_name (i := 8) sc_doubled.nd rfl (by first | exact Or.inl rfl | exact Or.inr rfl)) (pss_cons (ps_set (i := 9) sc_doubled.nd rfl (by first | exact Or.inl rfl | exact Or.inr rfl) (pe_op op_mod (pe_ix ix_seq (pv 3) (pv 8) (fun _ _ => rfl)) (pe_glob (by rfl) g_PRIME.choose_spec.1 g_PRIME.choose_spec.2)))
      (pss_one (ps_for (passes_of rfl) rfl (pi_enum (by rfl) m_enumerate (pa_cons (pv 1) pa_nil)) (pg_tup rfl (pgs_cons (pg_name (i := 10) sc_doubled.nd rfl (by first | exact Or.inl rfl | exact Or.inr rfl)) (pgs_cons (pg_name (i := 5) sc_doubled.nd rfl (by first | exact Or.inl rfl | exact Or.inr rfl)) pgs_nil))) (pss_one (ps_augS (pv 3) (pe_op op_sub (pe_op op_sub (pv 8) pe_int) (pv 10)) get_list (pe_op op_mul (pv 9) (pv 5)) ip_add set_list))))))
      (pss_one (ps_ret (pe_lc (own := [("number", 11)]) rfl sc_doubled.nd (pi_list (pe_slice sl_any (pv 3) po_none (po_some (pv 2)))) (blkOk_by (N := N_doubled) (sc := defScope s_doubled) (by decide +kernel)) (fun _ _ _ _ _ => (pg_name (i := 11) sc_doubled.nd rfl (by first | exact Or.inl rfl | exact Or.inr rfl))) (fun _ _ _ _ _ => pts_nil) (fun _ _ _ _ _ => (pe_op op_mod (pv 11) (pe_glob (by rfl) g_PRIME.choose_spec.1 g_PRIME.choose_spec.2)))))))))),
    fn_D h fun ds o hk hR => ?_⟩)
  try dsimp only [L2.cxOf]
  obtain ⟨sh, rc, rfl, hl1, hl, hrl, hf, hfr, rfl⟩ := hR
  have hsz : (sizeLine : Nat) = 16777216 := sizeLine_eq
  have hPZ : PZ = 2305843009213693951 := rfl
  refine zs_seq (zs_nx (N := fun S M => S = [some (.d (iD sh)), some (.d (iD rc)), some (.d (.int (sh.length : Int))), none, none, none, none, none, none, none, none, none] ∧ M = []) ?_ ?_)
  · walk_at "zq"
    rw [List.length_map]
    exact ⟨rfl, rfl⟩
  rintro S M ⟨rfl, rfl⟩
  refine zs_seq (zs_post (N := fun S M => ∃ q l : Addr, S = [some (.d (iD sh)), some (.d (iD rc)), some (.d (.int (sh.length : Int))), some (.c q), none, none, none, none, none, none, none, none] ∧ M = [(q, true, .lst ((prodOut sh 0).map .int)), (l, true, .lst [.int 0])]) ?_ ?_)
  · walk_at "zq"
    refine zw_lstC ?_
    walk_at "zq"
    walk_at "zt"
    intro l
    walk_at "zq"
    refine zo_mul (.inl ⟨by decide, by decide⟩) ?_
    rw [show (2 : Int) * (sh.length : Int) = ((2 * sh.length : Nat) : Int) by rw [Int.natCast_mul]; rfl]
    refine zo_rep m0 (by omega) (by rw [hsz]; simp only [List.length_singleton]; omega) fun q => ?_
    refine ⟨q, l, rfl, ?_⟩
    rw [rep_one, rep0]
    rfl
  rintro S M ⟨q, l, rfl, rfl⟩
  refine ⟨[(q, true, .lst ((prodOut sh 0).map .int))], .cons₂ _ (.cons _ .slnil), ?_⟩
  refine zs_seq (zs_nx (N := fun S M => ∃ c4 c5 c6 c7 : Option ZV, S = [some (.d (iD sh)), some (.d (iD rc)), some (.d (.int (sh.length : Int))), some (.c q), c4, c5, c6, c7, none, none, none, none] ∧ M = [(q, true, .lst ((prodOut sh sh.length).map .int))]) ?_ ?_)
  · walk_at "zq"
    refine ⟨fun i S M => ∃ c4 c5 c6 c7 : Option ZV, S = [some (.d (iD sh)), some (.d (iD rc)), some (.d (.int (sh.length : Int))), some (.c q), c4, c5, c6, c7, none, none, none, none] ∧ M = [(q, true, .lst ((prodOut sh i).map .int))], ⟨_, _, _, _, rfl, rfl⟩, ?_, ?_⟩
    · rintro i x S M hx ⟨c4, c5, c6, c7, rfl, rfl⟩
      rw [List.getElem?_map] at hx
      obtain ⟨a, ha, rfl⟩ := Option.map_eq_some_iff.mp hx
      have hil := (List.getElem?_eq_some_iff.mp ha).1
      have hpl := prodOut_len sh i
      have ea : sh.getD i 0 = a := Option.some.inj ((getD_some hil).symm.trans ha)
      refine ⟨_, _, zg_tup rfl (zgs_cons (zgs_cons zgs_nil)), ?_⟩
      walk_at "zq"
      refine ⟨fun j S M => ∃ c6 c7 : Option ZV, S = [some (.d (iD sh)), some (.d (iD rc)), some (.d (.int (sh.length : Int))), some (.c q), some (.d (.int (i : Int))), some (.d (.int a)), c6, c7, none, none, none, none] ∧ M = [(q, true, .lst ((prodIn sh i j (prodOut sh i)).map .int))], ⟨_, _, rfl, rfl⟩, ?_, ?_⟩
      · rintro j y S M hy ⟨c6, c7, rfl, rfl⟩
        rw [List.getElem?_map] at hy
        obtain ⟨b, hb, rfl⟩ := Option.map_eq_some_iff.mp hy
        have hjl := (List.getElem?_eq_some_iff.mp hb).1
        have eb : sh.getD j 0 = b := Option.some.inj ((getD_some hjl).symm.trans hb)
        have hb2 := hf b (List.mem_of_getElem? hb)
        have hil2 := prodIn_len sh i j (prodOut sh i)
        have est : prodIn sh i (j + 1) (prodOut sh i) = (prodIn sh i j (prodOut sh i)).set (i + j) ((prodIn sh i j (prodOut sh i)).getD (i + j) 0 + a * b) := by rw [prodIn, ea, eb]
        generalize prodIn sh i j (prodOut sh i) = part at hil2 est ⊢
        refine ⟨_, _, zg_tup rfl (zgs_cons (zgs_cons zgs_nil)), ?_⟩
        refine zs_augL ?_
        walk_at "zq"
        rw [← Int.natCast_add]
        refine ⟨q, true, _, i + j, part.getD (i + j) 0, rfl, rfl, m0, int_at (by omega), ?_⟩
        walk_at "zq"
        refine zo_mul (.inr ⟨by omega, by omega⟩) ?_
        refine ⟨_, true, _, _, rfl, .here, by rw [List.length_map]; omega, ?_⟩
        refine ⟨_, _, rfl, ?_⟩
        rw [est, int_set]
      · rintro S M ⟨c6, c7, rfl, rfl⟩
        refine ⟨_, _, _, _, rfl, ?_⟩
        rw [List.length_map]
        rfl
    · rintro S M ⟨c4, c5, c6, c7, rfl, rfl⟩
      rw [List.length_map]
      exact ⟨_, _, _, _, rfl, rfl⟩
  rintro S M ⟨c4, c5, c6, c7, rfl, rfl⟩
  refine zs_seq (zs_nx (N := fun S M => ∃ c4 c5 c6 c7 c8 c9 c10 : Option ZV, S = [some (.d (iD sh)), some (.d (iD rc)), some (.d (.int (sh.length : Int))), some (.c q), c4, c5, c6, c7, c8, c9, c10, none] ∧ M = [(q, true, .lst ((takeOut rc sh.length sh.length (prodOut sh sh.length)).map .int))]) ?_ ?_)
  · walk_at "zq"
    refine zo_mul (.inl ⟨by decide, by decide⟩) ?_
    walk_at "zq"
    refine ⟨_, _, _, sh.length, rfl, ?_, fun t S M => ∃ c4 c5 c6 c7 c8 c9 c10 : Option ZV, S = [some (.d (iD sh)), some (.d (iD rc)), some (.d (.int (sh.length : Int))), some (.c q), c4, c5, c6, c7, c8, c9, c10, none] ∧ M = [(q, true, .lst ((takeOut rc sh.length t (prodOut sh sh.length)).map .int))], ⟨_, _, _, _, _, _, _, rfl, rfl⟩, ?_, ?_⟩
    · have r := RgC.neg (i := 2 * (sh.length : Int) - 1) (j := (sh.length : Int) - 1) (by omega) (by omega) (by omega) (by omega)
      rwa [show (2 * (sh.length : Int) - 1 - ((sh.length : Int) - 1)).toNat = sh.length by omega] at r
    · rintro t S M ht ⟨c4, c5, c6, c7, c8, c9, c10, rfl, rfl⟩
      have htl := takeOut_len rc sh.length t (prodOut sh sh.length)
      rw [prodOut_len] at htl
      have est : takeOut rc sh.length (t + 1) (prodOut sh sh.length) = takeIn rc (2 * sh.length - 1 - t) ((takeOut rc sh.length t (prodOut sh sh.length)).getD (2 * sh.length - 1 - t) 0 % PZ) rc.length (takeOut rc sh.length t (prodOut sh sh.length)) := rfl
      generalize takeOut rc sh.length t (prodOut sh sh.length) = l1 at htl est ⊢
      refine ⟨_, _, zg_name, ?_⟩
      rw [show (2 : Int) * (sh.length : Int) - 1 + (t : Int) * (-1) = ((2 * sh.length - 1 - t : Nat) : Int) by omega]
      have hix : 2 * sh.length - 1 - t < l1.length := by omega
      have hge : rc.length ≤ 2 * sh.length - 1 - t := by omega
      generalize 2 * sh.length - 1 - t = ix at hix hge est ⊢
      walk_at "zq"
      refine zo_ixC m0 (atI_nat (int_at hix)) ?_
      walk_at "zq"
      refine zo_mod (by decide) ?_
      have htop := modP (l1.getD ix 0)
      generalize l1.getD ix 0 % 2305843009213693951 = top at htop est ⊢
      walk_at "zq"
      refine ⟨fun b S M => ∃ c5 c6 c7 c10 : Option ZV, S = [some (.d (iD sh)), some (.d (iD rc)), some (.d (.int (sh.length : Int))), some (.c q), c4, c5, c6, c7, some (.d (.int (ix : Int))), some (.d (.int top)), c10, none] ∧ M = [(q, true, .lst ((takeIn rc ix top b l1).map .int))], ⟨_, _, _, _, rfl, rfl⟩, ?_, ?_⟩
      · rintro b y S M hy ⟨c5, c6, c7, c10, rfl, rfl⟩
        rw [List.getElem?_map] at hy
        obtain ⟨r, hr1, rfl⟩ := Option.map_eq_some_iff.mp hy
        have hbl := (List.getElem?_eq_some_iff.mp hr1).1
        have eb : rc.getD b 0 = r := Option.some.inj ((getD_some hbl).symm.trans hr1)
        have hil2 := takeIn_len rc ix top b l1
        have est2 : takeIn rc ix top (b + 1) l1 = (takeIn rc ix top b l1).set (ix - 1 - b) ((takeIn rc ix top b l1).getD (ix - 1 - b) 0 + top * r) := by rw [takeIn, eb]
        generalize takeIn rc ix top b l1 = part at hil2 est2 ⊢
        refine ⟨_, _, zg_tup rfl (zgs_cons (zgs_cons zgs_nil)), ?_⟩
        refine zs_augL ?_
        walk_at "zq"
        rw [show (ix : Int) - 1 - (b : Int) = ((ix - 1 - b : Nat) : Int) by omega]
        refine ⟨q, true, _, ix - 1 - b, part.getD (ix - 1 - b) 0, rfl, rfl, m0, int_at (by omega), ?_⟩
        walk_at "zq"
        refine zo_mul (.inl ⟨by omega, by omega⟩) ?_
        refine ⟨_, true, _, _, rfl, .here, by rw [List.length_map]; omega, ?_⟩
        refine ⟨_, _, _, _, rfl, ?_⟩
        rw [est2, int_set]
      · rintro S M ⟨c5, c6, c7, c10, rfl, rfl⟩
        refine ⟨_, _, _, _, _, _, _, rfl, ?_⟩
        rw [List.length_map, est]
    · rintro S M ⟨c4, c5, c6, c7, c8, c9, c10, rfl, rfl⟩
      exact ⟨_, _, _, _, _, _, _, rfl, rfl⟩
  rintro S M ⟨c4, c5, c6, c7, c8, c9, c10, rfl, rfl⟩
  refine zs_ret ?_
  refine lcL_map ((takeOut rc sh.length sh.length (prodOut sh sh.length)).take sh.length) .int (fun x => .int (x % PZ)) ?_
  refine zw_sl (zw_frz ?_)
  walk_at "zq"
  refine ⟨_, _, _, rfl, .here, ?_⟩
  walk_at "zq"
  have hlen := takeOut_len rc sh.length sh.length (prodOut sh sh.length)
  rw [prodOut_len] at hlen
  refine ⟨?_, by rw [List.length_take]; omega, fun c hc => ⟨_, _, ?_, zg_name, fun D acc => ?_⟩, ?_⟩
  · rw [cut_first, List.map_take]
  · simp
  · walk_at "zq"
    refine zo_mod (by decide) ?_
    exact ⟨rfl, rfl⟩
  · exact ⟨_, rfl, by unfold dbl iD; rw [List.map_map]; rfl⟩
/-! ### the shares of a far term -/
def shrStep (rc : List Int) (sh : List Int) (b : Bool) : List Int := if b then oneOn (dbl sh rc) rc ((dbl sh rc).getLast?.getD 0) else dbl sh rc
/-- the first i figures of a number -/
def bitAt (n i : Nat) : Bool := n.testBit ((MB.binL n).length - 1 - i)
def shrTo (rc : List Int) (n : Nat) : Nat → List Int
  | 0 => [1] ++ List.replicate (rc.length - 1) 0
  | i + 1 => shrStep rc (shrTo rc n i) (bitAt n i)
def valTo (n : Nat) : Nat → Nat
  | 0 => 0
  | i + 1 => 2 * valTo n i + (bitAt n i).toNat
theorem valTo_eq (n : Nat) : ∀ i, i ≤ (MB.binL n).length → valTo n i = n >>> ((MB.binL n).length - i)
  | 0, _ => by
    rw [valTo, Nat.sub_zero, MB.binL_len]
    exact (Nat.shiftRight_eq_zero _ _ (Nat.lt_log2_self)).symm
  | i + 1, h => by
    rw [valTo, valTo_eq n i (by omega)]
    have e : (MB.binL n).length - i = (MB.binL n).length - (i + 1) + 1 := by omega
    rw [e, Nat.shiftRight_succ]
    unfold bitAt
    rw [show (MB.binL n).length - 1 - i = (MB.binL n).length - (i + 1) by omega]
    generalize (MB.binL n).length - (i + 1) = k
    have h1 : n.testBit k = decide ((n >>> k) % 2 = 1) := by
      rw [Nat.testBit_eq_decide_div_mod_eq, Nat.shiftRight_eq_div_pow]
    rw [h1]
    by_cases z : (n >>> k) % 2 = 1
    · rw [decide_eq_true z]; simp; omega
    · rw [decide_eq_false z]; simp; omega
theorem valTo_all (n : Nat) : valTo n (MB.binL n).length = n := by
  rw [valTo_eq n _ (Nat.le_refl _), Nat.sub_self]; rfl
theorem last_some {l : List Int} (h : 0 < l.length) : l.getLast? = some (l.getLast?.getD 0) := by
  cases l with
  | nil => simp at h
  | cons a l => rw [List.getLast?_cons]; rfl
theorem shrTo_shr {s : Nat → Int} {rc : List Int} (hr : Rec rc s) (h0 : 0 < rc.length) (n : Nat) : ∀ i, Shr s rc.length (shrTo rc n i) (valTo n i)
  | 0 => shr_start s h0
  | i + 1 => by
    have ih := dbl_shr hr (shrTo_shr hr h0 n i)
    rw [shrTo, valTo]
    unfold shrStep
    cases bitAt n i with
    | false =>
      rw [if_neg (by decide)]
      simpa [Nat.two_mul] using ih
    | true =>
      rw [if_pos rfl]
      have := shr_one hr ih (last_some (by rw [ih.1]; exact h0))
      simpa [Nat.two_mul] using this
structure ShOk (rc sh : List Int) : Prop where
  len : sh.length = rc.length
  few : Few sh
theorem shrTo_ok (rc : List Int) (h0 : 0 < rc.length) (n : Nat) : ∀ i, ShOk rc (shrTo rc n i)
  | 0 => by
    have := shr_start (fun _ => 0) h0
    exact ⟨this.1, this.2.1⟩
  | i + 1 => by
    have ih := shrTo_ok rc h0 n i
    have h1 : (dbl (shrTo rc n i) rc).length = rc.length := by rw [dbl_len]; exact ih.len
    rw [shrTo]
    unfold shrStep
    split
    · refine ⟨?_, sumL_few _ _⟩
      rw [oneOn, sumL_len]
      simp
      omega
    · exact ⟨h1, dbl_few _ _⟩
theorem last_few {l : List Int} (hf : Few l) : 0 ≤ l.getLast?.getD 0 ∧ l.getLast?.getD 0 < PZ := by
  cases h : l.getLast? with
  | none => decide
  | some a => exact hf a (List.mem_of_getLast? h)
def R_shares (ds : List PyData) (o : DOut) : Prop := ∃ (rc : List Int) (n : Nat), ds = [iD rc, .int (n : Int)] ∧ 1 ≤ rc.length ∧ rc.length ≤ 200 ∧ Few rc ∧ n < 2 ^ 1000 ∧ o = .ok (iD (shrTo rc n (MB.binL n).length))
theorem fig_one (b : Bool) : decide ((⟨#[if b then 49 else 48]⟩ : Str) = ("1" : Str)) = b := by cases b <;> decide
theorem ok_shares {P : Program} {w : World} {K : Fg} {mg : Str → Option Value} {base : Heap} {f : Addr} {fd : FuncData} (F : Fun K "_shares" "_shares" s_shares f fd)
    (m_len : mg "len" = none)
    (c__doubled : Cal P w K mg base 2 "_doubled" (spD K 2 R_doubled))
    (c__one_on : Cal P w K mg base 3 "_one_on" (spD K 2 R_oneOn)) :
    FnOk P w K mg base (L2.CX P w) 4 f fd ["recurrence", "index"] (spD K 2 R_shares) := by
  refine F.okX sc_shares (fun vs H Q E h => len_D h) (fun cdv A outer s H vs Q E hr h => ⟨_, (pss_cons (ps_set (i := 2) sc_shares.nd rfl (by first | exact Or.inl rfl | exact Or.inr rfl) (pe_op op_catD (pe_lst (pa_cons pe_int pa_nil)) (pe_op op_rep (pe_lst (pa_cons pe_int pa_nil)) (pe_op op_sub (pe_callB call_len (by rfl) m_len bb_len (pa_cons (pv 0) pa_nil)) pe_int))))
      (pss_cons (ps_for (passes_of rfl) rfl (pi_str (pe_joined1 (pe_fmtB (pv 1) (pe_joined1 pe_str)))) (pg_name (i := 3) sc_shares.nd rfl (by first | exact Or.inl rfl | exact Or.inr rfl)) (pss_cons (ps_set (i := 2) sc_shares.nd rfl (by first | exact Or.inl rfl | exact Or.inr rfl) (pe_cl c__doubled hr (show 2 ≤ 3 by decide) passL (pa_cons (pv 2) (pa_cons (pv 0) pa_nil))))
      (pss_one (ps_if (pt_cmpR (op_eqA hr.units) (pv 3) pe_str (nomark _)) (pss_one (ps_set (i := 2) sc_shares.nd rfl (by first | exact Or.inl rfl | exact Or.inr rfl) (pe_cl c__one_on hr (show 3 ≤ 3 by decide) passL (pa_cons (pv 2) (pa_cons (pv 0) pa_nil))))) pss_nil))))
      (pss_one (ps_ret (pv 2))))),
    fn_D h fun ds o hk hR => ?_⟩)
  try dsimp only [L2.cxOf]
  obtain ⟨rc, n, rfl, h1, h2, hf, hn, rfl⟩ := hR
  have hsz : (sizeLine : Nat) = 16777216 := sizeLine_eq
  have hbl : (MB.binL n).length ≤ 1000 := by
    rw [MB.binL_len]
    by_cases z : n = 0
    · subst z; decide
    · have := (Nat.log2_lt z).mpr hn
      omega
  refine zs_seq (zs_post (N := fun S M => S = [some (.d (iD rc)), some (.d (.int (n : Int))), some (.d (iD (shrTo rc n 0))), none]) ?_ ?_)
  · refine zs_asg (zw_op (zw_lstD ?_))
    walk_at "zq"
    walk_at "zt"
    refine zw_frz (zw_op (zw_lstC ?_))
    walk_at "zq"
    walk_at "zt"
    intro l
    walk_at "zq"
    rw [List.length_map, show (rc.length : Int) - 1 = ((rc.length - 1 : Nat) : Int) by omega]
    refine zo_rep m0 (by omega) (by rw [hsz]; simp only [List.length_singleton]; omega) fun q => ?_
    refine ⟨q, _, _, rfl, .here, ?_⟩
    rw [rep_one, rep0]
    refine zo_catD (by rw [List.length_map, List.length_replicate]; simp only [List.length_singleton]; omega) ?_
    unfold shrTo iD
    rw [List.map_append]
    exact rfl
  rintro S M rfl
  refine ⟨[], List.nil_sublist _, ?_⟩
  walk_at "zq"
  refine ⟨by rw [binS_len, hsz]; omega, _, rfl, fun i S M => ∃ c3 : Option ZV, S = [some (.d (iD rc)), some (.d (.int (n : Int))), some (.d (iD (shrTo rc n i))), c3] ∧ M = [], ⟨_, rfl, rfl⟩, ?_, ?_⟩
  · rintro i c S M hc ⟨c3, rfl, rfl⟩
    have hil : i < (MB.binL n).length := by
      have := (Array.getElem?_eq_some_iff.mp hc).1
      simpa [binS] using this
    have hcc : c = if bitAt n i then 49 else 48 := by
      have h1 := MB.binL_at n i hil
      have h2 : (MB.binL n)[i]? = some c := by
        have := hc
        unfold binS at this
        simpa using this
      exact Option.some.inj (h2.symm.trans h1)
    have ok := shrTo_ok rc (by omega) n i
    have dl := dbl_len (shrTo rc n i) rc
    have df := dbl_few (shrTo rc n i) rc
    have okl := ok.len
    have est : shrTo rc n (i + 1) = shrStep rc (shrTo rc n i) (bitAt n i) := rfl
    generalize shrTo rc n i = sh at ok dl df okl est ⊢
    refine ⟨_, _, zg_name, ?_⟩
    walk_at "zq"
    refine ⟨_, _, allD_cons (allD_cons allD_nil), rfl, ⟨sh, rc, rfl, by omega, by omega, by omega, ok.few, hf, rfl⟩, ?_⟩
    walk_at "zq"
    subst hcc
    rw [fig_one]
    have hlast := last_few df
    refine ⟨fun e => ?_, fun e => ?_⟩
    · walk_at "zq"
      refine ⟨_, _, allD_cons (allD_cons allD_nil), rfl, ⟨dbl sh rc, rc, _, rfl, by omega, by omega, last_some (by omega), hlast.1, hlast.2, rfl⟩, ?_⟩
      walk_at "zq"
      refine ⟨some (.d (.str ⟨#[if bitAt n i = true then 49 else 48]⟩)), ?_, rfl⟩
      rw [est, shrStep, e, if_pos rfl]
      rfl
    · walk_at "zq"
      refine ⟨some (.d (.str ⟨#[if bitAt n i = true then 49 else 48]⟩)), ?_, rfl⟩
      rw [est, shrStep, e, if_neg (by decide)]
      rfl
  · rintro S M ⟨c3, rfl, rfl⟩
    rw [show (binS n).cps.size = (MB.binL n).length from by simp [binS]]
    walk_at "zq"
    try exact rfl
/-! ### the shortest recurrence, by the program -/
structure Bm where
  now : List Int
  failed : List Int
  q : Nat
  gap : Int
noncomputable def bmStep (s : Nat → Int) (n : Nat) (b : Bm) : Bm :=
  if dis b.now s n % PZ = 0 then b
  else
    let later := sumL b.now (mendL n b.q (dis b.now s n % PZ * inv61 b.gap % PZ) b.failed)
    if b.now.length < later.length then ⟨later, b.now, n + 1, dis b.now s n % PZ⟩ else ⟨later, b.failed, b.q, b.gap⟩
noncomputable def bmTo (s : Nat → Int) : Nat → Bm
  | 0 => ⟨[], [], 0, 1⟩
  | n + 1 => bmStep s n (bmTo s n)
theorem often_dv {m g d : Int} (hg : ¬ Dv g) (hm : Dv (m - d)) : Dv (m * inv61 g % PZ * g - d) := by
  have h1 := Int.dvd_mul_of_dvd_left (c := g) (mod_dv (m * inv61 g))
  have h2 := Int.dvd_mul_of_dvd_right (b := m) (inv61_dv hg)
  have := Int.dvd_add (Int.dvd_add h1 h2) hm
  rwa [show (m * inv61 g % PZ - m * inv61 g) * g + m * (g * inv61 g - 1) + (m - d) = m * inv61 g % PZ * g - d by grind] at this
theorem bmTo_inv {c : List Int} {s : Nat → Int} (hc : Rec c s) {N : Nat} (hN : c.length ≤ N) : ∀ n, BmI s N n (bmTo s n).now (bmTo s n).failed (bmTo s n).q (bmTo s n).gap
  | 0 => bm_start s N
  | n + 1 => by
    have ih := bmTo_inv hc hN n
    rw [bmTo]
    generalize bmTo s n = b at ih ⊢
    unfold bmStep
    by_cases h0 : dis b.now s n % PZ = 0
    · rw [if_pos h0]
      exact bm_keep ih h0
    · rw [if_neg h0]
      have hg := not_dv ih.gap0.1 ih.gap0.2
      have := bm_grow hc hN ih h0 (often_dv (m := dis b.now s n % PZ) (g := b.gap) hg (mod_dv _))
      dsimp only
      split
      · next h => exact this.1 h
      · next h => exact this.2 h
theorem sum_mapIdx (f : Nat → Int) : ∀ (c : List Int), (c.mapIdx fun i x => x * f i).sum = dot c f := by
  intro c
  induction c generalizing f with
  | nil => rfl
  | cons a c ih =>
    rw [List.mapIdx_cons, List.sum_cons, dot, ← ih]
def R_shortest (ds : List PyData) (o : DOut) : Prop := ∃ (s : Nat → Int) (N m : Nat) (c : List Int), ds = [iD ((List.range m).map s)] ∧ m ≤ 200 ∧ N ≤ 100 ∧ Rec c s ∧ c.length ≤ N ∧ o = .ok (iD (bmTo s m).now)
theorem ok_shortest_recurrence {P : Program} {w : World} {K : Fg} {mg : Str → Option Value} {base : Heap} {f : Addr} {fd : FuncData} (F : Fun K "shortest_recurrence" "shortest_recurrence" s_shortest_recurrence f fd)
    (m_enumerate : mg "enumerate" = none)
    (m_sum : mg "sum" = none)
    (g_PRIME : ∃ u, mg "PRIME" = some u ∧ RelV (.int 2305843009213693951) u)
    (m_len : mg "len" = none)
    (c_inverse : Cal P w K mg base 1 "inverse" (spD K 2 R_inverse))
    (c__sum_of : Cal P w K mg base 2 "_sum_of" (spD K 2 R_sumOf)) :
    FnOk P w K mg base (L2.CX P w) 3 f fd ["terms"] (spD K 1 R_shortest) := by
  refine F.okX sc_shortest_recurrence (fun vs H Q E h => len_D h) (fun cdv A outer s H vs Q E hr h => ⟨_, (pss_cons (ps_set (i := 1) sc_shortest_recurrence.nd rfl (by first | exact Or.inl rfl | exact Or.inr rfl) (pe_lst pa_nil))
      (pss_cons (ps_par3 (i := 2) (j := 3) (l := 4) rfl sc_shortest_recurrence.nd rfl rfl rfl (by decide) (by decide) (by decide) rfl rfl rfl (pa_cons (pe_lst pa_nil) (pa_cons (pe_un un_neg pe_int) (pa_cons pe_int pa_nil))) (by rfl))
      (pss_cons (ps_for (passes_of rfl) rfl (pi_enum (by rfl) m_enumerate (pa_cons (pv 0) pa_nil)) (pg_tup rfl (pgs_cons (pg_name (i := 5) sc_shortest_recurrence.nd rfl (by first | exact Or.inl rfl | exact Or.inr rfl)) (pgs_cons (pg_name (i := 6) sc_shortest_recurrence.nd rfl (by first | exact Or.inl rfl | exact Or.inr rfl)) pgs_nil))) (pss_cons (ps_set (i := 7) sc_shortest_recurrence.nd rfl (by first | exact Or.inl rfl | exact Or.inr rfl) (pe_op op_mod (pe_op op_sub (pv 6) (pe_callB (cr_sum rfl) (by rfl) m_sum bb_sum (pa_cons (pe_lc (own := [("back", 8), ("share", 9)]) rfl sc_shortest_recurrence.nd (pi_enum (by rfl) m_enumerate (pa_cons (pv 1) pa_nil)) (blkOk_by (N := N_shortest_recurrence) (sc := defScope s_shortest_recurrence) (by decide +kernel)) (fun _ _ _ _ _ => (show PG _ _ (gTup K 2 _) from (pg_tup rfl (pgs_cons (pg_name (i := 8) sc_shortest_recurrence.nd rfl (by first | exact Or.inl rfl | exact Or.inr rfl)) (pgs_cons (pg_name (i := 9) sc_shortest_recurrence.nd rfl (by first | exact Or.inl rfl | exact Or.inr rfl)) pgs_nil))))) (fun _ _ _ _ _ => pts_nil) (fun _ _ _ _ _ => (pe_op op_mul (pv 9) (pe_ix (show IxR _ (rIx K) from ix_seq) (pv 0) (pe_op op_sub (pe_op op_sub (pv 5) pe_int) (pv 8)) (fun _ _ => rfl))))) pa_nil))) (pe_glob (by rfl) g_PRIME.choose_spec.1 g_PRIME.choose_spec.2)))
      (pss_one (ps_if (pt_cmpR (op_neA hr.units) (pv 7) pe_int (nomark _)) (pss_cons (ps_set (i := 10) sc_shortest_recurrence.nd rfl (by first | exact Or.inl rfl | exact Or.inr rfl) (pe_op op_mod (pe_op op_mul (pv 7) (pe_cl c_inverse hr (show 1 ≤ 2 by decide) passL (pa_cons (pv 4) (pa_cons (pe_glob (by rfl) g_PRIME.choose_spec.1 g_PRIME.choose_spec.2) pa_nil)))) (pe_glob (by rfl) g_PRIME.choose_spec.1 g_PRIME.choose_spec.2)))
      (pss_cons (ps_set (i := 11) sc_shortest_recurrence.nd rfl (by first | exact Or.inl rfl | exact Or.inr rfl) (pe_op op_catD (pe_op op_catD (pe_op op_rep (pe_lst (pa_cons pe_int pa_nil)) (pe_op op_sub (pe_op op_sub (pv 5) (pv 3)) pe_int)) (pe_lst (pa_cons (pv 10) pa_nil))) (pe_lc (own := [("share", 9)]) rfl sc_shortest_recurrence.nd (pi_list (pv 2)) (blkOk_by (N := N_shortest_recurrence) (sc := defScope s_shortest_recurrence) (by decide +kernel)) (fun _ _ _ _ _ => (pg_name (i := 9) sc_shortest_recurrence.nd rfl (by first | exact Or.inl rfl | exact Or.inr rfl))) (fun _ _ _ _ _ => pts_nil) (fun _ _ _ _ _ => (pe_op op_mul (pe_un un_neg (pv 10)) (pv 9))))))
      (pss_cons (ps_set (i := 12) sc_shortest_recurrence.nd rfl (by first | exact Or.inl rfl | exact Or.inr rfl) (pe_cl c__sum_of hr (show 2 ≤ 2 by decide) passL (pa_cons (pv 1) (pa_cons (pv 11) pa_nil))))
      (pss_cons (ps_if (pt_cmpR op_gt (pe_callB call_len (by rfl) m_len bb_len (pa_cons (pv 12) pa_nil)) (pe_callB call_len (by rfl) m_len bb_len (pa_cons (pv 1) pa_nil)) (nomark _)) (pss_one (ps_par3 (i := 2) (j := 3) (l := 4) rfl sc_shortest_recurrence.nd rfl rfl rfl (by decide) (by decide) (by decide) rfl rfl rfl (pa_cons (pv 1) (pa_cons (pv 5) (pa_cons (pv 7) pa_nil))) (by rfl))) pss_nil)
      (pss_one (ps_set (i := 1) sc_shortest_recurrence.nd rfl (by first | exact Or.inl rfl | exact Or.inr rfl) (pv 12))))))) pss_nil))))
      (pss_one (ps_ret (pv 1)))))),
    fn_D h fun ds o hk hR => ?_⟩)
  try dsimp only [L2.cxOf]
  obtain ⟨s, N, m, c, rfl, hm, hN, hc, hcN, rfl⟩ := hR
  have hsz : (sizeLine : Nat) = 16777216 := sizeLine_eq
  have hPZ : PZ = 2305843009213693951 := rfl
  refine zs_seq (zs_asg (zw_lstD ?_))
  walk_at "zq"
  walk_at "zt"
  refine zs_seq (zs_nx (N := fun S M => S = [some (.d (iD ((List.range m).map s))), some (.d (iD [])), some (.d (iD [])), some (.d (.int (-1))), some (.d (.int 1)), none, none, none, none, none, none, none, none] ∧ M = []) ?_ ?_)
  · refine zs_par3 (za_cons (zw_lstD ?_))
    walk_at "zq"
    walk_at "zt"
    walk_at "zq"
    try exact ⟨rfl, rfl⟩
  rintro S M ⟨rfl, rfl⟩
  walk_at "zq"
  refine ⟨fun i S M => ∃ c5 c6 c7 c8 c9 c10 c11 c12 : Option ZV, S = [some (.d (iD ((List.range m).map s))), some (.d (iD (bmTo s i).now)), some (.d (iD (bmTo s i).failed)), some (.d (.int ((bmTo s i).q - 1))), some (.d (.int (bmTo s i).gap)), c5, c6, c7, c8, c9, c10, c11, c12] ∧ M = [], ⟨_, _, _, _, _, _, _, _, rfl, rfl⟩, ?_, ?_⟩
  · rintro i x S M hx ⟨c5, c6, c7, c8, c9, c10, c11, c12, rfl, rfl⟩
    rw [List.map_map, List.getElem?_map] at hx
    obtain ⟨i2, hi, rfl⟩ := Option.map_eq_some_iff.mp hx
    obtain ⟨him, rfl⟩ := List.getElem?_eq_some_iff.mp hi
    rw [List.length_range] at him
    rw [List.getElem_range, show (PyData.int ∘ s) i = .int (s i) from rfl]
    have inv := bmTo_inv hc hcN i
    have est : bmTo s (i + 1) = bmStep s i (bmTo s i) := rfl
    generalize bmTo s i = b at inv est ⊢
    have hlen := inv.len
    have hqn := inv.qn
    refine ⟨_, _, zg_tup rfl (zgs_cons (zgs_cons zgs_nil)), ?_⟩
    refine zs_seq (zs_nx (N := fun S M => S = [some (.d (iD ((List.range m).map s))), some (.d (iD b.now)), some (.d (iD b.failed)), some (.d (.int (b.q - 1))), some (.d (.int b.gap)), some (.d (.int (i : Int))), some (.d (.int (s i))), some (.d (.int (dis b.now s i % PZ))), c8, c9, c10, c11, c12] ∧ M = []) ?_ ?_)
    · refine zs_asg (zw_op (zw_op (zw_var rfl (zw_cb (za_cons (lcEn_int b.now (fun j x => x * s (i - 1 - j)) ?_))))))
      walk_at "zq"
      refine ⟨rfl, by omega, fun j x hj => ⟨_, _, ?_, zg_tup rfl (zgs_cons (zgs_cons zgs_nil)), fun D acc => ?_⟩, ?_⟩
      · simp
      · have hjl := (List.getElem?_eq_some_iff.mp hj).1
        have hxf := inv.few x (List.mem_of_getElem? hj)
        walk_at "zq"
        rw [show (i : Int) - 1 - (j : Int) = ((i - 1 - j : Nat) : Int) by omega]
        refine zo_ix (atI_nat (v := .int (s (i - 1 - j))) (by rw [List.getElem?_map, List.getElem?_map, List.getElem?_range (by omega)]; rfl)) ?_
        refine zo_mul (.inl ⟨by omega, by omega⟩) ?_
        exact ⟨rfl, rfl⟩
      · walk_at "zq"
        refine zc_sum ?_
        walk_at "zq"
        refine zo_mod (by decide) ?_
        rw [sum_mapIdx]
        exact ⟨rfl, rfl⟩
    rintro S M ⟨rfl, rfl⟩
    have hmod := modP (dis b.now s i)
    walk_at "zq"
    refine ⟨fun e => ?_, fun e => ?_⟩
    · have e : ¬ (dis b.now s i % PZ = 0) := by simpa using e
      refine zs_seq (zs_nx (N := fun S M => S = [some (.d (iD ((List.range m).map s))), some (.d (iD b.now)), some (.d (iD b.failed)), some (.d (.int (b.q - 1))), some (.d (.int b.gap)), some (.d (.int (i : Int))), some (.d (.int (s i))), some (.d (.int (dis b.now s i % PZ))), c8, c9, some (.d (.int (dis b.now s i % PZ * inv61 b.gap % PZ))), c11, c12] ∧ M = []) ?_ ?_)
      · walk_at "zq"
        refine ⟨_, _, allD_cons (allD_cons allD_nil), rfl, ⟨b.gap, rfl, inv.gap0.1, inv.gap0.2, rfl⟩, ?_⟩
        walk_at "zq"
        refine zo_mul (.inl ⟨by omega, by omega⟩) ?_
        walk_at "zq"
        refine zo_mod (by decide) ?_
        exact ⟨rfl, rfl⟩
      rintro S M ⟨rfl, rfl⟩
      have hof := modP (dis b.now s i % PZ * inv61 b.gap)
      have estep : bmStep s i b = (if b.now.length < (sumL b.now (mendL i b.q (dis b.now s i % PZ * inv61 b.gap % PZ) b.failed)).length then ⟨sumL b.now (mendL i b.q (dis b.now s i % PZ * inv61 b.gap % PZ) b.failed), b.now, i + 1, dis b.now s i % PZ⟩ else ⟨sumL b.now (mendL i b.q (dis b.now s i % PZ * inv61 b.gap % PZ) b.failed), b.failed, b.q, b.gap⟩) := by
        unfold bmStep
        rw [if_neg e]
      generalize dis b.now s i % PZ * inv61 b.gap % PZ = often at hof estep ⊢
      generalize dis b.now s i % PZ = missing at hmod e estep ⊢
      refine zs_seq (zs_post (N := fun S M => S = [some (.d (iD ((List.range m).map s))), some (.d (iD b.now)), some (.d (iD b.failed)), some (.d (.int (b.q - 1))), some (.d (.int b.gap)), some (.d (.int (i : Int))), some (.d (.int (s i))), some (.d (.int missing)), c8, c9, some (.d (.int often)), some (.d (iD (mendL i b.q often b.failed))), c12]) ?_ ?_)
      · refine zs_asg (zw_op (zw_op (zw_frz (zw_op (zw_lstC ?_)))))
        walk_at "zq"
        walk_at "zt"
        intro l
        walk_at "zq"
        rw [show (i : Int) - ((b.q : Int) - 1) - 1 = ((i - b.q : Nat) : Int) by omega]
        refine zo_rep m0 (by omega) (by rw [hsz]; simp only [List.length_singleton]; omega) fun r => ?_
        refine ⟨r, _, _, rfl, .here, ?_⟩
        rw [rep_one, rep0]
        refine zw_lstD ?_
        walk_at "zq"
        walk_at "zt"
        refine zo_catD (by rw [List.length_map, List.length_replicate]; simp only [List.length_singleton]; omega) ?_
        refine lcL_map b.failed .int (fun x => .int (-often * x)) ?_
        walk_at "zq"
        refine ⟨rfl, by omega, fun c hc2 => ⟨_, _, ?_, zg_name, fun D acc => ?_⟩, ?_⟩
        · simp
        · walk_at "zq"
          refine zo_mul (.inl ⟨by omega, by omega⟩) ?_
          exact ⟨rfl, rfl⟩
        · refine zo_catD (by simp only [List.length_append, List.length_map, List.length_replicate, List.length_singleton]; omega) ?_
          have em : iD (mendL i b.q often b.failed) = .list ((List.replicate (i - b.q) (0 : Int)).map PyData.int ++ [.int often] ++ b.failed.map fun x => .int (-often * x)) := by
            unfold mendL iD
            rw [List.map_append, List.map_append, List.map_map]
            rfl
          rw [em]
          exact rfl
      rintro S M rfl
      refine ⟨[], List.nil_sublist _, ?_⟩
      have hml := mendL_len i b.q often b.failed
      walk_at "zq"
      refine ⟨_, _, allD_cons (allD_cons allD_nil), rfl, ⟨b.now, mendL i b.q often b.failed, rfl, by omega, by omega, rfl⟩, ?_⟩
      walk_at "zq"
      rw [List.length_map, List.length_map]
      refine ⟨fun e2 => ?_, fun e2 => ?_⟩
      · have e2 : (b.now.length : Int) < ((sumL b.now (mendL i b.q often b.failed)).length : Int) := of_decide_eq_true e2
        rw [if_pos (by omega)] at estep
        walk_at "zq"
        refine ⟨some (.d (.int (i : Int))), some (.d (.int (s i))), some (.d (.int missing)), c8, c9, some (.d (.int often)), some (.d (iD (mendL i b.q often b.failed))), some (.d (iD (sumL b.now (mendL i b.q often b.failed)))), ?_, rfl⟩
        rw [est, estep]
        dsimp only
        rw [show (((i + 1 : Nat) : Int) - 1) = (i : Int) by omega]
        rfl
      · have e2 : ¬ ((b.now.length : Int) < ((sumL b.now (mendL i b.q often b.failed)).length : Int)) := of_decide_eq_false e2
        rw [if_neg (by omega)] at estep
        walk_at "zq"
        refine ⟨some (.d (.int (i : Int))), some (.d (.int (s i))), some (.d (.int missing)), c8, c9, some (.d (.int often)), some (.d (iD (mendL i b.q often b.failed))), some (.d (iD (sumL b.now (mendL i b.q often b.failed)))), ?_, rfl⟩
        rw [est, estep]
        rfl
    · have e : dis b.now s i % PZ = 0 := by simpa using e
      walk_at "zq"
      refine ⟨some (.d (.int (i : Int))), some (.d (.int (s i))), some (.d (.int (dis b.now s i % PZ))), c8, c9, c10, c11, c12, ?_, rfl⟩
      rw [est, show bmStep s i b = b by unfold bmStep; rw [if_pos e]]
  · rintro S M ⟨c5, c6, c7, c8, c9, c10, c11, c12, rfl, rfl⟩
    rw [show (((List.range m).map s).map PyData.int).length = m by simp]
    walk_at "zq"
    try exact rfl
/-! ### far terms -/
theorem zip_range (s : Nat → Int) : ∀ (sh : List Int) (k n : Nat), sh.length ≤ n → (List.zipWith (fun x y => x * y) sh ((List.range n).map fun i => s (i + k))).sum = dot sh fun i => s (i + k)
  | [], k, n, _ => by simp [dot]
  | a :: sh, k, 0, h => absurd h (by simp)
  | a :: sh, k, n + 1, h => by
    rw [List.range_succ_eq_map, List.map_cons, List.map_map, List.zipWith_cons_cons, List.sum_cons, dot]
    have ih := zip_range s sh (k + 1) n (by simpa using h)
    have e : ((fun i => s (i + k)) ∘ Nat.succ) = fun i => s (i + (k + 1)) := funext fun i => by show s (i + 1 + k) = _; congr 1; omega
    rw [e, ih]
    congr 1
    congr 1
    funext i
    congr 1
    omega
theorem bm_pos {c : List Int} {s : Nat → Int} (hc : Rec c s) {N : Nat} (hN : c.length ≤ N) (h0 : ¬ Dv (s 0)) {n : Nat} (hn : 0 < n) : 1 ≤ (bmTo s n).now.length := by
  refine Classical.byContradiction fun h => h0 ?_
  have inv := bmTo_inv hc hN n
  have hl : (bmTo s n).now = [] := List.length_eq_zero_iff.mp (by omega)
  have := inv.good 0 (by rw [hl]; exact Nat.le_refl 0) hn
  rw [hl] at this
  simpa [dis, dot] using this
theorem far_eq {c : List Int} {s : Nat → Int} (hc : Rec c s) {N : Nat} (hN : c.length ≤ N) (h0 : ¬ Dv (s 0)) (hN0 : 0 < N) (n : Nat) : dot (shrTo (bmTo s (2 * N)).now n (MB.binL n).length) (fun i => s (i + 0)) % PZ = s n % PZ := by
  have hr := bm_end hc hN (bmTo_inv hc hN (2 * N))
  have := shrTo_shr hr (bm_pos hc hN h0 (n := 2 * N) (by omega)) n (MB.binL n).length
  have h := this.2.2 0
  rw [valTo_all] at h
  exact (Int.emod_eq_emod_iff_emod_sub_eq_zero.mpr (Int.emod_eq_zero_of_dvd h)).symm
def R_farTerm (ds : List PyData) (o : DOut) : Prop := ∃ (s : Nat → Int) (N : Nat) (c : List Int) (n : Nat), ds = [iD ((List.range (2 * N)).map s), .int (n : Int)] ∧ 0 < N ∧ N ≤ 100 ∧ Rec c s ∧ c.length ≤ N ∧ ¬ Dv (s 0) ∧ n < 2 ^ 1000 ∧ o = .ok (.int (s n % PZ))
theorem ok_far_term {P : Program} {w : World} {K : Fg} {mg : Str → Option Value} {base : Heap} {f : Addr} {fd : FuncData} (F : Fun K "far_term" "far_term" s_far_term f fd)
    (m_len : mg "len" = none)
    (g_PRIME : ∃ u, mg "PRIME" = some u ∧ RelV (.int 2305843009213693951) u)
    (m_sum : mg "sum" = none)
    (m_zip : mg "zip" = none)
    (c_shortest_recurrence : Cal P w K mg base 3 "shortest_recurrence" (spD K 1 R_shortest))
    (c__shares : Cal P w K mg base 4 "_shares" (spD K 2 R_shares)) :
    FnOk P w K mg base (L2.CX P w) 5 f fd ["terms", "index"] (spD K 2 R_farTerm) := by
  refine F.okX sc_far_term (fun vs H Q E h => len_D h) (fun cdv A outer s H vs Q E hr h => ⟨_, (pss_cons (ps_if (pt_cmpR op_lt (pv 1) (pe_callB call_len (by rfl) m_len bb_len (pa_cons (pv 0) pa_nil)) (nomark _)) (pss_one (ps_ret (pe_op op_mod (pe_ix ix_seq (pv 0) (pv 1) (fun _ _ => rfl)) (pe_glob (by rfl) g_PRIME.choose_spec.1 g_PRIME.choose_spec.2)))) pss_nil)
      (pss_cons (ps_set (i := 2) sc_far_term.nd rfl (by first | exact Or.inl rfl | exact Or.inr rfl) (pe_cl c_shortest_recurrence hr (show 3 ≤ 4 by decide) passL (pa_cons (pv 0) pa_nil)))
      (pss_cons (ps_set (i := 3) sc_far_term.nd rfl (by first | exact Or.inl rfl | exact Or.inr rfl) (pe_cl c__shares hr (show 4 ≤ 4 by decide) passL (pa_cons (pv 2) (pa_cons (pv 1) pa_nil))))
      (pss_one (ps_ret (pe_op op_mod (pe_callB (cr_sum rfl) (by rfl) m_sum bb_sum (pa_cons (pe_lc (own := [("share", 4), ("term", 5)]) rfl sc_far_term.nd (pi_zip (by rfl) m_zip (pa_cons (pv 3) (pa_cons (pv 0) pa_nil))) (blkOk_by (N := N_far_term) (sc := defScope s_far_term) (by decide +kernel)) (fun _ _ _ _ _ => (show PG _ _ (gTup K 2 _) from (pg_tup rfl (pgs_cons (pg_name (i := 4) sc_far_term.nd rfl (by first | exact Or.inl rfl | exact Or.inr rfl)) (pgs_cons (pg_name (i := 5) sc_far_term.nd rfl (by first | exact Or.inl rfl | exact Or.inr rfl)) pgs_nil))))) (fun _ _ _ _ _ => pts_nil) (fun _ _ _ _ _ => (pe_op op_mul (pv 4) (pv 5)))) pa_nil)) (pe_glob (by rfl) g_PRIME.choose_spec.1 g_PRIME.choose_spec.2))))))),
    fn_D h fun ds o hk hR => ?_⟩)
  try dsimp only [L2.cxOf]
  obtain ⟨s, N, c, n, rfl, h0, hN, hc, hcN, hs0, hn, rfl⟩ := hR
  have hsz : (sizeLine : Nat) = 16777216 := sizeLine_eq
  have hPZ : PZ = 2305843009213693951 := rfl
  have inv := bmTo_inv hc hcN (2 * N)
  have hpos := bm_pos hc hcN hs0 (n := 2 * N) (by omega)
  have hok := shrTo_ok (bmTo s (2 * N)).now hpos n (MB.binL n).length
  have hokl := hok.len
  have hle := inv.leN
  have heq := far_eq hc hcN hs0 h0 n
  walk_at "zq"
  rw [show (((List.range (2 * N)).map s).map PyData.int).length = 2 * N by simp]
  refine ⟨fun e => ?_, fun e => ?_⟩
  · have e : (n : Int) < ((2 * N : Nat) : Int) := of_decide_eq_true e
    walk_at "zq"
    refine zo_ix (atI_nat (v := .int (s n)) (by rw [List.getElem?_map, List.getElem?_map, List.getElem?_range (by omega)]; rfl)) ?_
    walk_at "zq"
    refine zo_mod (by decide) ?_
    exact ⟨_, rfl, rfl⟩
  · walk_at "zq"
    refine ⟨_, _, allD_cons allD_nil, rfl, ⟨s, N, 2 * N, c, rfl, by omega, hN, hc, hcN, rfl⟩, ?_⟩
    walk_at "zq"
    refine ⟨_, _, allD_cons (allD_cons allD_nil), rfl, ⟨(bmTo s (2 * N)).now, n, rfl, hpos, by omega, inv.few, hn, rfl⟩, ?_⟩
    refine zs_ret (zw_op (zw_cb (za_cons (lcZip_int (shrTo (bmTo s (2 * N)).now n (MB.binL n).length) ((List.range (2 * N)).map s) (fun x y => x * y) ?_))))
    walk_at "zq"
    refine ⟨rfl, by rw [List.length_map, List.length_range]; omega, by omega, fun x hx y hy => ⟨_, _, ?_, zg_tup rfl (zgs_cons (zgs_cons zgs_nil)), fun D acc => ?_⟩, ?_⟩
    · simp
    · have hxf := hok.few x hx
      walk_at "zq"
      refine zo_mul (.inl ⟨by omega, by omega⟩) ?_
      exact ⟨rfl, rfl⟩
    · walk_at "zq"
      refine zc_sum ?_
      walk_at "zq"
      refine zo_mod (by decide) ?_
      rw [show ((List.range (2 * N)).map s) = (List.range (2 * N)).map fun i => s (i + 0) from rfl, zip_range s _ 0 (2 * N) (by omega), heq]
      exact ⟨_, rfl, rfl⟩
/-! ### the ways of a strip -/
def entsTo (S i j : Nat) : List (Nat × Nat) := ((List.range i).flatMap fun a => (List.range S).map fun c => (a, c)) ++ (List.range j).map fun c => (i, c)
theorem entsTo_cell (S i j : Nat) : entsTo S i (j + 1) = entsTo S i j ++ [(i, j)] := by
  unfold entsTo
  rw [List.range_succ, List.map_append, List.append_assoc]
  rfl
theorem entsTo_row (S i : Nat) : entsTo S i S = entsTo S (i + 1) 0 := by
  unfold entsTo
  rw [List.range_succ, List.flatMap_append]
  simp
theorem entsTo_len (S i j : Nat) : (entsTo S i j).length = i * S + j := by
  induction i with
  | zero => unfold entsTo; simp
  | succ i ih =>
    have e : entsTo S (i + 1) j = entsTo S i S ++ (List.range j).map fun c => (i + 1, c) := by
      rw [entsTo_row]
      unfold entsTo
      simp
    have e2 : (entsTo S i S).length = i * S + S := by
      have h := ih
      unfold entsTo at h ⊢
      simp at h ⊢
      omega
    rw [e, List.length_append, e2, List.length_map, List.length_range, Nat.succ_mul]
def okE (r : Rl) (h : Nat) (e : Nat × Nat) : Bool := decide (latN r ((e.1 / 2 ^ h) <<< 2) ((e.1 % 2 ^ h) <<< 2) (e.2 <<< 2) (h + 2) = (e.1 % 2 ^ h) <<< 1)
def entP (h : Nat) (e : Nat × Nat) : Nat × Nat := (e.1, e.1 % 2 ^ h * 2 ^ h + e.2)
abbrev prN (p : Nat × Nat) : PyData := .tuple [.int (p.1 : Int), .int (p.2 : Int)]
def wayTo (r : Rl) (h i j : Nat) : List (Nat × Nat) := ((entsTo (2 ^ h) i j).filter (okE r h)).map (entP h)
def ways (r : Rl) (h : Nat) : List (Nat × Nat) := wayTo r h (2 ^ h * 2 ^ h) 0
theorem wayTo_cell (r : Rl) (h i j : Nat) : wayTo r h i (j + 1) = wayTo r h i j ++ if okE r h (i, j) then [entP h (i, j)] else [] := by
  unfold wayTo
  rw [entsTo_cell, List.filter_append, List.map_append]
  cases z : okE r h (i, j) <;> simp [z]
theorem wayTo_row (r : Rl) (h i : Nat) : wayTo r h i (2 ^ h) = wayTo r h (i + 1) 0 := by
  unfold wayTo
  rw [entsTo_row]
theorem wayTo_len (r : Rl) (h i j : Nat) : (wayTo r h i j).length ≤ i * 2 ^ h + j := by
  unfold wayTo
  rw [List.length_map]
  exact Nat.le_trans (List.length_filter_le _ _) (Nat.le_of_eq (entsTo_len _ _ _))
def R_ways (ds : List PyData) (o : DOut) : Prop := ∃ (r : Rl) (h : Nat), ds = [r.d, .int (h : Int)] ∧ Rule r ∧ 1 ≤ h ∧ h ≤ 3 ∧ o = .ok (.list ((ways r h).map prN))
theorem pow_small {h : Nat} (h1 : 1 ≤ h) (h3 : h ≤ 3) : 2 ≤ 2 ^ h ∧ 2 ^ h ≤ 8 := by
  have := Nat.pow_le_pow_right (n := 2) (by decide) h1
  have := Nat.pow_le_pow_right (n := 2) (by decide) h3
  omega
theorem ok_ways {P : Program} {w : World} {K : Fg} {mg : Str → Option Value} {base : Heap} {f : Addr} {fd : FuncData} {C_ColumnStepper : Addr} (F : Fun K "_ways" "_ways" s_ways f fd)
    (m_range : mg "range" = none)
    (m_divmod : mg "divmod" = none)
    (c_ColumnStepper_init : Mkr P w K mg base 2 "ColumnStepper" C_ColumnStepper (spO K C_ColumnStepper 2 R_csInit))
    (c_ColumnStepper_later : Mtd P w K mg base 1 C_ColumnStepper "later" (spO K C_ColumnStepper 3 R_csLater))
    (cl_ColumnStepper : Cls K C_ColumnStepper) :
    FnOk P w K mg base (L2.CX P w) 4 f fd ["rule", "high"] (spD K 2 R_ways) := by
  obtain ⟨f_ColumnStepper_later, fd_ColumnStepper_later, ps_ColumnStepper_later, G_ColumnStepper_later, M_ColumnStepper_later, B_ColumnStepper_later⟩ := c_ColumnStepper_later
  refine F.okX sc_ways (fun vs H Q E h => len_D h) (fun cdv A outer s H vs Q E hr h => ⟨_, (pss_cons (ps_set (i := 2) sc_ways.nd rfl (by first | exact Or.inl rfl | exact Or.inr rfl) (pe_mkr (j := 2) c_ColumnStepper_init (hr.mono (by decide)) (by decide) passL (pa_cons (pv 0) (pa_cons (pe_op op_addA (pv 1) pe_int) pa_nil))))
      (pss_cons (ps_set (i := 3) sc_ways.nd rfl (by first | exact Or.inl rfl | exact Or.inr rfl) (pe_op op_shlW pe_int (pv 1)))
      (pss_cons (ps_set (i := 4) sc_ways.nd rfl (by first | exact Or.inl rfl | exact Or.inr rfl) (pe_lst pa_nil))
      (pss_cons (ps_for (passes_of rfl) rfl (pi_range1 (by rfl) m_range (pa_cons (pe_op op_mul (pv 3) (pv 3)) pa_nil)) (pg_name (i := 5) sc_ways.nd rfl (by first | exact Or.inl rfl | exact Or.inr rfl)) (pss_cons (ps_asg (pe_callB call_divmodW (by rfl) m_divmod bb_divmod (pa_cons (pv 5) (pa_cons (pv 3) pa_nil))) (pg_tup rfl (pgs_cons (pg_name (i := 6) sc_ways.nd rfl (by first | exact Or.inl rfl | exact Or.inr rfl)) (pgs_cons (pg_name (i := 7) sc_ways.nd rfl (by first | exact Or.inl rfl | exact Or.inr rfl)) pgs_nil))))
      (pss_one (ps_for (passes_of rfl) rfl (pi_range1 (by rfl) m_range (pa_cons (pv 3) pa_nil)) (pg_name (i := 8) sc_ways.nd rfl (by first | exact Or.inl rfl | exact Or.inr rfl)) (pss_one (ps_if (pt_cmpR (op_eqA hr.units) (pe_meth (pv 2) cl_ColumnStepper M_ColumnStepper_later G_ColumnStepper_later (hr.mono (show 1 ≤ 3 by decide)) B_ColumnStepper_later .nil passL (pa_cons (pe_op op_shlW (pv 6) pe_int) (pa_cons (pe_op op_shlW (pv 7) pe_int) (pa_cons (pe_op op_shlW (pv 8) pe_int) pa_nil)))) (pe_op op_shlW (pv 7) pe_int) (nomark _)) (pss_one (ps_expr (pe_bm PySem.F.plainAttrs_list PySem.F.slot_list_append PySem.F.type_list_append mt_append (pv 4) (pa_cons (pe_tup (pa_cons (pv 5) (pa_cons (pe_op op_addA (pe_op op_mul (pv 7) (pv 3)) (pv 8)) pa_nil))) pa_nil)))) pss_nil))))))
      (pss_one (ps_ret (pv 4))))))),
    fn_D h fun ds o hk hR => ?_⟩)
  try dsimp only [L2.cxOf]
  obtain ⟨r, h, rfl, hr2, h1, h3, rfl⟩ := hR
  have hsz : (sizeLine : Nat) = 16777216 := sizeLine_eq
  obtain ⟨S, hS⟩ : ∃ S, S = 2 ^ h := ⟨_, rfl⟩
  have hS8 : 2 ≤ S ∧ S ≤ 8 := by rw [hS]; exact pow_small h1 h3
  have hSS : S * S ≤ 64 := Nat.mul_le_mul hS8.2 hS8.2
  walk_at "zfq"
  rw [show ((h : Int) + 2) = ((h + 2 : Nat) : Int) by omega]
  obtain ⟨h', hh'⟩ : ∃ h', h' = h + 2 := ⟨_, rfl⟩
  rw [← hh']
  refine ⟨_, _, allD_cons (allD_cons allD_nil), rfl, ⟨r, h', rfl, rfl, hr2, rfl, rfl⟩, fun st => ?_⟩
  walk_at "zfq"
  refine zo_shlN (a := 1) (k := h) (sh_ok (by decide) (by omega)) ?_
  rw [show 1 <<< h = S by rw [Nat.shiftLeft_eq, Nat.one_mul, hS]]
  walk_at "zfq"
  refine zw_lstC ?_
  walk_at "zfq"
  walk_at "zt"
  intro q
  walk_at "zfq"
  refine zo_mul (.inl ⟨by omega, by omega⟩) ?_
  rw [show (S : Int) * (S : Int) = ((S * S : Nat) : Int) by rw [Int.natCast_mul]]
  walk_at "zfq"
  refine ⟨by omega, by omega, fun i S2 M2 => ∃ c5 c6 c7 c8 : Option ZV, S2 = [some (.d r.d), some (.d (.int (h : Int))), some (.c st), some (.d (.int (S : Int))), some (.c q), c5, c6, c7, c8] ∧ M2 = [(q, true, .lst ((wayTo r h i 0).map prN)), (st, true, .obj C_ColumnStepper (csFs r h'))], ⟨_, _, _, _, rfl, rfl⟩, ?_, ?_⟩
  · rintro i S2 M2 hi ⟨c5, c6, c7, c8, rfl, rfl⟩
    have hi : i < S * S := by omega
    have hdv : i / S < S := Nat.div_lt_of_lt_mul hi
    have hmd : i % S < S := Nat.mod_lt i (by omega)
    refine ⟨_, _, zg_name, ?_⟩
    rw [show (0 : Int) + (i : Int) = (i : Int) by omega]
    walk_at "zfq"
    refine zc_divmod (divp_small (by omega) (by have : i < 2 ^ 4000 := Nat.lt_of_lt_of_le (show i < 256 by omega) (by decide +kernel); omega)) ?_
    rw [← Int.natCast_ediv, ← Int.natCast_emod]
    refine ⟨_, _, zg_tup rfl (zgs_cons (zgs_cons zgs_nil)), ?_⟩
    walk_at "zfq"
    refine ⟨by omega, by omega, fun j S2 M2 => ∃ c8 : Option ZV, S2 = [some (.d r.d), some (.d (.int (h : Int))), some (.c st), some (.d (.int (S : Int))), some (.c q), some (.d (.int (i : Int))), some (.d (.int ((i / S : Nat) : Int))), some (.d (.int ((i % S : Nat) : Int))), c8] ∧ M2 = [(q, true, .lst ((wayTo r h i j).map prN)), (st, true, .obj C_ColumnStepper (csFs r h'))], ⟨_, rfl, rfl⟩, ?_, ?_⟩
    · rintro j S2 M2 hj ⟨c8, rfl, rfl⟩
      have hj : j < S := by omega
      have hwl := wayTo_len r h i j
      rw [← hS] at hwl
      have hiS : i * S ≤ 64 * 8 := Nat.mul_le_mul (by omega) hS8.2
      have ecell := wayTo_cell r h i j
      have hok : okE r h (i, j) = decide (latN r ((i / S) <<< 2) ((i % S) <<< 2) (j <<< 2) h' = (i % S) <<< 1) := by unfold okE; rw [← hS, ← hh']
      have hent : entP h (i, j) = (i, i % S * S + j) := by unfold entP; rw [← hS]
      rw [hok, hent] at ecell
      refine ⟨_, _, zg_name, ?_⟩
      rw [show (0 : Int) + (j : Int) = (j : Int) by omega]
      walk_at "zfq"
      refine ⟨⟨_, _, m1 m0, rfl⟩, ?_⟩
      walk_at "zfq"
      refine zo_shlN (k := 2) (sh_ok (by omega) (by decide)) ?_
      walk_at "zfq"
      refine zo_shlN (k := 2) (sh_ok (by omega) (by decide)) ?_
      walk_at "zfq"
      refine zo_shlN (k := 2) (sh_ok (by omega) (by decide)) ?_
      walk_at "zfq"
      refine ⟨true, _, _, _, _, _, allD_cons (allD_cons (allD_cons allD_nil)), rfl, ⟨r, h', (i / S) <<< 2, (i % S) <<< 2, j <<< 2, rfl, rfl, by omega, rfl, rfl⟩, .there .here, ?_⟩
      walk_at "zfq"
      refine zo_shlN (k := 1) (sh_ok (by omega) (by decide)) ?_
      generalize latN r ((i / S) <<< 2) ((i % S) <<< 2) (j <<< 2) h' = lat at ecell ⊢
      walk_at "zfq"
      refine ⟨fun e => ?_, fun e => ?_⟩
      · have e : lat = (i % S) <<< 1 := by have := of_decide_eq_true e; omega
        rw [decide_eq_true e, if_pos rfl] at ecell
        refine zs_drop (zw_append ?_)
        walk_at "zfq"
        refine ⟨⟨_, _, m0⟩, ?_⟩
        walk_at "zfq"
        refine zo_mul (.inl ⟨by omega, by omega⟩) ?_
        rw [show ((i % S : Nat) : Int) * (S : Int) = ((i % S * S : Nat) : Int) by rw [Int.natCast_mul]]
        walk_at "zfq"
        walk_at "zt"
        refine ⟨_, true, _, _, rfl, .here, by rw [List.length_map, hsz]; omega, ?_⟩
        refine ⟨_, rfl, ?_⟩
        rw [ecell, List.map_append, ← Int.natCast_add]
        rfl
      · have e : ¬ lat = (i % S) <<< 1 := by have := of_decide_eq_false e; omega
        rw [decide_eq_false e, if_neg (by decide), List.append_nil] at ecell
        walk_at "zfq"
        rw [ecell]
    · rintro S2 M2 ⟨c8, rfl, rfl⟩
      rw [Int.toNat_natCast]
      refine ⟨_, _, _, _, rfl, ?_⟩
      rw [hS, wayTo_row]
  · rintro S2 M2 ⟨c5, c6, c7, c8, rfl, rfl⟩
    rw [Int.toNat_natCast]
    refine zs_ret (zw_frz ?_)
    walk_at "zfq"
    refine ⟨_, _, _, rfl, .here, ?_⟩
    exact ⟨_, rfl, by unfold ways; rw [hS]⟩
/-! ### how many rest -/
def cPart (P : Nat) (W : List (Nat × Nat)) (cnt : List Int) : Nat → List Int
  | 0 => List.replicate P 0
  | j + 1 => (cPart P W cnt j).set (W.getD j (0, 0)).2 ((cPart P W cnt j).getD (W.getD j (0, 0)).2 0 + cnt.getD (W.getD j (0, 0)).1 0)
def cVec (r : Rl) (h : Nat) : Nat → List Int
  | 0 => (List.replicate (2 ^ h * 2 ^ h) 0).set 0 1
  | k + 1 => cPart (2 ^ h * 2 ^ h) (ways r h) (cVec r h k) (ways r h).length
def cnum (r : Rl) (h w : Nat) : Int := (cVec r h (w + 2)).getD 0 0
theorem cPart_len (P : Nat) (W : List (Nat × Nat)) (cnt : List Int) : ∀ j, (cPart P W cnt j).length = P
  | 0 => List.length_replicate
  | j + 1 => by rw [cPart, List.length_set, cPart_len P W cnt j]
theorem cVec_len (r : Rl) (h : Nat) : ∀ k, (cVec r h k).length = 2 ^ h * 2 ^ h
  | 0 => by rw [cVec, List.length_set, List.length_replicate]
  | k + 1 => cPart_len _ _ _ _
theorem way_lt {r : Rl} {h : Nat} {e : Nat × Nat} (he : e ∈ ways r h) : e.1 < 2 ^ h * 2 ^ h ∧ e.2 < 2 ^ h * 2 ^ h := by
  unfold ways wayTo at he
  obtain ⟨e0, h0, rfl⟩ := List.mem_map.mp he
  have h1 := (List.mem_filter.mp h0).1
  unfold entsTo at h1
  rw [List.range_zero, List.map_nil, List.append_nil] at h1
  obtain ⟨a, ha, hb⟩ := List.mem_flatMap.mp h1
  obtain ⟨c, hc, rfl⟩ := List.mem_map.mp hb
  rw [List.mem_range] at ha hc
  refine ⟨ha, ?_⟩
  show a % 2 ^ h * 2 ^ h + c < _
  have hm := Nat.mod_lt a (Nat.two_pow_pos h)
  have := Nat.mul_le_mul_right (2 ^ h) (show a % 2 ^ h + 1 ≤ 2 ^ h by omega)
  rw [Nat.add_mul, Nat.one_mul] at this
  omega
theorem cut_one (l : List PyData) : Z.cutD l (some 1) none = l.drop 1 := by
  unfold Z.cutD
  rw [HT.sIx_none, show (1 : Int) = ((1 : Nat) : Int) from rfl, HT.sIx_nat]
  rcases Nat.lt_or_ge 0 l.length with h | h
  · rw [Nat.min_eq_left h, List.take_of_length_le (by simp)]
  · have : l = [] := List.length_eq_zero_iff.mp (by omega)
    subst this
    rfl
theorem nums_all (r : Rl) (h m : Nat) : (((List.range (m + 2)).map fun k => (cVec r h (k + 1)).getD 0 0).map PyData.int).drop 1 = ((List.range (m + 1)).map (cnum r h)).map PyData.int := by
  rw [List.range_succ_eq_map, List.map_cons, List.map_cons, List.drop_one, List.tail_cons, List.map_map, List.map_map, List.map_map]
  rfl
def R_numbers (ds : List PyData) (o : DOut) : Prop := ∃ (r : Rl) (h m : Nat), ds = [r.d, .int (h : Int), .int (m : Int)] ∧ Rule r ∧ 1 ≤ h ∧ h ≤ 3 ∧ m ≤ 200 ∧ o = .ok (iD ((List.range (m + 1)).map (cnum r h)))
theorem ok_numbers {P : Program} {w : World} {K : Fg} {mg : Str → Option Value} {base : Heap} {f : Addr} {fd : FuncData} (F : Fun K "_numbers" "_numbers" s_numbers f fd)
    (m_range : mg "range" = none)
    (m_len : mg "len" = none)
    (c__ways : Cal P w K mg base 4 "_ways" (spD K 2 R_ways)) :
    FnOk P w K mg base (L2.CX P w) 5 f fd ["rule", "high", "most"] (spD K 3 R_numbers) := by
  refine F.okX sc_numbers (fun vs H Q E h => len_D h) (fun cdv A outer s H vs Q E hr h => ⟨_, (pss_cons (ps_set (i := 3) sc_numbers.nd rfl (by first | exact Or.inl rfl | exact Or.inr rfl) (pe_cl c__ways hr (show 4 ≤ 4 by decide) passL (pa_cons (pv 0) (pa_cons (pv 1) pa_nil))))
      (pss_cons (ps_set (i := 4) sc_numbers.nd rfl (by first | exact Or.inl rfl | exact Or.inr rfl) (pe_op op_rep (pe_lst (pa_cons pe_int pa_nil)) (pe_op op_shlW pe_int (pe_op op_mul pe_int (pv 1)))))
      (pss_cons (ps_asg pe_int (pg_sub (pv 4) pe_int set_list))
      (pss_cons (ps_set (i := 5) sc_numbers.nd rfl (by first | exact Or.inl rfl | exact Or.inr rfl) (pe_lst pa_nil))
      (pss_cons (ps_for (passes_of rfl) rfl (pi_range1 (by rfl) m_range (pa_cons (pe_op op_addA (pv 2) pe_int) pa_nil)) (pg_name (i := 6) sc_numbers.nd rfl (by first | exact Or.inl rfl | exact Or.inr rfl)) (pss_cons (ps_set (i := 7) sc_numbers.nd rfl (by first | exact Or.inl rfl | exact Or.inr rfl) (pe_op op_rep (pe_lst (pa_cons pe_int pa_nil)) (pe_callB call_len (by rfl) m_len bb_len (pa_cons (pv 4) pa_nil))))
      (pss_cons (ps_for (passes_of rfl) rfl (pi_list (pv 3)) (pg_tup rfl (pgs_cons (pg_name (i := 8) sc_numbers.nd rfl (by first | exact Or.inl rfl | exact Or.inr rfl)) (pgs_cons (pg_name (i := 9) sc_numbers.nd rfl (by first | exact Or.inl rfl | exact Or.inr rfl)) pgs_nil))) (pss_one (ps_augS (pv 7) (pv 9) get_list (pe_ix ix_seq (pv 4) (pv 8) (fun _ _ => rfl)) ip_add set_list)))
      (pss_cons (ps_set (i := 4) sc_numbers.nd rfl (by first | exact Or.inl rfl | exact Or.inr rfl) (pv 7))
      (pss_one (ps_expr (pe_bm PySem.F.plainAttrs_list PySem.F.slot_list_append PySem.F.type_list_append mt_append (pv 5) (pa_cons (pe_ix ix_seq (pv 4) pe_int (fun _ _ => rfl)) pa_nil))))))))
      (pss_one (ps_ret (pe_slice sl_any (pv 5) (po_some pe_int) po_none)))))))),
    fn_D h fun ds o hk hR => ?_⟩)
  try dsimp only [L2.cxOf]
  obtain ⟨r, h, m, rfl, hr2, h1, h3, hm, rfl⟩ := hR
  have hsz : (sizeLine : Nat) = 16777216 := sizeLine_eq
  have hS8 := pow_small h1 h3
  have hP : 2 ^ h * 2 ^ h ≤ 64 := Nat.mul_le_mul hS8.2 hS8.2
  have hP0 : 4 ≤ 2 ^ h * 2 ^ h := Nat.mul_le_mul hS8.1 hS8.1
  have hwl : ∀ e ∈ ways r h, e.1 < 2 ^ h * 2 ^ h ∧ e.2 < 2 ^ h * 2 ^ h := fun e he => way_lt he
  walk_at "zq"
  refine ⟨_, _, allD_cons (allD_cons allD_nil), rfl, ⟨r, h, rfl, hr2, h1, h3, rfl⟩, ?_⟩
  refine zs_seq (zs_post (N := fun S M => ∃ qc l : Addr, S = [some (.d r.d), some (.d (.int (h : Int))), some (.d (.int (m : Int))), some (.d (.list ((ways r h).map prN))), some (.c qc), none, none, none, none, none] ∧ M = [(qc, true, .lst ((List.replicate (2 ^ h * 2 ^ h) (0 : Int)).map .int)), (l, true, .lst [.int 0])]) ?_ ?_)
  · walk_at "zq"
    refine zw_lstC ?_
    walk_at "zq"
    walk_at "zt"
    intro l
    walk_at "zq"
    refine zo_mul (.inl ⟨by decide, by decide⟩) ?_
    rw [show (2 : Int) * (h : Int) = ((2 * h : Nat) : Int) by rw [Int.natCast_mul]; rfl]
    refine zo_shlN (a := 1) (k := 2 * h) (sh_ok (by decide) (by omega)) ?_
    rw [show 1 <<< (2 * h) = 2 ^ h * 2 ^ h by rw [Nat.shiftLeft_eq, Nat.one_mul, Nat.two_mul, Nat.pow_add]]
    refine zo_rep m0 (by omega) (by rw [hsz]; simp only [List.length_singleton]; omega) fun qc => ?_
    refine ⟨qc, l, rfl, ?_⟩
    rw [rep_one, rep0]
  rintro S M ⟨qc, l, rfl, rfl⟩
  refine ⟨[(qc, true, .lst ((List.replicate (2 ^ h * 2 ^ h) (0 : Int)).map .int))], .cons₂ _ (.cons _ .slnil), ?_⟩
  walk_at "zq"
  refine ⟨qc, true, _, 0, 0, _, rfl, rfl, ?_, .here, ?_⟩
  · unfold ixN
    rw [List.length_map, List.length_replicate, if_pos (by decide), if_pos (by omega)]
    rfl
  rw [show ((List.replicate (2 ^ h * 2 ^ h) (0 : Int)).map PyData.int).set 0 (.int 1) = (cVec r h 0).map .int by rw [int_set]; rfl]
  walk_at "zq"
  refine zw_lstC ?_
  walk_at "zq"
  walk_at "zt"
  intro qn
  refine zs_perm (.swap _ _ _) ?_
  walk_at "zq"
  refine ⟨by omega, by omega, fun i S M => ∃ (qc : Addr) (c6 c7 c8 c9 : Option ZV), S = [some (.d r.d), some (.d (.int (h : Int))), some (.d (.int (m : Int))), some (.d (.list ((ways r h).map prN))), some (.c qc), some (.c qn), c6, c7, c8, c9] ∧ M = [(qc, true, .lst ((cVec r h i).map .int)), (qn, true, .lst (((List.range i).map fun k => (cVec r h (k + 1)).getD 0 0).map PyData.int))], ⟨_, _, _, _, _, rfl, rfl⟩, ?_, ?_⟩
  · rintro i S M hi ⟨qc, c6, c7, c8, c9, rfl, rfl⟩
    have hi : i < m + 2 := by omega
    have hcl := cVec_len r h i
    have esucc : cVec r h (i + 1) = cPart (2 ^ h * 2 ^ h) (ways r h) (cVec r h i) (ways r h).length := rfl
    have enum : ((List.range (i + 1)).map fun k => (cVec r h (k + 1)).getD 0 0).map PyData.int = ((List.range i).map fun k => (cVec r h (k + 1)).getD 0 0).map PyData.int ++ [.int ((cVec r h (i + 1)).getD 0 0)] := by rw [List.range_succ, List.map_append, List.map_append]; rfl
    have hcl1 := cVec_len r h (i + 1)
    have hnl : (((List.range i).map fun k => (cVec r h (k + 1)).getD 0 0).map PyData.int).length = i := by simp
    generalize ((List.range i).map fun k => (cVec r h (k + 1)).getD 0 0).map PyData.int = nums at enum hnl ⊢
    generalize cVec r h i = cnt at hcl esucc ⊢
    refine ⟨_, _, zg_name, ?_⟩
    refine zs_seq (zs_post (N := fun S M => ∃ ql l : Addr, S = [some (.d r.d), some (.d (.int (h : Int))), some (.d (.int (m : Int))), some (.d (.list ((ways r h).map prN))), some (.c qc), some (.c qn), some (.d (.int (i : Int))), some (.c ql), c8, c9] ∧ M = [(ql, true, .lst ((cPart (2 ^ h * 2 ^ h) (ways r h) cnt 0).map .int)), (l, true, .lst [.int 0]), (qc, true, .lst (cnt.map .int)), (qn, true, .lst nums)]) ?_ ?_)
    · walk_at "zq"
      refine zw_lstC ?_
      walk_at "zq"
      walk_at "zt"
      intro l
      walk_at "zq"
      rw [List.length_map, hcl]
      refine zo_rep m0 (by omega) (by rw [hsz]; simp only [List.length_singleton]; omega) fun ql => ?_
      refine ⟨ql, l, ?_, ?_⟩
      · rw [show (0 : Int) + (i : Int) = (i : Int) by omega]
        rfl
      · rw [rep_one, rep0]
        rfl
    rintro S M ⟨ql, l, rfl, rfl⟩
    refine ⟨[(ql, true, .lst ((cPart (2 ^ h * 2 ^ h) (ways r h) cnt 0).map .int)), (qc, true, .lst (cnt.map .int)), (qn, true, .lst nums)], .cons₂ _ (.cons _ (.cons₂ _ (.cons₂ _ .slnil))), ?_⟩
    refine zs_seq (zs_nx (N := fun S M => ∃ (c8 c9 : Option ZV), S = [some (.d r.d), some (.d (.int (h : Int))), some (.d (.int (m : Int))), some (.d (.list ((ways r h).map prN))), some (.c qc), some (.c qn), some (.d (.int (i : Int))), some (.c ql), c8, c9] ∧ M = [(ql, true, .lst ((cPart (2 ^ h * 2 ^ h) (ways r h) cnt (ways r h).length).map .int)), (qc, true, .lst (cnt.map .int)), (qn, true, .lst nums)]) ?_ ?_)
    · walk_at "zq"
      refine ⟨fun j S M => ∃ (c8 c9 : Option ZV), S = [some (.d r.d), some (.d (.int (h : Int))), some (.d (.int (m : Int))), some (.d (.list ((ways r h).map prN))), some (.c qc), some (.c qn), some (.d (.int (i : Int))), some (.c ql), c8, c9] ∧ M = [(ql, true, .lst ((cPart (2 ^ h * 2 ^ h) (ways r h) cnt j).map .int)), (qc, true, .lst (cnt.map .int)), (qn, true, .lst nums)], ⟨_, _, rfl, rfl⟩, ?_, ?_⟩
      · rintro j x S M hx ⟨c8, c9, rfl, rfl⟩
        rw [List.getElem?_map] at hx
        obtain ⟨e, he, rfl⟩ := Option.map_eq_some_iff.mp hx
        obtain ⟨he1, he2⟩ := hwl e (List.mem_of_getElem? he)
        have eD : (ways r h).getD j (0, 0) = e := by rw [List.getD_eq_getElem?_getD, he]; rfl
        have hpl := cPart_len (2 ^ h * 2 ^ h) (ways r h) cnt j
        have ps : cPart (2 ^ h * 2 ^ h) (ways r h) cnt (j + 1) = (cPart (2 ^ h * 2 ^ h) (ways r h) cnt j).set e.2 ((cPart (2 ^ h * 2 ^ h) (ways r h) cnt j).getD e.2 0 + cnt.getD e.1 0) := by rw [cPart, eD]
        generalize cPart (2 ^ h * 2 ^ h) (ways r h) cnt j = part at hpl ps ⊢
        refine ⟨_, _, zg_tup rfl (zgs_cons (zgs_cons zgs_nil)), ?_⟩
        refine zs_augL ?_
        walk_at "zq"
        refine ⟨ql, true, _, e.2, part.getD e.2 0, rfl, rfl, m0, int_at (by omega), ?_⟩
        walk_at "zq"
        refine zo_ixC (m1 m0) (atI_nat (int_at (l := cnt) (k := e.1) (by omega))) ?_
        refine ⟨_, true, _, _, rfl, .here, by rw [List.length_map, hpl]; exact he2, ?_⟩
        refine ⟨_, _, rfl, ?_⟩
        rw [ps, int_set]
      · rintro S M ⟨c8, c9, rfl, rfl⟩
        rw [List.length_map]
        exact ⟨_, _, rfl, rfl⟩
    rintro S M ⟨c8, c9, rfl, rfl⟩
    rw [← esucc]
    refine zs_seq (zs_post (N := fun S M => S = [some (.d r.d), some (.d (.int (h : Int))), some (.d (.int (m : Int))), some (.d (.list ((ways r h).map prN))), some (.c ql), some (.c qn), some (.d (.int (i : Int))), some (.c ql), c8, c9] ∧ M = [(ql, true, .lst ((cVec r h (i + 1)).map .int)), (qc, true, .lst (cnt.map .int)), (qn, true, .lst nums)]) ?_ ?_)
    · walk_at "zq"
      exact ⟨rfl, rfl⟩
    rintro S M ⟨rfl, rfl⟩
    refine ⟨[(ql, true, .lst ((cVec r h (i + 1)).map .int)), (qn, true, .lst nums)], .cons₂ _ (.cons _ (.cons₂ _ .slnil)), ?_⟩
    refine zs_nx (N := fun S M => S = [some (.d r.d), some (.d (.int (h : Int))), some (.d (.int (m : Int))), some (.d (.list ((ways r h).map prN))), some (.c ql), some (.c qn), some (.d (.int (i : Int))), some (.c ql), c8, c9] ∧ M = [(ql, true, .lst ((cVec r h (i + 1)).map .int)), (qn, true, .lst (nums ++ [.int ((cVec r h (i + 1)).getD 0 0)]))]) ?_ ?_
    · generalize cVec r h (i + 1) = cnt1 at hcl1 ⊢
      have h0 : atI (cnt1.map PyData.int) 0 = some (.int (cnt1.getD 0 0)) := atI_nat (j := 0) (int_at (by omega))
      refine zs_drop (zw_append ?_)
      walk_at "zq"
      refine ⟨⟨_, _, m1 m0⟩, ?_⟩
      walk_at "zq"
      refine ⟨_, true, _, _, rfl, .there .here, by rw [hsz]; omega, ?_⟩
      exact ⟨rfl, rfl⟩
    · rintro S M ⟨rfl, rfl⟩
      refine ⟨_, _, _, _, _, rfl, ?_⟩
      rw [enum]
  · rintro S M ⟨qc, c6, c7, c8, c9, rfl, rfl⟩
    rw [show ((m : Int) + 2).toNat = m + 2 by omega]
    refine zs_ret (zw_sl (zw_frz ?_))
    walk_at "zq"
    refine ⟨_, _, _, rfl, .there .here, ?_⟩
    walk_at "zq"
    rw [cut_one, nums_all]
/-! ### the counts, as sums -/
theorem cPart_sum (P : Nat) (W : List (Nat × Nat)) (hW : ∀ e ∈ W, e.2 < P) (cnt : List Int) (x : Nat) : ∀ j, j ≤ W.length → (cPart P W cnt j).getD x 0 = (((W.take j).filter fun e => e.2 == x).map fun e => cnt.getD e.1 0).sum
  | 0, _ => by
    rw [cPart, List.take_zero]
    simp [List.getD_eq_getElem?_getD, List.getElem?_replicate]
    split <;> rfl
  | j + 1, hj => by
    have ih := cPart_sum P W hW cnt x j (by omega)
    have he := List.getElem?_eq_getElem (l := W) (i := j) (by omega)
    have eD : W.getD j (0, 0) = W[j] := by rw [List.getD_eq_getElem?_getD, he]; rfl
    have h2 := hW W[j] (List.getElem_mem _)
    have hl := cPart_len P W cnt j
    rw [cPart, eD, List.take_add_one, he, List.filter_append, List.map_append, List.sum_append, ← ih]
    rw [List.getD_eq_getElem?_getD, List.getElem?_set]
    by_cases hx : W[j].2 = x
    · rw [if_pos hx, if_pos (by omega)]
      simp [hx]
    · rw [if_neg hx]
      simp [hx, List.getD_eq_getElem?_getD]
/-- is one of the pairs followed by the other? -/
def edg (r : Rl) (h y x : Nat) : Int := (((ways r h).filter fun e => e.1 == y && e.2 == x).length : Nat)
theorem sum_group (W : List (Nat × Nat)) (f : Nat → Int) (P x : Nat) (hW : ∀ e ∈ W, e.1 < P) : ((W.filter fun e => e.2 == x).map fun e => f e.1).sum = sm P fun y => ((W.filter fun e => e.1 == y && e.2 == x).length : Nat) * f y := by
  induction W with
  | nil => simp; rw [sm_zero]
  | cons e W ih =>
    have ih := ih fun e' he => hW e' (List.mem_cons_of_mem _ he)
    have h1 := hW e List.mem_cons_self
    have one : ∀ n, sm n (fun y => (if y = e.1 then (1 : Int) else 0) * f y) = if e.1 < n then f e.1 else 0 := by
      intro n
      induction n with
      | zero => simp [sm]
      | succ n ihn =>
        rw [sm, ihn]
        by_cases h : n = e.1
        · subst h; simp
        · rw [if_neg h]
          by_cases h2 : e.1 < n
          · rw [if_pos h2, if_pos (by omega)]; simp
          · rw [if_neg h2, if_neg (by omega)]; simp
    by_cases hx : e.2 = x
    · have e1 : (e :: W).filter (fun e => e.2 == x) = e :: W.filter fun e => e.2 == x := by simp [hx]
      rw [e1, List.map_cons, List.sum_cons, ih]
      have e2 : sm P (fun y => (((e :: W).filter fun e => e.1 == y && e.2 == x).length : Nat) * f y) = sm P (fun y => (if y = e.1 then (1 : Int) else 0) * f y + ((W.filter fun e => e.1 == y && e.2 == x).length : Nat) * f y) := by
        refine sm_congr P fun y _ => ?_
        by_cases hy : e.1 = y
        · rw [List.filter_cons_of_pos (by simp [hy, hx]), if_pos hy.symm, List.length_cons]
          rw [Int.natCast_add]; grind
        · rw [List.filter_cons_of_neg (by simp [hy]), if_neg (fun z => hy z.symm)]; grind
      rw [e2, sm_add, one, if_pos h1]
    · have e1 : (e :: W).filter (fun e => e.2 == x) = W.filter fun e => e.2 == x := by simp [hx]
      rw [e1, ih]
      exact sm_congr P fun y _ => by rw [List.filter_cons_of_neg (by simp [hx])]
theorem cVec_sum (r : Rl) (h k x : Nat) : (cVec r h (k + 1)).getD x 0 = sm (2 ^ h * 2 ^ h) fun y => edg r h y x * (cVec r h k).getD y 0 := by
  rw [cVec, cPart_sum _ _ (fun e he => (way_lt he).2) _ _ _ (Nat.le_refl _), List.take_length]
  exact sum_group (ways r h) (fun y => (cVec r h k).getD y 0) _ x fun e he => (way_lt he).1
/-- the counts of a strip have a recurrence -/
theorem cnum_rec (r : Rl) (h : Nat) : ∃ c : List Int, c.length ≤ 2 ^ h * 2 ^ h ∧ Rec c (cnum r h) := by
  have hP : 0 < 2 ^ h * 2 ^ h := Nat.mul_pos (Nat.two_pow_pos h) (Nat.two_pow_pos h)
  exact has_rec (2 ^ h * 2 ^ h) (fun i x => (cVec r h (i + 2)).getD x 0) (fun y x => edg r h y x) hP fun i x _ => cVec_sum r h (i + 2) x
/-! ### what becomes of a cell, by three columns -/
theorem ones_lt {a n : Nat} (h : a < 2 ^ n) : (MB.ones a).length = ((List.range n).filter fun k => a.testBit k).length := by
  have hp : (MB.ones a).Perm ((List.range n).filter fun k => a.testBit k) := by
    refine (List.perm_ext_iff_of_nodup (MB.ones_nodup a) (List.nodup_range.filter _)).mpr fun k => ?_
    rw [MB.mem_ones, List.mem_filter, List.mem_range]
    refine ⟨fun hk => ⟨?_, hk⟩, fun hk => hk.2⟩
    rcases Nat.lt_or_ge k n with z | z
    · exact z
    · have := Nat.testBit_lt_two_pow (Nat.lt_of_lt_of_le h (Nat.pow_le_pow_right (by decide) z))
      rw [this] at hk; cases hk
  exact hp.length_eq
theorem filt_succ (p : Nat → Bool) (n : Nat) : ((List.range (n + 1)).filter p).length = ((List.range n).filter p).length + (p n).toNat := by
  rw [List.range_succ, List.filter_append, List.length_append]
  congr 1
  cases h : p n <;> simp [h]
/-- three bits of a column around a row -/
def triB (l i : Nat) : Nat := (l.testBit i).toNat + (l.testBit (i + 1)).toNat + (l.testBit (i + 2)).toNat
theorem and7_bit (x k : Nat) : (x &&& 7).testBit k = (x.testBit k && decide (k < 3)) := by
  rw [Nat.testBit_and]
  congr 1
  rcases Nat.lt_or_ge k 3 with z | z
  · rw [decide_eq_true z]
    match k, z with
    | 0, _ => rfl
    | 1, _ => rfl
    | 2, _ => rfl
  · rw [decide_eq_false (by omega)]
    exact Nat.testBit_lt_two_pow (Nat.lt_of_lt_of_le (by decide : 7 < 2 ^ 3) (Nat.pow_le_pow_right (by decide) z))
theorem arN_bit (l m q i k : Nat) : (arN l m q i).testBit k = ((decide (6 ≤ k) && (l.testBit (i + (k - 6)) && decide (k - 6 < 3))) || (decide (3 ≤ k) && (m.testBit (i + (k - 3)) && decide (k - 3 < 3))) || (q.testBit (i + k) && decide (k < 3))) := by
  unfold arN
  rw [Nat.testBit_or, Nat.testBit_or, Nat.testBit_shiftLeft, Nat.testBit_shiftLeft, and7_bit, and7_bit, and7_bit, Nat.testBit_shiftRight, Nat.testBit_shiftRight, Nat.testBit_shiftRight]
theorem arN_ones (l m q i : Nat) : (MB.ones (arN l m q i)).length = triB l i + triB m i + triB q i := by
  rw [ones_lt (n := 9) (arN_lt l m q i)]
  rw [filt_succ, filt_succ, filt_succ, filt_succ, filt_succ, filt_succ, filt_succ, filt_succ, filt_succ]
  simp only [arN_bit]
  simp
  unfold triB
  omega
theorem arN_mid (l m q i : Nat) : (arN l m q i).testBit 4 = m.testBit (i + 1) := by
  rw [arN_bit]; simp
theorem lat_bit (r : Rl) (l m q : Nat) : ∀ h i, (latN r l m q h).testBit i = (decide (i < h) && decide (lcF r (arN l m q i) = 1))
  | 0, i => by rw [latN]; simp
  | h + 1, i => by
    have hle := lcF_le r (arN l m q h)
    rw [latN, Nat.testBit_or, lat_bit r l m q h i, Nat.testBit_shiftLeft]
    rcases Nat.lt_trichotomy i h with z | z | z
    · rw [decide_eq_true z, decide_eq_true (show i < h + 1 by omega), decide_eq_false (show ¬ h ≤ i by omega)]; simp
    · subst z
      rw [decide_eq_false (Nat.lt_irrefl i), decide_eq_true (show i < i + 1 by omega), decide_eq_true (Nat.le_refl i), Nat.sub_self]
      have : lcF r (arN l m q i) = 0 ∨ lcF r (arN l m q i) = 1 := by omega
      rcases this with e | e <;> rw [e] <;> rfl
    · rw [decide_eq_false (show ¬ i < h by omega), decide_eq_false (show ¬ i < h + 1 by omega), decide_eq_true (show h ≤ i by omega)]
      have : (lcF r (arN l m q h)).testBit (i - h) = false := Nat.testBit_lt_two_pow (Nat.lt_of_le_of_lt hle (Nat.one_lt_two_pow (by omega)))
      rw [this]; rfl
/-- a column's cell -/
def bitZ (c : Nat) (y : Int) : Bool := decide (0 ≤ y) && c.testBit y.toNat
theorem shl_bit (c j : Nat) : (c <<< 2).testBit j = bitZ c ((j : Int) - 2) := by
  unfold bitZ
  rw [Nat.testBit_shiftLeft]
  rcases Nat.lt_or_ge j 2 with z | z
  · rw [decide_eq_false (show ¬ 2 ≤ j by omega), decide_eq_false (show ¬ (0 : Int) ≤ (j : Int) - 2 by omega)]; rfl
  · rw [decide_eq_true (show 2 ≤ j from z), decide_eq_true (show (0 : Int) ≤ (j : Int) - 2 by omega)]
    rw [show ((j : Int) - 2).toNat = j - 2 by omega]
theorem shl1_bit (c j : Nat) : (c <<< 1).testBit j = bitZ c ((j : Int) - 1) := by
  unfold bitZ
  rw [Nat.testBit_shiftLeft]
  rcases Nat.lt_or_ge j 1 with z | z
  · rw [decide_eq_false (show ¬ 1 ≤ j by omega), decide_eq_false (show ¬ (0 : Int) ≤ (j : Int) - 1 by omega)]; rfl
  · rw [decide_eq_true (show 1 ≤ j from z), decide_eq_true (show (0 : Int) ≤ (j : Int) - 1 by omega)]
    rw [show ((j : Int) - 1).toNat = j - 1 by omega]
/-- does the middle one of three columns rest at a row? -/
def restAt (r : Rl) (a b c : Nat) (y : Int) : Prop :=
  let n := (bitZ a (y - 1)).toNat + (bitZ a y).toNat + (bitZ a (y + 1)).toNat + (bitZ b (y - 1)).toNat + (bitZ b (y + 1)).toNat + (bitZ c (y - 1)).toNat + (bitZ c y).toNat + (bitZ c (y + 1)).toNat
  if bitZ b y = true then n ∈ r.s else n ∉ r.b
theorem ok_iff (r : Rl) {h a b c : Nat} (hb : b < 2 ^ h) : latN r (a <<< 2) (b <<< 2) (c <<< 2) (h + 2) = b <<< 1 ↔ ∀ i, i < h + 2 → restAt r a b c ((i : Int) - 1) := by
  have key : ∀ i, (lcF r (arN (a <<< 2) (b <<< 2) (c <<< 2) i) = 1 ↔ (b <<< 1).testBit i = true) ↔ restAt r a b c ((i : Int) - 1) := by
    intro i
    unfold lcF
    rw [arN_ones, arN_mid]
    unfold triB restAt
    simp only [shl_bit, shl1_bit]
    rw [show ((i : Nat) : Int) - 2 = (i : Int) - 1 - 1 by omega, show ((i + 1 : Nat) : Int) - 2 = (i : Int) - 1 by omega, show ((i + 2 : Nat) : Int) - 2 = (i : Int) - 1 + 1 by omega]
    generalize (i : Int) - 1 = y
    cases hbb : bitZ b y with
    | true =>
      simp only [if_pos, Bool.toNat_true, iff_true]
      rw [show ∀ A B C D E F G H : Nat, A + B + C + (D + 1 + E) + (F + G + H) - 1 = A + B + C + D + E + F + G + H by intros; omega]
      split <;> simp_all
    | false =>
      simp only [Bool.false_eq_true, if_false, Bool.toNat_false, iff_false]
      rw [show ∀ A B C D E F G H : Nat, A + B + C + (D + 0 + E) + (F + G + H) - 0 = A + B + C + D + E + F + G + H by intros; omega]
      split <;> simp_all
  constructor
  · intro he i hi
    refine (key i).mp ?_
    rw [← he, lat_bit, decide_eq_true hi]
    simp
  · intro hr
    refine Nat.eq_of_testBit_eq fun i => ?_
    rw [lat_bit]
    rcases Nat.lt_or_ge i (h + 2) with z | z
    · have := (key i).mpr (hr i z)
      rw [decide_eq_true z, Bool.true_and]
      cases hx : (b <<< 1).testBit i with
      | true => exact decide_eq_true (this.mpr hx)
      | false => exact decide_eq_false fun q => by rw [this.mp q] at hx; cases hx
    · rw [decide_eq_false (by omega), Bool.false_and]
      refine (Nat.testBit_lt_two_pow ?_).symm
      rw [Nat.shiftLeft_eq]
      have := Nat.pow_le_pow_right (n := 2) (by decide) z
      rw [Nat.pow_add] at this
      omega
/-! ### how many sequences of columns -/
/-- the columns of a number, two empty ones ahead of them -/
def colO (h n i : Nat) : Nat := if i < 2 then 0 else n / 2 ^ (h * (i - 2)) % 2 ^ h
def okC (r : Rl) (h a b c : Nat) : Prop := latN r (a <<< 2) (b <<< 2) (c <<< 2) (h + 2) = b <<< 1
instance decOkC (r : Rl) (h a b c : Nat) : Decidable (okC r h a b c) := by unfold okC; exact inferInstance
def goodC (r : Rl) (h n : Nat) : Nat → Bool
  | 0 => true
  | k + 1 => goodC r h n k && decide (okC r h (colO h n k) (colO h n (k + 1)) (colO h n (k + 2)))
theorem goodC_iff (r : Rl) (h n : Nat) : ∀ k, goodC r h n k = true ↔ ∀ i, i < k → okC r h (colO h n i) (colO h n (i + 1)) (colO h n (i + 2))
  | 0 => ⟨fun _ i hi => absurd hi (Nat.not_lt_zero i), fun _ => rfl⟩
  | k + 1 => by
    rw [goodC, Bool.and_eq_true, goodC_iff r h n k, decide_eq_true_iff]
    refine ⟨fun ⟨a, b⟩ i hi => ?_, fun a => ⟨fun i hi => a i (by omega), a k (by omega)⟩⟩
    by_cases z : i = k
    · subst z; exact b
    · exact a i (by omega)
theorem colO_lt (h n i : Nat) : colO h n i < 2 ^ h := by
  unfold colO
  split
  · exact Nat.two_pow_pos h
  · exact Nat.mod_lt _ (Nat.two_pow_pos h)
def pairO (h n k : Nat) : Nat := colO h n k * 2 ^ h + colO h n (k + 1)
theorem ents_count (p : Nat × Nat → Bool) (S : Nat) : ∀ i, (((entsTo S i 0).filter p).length : Int) = sm i fun a => sm S fun c => if p (a, c) = true then 1 else 0
  | 0 => by unfold entsTo; simp [sm]
  | i + 1 => by
    rw [← entsTo_row, sm, ← ents_count p S i]
    have : ∀ j, (((entsTo S i j).filter p).length : Int) = (((entsTo S i 0).filter p).length : Int) + sm j fun c => if p (i, c) = true then 1 else 0 := by
      intro j
      induction j with
      | zero => simp [sm]
      | succ j ih =>
        rw [entsTo_cell, List.filter_append, List.length_append, Int.natCast_add, ih, sm]
        cases hp : p (i, j) <;> simp [hp] <;> omega
    exact this S
theorem sm_one (P y : Nat) (f : Nat → Int) (h : y < P) (h0 : ∀ a, a < P → a ≠ y → f a = 0) : sm P f = f y := by
  induction P with
  | zero => exact absurd h (Nat.not_lt_zero y)
  | succ P ih =>
    rw [sm]
    by_cases z : y = P
    · subst z
      rw [sm_congr y (g := fun _ => 0) fun a ha => h0 a (by omega) (by omega), sm_zero, Int.zero_add]
    · rw [ih (by omega) fun a ha hne => h0 a (by omega) hne, h0 P (by omega) (fun q => z q.symm), Int.add_zero]
theorem edg_sum (r : Rl) (h y x : Nat) (hy : y < 2 ^ h * 2 ^ h) : edg r h y x = sm (2 ^ h) fun c => if okE r h (y, c) = true ∧ y % 2 ^ h * 2 ^ h + c = x then 1 else 0 := by
  unfold edg ways wayTo
  rw [List.filter_map, List.length_map, List.filter_filter, ents_count]
  rw [sm_one _ y _ hy]
  · refine sm_congr _ fun c _ => ?_
    simp only [Function.comp, entP, Bool.and_eq_true, beq_iff_eq]
    by_cases z : okE r h (y, c) = true ∧ y % 2 ^ h * 2 ^ h + c = x
    · rw [if_pos z, if_pos ⟨⟨trivial, z.2⟩, z.1⟩]
    · rw [if_neg z, if_neg fun q => z ⟨q.2, q.1.2⟩]
  · intro a _ hne
    rw [sm_congr _ (g := fun _ => 0), sm_zero]
    intro c _
    simp only [Function.comp, entP, Bool.and_eq_true, beq_iff_eq]
    rw [if_neg fun q => hne q.1.1]
theorem sm_split (f : Nat → Int) (a : Nat) : ∀ b, sm (a * b) f = sm b fun c => sm a fun n => f (n + c * a)
  | 0 => rfl
  | b + 1 => by
    rw [sm, ← sm_split f a b, Nat.mul_succ]
    have : ∀ n m, sm (m + n) f = sm m f + sm n fun i => f (i + m) := by
      intro n m
      induction n with
      | zero => simp [sm]
      | succ n ih => rw [← Nat.add_assoc, sm, sm, ih, Nat.add_comm n m]; omega
    rw [this, Nat.mul_comm b a]
theorem col_low {h k n c i : Nat} (hn : n < 2 ^ (h * k)) (hi : i < k + 2) : colO h (n + c * 2 ^ (h * k)) i = colO h n i := by
  unfold colO
  split
  · rfl
  · have e : 2 ^ (h * k) = 2 ^ (h * (i - 2)) * (2 ^ h * 2 ^ (h * (k - 1 - (i - 2)))) := by
      rw [← Nat.pow_add, ← Nat.pow_add]
      congr 1
      have e2 : k = (i - 2) + (1 + (k - 1 - (i - 2))) := by omega
      rw [show h + h * (k - 1 - (i - 2)) = h * (1 + (k - 1 - (i - 2))) by rw [Nat.mul_add, Nat.mul_one], ← Nat.mul_add]
      congr 1
    rw [e, show c * (2 ^ (h * (i - 2)) * (2 ^ h * 2 ^ (h * (k - 1 - (i - 2))))) = 2 ^ (h * (i - 2)) * (2 ^ h * (c * 2 ^ (h * (k - 1 - (i - 2))))) by ac_rfl]
    rw [Nat.add_mul_div_left _ _ (Nat.two_pow_pos _), Nat.add_mul_mod_self_left]
theorem col_top {h k n c : Nat} (hn : n < 2 ^ (h * k)) (hc : c < 2 ^ h) : colO h (n + c * 2 ^ (h * k)) (k + 2) = c := by
  unfold colO
  rw [if_neg (by omega), show k + 2 - 2 = k by omega, Nat.add_mul_div_right _ _ (Nat.two_pow_pos _), Nat.div_eq_of_lt hn, Nat.zero_add, Nat.mod_eq_of_lt hc]
theorem good_low {r : Rl} {h k n c : Nat} (hn : n < 2 ^ (h * k)) : ∀ j, j ≤ k → goodC r h (n + c * 2 ^ (h * k)) j = goodC r h n j
  | 0, _ => rfl
  | j + 1, hj => by rw [goodC, goodC, good_low hn j (by omega), col_low hn (by omega), col_low hn (by omega), col_low hn (by omega)]
theorem okE_pair (r : Rl) (h a b c : Nat) (hb : b < 2 ^ h) : okE r h (a * 2 ^ h + b, c) = decide (okC r h a b c) := by
  unfold okE okC
  have e1 : (a * 2 ^ h + b) / 2 ^ h = a := by
    rw [Nat.add_comm, Nat.add_mul_div_right _ _ (Nat.two_pow_pos h), Nat.div_eq_of_lt hb, Nat.zero_add]
  have e2 : (a * 2 ^ h + b) % 2 ^ h = b := by
    rw [Nat.add_comm, Nat.add_mul_mod_self_right, Nat.mod_eq_of_lt hb]
  simp only [e1, e2]
theorem pair_mod (h a b : Nat) (hb : b < 2 ^ h) : (a * 2 ^ h + b) % 2 ^ h = b := by
  rw [Nat.add_comm, Nat.add_mul_mod_self_right, Nat.mod_eq_of_lt hb]
theorem pairO_lt (h n k : Nat) : pairO h n k < 2 ^ h * 2 ^ h := by
  unfold pairO
  have h1 := colO_lt h n k
  have h2 := colO_lt h n (k + 1)
  have := Nat.mul_le_mul_right (2 ^ h) (show colO h n k + 1 ≤ 2 ^ h by omega)
  rw [Nat.add_mul, Nat.one_mul] at this
  omega
theorem cVec_count (r : Rl) (h : Nat) : ∀ k x, x < 2 ^ h * 2 ^ h → (cVec r h k).getD x 0 = sm (2 ^ (h * k)) fun n => if goodC r h n k = true ∧ pairO h n k = x then 1 else 0
  | 0, x, hx => by
    rw [cVec, List.getD_eq_getElem?_getD, List.getElem?_set, Nat.mul_zero, Nat.pow_zero]
    have hp : pairO h 0 0 = 0 := by unfold pairO colO; simp
    simp only [sm, goodC, hp, true_and, Int.zero_add, List.length_replicate]
    by_cases z : 0 = x
    · subst z
      rw [if_pos rfl, if_pos hx, if_pos rfl]; rfl
    · rw [if_neg z, if_neg z, List.getElem?_replicate, if_pos hx]; rfl
  | k + 1, x, hx => by
    rw [cVec_sum]
    have e1 : (sm (2 ^ h * 2 ^ h) fun y => edg r h y x * (cVec r h k).getD y 0) = sm (2 ^ h * 2 ^ h) fun y => sm (2 ^ (h * k)) fun n => edg r h y x * if goodC r h n k = true ∧ pairO h n k = y then 1 else 0 :=
      sm_congr _ fun y hy => by rw [cVec_count r h k y hy, sm_mul]
    rw [e1, sm_swap]
    rw [show h * (k + 1) = h * k + h by rw [Nat.mul_succ], Nat.pow_add, sm_split, sm_swap _ (2 ^ (h * k)) (2 ^ h)]
    refine sm_congr _ fun n hn => ?_
    have hp := pairO_lt h n k
    rw [sm_one _ (pairO h n k) _ hp fun y _ hne => by rw [if_neg fun q => hne q.2.symm, Int.mul_zero]]
    rw [edg_sum r h _ x hp]
    have hb := colO_lt h n (k + 1)
    cases hg : goodC r h n k with
    | false =>
      simp only [Bool.false_eq_true, false_and, if_false, Int.mul_zero]
      symm
      rw [sm_congr _ (g := fun _ => 0), sm_zero]
      intro c _
      rw [goodC, good_low hn k (Nat.le_refl k), hg]
      simp
    | true =>
      rw [show (if true = true ∧ pairO h n k = pairO h n k then (1 : Int) else 0) = 1 by simp, Int.mul_one]
      refine sm_congr _ fun c hc => ?_
      rw [goodC, good_low hn k (Nat.le_refl k), hg, col_low hn (by omega), col_low hn (by omega), col_top hn hc, Bool.true_and]
      unfold pairO
      rw [okE_pair r h _ _ c hb, pair_mod h _ _ hb, col_low hn (by omega), show k + 1 + 1 = k + 2 from rfl, col_top hn hc]
/-! ### the boards of a strip -/
def fB (h n : Nat) : Fl := fun x y => if 0 ≤ x ∧ 0 ≤ y ∧ y < (h : Int) ∧ n.testBit (x.toNat * h + y.toNat) = true then 1 else 0
theorem fB_01 (h n : Nat) (x y : Int) : fB h n x y = 0 ∨ fB h n x y = 1 := by unfold fB; split <;> simp
theorem fB_bit (h n i : Nat) (y : Int) : bitZ (colO h n i) y = decide (fB h n ((i : Int) - 2) y = 1) := by
  unfold bitZ colO fB
  by_cases hy : 0 ≤ y
  · rw [decide_eq_true hy, Bool.true_and]
    by_cases hi : i < 2
    · rw [if_pos hi, Nat.zero_testBit, if_neg (by omega)]; rfl
    · rw [if_neg hi, Nat.testBit_mod_two_pow, Nat.testBit_div_two_pow]
      rw [show ((i : Int) - 2).toNat = i - 2 by omega]
      by_cases hyh : y < (h : Int)
      · rw [decide_eq_true (show y.toNat < h by omega), Bool.true_and, Nat.mul_comm h (i - 2), Nat.add_comm]
        cases ht : n.testBit ((i - 2) * h + y.toNat) with
        | true => rw [if_pos ⟨by omega, hy, hyh, rfl⟩]; rfl
        | false => rw [if_neg fun q => by cases q.2.2.2]; rfl
      · rw [decide_eq_false (show ¬ y.toNat < h by omega), Bool.false_and, if_neg fun q => hyh q.2.2.1]; rfl
  · rw [decide_eq_false hy, Bool.false_and, if_neg fun q => hy q.2.1]; rfl
theorem fB_liv (h n i : Nat) (y : Int) : (bitZ (colO h n i) y).toNat = MB.liv (fB h n) ((i : Int) - 2) y := by
  rw [fB_bit]
  unfold MB.liv
  by_cases z : fB h n ((i : Int) - 2) y = 1
  · rw [decide_eq_true z, if_pos z]; rfl
  · rw [decide_eq_false z, if_neg z]; rfl
theorem rest_iff {r : Rl} (hr : Rule r) (h n i : Nat) (y : Int) : restAt r (colO h n i) (colO h n (i + 1)) (colO h n (i + 2)) y ↔ nx r (fB h n) ((i : Int) - 1) y = fB h n ((i : Int) - 1) y := by
  unfold restAt
  simp only [fB_liv]
  rw [fB_bit]
  rw [show ((i + 1 : Nat) : Int) - 2 = (i : Int) - 1 by omega, show ((i + 2 : Nat) : Int) - 2 = (i : Int) - 1 + 1 by omega, show (i : Int) - 2 = (i : Int) - 1 - 1 by omega]
  generalize (i : Int) - 1 = x
  have e : nx r (fB h n) x y = MB.nextS r.b r.s (r.n : Int) (fB h n x y) (MB.nb (fB h n) x y) := rfl
  rw [e]
  have en : MB.liv (fB h n) (x - 1) (y - 1) + MB.liv (fB h n) (x - 1) y + MB.liv (fB h n) (x - 1) (y + 1) + MB.liv (fB h n) x (y - 1) + MB.liv (fB h n) x (y + 1) + MB.liv (fB h n) (x + 1) (y - 1) + MB.liv (fB h n) (x + 1) y + MB.liv (fB h n) (x + 1) (y + 1) = MB.nb (fB h n) x y := rfl
  rw [en]
  generalize MB.nb (fB h n) x y = m
  have hn2 := hr.n2
  unfold MB.nextS
  rcases fB_01 h n x y with z | z
  · rw [z]
    simp only [show ¬ ((0 : Int) = 1) by decide, decide_false, Bool.false_eq_true, if_false, if_true]
    split <;> simp_all
  · rw [z]
    simp only [decide_true, if_true, show ¬ ((1 : Int) = 0) by decide, if_false, true_and]
    split
    · next hm => simp [hm]
    · next hm =>
      simp only [hm, false_iff]
      split <;> omega
theorem fB_sm {h w n : Nat} (hn : n < 2 ^ (h * w)) : Sm (fB h n) 0 0 w h := by
  refine ⟨fun x y hxy => ?_, fun x y => ?_⟩
  · unfold fB at hxy
    split at hxy
    · next q =>
      refine ⟨q.1, ?_, q.2.1, by omega⟩
      refine Classical.byContradiction fun hx => ?_
      have h1 : w ≤ x.toNat := by omega
      have h2 : h * w ≤ x.toNat * h + y.toNat := by
        have := Nat.mul_le_mul_left h h1
        rw [Nat.mul_comm h x.toNat] at this
        omega
      have := Nat.testBit_lt_two_pow (Nat.lt_of_lt_of_le hn (Nat.pow_le_pow_right (by decide) h2))
      rw [this] at q
      exact absurd q.2.2.2 (by decide)
    · exact absurd rfl hxy
  · rcases fB_01 h n x y with z | z <;> rw [z] <;> decide
def rests (r : Rl) (f : Fl) : Prop := nx r f = f
theorem good_iff {r : Rl} (hr : Rule r) {h w n : Nat} (hn : n < 2 ^ (h * w)) : goodC r h n (w + 2) = true ↔ rests r (fB h n) := by
  have hsm := fB_sm hn
  have hnx := hsm.next hr
  rw [goodC_iff]
  have key : ∀ i, okC r h (colO h n i) (colO h n (i + 1)) (colO h n (i + 2)) ↔ ∀ j, j < h + 2 → nx r (fB h n) ((i : Int) - 1) ((j : Int) - 1) = fB h n ((i : Int) - 1) ((j : Int) - 1) := by
    intro i
    unfold okC
    rw [ok_iff r (colO_lt h n (i + 1))]
    exact ⟨fun a j hj => (rest_iff hr h n i _).mp (a j hj), fun a j hj => (rest_iff hr h n i _).mpr (a j hj)⟩
  constructor
  · intro hall
    funext x y
    by_cases hin : -1 ≤ x ∧ x ≤ w ∧ -1 ≤ y ∧ y ≤ h
    · have := (key (x + 1).toNat).mp (hall (x + 1).toNat (by omega)) (y + 1).toNat (by omega)
      rw [show (((x + 1).toNat : Nat) : Int) - 1 = x by omega, show (((y + 1).toNat : Nat) : Int) - 1 = y by omega] at this
      exact this
    · have h1 : fB h n x y = 0 := Classical.byContradiction fun q => by have := hsm.sup x y q; omega
      have h2 : nx r (fB h n) x y = 0 := Classical.byContradiction fun q => by have := hnx.sup x y q; omega
      rw [h1, h2]
  · intro hre i _
    refine (key i).mpr fun j _ => ?_
    unfold rests at hre
    rw [hre]
theorem sm_app (f : Nat → Int) (m : Nat) : ∀ n, sm (m + n) f = sm m f + sm n fun i => f (i + m)
  | 0 => by simp [sm]
  | n + 1 => by rw [← Nat.add_assoc, sm, sm, sm_app f m n, Nat.add_comm n m]; omega
theorem pair_zero {h w n : Nat} (hn : n < 2 ^ (h * (w + 2))) : pairO h n (w + 2) = 0 ↔ n < 2 ^ (h * w) := by
  unfold pairO colO
  rw [if_neg (by omega), if_neg (by omega), show w + 2 - 2 = w by omega, show w + 2 + 1 - 2 = w + 1 by omega]
  have e : n / 2 ^ (h * (w + 1)) = n / 2 ^ (h * w) / 2 ^ h := by rw [Nat.div_div_eq_div_mul, ← Nat.pow_add, Nat.mul_succ]
  have hq : n / 2 ^ (h * w) < 2 ^ h * 2 ^ h := by
    refine Nat.div_lt_of_lt_mul ?_
    rw [← Nat.pow_add, ← Nat.pow_add, show h * w + (h + h) = h * (w + 2) by rw [Nat.mul_add]; omega]
    exact hn
  rw [e]
  have hz : n < 2 ^ (h * w) ↔ n / 2 ^ (h * w) = 0 := by
    rw [Nat.div_eq_zero_iff]
    have := Nat.two_pow_pos (h * w)
    omega
  rw [hz]
  generalize n / 2 ^ (h * w) = q at hq
  have hp := Nat.two_pow_pos h
  have hd : q / 2 ^ h < 2 ^ h := Nat.div_lt_of_lt_mul hq
  rw [Nat.mod_eq_of_lt hd]
  constructor
  · intro hs
    have h1 : q / 2 ^ h = 0 := (Nat.add_eq_zero_iff.mp hs).2
    have h2 : q % 2 ^ h * 2 ^ h = 0 := (Nat.add_eq_zero_iff.mp hs).1
    have h3 : q % 2 ^ h = 0 := by
      rcases Nat.mul_eq_zero.mp h2 with z | z
      · exact z
      · omega
    have := Nat.div_add_mod q (2 ^ h)
    rw [h1, h3] at this
    omega
  · intro hq0
    subst hq0
    simp
theorem cnum_count {r : Rl} (hr : Rule r) (h w : Nat) : cnum r h w = sm (2 ^ (h * w)) fun n => if goodC r h n (w + 2) = true then 1 else 0 := by
  unfold cnum
  rw [cVec_count r h (w + 2) 0 (Nat.mul_pos (Nat.two_pow_pos h) (Nat.two_pow_pos h))]
  have hle : 2 ^ (h * w) ≤ 2 ^ (h * (w + 2)) := Nat.pow_le_pow_right (by decide) (Nat.mul_le_mul_left h (by omega))
  rw [show 2 ^ (h * (w + 2)) = 2 ^ (h * w) + (2 ^ (h * (w + 2)) - 2 ^ (h * w)) by omega, sm_app]
  rw [sm_congr (2 ^ (h * (w + 2)) - 2 ^ (h * w)) (g := fun _ => 0), sm_zero, Int.add_zero]
  · refine sm_congr _ fun n hn => ?_
    have := (pair_zero (h := h) (w := w) (n := n) (by omega)).mpr hn
    simp only [this, and_true]
  · intro n hn
    refine if_neg fun q => ?_
    have := (pair_zero (h := h) (w := w) (n := n + 2 ^ (h * w)) (by omega)).mp q.2
    omega
theorem good_zero {r : Rl} (hr : Rule r) (h w : Nat) : goodC r h 0 (w + 2) = true := by
  refine (good_iff hr (w := w) (Nat.two_pow_pos _)).mpr ?_
  have : fB h 0 = fun _ _ => 0 := by
    funext x y
    unfold fB
    rw [Nat.zero_testBit, if_neg fun q => by cases q.2.2.2]
  unfold rests
  rw [this]
  exact nx_zero hr
theorem cnum_pos {r : Rl} (hr : Rule r) (h w : Nat) : 1 ≤ cnum r h w := by
  rw [cnum_count hr]
  obtain ⟨m, hm⟩ : ∃ m, 2 ^ (h * w) = 1 + m := ⟨2 ^ (h * w) - 1, by have := Nat.two_pow_pos (h * w); omega⟩
  rw [hm, sm_app]
  have := sm_nonneg (fun i => if goodC r h (i + 1) (w + 2) = true then (1 : Int) else 0) m fun i _ => by split <;> decide
  rw [show sm 1 (fun n => if goodC r h n (w + 2) = true then (1 : Int) else 0) = 1 by simp [sm, good_zero hr h w]]
  omega
theorem cnum_zero {r : Rl} (hr : Rule r) (h : Nat) : cnum r h 0 = 1 := by
  rw [cnum_count hr, Nat.mul_zero, Nat.pow_zero]
  simp [sm, good_zero hr h 0]
/-! ### strips -/
def R_still (ds : List PyData) (o : DOut) : Prop := ∃ (r : Rl) (h w : Nat), ds = [r.d, .int (h : Int), .int (w : Int)] ∧ Rule r ∧ 1 ≤ h ∧ h ≤ 3 ∧ w ≤ 200 ∧ o = .ok (.int (cnum r h w))
theorem ok_stills_in_strip {P : Program} {w : World} {K : Fg} {mg : Str → Option Value} {base : Heap} {f : Addr} {fd : FuncData} (F : Fun K "stills_in_strip" "stills_in_strip" s_stills_in_strip f fd)
    (g_MOST_HIGH : ∃ u, mg "MOST_HIGH" = some u ∧ RelV (.int 3) u)
    (g_MOST_WIDE : ∃ u, mg "MOST_WIDE" = some u ∧ RelV (.int 200) u)
    (c_check_rule : Cal P w K mg base 4 "check_rule" (spD K 1 R_chkRule))
    (c_check_number : Cal P w K mg base 2 "check_number" (spD K 3 R_chknum))
    (c__numbers : Cal P w K mg base 5 "_numbers" (spD K 3 R_numbers)) :
    FnOk P w K mg base (L2.CX P w) 6 f fd ["rule", "high", "wide"] (spD K 3 R_still) := by
  refine F.okX sc_stills_in_strip (fun vs H Q E h => len_D h) (fun cdv A outer s H vs Q E hr h => ⟨_, (pss_cons (ps_expr (pe_cl c_check_rule hr (show 4 ≤ 5 by decide) passL (pa_cons (pv 0) pa_nil)))
      (pss_cons (ps_expr (pe_cl c_check_number hr (show 2 ≤ 5 by decide) passL (pa_cons (pv 1) (pa_cons pe_int (pa_cons (pe_glob (by rfl) g_MOST_HIGH.choose_spec.1 g_MOST_HIGH.choose_spec.2) pa_nil)))))
      (pss_cons (ps_expr (pe_cl c_check_number hr (show 2 ≤ 5 by decide) passL (pa_cons (pv 2) (pa_cons pe_int (pa_cons (pe_glob (by rfl) g_MOST_WIDE.choose_spec.1 g_MOST_WIDE.choose_spec.2) pa_nil)))))
      (pss_one (ps_ret (pe_ix ix_seq (pe_cl c__numbers hr (show 5 ≤ 5 by decide) passL (pa_cons (pv 0) (pa_cons (pv 1) (pa_cons (pv 2) pa_nil)))) (pv 2) (fun _ _ => rfl))))))),
    fn_D h fun ds o hk hR => ?_⟩)
  try dsimp only [L2.cxOf]
  obtain ⟨r, h, w, rfl, hr2, h1, h3, hw, rfl⟩ := hR
  walk_at "zq"
  refine ⟨_, _, allD_cons allD_nil, rfl, ⟨r, rfl, hr2, rfl⟩, ?_⟩
  walk_at "zq"
  refine ⟨_, _, allD_cons (allD_cons (allD_cons allD_nil)), rfl, ⟨_, _, _, rfl, by omega, by omega, rfl⟩, ?_⟩
  walk_at "zq"
  refine ⟨_, _, allD_cons (allD_cons (allD_cons allD_nil)), rfl, ⟨_, _, _, rfl, by omega, by omega, rfl⟩, ?_⟩
  walk_at "zq"
  refine ⟨_, _, allD_cons (allD_cons (allD_cons allD_nil)), rfl, ⟨r, h, w, rfl, hr2, h1, h3, hw, rfl⟩, ?_⟩
  walk_at "zq"
  refine zo_ix (atI_nat (v := .int (cnum r h w)) (by rw [List.getElem?_map, List.getElem?_map, List.getElem?_range (by omega)]; rfl)) ?_
  exact ⟨_, rfl, rfl⟩
def R_sfar (ds : List PyData) (o : DOut) : Prop := ∃ (r : Rl) (h n : Nat), ds = [r.d, .int (h : Int), .int (n : Int)] ∧ Rule r ∧ 1 ≤ h ∧ h ≤ 3 ∧ n < 2 ^ 100 ∧ o = .ok (.int (cnum r h n % PZ))
theorem ok_stills_far {P : Program} {w : World} {K : Fg} {mg : Str → Option Value} {base : Heap} {f : Addr} {fd : FuncData} (F : Fun K "stills_far" "stills_far" s_stills_far f fd)
    (g_MOST_HIGH : ∃ u, mg "MOST_HIGH" = some u ∧ RelV (.int 3) u)
    (g_FAR : ∃ u, mg "FAR" = some u ∧ RelV (.int 1000000000000000000000000000000000000000000000000000000000000) u)
    (c_check_rule : Cal P w K mg base 4 "check_rule" (spD K 1 R_chkRule))
    (c_check_number : Cal P w K mg base 2 "check_number" (spD K 3 R_chknum))
    (c_far_term : Cal P w K mg base 5 "far_term" (spD K 2 R_farTerm))
    (c__numbers : Cal P w K mg base 5 "_numbers" (spD K 3 R_numbers)) :
    FnOk P w K mg base (L2.CX P w) 6 f fd ["rule", "high", "wide"] (spD K 3 R_sfar) := by
  refine F.okX sc_stills_far (fun vs H Q E h => len_D h) (fun cdv A outer s H vs Q E hr h => ⟨_, (pss_cons (ps_expr (pe_cl c_check_rule hr (show 4 ≤ 5 by decide) passL (pa_cons (pv 0) pa_nil)))
      (pss_cons (ps_expr (pe_cl c_check_number hr (show 2 ≤ 5 by decide) passL (pa_cons (pv 1) (pa_cons pe_int (pa_cons (pe_glob (by rfl) g_MOST_HIGH.choose_spec.1 g_MOST_HIGH.choose_spec.2) pa_nil)))))
      (pss_cons (ps_expr (pe_cl c_check_number hr (show 2 ≤ 5 by decide) passL (pa_cons (pv 2) (pa_cons pe_int (pa_cons (pe_glob (by rfl) g_FAR.choose_spec.1 g_FAR.choose_spec.2) pa_nil)))))
      (pss_cons (ps_set (i := 3) sc_stills_far.nd rfl (by first | exact Or.inl rfl | exact Or.inr rfl) (pe_op op_shlW pe_int (pe_op op_mul pe_int (pv 1))))
      (pss_one (ps_ret (pe_cl c_far_term hr (show 5 ≤ 5 by decide) passL (pa_cons (pe_cl c__numbers hr (show 5 ≤ 5 by decide) passL (pa_cons (pv 0) (pa_cons (pv 1) (pa_cons (pe_op op_sub (pe_op op_mul pe_int (pv 3)) pe_int) pa_nil)))) (pa_cons (pv 2) pa_nil))))))))),
    fn_D h fun ds o hk hR => ?_⟩)
  try dsimp only [L2.cxOf]
  obtain ⟨r, h, n, rfl, hr2, h1, h3, hn, rfl⟩ := hR
  have hS8 := pow_small h1 h3
  have hP : 2 ^ h * 2 ^ h ≤ 64 := Nat.mul_le_mul hS8.2 hS8.2
  have hP0 : 4 ≤ 2 ^ h * 2 ^ h := Nat.mul_le_mul hS8.1 hS8.1
  obtain ⟨c, hcl, hc⟩ := cnum_rec r h
  walk_at "zq"
  refine ⟨_, _, allD_cons allD_nil, rfl, ⟨r, rfl, hr2, rfl⟩, ?_⟩
  walk_at "zq"
  refine ⟨_, _, allD_cons (allD_cons (allD_cons allD_nil)), rfl, ⟨_, _, _, rfl, by omega, by omega, rfl⟩, ?_⟩
  walk_at "zq"
  refine ⟨_, _, allD_cons (allD_cons (allD_cons allD_nil)), rfl, ⟨_, _, _, rfl, by omega, by omega, rfl⟩, ?_⟩
  walk_at "zq"
  refine zo_mul (.inl ⟨by decide, by decide⟩) ?_
  rw [show (2 : Int) * (h : Int) = ((2 * h : Nat) : Int) by rw [Int.natCast_mul]; rfl]
  refine zo_shlN (a := 1) (k := 2 * h) (sh_ok (by decide) (by omega)) ?_
  rw [show 1 <<< (2 * h) = 2 ^ h * 2 ^ h by rw [Nat.shiftLeft_eq, Nat.one_mul, Nat.two_mul, Nat.pow_add]]
  walk_at "zq"
  refine zo_mul (.inl ⟨by decide, by decide⟩) ?_
  generalize 2 ^ h * 2 ^ h = P at hP hP0 hcl
  rw [show (2 : Int) * (P : Int) = ((2 * P : Nat) : Int) by rw [Int.natCast_mul]; rfl]
  walk_at "zq"
  rw [show ((2 * P : Nat) : Int) - 1 = ((2 * P - 1 : Nat) : Int) by omega]
  refine ⟨_, _, allD_cons (allD_cons (allD_cons allD_nil)), rfl, ⟨r, h, 2 * P - 1, rfl, hr2, h1, h3, by omega, rfl⟩, ?_⟩
  walk_at "zq"
  refine ⟨_, _, allD_cons (allD_cons allD_nil), rfl, ⟨cnum r h, P, c, n, ?_, by omega, by omega, hc, hcl, ?_, ?_, rfl⟩, ?_⟩
  · rw [show 2 * P - 1 + 1 = 2 * P by omega]
  · rw [cnum_zero hr2]; decide
  · exact Nat.lt_of_lt_of_le hn (Nat.pow_le_pow_right (by decide) (by decide))
  · exact ⟨_, rfl, rfl⟩
/-! ### the law's boards and sums -/
instance decCell : DecidableEq Cell := fun a c => decidable_of_iff (a.x = c.x ∧ a.y = c.y ∧ a.s = c.s) ⟨fun h => by cases a; cases c; obtain ⟨h1, h2, h3⟩ := h; dsimp only at h1 h2 h3; rw [h1, h2, h3], fun h => by rw [h]; exact ⟨rfl, rfl, rfl⟩⟩
theorem eqv_cells (a c : Cell) : PyData.eqv a.d c.d = decide (a = c) := by
  show ((a.x == c.x) && ((a.y == c.y) && ((a.s == c.s) && true))) = _
  rw [Bool.eq_iff_iff, decide_eq_true_iff]
  simp only [Bool.and_eq_true, beq_iff_eq, and_true]
  constructor
  · rintro ⟨h1, h2, h3⟩
    cases a; cases c
    simp_all
  · rintro rfl
    exact ⟨rfl, rfl, rfl⟩
theorem eqvAll_cells : ∀ b c : List Cell, PyData.eqvAll (b.map Cell.d) (c.map Cell.d) = decide (b = c)
  | [], [] => rfl
  | [], _ :: _ => rfl
  | _ :: _, [] => rfl
  | a :: b, e :: c => by
    show (PyData.eqv a.d e.d && PyData.eqvAll (b.map Cell.d) (c.map Cell.d)) = _
    rw [eqv_cells, eqvAll_cells b c, Bool.eq_iff_iff]
    simp
theorem eqv_bDs (b c : List Cell) : PyData.eqv (bD b) (bD c) = decide (b = c) := eqvAll_cells b c
theorem lay_cells : ∀ b : List Cell, PyData.canLayAll0 (b.map Cell.d) = true
  | [] => rfl
  | _ :: r => by
    have := lay_cells r
    simp [PyData.canLayAll0, PyData.canLay0, this]
theorem deep_cells : ∀ b : List Cell, PyData.depthAll (b.map Cell.d) ≤ 1
  | [] => by simp [PyData.depthAll]
  | _ :: r => by
    have := deep_cells r
    simp [PyData.depthAll, PyData.depth]
    omega
theorem shp_bD (b : List Cell) : SeqAt.shaped (bD b) = true := by
  have := deep_cells b
  simp [SeqAt.shaped, PyData.canLay0, PyData.depth, lay_cells]
  omega
/-- the cells of the first columns of a number -/
def colsL (h n x : Nat) : List Cell := (List.range x).flatMap fun (i : Nat) => ((List.range h).filter fun j => n.testBit (i * h + j)).map fun (j : Nat) => (⟨(i : Int), (j : Int), 1⟩ : Cell)
theorem colsL_box (h n w : Nat) : colsL h n w = boxL (fB h n) 0 0 w h := by
  unfold colsL boxL
  congr 1
  funext i
  rw [List.filter_map]
  have e : ∀ j, j < h → fB h n (0 + (i : Int)) (0 + (j : Int)) = if n.testBit (i * h + j) = true then 1 else 0 := by
    intro j hj
    unfold fB
    rw [show (0 + (i : Int)).toNat = i by omega, show (0 + (j : Int)).toNat = j by omega]
    by_cases z : n.testBit (i * h + j) = true
    · rw [if_pos ⟨by omega, by omega, by omega, z⟩, if_pos z]
    · rw [if_neg fun q => z q.2.2.2, if_neg z]
  have e2 : (List.range h).filter ((fun c : Cell => decide (c.s ≠ 0)) ∘ fun (j : Nat) => (⟨0 + (i : Int), 0 + (j : Int), fB h n (0 + (i : Int)) (0 + (j : Int))⟩ : Cell)) = (List.range h).filter fun j => n.testBit (i * h + j) := by
    refine List.filter_congr fun j hj => ?_
    show decide (fB h n (0 + (i : Int)) (0 + (j : Int)) ≠ 0) = _
    rw [e j (List.mem_range.mp hj)]
    cases n.testBit (i * h + j) <;> rfl
  rw [e2]
  refine List.map_congr_left fun j hj => ?_
  obtain ⟨h1, h2⟩ := List.mem_filter.mp hj
  rw [e j (List.mem_range.mp h1), if_pos h2]
  exact cell_eta (by dsimp only; omega) (by dsimp only; omega) rfl
theorem colsL_succ (h n x : Nat) : colsL h n (x + 1) = colsL h n x ++ ((List.range h).filter fun j => n.testBit (x * h + j)).map fun (j : Nat) => (⟨(x : Int), (j : Int), 1⟩ : Cell) := by
  unfold colsL
  rw [List.range_succ, List.flatMap_append]
  simp
theorem colsL_len (h n : Nat) : ∀ x, (colsL h n x).length ≤ x * h
  | 0 => Nat.zero_le _
  | x + 1 => by
    rw [colsL_succ, List.length_append, List.length_map, Nat.add_mul, Nat.one_mul]
    have := colsL_len h n x
    have h2 : ((List.range h).filter fun j => n.testBit (x * h + j)).length ≤ h := by
      have := List.length_filter_le (fun j => n.testBit (x * h + j)) (List.range h)
      rwa [List.length_range] at this
    omega
/-- what becomes of a number's board, and whether it rests -/
theorem step_ex {r : Rl} (hr : Rule r) {h w n : Nat} (hn : n < 2 ^ (h * w)) (hs : w * h ≤ 100) : ∃ b' : List Cell, R_lstep [r.d, bD (colsL h n w)] (.ok (bD b')) ∧ decide (b' = colsL h n w) = goodC r h n (w + 2) := by
  have hsm := fB_sm hn
  have T : Told (fB h n) (colsL h n w) := by rw [colsL_box]; exact hsm.told
  have hst := told_st T
  have T' := (hsm.next hr).told
  have hlen := colsL_len h n w
  refine ⟨_, ⟨r, _, _, rfl, hr, by omega, by rw [hst]; exact T, by rw [hst]; exact T', by rw [hst]; exact fun x y => ((hsm.next hr).rng x y).1, rfl⟩, ?_⟩
  rw [Bool.eq_iff_iff, decide_eq_true_iff, good_iff hr hn]
  unfold rests
  constructor
  · intro e
    have h1 := told_st T'
    rw [e, hst] at h1
    exact h1.symm
  · intro e
    rw [← e] at T
    exact told_uniq T' T
def goods (r : Rl) (h w : Nat) (n : Nat) : Int := sm n fun n => if goodC r h n (w + 2) = true then 1 else 0
theorem goods_all {r : Rl} (hr : Rule r) (h w : Nat) : goods r h w (2 ^ (h * w)) = cnum r h w := (cnum_count hr h w).symm
theorem far_rule {r : Rl} (a b c : Int) (hz : ∀ k, 12 ≤ k → k < 40 → cnum r 1 k = cnum r 1 (k - 1) * a + cnum r 1 (k - 2) * b + cnum r 1 (k - 3) * c) {n : Nat} (hn : 12 ≤ n) : cnum r 1 n % PZ = (cnum r 1 (n - 1) % PZ * a + cnum r 1 (n - 2) % PZ * b + cnum r 1 (n - 3) % PZ * c) % PZ := by
  obtain ⟨q, hq, hc⟩ := cnum_rec r 1
  have hq : q.length ≤ 4 := hq
  have hd : ∀ k, dis [a, b, c] (cnum r 1) k = cnum r 1 k - (cnum r 1 (k - 1) * a + cnum r 1 (k - 2) * b + cnum r 1 (k - 3) * c) := by
    intro k
    unfold dis
    simp only [dot]
    rw [show k - 1 - 0 = k - 1 by omega, show k - 1 - (0 + 1) = k - 2 by omega, show k - 1 - (0 + 1 + 1) = k - 3 by omega]
    grind
  have h1 := stays hc [a, b, c] 12 (by simp) (fun k h1 h2 => by rw [hd, hz k h1 (by omega), Int.sub_self]; exact Int.dvd_zero PZ) n hn
  rw [hd] at h1
  have h2 := Int.emod_eq_emod_iff_emod_sub_eq_zero.mpr (Int.emod_eq_zero_of_dvd h1)
  rw [h2]
  have m1 := fun x y : Int => Int.dvd_mul_of_dvd_left (c := y) (mod_dv x)
  have h3 := Int.dvd_add (Int.dvd_add (m1 (cnum r 1 (n - 1)) a) (m1 (cnum r 1 (n - 2)) b)) (m1 (cnum r 1 (n - 3)) c)
  refine (Int.emod_eq_emod_iff_emod_sub_eq_zero.mpr (Int.emod_eq_zero_of_dvd ?_)).symm
  rwa [show ∀ A B C A' B' C' : Int, (A' - A) * a + (B' - B) * b + (C' - C) * c = A' * a + B' * b + C' * c - (A * a + B * b + C * c) by intros; grind] at h3
/-! ### the law -/
def R_law (ds : List PyData) (o : DOut) : Prop := ∃ ns : List Int, ds = [.list (ns.map .int)] ∧ o = .ok (.bool true)
theorem sh_one {k : Nat} (h : k ≤ 200) : CShl ((1 : Nat) : Int) (k : Int) := by
  refine ⟨by omega, ?_⟩
  have := PyProof.Rows.intBits_le (a := ((1 : Nat) : Int)) (k := 20) (by decide)
  omega
theorem eqv_nil (l : List PyData) : PyData.eqv (.list l) (.list []) = l.isEmpty := by cases l <;> rfl
theorem box_ok {h w : Nat} (ho : (h = 1 ∧ w = 7) ∨ (h = 2 ∧ w = 4) ∨ (h = 3 ∧ w = 2) ∨ (h = 2 ∧ w = 3) ∨ (h = 1 ∧ w = 5)) : 1 ≤ h ∧ h ≤ 3 ∧ w ≤ 7 ∧ w * h ≤ 8 ∧ h * w ≤ 8 := by
  rcases ho with ⟨rfl, rfl⟩ | ⟨rfl, rfl⟩ | ⟨rfl, rfl⟩ | ⟨rfl, rfl⟩ | ⟨rfl, rfl⟩ <;> decide
theorem lay_nats : ∀ l : List Nat, PyData.canLayAll0 (l.map fun (k : Nat) => PyData.int (k : Int)) = true
  | [] => rfl
  | _ :: r => by
    have := lay_nats r
    simp [PyData.canLayAll0, PyData.canLay0, this]
theorem deep_nats : ∀ l : List Nat, PyData.depthAll (l.map fun (k : Nat) => PyData.int (k : Int)) ≤ 1
  | [] => by simp [PyData.depthAll]
  | _ :: r => by
    have := deep_nats r
    simp [PyData.depthAll, PyData.depth]
    omega
theorem shp_nats (l : List Nat) : SeqAt.shaped (.list (l.map fun (k : Nat) => PyData.int (k : Int))) = true := by
  have := deep_nats l
  simp [SeqAt.shaped, PyData.canLay0, PyData.depth, lay_nats]
  omega
theorem ok_law {P : Program} {w : World} {K : Fg} {mg : Str → Option Value} {base : Heap} {f : Addr} {fd : FuncData} (F : Fun K "law" "law" s_law f fd)
    (m_range : mg "range" = none)
    (m_int : mg "int" = none)
    (m_tuple : mg "tuple" = none)
    (c__law_some_rule : Cal P w K mg base 3 "_law_some_rule" (spC K 0 R_someRule))
    (c__law_pick : Cal P w K mg base 2 "_law_pick" (spC K 1 R_pick))
    (c__law_step : Cal P w K mg base 2 "_law_step" (spD K 2 R_lstep))
    (c__law_alike : Cal P w K mg base 6 "_law_alike" (spD K 2 (R_alike 5)))
    (c_stills_far : Cal P w K mg base 6 "stills_far" (spD K 3 R_sfar))
    (c_stills_in_strip : Cal P w K mg base 6 "stills_in_strip" (spD K 3 R_still))
    (c__law_taken : Cal P w K mg base 1 "_law_taken" (spC K 1 R_taken)) :
    FnOk P w K mg base (L2.CX P w) 9 f fd ["script"] (spD K 1 R_law) := by
  refine F.okX sc_law (fun vs H Q E h => len_D h) (fun cdv A outer s H vs Q E hr h => ⟨_, (pss_cons (ps_set (i := 1) sc_law.nd rfl (by first | exact Or.inl rfl | exact Or.inr rfl) (pe_lst (pa_cons (pv 0) (pa_cons pe_int (pa_cons pe_int (pa_cons pe_int pa_nil))))))
      (pss_cons (ps_set (i := 2) sc_law.nd rfl (by first | exact Or.inl rfl | exact Or.inr rfl) (pe_cl c__law_some_rule hr (show 3 ≤ 8 by decide) passL (pa_cons (pv 1) pa_nil)))
      (pss_cons (ps_asg (pe_cl c__law_pick hr (show 2 ≤ 8 by decide) passL (pa_cons (pv 1) (pa_cons (pe_lst (pa_cons (pe_tup (pa_cons pe_int (pa_cons pe_int pa_nil))) (pa_cons (pe_tup (pa_cons pe_int (pa_cons pe_int pa_nil))) (pa_cons (pe_tup (pa_cons pe_int (pa_cons pe_int pa_nil))) (pa_cons (pe_tup (pa_cons pe_int (pa_cons pe_int pa_nil))) (pa_cons (pe_tup (pa_cons pe_int (pa_cons pe_int pa_nil))) pa_nil)))))) pa_nil))) (pg_tup rfl (pgs_cons (pg_name (i := 3) sc_law.nd rfl (by first | exact Or.inl rfl | exact Or.inr rfl)) (pgs_cons (pg_name (i := 4) sc_law.nd rfl (by first | exact Or.inl rfl | exact Or.inr rfl)) pgs_nil))))
      (pss_cons (ps_asg (pe_tup (pa_cons pe_int (pa_cons (pe_op op_sub (pe_op op_shlW pe_int pe_int) pe_int) pa_nil))) (pg_tup rfl (pgs_cons (pg_name (i := 5) sc_law.nd rfl (by first | exact Or.inl rfl | exact Or.inr rfl)) (pgs_cons (pg_name (i := 6) sc_law.nd rfl (by first | exact Or.inl rfl | exact Or.inr rfl)) pgs_nil))))
      (pss_cons (ps_for (passes_of rfl) rfl (pi_range1 (by rfl) m_range (pa_cons (pe_op op_shlW pe_int (pe_op op_mul (pv 3) (pv 4))) pa_nil)) (pg_name (i := 7) sc_law.nd rfl (by first | exact Or.inl rfl | exact Or.inr rfl)) (pss_cons (ps_set (i := 8) sc_law.nd rfl (by first | exact Or.inl rfl | exact Or.inr rfl) (pe_lst pa_nil))
      (pss_cons (ps_for (passes_of rfl) rfl (pi_range1 (by rfl) m_range (pa_cons (pv 4) pa_nil)) (pg_name (i := 9) sc_law.nd rfl (by first | exact Or.inl rfl | exact Or.inr rfl)) (pss_one (ps_set (i := 8) sc_law.nd rfl (by first | exact Or.inl rfl | exact Or.inr rfl) (pe_op op_catD (pv 8) (pe_lc (own := [("y", 10)]) rfl sc_law.nd (pi_range1 (by rfl) m_range (pa_cons (pv 3) pa_nil)) (blkOk_by (N := N_law) (sc := defScope s_law) (by decide +kernel)) (fun _ _ _ _ _ => (pg_name (i := 10) sc_law.nd rfl (by first | exact Or.inl rfl | exact Or.inr rfl))) (fun _ _ _ _ _ => (pts_one (pt_cmpR (show OpR _ (compareOp .Eq) (rEqA K) from (op_eqA hr.units)) (pe_op op_and (pe_op op_shr (pv 7) (pe_op (show OpR _ (binaryOp .Add) (rAddA K) from op_addA) (pe_op op_mul (pv 9) (pv 3)) (pv 10))) pe_int) pe_int (nomark _)))) (fun _ _ _ _ _ => (pe_tup (pa_cons (pv 9) (pa_cons (pv 10) (pa_cons pe_int pa_nil))))))))))
      (pss_one (ps_set (i := 5) sc_law.nd rfl (by first | exact Or.inl rfl | exact Or.inr rfl) (pe_op op_addA (pv 5) (pe_callTy (call_int1.or call_int_str) (by rfl) m_int bt_int (pa_cons (pe_cmpR (op_eqA hr.units) (pe_cl c__law_step hr (show 2 ≤ 8 by decide) passL (pa_cons (pv 2) (pa_cons (pe_callTy call_tuple_of (by rfl) m_tuple bt_tuple (pa_cons (pv 8) pa_nil)) pa_nil))) (pe_callTy call_tuple_of (by rfl) m_tuple bt_tuple (pa_cons (pv 8) pa_nil)) (nomark _)) pa_nil))))))))
      (pss_cons (ps_if (pt_not (pt_val (pe_cl c__law_alike hr (show 6 ≤ 8 by decide) passL (pa_cons (pe_lst (pa_cons (pe_cl c_stills_in_strip hr (show 6 ≤ 8 by decide) passL (pa_cons (pv 2) (pa_cons (pv 3) (pa_cons (pv 4) pa_nil)))) (pa_cons (pe_cl c_stills_far hr (show 6 ≤ 8 by decide) passL (pa_cons (pv 2) (pa_cons (pv 3) (pa_cons (pv 4) pa_nil)))) pa_nil))) (pa_cons (pe_lst (pa_cons (pv 5) (pa_cons (pe_op op_mod (pv 5) (pv 6)) pa_nil))) pa_nil))) (fun _ => rfl))) (pss_one (ps_ret pe_bl)) pss_nil)
      (pss_cons (ps_set (i := 3) sc_law.nd rfl (by first | exact Or.inl rfl | exact Or.inr rfl) (pe_cl c__law_pick hr (show 2 ≤ 8 by decide) passL (pa_cons (pv 1) (pa_cons (pe_lst (pa_cons pe_int (pa_cons pe_int (pa_cons pe_int pa_nil)))) pa_nil))))
      (pss_cons (ps_set (i := 11) sc_law.nd rfl (by first | exact Or.inl rfl | exact Or.inr rfl) (pe_lc (own := [("at", 12)]) rfl sc_law.nd (pi_range1 (by rfl) m_range (pa_cons pe_int pa_nil)) (blkOk_by (N := N_law) (sc := defScope s_law) (by decide +kernel)) (fun _ _ _ _ _ => (pg_name (i := 12) sc_law.nd rfl (by first | exact Or.inl rfl | exact Or.inr rfl))) (fun _ _ _ _ _ => pts_nil) (fun _ _ _ _ _ => (pe_cl c_stills_in_strip hr (show 6 ≤ 8 by decide) passL (pa_cons (pv 2) (pa_cons (pv 3) (pa_cons (pv 12) pa_nil)))))))
      (pss_cons (ps_if (PW.pt (pw_or (pt_cmpR (op_neA hr.units) (pe_ix ix_seq (pv 11) pe_int (fun _ _ => rfl)) pe_int (nomark _)) (pw_or1 (pt_cmpR (op_neA hr.units) (pe_lc (own := [("at", 12)]) rfl sc_law.nd (pi_range1 (by rfl) m_range (pa_cons pe_int pa_nil)) (blkOk_by (N := N_law) (sc := defScope s_law) (by decide +kernel)) (fun _ _ _ _ _ => (pg_name (i := 12) sc_law.nd rfl (by first | exact Or.inl rfl | exact Or.inr rfl))) (fun _ _ _ _ _ => (pts_one (pt_cmpR op_lt (pe_ix (show IxR _ (rIx K) from ix_seq) (pv 11) (pv 12) (fun _ _ => rfl)) pe_int (nomark _)))) (fun _ _ _ _ _ => (pv 12))) (pe_lst pa_nil) (nomark _))))) (pss_one (ps_ret pe_bl)) pss_nil)
      (pss_cons (ps_set (i := 13) sc_law.nd rfl (by first | exact Or.inl rfl | exact Or.inr rfl) (pe_cl c__law_taken hr (show 1 ≤ 8 by decide) passL (pa_cons (pv 1) (pa_cons pe_int pa_nil))))
      (pss_cons (ps_if (pt_cmpR (op_neA hr.units) (pe_cl c_stills_far hr (show 6 ≤ 8 by decide) passL (pa_cons (pv 2) (pa_cons (pv 3) (pa_cons (pv 13) pa_nil)))) (pe_op op_mod (pe_callTy (call_int1.or call_int_str) (by rfl) m_int bt_int (pa_cons (pe_cl c_stills_in_strip hr (show 6 ≤ 8 by decide) passL (pa_cons (pv 2) (pa_cons (pv 3) (pa_cons (pv 13) pa_nil)))) pa_nil)) (pv 6)) (nomark _)) (pss_one (ps_ret pe_bl)) pss_nil)
      (pss_cons (ps_asg (pe_tup (pa_cons (pe_op op_addA (pe_op op_shlW pe_int pe_int) (pe_cl c__law_taken hr (show 1 ≤ 8 by decide) passL (pa_cons (pv 1) (pa_cons (pe_op op_shlW pe_int pe_int) pa_nil)))) (pa_cons pe_int pa_nil))) (pg_tup rfl (pgs_cons (pg_name (i := 14) sc_law.nd rfl (by first | exact Or.inl rfl | exact Or.inr rfl)) (pgs_cons (pg_name (i := 15) sc_law.nd rfl (by first | exact Or.inl rfl | exact Or.inr rfl)) pgs_nil))))
      (pss_cons (ps_set (i := 16) sc_law.nd rfl (by first | exact Or.inl rfl | exact Or.inr rfl) (pe_lc (own := [("k", 17)]) rfl sc_law.nd (pi_range1 (by rfl) m_range (pa_cons (pv 15) pa_nil)) (blkOk_by (N := N_law) (sc := defScope s_law) (by decide +kernel)) (fun _ _ _ _ _ => (pg_name (i := 17) sc_law.nd rfl (by first | exact Or.inl rfl | exact Or.inr rfl))) (fun _ _ _ _ _ => pts_nil) (fun _ _ _ _ _ => (pe_cl c_stills_far hr (show 6 ≤ 8 by decide) passL (pa_cons (pv 2) (pa_cons pe_int (pa_cons (pe_op (show OpR _ (binaryOp .Add) (rAddA K) from op_addA) (pv 14) (pv 17)) pa_nil)))))))
      (pss_cons (ps_set (i := 18) sc_law.nd rfl (by first | exact Or.inl rfl | exact Or.inr rfl) (pe_lc (own := [("k", 17)]) rfl sc_law.nd (pi_range1 (by rfl) m_range (pa_cons pe_int pa_nil)) (blkOk_by (N := N_law) (sc := defScope s_law) (by decide +kernel)) (fun _ _ _ _ _ => (pg_name (i := 17) sc_law.nd rfl (by first | exact Or.inl rfl | exact Or.inr rfl))) (fun _ _ _ _ _ => pts_nil) (fun _ _ _ _ _ => (pe_cl c_stills_in_strip hr (show 6 ≤ 8 by decide) passL (pa_cons (pv 2) (pa_cons pe_int (pa_cons (pv 17) pa_nil)))))))
      (pss_cons (ps_for (passes_of rfl) rfl (pi_range1 (by rfl) m_range (pa_cons pe_int pa_nil)) (pg_name (i := 19) sc_law.nd rfl (by first | exact Or.inl rfl | exact Or.inr rfl)) (pss_one (ps_for (passes_of rfl) rfl (pi_range1 (by rfl) m_range (pa_cons pe_int pa_nil)) (pg_name (i := 20) sc_law.nd rfl (by first | exact Or.inl rfl | exact Or.inr rfl)) (pss_one (ps_for (passes_of rfl) rfl (pi_range1 (by rfl) m_range (pa_cons pe_int pa_nil)) (pg_name (i := 21) sc_law.nd rfl (by first | exact Or.inl rfl | exact Or.inr rfl)) (pss_one (ps_if (pt_cmpR (op_eqA hr.units) (pe_lc (own := [("k", 17)]) rfl sc_law.nd (pi_range2 (by rfl) m_range (pa_cons pe_int (pa_cons pe_int pa_nil))) (blkOk_by (N := N_law) (sc := defScope s_law) (by decide +kernel)) (fun _ _ _ _ _ => (pg_name (i := 17) sc_law.nd rfl (by first | exact Or.inl rfl | exact Or.inr rfl))) (fun _ _ _ _ _ => (pts_one (pt_cmpR (show OpR _ (compareOp .NotEq) (rNeA K) from (op_neA hr.units)) (pe_ix (show IxR _ (rIx K) from ix_seq) (pv 18) (pv 17) (fun _ _ => rfl)) (pe_op (show OpR _ (binaryOp .Add) (rAddA K) from op_addA) (pe_op (show OpR _ (binaryOp .Add) (rAddA K) from op_addA) (pe_op op_mul (pe_ix (show IxR _ (rIx K) from ix_seq) (pv 18) (pe_op op_sub (pv 17) pe_int) (fun _ _ => rfl)) (pv 19)) (pe_op op_mul (pe_ix (show IxR _ (rIx K) from ix_seq) (pv 18) (pe_op op_sub (pv 17) pe_int) (fun _ _ => rfl)) (pe_op op_sub (pv 20) pe_int))) (pe_op op_mul (pe_ix (show IxR _ (rIx K) from ix_seq) (pv 18) (pe_op op_sub (pv 17) pe_int) (fun _ _ => rfl)) (pe_op op_sub (pv 21) pe_int))) (nomark _)))) (fun _ _ _ _ _ => (pv 17))) (pe_lst pa_nil) (nomark _)) (pss_cons (ps_setLc (own := [("k", 17)]) (i := 22) rfl sc_law.nd rfl rfl (sw_true rfl rfl rfl (by decide +kernel)) (pi_range2 (by rfl) m_range (pa_cons pe_int (pa_cons (pv 15) pa_nil))) (blkOk_by (N := N_law) (sc := defScope s_law) (by decide +kernel)) (fun _ _ _ _ _ => (pg_name (i := 17) sc_law.nd rfl (by first | exact Or.inl rfl | exact Or.inr rfl))) (fun _ _ _ _ _ => (pts_one (pt_cmpR (show OpR _ (compareOp .NotEq) (rNeA K) from (op_neA hr.units)) (pe_ix (show IxR _ (rIx K) from ix_seq) (pv 16) (pv 17) (fun _ _ => rfl)) (pe_op op_mod (pe_callTy (call_int1.or call_int_str) (by rfl) m_int bt_int (pa_cons (pe_op (show OpR _ (binaryOp .Add) (rAddA K) from op_addA) (pe_op (show OpR _ (binaryOp .Add) (rAddA K) from op_addA) (pe_op op_mul (pe_ix (show IxR _ (rIx K) from ix_seq) (pv 16) (pe_op op_sub (pv 17) pe_int) (fun _ _ => rfl)) (pv 19)) (pe_op op_mul (pe_ix (show IxR _ (rIx K) from ix_seq) (pv 16) (pe_op op_sub (pv 17) pe_int) (fun _ _ => rfl)) (pe_op op_sub (pv 20) pe_int))) (pe_op op_mul (pe_ix (show IxR _ (rIx K) from ix_seq) (pv 16) (pe_op op_sub (pv 17) pe_int) (fun _ _ => rfl)) (pe_op op_sub (pv 21) pe_int))) pa_nil)) (pv 6)) (nomark _)))) (fun _ _ _ _ _ => (pv 17)))
      (pss_one (ps_ret (pe_cmpR (op_eqA hr.units) (pv 22) (pe_lst pa_nil) (nomark _))))) pss_nil)))))))
      (pss_one (ps_ret pe_bl))))))))))))))))),
    fn_D h fun ds o hk hR => ?_⟩)
  try dsimp only [L2.cxOf]
  obtain ⟨ns, rfl, rfl⟩ := hR
  have hsz : (sizeLine : Nat) = 16777216 := sizeLine_eq
  let t0 : RowS := ⟨ns, 0, 10827, 0, by decide, by decide, by decide⟩
  walk_at "zq"
  refine zw_lstC ?_
  walk_at "zq"
  walk_at "zt"
  intro p
  walk_at "zq"
  refine ⟨p, _, _, _, _, rfl, m0, allD_nil, rfl, ⟨t0, rfl, rfl, fun r t1 hr2 hb2 => ⟨_, _, rfl, .here, ?_⟩⟩⟩
  clear t0
  walk_at "zq"
  refine zw_lstD ?_
  repeat (first | walk_at "z" | walk_at "ze" | walk_at "zt")
  refine ⟨p, _, _, _, _, rfl, m0, allD_cons allD_nil, rfl, ⟨t1, _, rfl, rfl, by simp, by simp, fun i v t2 hv => ⟨_, _, rfl, .here, ?_⟩⟩⟩
  clear t1
  obtain ⟨h, w, rfl, ho⟩ : ∃ h w : Nat, v = .tuple [.int (h : Int), .int (w : Int)] ∧ ((h = 1 ∧ w = 7) ∨ (h = 2 ∧ w = 4) ∨ (h = 3 ∧ w = 2) ∨ (h = 2 ∧ w = 3) ∨ (h = 1 ∧ w = 5)) := by
    have hm := List.mem_of_getElem? hv
    simp only [List.mem_cons, List.not_mem_nil, or_false] at hm
    rcases hm with rfl | rfl | rfl | rfl | rfl
    · exact ⟨1, 7, rfl, by decide⟩
    · exact ⟨2, 4, rfl, by decide⟩
    · exact ⟨3, 2, rfl, by decide⟩
    · exact ⟨2, 3, rfl, by decide⟩
    · exact ⟨1, 5, rfl, by decide⟩
  clear hv i
  obtain ⟨b1, b3, b7, b8, b9⟩ := box_ok ho
  clear ho
  have hpw : 2 ^ (h * w) ≤ 2 ^ 8 := Nat.pow_le_pow_right (by decide) b9
  refine ⟨_, _, zg_tup rfl (zgs_cons (zgs_cons zgs_nil)), ?_⟩
  refine zs_seq (zs_nx (N := fun S M => S = [some (.d (.list (ns.map .int))), some (.c p), some (.d r.d), some (.d (.int (h : Int))), some (.d (.int (w : Int))), some (.d (.int 0)), some (.d (.int PZ)), none, none, none, none, none, none, none, none, none, none, none, none, none, none, none, none] ∧ M = [(p, true, .lst t2.d)]) ?_ ?_)
  · walk_at "zq"
    refine zo_shlN (a := 1) (k := 61) (sh_one (by decide)) ?_
    walk_at "zq"
    walk_at "zt"
    walk_at "zq"
    exact ⟨rfl, rfl⟩
  rintro S M ⟨rfl, rfl⟩
  refine zs_seq (zs_nx (N := fun S M => ∃ c7 c8 c9 c10 : Option ZV, S = [some (.d (.list (ns.map .int))), some (.c p), some (.d r.d), some (.d (.int (h : Int))), some (.d (.int (w : Int))), some (.d (.int (cnum r h w))), some (.d (.int PZ)), c7, c8, c9, c10, none, none, none, none, none, none, none, none, none, none, none, none] ∧ M = [(p, true, .lst t2.d)]) ?_ ?_)
  · walk_at "zq"
    refine zo_mul (.inl ⟨by omega, by omega⟩) ?_
    rw [show (h : Int) * (w : Int) = ((h * w : Nat) : Int) by rw [Int.natCast_mul]]
    refine zo_shlN (a := 1) (k := h * w) (sh_one (by omega)) ?_
    rw [show 1 <<< (h * w) = 2 ^ (h * w) by rw [Nat.shiftLeft_eq, Nat.one_mul]]
    have hall := goods_all hr2 h w
    have hstep : ∀ n, n < 2 ^ (h * w) → ∃ b' : List Cell, R_lstep [r.d, bD (colsL h n w)] (.ok (bD b')) ∧ decide (b' = colsL h n w) = goodC r h n (w + 2) := fun n hn => step_ex hr2 hn (by omega)
    generalize 2 ^ (h * w) = W at hpw hall hstep ⊢
    walk_at "zq"
    refine ⟨by omega, by omega, fun n S M => ∃ c7 c8 c9 c10 : Option ZV, S = [some (.d (.list (ns.map .int))), some (.c p), some (.d r.d), some (.d (.int (h : Int))), some (.d (.int (w : Int))), some (.d (.int (goods r h w n))), some (.d (.int PZ)), c7, c8, c9, c10, none, none, none, none, none, none, none, none, none, none, none, none] ∧ M = [(p, true, .lst t2.d)], ⟨_, _, _, _, rfl, rfl⟩, ?_, ?_⟩
    · rintro n S M hn ⟨c7, c8, c9, c10, rfl, rfl⟩
      have hn : n < W := by omega
      refine ⟨_, _, zg_name, ?_⟩
      rw [show (0 : Int) + (n : Int) = (n : Int) by omega]
      walk_at "zq"
      refine zw_lstD ?_
      walk_at "zq"
      walk_at "zt"
      walk_at "zq"
      refine ⟨by omega, by omega, fun x S M => ∃ c9 c10 : Option ZV, S = [some (.d (.list (ns.map .int))), some (.c p), some (.d r.d), some (.d (.int (h : Int))), some (.d (.int (w : Int))), some (.d (.int (goods r h w n))), some (.d (.int PZ)), some (.d (.int (n : Int))), some (.d (.list ((colsL h n x).map Cell.d))), c9, c10, none, none, none, none, none, none, none, none, none, none, none, none] ∧ M = [(p, true, .lst t2.d)], ⟨_, _, rfl, rfl⟩, ?_, ?_⟩
      · rintro x S M hx ⟨c9, c10, rfl, rfl⟩
        have hx : x < w := by omega
        have hxh : x * h ≤ 7 * 3 := Nat.mul_le_mul (by omega) b3
        have hcl := colsL_len h n x
        refine ⟨_, _, zg_name, ?_⟩
        rw [show (0 : Int) + (x : Int) = (x : Int) by omega]
        refine zs_asg (zw_op (zw_var rfl (lcR1_fm h (fun j => (⟨(x : Int), (j : Int), 1⟩ : Cell).d) (fun j => n.testBit (x * h + j)) ?_)))
        walk_at "zq"
        refine ⟨rfl, by omega, fun j hj => ⟨_, _, ?_, zg_name, fun D acc => ⟨?_, fun z => ?_⟩⟩, ?_⟩
        · simp
        · walk_at "zq"
          refine zo_mul (.inl ⟨by omega, by omega⟩) ?_
          rw [show (x : Int) * (h : Int) = ((x * h : Nat) : Int) by rw [Int.natCast_mul]]
          walk_at "zq"
          rw [← Int.natCast_add]
          refine zo_shrN ?_
          walk_at "zq"
          refine zo_band (b := 1) ?_
          walk_at "zq"
          exact ⟨bit_eq _ _, rfl⟩
        · walk_at "zq"
          walk_at "zt"
          exact ⟨rfl, rfl⟩
        · have hfl : ((List.range h).filter fun j => n.testBit (x * h + j)).length ≤ h := by
            have := List.length_filter_le (fun j => n.testBit (x * h + j)) (List.range h)
            rwa [List.length_range] at this
          refine zo_catD (by rw [List.length_map, List.length_map]; omega) ?_
          refine ⟨some (.d (.int (x : Int))), c10, ?_, rfl⟩
          rw [colsL_succ, List.map_append, List.map_map]
          rfl
      · rintro S M ⟨c9, c10, rfl, rfl⟩
        rw [Int.toNat_natCast]
        obtain ⟨b', hst, hdec⟩ := hstep n hn
        walk_at "zq"
        refine zc_tupL ?_
        walk_at "zq"
        refine ⟨_, _, allD_cons (allD_cons allD_nil), rfl, hst, ?_⟩
        walk_at "zq"
        refine zc_tupL ?_
        refine zo_eqDD (shp_bD _) (shp_bD _) ?_
        rw [eqv_bDs, hdec]
        walk_at "zq"
        refine zc_intB ?_
        walk_at "zq"
        exact ⟨_, _, _, _, rfl, rfl⟩
    · rintro S M ⟨c7, c8, c9, c10, rfl, rfl⟩
      rw [Int.toNat_natCast, hall]
      exact ⟨_, _, _, _, rfl, rfl⟩
  rintro S M ⟨c7, c8, c9, c10, rfl, rfl⟩
  walk_at "zq"
  refine zw_lstD ?_
  walk_at "zq"
  refine ⟨_, _, allD_cons (allD_cons (allD_cons allD_nil)), rfl, ⟨r, h, w, rfl, hr2, b1, b3, by omega, rfl⟩, ?_⟩
  walk_at "zq"
  refine ⟨_, _, allD_cons (allD_cons (allD_cons allD_nil)), rfl, ⟨r, h, w, rfl, hr2, b1, b3, by omega, rfl⟩, ?_⟩
  walk_at "zq"
  walk_at "zt"
  refine za_cons (zw_lstD ?_)
  walk_at "zq"
  refine zo_mod (by decide) ?_
  walk_at "zq"
  walk_at "zt"
  walk_at "zq"
  refine ⟨_, _, allD_cons (allD_cons allD_nil), rfl, ⟨.list [.int (cnum r h w), .int (cnum r h w % PZ)], rfl, rfl, rfl⟩, ?_⟩
  walk_at "zq"
  refine zw_lstD ?_
  walk_at "zq"
  walk_at "zt"
  walk_at "zq"
  refine ⟨p, _, _, _, _, rfl, m0, allD_cons allD_nil, rfl, ⟨t2, _, rfl, rfl, by simp, by simp, fun i v t3 hv => ⟨_, _, rfl, .here, ?_⟩⟩⟩
  clear t2
  obtain ⟨g, rfl, hg⟩ : ∃ g : Nat, v = .int (g : Int) ∧ (g = 1 ∨ g = 2) := by
    have hm := List.mem_of_getElem? hv
    simp only [List.mem_cons, List.not_mem_nil, or_false] at hm
    rcases hm with rfl | rfl | rfl
    · exact ⟨1, rfl, .inl rfl⟩
    · exact ⟨1, rfl, .inl rfl⟩
    · exact ⟨2, rfl, .inr rfl⟩
  clear hv i
  have g1 : 1 ≤ g := by omega
  have g3 : g ≤ 3 := by omega
  clear hg
  refine zs_seq (zs_nx (N := fun S M => S = [some (.d (.list (ns.map .int))), some (.c p), some (.d r.d), some (.d (.int (g : Int))), some (.d (.int (w : Int))), some (.d (.int (cnum r h w))), some (.d (.int PZ)), c7, c8, c9, c10, some (.d (.list ((List.range 26).map fun i => .int (cnum r g i)))), none, none, none, none, none, none, none, none, none, none, none] ∧ M = [(p, true, .lst t3.d)]) ?_ ?_)
  · refine zs_asg (lcR_map (m := 26) (fun i => .int (cnum r g i)) ?_)
    walk_at "zq"
    refine ⟨rfl, by omega, fun i hi => ⟨_, _, ?_, zg_name, fun D acc => ?_⟩, ?_⟩
    · simp
    · walk_at "zq"
      refine ⟨_, _, allD_cons (allD_cons (allD_cons allD_nil)), rfl, ⟨r, g, i, rfl, hr2, g1, g3, by omega, rfl⟩, ?_⟩
      exact ⟨rfl, rfl⟩
    · exact ⟨rfl, rfl⟩
  rintro S M ⟨rfl, rfl⟩
  have hnum : ∀ i : Nat, i < 26 → atI ((List.range 26).map fun i => PyData.int (cnum r g i)) (i : Int) = some (.int (cnum r g i)) := fun i hi => atI_nat (by rw [List.getElem?_map, List.getElem?_range hi]; rfl)
  generalize (List.range 26).map (fun i => PyData.int (cnum r g i)) = nums at hnum ⊢
  refine zs_seq (zs_nx (N := fun S M => S = [some (.d (.list (ns.map .int))), some (.c p), some (.d r.d), some (.d (.int (g : Int))), some (.d (.int (w : Int))), some (.d (.int (cnum r h w))), some (.d (.int PZ)), c7, c8, c9, c10, some (.d (.list nums)), none, none, none, none, none, none, none, none, none, none, none] ∧ M = [(p, true, .lst t3.d)]) ?_ ?_)
  · walk_at "zq"
    refine zo_ix (hnum 0 (by decide)) ?_
    rw [cnum_zero hr2]
    refine zw_int (zo_neI ?_)
    refine ⟨_, rfl, fun e => absurd e (by decide), fun _ => ?_⟩
    refine zt_test (zw_op (lcR1_fm 26 (fun i => .int (i : Nat)) (fun i => decide (cnum r g i < 1)) ?_))
    walk_at "zq"
    refine ⟨rfl, by omega, fun i hi => ⟨_, _, ?_, zg_name, fun D acc => ⟨?_, fun z => ?_⟩⟩, ?_⟩
    · simp
    · walk_at "zq"
      refine zo_ix (hnum i hi) ?_
      walk_at "zq"
      exact ⟨rfl, rfl⟩
    · walk_at "zq"
      exact ⟨rfl, rfl⟩
    · rw [show (List.range 26).filter (fun i => decide (cnum r g i < 1)) = [] from List.filter_eq_nil_iff.mpr fun i _ => by have := cnum_pos hr2 g i; simp; omega]
      refine zw_lstD ?_
      walk_at "zq"
      walk_at "zt"
      refine zo_neDD rfl rfl ?_
      rw [List.map_nil, eqv_nil]
      walk_at "zq"
      try exact ⟨rfl, rfl⟩
  rintro S M ⟨rfl, rfl⟩
  walk_at "zq"
  refine ⟨p, _, _, _, _, rfl, m0, allD_cons allD_nil, rfl, ⟨t3, 60, rfl, rfl, by decide, by decide, fun f0 t4 hf0 hf1 => ⟨_, _, rfl, .here, ?_⟩⟩⟩
  clear t3
  obtain ⟨fa, rfl⟩ : ∃ fa : Nat, f0 = (fa : Int) := ⟨f0.toNat, by omega⟩
  walk_at "zq"
  refine ⟨_, _, allD_cons (allD_cons (allD_cons allD_nil)), rfl, ⟨r, g, fa, rfl, hr2, g1, g3, by omega, rfl⟩, ?_⟩
  walk_at "zq"
  refine ⟨_, _, allD_cons (allD_cons (allD_cons allD_nil)), rfl, ⟨r, g, fa, rfl, hr2, g1, g3, by omega, rfl⟩, ?_⟩
  walk_at "zq"
  refine zo_mod (by decide) ?_
  walk_at "zq"
  refine ⟨fun e => absurd e (by simp), fun _ => ?_⟩
  refine zs_next ?_
  refine zs_seq (zs_nx (N := fun S M => ∃ (st : Nat) (t5 : RowS), S = [some (.d (.list (ns.map .int))), some (.c p), some (.d r.d), some (.d (.int (g : Int))), some (.d (.int (w : Int))), some (.d (.int (cnum r h w))), some (.d (.int PZ)), c7, c8, c9, c10, some (.d (.list nums)), none, some (.d (.int (fa : Int))), some (.d (.int (st : Int))), some (.d (.int 17)), none, none, none, none, none, none, none] ∧ M = [(p, true, .lst t5.d)] ∧ 100 ≤ st ∧ st < 2 ^ 90) ?_ ?_)
  · walk_at "zq"
    refine zo_shlN (a := 1) (k := 80) (sh_one (by decide)) ?_
    walk_at "zq"
    refine zo_shlN (a := 1) (k := 70) (sh_one (by decide)) ?_
    walk_at "zq"
    refine ⟨p, _, _, _, _, rfl, m0, allD_cons allD_nil, rfl, ⟨t4, _, rfl, rfl, by decide, log_small (by decide), fun s0 t5 hs0 hs1 => ⟨_, _, rfl, .here, ?_⟩⟩⟩
    have hs1 : s0 < 1180591620717411303424 := hs1
    obtain ⟨s1, rfl⟩ : ∃ s1 : Nat, s0 = (s1 : Int) := ⟨s0.toNat, by omega⟩
    walk_at "zq"
    walk_at "zt"
    walk_at "zq"
    have h80 : 1 <<< 80 = 1208925819614629174706176 := rfl
    refine ⟨by omega, by omega⟩
  rintro S M ⟨st, t5, rfl, rfl, hst, hst2⟩
  clear t4
  refine zs_seq (zs_nx (N := fun S M => S = [some (.d (.list (ns.map .int))), some (.c p), some (.d r.d), some (.d (.int (g : Int))), some (.d (.int (w : Int))), some (.d (.int (cnum r h w))), some (.d (.int PZ)), c7, c8, c9, c10, some (.d (.list nums)), none, some (.d (.int (fa : Int))), some (.d (.int (st : Int))), some (.d (.int 17)), some (.d (.list ((List.range 17).map fun k => .int (cnum r 1 (st + k) % PZ)))), none, none, none, none, none, none] ∧ M = [(p, true, .lst t5.d)]) ?_ ?_)
  · refine zs_asg (lcR_map (m := 17) (fun k => .int (cnum r 1 (st + k) % PZ)) ?_)
    walk_at "zq"
    refine ⟨rfl, by omega, fun i hi => ⟨_, _, ?_, zg_name, fun D acc => ?_⟩, ?_⟩
    · simp
    · walk_at "zq"
      refine ⟨_, _, allD_cons (allD_cons (allD_cons allD_nil)), rfl, ⟨r, 1, st + i, ?_, hr2, by decide, by decide, by omega, rfl⟩, ?_⟩
      · rw [Int.natCast_add]; rfl
      · exact ⟨rfl, rfl⟩
    · exact ⟨rfl, rfl⟩
  rintro S M ⟨rfl, rfl⟩
  refine zs_seq (zs_nx (N := fun S M => S = [some (.d (.list (ns.map .int))), some (.c p), some (.d r.d), some (.d (.int (g : Int))), some (.d (.int (w : Int))), some (.d (.int (cnum r h w))), some (.d (.int PZ)), c7, c8, c9, c10, some (.d (.list nums)), none, some (.d (.int (fa : Int))), some (.d (.int (st : Int))), some (.d (.int 17)), some (.d (.list ((List.range 17).map fun k => .int (cnum r 1 (st + k) % PZ)))), none, some (.d (.list ((List.range 40).map fun k => .int (cnum r 1 k)))), none, none, none, none] ∧ M = [(p, true, .lst t5.d)]) ?_ ?_)
  · refine zs_asg (lcR_map (m := 40) (fun k => .int (cnum r 1 k)) ?_)
    walk_at "zq"
    refine ⟨rfl, by omega, fun i hi => ⟨_, _, ?_, zg_name, fun D acc => ?_⟩, ?_⟩
    · simp
    · walk_at "zq"
      refine ⟨_, _, allD_cons (allD_cons (allD_cons allD_nil)), rfl, ⟨r, 1, i, rfl, hr2, by decide, by decide, by omega, rfl⟩, ?_⟩
      exact ⟨rfl, rfl⟩
    · exact ⟨rfl, rfl⟩
  rintro S M ⟨rfl, rfl⟩
  have hnear : ∀ i : Nat, i < 40 → atI ((List.range 40).map fun k => PyData.int (cnum r 1 k)) (i : Int) = some (.int (cnum r 1 i)) := fun i hi => atI_nat (by rw [List.getElem?_map, List.getElem?_range hi]; rfl)
  have hrows : ∀ i : Nat, i < 17 → atI ((List.range 17).map fun k => PyData.int (cnum r 1 (st + k) % PZ)) (i : Int) = some (.int (cnum r 1 (st + i) % PZ)) := fun i hi => atI_nat (by rw [List.getElem?_map, List.getElem?_range hi]; rfl)
  generalize (List.range 40).map (fun k => PyData.int (cnum r 1 k)) = near at hnear ⊢
  generalize (List.range 17).map (fun k => PyData.int (cnum r 1 (st + k) % PZ)) = rows at hrows ⊢
  walk_at "zq"
  refine ⟨by omega, by omega, fun _ S M => ∃ ca cb cc : Option ZV, S = [some (.d (.list (ns.map .int))), some (.c p), some (.d r.d), some (.d (.int (g : Int))), some (.d (.int (w : Int))), some (.d (.int (cnum r h w))), some (.d (.int PZ)), c7, c8, c9, c10, some (.d (.list nums)), none, some (.d (.int (fa : Int))), some (.d (.int (st : Int))), some (.d (.int 17)), some (.d (.list rows)), none, some (.d (.list near)), ca, cb, cc, none] ∧ M = [(p, true, .lst t5.d)], ⟨_, _, _, rfl, rfl⟩, ?_, ?_⟩
  · rintro a S M ha ⟨ca, cb, cc, rfl, rfl⟩
    have ha : a < 4 := ha
    refine ⟨_, _, zg_name, ?_⟩
    rw [show (0 : Int) + (a : Int) = (a : Int) by omega]
    walk_at "zq"
    refine ⟨by omega, by omega, fun _ S M => ∃ cb cc : Option ZV, S = [some (.d (.list (ns.map .int))), some (.c p), some (.d r.d), some (.d (.int (g : Int))), some (.d (.int (w : Int))), some (.d (.int (cnum r h w))), some (.d (.int PZ)), c7, c8, c9, c10, some (.d (.list nums)), none, some (.d (.int (fa : Int))), some (.d (.int (st : Int))), some (.d (.int 17)), some (.d (.list rows)), none, some (.d (.list near)), some (.d (.int (a : Int))), cb, cc, none] ∧ M = [(p, true, .lst t5.d)], ⟨_, _, rfl, rfl⟩, ?_, ?_⟩
    · rintro b S M hb ⟨cb, cc, rfl, rfl⟩
      have hb : b < 4 := hb
      refine ⟨_, _, zg_name, ?_⟩
      rw [show (0 : Int) + (b : Int) = (b : Int) by omega]
      walk_at "zq"
      refine ⟨by omega, by omega, fun _ S M => ∃ cc : Option ZV, S = [some (.d (.list (ns.map .int))), some (.c p), some (.d r.d), some (.d (.int (g : Int))), some (.d (.int (w : Int))), some (.d (.int (cnum r h w))), some (.d (.int PZ)), c7, c8, c9, c10, some (.d (.list nums)), none, some (.d (.int (fa : Int))), some (.d (.int (st : Int))), some (.d (.int 17)), some (.d (.list rows)), none, some (.d (.list near)), some (.d (.int (a : Int))), some (.d (.int (b : Int))), cc, none] ∧ M = [(p, true, .lst t5.d)], ⟨_, rfl, rfl⟩, ?_, ?_⟩
      · rintro c S M hc ⟨cc, rfl, rfl⟩
        have hc : c < 3 := hc
        refine ⟨_, _, zg_name, ?_⟩
        rw [show (0 : Int) + (c : Int) = (c : Int) by omega]
        refine zs_if (zt_test (zw_op (lcR2_fm 12 28 (fun k => .int (k : Nat)) (fun k => !decide (cnum r 1 k = cnum r 1 (k - 1) * (a : Int) + cnum r 1 (k - 2) * ((b : Int) - 1) + cnum r 1 (k - 3) * ((c : Int) - 1))) ?_)))
        walk_at "zq"
        refine ⟨rfl, by omega, fun i hi => ⟨_, _, ?_, zg_name, fun D acc => ⟨?_, fun z => ?_⟩⟩, ?_⟩
        · simp
        · walk_at "zq"
          refine zo_ix (hnear (12 + i) (by omega)) ?_
          walk_at "zq"
          rw [show ((12 + i : Nat) : Int) - 1 = ((12 + i - 1 : Nat) : Int) by omega]
          refine zo_ix (hnear (12 + i - 1) (by omega)) ?_
          walk_at "zq"
          refine zo_mul (.inr ⟨by omega, by omega⟩) ?_
          walk_at "zq"
          rw [show ((12 + i : Nat) : Int) - 2 = ((12 + i - 2 : Nat) : Int) by omega]
          refine zo_ix (hnear (12 + i - 2) (by omega)) ?_
          walk_at "zq"
          refine zo_mul (.inr ⟨by omega, by omega⟩) ?_
          walk_at "zq"
          rw [show ((12 + i : Nat) : Int) - 3 = ((12 + i - 3 : Nat) : Int) by omega]
          refine zo_ix (hnear (12 + i - 3) (by omega)) ?_
          walk_at "zq"
          refine zo_mul (.inr ⟨by omega, by omega⟩) ?_
          walk_at "zq"
          exact ⟨rfl, rfl⟩
        · walk_at "zq"
          exact ⟨rfl, rfl⟩
        · refine zw_lstD ?_
          walk_at "zq"
          walk_at "zt"
          refine zo_eqDD (shp_nats _) rfl ?_
          rw [eqv_nil, List.isEmpty_map]
          walk_at "zq"
          refine ⟨fun e => ?_, fun e => ?_⟩
          · have hz : ∀ k, 12 ≤ k → k < 40 → cnum r 1 k = cnum r 1 (k - 1) * (a : Int) + cnum r 1 (k - 2) * ((b : Int) - 1) + cnum r 1 (k - 3) * ((c : Int) - 1) := by
              intro k h1 h2
              have := List.filter_eq_nil_iff.mp (List.isEmpty_iff.mp e) k (List.mem_map.mpr ⟨k - 12, List.mem_range.mpr (by omega), by omega⟩)
              simpa using this
            refine zs_seq (zs_nx (N := fun S M => S = [some (.d (.list (ns.map .int))), some (.c p), some (.d r.d), some (.d (.int (g : Int))), some (.d (.int (w : Int))), some (.d (.int (cnum r h w))), some (.d (.int PZ)), c7, c8, c9, c10, some (.d (.list nums)), none, some (.d (.int (fa : Int))), some (.d (.int (st : Int))), some (.d (.int 17)), some (.d (.list rows)), none, some (.d (.list near)), some (.d (.int (a : Int))), some (.d (.int (b : Int))), some (.d (.int (c : Int))), some (.d (.list []))] ∧ M = [(p, true, .lst t5.d)]) ?_ ?_)
            · refine zs_asg (lcR2_fm 3 14 (fun k => .int (k : Nat)) (fun k => !decide (cnum r 1 (st + k) % PZ = (cnum r 1 (st + (k - 1)) % PZ * (a : Int) + cnum r 1 (st + (k - 2)) % PZ * ((b : Int) - 1) + cnum r 1 (st + (k - 3)) % PZ * ((c : Int) - 1)) % PZ)) ?_)
              walk_at "zq"
              refine ⟨rfl, by omega, fun i hi => ⟨_, _, ?_, zg_name, fun D acc => ⟨?_, fun z => ?_⟩⟩, ?_⟩
              · simp
              · walk_at "zq"
                refine zo_ix (hrows (3 + i) (by omega)) ?_
                walk_at "zq"
                rw [show ((3 + i : Nat) : Int) - 1 = ((3 + i - 1 : Nat) : Int) by omega]
                refine zo_ix (hrows (3 + i - 1) (by omega)) ?_
                walk_at "zq"
                refine zo_mul (.inr ⟨by omega, by omega⟩) ?_
                walk_at "zq"
                rw [show ((3 + i : Nat) : Int) - 2 = ((3 + i - 2 : Nat) : Int) by omega]
                refine zo_ix (hrows (3 + i - 2) (by omega)) ?_
                walk_at "zq"
                refine zo_mul (.inr ⟨by omega, by omega⟩) ?_
                walk_at "zq"
                rw [show ((3 + i : Nat) : Int) - 3 = ((3 + i - 3 : Nat) : Int) by omega]
                refine zo_ix (hrows (3 + i - 3) (by omega)) ?_
                walk_at "zq"
                refine zo_mul (.inr ⟨by omega, by omega⟩) ?_
                walk_at "zq"
                refine zo_mod (by decide) ?_
                walk_at "zq"
                exact ⟨rfl, rfl⟩
              · walk_at "zq"
                exact ⟨rfl, rfl⟩
              · refine ⟨?_, rfl⟩
                rw [show (((List.range 14).map fun i => 3 + i).filter fun k => !decide (cnum r 1 (st + k) % PZ = (cnum r 1 (st + (k - 1)) % PZ * (a : Int) + cnum r 1 (st + (k - 2)) % PZ * ((b : Int) - 1) + cnum r 1 (st + (k - 3)) % PZ * ((c : Int) - 1)) % PZ)) = [] from List.filter_eq_nil_iff.mpr fun k hk => by
                  obtain ⟨i, _, rfl⟩ := List.mem_map.mp hk
                  have := far_rule (r := r) a ((b : Int) - 1) ((c : Int) - 1) hz (n := st + (3 + i)) (by omega)
                  rw [show st + (3 + i) - 1 = st + (3 + i - 1) by omega, show st + (3 + i) - 2 = st + (3 + i - 2) by omega, show st + (3 + i) - 3 = st + (3 + i - 3) by omega] at this
                  rw [decide_eq_true this]
                  decide]
                rfl
            · rintro S M ⟨rfl, rfl⟩
              walk_at "zq"
              refine zw_lstD ?_
              walk_at "zq"
              walk_at "zt"
              refine zo_eqDD rfl rfl ?_
              exact ⟨_, rfl, rfl⟩
          · walk_at "zq"
            exact rfl
      · rintro S M ⟨cc, rfl, rfl⟩
        exact ⟨_, _, rfl, rfl⟩
    · rintro S M ⟨cb, cc, rfl, rfl⟩
      exact ⟨_, _, _, rfl, rfl⟩
  · rintro S M ⟨ca, cb, cc, rfl, rfl⟩
    walk_at "zq"
    try exact rfl
end K27
namespace K27
open PySem PySem.Spec PyProof.Rows L2 Z
theorem all_mk {l : PySem.W.OpenLaw} {w : World} {K : Fg} {h : Heap} {mg : Str → Option Value} {fa C_ColumnStepper f_is_between f_check_number f_are_counts f_is_rule f_check_rule f_law_alike f_law_taken f_law_pick f_law_some_rule f_law_around f_law_step f_later_cells f_ColumnStepper_init f_ColumnStepper_later f_inverse f_sum_of f_one_on f_doubled f_shares f_shortest_recurrence f_far_term f_ways f_numbers f_stills_in_strip f_stills_far f_law : Addr} (X : K.In h) (G : h.Ns mainGlobals mg) (hfa : mg "law" = some (.ref fa))
    {t_PRIME : Tok}
    {t_MOST_HIGH : Tok}
    {t_MOST_WIDE : Tok}
    {t_FAR : Tok}
    {od_is_between an_is_between : Option Addr} {sl_is_between : Array (Option Value)} {oc_is_between kV_is_between dc_is_between pm_is_between cd_is_between ct_is_between : Value}
    {od_check_number an_check_number : Option Addr} {sl_check_number : Array (Option Value)} {oc_check_number kV_check_number dc_check_number pm_check_number cd_check_number ct_check_number : Value}
    {od_are_counts an_are_counts : Option Addr} {sl_are_counts : Array (Option Value)} {oc_are_counts kV_are_counts dc_are_counts pm_are_counts cd_are_counts ct_are_counts : Value}
    {od_is_rule an_is_rule : Option Addr} {sl_is_rule : Array (Option Value)} {oc_is_rule kV_is_rule dc_is_rule pm_is_rule cd_is_rule ct_is_rule : Value}
    {od_check_rule an_check_rule : Option Addr} {sl_check_rule : Array (Option Value)} {oc_check_rule kV_check_rule dc_check_rule pm_check_rule cd_check_rule ct_check_rule : Value}
    {od_law_alike an_law_alike : Option Addr} {sl_law_alike : Array (Option Value)} {oc_law_alike kV_law_alike dc_law_alike pm_law_alike cd_law_alike ct_law_alike : Value}
    {od_law_taken an_law_taken : Option Addr} {sl_law_taken : Array (Option Value)} {oc_law_taken kV_law_taken dc_law_taken pm_law_taken cd_law_taken ct_law_taken : Value}
    {od_law_pick an_law_pick : Option Addr} {sl_law_pick : Array (Option Value)} {oc_law_pick kV_law_pick dc_law_pick pm_law_pick cd_law_pick ct_law_pick : Value}
    {od_law_some_rule an_law_some_rule : Option Addr} {sl_law_some_rule : Array (Option Value)} {oc_law_some_rule kV_law_some_rule dc_law_some_rule pm_law_some_rule cd_law_some_rule ct_law_some_rule : Value}
    {od_law_around an_law_around : Option Addr} {sl_law_around : Array (Option Value)} {oc_law_around kV_law_around dc_law_around pm_law_around cd_law_around ct_law_around : Value}
    {od_law_step an_law_step : Option Addr} {sl_law_step : Array (Option Value)} {oc_law_step kV_law_step dc_law_step pm_law_step cd_law_step ct_law_step : Value}
    {od_later_cells an_later_cells : Option Addr} {sl_later_cells : Array (Option Value)} {oc_later_cells kV_later_cells dc_later_cells pm_later_cells cd_later_cells ct_later_cells : Value}
    {od_ColumnStepper_init an_ColumnStepper_init : Option Addr} {sl_ColumnStepper_init : Array (Option Value)} {oc_ColumnStepper_init kV_ColumnStepper_init dc_ColumnStepper_init pm_ColumnStepper_init cd_ColumnStepper_init ct_ColumnStepper_init : Value}
    {od_ColumnStepper_later an_ColumnStepper_later : Option Addr} {sl_ColumnStepper_later : Array (Option Value)} {oc_ColumnStepper_later kV_ColumnStepper_later dc_ColumnStepper_later pm_ColumnStepper_later cd_ColumnStepper_later ct_ColumnStepper_later : Value}
    {od_inverse an_inverse : Option Addr} {sl_inverse : Array (Option Value)} {oc_inverse kV_inverse dc_inverse pm_inverse cd_inverse ct_inverse : Value}
    {od_sum_of an_sum_of : Option Addr} {sl_sum_of : Array (Option Value)} {oc_sum_of kV_sum_of dc_sum_of pm_sum_of cd_sum_of ct_sum_of : Value}
    {od_one_on an_one_on : Option Addr} {sl_one_on : Array (Option Value)} {oc_one_on kV_one_on dc_one_on pm_one_on cd_one_on ct_one_on : Value}
    {od_doubled an_doubled : Option Addr} {sl_doubled : Array (Option Value)} {oc_doubled kV_doubled dc_doubled pm_doubled cd_doubled ct_doubled : Value}
    {od_shares an_shares : Option Addr} {sl_shares : Array (Option Value)} {oc_shares kV_shares dc_shares pm_shares cd_shares ct_shares : Value}
    {od_shortest_recurrence an_shortest_recurrence : Option Addr} {sl_shortest_recurrence : Array (Option Value)} {oc_shortest_recurrence kV_shortest_recurrence dc_shortest_recurrence pm_shortest_recurrence cd_shortest_recurrence ct_shortest_recurrence : Value}
    {od_far_term an_far_term : Option Addr} {sl_far_term : Array (Option Value)} {oc_far_term kV_far_term dc_far_term pm_far_term cd_far_term ct_far_term : Value}
    {od_ways an_ways : Option Addr} {sl_ways : Array (Option Value)} {oc_ways kV_ways dc_ways pm_ways cd_ways ct_ways : Value}
    {od_numbers an_numbers : Option Addr} {sl_numbers : Array (Option Value)} {oc_numbers kV_numbers dc_numbers pm_numbers cd_numbers ct_numbers : Value}
    {od_stills_in_strip an_stills_in_strip : Option Addr} {sl_stills_in_strip : Array (Option Value)} {oc_stills_in_strip kV_stills_in_strip dc_stills_in_strip pm_stills_in_strip cd_stills_in_strip ct_stills_in_strip : Value}
    {od_stills_far an_stills_far : Option Addr} {sl_stills_far : Array (Option Value)} {oc_stills_far kV_stills_far dc_stills_far pm_stills_far cd_stills_far ct_stills_far : Value}
    {od_law an_law : Option Addr} {sl_law : Array (Option Value)} {oc_law kV_law dc_law pm_law cd_law ct_law : Value}
    (a_ColumnStepper : PySem.W.nsIn K mainGlobals "ColumnStepper" = some (some (.ref C_ColumnStepper)))
    (pg_ColumnStepper : PySem.W.plainGet K C_ColumnStepper Str.empty = true)
    (hd_ColumnStepper : PySem.W.hasDictIn K C_ColumnStepper = true)
    (po_ColumnStepper : PySem.W.plainOver K C_ColumnStepper = true)
    (sa_ColumnStepper : PySem.W.findIn K (.ref C_ColumnStepper) "__setattr__" = some (some (.builtin "object.__setattr__")))
    (mk_ColumnStepper : PySem.W.makesIn K C_ColumnStepper = true)
    (kc_ColumnStepper : PySem.W.keepIn K (.ref C_ColumnStepper) = true)
    (z_isinstance : PySem.W.nsIn K mainGlobals "isinstance" = some none)
    (z_int : PySem.W.nsIn K mainGlobals "int" = some none)
    (z_bool : PySem.W.nsIn K mainGlobals "bool" = some none)
    (z_tuple : PySem.W.nsIn K mainGlobals "tuple" = some none)
    (z_len : PySem.W.nsIn K mainGlobals "len" = some none)
    (z_list : PySem.W.nsIn K mainGlobals "list" = some none)
    (z_range : PySem.W.nsIn K mainGlobals "range" = some none)
    (z_str : PySem.W.nsIn K mainGlobals "str" = some none)
    (z_dict : PySem.W.nsIn K mainGlobals "dict" = some none)
    (z_sorted : PySem.W.nsIn K mainGlobals "sorted" = some none)
    (na_ColumnStepper_many : PySem.W.findIn K (.ref C_ColumnStepper) "many" = some none)
    (na_ColumnStepper_later_cells : PySem.W.findIn K (.ref C_ColumnStepper) "later_cells" = some none)
    (z_max : PySem.W.nsIn K mainGlobals "max" = some none)
    (z_zip : PySem.W.nsIn K mainGlobals "zip" = some none)
    (z_PRIME : PySem.W.nsIn K mainGlobals "PRIME" = some (some (.int 2305843009213693951 t_PRIME)))
    (z_enumerate : PySem.W.nsIn K mainGlobals "enumerate" = some none)
    (z_sum : PySem.W.nsIn K mainGlobals "sum" = some none)
    (z_divmod : PySem.W.nsIn K mainGlobals "divmod" = some none)
    (z_MOST_HIGH : PySem.W.nsIn K mainGlobals "MOST_HIGH" = some (some (.int 3 t_MOST_HIGH)))
    (z_MOST_WIDE : PySem.W.nsIn K mainGlobals "MOST_WIDE" = some (some (.int 200 t_MOST_WIDE)))
    (z_FAR : PySem.W.nsIn K mainGlobals "FAR" = some (some (.int 1000000000000000000000000000000000000000000000000000000000000 t_FAR)))
    (a_is_between : PySem.W.nsIn K mainGlobals "is_between" = some (some (.ref f_is_between)))
    (l_is_between : K.lookup f_is_between = some ⟨oc_is_between, od_is_between, .func (PySem.W.fnOf "is_between" "is_between" (defArgs s_is_between) (defBody s_is_between) (defScope s_is_between) .none kV_is_between dc_is_between pm_is_between an_is_between cd_is_between ct_is_between), sl_is_between⟩)
    (c_is_between : PySem.W.codeIn K cd_is_between "is_between" = true)
    (k_is_between : PySem.W.keepIn K (.ref f_is_between) = true)
    (a_check_number : PySem.W.nsIn K mainGlobals "check_number" = some (some (.ref f_check_number)))
    (l_check_number : K.lookup f_check_number = some ⟨oc_check_number, od_check_number, .func (PySem.W.fnOf "check_number" "check_number" (defArgs s_check_number) (defBody s_check_number) (defScope s_check_number) .none kV_check_number dc_check_number pm_check_number an_check_number cd_check_number ct_check_number), sl_check_number⟩)
    (c_check_number : PySem.W.codeIn K cd_check_number "check_number" = true)
    (k_check_number : PySem.W.keepIn K (.ref f_check_number) = true)
    (a_are_counts : PySem.W.nsIn K mainGlobals "_are_counts" = some (some (.ref f_are_counts)))
    (l_are_counts : K.lookup f_are_counts = some ⟨oc_are_counts, od_are_counts, .func (PySem.W.fnOf "_are_counts" "_are_counts" (defArgs s_are_counts) (defBody s_are_counts) (defScope s_are_counts) .none kV_are_counts dc_are_counts pm_are_counts an_are_counts cd_are_counts ct_are_counts), sl_are_counts⟩)
    (c_are_counts : PySem.W.codeIn K cd_are_counts "_are_counts" = true)
    (k_are_counts : PySem.W.keepIn K (.ref f_are_counts) = true)
    (a_is_rule : PySem.W.nsIn K mainGlobals "_is_rule" = some (some (.ref f_is_rule)))
    (l_is_rule : K.lookup f_is_rule = some ⟨oc_is_rule, od_is_rule, .func (PySem.W.fnOf "_is_rule" "_is_rule" (defArgs s_is_rule) (defBody s_is_rule) (defScope s_is_rule) .none kV_is_rule dc_is_rule pm_is_rule an_is_rule cd_is_rule ct_is_rule), sl_is_rule⟩)
    (c_is_rule : PySem.W.codeIn K cd_is_rule "_is_rule" = true)
    (k_is_rule : PySem.W.keepIn K (.ref f_is_rule) = true)
    (a_check_rule : PySem.W.nsIn K mainGlobals "check_rule" = some (some (.ref f_check_rule)))
    (l_check_rule : K.lookup f_check_rule = some ⟨oc_check_rule, od_check_rule, .func (PySem.W.fnOf "check_rule" "check_rule" (defArgs s_check_rule) (defBody s_check_rule) (defScope s_check_rule) .none kV_check_rule dc_check_rule pm_check_rule an_check_rule cd_check_rule ct_check_rule), sl_check_rule⟩)
    (c_check_rule : PySem.W.codeIn K cd_check_rule "check_rule" = true)
    (k_check_rule : PySem.W.keepIn K (.ref f_check_rule) = true)
    (a_law_alike : PySem.W.nsIn K mainGlobals "_law_alike" = some (some (.ref f_law_alike)))
    (l_law_alike : K.lookup f_law_alike = some ⟨oc_law_alike, od_law_alike, .func (PySem.W.fnOf "_law_alike" "_law_alike" (defArgs s_law_alike) (defBody s_law_alike) (defScope s_law_alike) .none kV_law_alike dc_law_alike pm_law_alike an_law_alike cd_law_alike ct_law_alike), sl_law_alike⟩)
    (c_law_alike : PySem.W.codeIn K cd_law_alike "_law_alike" = true)
    (k_law_alike : PySem.W.keepIn K (.ref f_law_alike) = true)
    (a_law_taken : PySem.W.nsIn K mainGlobals "_law_taken" = some (some (.ref f_law_taken)))
    (l_law_taken : K.lookup f_law_taken = some ⟨oc_law_taken, od_law_taken, .func (PySem.W.fnOf "_law_taken" "_law_taken" (defArgs s_law_taken) (defBody s_law_taken) (defScope s_law_taken) .none kV_law_taken dc_law_taken pm_law_taken an_law_taken cd_law_taken ct_law_taken), sl_law_taken⟩)
    (c_law_taken : PySem.W.codeIn K cd_law_taken "_law_taken" = true)
    (k_law_taken : PySem.W.keepIn K (.ref f_law_taken) = true)
    (a_law_pick : PySem.W.nsIn K mainGlobals "_law_pick" = some (some (.ref f_law_pick)))
    (l_law_pick : K.lookup f_law_pick = some ⟨oc_law_pick, od_law_pick, .func (PySem.W.fnOf "_law_pick" "_law_pick" (defArgs s_law_pick) (defBody s_law_pick) (defScope s_law_pick) .none kV_law_pick dc_law_pick pm_law_pick an_law_pick cd_law_pick ct_law_pick), sl_law_pick⟩)
    (c_law_pick : PySem.W.codeIn K cd_law_pick "_law_pick" = true)
    (k_law_pick : PySem.W.keepIn K (.ref f_law_pick) = true)
    (a_law_some_rule : PySem.W.nsIn K mainGlobals "_law_some_rule" = some (some (.ref f_law_some_rule)))
    (l_law_some_rule : K.lookup f_law_some_rule = some ⟨oc_law_some_rule, od_law_some_rule, .func (PySem.W.fnOf "_law_some_rule" "_law_some_rule" (defArgs s_law_some_rule) (defBody s_law_some_rule) (defScope s_law_some_rule) .none kV_law_some_rule dc_law_some_rule pm_law_some_rule an_law_some_rule cd_law_some_rule ct_law_some_rule), sl_law_some_rule⟩)
    (c_law_some_rule : PySem.W.codeIn K cd_law_some_rule "_law_some_rule" = true)
    (k_law_some_rule : PySem.W.keepIn K (.ref f_law_some_rule) = true)
    (a_law_around : PySem.W.nsIn K mainGlobals "_law_around" = some (some (.ref f_law_around)))
    (l_law_around : K.lookup f_law_around = some ⟨oc_law_around, od_law_around, .func (PySem.W.fnOf "_law_around" "_law_around" (defArgs s_law_around) (defBody s_law_around) (defScope s_law_around) .none kV_law_around dc_law_around pm_law_around an_law_around cd_law_around ct_law_around), sl_law_around⟩)
    (c_law_around : PySem.W.codeIn K cd_law_around "_law_around" = true)
    (k_law_around : PySem.W.keepIn K (.ref f_law_around) = true)
    (a_law_step : PySem.W.nsIn K mainGlobals "_law_step" = some (some (.ref f_law_step)))
    (l_law_step : K.lookup f_law_step = some ⟨oc_law_step, od_law_step, .func (PySem.W.fnOf "_law_step" "_law_step" (defArgs s_law_step) (defBody s_law_step) (defScope s_law_step) .none kV_law_step dc_law_step pm_law_step an_law_step cd_law_step ct_law_step), sl_law_step⟩)
    (c_law_step : PySem.W.codeIn K cd_law_step "_law_step" = true)
    (k_law_step : PySem.W.keepIn K (.ref f_law_step) = true)
    (a_later_cells : PySem.W.nsIn K mainGlobals "_later_cells" = some (some (.ref f_later_cells)))
    (l_later_cells : K.lookup f_later_cells = some ⟨oc_later_cells, od_later_cells, .func (PySem.W.fnOf "_later_cells" "_later_cells" (defArgs s_later_cells) (defBody s_later_cells) (defScope s_later_cells) .none kV_later_cells dc_later_cells pm_later_cells an_later_cells cd_later_cells ct_later_cells), sl_later_cells⟩)
    (c_later_cells : PySem.W.codeIn K cd_later_cells "_later_cells" = true)
    (k_later_cells : PySem.W.keepIn K (.ref f_later_cells) = true)
    (a_ColumnStepper_init : PySem.W.findIn K (.ref C_ColumnStepper) "__init__" = some (some (.ref f_ColumnStepper_init)))
    (i_ColumnStepper_init : PySem.W.isFn K (.ref f_ColumnStepper_init) = true)
    (l_ColumnStepper_init : K.lookup f_ColumnStepper_init = some ⟨oc_ColumnStepper_init, od_ColumnStepper_init, .func (PySem.W.fnOf "__init__" "ColumnStepper.__init__" (defArgs s_ColumnStepper_init) (defBody s_ColumnStepper_init) (defScope s_ColumnStepper_init) .none kV_ColumnStepper_init dc_ColumnStepper_init pm_ColumnStepper_init an_ColumnStepper_init cd_ColumnStepper_init ct_ColumnStepper_init), sl_ColumnStepper_init⟩)
    (c_ColumnStepper_init : PySem.W.codeIn K cd_ColumnStepper_init "ColumnStepper.__init__" = true)
    (k_ColumnStepper_init : PySem.W.keepIn K (.ref f_ColumnStepper_init) = true)
    (a_ColumnStepper_later : PySem.W.findIn K (.ref C_ColumnStepper) "later" = some (some (.ref f_ColumnStepper_later)))
    (i_ColumnStepper_later : PySem.W.isFn K (.ref f_ColumnStepper_later) = true)
    (l_ColumnStepper_later : K.lookup f_ColumnStepper_later = some ⟨oc_ColumnStepper_later, od_ColumnStepper_later, .func (PySem.W.fnOf "later" "ColumnStepper.later" (defArgs s_ColumnStepper_later) (defBody s_ColumnStepper_later) (defScope s_ColumnStepper_later) .none kV_ColumnStepper_later dc_ColumnStepper_later pm_ColumnStepper_later an_ColumnStepper_later cd_ColumnStepper_later ct_ColumnStepper_later), sl_ColumnStepper_later⟩)
    (c_ColumnStepper_later : PySem.W.codeIn K cd_ColumnStepper_later "ColumnStepper.later" = true)
    (k_ColumnStepper_later : PySem.W.keepIn K (.ref f_ColumnStepper_later) = true)
    (a_inverse : PySem.W.nsIn K mainGlobals "inverse" = some (some (.ref f_inverse)))
    (l_inverse : K.lookup f_inverse = some ⟨oc_inverse, od_inverse, .func (PySem.W.fnOf "inverse" "inverse" (defArgs s_inverse) (defBody s_inverse) (defScope s_inverse) .none kV_inverse dc_inverse pm_inverse an_inverse cd_inverse ct_inverse), sl_inverse⟩)
    (c_inverse : PySem.W.codeIn K cd_inverse "inverse" = true)
    (k_inverse : PySem.W.keepIn K (.ref f_inverse) = true)
    (a_sum_of : PySem.W.nsIn K mainGlobals "_sum_of" = some (some (.ref f_sum_of)))
    (l_sum_of : K.lookup f_sum_of = some ⟨oc_sum_of, od_sum_of, .func (PySem.W.fnOf "_sum_of" "_sum_of" (defArgs s_sum_of) (defBody s_sum_of) (defScope s_sum_of) .none kV_sum_of dc_sum_of pm_sum_of an_sum_of cd_sum_of ct_sum_of), sl_sum_of⟩)
    (c_sum_of : PySem.W.codeIn K cd_sum_of "_sum_of" = true)
    (k_sum_of : PySem.W.keepIn K (.ref f_sum_of) = true)
    (a_one_on : PySem.W.nsIn K mainGlobals "_one_on" = some (some (.ref f_one_on)))
    (l_one_on : K.lookup f_one_on = some ⟨oc_one_on, od_one_on, .func (PySem.W.fnOf "_one_on" "_one_on" (defArgs s_one_on) (defBody s_one_on) (defScope s_one_on) .none kV_one_on dc_one_on pm_one_on an_one_on cd_one_on ct_one_on), sl_one_on⟩)
    (c_one_on : PySem.W.codeIn K cd_one_on "_one_on" = true)
    (k_one_on : PySem.W.keepIn K (.ref f_one_on) = true)
    (a_doubled : PySem.W.nsIn K mainGlobals "_doubled" = some (some (.ref f_doubled)))
    (l_doubled : K.lookup f_doubled = some ⟨oc_doubled, od_doubled, .func (PySem.W.fnOf "_doubled" "_doubled" (defArgs s_doubled) (defBody s_doubled) (defScope s_doubled) .none kV_doubled dc_doubled pm_doubled an_doubled cd_doubled ct_doubled), sl_doubled⟩)
    (c_doubled : PySem.W.codeIn K cd_doubled "_doubled" = true)
    (k_doubled : PySem.W.keepIn K (.ref f_doubled) = true)
    (a_shares : PySem.W.nsIn K mainGlobals "_shares" = some (some (.ref f_shares)))
    (l_shares : K.lookup f_shares = some ⟨oc_shares, od_shares, .func (PySem.W.fnOf "_shares" "_shares" (defArgs s_shares) (defBody s_shares) (defScope s_shares) .none kV_shares dc_shares pm_shares an_shares cd_shares ct_shares), sl_shares⟩)
    (c_shares : PySem.W.codeIn K cd_shares "_shares" = true)
    (k_shares : PySem.W.keepIn K (.ref f_shares) = true)
    (a_shortest_recurrence : PySem.W.nsIn K mainGlobals "shortest_recurrence" = some (some (.ref f_shortest_recurrence)))
    (l_shortest_recurrence : K.lookup f_shortest_recurrence = some ⟨oc_shortest_recurrence, od_shortest_recurrence, .func (PySem.W.fnOf "shortest_recurrence" "shortest_recurrence" (defArgs s_shortest_recurrence) (defBody s_shortest_recurrence) (defScope s_shortest_recurrence) .none kV_shortest_recurrence dc_shortest_recurrence pm_shortest_recurrence an_shortest_recurrence cd_shortest_recurrence ct_shortest_recurrence), sl_shortest_recurrence⟩)
    (c_shortest_recurrence : PySem.W.codeIn K cd_shortest_recurrence "shortest_recurrence" = true)
    (k_shortest_recurrence : PySem.W.keepIn K (.ref f_shortest_recurrence) = true)
    (a_far_term : PySem.W.nsIn K mainGlobals "far_term" = some (some (.ref f_far_term)))
    (l_far_term : K.lookup f_far_term = some ⟨oc_far_term, od_far_term, .func (PySem.W.fnOf "far_term" "far_term" (defArgs s_far_term) (defBody s_far_term) (defScope s_far_term) .none kV_far_term dc_far_term pm_far_term an_far_term cd_far_term ct_far_term), sl_far_term⟩)
    (c_far_term : PySem.W.codeIn K cd_far_term "far_term" = true)
    (k_far_term : PySem.W.keepIn K (.ref f_far_term) = true)
    (a_ways : PySem.W.nsIn K mainGlobals "_ways" = some (some (.ref f_ways)))
    (l_ways : K.lookup f_ways = some ⟨oc_ways, od_ways, .func (PySem.W.fnOf "_ways" "_ways" (defArgs s_ways) (defBody s_ways) (defScope s_ways) .none kV_ways dc_ways pm_ways an_ways cd_ways ct_ways), sl_ways⟩)
    (c_ways : PySem.W.codeIn K cd_ways "_ways" = true)
    (k_ways : PySem.W.keepIn K (.ref f_ways) = true)
    (a_numbers : PySem.W.nsIn K mainGlobals "_numbers" = some (some (.ref f_numbers)))
    (l_numbers : K.lookup f_numbers = some ⟨oc_numbers, od_numbers, .func (PySem.W.fnOf "_numbers" "_numbers" (defArgs s_numbers) (defBody s_numbers) (defScope s_numbers) .none kV_numbers dc_numbers pm_numbers an_numbers cd_numbers ct_numbers), sl_numbers⟩)
    (c_numbers : PySem.W.codeIn K cd_numbers "_numbers" = true)
    (k_numbers : PySem.W.keepIn K (.ref f_numbers) = true)
    (a_stills_in_strip : PySem.W.nsIn K mainGlobals "stills_in_strip" = some (some (.ref f_stills_in_strip)))
    (l_stills_in_strip : K.lookup f_stills_in_strip = some ⟨oc_stills_in_strip, od_stills_in_strip, .func (PySem.W.fnOf "stills_in_strip" "stills_in_strip" (defArgs s_stills_in_strip) (defBody s_stills_in_strip) (defScope s_stills_in_strip) .none kV_stills_in_strip dc_stills_in_strip pm_stills_in_strip an_stills_in_strip cd_stills_in_strip ct_stills_in_strip), sl_stills_in_strip⟩)
    (c_stills_in_strip : PySem.W.codeIn K cd_stills_in_strip "stills_in_strip" = true)
    (k_stills_in_strip : PySem.W.keepIn K (.ref f_stills_in_strip) = true)
    (a_stills_far : PySem.W.nsIn K mainGlobals "stills_far" = some (some (.ref f_stills_far)))
    (l_stills_far : K.lookup f_stills_far = some ⟨oc_stills_far, od_stills_far, .func (PySem.W.fnOf "stills_far" "stills_far" (defArgs s_stills_far) (defBody s_stills_far) (defScope s_stills_far) .none kV_stills_far dc_stills_far pm_stills_far an_stills_far cd_stills_far ct_stills_far), sl_stills_far⟩)
    (c_stills_far : PySem.W.codeIn K cd_stills_far "stills_far" = true)
    (k_stills_far : PySem.W.keepIn K (.ref f_stills_far) = true)
    (a_law : PySem.W.nsIn K mainGlobals "law" = some (some (.ref f_law)))
    (l_law : K.lookup f_law = some ⟨oc_law, od_law, .func (PySem.W.fnOf "law" "law" (defArgs s_law) (defBody s_law) (defScope s_law) .none kV_law dc_law pm_law an_law cd_law ct_law), sl_law⟩)
    (c_law : PySem.W.codeIn K cd_law "law" = true)
    (k_law : PySem.W.keepIn K (.ref f_law) = true) :
    ∃ fd : FuncData, (∀ (s : Shared) (v : Value), BindsTo s fd ⟨[v], []⟩ [("script", v)]) ∧ ∀ base : Heap, K.In base → base.Ns mainGlobals mg → FnOk l.prog w K mg base (L2.CX l.prog w) 9 fa fd ["script"] (spD K 1 R_law) := by
  have e := hfa.symm.trans (PySem.W.mg_of X G a_law)
  cases e
  have g_ColumnStepper := PySem.W.mg_of X G a_ColumnStepper
  have cl_ColumnStepper : Cls K C_ColumnStepper := ⟨pg_ColumnStepper, hd_ColumnStepper, po_ColumnStepper, sa_ColumnStepper⟩
  have m_isinstance := PySem.W.mg_none_of X G z_isinstance
  have m_int := PySem.W.mg_none_of X G z_int
  have m_bool := PySem.W.mg_none_of X G z_bool
  have m_tuple := PySem.W.mg_none_of X G z_tuple
  have m_len := PySem.W.mg_none_of X G z_len
  have m_list := PySem.W.mg_none_of X G z_list
  have m_range := PySem.W.mg_none_of X G z_range
  have m_str := PySem.W.mg_none_of X G z_str
  have m_dict := PySem.W.mg_none_of X G z_dict
  have m_sorted := PySem.W.mg_none_of X G z_sorted
  have m_max := PySem.W.mg_none_of X G z_max
  have m_zip := PySem.W.mg_none_of X G z_zip
  have g_PRIME : ∃ u, mg "PRIME" = some u ∧ RelV (.int 2305843009213693951) u := ⟨_, PySem.W.mg_of X G z_PRIME, _, rfl⟩
  have m_enumerate := PySem.W.mg_none_of X G z_enumerate
  have m_sum := PySem.W.mg_none_of X G z_sum
  have m_divmod := PySem.W.mg_none_of X G z_divmod
  have g_MOST_HIGH : ∃ u, mg "MOST_HIGH" = some u ∧ RelV (.int 3) u := ⟨_, PySem.W.mg_of X G z_MOST_HIGH, _, rfl⟩
  have g_MOST_WIDE : ∃ u, mg "MOST_WIDE" = some u ∧ RelV (.int 200) u := ⟨_, PySem.W.mg_of X G z_MOST_WIDE, _, rfl⟩
  have g_FAR : ∃ u, mg "FAR" = some u ∧ RelV (.int 1000000000000000000000000000000000000000000000000000000000000) u := ⟨_, PySem.W.mg_of X G z_FAR, _, rfl⟩
  have F_is_between := fun_mk (st := s_is_between) l_is_between c_is_between k_is_between
  have b_is_between := F_is_between.binds (ps := ["value", "low", "high"]) fun _ _ _ _ _ _ us hl => match us, hl with | [_, _, _], _ => rfl
  have F_check_number := fun_mk (st := s_check_number) l_check_number c_check_number k_check_number
  have b_check_number := F_check_number.binds (ps := ["value", "low", "high"]) fun _ _ _ _ _ _ us hl => match us, hl with | [_, _, _], _ => rfl
  have F_are_counts := fun_mk (st := s_are_counts) l_are_counts c_are_counts k_are_counts
  have b_are_counts := F_are_counts.binds (ps := ["value", "least"]) fun _ _ _ _ _ _ us hl => match us, hl with | [_, _], _ => rfl
  have F_is_rule := fun_mk (st := s_is_rule) l_is_rule c_is_rule k_is_rule
  have b_is_rule := F_is_rule.binds (ps := ["value"]) fun _ _ _ _ _ _ us hl => match us, hl with | [_], _ => rfl
  have F_check_rule := fun_mk (st := s_check_rule) l_check_rule c_check_rule k_check_rule
  have b_check_rule := F_check_rule.binds (ps := ["rule"]) fun _ _ _ _ _ _ us hl => match us, hl with | [_], _ => rfl
  have F_law_alike := fun_mk (st := s_law_alike) l_law_alike c_law_alike k_law_alike
  have b_law_alike := F_law_alike.binds (ps := ["found", "due"]) fun _ _ _ _ _ _ us hl => match us, hl with | [_, _], _ => rfl
  have F_law_taken := fun_mk (st := s_law_taken) l_law_taken c_law_taken k_law_taken
  have b_law_taken := F_law_taken.binds (ps := ["row", "many"]) fun _ _ _ _ _ _ us hl => match us, hl with | [_, _], _ => rfl
  have F_law_pick := fun_mk (st := s_law_pick) l_law_pick c_law_pick k_law_pick
  have b_law_pick := F_law_pick.binds (ps := ["row", "things"]) fun _ _ _ _ _ _ us hl => match us, hl with | [_, _], _ => rfl
  have F_law_some_rule := fun_mk (st := s_law_some_rule) l_law_some_rule c_law_some_rule k_law_some_rule
  have b_law_some_rule := F_law_some_rule.binds (ps := ["row"]) fun _ _ _ _ _ _ us hl => match us, hl with | [_], _ => rfl
  have F_law_around := fun_mk (st := s_law_around) l_law_around c_law_around k_law_around
  have b_law_around := F_law_around.binds (ps := ["place"]) fun _ _ _ _ _ _ us hl => match us, hl with | [_], _ => rfl
  have F_law_step := fun_mk (st := s_law_step) l_law_step c_law_step k_law_step
  have b_law_step := F_law_step.binds (ps := ["rule", "board"]) fun _ _ _ _ _ _ us hl => match us, hl with | [_, _], _ => rfl
  have F_later_cells := fun_mk (st := s_later_cells) l_later_cells c_later_cells k_later_cells
  have b_later_cells := F_later_cells.binds (ps := ["rule"]) fun _ _ _ _ _ _ us hl => match us, hl with | [_], _ => rfl
  have F_ColumnStepper_init := fun_mk (st := s_ColumnStepper_init) l_ColumnStepper_init c_ColumnStepper_init k_ColumnStepper_init
  have b_ColumnStepper_init := F_ColumnStepper_init.binds (ps := ["self", "rule", "many"]) fun _ _ _ _ _ _ us hl => match us, hl with | [_, _, _], _ => rfl
  have F_ColumnStepper_later := fun_mk (st := s_ColumnStepper_later) l_ColumnStepper_later c_ColumnStepper_later k_ColumnStepper_later
  have b_ColumnStepper_later := F_ColumnStepper_later.binds (ps := ["self", "left", "middle", "right"]) fun _ _ _ _ _ _ us hl => match us, hl with | [_, _, _, _], _ => rfl
  have F_inverse := fun_mk (st := s_inverse) l_inverse c_inverse k_inverse
  have b_inverse := F_inverse.binds (ps := ["number", "size"]) fun _ _ _ _ _ _ us hl => match us, hl with | [_, _], _ => rfl
  have F_sum_of := fun_mk (st := s_sum_of) l_sum_of c_sum_of k_sum_of
  have b_sum_of := F_sum_of.binds (ps := ["one", "other"]) fun _ _ _ _ _ _ us hl => match us, hl with | [_, _], _ => rfl
  have F_one_on := fun_mk (st := s_one_on) l_one_on c_one_on k_one_on
  have b_one_on := F_one_on.binds (ps := ["shares", "recurrence"]) fun _ _ _ _ _ _ us hl => match us, hl with | [_, _], _ => rfl
  have F_doubled := fun_mk (st := s_doubled) l_doubled c_doubled k_doubled
  have b_doubled := F_doubled.binds (ps := ["shares", "recurrence"]) fun _ _ _ _ _ _ us hl => match us, hl with | [_, _], _ => rfl
  have F_shares := fun_mk (st := s_shares) l_shares c_shares k_shares
  have b_shares := F_shares.binds (ps := ["recurrence", "index"]) fun _ _ _ _ _ _ us hl => match us, hl with | [_, _], _ => rfl
  have F_shortest_recurrence := fun_mk (st := s_shortest_recurrence) l_shortest_recurrence c_shortest_recurrence k_shortest_recurrence
  have b_shortest_recurrence := F_shortest_recurrence.binds (ps := ["terms"]) fun _ _ _ _ _ _ us hl => match us, hl with | [_], _ => rfl
  have F_far_term := fun_mk (st := s_far_term) l_far_term c_far_term k_far_term
  have b_far_term := F_far_term.binds (ps := ["terms", "index"]) fun _ _ _ _ _ _ us hl => match us, hl with | [_, _], _ => rfl
  have F_ways := fun_mk (st := s_ways) l_ways c_ways k_ways
  have b_ways := F_ways.binds (ps := ["rule", "high"]) fun _ _ _ _ _ _ us hl => match us, hl with | [_, _], _ => rfl
  have F_numbers := fun_mk (st := s_numbers) l_numbers c_numbers k_numbers
  have b_numbers := F_numbers.binds (ps := ["rule", "high", "most"]) fun _ _ _ _ _ _ us hl => match us, hl with | [_, _, _], _ => rfl
  have F_stills_in_strip := fun_mk (st := s_stills_in_strip) l_stills_in_strip c_stills_in_strip k_stills_in_strip
  have b_stills_in_strip := F_stills_in_strip.binds (ps := ["rule", "high", "wide"]) fun _ _ _ _ _ _ us hl => match us, hl with | [_, _, _], _ => rfl
  have F_stills_far := fun_mk (st := s_stills_far) l_stills_far c_stills_far k_stills_far
  have b_stills_far := F_stills_far.binds (ps := ["rule", "high", "wide"]) fun _ _ _ _ _ _ us hl => match us, hl with | [_, _, _], _ => rfl
  have F_law := fun_mk (st := s_law) l_law c_law k_law
  refine ⟨PySem.W.fnOf "law" "law" (defArgs s_law) (defBody s_law) (defScope s_law) .none kV_law dc_law pm_law an_law cd_law ct_law, fun s v => .of_eq rfl, fun base _ _ => ?_⟩
  have c_is_between : Cal l.prog w K mg base 1 "is_between" (spD K 3 R_between) := ⟨_, _, _, ok_is_between F_is_between (m_isinstance := m_isinstance) (m_int := m_int) (m_bool := m_bool), PySem.W.mg_of X G a_is_between, k_is_between, b_is_between⟩
  have c_check_number : Cal l.prog w K mg base 2 "check_number" (spD K 3 R_chknum) := ⟨_, _, _, ok_check_number F_check_number (c_is_between := c_is_between), PySem.W.mg_of X G a_check_number, k_check_number, b_check_number⟩
  have c__are_counts : Cal l.prog w K mg base 2 "_are_counts" (spD K 2 R_counts) := ⟨_, _, _, ok_are_counts F_are_counts (m_isinstance := m_isinstance) (m_tuple := m_tuple) (c_is_between := c_is_between), PySem.W.mg_of X G a_are_counts, k_are_counts, b_are_counts⟩
  have c__is_rule : Cal l.prog w K mg base 3 "_is_rule" (spD K 1 R_isRule) := ⟨_, _, _, ok_is_rule F_is_rule (m_len := m_len) (m_isinstance := m_isinstance) (m_tuple := m_tuple) (c_is_between := c_is_between) (c__are_counts := c__are_counts), PySem.W.mg_of X G a_is_rule, k_is_rule, b_is_rule⟩
  have c_check_rule : Cal l.prog w K mg base 4 "check_rule" (spD K 1 R_chkRule) := ⟨_, _, _, ok_check_rule F_check_rule (c__is_rule := c__is_rule), PySem.W.mg_of X G a_check_rule, k_check_rule, b_check_rule⟩
  have z0_law_alike : Cal l.prog w K mg base 1 "_law_alike" (spD K 2 (R_alike 0)) := ⟨_, _, _, alike_vac F_law_alike, PySem.W.mg_of X G a_law_alike, k_law_alike, b_law_alike⟩
  have z1_law_alike : Cal l.prog w K mg base 2 "_law_alike" (spD K 2 (R_alike 1)) := ⟨_, _, _, ok_law_alike (j := 1) (n := 0) F_law_alike (m_isinstance := m_isinstance) (m_list := m_list) (m_tuple := m_tuple) (m_len := m_len) (m_range := m_range) (m_str := m_str) (m_bool := m_bool) (m_int := m_int) (c__law_alike := z0_law_alike), PySem.W.mg_of X G a_law_alike, k_law_alike, b_law_alike⟩
  have z2_law_alike : Cal l.prog w K mg base 3 "_law_alike" (spD K 2 (R_alike 2)) := ⟨_, _, _, ok_law_alike (j := 2) (n := 1) F_law_alike (m_isinstance := m_isinstance) (m_list := m_list) (m_tuple := m_tuple) (m_len := m_len) (m_range := m_range) (m_str := m_str) (m_bool := m_bool) (m_int := m_int) (c__law_alike := z1_law_alike), PySem.W.mg_of X G a_law_alike, k_law_alike, b_law_alike⟩
  have z3_law_alike : Cal l.prog w K mg base 4 "_law_alike" (spD K 2 (R_alike 3)) := ⟨_, _, _, ok_law_alike (j := 3) (n := 2) F_law_alike (m_isinstance := m_isinstance) (m_list := m_list) (m_tuple := m_tuple) (m_len := m_len) (m_range := m_range) (m_str := m_str) (m_bool := m_bool) (m_int := m_int) (c__law_alike := z2_law_alike), PySem.W.mg_of X G a_law_alike, k_law_alike, b_law_alike⟩
  have z4_law_alike : Cal l.prog w K mg base 5 "_law_alike" (spD K 2 (R_alike 4)) := ⟨_, _, _, ok_law_alike (j := 4) (n := 3) F_law_alike (m_isinstance := m_isinstance) (m_list := m_list) (m_tuple := m_tuple) (m_len := m_len) (m_range := m_range) (m_str := m_str) (m_bool := m_bool) (m_int := m_int) (c__law_alike := z3_law_alike), PySem.W.mg_of X G a_law_alike, k_law_alike, b_law_alike⟩
  have z5_law_alike : Cal l.prog w K mg base 6 "_law_alike" (spD K 2 (R_alike 5)) := ⟨_, _, _, ok_law_alike (j := 5) (n := 4) F_law_alike (m_isinstance := m_isinstance) (m_list := m_list) (m_tuple := m_tuple) (m_len := m_len) (m_range := m_range) (m_str := m_str) (m_bool := m_bool) (m_int := m_int) (c__law_alike := z4_law_alike), PySem.W.mg_of X G a_law_alike, k_law_alike, b_law_alike⟩
  have c__law_alike := z5_law_alike
  have c__law_taken : Cal l.prog w K mg base 1 "_law_taken" (spC K 1 R_taken) := ⟨_, _, _, ok_law_taken F_law_taken (m_int := m_int) (m_len := m_len), PySem.W.mg_of X G a_law_taken, k_law_taken, b_law_taken⟩
  have c__law_pick : Cal l.prog w K mg base 2 "_law_pick" (spC K 1 R_pick) := ⟨_, _, _, ok_law_pick F_law_pick (m_len := m_len) (c__law_taken := c__law_taken), PySem.W.mg_of X G a_law_pick, k_law_pick, b_law_pick⟩
  have c__law_some_rule : Cal l.prog w K mg base 3 "_law_some_rule" (spC K 0 R_someRule) := ⟨_, _, _, ok_law_some_rule F_law_some_rule (m_tuple := m_tuple) (m_range := m_range) (c__law_taken := c__law_taken) (c__law_pick := c__law_pick), PySem.W.mg_of X G a_law_some_rule, k_law_some_rule, b_law_some_rule⟩
  have c__law_around : Cal l.prog w K mg base 1 "_law_around" (spD K 1 R_laround) := ⟨_, _, _, ok_law_around F_law_around , PySem.W.mg_of X G a_law_around, k_law_around, b_law_around⟩
  have c__law_step : Cal l.prog w K mg base 2 "_law_step" (spD K 2 R_lstep) := ⟨_, _, _, ok_law_step F_law_step (m_dict := m_dict) (m_sorted := m_sorted) (m_len := m_len) (m_tuple := m_tuple) (c__law_around := c__law_around), PySem.W.mg_of X G a_law_step, k_law_step, b_law_step⟩
  have c__later_cells : Cal l.prog w K mg base 1 "_later_cells" (spD K 1 R_later9) := ⟨_, _, _, ok_later_cells F_later_cells (m_range := m_range), PySem.W.mg_of X G a_later_cells, k_later_cells, b_later_cells⟩
  have c_ColumnStepper_init : Mkr l.prog w K mg base 2 "ColumnStepper" C_ColumnStepper (spO K C_ColumnStepper 2 R_csInit) := ⟨_, _, _, ok_ColumnStepper_init F_ColumnStepper_init (na_ColumnStepper_many := na_ColumnStepper_many) (na_ColumnStepper_later_cells := na_ColumnStepper_later_cells) (c__later_cells := c__later_cells) (cl_ColumnStepper := cl_ColumnStepper), ⟨mk_ColumnStepper, a_ColumnStepper_init, i_ColumnStepper_init, kc_ColumnStepper⟩, g_ColumnStepper, b_ColumnStepper_init⟩
  have c_ColumnStepper_later : Mtd l.prog w K mg base 1 C_ColumnStepper "later" (spO K C_ColumnStepper 3 R_csLater) := ⟨_, _, _, ok_ColumnStepper_later F_ColumnStepper_later (m_range := m_range) (na_ColumnStepper_many := na_ColumnStepper_many) (na_ColumnStepper_later_cells := na_ColumnStepper_later_cells) (cl_ColumnStepper := cl_ColumnStepper), ⟨a_ColumnStepper_later, i_ColumnStepper_later, k_ColumnStepper_later⟩, b_ColumnStepper_later⟩
  have c_inverse : Cal l.prog w K mg base 1 "inverse" (spD K 2 R_inverse) := ⟨_, _, _, ok_inverse F_inverse , PySem.W.mg_of X G a_inverse, k_inverse, b_inverse⟩
  have c__sum_of : Cal l.prog w K mg base 2 "_sum_of" (spD K 2 R_sumOf) := ⟨_, _, _, ok_sum_of F_sum_of (m_max := m_max) (m_len := m_len) (m_zip := m_zip) (g_PRIME := g_PRIME), PySem.W.mg_of X G a_sum_of, k_sum_of, b_sum_of⟩
  have c__one_on : Cal l.prog w K mg base 3 "_one_on" (spD K 2 R_oneOn) := ⟨_, _, _, ok_one_on F_one_on (c__sum_of := c__sum_of), PySem.W.mg_of X G a_one_on, k_one_on, b_one_on⟩
  have c__doubled : Cal l.prog w K mg base 2 "_doubled" (spD K 2 R_doubled) := ⟨_, _, _, ok_doubled F_doubled (m_len := m_len) (m_enumerate := m_enumerate) (m_range := m_range) (g_PRIME := g_PRIME), PySem.W.mg_of X G a_doubled, k_doubled, b_doubled⟩
  have c__shares : Cal l.prog w K mg base 4 "_shares" (spD K 2 R_shares) := ⟨_, _, _, ok_shares F_shares (m_len := m_len) (c__doubled := c__doubled) (c__one_on := c__one_on), PySem.W.mg_of X G a_shares, k_shares, b_shares⟩
  have c_shortest_recurrence : Cal l.prog w K mg base 3 "shortest_recurrence" (spD K 1 R_shortest) := ⟨_, _, _, ok_shortest_recurrence F_shortest_recurrence (m_enumerate := m_enumerate) (m_sum := m_sum) (g_PRIME := g_PRIME) (m_len := m_len) (c_inverse := c_inverse) (c__sum_of := c__sum_of), PySem.W.mg_of X G a_shortest_recurrence, k_shortest_recurrence, b_shortest_recurrence⟩
  have c_far_term : Cal l.prog w K mg base 5 "far_term" (spD K 2 R_farTerm) := ⟨_, _, _, ok_far_term F_far_term (m_len := m_len) (g_PRIME := g_PRIME) (m_sum := m_sum) (m_zip := m_zip) (c_shortest_recurrence := c_shortest_recurrence) (c__shares := c__shares), PySem.W.mg_of X G a_far_term, k_far_term, b_far_term⟩
  have c__ways : Cal l.prog w K mg base 4 "_ways" (spD K 2 R_ways) := ⟨_, _, _, ok_ways F_ways (m_range := m_range) (m_divmod := m_divmod) (c_ColumnStepper_init := c_ColumnStepper_init) (c_ColumnStepper_later := c_ColumnStepper_later) (cl_ColumnStepper := cl_ColumnStepper), PySem.W.mg_of X G a_ways, k_ways, b_ways⟩
  have c__numbers : Cal l.prog w K mg base 5 "_numbers" (spD K 3 R_numbers) := ⟨_, _, _, ok_numbers F_numbers (m_range := m_range) (m_len := m_len) (c__ways := c__ways), PySem.W.mg_of X G a_numbers, k_numbers, b_numbers⟩
  have c_stills_in_strip : Cal l.prog w K mg base 6 "stills_in_strip" (spD K 3 R_still) := ⟨_, _, _, ok_stills_in_strip F_stills_in_strip (g_MOST_HIGH := g_MOST_HIGH) (g_MOST_WIDE := g_MOST_WIDE) (c_check_rule := c_check_rule) (c_check_number := c_check_number) (c__numbers := c__numbers), PySem.W.mg_of X G a_stills_in_strip, k_stills_in_strip, b_stills_in_strip⟩
  have c_stills_far : Cal l.prog w K mg base 6 "stills_far" (spD K 3 R_sfar) := ⟨_, _, _, ok_stills_far F_stills_far (g_MOST_HIGH := g_MOST_HIGH) (g_FAR := g_FAR) (c_check_rule := c_check_rule) (c_check_number := c_check_number) (c_far_term := c_far_term) (c__numbers := c__numbers), PySem.W.mg_of X G a_stills_far, k_stills_far, b_stills_far⟩
  exact ok_law F_law (m_range := m_range) (m_int := m_int) (m_tuple := m_tuple) (c__law_some_rule := c__law_some_rule) (c__law_pick := c__law_pick) (c__law_step := c__law_step) (c__law_alike := c__law_alike) (c_stills_far := c_stills_far) (c_stills_in_strip := c_stills_in_strip) (c__law_taken := c__law_taken)
theorem dpa_ints {K : Fg} {G : Hp} : ∀ ns : List Int, DzAll K G (ns.map V.int) (ns.map PyData.int)
  | [] => .nil
  | n :: ns => .cons (Dz.int n) (dpa_ints ns)
theorem walk {l : PySem.W.OpenLaw} {q : Program} {loose : List Str} {XP : (Str → Option Value) → Heap → Prop} {YP : World → Heap → Prop} {d : DefRec} {K : Params → PySem.W.Frag} (hn : l.most = some 63) (hdf : d.params.defaults = [])
    (hY : ∀ (w : World) (h : Heap), YP w h → (K w.params).In h)
    (F : ∀ (w : World) (mg : Str → Option Value) (fa : Addr) (h : Heap), (K w.params).In h → h.Ns mainGlobals mg → mg d.name = some (.ref fa) →
      ∃ fd : FuncData, (∀ (s : Shared) (u : Value), BindsTo s fd ⟨[u], []⟩ [("script", u)]) ∧ ∀ base : Heap, (K w.params).In base → base.Ns mainGlobals mg → FnOk l.prog w (K w.params) mg base (L2.CX l.prog w) 9 fa fd ["script"] (spD (K w.params) 1 R_law)) :
    PySem.W.WalkO q loose XP YP l.row.toRowW d [] (fun f vs => PySem.call f vs) :=
  L2.walk_of (n := 63) (k := 9) (x := "script") (CX := fun w => L2.CX l.prog w) (sp := fun w => spD (K w.params) 1 R_law) hn (by decide) hdf ⟨rfl, by decide, by decide⟩ hY F
    (fun w H a ns hl _ hS => ⟨H, [.list (ns.map .int)], .ok (.bool true), fun _ _ z => z, rfl, .cons (.lst hS (dpa_ints ns)) .nil, ⟨ns, rfl, rfl⟩, fun d hd v G' H' _ av => by cases hd; exact dp_bl av, fun x hx => (nomatch hx)⟩)
    fun w H s e s' z => by obtain ⟨_, _, _, _, _, _, _, _, _, _, _, _, z⟩ := z; exact z
end K27
open PySem PySem.W PyProof.Rows in
set_option maxRecDepth 100000 in
set_option maxHeartbeats 0 in
theorem PySem.Challenge.cw_fateboards_k27_whole_strips_holds : PySem.Challenge.rw_fateboards_k27_whole_strips.Holds := by
  w_on; o_law; k_head; (case hw => w_witness2)
  k_fill
  refine K27.walk (l := PySem.Challenge.rw_fateboards_k27_whole_strips) rfl rfl (fun w h Y => PySem.W.kIn_of Y) ?F
  case F =>
    intro w mg fa h KX G hmg
    refine' K27.all_mk KX G hmg ?a_ColumnStepper ?pg_ColumnStepper ?hd_ColumnStepper ?po_ColumnStepper ?sa_ColumnStepper ?mk_ColumnStepper ?kc_ColumnStepper ?z_isinstance ?z_int ?z_bool ?z_tuple ?z_len ?z_list ?z_range ?z_str ?z_dict ?z_sorted ?na_ColumnStepper_many ?na_ColumnStepper_later_cells ?z_max ?z_zip ?z_PRIME ?z_enumerate ?z_sum ?z_divmod ?z_MOST_HIGH ?z_MOST_WIDE ?z_FAR ?a_is_between ?l_is_between ?c_is_between ?k_is_between ?a_check_number ?l_check_number ?c_check_number ?k_check_number ?a_are_counts ?l_are_counts ?c_are_counts ?k_are_counts ?a_is_rule ?l_is_rule ?c_is_rule ?k_is_rule ?a_check_rule ?l_check_rule ?c_check_rule ?k_check_rule ?a_law_alike ?l_law_alike ?c_law_alike ?k_law_alike ?a_law_taken ?l_law_taken ?c_law_taken ?k_law_taken ?a_law_pick ?l_law_pick ?c_law_pick ?k_law_pick ?a_law_some_rule ?l_law_some_rule ?c_law_some_rule ?k_law_some_rule ?a_law_around ?l_law_around ?c_law_around ?k_law_around ?a_law_step ?l_law_step ?c_law_step ?k_law_step ?a_later_cells ?l_later_cells ?c_later_cells ?k_later_cells ?a_ColumnStepper_init ?i_ColumnStepper_init ?l_ColumnStepper_init ?c_ColumnStepper_init ?k_ColumnStepper_init ?a_ColumnStepper_later ?i_ColumnStepper_later ?l_ColumnStepper_later ?c_ColumnStepper_later ?k_ColumnStepper_later ?a_inverse ?l_inverse ?c_inverse ?k_inverse ?a_sum_of ?l_sum_of ?c_sum_of ?k_sum_of ?a_one_on ?l_one_on ?c_one_on ?k_one_on ?a_doubled ?l_doubled ?c_doubled ?k_doubled ?a_shares ?l_shares ?c_shares ?k_shares ?a_shortest_recurrence ?l_shortest_recurrence ?c_shortest_recurrence ?k_shortest_recurrence ?a_far_term ?l_far_term ?c_far_term ?k_far_term ?a_ways ?l_ways ?c_ways ?k_ways ?a_numbers ?l_numbers ?c_numbers ?k_numbers ?a_stills_in_strip ?l_stills_in_strip ?c_stills_in_strip ?k_stills_in_strip ?a_stills_far ?l_stills_far ?c_stills_far ?k_stills_far ?a_law ?l_law ?c_law ?k_law
    (case a_ColumnStepper => k_is)
    (case pg_ColumnStepper => k_is)
    (case hd_ColumnStepper => k_is)
    (case po_ColumnStepper => k_is)
    (case sa_ColumnStepper => k_is)
    (case mk_ColumnStepper => k_is)
    (case kc_ColumnStepper => k_is)
    (case z_isinstance => k_is)
    (case z_int => k_is)
    (case z_bool => k_is)
    (case z_tuple => k_is)
    (case z_len => k_is)
    (case z_list => k_is)
    (case z_range => k_is)
    (case z_str => k_is)
    (case z_dict => k_is)
    (case z_sorted => k_is)
    (case na_ColumnStepper_many => k_is)
    (case na_ColumnStepper_later_cells => k_is)
    (case z_max => k_is)
    (case z_zip => k_is)
    (case z_PRIME => k_is)
    (case z_enumerate => k_is)
    (case z_sum => k_is)
    (case z_divmod => k_is)
    (case z_MOST_HIGH => k_is)
    (case z_MOST_WIDE => k_is)
    (case z_FAR => k_is)
    (case a_is_between => k_is)
    (case l_is_between => k_is)
    (case c_is_between => k_is)
    (case k_is_between => k_is)
    (case a_check_number => k_is)
    (case l_check_number => k_is)
    (case c_check_number => k_is)
    (case k_check_number => k_is)
    (case a_are_counts => k_is)
    (case l_are_counts => k_is)
    (case c_are_counts => k_is)
    (case k_are_counts => k_is)
    (case a_is_rule => k_is)
    (case l_is_rule => k_is)
    (case c_is_rule => k_is)
    (case k_is_rule => k_is)
    (case a_check_rule => k_is)
    (case l_check_rule => k_is)
    (case c_check_rule => k_is)
    (case k_check_rule => k_is)
    (case a_law_alike => k_is)
    (case l_law_alike => k_is)
    (case c_law_alike => k_is)
    (case k_law_alike => k_is)
    (case a_law_taken => k_is)
    (case l_law_taken => k_is)
    (case c_law_taken => k_is)
    (case k_law_taken => k_is)
    (case a_law_pick => k_is)
    (case l_law_pick => k_is)
    (case c_law_pick => k_is)
    (case k_law_pick => k_is)
    (case a_law_some_rule => k_is)
    (case l_law_some_rule => k_is)
    (case c_law_some_rule => k_is)
    (case k_law_some_rule => k_is)
    (case a_law_around => k_is)
    (case l_law_around => k_is)
    (case c_law_around => k_is)
    (case k_law_around => k_is)
    (case a_law_step => k_is)
    (case l_law_step => k_is)
    (case c_law_step => k_is)
    (case k_law_step => k_is)
    (case a_later_cells => k_is)
    (case l_later_cells => k_is)
    (case c_later_cells => k_is)
    (case k_later_cells => k_is)
    (case a_ColumnStepper_init => k_is)
    (case i_ColumnStepper_init => k_is)
    (case l_ColumnStepper_init => k_is)
    (case c_ColumnStepper_init => k_is)
    (case k_ColumnStepper_init => k_is)
    (case a_ColumnStepper_later => k_is)
    (case i_ColumnStepper_later => k_is)
    (case l_ColumnStepper_later => k_is)
    (case c_ColumnStepper_later => k_is)
    (case k_ColumnStepper_later => k_is)
    (case a_inverse => k_is)
    (case l_inverse => k_is)
    (case c_inverse => k_is)
    (case k_inverse => k_is)
    (case a_sum_of => k_is)
    (case l_sum_of => k_is)
    (case c_sum_of => k_is)
    (case k_sum_of => k_is)
    (case a_one_on => k_is)
    (case l_one_on => k_is)
    (case c_one_on => k_is)
    (case k_one_on => k_is)
    (case a_doubled => k_is)
    (case l_doubled => k_is)
    (case c_doubled => k_is)
    (case k_doubled => k_is)
    (case a_shares => k_is)
    (case l_shares => k_is)
    (case c_shares => k_is)
    (case k_shares => k_is)
    (case a_shortest_recurrence => k_is)
    (case l_shortest_recurrence => k_is)
    (case c_shortest_recurrence => k_is)
    (case k_shortest_recurrence => k_is)
    (case a_far_term => k_is)
    (case l_far_term => k_is)
    (case c_far_term => k_is)
    (case k_far_term => k_is)
    (case a_ways => k_is)
    (case l_ways => k_is)
    (case c_ways => k_is)
    (case k_ways => k_is)
    (case a_numbers => k_is)
    (case l_numbers => k_is)
    (case c_numbers => k_is)
    (case k_numbers => k_is)
    (case a_stills_in_strip => k_is)
    (case l_stills_in_strip => k_is)
    (case c_stills_in_strip => k_is)
    (case k_stills_in_strip => k_is)
    (case a_stills_far => k_is)
    (case l_stills_far => k_is)
    (case c_stills_far => k_is)
    (case k_stills_far => k_is)
    (case a_law => k_is)
    (case l_law => k_is)
    (case c_law => k_is)
    (case k_law => k_is)
