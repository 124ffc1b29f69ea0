import PyProof.Rows.All
import Wide.All
import OpenK.AllK
import Wide.FinOn
import PyProof.EqAt
import PyProof.EqKinds
import PyProof.TupleCall
import HandS.ForMost
import HandS.More
import HandS.Conv
import HandS.Strs
import HandS.IsInst
import HandS.Zip
import HandS.OwnEq
import HandS.Star
import HandS.Walk
import HandS.SortInts
import HandS.Keys
import HandS.MakeKwOnly
import HandS.Defaults
import HandS.SortKw
import HandS.ClsMeth
import KE.KOpsOwn
import KE.DataMinMax
import HandS.Codes
import HandS.Sort
import KE.SortData
import PyProof.Rows.StrMeet
import PyProof.InstEq
import KE.KEqNest
import PyProof.P3Eq
import PyProof.Rows.SortShellAny
import HandS.SetFor
import HandS.Style
import HandS.SetBool
import HandS.SetTxt0
import HandS.Exc
import HandS.TryMany
import HandS.Lambda
import HandS.ExcInit
import HandS.ExcField
import HandS.ExcOwn
import HandS.ExcBuiltin
import HandS.WordsExc
import HandS.Property
import HandS.DictComp
import KE.KStateDown
import HandS.Head0
import HandS.Head1
import HandS.Head2
import HandS.HeadEnd
import HandS.HeadHook1
import HandS.HeadHook2
import HandS.FStr
import HandS.StrMore
import HandS.Text
import PySem.Challenge.RW_pastlooks_k26_whole_texts_read_back
set_option Elab.async false
set_option linter.all false
set_option maxRecDepth 100000
set_option maxHeartbeats 0
/-! Common words of our own. -/
namespace Pl
open PySem L2 PySem.Spec PyProof.Rows
abbrev Fg := PySem.W.Frag
/-- built-in names that the top leaves as they are -/
structure Tx (K : Fg) (mg : Str → Option Value) : Prop where
  isi : mg "isinstance" = none
  int : mg "int" = none
  bool : mg "bool" = none
  str : mg "str" = none
  list : mg "list" = none
  tuple : mg "tuple" = none
  len : mg "len" = none
  range : mg "range" = none
  set : mg "set" = none
  sorted : mg "sorted" = none
  max : mg "max" = none
  min : mg "min" = none
  sum : mg "sum" = none
  all : mg "all" = none
  dict : mg "dict" = none
section
variable {X : Cx} {p pos : Pos} {e : Expr} {es : List Expr} {t : TA}
theorem pc_isi {K : Fg} (T : Tx X.K X.mg) (ha : PA X (e :: es) t) (hK : X.K = K := by rfl) (hg : Gl X "isinstance" := by rfl) (he : starEach (e :: es) X.env = (false, eval e X.env) :: starEach es X.env := by rfl) (hpl : (backTo pos (starEach es X.env)).any (·.1) = false := by rfl) :
    PE X (.Call (.Name "isinstance" p) (e :: es) [] pos) (tCB (rIsi K) t) := by subst hK; exact pe_callB call_isi hg T.isi (by decide +kernel) ha (he := he) (hpl := hpl)
theorem pt_int (T : Tx X.K X.mg) (hg : Gl X "int" := by rfl) : PE X (.Name "int" p) (tC (.ty "int")) := pe_bltn hg T.int (by decide +kernel) rfl
theorem pt_bool (T : Tx X.K X.mg) (hg : Gl X "bool" := by rfl) : PE X (.Name "bool" p) (tC (.ty "bool")) := pe_bltn hg T.bool (by decide +kernel) rfl
theorem pt_str (T : Tx X.K X.mg) (hg : Gl X "str" := by rfl) : PE X (.Name "str" p) (tC (.ty "str")) := pe_bltn hg T.str (by decide +kernel) rfl
theorem pt_list (T : Tx X.K X.mg) (hg : Gl X "list" := by rfl) : PE X (.Name "list" p) (tC (.ty "list")) := pe_bltn hg T.list (by decide +kernel) rfl
theorem pt_tuple (T : Tx X.K X.mg) (hg : Gl X "tuple" := by rfl) : PE X (.Name "tuple" p) (tC (.ty "tuple")) := pe_bltn hg T.tuple (by decide +kernel) rfl
theorem pc_len {K : Fg} (T : Tx X.K X.mg) (ha : PA X (e :: es) t) (hK : X.K = K := by rfl) (hg : Gl X "len" := by rfl) (he : starEach (e :: es) X.env = (false, eval e X.env) :: starEach es X.env := by rfl) (hpl : (backTo pos (starEach es X.env)).any (·.1) = false := by rfl) :
    PE X (.Call (.Name "len" p) (e :: es) [] pos) (tCB (fun xs H Q => ∃ x n, xs = [x] ∧ LenV K x H n ∧ Q (.int n) H) t) := by subst hK; exact pe_callB call_len hg T.len (by decide +kernel) ha (he := he) (hpl := hpl)
theorem pc_intc (T : Tx X.K X.mg) (ha : PA X (e :: es) t) (hg : Gl X "int" := by rfl) (he : starEach (e :: es) X.env = (false, eval e X.env) :: starEach es X.env := by rfl) (hpl : (backTo pos (starEach es X.env)).any (·.1) = false := by rfl) :
    PE X (.Call (.Name "int" p) (e :: es) [] pos) (tCB (fun xs H Q => (∃ i, xs = [.int i] ∧ Q (.int i) H) ∨ ∃ k, xs = [.bl k] ∧ Q (.int (if k then 1 else 0)) H) t) := pe_callTy call_int1 hg T.int (by decide +kernel) ha (he := he) (hpl := hpl)
theorem pc_listc {K : Fg} (T : Tx X.K X.mg) (ha : PA X (e :: es) t) (hK : X.K = K := by rfl) (hg : Gl X "list" := by rfl) (he : starEach (e :: es) X.env = (false, eval e X.env) :: starEach es X.env := by rfl) (hpl : (backTo pos (starEach es X.env)).any (·.1) = false := by rfl) :
    PE X (.Call (.Name "list" p) (e :: es) [] pos) (tCB (fun xs H Q => ∃ p ys, xs = [.ref p] ∧ (SqL K H p ys ∨ SqT K H p ys) ∧ ∀ l, H l = none → Q (.ref l) (upd H l (.lst ys))) t) := by subst hK; exact pe_callTy call_list_of hg T.list (by decide +kernel) ha (he := he) (hpl := hpl)
theorem pc_all {K : Fg} (hc : X.calm = true) (T : Tx X.K X.mg) (ha : PA X (e :: es) t) (hK : X.K = K := by rfl) (hg : Gl X "all" := by rfl) (he : starEach (e :: es) X.env = (false, eval e X.env) :: starEach es X.env := by rfl) (hpl : (backTo pos (starEach es X.env)).any (·.1) = false := by rfl) :
    PE X (.Call (.Name "all" p) (e :: es) [] pos) (tCB (rAll K) t) := by subst hK; exact pe_callB (cr_all hc) hg T.all (by decide +kernel) ha (he := he) (hpl := hpl)
theorem pc_sum {K : Fg} (hc : X.calm = true) (T : Tx X.K X.mg) (ha : PA X (e :: es) t) (hK : X.K = K := by rfl) (hg : Gl X "sum" := by rfl) (he : starEach (e :: es) X.env = (false, eval e X.env) :: starEach es X.env := by rfl) (hpl : (backTo pos (starEach es X.env)).any (·.1) = false := by rfl) :
    PE X (.Call (.Name "sum" p) (e :: es) [] pos) (tCB (rSum K) t) := by subst hK; exact pe_callB (cr_sum hc) hg T.sum (by decide +kernel) ha (he := he) (hpl := hpl)
theorem pc_sorted {K : Fg} (T : Tx X.K X.mg) (ha : PA X (e :: es) t) (hK : X.K = K := by rfl) (hg : Gl X "sorted" := by rfl) (he : starEach (e :: es) X.env = (false, eval e X.env) :: starEach es X.env := by rfl) (hpl : (backTo pos (starEach es X.env)).any (·.1) = false := by rfl) :
    PE X (.Call (.Name "sorted" p) (e :: es) [] pos) (tCB (rSorted K) t) := by subst hK; exact pe_callB cr_sorted hg T.sorted (by decide +kernel) ha (he := he) (hpl := hpl)
end
/-- the box of a law's numbers: its list of cells, how many were taken -/
def Box (H : Hp) (b c : Addr) : Prop := ∃ (cells : List Int) (k : Int), H b = some (.lst [.ref c, .int k]) ∧ H c = some (.lst (cells.map V.int)) ∧ 0 < cells.length ∧ cells.length ≤ 63
/-- all but the box stands -/
def Kp (b c : Addr) (H H' : Hp) : Prop := ∀ a o, a ≠ b → a ≠ c → H a = some o → H' a = some o
theorem Kp.refl {b c : Addr} {H : Hp} : Kp b c H H := fun _ _ _ _ h => h
theorem Kp.trans {b c : Addr} {H H1 H2 : Hp} (x : Kp b c H H1) (y : Kp b c H1 H2) : Kp b c H H2 := fun a o h1 h2 h => y a o h1 h2 (x a o h1 h2 h)
theorem Kp.of {b c : Addr} {H H1 : Hp} (x : Same H H1) : Kp b c H H1 := fun a o _ _ h => x a o h
theorem Kp.new {b c a : Addr} {o : HO} {H H1 : Hp} (x : Kp b c H H1) (n : H1 a = none) : Kp b c H (upd H1 a o) := fun d u h1 h2 h => by
  have q := x d u h1 h2 h
  rw [upd_ne (ne_of_none q n)]; exact q
theorem _root_.L2.Same.new {a : Addr} {o : HO} {H H1 : Hp} (x : Same H H1) (n : H1 a = none) : Same H (upd H1 a o) := fun d u h => by
  have q := x d u h
  rw [upd_ne (ne_of_none q n)]; exact q
/-- an object that came later changes -/
theorem _root_.L2.Same.chg {a : Addr} {o : HO} {H H1 : Hp} (x : Same H H1) (n : H a = none) : Same H (upd H1 a o) := fun d u h => by
  rw [upd_ne (ne_of_none h n)]; exact x d u h
theorem Kp.chg {b c a : Addr} {o : HO} {H H1 : Hp} (x : Kp b c H H1) (n : H a = none) : Kp b c H (upd H1 a o) := fun d u h1 h2 h => by
  rw [upd_ne (ne_of_none h n)]; exact x d u h1 h2 h
theorem Box.new {b c a : Addr} {o : HO} {H : Hp} (x : Box H b c) (n : H a = none) : Box (upd H a o) b c := by
  obtain ⟨cells, k, h1, h2, h3⟩ := x
  exact ⟨cells, k, by rw [upd_ne (ne_of_none h1 n)]; exact h1, by rw [upd_ne (ne_of_none h2 n)]; exact h2, h3⟩
theorem Box.same {b c : Addr} {H H1 : Hp} (x : Box H b c) (s : Same H H1) : Box H1 b c := by
  obtain ⟨cells, k, h1, h2, h3⟩ := x
  exact ⟨cells, k, s _ _ h1, s _ _ h2, h3⟩
theorem Box.ne {b c : Addr} {H : Hp} (x : Box H b c) : b ≠ c := by
  obtain ⟨cells, k, h1, h2, h3⟩ := x
  refine ne_of h1 h2 fun z => ?_
  injection z with z
  cases cells with
  | nil => cases z
  | cons a r => injection z with z1 z2; cases z1
theorem Box.chg {b c a : Addr} {o : HO} {H H0 : Hp} (x : Box H b c) (y : Box H0 b c) (n : H0 a = none) : Box (upd H a o) b c := by
  obtain ⟨cells, k, h1, h2, h3⟩ := x
  obtain ⟨_, _, g1, g2, _⟩ := y
  exact ⟨cells, k, by rw [upd_ne (ne_of_none g1 n)]; exact h1, by rw [upd_ne (ne_of_none g2 n)]; exact h2, h3⟩
theorem sz {n : Nat} (h : n ≤ 1000) : n ≤ sizeLine := Nat.le_of_lt (small1000 h)
theorem map_set_int {l : List Int} {j : Nat} {z : Int} : (l.map V.int).set j (.int z) = (l.set j z).map V.int := by
  rw [List.map_set]
theorem atI_int {l : List Int} {z : Int} (h0 : 0 ≤ z) (h1 : z < (l.length : Int)) : ∃ y, atI (l.map V.int) z = some (V.int y) ∧ l[z.toNat]? = some y := by
  have hz : z.toNat < l.length := by omega
  refine ⟨l[z.toNat], at_of (j := z.toNat) (by omega) ?_, List.getElem?_eq_getElem hz⟩
  rw [List.getElem?_map, List.getElem?_eq_getElem hz] <;> rfl
end Pl
namespace Pl
open PySem L2 PySem.Spec PyProof.Rows
theorem ixN_int {n : Nat} {z : Int} (h0 : 0 ≤ z) (h1 : z < (n : Int)) : ixN n z = some z.toNat := by
  unfold ixN
  rw [if_pos h0, if_pos h1]
theorem Box.set {b c : Addr} {H : Hp} {cells : List Int} {k : Int} (hb : H b = some (.lst [.ref c, .int k])) (hc : H c = some (.lst (cells.map V.int))) : b ≠ c := by
  refine ne_of hb hc fun z => ?_
  injection z with z
  cases cells with
  | nil => cases z
  | cons a r => injection z with z1 z2; cases z1
end Pl
namespace Pl
open PySem L2 PySem.Spec PyProof.Rows
/-- a def of the top, as it is called -/
def Cal (P : Program) (w : World) (K : Fg) (mg : Str → Option Value) (base : Heap) (CX : CXT) (x : Str) (k : Nat) (sp : Sp) : Prop :=
  ∃ f fd ps, FnOk P w K mg base CX k f fd ps sp ∧ mg x = some (.ref f) ∧ PySem.W.keepIn K (.ref f) = true ∧ Binds K fd ps []
/-- a def of the top, as it stands in the text -/
def Df (K : Fg) (mg : Str → Option Value) (x qual : Str) (st : Stmt) (ps : List Str) : Prop := ∃ f fd, Fun K x qual st f fd ∧ mg x = some (.ref f) ∧ Binds K fd ps []
theorem Cal.imp {P : Program} {w : World} {K : Fg} {mg : Str → Option Value} {base : Heap} {CX : CXT} {x : Str} {k : Nat} {sp sp' : Sp} (c : Cal P w K mg base CX x k sp) (h : ∀ vs H Q E, sp' vs H Q E → sp vs H Q E) : Cal P w K mg base CX x k sp' := by
  obtain ⟨f, fd, ps, G, r⟩ := c
  exact ⟨f, fd, ps, G.imp h, r⟩
section
variable {X : Cx} {CX : CXT} {k j : Nat} {sp : Sp} {E : XK} {x : Str} {p pos : Pos} {e : Expr} {es : List Expr} {t : TA}
theorem pcx (c : Cal X.prog X.w X.K X.mg X.base CX x k sp) (hr : Room j X.A) (h : k ≤ j) (hx : Passes CX X E) (ha : PA X (e :: es) t) (hg : Gl X x := by rfl) (hdb : (x == ("__debug__" : Str)) = false := by decide)
    (he : starEach (e :: es) X.env = (false, eval e X.env) :: starEach es X.env := by rfl) (hpl : (backTo pos (starEach es X.env)).any (·.1) = false := by rfl) :
    PE X (.Call (.Name x p) (e :: es) [] pos) (tCall sp [] E t) := by
  obtain ⟨f, fd, ps, G, hm, hk, hb⟩ := c
  exact pe_call G (hr.mono h) hg hm hk hb .nil hx ha hdb he hpl
theorem pc (c : Cal X.prog X.w X.K X.mg X.base CX0 x k sp) (hr : Room j X.A) (h : k ≤ j) (ha : PA X (e :: es) t) (hg : Gl X x := by rfl) (hdb : (x == ("__debug__" : Str)) = false := by decide)
    (he : starEach (e :: es) X.env = (false, eval e X.env) :: starEach es X.env := by rfl) (hpl : (backTo pos (starEach es X.env)).any (·.1) = false := by rfl) :
    PE X (.Call (.Name x p) (e :: es) [] pos) (tCall sp [] E0 t) := pcx c hr h pass0 ha hg hdb he hpl
theorem pc0 (c : Cal X.prog X.w X.K X.mg X.base CX0 x k sp) (hr : Room j X.A) (h : k ≤ j) (hg : Gl X x := by rfl) (hdb : (x == ("__debug__" : Str)) = false := by decide) : PE X (.Call (.Name x p) [] [] pos) (tCall sp [] E0 tNil) := by
  obtain ⟨f, fd, ps, G, hm, hk, hb⟩ := c
  exact pe_call0 G (hr.mono h) hg hm hk hb .nil pass0 hdb
end
section
variable {P : Program} {w : World} {K : Fg} {mg : Str → Option Value} {base : Heap}
/-- from the text to the call -/
theorem Df.cal {x qual : Str} {st : Stmt} {ps : List Str} {k : Nat} {sp : Sp} {CX : CXT} (D : Df K mg x qual st ps) (h : ∀ f fd, Fun K x qual st f fd → FnOk P w K mg base CX k f fd ps sp) : Cal P w K mg base CX x k sp := by
  obtain ⟨f, fd, F, hm, hb⟩ := D
  exact ⟨f, fd, ps, h f fd F, hm, F.kp, hb⟩
end
end Pl
namespace Pl
open PySem L2 PySem.Spec PyProof.Rows
/-! ### rows: a dict from names to lists of numbers; N: where lists may stand -/
abbrev Rs := List (Str × List Int)
def Rows (N : Addr → Prop) (H : Hp) (kvs : List (Key × V)) (rs : Rs) : Prop := Paired (fun (kv : Key × V) (r : Str × List Int) => kv.1 = Sum.inr r.1 ∧ ∃ a, N a ∧ kv.2 = .ref a ∧ H a = some (.lst (r.2.map V.int))) kvs rs
abbrev Nb (b c : Addr) : Addr → Prop := fun a => a ≠ b ∧ a ≠ c
theorem Rows.mono {N : Addr → Prop} {H H' : Hp} (h : ∀ a (xs : List V), N a → H a = some (.lst xs) → H' a = some (.lst xs)) : ∀ {kvs rs}, Rows N H kvs rs → Rows N H' kvs rs
  | _, _, .nil => .nil
  | _, _, .cons ⟨e, a, na, ea, ha⟩ t => .cons ⟨e, a, na, ea, h a _ na ha⟩ (Rows.mono h t)
theorem Rows.same {N : Addr → Prop} {H H' : Hp} {kvs : List (Key × V)} {rs : Rs} (r : Rows N H kvs rs) (h : Same H H') : Rows N H' kvs rs := r.mono fun a o _ e => h a _ e
theorem Rows.kp {b c : Addr} {H H' : Hp} {kvs : List (Key × V)} {rs : Rs} (r : Rows (Nb b c) H kvs rs) (h : Kp b c H H') : Rows (Nb b c) H' kvs rs := r.mono fun a o n e => h a _ n.1 n.2 e
theorem Rows.snoc {N : Addr → Prop} {H : Hp} {a : Addr} {n : Str} {l : List Int} (na : N a) (ha : H a = some (.lst (l.map V.int))) : ∀ {kvs rs}, Rows N H kvs rs → Rows N H (kvs ++ [(Sum.inr n, .ref a)]) (rs ++ [(n, l)])
  | _, _, .nil => .cons ⟨rfl, a, na, rfl, ha⟩ .nil
  | _, _, .cons e t => .cons e (Rows.snoc na ha t)
theorem Rows.keys {N : Addr → Prop} {H : Hp} : ∀ {kvs rs}, Rows N H kvs rs → kvs.map (·.1) = rs.map fun r => (Sum.inr r.1 : Key)
  | _, _, .nil => rfl
  | _, _, .cons ⟨e, _⟩ t => by rw [List.map_cons, List.map_cons, Rows.keys t, e]
theorem Rows.length {N : Addr → Prop} {H : Hp} {kvs : List (Key × V)} {rs : Rs} (r : Rows N H kvs rs) : kvs.length = rs.length := Paired.length r
theorem Rows.at {N : Addr → Prop} {H : Hp} : ∀ {kvs rs} {i : Nat} {k : Key} {v : V}, Rows N H kvs rs → kvs[i]? = some (k, v) → ∃ n l a, rs[i]? = some (n, l) ∧ k = Sum.inr n ∧ v = .ref a ∧ N a ∧ H a = some (.lst (l.map V.int))
  | _, _, i, k, v, .nil, h => by simp at h
  | _, _, 0, k, v, .cons ⟨e, a, na, ea, ha⟩ t, h => by
    simp at h; subst h
    exact ⟨_, _, a, rfl, e, ea, na, ha⟩
  | _, _, i + 1, k, v, .cons _ t, h => by
    obtain ⟨n, l, a, h1, r⟩ := Rows.at (i := i) t (by simpa using h)
    exact ⟨n, l, a, by simpa using h1, r⟩
theorem Rows.val {N : Addr → Prop} {H : Hp} : ∀ {kvs rs} {i : Nat} {n : Str} {l : List Int}, Rows N H kvs rs → (rs.map (·.1)).Nodup → rs[i]? = some (n, l) → ∃ a, valV kvs (Sum.inr n) = some (.ref a) ∧ N a ∧ H a = some (.lst (l.map V.int)) ∧ kvs[i]? = some (Sum.inr n, .ref a)
  | _, _, i, n, l, .nil, _, h => by simp at h
  | (k, v) :: _, _, 0, n, l, .cons ⟨e, a, na, ea, ha⟩ t, nd, h => by
    simp at h; subst h
    have e : k = Sum.inr n := e
    have ea : v = .ref a := ea
    subst e; subst ea
    exact ⟨a, valV_pos rfl, na, ha, rfl⟩
  | (k, v) :: _, (m, l') :: _, i + 1, n, l, .cons ⟨e, _⟩ t, nd, h => by
    have nd' := List.nodup_cons.mp nd
    have h' := (show _ = some (n, l) by simpa using h)
    obtain ⟨a, h1, r1, r2, r3⟩ := Rows.val (i := i) t nd'.2 h'
    have hne : ¬ (k, v).1 = (Sum.inr n : Key) := by
      intro z
      have q : k = Sum.inr m := e
      have z : k = Sum.inr n := z
      rw [q] at z
      injection z with z
      refine nd'.1 (List.mem_map.mpr ⟨(n, l), List.mem_of_getElem? h', ?_⟩)
      exact z.symm
    exact ⟨a, (valV_neg hne).trans h1, r1, r2, by simpa using r3⟩
theorem Rows.none {N : Addr → Prop} {H : Hp} {kvs : List (Key × V)} {rs : Rs} {n : Str} (r : Rows N H kvs rs) (h : n ∉ rs.map (·.1)) : valV kvs (Sum.inr n) = none := by
  cases e : valV kvs (Sum.inr n : Key) with
  | none => rfl
  | some v =>
    have q := valV_in e
    rw [r.keys] at q
    obtain ⟨x, hx, ex⟩ := List.mem_map.mp q
    injection ex with ex
    exact absurd (List.mem_map.mpr ⟨x, hx, ex⟩) h
/-- what rows a script draws: names apart, no number twice, few -/
structure RsOk (m : Nat) (rs : Rs) : Prop where
  nd : (rs.map (·.1)).Nodup
  each : ∀ r ∈ rs, r.2.Nodup ∧ r.2.length ≤ m
theorem Box.strs {K : Fg} {b c n : Addr} {H H' : Hp} {ns : List Str} (B : Box H b c) (k : Kp b c H H') (h : SqL K H n (ns.map V.str)) : SqL K H' n (ns.map V.str) := by
  obtain ⟨cells, kk, hb, hc, c0, _⟩ := B
  have n1 : ∀ {xs}, H n = some (.lst xs) → xs = ns.map V.str → n ≠ b ∧ n ≠ c := fun {xs} e q => by
    subst q
    constructor
    · refine ne_of e hb fun z => ?_
      injection z with z
      cases ns with
      | nil => cases z
      | cons a r => injection z with z1 z2; cases z1
    · refine ne_of e hc fun z => ?_
      injection z with z
      cases cells with
      | nil => exact absurd c0 (by decide)
      | cons x xs =>
        cases ns with
        | nil => cases z
        | cons a r => injection z with z1 z2; cases z1
  rcases h with (h | ⟨o, h⟩) | h
  · have q := n1 h rfl
    exact .inl (.inl (k _ _ q.1 q.2 h))
  · exact .inl (.inr ⟨o, k _ _ (ne_of h hb (by intro z; cases z)) (ne_of h hc (by intro z; cases z)) h⟩)
  · exact .inr h
theorem Box.nb {b c a : Addr} {H : Hp} (B : Box H b c) (h : H a = none) : Nb b c a := by
  obtain ⟨_, _, hb, hc, _⟩ := B
  exact ⟨(ne_of_none hb h).symm, (ne_of_none hc h).symm⟩
theorem inV_int {z : Int} {l : List Int} : inV (.int z) (l.map V.int) = decide (z ∈ l) := by
  rw [Bool.eq_iff_iff]
  unfold inV
  rw [List.any_map]
  simp only [List.any_eq_true, decide_eq_true_eq]
  constructor
  · rintro ⟨x, hx, e⟩
    have e : (x == z) = true := e
    rw [beq_iff_eq] at e
    exact e ▸ hx
  · intro h
    exact ⟨z, h, by show (z == z) = true; simp⟩
theorem flat_int {l : List Int} : (l.map V.int).all flatV = true := by
  rw [List.all_map, List.all_eq_true]; intro x _; rfl
theorem range_ok {m : Int} (h0 : 0 ≤ m) (h1 : m ≤ 1000) : -(2 ^ 62) ≤ m ∧ m < 2 ^ 62 := ⟨by omega, by omega⟩
end Pl
namespace Pl
open PySem L2 PySem.Spec PyProof.Rows
theorem funD_toFun {K : Fg} {x qual : Str} {st : Stmt} {kws : List (Str × V)} {f : Addr} {fd : FuncData} (F : FunD K x qual (defArgs st) (defBody st) (defScope st) [] kws f fd) : Fun K x qual st f fd := by
  obtain ⟨oc, od, dV, kV, doc, pm, an, cdv, ct, osl, rfl, lk, hcd, hD, _⟩ := F.ex
  rcases hD with ⟨_, rfl⟩ | ⟨e, _⟩
  · exact ⟨⟨oc, od, kV, doc, pm, an, cdv, ct, osl, rfl, lk, hcd⟩, F.kp⟩
  · exact absurd rfl e
/-- a good name -/
structure GName (z : Str) : Prop where
  lo : 1 ≤ z.length
  hi : z.length ≤ 12
  all : ∀ c ∈ z.cps.toList, c ∈ (Str.ofString "abcdefghijklmnopqrstuvwxyz").cps.toList
end Pl
namespace Pl
open PySem L2 PySem.Spec PyProof.Rows
def srt (l : List Int) : List Int := l.mergeSort (fun a b => decide (a ≤ b))
theorem srt_perm (l : List Int) : (srt l).Perm l := List.mergeSort_perm _ _
theorem srt_up (l : List Int) : (srt l).Pairwise (· ≤ ·) := by
  have h := List.pairwise_mergeSort (le := fun (a b : Int) => decide (a ≤ b)) (fun a b c h1 h2 => by simp at h1 h2 ⊢; omega) (fun a b => by simp; omega) l
  exact h.imp fun h => by simpa using h
theorem up_same : ∀ {l m : List Int}, l.Perm m → l.Pairwise (· ≤ ·) → m.Pairwise (· ≤ ·) → l = m
  | [], m, p, _, _ => (List.Perm.nil_eq p)
  | a :: l, [], p, _, _ => absurd p.length_eq (by simp)
  | a :: l, b :: m, p, h1, h2 => by
    obtain ⟨a1, a2⟩ := List.pairwise_cons.mp h1
    obtain ⟨b1, b2⟩ := List.pairwise_cons.mp h2
    have e : a = b := by
      have q1 : b ∈ a :: l := p.symm.subset List.mem_cons_self
      have q2 : a ∈ b :: m := p.subset List.mem_cons_self
      have r1 : a ≤ b := by rcases List.mem_cons.mp q1 with h | h; · omega
                            · exact a1 b h
      have r2 : b ≤ a := by rcases List.mem_cons.mp q2 with h | h; · omega
                            · exact b1 a h
      omega
    subst e
    rw [up_same (List.Perm.cons_inv p) a2 b2]
theorem srt_eq {l m : List Int} (p : m.Perm l) (h : m.Pairwise (· ≤ ·)) : m = srt l := up_same (p.trans (srt_perm l).symm) h (srt_up l)
theorem srt_len (l : List Int) : (srt l).length = l.length := (srt_perm l).length_eq
/-- what a world keeps of rows: the streams that have any, sorted -/
def srs (rs : Rs) : Rs := (rs.filter fun r => !r.2.isEmpty).map fun r => (r.1, srt r.2)
theorem srs_names {rs : Rs} : ∀ n, n ∈ (srs rs).map (·.1) → n ∈ rs.map (·.1) := fun n h => by
  obtain ⟨x, hx, e⟩ := List.mem_map.mp h
  obtain ⟨y, hy, e2⟩ := List.mem_map.mp hx
  exact List.mem_map.mpr ⟨y, (List.mem_filter.mp hy).1, by rw [← e, ← e2]⟩
theorem srs_snoc {rs : Rs} {n : Str} {l : List Int} : srs (rs ++ [(n, l)]) = if l.isEmpty then srs rs else srs rs ++ [(n, srt l)] := by
  unfold srs
  rw [List.filter_append, List.map_append]
  cases l with
  | nil => simp
  | cons a r => simp
theorem srs_len (rs : Rs) : (srs rs).length ≤ rs.length := by
  unfold srs
  rw [List.length_map]
  exact List.length_filter_le _ _
theorem srs_nd {rs : Rs} (h : (rs.map (·.1)).Nodup) : ((srs rs).map (·.1)).Nodup := by
  have e : (srs rs).map (·.1) = (rs.filter fun r => !r.2.isEmpty).map (·.1) := by
    unfold srs; rw [List.map_map]; rfl
  rw [e]
  exact h.sublist ((List.filter_sublist).map _)
/-- making an object of an own class -/
def CalM (P : Program) (w : World) (K : Fg) (mg : Str → Option Value) (base : Heap) (CX : CXT) (x : Str) (C : Addr) (k : Nat) (sp : Sp) : Prop :=
  ∃ f fd ps, FnOk P w K mg base CX k f fd ps sp ∧ mg x = some (.ref C) ∧ Mk K C f ∧ Binds K fd ps []
section
variable {X : Cx} {CX : CXT} {k j : Nat} {sp : Sp} {E : XK} {C : Addr} {x : Str} {p pos : Pos} {e : Expr} {es : List Expr} {t : TA}
theorem pmx (c : CalM X.prog X.w X.K X.mg X.base CX x C k sp) (hr : Room j X.A) (h : k + 1 ≤ j) (hx : Passes CX X E) (ha : PA X (e :: es) t) (hg : Gl X x := by rfl) (hdb : (x == ("__debug__" : Str)) = false := by decide)
    (he : starEach (e :: es) X.env = (false, eval e X.env) :: starEach es X.env := by rfl) (hpl : (backTo pos (starEach es X.env)).any (·.1) = false := by rfl) :
    PE X (.Call (.Name x p) (e :: es) [] pos) (tMake C sp [] E t) := by
  obtain ⟨f, fd, ps, G, hm, M, hb⟩ := c
  exact pe_make M G (hr.mono h) hg hm hb .nil hx ha hdb he hpl
theorem pmk (c : CalM X.prog X.w X.K X.mg X.base CX0 x C k sp) (hr : Room j X.A) (h : k + 1 ≤ j) (ha : PA X (e :: es) t) (hg : Gl X x := by rfl) (hdb : (x == ("__debug__" : Str)) = false := by decide)
    (he : starEach (e :: es) X.env = (false, eval e X.env) :: starEach es X.env := by rfl) (hpl : (backTo pos (starEach es X.env)).any (·.1) = false := by rfl) :
    PE X (.Call (.Name x p) (e :: es) [] pos) (tMake C sp [] E0 t) := pmx c hr h pass0 ha hg hdb he hpl
theorem pmk0 (c : CalM X.prog X.w X.K X.mg X.base CX0 x C k sp) (hr : Room j X.A) (h : k + 1 ≤ j) (hg : Gl X x := by rfl) (hdb : (x == ("__debug__" : Str)) = false := by decide) : PE X (.Call (.Name x p) [] [] pos) (tMake C sp [] E0 tNil) := by
  obtain ⟨f, fd, ps, G, hm, M, hb⟩ := c
  exact pe_make0 M G (hr.mono h) hg hm hb .nil pass0 hdb
end
/-- the initialiser of a class, as it stands in the text -/
def DfI (K : Fg) (mg : Str → Option Value) (x qual : Str) (C : Addr) (st : Stmt) (ps : List Str) : Prop := ∃ f fd oc od dV kV doc pm an cdv ct osl,
  fd = PySem.W.fnOf "__init__" qual (defArgs st) (defBody st) (defScope st) dV kV doc pm an cdv ct ∧ K.lookup f = some ⟨oc, od, .func fd, osl⟩ ∧ PySem.W.codeIn K cdv qual = true ∧ mg x = some (.ref C) ∧ Mk K C f ∧ Binds K fd ps []
theorem DfI.cal {P : Program} {w : World} {K : Fg} {mg : Str → Option Value} {base : Heap} {CX : CXT} {x qual : Str} {C : Addr} {st : Stmt} {ps N : List Str} {k : Nat} {sp : Sp} (D : DfI K mg x qual C st ps) (S : FnScope N ps (defScope st)) (len : ∀ vs H Q E, sp vs H Q E → vs.length = ps.length)
    (h : ∀ (f : Addr) (cdv : Value) (A : Around) (outer : List Env) (s : Shared) (H : Hp) (vs : List V) (Q : VK) (E : XK), Room k (A.deeper (envOfC qual (defScope st) s.heap.objs.size f cdv)) → sp vs H Q E →
      ∃ t, PSs (cxOf CX P w K mg base N qual (defScope st) f cdv A outer s H E) (defBody st) t ∧ t { nx := fun _ H' => Q .non H', rt := Q } (start N vs) H) : CalM P w K mg base CX x C (k + 1) sp := by
  obtain ⟨f, fd, oc, od, dV, kV, doc, pm, an, cdv, ct, osl, rfl, lk, hcd, hm, M, hb⟩ := D
  exact ⟨f, _, ps, fn_of lk hcd S len fun A outer s H vs Q E hr hsp => h f cdv A outer s H vs Q E hr hsp, hm, M, hb⟩
end Pl
namespace Pl
open PySem L2 PySem.Spec PyProof.Rows
theorem rel_i {i : Int} {t : Tok} : RelV (.int i) (.int i t) := ⟨t, rfl⟩
theorem rel_s {x : Str} {t : Tok} : RelV (.str x) (.str x t) := ⟨t, rfl⟩
end Pl

/-! Rules of our own. -/
namespace Pl
open PySem L2 PySem.Spec PyProof.Rows
/-! ### max(list, default=d) -/
def maxOr (d : Int) : List Int → Int
  | [] => d
  | n :: ns => ns.foldl max n
def rMaxDf (K : Fg) : List V → List V → Hp → VK → Prop := fun vs zs H Q => ∃ (a : Addr) (ns : List Int) (d : Int), vs = [.ref a] ∧ zs = [.int d] ∧ SqL K H a (ns.map V.int) ∧ Q (.int (maxOr d ns)) H
theorem reads_ints {h : Heap} : ∀ {ns : List Int} {its : List Value}, Vals (ns.map V.int) its → ∃ as, ReadsAll h its (ns.map PyData.int) as
  | [], [], .nil => ⟨[], .nil⟩
  | n :: ns, u :: us, .cons r t => by
    obtain ⟨tk, rfl⟩ := (show ∃ t, u = Value.int n t from r)
    obtain ⟨as, q⟩ := reads_ints (h := h) t
    exact ⟨[] ++ as, .cons (.int n tk) q⟩
theorem depth_ints : ∀ {ns : List Int}, PyData.depthAll (ns.map PyData.int) ≤ 1
  | [] => by show 0 ≤ 1; decide
  | n :: ns => by
    have h := depth_ints (ns := ns)
    show max (PyData.depth (.int n)) (PyData.depthAll (ns.map PyData.int)) ≤ 1
    have h0 : PyData.depth (.int n) ≤ 1 := by simp [PyData.depth]
    omega
theorem cr_maxDf {X : Cx} (hc : X.calm = true) (hu : X.A.units + 64 < cLine) : CallRK X (.builtin "max") [Str.ofString "default"] (rMaxDf X.K) := by
  intro pins s σ H xs zs us ws Q I r rz h
  obtain ⟨a, ns, d, rfl, rfl, hs, q⟩ := h
  obtain ⟨its, rv, hl, _⟩ := I.list hs
  rw [Vals.ref1 r]
  obtain ⟨u, rfl, t, rfl⟩ := vals1 rz
  obtain ⟨as, hr⟩ := reads_ints (h := s.heap) rv
  have al : PySem.W.AlikeAll (ns.map PyData.int) := by
    refine ⟨fun x hx y hy => ?_, fun x hx => ?_⟩
    · obtain ⟨i, _, rfl⟩ := List.mem_map.mp hx
      obtain ⟨j, _, rfl⟩ := List.mem_map.mp hy
      rfl
    · obtain ⟨i, _, rfl⟩ := List.mem_map.mp hx
      intro z; cases z
  show wpAny _ _ (call (.builtin "max") [.ref a] [(Str.ofString "default", .int d t)]) _ _ _
  refine PySem.W.max_list_default (vs := its.toArray) (I.ok.hd hc) hl.isList (by simpa using hr) al (by have := depth_ints (ns := ns); omega) (fun e h' tk hk => ?_) (fun y ys i v h' tk bs e hv rd hk => ?_)
  · cases ns with
    | nil => exact ⟨.int d, H, I.kept hk, ⟨_, rfl⟩, q⟩
    | cons n ns => cases e
  · cases ns with
    | nil => cases e
    | cons n ns =>
      injection e with e1 e2
      subst e1; subst e2
      rw [PySem.W.maxD_ints] at rd
      cases rd with
      | int i t => exact ⟨.int _, H, I.kept hk, ⟨_, rfl⟩, q⟩
theorem pc_maxDf {X : Cx} {K : Fg} {p pos : Pos} {e : Expr} {es : List Expr} {kws : List Keyword} {t tk : TA} (hc : X.calm = true) (hu : X.A.units + 64 < cLine) (T : Tx X.K X.mg) (ha : PA X (e :: es) t) (hk : PK X kws tk) (hK : X.K = K := by rfl) (hg : Gl X "max" := by rfl)
    (he : backTo pos (starEach (e :: es) X.env) = (false, eval e X.env) :: backTo pos (starEach es X.env) := by rfl) (hpl : (backTo pos (starEach (e :: es) X.env)).any (·.1) = false := by rfl)
    (hall : (backToKw pos (keywordEach kws X.env)).all (·.1.isSome) = true := by rfl) (hnone : (backToKw pos (keywordEach kws X.env)).any (·.1.isNone) = false := by rfl) (hks : (backToKw pos (keywordEach kws X.env)).filterMap (·.1) = [Str.ofString "default"] := by rfl) :
    PE X (.Call (.Name "max" p) (e :: es) kws pos) (tCKw (rMaxDf K) t tk) := by
  subst hK
  exact pe_callBK (cr_maxDf hc hu) hg T.max (by decide +kernel) ha hk (he := he) (hpl := hpl) (hall := hall) (hnone := hnone) (hks := hks)
/-! ### a field, K said -/
theorem pe_fldK {X : Cx} {K : Fg} {e : Expr} {f : Str} {pos : Pos} {ta : TE} (he : PE X e ta) (hK : X.K = K := by rfl) (hb : attributeBase e f X.env (eval e X.env) = eval e X.env := by rfl) : PE X (.Attribute e f pos) (tFld K ta f) := by
  subst hK; exact pe_fld he hb
/-! ### C.m(e, ..): a def of a class, read off the class -/
structure CFn (K : Fg) (C : Addr) (m : Str) (g : Addr) : Prop where
  rd : ∃ mc, ClX.CRead K C mc ∧ PySem.W.findCls K (.ref C) mc m = some (.val (.ref g))
  kp : PySem.W.keepIn K (.ref g) = true
def CalC (P : Program) (w : World) (K : Fg) (mg : Str → Option Value) (base : Heap) (CX : CXT) (C : Addr) (m : Str) (k : Nat) (sp : Sp) : Prop :=
  ∃ f fd ps, FnOk P w K mg base CX k f fd ps sp ∧ CFn K C m f ∧ Binds K fd ps []
def tCls (C : Addr) (sp : Sp) (E : XK) (ta : TE) (t : TA) : TE := fun σ H Q => ta σ H fun x H1 => x = .ref C ∧ t σ H1 fun vs H2 => sp vs H2 Q E
theorem pclx {X : Cx} {CX : CXT} {k j : Nat} {C : Addr} {sp : Sp} {E : XK} {o e : Expr} {es : List Expr} {m : Str} {pos apos : Pos} {ta : TE} {t : TA} {pl : Sem Bool} (c : CalC X.prog X.w X.K X.mg X.base CX C m k sp) (hr : Room j X.A) (h : k ≤ j) (hx : Passes CX X E) (he : PE X o ta) (ha : PA X (e :: es) t)
    (hst : starEach (e :: es) X.env = (false, eval e X.env) :: starEach es X.env := by rfl) (hpl : (backTo pos (starEach es X.env)).any (·.1) = false := by rfl)
    (ht : eval (.Call (.Attribute o m apos) (e :: es) [] pos) X.env = (do
      let ov ← eval o X.env
      standAt apos.atName
      let (f, first) ← holding [ov] (getMethod ov m pl)
      callWith pos f first (backTo pos (starEach (e :: es) X.env)) (backToKw pos (keywordEach [] X.env))) := by rfl) :
    PE X (.Call (.Attribute o m apos) (e :: es) [] pos) (tCls C sp E ta t) := by
  obtain ⟨f, fd, ps, G, ⟨⟨mc, r, hv⟩, kp⟩, hb⟩ := c
  refine ⟨fun pins s σ H Q I h => ?_⟩
  refine PySem.W.methodCall_KW (pl := pl) (thn (he.run pins s σ H _ I h) fun u s1 ⟨x, H1, I1, rx, ex, q⟩ => ?_) ht
  subst ex
  obtain rfl : u = Value.ref C := rx
  refine PySem.W.method_cls I1.kIn r.ga (PySem.W.cls_value I1.kIn r.rd hv rfl ?_)
  have I1' := I1.tok (s1.toks + 1)
  refine PySem.W.callWith_K (first := []) (h₀ := X.base) I1'.ok.mod.kin kp (thn (ha.run pos pins _ σ H1 _ I1' q) fun us s2 ⟨vs, H2, I2, rv, q2⟩ => ⟨I2.kIn, ?_⟩) hst hpl
  exact run_fn (us := us) (vs := vs) G (hr.mono (by omega)) hb .nil hx I2 rv (by rw [List.append_nil]; exact q2)
/-! ### o.m(e, ..): by the object's class, one of several -/
def CalI (P : Program) (w : World) (K : Fg) (mg : Str → Option Value) (base : Heap) (CX : CXT) (C : Addr) (m : Str) (k : Nat) (sp : Sp) : Prop :=
  ∃ f fd ps, FnOk P w K mg base CX k f fd ps sp ∧ Meth K C m f ∧ Cls K C ∧ Binds K fd ps []
/-- S: which classes, with which promise -/
def tMethS (S : Addr → Sp → Prop) (m : Str) (E : XK) (ta : TE) (t : TA) : TE := fun σ H Q => ta σ H fun x H1 => ∃ a C dx fs sp, x = .ref a ∧ H1 a = some (.ins C dx fs) ∧ S C sp ∧ fs.lookup m = none ∧ t σ H1 fun vs H2 => sp (x :: vs) H2 Q E
section
variable {X : Cx} {CX : CXT} {k j : Nat} {S : Addr → Sp → Prop} {E : XK} {o e : Expr} {es : List Expr} {m : Str} {pos apos : Pos} {ta : TE} {t : TA} {pl : Sem Bool}
theorem pmsx (c : ∀ C sp, S C sp → CalI X.prog X.w X.K X.mg X.base CX C m k sp) (hr : Room j X.A) (h : k ≤ j) (hx : Passes CX X E) (he : PE X o ta) (ha : PA X (e :: es) t)
    (hst : starEach (e :: es) X.env = (false, eval e X.env) :: starEach es X.env := by rfl) (hpl : (backTo pos (starEach es X.env)).any (·.1) = false := by rfl)
    (ht : eval (.Call (.Attribute o m apos) (e :: es) [] pos) X.env = (do
      let ov ← eval o X.env
      standAt apos.atName
      let (f, first) ← holding [ov] (getMethod ov m pl)
      callWith pos f first (backTo pos (starEach (e :: es) X.env)) (backToKw pos (keywordEach [] X.env))) := by rfl) :
    PE X (.Call (.Attribute o m apos) (e :: es) [] pos) (tMethS S m E ta t) := by
  refine ⟨fun pins s σ H Q I h => ?_⟩
  refine PySem.W.methodCall_KW (pl := pl) (thn (he.run pins s σ H _ I h) fun u s1 ⟨x, H1, I1, rx, a, C, dx, fs, sp, ex, ea, hS, l, q⟩ => ?_) ht
  subst ex
  obtain rfl : u = Value.ref a := rx
  obtain ⟨f, fd, ps, G, hm, cl, hb⟩ := c C sp hS
  refine getmeth_ok I1 ea cl hm l ?_
  refine PySem.W.callWith_K (first := [.ref a]) (h₀ := X.base) I.ok.mod.kin hm.kp (thn (ha.run pos pins s1 σ H1 _ I1 q) fun us s2 ⟨vs, H2, I2, r, q2⟩ => ⟨I2.kIn, ?_⟩) hst hpl
  exact run_fn (us := .ref a :: us) (vs := .ref a :: vs) G (hr.mono (by omega)) hb .nil hx I2 (.cons rfl r) (by rw [List.append_nil]; exact q2)
theorem pmsx0 (c : ∀ C sp, S C sp → CalI X.prog X.w X.K X.mg X.base CX C m k sp) (hr : Room j X.A) (h : k ≤ j) (hx : Passes CX X E) (he : PE X o ta)
    (ht : eval (.Call (.Attribute o m apos) [] [] pos) X.env = (do
      let ov ← eval o X.env
      standAt apos.atName
      let (f, first) ← holding [ov] (getMethod ov m pl)
      callWith pos f first (backTo pos (starEach [] X.env)) (backToKw pos (keywordEach [] X.env))) := by rfl) :
    PE X (.Call (.Attribute o m apos) [] [] pos) (tMethS S m E ta tNil) := by
  refine ⟨fun pins s σ H Q I h => ?_⟩
  refine PySem.W.methodCall_KW (pl := pl) (thn (he.run pins s σ H _ I h) fun u s1 ⟨x, H1, I1, rx, a, C, dx, fs, sp, ex, ea, hS, l, q⟩ => ?_) ht
  subst ex
  obtain rfl : u = Value.ref a := rx
  obtain ⟨f, fd, ps, G, hm, cl, hb⟩ := c C sp hS
  refine getmeth_ok I1 ea cl hm l ?_
  exact PySem.W.callWith_K0 (first := [.ref a]) I1.kIn hm.kp (run_fn (us := [.ref a]) (vs := [.ref a]) G (hr.mono (by omega)) hb .nil hx I1 (.cons rfl .nil) (by rw [List.append_nil]; exact q))
end
/-! ### operators of own classes -/
theorem back_cmp {X : Cx} {pins : List (Addr × Obj)} {σ : L2.St} {Q : VK} {v : Value} {s' : Shared} (h : EP X pins σ Q v s') : PySem.W.CmpBack (EP X pins σ Q) v s' := by
  obtain ⟨y, H1, I1, r1, q1⟩ := h
  cases v with
  | notImplemented =>
    cases y with
    | non => cases (show Value.notImplemented = Value.none from r1)
    | bl b => cases (show Value.notImplemented = Value.bool b from r1)
    | int i => obtain ⟨t, e⟩ := (show ∃ t, Value.notImplemented = Value.int i t from r1); cases e
    | str x => obtain ⟨t, e⟩ := (show ∃ t, Value.notImplemented = Value.str x t from r1); cases e
    | byt b => obtain ⟨t, e⟩ := (show ∃ t, Value.notImplemented = Value.bytes b t from r1); cases e
    | flt b => obtain ⟨t, e⟩ := (show ∃ t, Value.notImplemented = Value.float b t from r1); cases e
    | ref a => cases (show Value.notImplemented = Value.ref a from r1)
    | ty n => cases (show Value.notImplemented = Value.type n from r1)
  | _ => exact ⟨y, H1, I1, r1, q1⟩
/-- x op n, n an int, by the class's own method -/
structure OpTx (K : Fg) (C : Addr) (op : Operator) : Prop where
  first : PySem.W.selfFirst K C = true
  hr : ∃ rc, PySem.W.findIn K (.ref C) (dunderR op.info.2) = some rc ∧ (rc = none ∨ ∃ g : Addr, rc = some (.ref g))
  h1 : ∃ fo, PySem.W.findIn K (.type "int") (PySem.dunder op.info.2) = some fo
  h2 : ∃ ro, PySem.W.findIn K (.type "int") (dunderR op.info.2) = some ro
  sub : PySem.W.subIn K (.type "int") (.ref C) = some false
def rOwnI (S : Addr → Sp → Prop) (E : XK) : R2 := fun x y H Q => ∃ a C dx fs i sp, x = .ref a ∧ y = .int i ∧ H a = some (.ins C dx fs) ∧ S C sp ∧ sp [x, y] H Q E
theorem op_ownI {X : Cx} {CX : CXT} {k j : Nat} {S : Addr → Sp → Prop} {E : XK} {op : Operator} (c : ∀ C sp, S C sp → CalI X.prog X.w X.K X.mg X.base CX C (PySem.dunder op.info.2) k sp ∧ OpTx X.K C op) (hr : Room j X.A) (h : k ≤ j) (hx : Passes CX X E) : OpR X (binaryOp op) (rOwnI S E) := by
  intro pins s σ H x y v u Q I rx ry h
  obtain ⟨a, C, dx, fs, i, sp, rfl, rfl, ha, hS, q⟩ := h
  obtain rfl : v = Value.ref a := rx
  obtain ⟨t, rfl⟩ := (show ∃ t, u = Value.int i t from ry)
  obtain ⟨⟨f, fd, ps, G, hm, cl, hb⟩, O⟩ := c C sp hS
  obtain ⟨mA, J, _⟩ := ins_get I.hok ha
  obtain ⟨od, J, _⟩ := J.look
  obtain ⟨m, hF⟩ := I.fr
  obtain ⟨rc, h3, h4⟩ := O.hr
  obtain ⟨fo, h5⟩ := O.h1
  obtain ⟨ro, h6⟩ := O.h2
  refine PySem.W.ksp_binT (T := "int") hF I.ok.mod.kin J rfl O.first hm.at_ hm.fn h3 h4 h5 h6 O.sub ?_
  refine wpAny_mono (run_fn (us := [.ref a, .int i t]) (vs := [.ref a, .int i]) G (hr.mono (by omega)) hb .nil hx I (.cons rfl (.cons ⟨t, rfl⟩ .nil)) (by rw [List.append_nil]; exact q)) (fun r s' z => back_cmp z) fun _ _ e => e
/-- x == y by the class's own method -/
def rOwnEq (K : Fg) (S : Addr → Sp → Prop) (E : XK) : R2 := fun x y H Q => ∃ a C dx fs t sp, x = .ref a ∧ H a = some (.ins C dx fs) ∧ TyX K H y t ∧ PySem.W.notFirst K C t = true ∧ S C sp ∧ sp [x, y] H Q E
end Pl
namespace Pl
open PySem L2 PySem.Spec PyProof.Rows
/-! ### fields by their names -/
theorem lk_of {fs : List (Str × V)} {ks : List Str} {k : Str} {v : V} {i : Nat} (e : fs.map (·.1) = ks) (hi : fs[i]? = some (k, v)) (hx : ks.idxOf k = i) : fs.lookup k = some v := by
  subst e
  induction fs generalizing i with
  | nil => simp at hi
  | cons x r ih =>
    obtain ⟨a, b⟩ := x
    by_cases h : k = a
    · subst h
      have e0 : i = 0 := by rw [← hx]; simp [List.idxOf_cons]
      subst e0
      simp at hi; subst hi
      simp [List.lookup]
    · have hb : (k == a) = false := by simpa using h
      have hb' : (a == k) = false := by simpa using fun z => h z.symm
      simp only [List.lookup, hb]
      rw [List.map_cons, List.idxOf_cons] at hx
      simp only [hb', cond_false] at hx
      subst hx
      exact ih (by simpa using hi) rfl
theorem lk_no {fs : List (Str × V)} {ks : List Str} {k : Str} (e : fs.map (·.1) = ks) (hx : k ∉ ks) : fs.lookup k = none := by
  subst e
  induction fs with
  | nil => rfl
  | cons x r ih =>
    obtain ⟨a, b⟩ := x
    have h1 : k ≠ a := fun z => hx (by simp [z])
    have hb : (k == a) = false := by simpa using h1
    simp only [List.lookup, hb]
    exact ih fun z => hx (by rw [List.map_cons]; exact List.mem_cons_of_mem _ z)
theorem putF_no {fs : List (Str × V)} {k : Str} {v : V} (hx : k ∉ fs.map (·.1)) : putF k v fs = fs ++ [(k, v)] := by
  induction fs with
  | nil => rfl
  | cons x r ih =>
    obtain ⟨a, b⟩ := x
    have h1 : ¬ a = k := fun z => hx (by simp [z])
    show (if a = k then _ else _) = _
    rw [if_neg h1, ih fun z => hx (by rw [List.map_cons]; exact List.mem_cons_of_mem _ z)] <;> rfl
theorem putF_new {fs : List (Str × V)} {ks : List Str} {k : Str} {v : V} (e : fs.map (·.1) = ks) (hx : k ∉ ks) : putF k v fs = fs ++ [(k, v)] := putF_no (e ▸ hx)
/-! ### terms: sizes -/
structure Sz where
  d : Int
  p : Int
  l : Int
  c : Int
/-- what a class of terms must have -/
structure TCls (K : Fg) (C : Addr) : Prop where
  cl : Cls K C
  nCh : NoAttr K C "children"
  nD : NoAttr K C "depth"
  nP : NoAttr K C "parts"
  nL : NoAttr K C "looks"
  nC : NoAttr K C "choices"
/-- a term that stands at a, by its sizes alone -/
def Kid (K : Fg) (H : Hp) (a : Addr) (z : Sz) : Prop := ∃ C dx fs, H a = some (.ins C dx fs) ∧ TCls K C ∧ fs.lookup ("depth" : Str) = some (.int z.d) ∧ fs.lookup ("parts" : Str) = some (.int z.p) ∧ fs.lookup ("looks" : Str) = some (.int z.l) ∧ fs.lookup ("choices" : Str) = some (.int z.c)
theorem Kid.same {K : Fg} {H H' : Hp} {a : Addr} {z : Sz} (k : Kid K H a z) (s : ∀ o, H a = some o → H' a = some o) : Kid K H' a z := by
  obtain ⟨C, dx, fs, h, r⟩ := k
  exact ⟨C, dx, fs, s _ h, r⟩
/-- [child.f for child in children] -/
theorem lc_fld {K : Fg} {σ : L2.St} {H : Hp} {Qd : Hp → Prop} {f : Str} {j : Nat} {ch D : Addr} {cs : List Addr} {ns : List Int} (hD : H D = none) (ht : SqT K H ch (cs.map V.ref)) (hz : ns.length ≤ 100)
    (hp : ∀ H', Same H H' → ∀ (n : Nat) c, cs[n]? = some c → ∃ C dx fs v, ns[n]? = some v ∧ H' c = some (.ins C dx fs) ∧ Cls K C ∧ NoAttr K C f ∧ fs.lookup f = some (.int v)) (hl : cs.length = ns.length)
    (q : ∀ H', Same H H' → H' D = some (.lst (ns.map V.int)) → Qd H') (hw2 : ∀ x, ((wipe σ [j]).set j (some x))[j]? = some (some x)) (hw3 : ∀ x, wipe ((wipe σ [j]).set j (some x)) [j] = wipe σ [j]) :
    ∃ W : Nat → Nat → Hp → Prop, (∃ m, W 0 m (upd H D (.lst []))) ∧ ∀ i m H, W i m H →
      ((Itt K ch).stop i H ∧ Qd H) ∨ ((Itt K ch).go i H ∧ ∃ Nx : Hp → Prop, (∀ H', Nx H' → ∃ m', m' < m ∧ W (i + 1) m' H') ∧ ∀ x H', (Itt K ch).yld i H x H' → gName j x (wipe σ [j]) H' fun σ2 H2 => wipe σ2 [j] = wipe σ [j] ∧ tYes σ2 H2 fun b H3 =>
        if b = true then tFld K (tVar j) f σ2 H3 fun y H4 => ∃ acc, H4 D = some (.lst acc) ∧ acc.length < sizeLine ∧ Nx (upd H4 D (.lst (acc ++ [y]))) else Nx H3) := by
  refine lc_tup (K := K) (a := ch) (xs := cs.map V.ref) (fun n H' => Same H H' ∧ H' D = some (.lst ((ns.take n).map V.int))) ⟨(Same.refl H).new hD, upd_same⟩ (fun n H' _ p => ?_) ?_ ?_
  · rcases ht with (h | ⟨o, h⟩) | h
    · exact .inl (.inl (p.1 _ _ h))
    · exact .inl (.inr ⟨o, p.1 _ _ h⟩)
    · exact .inr h
  · rintro n x H' hx ⟨s1, s2⟩
    obtain ⟨c, hc, rfl⟩ : ∃ c, cs[n]? = some c ∧ x = V.ref c := by
      rw [List.getElem?_map] at hx
      cases e : cs[n]? with
      | none => rw [e] at hx; cases hx
      | some z => rw [e] at hx; exact ⟨z, rfl, (Option.some.inj hx).symm⟩
    obtain ⟨C, dx, fs, v, hv2, ho, cl, na, lk⟩ := hp H' s1 n c hc
    have il : n < ns.length := (List.getElem?_eq_some_iff.mp hv2).1
    refine ⟨hw3 _, ?_⟩
    refine ⟨_, hw2 _, c, C, dx, fs, _, rfl, ho, cl, na, lk, _, s2, by rw [List.length_map, List.length_take]; exact small1000 (by omega), s1.chg hD, ?_⟩
    rw [upd_same, List.take_add_one, hv2, List.map_append]; rfl
  · rintro H' ⟨s1, s2⟩
    rw [List.length_map, hl, List.take_length] at s2
    exact q H' s1 s2
end Pl
namespace Pl
open PySem L2 PySem.Spec PyProof.Rows
/-- x == y, y an instance too, by x's class's own method -/
def rOwnE (S : Addr → Addr → Sp → Prop) (E : XK) : R2 := fun x y H Q => ∃ a C dx fs b C' dy gs sp, x = .ref a ∧ H a = some (.ins C dx fs) ∧ y = .ref b ∧ H b = some (.ins C' dy gs) ∧ S C C' sp ∧ sp [x, y] H Q E
theorem op_ownE {X : Cx} {CX : CXT} {k j : Nat} {S : Addr → Addr → Sp → Prop} {E : XK} (c : ∀ C C' sp, S C C' sp → CalI X.prog X.w X.K X.mg X.base CX C "__eq__" k sp ∧ PySem.W.notFirst X.K C (.ref C') = true) (hr : Room j X.A) (h : k ≤ j) (hx : Passes CX X E) : OpR X (compareOp .Eq) (rOwnE S E) := by
  intro pins s σ H x y v u Q I rx ry h
  obtain ⟨a, C, dx, fs, b, C', dy, gs, sp, rfl, ha, rfl, hb', hS, q⟩ := h
  obtain rfl : v = Value.ref a := rx
  obtain rfl : u = Value.ref b := ry
  obtain ⟨⟨f, fd, ps, G, hm, cl, hb⟩, O⟩ := c C C' sp hS
  obtain ⟨mA, J, _⟩ := ins_get I.hok ha
  obtain ⟨od, J, _⟩ := J.look
  obtain ⟨mB, J', _⟩ := ins_get I.hok hb'
  obtain ⟨od', J', _⟩ := J'.look
  obtain ⟨m, hF⟩ := I.fr
  show wpAny (model X.prog X.w) X.A (richCompare .Eq (.ref a) (.ref b)) (EP X pins σ Q) X.xe s
  refine PySem.W.cmp_K (op := .Eq) hr.units0 hF I.ok.mod.kin J J'.type O hm.at_ hm.fn ?_
  refine wpAny_mono (run_fn (us := [.ref a, .ref b]) (vs := [.ref a, .ref b]) G (hr.mono (by omega)) hb .nil hx I (.cons rfl (.cons rfl .nil)) (by rw [List.append_nil]; exact q)) (fun r s' z => back_cmp z) fun _ _ e => e
/-- x(e, ..), x an instance -/
def tCallS (X : Cx) (S : Addr → Sp → Prop) (E : XK) (tf : TE) (t : TA) : TE := fun σ H Q => tf σ H fun y H1 => ∃ a, y = V.ref a ∧ t σ H1 fun vs H2 => ∃ C dx fs sp, H2 a = some (.ins C dx fs) ∧ S C sp ∧ sp (V.ref a :: vs) H2 Q E
theorem pcallS {X : Cx} {CX : CXT} {k j : Nat} {S : Addr → Sp → Prop} {E : XK} {fe e : Expr} {es : List Expr} {pos : Pos} {tf : TE} {t : TA} (c : ∀ C sp, S C sp → CalI X.prog X.w X.K X.mg X.base CX C "__call__" k sp ∧ ∀ g, Meth X.K C "__call__" g → PySem.W.fnIn X.K g = true) (hr : Room j X.A) (h : k ≤ j) (hx : Passes CX X E) (hf : PE X fe tf) (ha : PA X (e :: es) t)
    (ht : eval (.Call fe (e :: es) [] pos) X.env = (do callWith pos (← eval fe X.env) [] (backTo pos (starEach (e :: es) X.env)) (backToKw pos (keywordEach [] X.env))) := by rfl)
    (he : starEach (e :: es) X.env = (false, eval e X.env) :: starEach es X.env := by rfl) (hpl : (backTo pos (starEach es X.env)).any (·.1) = false := by rfl) : PE X (.Call fe (e :: es) [] pos) (tCallS X S E tf t) := by
  refine ⟨fun pins s σ H Q I h => ?_⟩
  refine Call_ (thn (hf.run pins s σ H _ I h) fun u s1 ⟨y, H1, I1, ry, a, ey, q⟩ => ?_) ht
  subst ey
  obtain rfl : u = Value.ref a := ry
  refine StX.callO_with (thn (ha.run pos pins s1 σ H1 _ I1 q) fun us s2 ⟨vs, H2, I2, r, C, dx, fs, sp, hC, hS, q2⟩ => ?_) he hpl
  obtain ⟨⟨f, fd, ps, G, hm, cl, hb⟩, hfi⟩ := c C sp hS
  obtain ⟨ox, od, J, hd⟩ := StX.insC_at (X := X) I2 (.inr ⟨dx, fs, hC⟩)
  refine ⟨⟨C, ox, od, J, hd⟩, ?_⟩
  exact wpAny_call (PySem.W.kco_code I2.kIn J hd hm.at_ hm.fn (hfi f hm) (run_fnR (us := .ref a :: us) (vs := .ref a :: vs) ((G.raw hb .nil).imp fun vs H Q E z => by rw [List.append_nil]; exact z) (hr.mono (by omega)) hx I2 (.cons rfl r) q2))
end Pl
namespace Pl
open PySem L2 PySem.Spec PyProof.Rows
theorem rel_r {a : Addr} : RelV (.ref a) (.ref a) := rfl
end Pl
namespace Pl
open PySem L2 PySem.Spec PyProof.Rows
/-- what isinstance asks of a class -/
structure Isi (K : Fg) (C : Addr) : Prop where
  ha : PySem.W.findIn K (.ref C) "__class__" = some (some (.builtin "object.__class__"))
  hn : PySem.W.specialIn K (.builtin "object.__class__") "__get__" = some (some (.builtin "getset_descriptor.__get__"))
  htk : PySem.W.takesIn K (.builtin "object.__class__") = some true
  hm : PySem.W.mroIn K C (.type "object") = some true
theorem Isi.ty {K : Fg} {C a dx : Addr} {H : Hp} {fs : List (Str × V)} (i : Isi K C) (c : Cls K C) (e : H a = some (.ins C dx fs)) : TyX K H (.ref a) (.ref C) := .base (.ins e c i.ha i.hn i.htk i.hm)
end Pl

/-! More rules of our own; terms in general. -/
namespace Pl
open PySem L2 PySem.Spec PyProof.Rows
/-! ### x[y] by an own method -/
def rOwnIx (S : Addr → Sp → Prop) (E : XK) : R2 := fun x y H Q => ∃ a C dx fs sp, x = .ref a ∧ H a = some (.ins C dx fs) ∧ S C sp ∧ sp [x, y] H Q E
theorem pe_ixOwn {X : Cx} {CX : CXT} {k j : Nat} {S : Addr → Sp → Prop} {E : XK} {a b : Expr} {ta tb : TE} {pos : Pos} (c : ∀ C sp, S C sp → CalI X.prog X.w X.K X.mg X.base CX C "__getitem__" k sp ∧ ∀ g, Meth X.K C "__getitem__" g → PySem.W.fnIn X.K g = true) (hr : Room j X.A) (h : k + 1 ≤ j) (hx : Passes CX X E) (ha : PE X a ta) (hb : PE X b tb)
    (hs : ∀ o i, subscripted b true o i = runValue (.builtin "lifetime.subscript" ⟨[o, i], []⟩) := by intros; rfl) : PE X (.Subscript a b pos) (tOp (rOwnIx S E) ta tb) := by
  refine ⟨fun pins s σ H Q I h0 => ?_⟩
  refine Subscript_ (binT ha hb I h0 fun v u s2 x y H2 I2 rx ry q => ?_)
  obtain ⟨p, C, dx, fs, sp, rfl, hp, hS, q⟩ := q
  obtain rfl : v = Value.ref p := rx
  obtain ⟨⟨f, fd, ps, G, hm, cl, hb'⟩, hfi⟩ := c C sp hS
  obtain ⟨mA, J, _⟩ := ins_get I2.hok hp
  obtain ⟨od, J, _⟩ := J.look
  obtain ⟨m, hF⟩ := I2.fr
  refine PySem.W.sub_K hF I2.ok.mod.kin J hm.at_ (hfi f hm) hm.fn ?_ (hs _ _)
  have r2 : Vals [V.ref p, y] [Value.ref p, u] := .cons rfl (.cons ry .nil)
  have hl : ([Value.ref p, u] ++ []).length = ps.length := by
    rw [List.append_nil, ← r2.length]; exact G.len _ _ _ _ q
  have hbt := hb' s2 [Value.ref p, u] I2.kIn hl
  rw [List.append_nil] at hbt
  refine wpAny_call (codeAny_mono (G.run X.A.in1 X.stack s2 H2 ⟨[Value.ref p, u], []⟩ [Value.ref p, u] [V.ref p, y] Q E ((hr.mono h).in1) I2.env0.in1 hbt r2 q) fun r s' hq => ?_)
  cases r with
  | error e => exact hx pins σ H2 s2 e s' I2 hq
  | ok fl =>
    cases fl with
    | ret u => exact I2.after hq
    | next => exact False.elim hq
    | brk => exact False.elim hq
    | cont => exact False.elim hq
/-! ### abs -/
theorem pc_abs {X : Cx} {p pos : Pos} {e : Expr} {es : List Expr} {t : TA} (hA : X.mg "abs" = none) (ha : PA X (e :: es) t) (hg : Gl X "abs" := by rfl) (he : starEach (e :: es) X.env = (false, eval e X.env) :: starEach es X.env := by rfl) (hpl : (backTo pos (starEach es X.env)).any (·.1) = false := by rfl) :
    PE X (.Call (.Name "abs" p) (e :: es) [] pos) (tCB (fun xs H Q => ∃ i, xs = [.int i] ∧ Q (.int (if i < 0 then -i else i)) H) t) := pe_callB call_abs hg hA (by decide +kernel) ha (he := he) (hpl := hpl)
/-! ### C(.., k = v) -/
def CalKM (P : Program) (w : World) (K : Fg) (mg : Str → Option Value) (base : Heap) (CX : CXT) (x : Str) (C : Addr) (n : Nat) (ks : List Str) (k : Nat) (sp : Sp) : Prop :=
  ∃ f fd ps g, FnOk P w K mg base CX k f fd ps sp ∧ mg x = some (.ref C) ∧ Mk K C f ∧ KBn K fd ps (n + 1) ks g (fun vs zs => vs ++ zs)
theorem pmkK {X : Cx} {CX : CXT} {k j n : Nat} {C : Addr} {sp : Sp} {E : XK} {x : Str} {p pos : Pos} {e : Expr} {es : List Expr} {kws : List Keyword} {ks : List Str} {t tk : TA} (c : CalKM X.prog X.w X.K X.mg X.base CX x C n ks k sp) (hr : Room j X.A) (h : k + 1 ≤ j) (hx : Passes CX X E) (ha : PA X (e :: es) t) (hkw : PK X kws tk)
    (hg : Gl X x := by rfl) (hall : (backToKw pos (keywordEach kws X.env)).all (·.1.isSome) = true := by rfl) (hks : (backToKw pos (keywordEach kws X.env)).filterMap (·.1) = ks := by rfl) (hdb : (x == ("__debug__" : Str)) = false := by decide)
    (he : starEach (e :: es) X.env = (false, eval e X.env) :: starEach es X.env := by rfl) (hpl : ((backTo pos (starEach (e :: es) X.env)).any (·.1) || (backToKw pos (keywordEach kws X.env)).any (·.1.isNone)) = false := by rfl) :
    PE X (.Call (.Name x p) (e :: es) kws pos) (tMakeK C n ks.length sp (fun vs zs => vs ++ zs) E t tk) := by
  obtain ⟨f, fd, ps, g, G, hm, M, hb⟩ := c
  exact pe_makeK M G (hr.mono h) hg hm hb hx ha hkw hall hks hdb he hpl
/-! ### a tuple of texts of the written part -/
def TupK (K : Fg) (a : Addr) (zs : List Str) : Prop := ∃ (o : Obj) (its : Array Value) (n : Nat), K.lookup a = some o ∧ o.cls = .type "tuple" ∧ o.data = .seq its n ∧ its.size ≤ sizeLine ∧ Vals (zs.map V.str) its.toList
theorem TupK.sq {K : Fg} {a : Addr} {zs : List Str} (t : TupK K a zs) (H : Hp) : SqT K H a (zs.map V.str) := .inr t
theorem inV_str {z : Str} {l : List Str} : inV (.str z) (l.map V.str) = decide (z ∈ l) := by
  rw [Bool.eq_iff_iff]
  unfold inV
  rw [List.any_map]
  simp only [List.any_eq_true, decide_eq_true_eq]
  constructor
  · rintro ⟨x, hx, e⟩
    have e : (x == z) = true := e
    rw [beq_iff_eq] at e
    exact e ▸ hx
  · intro h
    exact ⟨z, h, by show (z == z) = true; simp⟩
theorem flat_str {l : List Str} : (l.map V.str).all flatV = true := by
  rw [List.all_map, List.all_eq_true]; intro x _; rfl
/-! ### rows by name -/
theorem look_at {rs : Rs} {i : Nat} {z : Str} {l : List Int} (nd : (rs.map (·.1)).Nodup) (h : rs[i]? = some (z, l)) : rs.lookup z = some l := by
  induction rs generalizing i with
  | nil => simp at h
  | cons x r ih =>
    obtain ⟨a, b⟩ := x
    have nd' := List.nodup_cons.mp nd
    cases i with
    | zero => simp at h; obtain ⟨rfl, rfl⟩ := h; simp [List.lookup]
    | succ i =>
      have h' : r[i]? = some (z, l) := by simpa using h
      have ne : z ≠ a := by
        intro e; subst e
        exact nd'.1 (List.mem_map.mpr ⟨(z, l), List.mem_of_getElem? h', rfl⟩)
      have hb : (z == a) = false := by simpa using ne
      simp only [List.lookup, hb]
      exact ih nd'.2 h'
theorem look_no {rs : Rs} {z : Str} (h : z ∉ rs.map (·.1)) : rs.lookup z = none := by
  induction rs with
  | nil => rfl
  | cons x r ih =>
    obtain ⟨a, b⟩ := x
    have ne : z ≠ a := fun e => h (by simp [e])
    have hb : (z == a) = false := by simpa using ne
    simp only [List.lookup, hb]
    exact ih fun m => h (by rw [List.map_cons]; exact List.mem_cons_of_mem _ m)
def rowsOf (rs : Rs) (z : Str) : List Int := (rs.lookup z).getD []
/-! ### the row that a look finds -/
def cntB (l : List Int) (m : Int) : Nat := l.countP (fun x => decide (x < m))
theorem cntB_eq {l : List Int} {m : Int} {k : Nat} (hk : k ≤ l.length) (h1 : ∀ i x, i < k → l[i]? = some x → x < m) (h2 : ∀ i x, k ≤ i → l[i]? = some x → ¬ x < m) : cntB l m = k := by
  unfold cntB
  have e : l = l.take k ++ l.drop k := (List.take_append_drop k l).symm
  have c1 : (l.take k).countP (fun x => decide (x < m)) = (l.take k).length := by
    rw [List.countP_eq_length]
    intro x hx
    obtain ⟨i, hi⟩ := List.mem_iff_getElem?.mp hx
    rw [List.getElem?_take] at hi
    split at hi
    · rename_i g; exact decide_eq_true (h1 i x g hi)
    · cases hi
  have c2 : (l.drop k).countP (fun x => decide (x < m)) = 0 := by
    rw [List.countP_eq_zero]
    intro x hx
    obtain ⟨i, hi⟩ := List.mem_iff_getElem?.mp hx
    rw [List.getElem?_drop] at hi
    simpa using h2 (k + i) x (by omega) hi
  rw [e, List.countP_append, c1, c2, List.length_take]; omega
theorem cntB_le {l : List Int} {m : Int} : cntB l m ≤ l.length := List.countP_le_length
/-- ascending: those below m come first -/
theorem cntB_spec {l : List Int} {m : Int} (up : l.Pairwise (· ≤ ·)) : (∀ i x, i < cntB l m → l[i]? = some x → x < m) ∧ (∀ i x, cntB l m ≤ i → l[i]? = some x → ¬ x < m) := by
  induction l with
  | nil => exact ⟨fun i x _ h => by simp at h, fun i x _ h => by simp at h⟩
  | cons a r ih =>
    obtain ⟨u1, u2⟩ := List.pairwise_cons.mp up
    obtain ⟨i1, i2⟩ := ih u2
    by_cases h : a < m
    · have e : cntB (a :: r) m = cntB r m + 1 := by unfold cntB; rw [List.countP_cons_of_pos (by simpa using h)]
      rw [e]
      refine ⟨fun i x hi hx => ?_, fun i x hi hx => ?_⟩
      · cases i with
        | zero => simp at hx; omega
        | succ i => exact i1 i x (by omega) (by simpa using hx)
      · cases i with
        | zero => omega
        | succ i => exact i2 i x (by omega) (by simpa using hx)
    · have z : cntB r m = 0 := by
        unfold cntB
        rw [List.countP_eq_zero]
        intro x hx
        have := u1 x hx
        simp; omega
      have e : cntB (a :: r) m = 0 := by
        have : cntB (a :: r) m = cntB r m := by unfold cntB; rw [List.countP_cons_of_neg (by simpa using h)]
        rw [this, z]
      rw [e]
      refine ⟨fun i x hi _ => by omega, fun i x _ hx => ?_⟩
      cases i with
      | zero => simp at hx; omega
      | succ i => exact i2 i x (by omega) (by simpa using hx)
def plc (l : List Int) (wy : Str) (m : Int) : Int :=
  if wy = "at" then (cntB l (m + 1) : Int) - 1 else if wy = "before" then (cntB l m : Int) - 1 else if wy = "since" then (cntB l m : Int) else (cntB l (m + 1) : Int)
def lkRow (l : List Int) (wy : Str) (m : Int) : Option Int := if 0 ≤ plc l wy m then l[(plc l wy m).toNat]? else none
def ways : List Str := ["at", "before", "since", "after"]
def sideB (wy : Str) (x m : Int) : Bool := if wy = "at" then decide (x ≤ m) else if wy = "before" then decide (x < m) else if wy = "since" then decide (m ≤ x) else decide (m < x)
def back (wy : Str) : Bool := decide (wy = "at") || decide (wy = "before")
/-- r: the nearest row of l on the side -/
def IsRow (l : List Int) (wy : Str) (m : Int) : Option Int → Prop
  | some r => r ∈ l ∧ sideB wy r m = true ∧ ∀ x ∈ l, sideB wy x m = true → if back wy then x ≤ r else r ≤ x
  | none => ∀ x ∈ l, sideB wy x m = false
theorem IsRow.uniq {l : List Int} {wy : Str} {m : Int} : ∀ {o o' : Option Int}, IsRow l wy m o → IsRow l wy m o' → o = o'
  | some r, some r', ⟨h1, h2, h3⟩, ⟨g1, g2, g3⟩ => by
    have a := h3 _ g1 g2
    have b := g3 _ h1 h2
    split at a <;> rename_i z <;> simp only [z] at b <;> simp at b <;> congr 1 <;> omega
  | some r, none, ⟨h1, h2, _⟩, h => by have := h _ h1; rw [h2] at this; cases this
  | none, some r, h, ⟨h1, h2, _⟩ => by have := h _ h1; rw [h2] at this; cases this
  | none, none, _, _ => rfl
theorem last_of {l : List Int} {k : Nat} {P : Int → Prop} (up : l.Pairwise (· ≤ ·)) (hk : k ≤ l.length) (h1 : ∀ i x, i < k → l[i]? = some x → P x) (h2 : ∀ i x, k ≤ i → l[i]? = some x → ¬ P x) :
    match (if 0 ≤ ((k : Int) - 1) then l[((k : Int) - 1).toNat]? else none) with
    | some r => r ∈ l ∧ P r ∧ ∀ x ∈ l, P x → x ≤ r
    | none => ∀ x ∈ l, ¬ P x := by
  by_cases k0 : k = 0
  · subst k0
    rw [if_neg (by omega)]
    intro x hx
    obtain ⟨i, hi⟩ := List.mem_iff_getElem?.mp hx
    exact h2 i x (by omega) hi
  · have e : ((k : Int) - 1).toNat = k - 1 := by omega
    rw [if_pos (by omega), e]
    have hl : k - 1 < l.length := by omega
    rw [List.getElem?_eq_getElem hl]
    refine ⟨List.getElem_mem hl, h1 (k - 1) _ (by omega) (List.getElem?_eq_getElem hl), fun x hx px => ?_⟩
    obtain ⟨i, hi⟩ := List.mem_iff_getElem?.mp hx
    have ik : i < k := by
      rcases Nat.lt_or_ge i k with h | h
      · exact h
      · exact absurd px (h2 i x h hi)
    obtain ⟨hi', rfl⟩ := List.getElem?_eq_some_iff.mp hi
    rcases Nat.lt_or_ge i (k - 1) with h | h
    · exact List.pairwise_iff_getElem.mp up i (k - 1) hi' hl h
    · have : i = k - 1 := by omega
      subst this; exact Int.le_refl _
theorem first_of {l : List Int} {k : Nat} {P : Int → Prop} (up : l.Pairwise (· ≤ ·)) (h1 : ∀ i x, i < k → l[i]? = some x → ¬ P x) (h2 : ∀ i x, k ≤ i → l[i]? = some x → P x) :
    match (if 0 ≤ (k : Int) then l[(k : Int).toNat]? else none) with
    | some r => r ∈ l ∧ P r ∧ ∀ x ∈ l, P x → r ≤ x
    | none => ∀ x ∈ l, ¬ P x := by
  rw [if_pos (by omega), Int.toNat_natCast]
  cases e : l[k]? with
  | none =>
    intro x hx
    obtain ⟨i, hi⟩ := List.mem_iff_getElem?.mp hx
    have := (List.getElem?_eq_some_iff.mp hi).1
    have := List.getElem?_eq_none_iff.mp e
    exact h1 i x (by omega) hi
  | some r =>
    refine ⟨List.mem_of_getElem? e, h2 k r (Nat.le_refl _) e, fun x hx px => ?_⟩
    obtain ⟨i, hi⟩ := List.mem_iff_getElem?.mp hx
    have ik : k ≤ i := by
      rcases Nat.lt_or_ge i k with h | h
      · exact absurd px (h1 i x h hi)
      · exact h
    obtain ⟨hi', rfl⟩ := List.getElem?_eq_some_iff.mp hi
    obtain ⟨hk', rfl⟩ := List.getElem?_eq_some_iff.mp e
    rcases Nat.lt_or_ge k i with h | h
    · exact List.pairwise_iff_getElem.mp up k i hk' hi' h
    · have : i = k := by omega
      subst this; exact Int.le_refl _
theorem lkRow_is {l : List Int} {wy : Str} {m : Int} (up : l.Pairwise (· ≤ ·)) (hw : wy ∈ ways) : IsRow l wy m (lkRow l wy m) := by
  have nab : ¬ ((Str.ofString "before") = (Str.ofString "at")) := by decide +kernel
  have nsa : ¬ ((Str.ofString "since") = (Str.ofString "at")) := by decide +kernel
  have nsb : ¬ ((Str.ofString "since") = (Str.ofString "before")) := by decide +kernel
  have nfa : ¬ ((Str.ofString "after") = (Str.ofString "at")) := by decide +kernel
  have nfb : ¬ ((Str.ofString "after") = (Str.ofString "before")) := by decide +kernel
  have nfs : ¬ ((Str.ofString "after") = (Str.ofString "since")) := by decide +kernel
  obtain ⟨a1, a2⟩ := cntB_spec (m := m) up
  obtain ⟨b1, b2⟩ := cntB_spec (m := m + 1) up
  have cases4 : wy = "at" ∨ wy = "before" ∨ wy = "since" ∨ wy = "after" := by simpa [ways] using hw
  unfold lkRow
  rcases cases4 with rfl | rfl | rfl | rfl
  · have e : plc l "at" m = (cntB l (m + 1) : Int) - 1 := by unfold plc; rw [if_pos rfl]
    have s : ∀ x, sideB "at" x m = decide (x ≤ m) := fun x => by unfold sideB; rw [if_pos rfl]
    have b : back "at" = true := by decide +kernel
    rw [e]
    have q := last_of (k := cntB l (m + 1)) (P := fun x => x ≤ m) up cntB_le (fun i x h1 h2 => by have := b1 i x h1 h2; omega) (fun i x h1 h2 => by have := b2 i x h1 h2; omega)
    revert q
    generalize (if 0 ≤ (cntB l (m + 1) : Int) - 1 then l[((cntB l (m + 1) : Int) - 1).toNat]? else none) = o
    intro q
    cases o with
    | none => intro x hx; rw [s]; exact decide_eq_false (q x hx)
    | some r => exact ⟨q.1, by rw [s]; exact decide_eq_true q.2.1, fun x hx h => by rw [b]; rw [s] at h; exact q.2.2 x hx (of_decide_eq_true h)⟩
  · have e : plc l "before" m = (cntB l m : Int) - 1 := by unfold plc; rw [if_neg nab, if_pos rfl]
    have s : ∀ x, sideB "before" x m = decide (x < m) := fun x => by unfold sideB; rw [if_neg nab, if_pos rfl]
    have b : back "before" = true := by decide +kernel
    rw [e]
    have q := last_of (k := cntB l m) (P := fun x => x < m) up cntB_le a1 a2
    revert q
    generalize (if 0 ≤ (cntB l m : Int) - 1 then l[((cntB l m : Int) - 1).toNat]? else none) = o
    intro q
    cases o with
    | none => intro x hx; rw [s]; exact decide_eq_false (q x hx)
    | some r => exact ⟨q.1, by rw [s]; exact decide_eq_true q.2.1, fun x hx h => by rw [b]; rw [s] at h; exact q.2.2 x hx (of_decide_eq_true h)⟩
  · have e : plc l "since" m = (cntB l m : Int) := by unfold plc; rw [if_neg nsa, if_neg nsb, if_pos rfl]
    have s : ∀ x, sideB "since" x m = decide (m ≤ x) := fun x => by unfold sideB; rw [if_neg nsa, if_neg nsb, if_pos rfl]
    have b : back "since" = false := by decide +kernel
    rw [e]
    have q := first_of (k := cntB l m) (P := fun x => m ≤ x) up (fun i x h1 h2 => by have := a1 i x h1 h2; omega) (fun i x h1 h2 => by have := a2 i x h1 h2; omega)
    revert q
    generalize (if 0 ≤ (cntB l m : Int) then l[(cntB l m : Int).toNat]? else none) = o
    intro q
    cases o with
    | none => intro x hx; rw [s]; exact decide_eq_false (q x hx)
    | some r => exact ⟨q.1, by rw [s]; exact decide_eq_true q.2.1, fun x hx h => by rw [b]; rw [s] at h; exact q.2.2 x hx (of_decide_eq_true h)⟩
  · have e : plc l "after" m = (cntB l (m + 1) : Int) := by unfold plc; rw [if_neg nfa, if_neg nfb, if_neg nfs]
    have s : ∀ x, sideB "after" x m = decide (m < x) := fun x => by unfold sideB; rw [if_neg nfa, if_neg nfb, if_neg nfs]
    have b : back "after" = false := by decide +kernel
    rw [e]
    have q := first_of (k := cntB l (m + 1)) (P := fun x => m < x) up (fun i x h1 h2 => by have := b1 i x h1 h2; omega) (fun i x h1 h2 => by have := b2 i x h1 h2; omega)
    revert q
    generalize (if 0 ≤ (cntB l (m + 1) : Int) then l[(cntB l (m + 1) : Int).toNat]? else none) = o
    intro q
    cases o with
    | none => intro x hx; rw [s]; exact decide_eq_false (q x hx)
    | some r => exact ⟨q.1, by rw [s]; exact decide_eq_true q.2.1, fun x hx h => by rw [b]; rw [s] at h; exact q.2.2 x hx (of_decide_eq_true h)⟩
end Pl

/-! Terms in general: their form, where they stand, their answers. -/
namespace Pl
open PySem L2 PySem.Spec PyProof.Rows
inductive Tm where
  | now
  | shift (m : Tm) (c : Int)
  | look (z : Str) (m : Tm) (wy : Str) (lim : Option Int)
  | either (a b : Tm)
  | later (a b : Tm)
  | earlier (a b : Tm)
inductive Kd where
  | now | shift | look | either | later | earlier
  deriving DecidableEq
def Tm.kd : Tm → Kd
  | .now => .now
  | .shift _ _ => .shift
  | .look _ _ _ _ => .look
  | .either _ _ => .either
  | .later _ _ => .later
  | .earlier _ _ => .earlier
/-- sizes of a term of these children -/
def szOf (lo co : Int) (zs : List Sz) : Sz := ⟨1 + maxOr 0 (zs.map (·.d)), 1 + (zs.map (·.p)).sum, lo + (zs.map (·.l)).sum, co + (zs.map (·.c)).sum⟩
def Tm.sz : Tm → Sz
  | .now => ⟨1, 1, 0, 0⟩
  | .shift m _ => szOf 0 0 [m.sz]
  | .look _ m _ _ => szOf 1 1 [m.sz]
  | .either a b => szOf 0 0 [a.sz, b.sz]
  | .later a b => szOf 0 1 [a.sz, b.sz]
  | .earlier a b => szOf 0 1 [a.sz, b.sz]
theorem szOf1_d {lo co : Int} {z : Sz} : (szOf lo co [z]).d = 1 + z.d := by
  show 1 + (([] : List Int).foldl max z.d) = _; rfl
theorem szOf2_d {lo co : Int} {y z : Sz} : (szOf lo co [y, z]).d = 1 + max y.d z.d := rfl
theorem szOf1_p {lo co : Int} {z : Sz} : (szOf lo co [z]).p = 1 + z.p := by show 1 + (z.p + 0) = _; omega
theorem szOf2_p {lo co : Int} {y z : Sz} : (szOf lo co [y, z]).p = 1 + (y.p + z.p) := by show 1 + (y.p + (z.p + 0)) = _; omega
theorem szOf1_l {lo co : Int} {z : Sz} : (szOf lo co [z]).l = lo + z.l := by show lo + (z.l + 0) = _; omega
theorem szOf2_l {lo co : Int} {y z : Sz} : (szOf lo co [y, z]).l = lo + (y.l + z.l) := by show lo + (y.l + (z.l + 0)) = _; omega
theorem Tm.d_pos : ∀ t : Tm, 1 ≤ t.sz.d
  | .now => by decide
  | .shift m _ => by have := m.d_pos; show 1 ≤ (szOf 0 0 [m.sz]).d; rw [szOf1_d]; omega
  | .look _ m _ _ => by have := m.d_pos; show 1 ≤ (szOf 1 1 [m.sz]).d; rw [szOf1_d]; omega
  | .either a b => by have := a.d_pos; show 1 ≤ (szOf 0 0 [a.sz, b.sz]).d; rw [szOf2_d]; omega
  | .later a b => by have := a.d_pos; show 1 ≤ (szOf 0 1 [a.sz, b.sz]).d; rw [szOf2_d]; omega
  | .earlier a b => by have := a.d_pos; show 1 ≤ (szOf 0 1 [a.sz, b.sz]).d; rw [szOf2_d]; omega
theorem Tm.p_pos : ∀ t : Tm, 1 ≤ t.sz.p
  | .now => by decide
  | .shift m _ => by have := m.p_pos; show 1 ≤ (szOf 0 0 [m.sz]).p; rw [szOf1_p]; omega
  | .look _ m _ _ => by have := m.p_pos; show 1 ≤ (szOf 1 1 [m.sz]).p; rw [szOf1_p]; omega
  | .either a b => by have := a.p_pos; have := b.p_pos; show 1 ≤ (szOf 0 0 [a.sz, b.sz]).p; rw [szOf2_p]; omega
  | .later a b => by have := a.p_pos; have := b.p_pos; show 1 ≤ (szOf 0 1 [a.sz, b.sz]).p; rw [szOf2_p]; omega
  | .earlier a b => by have := a.p_pos; have := b.p_pos; show 1 ≤ (szOf 0 1 [a.sz, b.sz]).p; rw [szOf2_p]; omega
/-! ### where a term stands -/
def limV : Option Int → V
  | none => .non
  | some i => .int i
def allF (ch : Addr) (z : Sz) : List (Str × V) := [("children", .ref ch), ("depth", .int z.d), ("parts", .int z.p), ("looks", .int z.l), ("choices", .int z.c)]
def one (k : Str) (v : V) : List (Str × V) := [(k, v)]
structure CA where
  T : Addr
  cls : Kd → Addr
def shO (m : Addr) (c : Int) : List (Str × V) := [("moment", .ref m), ("amount", .int c)]
def lkO (z : Str) (m : Addr) (wy : Str) (lim : Option Int) : List (Str × V) := [("stream", .str z), ("moment", .ref m), ("way", .str wy), ("within", limV lim)]
def biO (a b : Addr) : List (Str × V) := [("first", .ref a), ("second", .ref b)]
def TermAt (A : CA) (H : Hp) : Tm → Addr → Prop
  | .now, a => ∃ dx ch, H a = some (.ins (A.cls .now) dx (allF ch (Tm.sz .now))) ∧ H ch = some (.tup [])
  | .shift m c, a => ∃ dx ch ma, H a = some (.ins (A.cls .shift) dx (shO ma c ++ allF ch (Tm.sz (.shift m c)))) ∧ H ch = some (.tup [.ref ma]) ∧ TermAt A H m ma
  | .look z m wy lim, a => ∃ dx ch ma, H a = some (.ins (A.cls .look) dx (lkO z ma wy lim ++ allF ch (Tm.sz (.look z m wy lim)))) ∧ H ch = some (.tup [.ref ma]) ∧ TermAt A H m ma
  | .either x y, a => ∃ dx ch xa ya, H a = some (.ins (A.cls .either) dx (biO xa ya ++ allF ch (Tm.sz (.either x y)))) ∧ H ch = some (.tup [.ref xa, .ref ya]) ∧ TermAt A H x xa ∧ TermAt A H y ya
  | .later x y, a => ∃ dx ch xa ya, H a = some (.ins (A.cls .later) dx (biO xa ya ++ allF ch (Tm.sz (.later x y)))) ∧ H ch = some (.tup [.ref xa, .ref ya]) ∧ TermAt A H x xa ∧ TermAt A H y ya
  | .earlier x y, a => ∃ dx ch xa ya, H a = some (.ins (A.cls .earlier) dx (biO xa ya ++ allF ch (Tm.sz (.earlier x y)))) ∧ H ch = some (.tup [.ref xa, .ref ya]) ∧ TermAt A H x xa ∧ TermAt A H y ya
/-- what terms are made of stands -/
def Kt (H H' : Hp) : Prop := (∀ (a C dx : Addr) fs, H a = some (.ins C dx fs) → H' a = some (.ins C dx fs)) ∧ ∀ (a : Addr) xs, H a = some (.tup xs) → H' a = some (.tup xs)
theorem Kt.refl {H : Hp} : Kt H H := ⟨fun _ _ _ _ h => h, fun _ _ h => h⟩
theorem Kt.trans {H H1 H2 : Hp} (x : Kt H H1) (y : Kt H1 H2) : Kt H H2 := ⟨fun a C dx fs h => y.1 a C dx fs (x.1 a C dx fs h), fun a xs h => y.2 a xs (x.2 a xs h)⟩
theorem Kt.of {H H' : Hp} (s : Same H H') : Kt H H' := ⟨fun a _ _ _ h => s a _ h, fun a _ h => s a _ h⟩
theorem Kt.kp {b c : Addr} {H H' : Hp} (B : Box H b c) (k : Kp b c H H') : Kt H H' := by
  obtain ⟨_, _, hb, hc, _⟩ := B
  exact ⟨fun a _ _ _ h => k a _ (ne_of h hb (by intro z; cases z)) (ne_of h hc (by intro z; cases z)) h, fun a _ h => k a _ (ne_of h hb (by intro z; cases z)) (ne_of h hc (by intro z; cases z)) h⟩
/-- a list changes -/
theorem Kt.lst {H : Hp} {a : Addr} {xs ys : List V} (h : H a = some (.lst xs)) : Kt H (upd H a (.lst ys)) :=
  ⟨fun b _ _ _ e => by rw [upd_ne (ne_of e h (by intro z; cases z))]; exact e, fun b _ e => by rw [upd_ne (ne_of e h (by intro z; cases z))]; exact e⟩
/-- a dict changes -/
theorem Kt.dk {H : Hp} {a : Addr} {xs ys : List (Key × V)} (h : H a = some (.dK xs)) : Kt H (upd H a (.dK ys)) :=
  ⟨fun b _ _ _ e => by rw [upd_ne (ne_of e h (by intro z; cases z))]; exact e, fun b _ e => by rw [upd_ne (ne_of e h (by intro z; cases z))]; exact e⟩
theorem Kt.new {H H' : Hp} {a : Addr} {o : HO} (x : Kt H H') (n : H' a = none) : Kt H (upd H' a o) := x.trans (Kt.of ((Same.refl H').new n))
theorem TermAt.kt {A : CA} {H H' : Hp} (k : Kt H H') : ∀ {t : Tm} {a : Addr}, TermAt A H t a → TermAt A H' t a
  | .now, _, ⟨dx, ch, h1, h2⟩ => ⟨dx, ch, k.1 _ _ _ _ h1, k.2 _ _ h2⟩
  | .shift _ _, _, ⟨dx, ch, ma, h1, h2, h3⟩ => ⟨dx, ch, ma, k.1 _ _ _ _ h1, k.2 _ _ h2, TermAt.kt k h3⟩
  | .look _ _ _ _, _, ⟨dx, ch, ma, h1, h2, h3⟩ => ⟨dx, ch, ma, k.1 _ _ _ _ h1, k.2 _ _ h2, TermAt.kt k h3⟩
  | .either _ _, _, ⟨dx, ch, xa, ya, h1, h2, h3, h4⟩ => ⟨dx, ch, xa, ya, k.1 _ _ _ _ h1, k.2 _ _ h2, TermAt.kt k h3, TermAt.kt k h4⟩
  | .later _ _, _, ⟨dx, ch, xa, ya, h1, h2, h3, h4⟩ => ⟨dx, ch, xa, ya, k.1 _ _ _ _ h1, k.2 _ _ h2, TermAt.kt k h3, TermAt.kt k h4⟩
  | .earlier _ _, _, ⟨dx, ch, xa, ya, h1, h2, h3, h4⟩ => ⟨dx, ch, xa, ya, k.1 _ _ _ _ h1, k.2 _ _ h2, TermAt.kt k h3, TermAt.kt k h4⟩
theorem TermAt.same {A : CA} {H H' : Hp} {t : Tm} {a : Addr} (x : TermAt A H t a) (s : Same H H') : TermAt A H' t a := x.kt (Kt.of s)
/-- all but one new instance stands -/
theorem TermAt.but {A : CA} {H H' : Hp} {t : Tm} {a p C dx : Addr} (hp : H p = some (.ins C dx [])) (k : ∀ a o, H a = some o → a ≠ p → H' a = some o) : TermAt A H t a → TermAt A H' t a := by
  have ki : ∀ {b C' dx' : Addr} {fs}, H b = some (.ins C' dx' fs) → fs ≠ [] → H' b = some (.ins C' dx' fs) := fun h n => k _ _ h (ne_of h hp (by intro z; injection z with _ _ z; exact n z))
  have kt : ∀ {b : Addr} {xs}, H b = some (.tup xs) → H' b = some (.tup xs) := fun h => k _ _ h (ne_of h hp (by intro z; cases z))
  induction t generalizing a with
  | now => rintro ⟨dx, ch, h1, h2⟩; exact ⟨dx, ch, ki h1 (by intro z; cases z), kt h2⟩
  | shift m c ih => rintro ⟨dx, ch, ma, h1, h2, h3⟩; exact ⟨dx, ch, ma, ki h1 (by intro z; cases z), kt h2, ih h3⟩
  | look z m wy lim ih => rintro ⟨dx, ch, ma, h1, h2, h3⟩; exact ⟨dx, ch, ma, ki h1 (by intro z; cases z), kt h2, ih h3⟩
  | either x y i1 i2 => rintro ⟨dx, ch, xa, ya, h1, h2, h3, h4⟩; exact ⟨dx, ch, xa, ya, ki h1 (by intro z; cases z), kt h2, i1 h3, i2 h4⟩
  | later x y i1 i2 => rintro ⟨dx, ch, xa, ya, h1, h2, h3, h4⟩; exact ⟨dx, ch, xa, ya, ki h1 (by intro z; cases z), kt h2, i1 h3, i2 h4⟩
  | earlier x y i1 i2 => rintro ⟨dx, ch, xa, ya, h1, h2, h3, h4⟩; exact ⟨dx, ch, xa, ya, ki h1 (by intro z; cases z), kt h2, i1 h3, i2 h4⟩
/-! ### fields -/
def kN : List Str := ["children", "depth", "parts", "looks", "choices"]
def Kd.own : Kd → List Str
  | .now => []
  | .shift => ["moment", "amount"]
  | .look => ["stream", "moment", "way", "within"]
  | .either => ["first", "second"]
  | .later => ["first", "second"]
  | .earlier => ["first", "second"]
theorem TermAt.hd {A : CA} {H : Hp} : ∀ {t : Tm} {a : Addr}, TermAt A H t a → ∃ dx ch os, H a = some (.ins (A.cls t.kd) dx (os ++ allF ch t.sz)) ∧ os.map (·.1) = t.kd.own
  | .now, _, ⟨dx, ch, h1, h2⟩ => ⟨dx, ch, [], h1, rfl⟩
  | .shift _ _, _, ⟨dx, ch, ma, h1, h2, h3⟩ => ⟨dx, ch, _, h1, rfl⟩
  | .look _ _ _ _, _, ⟨dx, ch, ma, h1, h2, h3⟩ => ⟨dx, ch, _, h1, rfl⟩
  | .either _ _, _, ⟨dx, ch, xa, ya, h1, h2, h3, h4⟩ => ⟨dx, ch, _, h1, rfl⟩
  | .later _ _, _, ⟨dx, ch, xa, ya, h1, h2, h3, h4⟩ => ⟨dx, ch, _, h1, rfl⟩
  | .earlier _ _, _, ⟨dx, ch, xa, ya, h1, h2, h3, h4⟩ => ⟨dx, ch, _, h1, rfl⟩
theorem f_own {os : List (Str × V)} {ch : Addr} {z : Sz} {k : Str} {v : V} {i : Nat} {ks : List Str} (e : os.map (·.1) = ks) (hi : os[i]? = some (k, v)) (hx : ks.idxOf k = i) : (os ++ allF ch z).lookup k = some v := by
  rw [List.lookup_append, lk_of e hi hx]; rfl
theorem f_all {os : List (Str × V)} {ch : Addr} {z : Sz} {k : Str} {v : V} {i : Nat} {ks : List Str} (e : os.map (·.1) = ks) (hn : k ∉ ks) (hi : (allF ch z)[i]? = some (k, v)) (hx : kN.idxOf k = i) : (os ++ allF ch z).lookup k = some v := by
  rw [List.lookup_append, lk_no e hn, lk_of (ks := kN) rfl hi hx]; rfl
theorem f_no {os : List (Str × V)} {ch : Addr} {z : Sz} {k : Str} {ks : List Str} (e : os.map (·.1) = ks) (hn : k ∉ ks) (hk : k ∉ kN) : (os ++ allF ch z).lookup k = none := by
  rw [List.lookup_append, lk_no e hn, lk_no (ks := kN) rfl hk]; rfl
theorem kd_no {k : Kd} {s : Str} (h : s ∉ (["moment", "amount", "stream", "way", "within", "first", "second"] : List Str)) : s ∉ k.own := by
  intro m
  apply h
  cases k <;> simp [Kd.own] at m ⊢ <;> (try (rcases m with rfl | rfl | rfl | rfl)) <;> (try (rcases m with rfl | rfl)) <;> simp_all
theorem kN_no {k : Kd} {s : Str} (h : s ∈ kN) : s ∉ k.own := by
  have e : ∀ k : Kd, ∀ s ∈ kN, s ∉ k.own := fun k => by cases k <;> decide +kernel
  exact e k s h
theorem TermAt.kid {K : Fg} {A : CA} {H : Hp} {t : Tm} {a : Addr} (x : TermAt A H t a) (c : TCls K (A.cls t.kd)) : Kid K H a t.sz := by
  obtain ⟨dx, ch, os, h, e⟩ := x.hd
  exact ⟨_, dx, _, h, c, f_all e (kN_no (by decide +kernel)) (i := 1) rfl (by decide +kernel), f_all e (kN_no (by decide +kernel)) (i := 2) rfl (by decide +kernel), f_all e (kN_no (by decide +kernel)) (i := 3) rfl (by decide +kernel), f_all e (kN_no (by decide +kernel)) (i := 4) rfl (by decide +kernel)⟩
/-- the facts of a kind of terms -/
structure KTx (K : Fg) (A : CA) (k : Kd) : Prop where
  cl : TCls K (A.cls k)
  isi : Isi K (A.cls k)
  kT : PySem.W.kitOne K (.ref (A.cls k)) (.ref A.T) = some true
  no : ∀ f ∈ k.own, NoAttr K (A.cls k) f
/-- the kinds that the program's text has -/
structure TTx (K : Fg) (mg : Str → Option Value) (A : CA) (ks : Kd → Bool) : Prop where
  at_ : ∀ k, ks k = true → KTx K A k
  kS : ∀ k, ks k = true → PySem.W.kitOne K (.ref (A.cls k)) (.ref (A.cls .shift)) = some (decide (k = .shift))
  gT : mg "Term" = some (.ref A.T)
  n : ks .now = true
  s : ks .shift = true
/-- all kinds are there; names and ways and limits are right; shifts are joined -/
def Good (ks : Kd → Bool) : Tm → Prop
  | .now => ks .now = true
  | .shift m c => ks .shift = true ∧ Good ks m ∧ c ≠ 0 ∧ m.kd ≠ .shift
  | .look z m wy lim => ks .look = true ∧ Good ks m ∧ GName z ∧ wy ∈ ways ∧ ∀ i, lim = some i → 0 ≤ i
  | .either x y => ks .either = true ∧ Good ks x ∧ Good ks y
  | .later x y => ks .later = true ∧ Good ks x ∧ Good ks y
  | .earlier x y => ks .earlier = true ∧ Good ks x ∧ Good ks y
theorem Good.k {ks : Kd → Bool} : ∀ {t : Tm}, Good ks t → ks t.kd = true
  | .now, h => h
  | .shift _ _, h => h.1
  | .look _ _ _ _, h => h.1
  | .either _ _, h => h.1
  | .later _ _, h => h.1
  | .earlier _ _, h => h.1
/-- small enough -/
def Fit (z : Sz) : Prop := z.d ≤ 12 ∧ z.p ≤ 40 ∧ z.l ≤ 12
/-! ### answers -/
def inLim (lim : Option Int) (r m : Int) : Bool := match lim with
  | none => true
  | some i => decide ((if r - m < 0 then -(r - m) else r - m) ≤ i)
def Tm.ans (rs : Rs) : Tm → Int → Option Int
  | .now, n => some n
  | .shift m c, n => (m.ans rs n).map (· + c)
  | .look z m wy lim, n => (m.ans rs n).bind fun x => (lkRow (rowsOf rs z) wy x).bind fun r => if inLim lim r x then some r else none
  | .either a b, n => match a.ans rs n with
    | some r => some r
    | none => b.ans rs n
  | .later a b, n => (a.ans rs n).bind fun x => (b.ans rs n).bind fun y => some (if y > x then y else x)
  | .earlier a b, n => (a.ans rs n).bind fun x => (b.ans rs n).bind fun y => some (if y < x then y else x)
/-! ### shifts -/
def Tm.shd : Tm → Int → Tm
  | .shift m a, c => if c = 0 then .shift m a else if a + c = 0 then m else .shift m (a + c)
  | t, c => if c = 0 then t else .shift t c
theorem Tm.shd_ans {rs : Rs} : ∀ {t : Tm} {c n : Int}, (t.shd c).ans rs n = (t.ans rs n).map (· + c) := by
  intro t c n
  have z : ∀ o : Option Int, o.map (· + (0 : Int)) = o := fun o => by cases o <;> simp
  cases t with
  | shift m a =>
    show (if c = 0 then Tm.shift m a else if a + c = 0 then m else .shift m (a + c)).ans rs n = ((m.ans rs n).map (· + a)).map (· + c)
    rw [Option.map_map]
    by_cases h : c = 0
    · subst h
      rw [if_pos rfl]
      show (m.ans rs n).map (· + a) = _
      congr 1; funext x; simp
    · rw [if_neg h]
      by_cases g : a + c = 0
      · rw [if_pos g]
        cases m.ans rs n with
        | none => rfl
        | some x => simp; omega
      · rw [if_neg g]
        show (m.ans rs n).map (· + (a + c)) = _
        congr 1; funext x; simp; omega
  | now => show (if c = 0 then Tm.now else .shift .now c).ans rs n = _; by_cases h : c = 0 <;> simp [h, Tm.ans]
  | look z' m wy lim => show (if c = 0 then Tm.look z' m wy lim else .shift (.look z' m wy lim) c).ans rs n = _; by_cases h : c = 0 <;> simp [h, Tm.ans]
  | either a b => show (if c = 0 then Tm.either a b else .shift (.either a b) c).ans rs n = _; by_cases h : c = 0 <;> simp [h, Tm.ans]
  | later a b => show (if c = 0 then Tm.later a b else .shift (.later a b) c).ans rs n = _; by_cases h : c = 0 <;> simp [h, Tm.ans]
  | earlier a b => show (if c = 0 then Tm.earlier a b else .shift (.earlier a b) c).ans rs n = _; by_cases h : c = 0 <;> simp [h, Tm.ans]
theorem Good.shd {ks : Kd → Bool} (hs : ks .shift = true) : ∀ {t : Tm} {c : Int}, Good ks t → Good ks (t.shd c) := by
  intro t c g
  cases t with
  | shift m a =>
    show Good ks (if c = 0 then Tm.shift m a else if a + c = 0 then m else .shift m (a + c))
    by_cases h : c = 0
    · rw [if_pos h]; exact g
    · rw [if_neg h]
      by_cases e : a + c = 0
      · rw [if_pos e]; exact g.2.1
      · rw [if_neg e]; exact ⟨hs, g.2.1, e, g.2.2.2⟩
  | now =>
    show Good ks (if c = 0 then Tm.now else .shift (Tm.now) c)
    by_cases h : c = 0
    · rw [if_pos h]; exact g
    · rw [if_neg h]; exact ⟨hs, g, h, by intro z; cases z⟩
  | look z' m wy lim =>
    show Good ks (if c = 0 then Tm.look z' m wy lim else .shift (Tm.look z' m wy lim) c)
    by_cases h : c = 0
    · rw [if_pos h]; exact g
    · rw [if_neg h]; exact ⟨hs, g, h, by intro z; cases z⟩
  | either a b =>
    show Good ks (if c = 0 then Tm.either a b else .shift (Tm.either a b) c)
    by_cases h : c = 0
    · rw [if_pos h]; exact g
    · rw [if_neg h]; exact ⟨hs, g, h, by intro z; cases z⟩
  | later a b =>
    show Good ks (if c = 0 then Tm.later a b else .shift (Tm.later a b) c)
    by_cases h : c = 0
    · rw [if_pos h]; exact g
    · rw [if_neg h]; exact ⟨hs, g, h, by intro z; cases z⟩
  | earlier a b =>
    show Good ks (if c = 0 then Tm.earlier a b else .shift (Tm.earlier a b) c)
    by_cases h : c = 0
    · rw [if_pos h]; exact g
    · rw [if_neg h]; exact ⟨hs, g, h, by intro z; cases z⟩
end Pl

/-! x op y, both of own classes. -/
namespace Pl
open PySem L2 PySem.Spec PyProof.Rows
/-- what an own class says of an operator -/
structure OpO (K : Fg) (C : Addr) (op : Operator) : Prop where
  first : PySem.W.selfFirst K C = true
  hs : ∃ g : Addr, PySem.W.findIn K (.ref C) (PySem.dunder op.info.2) = some (some (.ref g))
  hr : ∃ rc, PySem.W.findIn K (.ref C) (dunderR op.info.2) = some rc ∧ (rc = none ∨ ∃ g : Addr, rc = some (.ref g))
end Pl
namespace PySem.W
open PySem PySem.Calls PyProof.Rows Builtin
theorem ksp_binC {prog : Program} {w : World} {A : Around} {E : Value → Shared → Prop} {s : Shared} {K : Frag} {x C C' L f f' : Addr} {h₀ : Heap} {m : Str → Option Value} {ox : Obj} {od : Option Obj}
    {op : Operator} {b : Value} {rc rc' : Option Value} {Q : Value → Shared → Prop} (F : Fr h₀ L s.heap m) (X₀ : K.In h₀) (I : InstAt s.heap x ox C od) (hb : Looks (model prog w) s.heap (typeOf b) (.ref C')) (hne : C ≠ C') (hc : selfFirst K C = true) (hc' : selfFirst K C' = true)
    (hs : findIn K (.ref C) (PySem.dunder op.info.2) = some (some (.ref f))) (hf : isFn K (.ref f) = true) (hr : findIn K (.ref C) (dunderR op.info.2) = some rc) (hp : rc = none ∨ ∃ g : Addr, rc = some (.ref g))
    (hs' : findIn K (.ref C') (PySem.dunder op.info.2) = some (some (.ref f'))) (hr' : findIn K (.ref C') (dunderR op.info.2) = some rc') (hp' : rc' = none ∨ ∃ g : Addr, rc' = some (.ref g))
    (hsub : subIn K (.ref C') (.ref C) = some false)
    (h : wpAny (model prog w) A (call (.ref f) [.ref x, b]) (CmpBack Q) E s) : wpAny (model prog w) A (binaryOp op (.ref x) b) Q E s := by
  have X := X₀.keeps F.keep
  obtain ⟨cd, rest, hcd, hm⟩ := ksp_first hc
  obtain ⟨cd', rest', hcd', hm'⟩ := ksp_first hc'
  rcases hi : op.info with ⟨sym, nm'⟩
  rw [hi] at hs hr hs' hr'
  dsimp only at hs hr hs' hr'
  have one := ksp_try X I hs hf h
  obtain ⟨hh, g, d, tt, os⟩ := s
  have L1 : Looks (model prog w) hh (typeOf (.ref x)) (.ref C) := I.type
  have L2 : Looks (model prog w) hh (typeOf b) (.ref C') := hb
  have L3 : Looks (model prog w) hh (fillsNumberSlot (.ref C) nm') true := fills_K X hcd hm hs
  have L4 : Looks (model prog w) hh (fillsNumberSlot (.ref C') nm') true := fills_K X hcd' hm' hs'
  have L5 : Looks (model prog w) hh (isSubtype (.ref C') (.ref C)) false := looks_subIn X hsub
  have L6 : Looks (model prog w) hh (numberSlotInPython (.ref C) nm') true := ksp_inPy X hs hr hp
  have L7 : Looks (model prog w) hh (numberSlotInPython (.ref C') nm') true := ksp_inPy X hs' hr' hp'
  have hne : (Value.ref C == Value.ref C') = false := Bool.eq_false_iff.mpr fun q => by
    have e := beq_iff_eq.mp q
    injection e with e
    exact hne e
  simp only [binaryOp, hi]
  refine wpAny_holding (wpAny_bind ?_)
  unfold binaryOp1
  refine wpAny_bind (L1.at (wpAny_bind (L2.at (wpAny_bind (L3.at ?_)))))
  simp only [hne, Bool.false_eq_true, if_false]
  ksp_lk
  refine wpAny_mono one (fun r s' hr' => ?_) fun _ _ e => e
  obtain ⟨v, rfl, hq⟩ := hr'
  ksp_lk
  exact hq
end PySem.W
namespace Pl
open PySem L2 PySem.Spec PyProof.Rows
def rOwnO (S : Addr → Addr → Sp → Prop) (E : XK) : R2 := fun x y H Q => ∃ a C dx fs b C' dy gs sp, x = .ref a ∧ H a = some (.ins C dx fs) ∧ y = .ref b ∧ H b = some (.ins C' dy gs) ∧ S C C' sp ∧ sp [x, y] H Q E
theorem op_ownO {X : Cx} {CX : CXT} {k j : Nat} {S : Addr → Addr → Sp → Prop} {E : XK} {op : Operator} (c : ∀ C C' sp, S C C' sp → CalI X.prog X.w X.K X.mg X.base CX C (PySem.dunder op.info.2) k sp ∧ OpO X.K C op ∧ OpO X.K C' op ∧ (C ≠ C' → PySem.W.subIn X.K (.ref C') (.ref C) = some false)) (hr : Room j X.A) (h : k ≤ j) (hx : Passes CX X E) : OpR X (binaryOp op) (rOwnO S E) := by
  intro pins s σ H x y v u Q I rx ry h
  obtain ⟨a, C, dx, fs, b, C', dy, gs, sp, rfl, ha, rfl, hb', hS, q⟩ := h
  obtain rfl : v = Value.ref a := rx
  obtain rfl : u = Value.ref b := ry
  obtain ⟨⟨f, fd, ps, G, hm, cl, hb⟩, O, O', hsub⟩ := c C C' sp hS
  obtain ⟨mA, J, _⟩ := ins_get I.hok ha
  obtain ⟨od, J, _⟩ := J.look
  obtain ⟨mB, J', _⟩ := ins_get I.hok hb'
  obtain ⟨od', J', _⟩ := J'.look
  obtain ⟨m, hF⟩ := I.fr
  obtain ⟨rc, h3, h4⟩ := O.hr
  obtain ⟨rc', h5, h6⟩ := O'.hr
  obtain ⟨f', h7⟩ := O'.hs
  have run := wpAny_mono (run_fn (us := [.ref a, .ref b]) (vs := [.ref a, .ref b]) G (hr.mono (by omega)) hb .nil hx I (.cons rfl (.cons rfl .nil)) (by rw [List.append_nil]; exact q)) (fun r s' z => back_cmp z) fun _ _ e => e
  by_cases e : C = C'
  · subst e
    exact PySem.W.binop_K hF I.ok.mod.kin J J'.type O.first hm.at_ hm.fn run
  · exact PySem.W.ksp_binC hF I.ok.mod.kin J J'.type e O.first O'.first hm.at_ hm.fn h3 h4 h7 h5 h6 (hsub e) run
end Pl

/-! Pairs of a name and a moment, sorted; the keys of a dict, sorted; the greatest and the least of a list. -/
namespace Pl
open PySem L2 PySem.Spec PyProof.Rows
theorem perm_up {α : Type} {le : α → α → Prop} (anti : ∀ a b, le a b → le b a → a = b) : ∀ {l m : List α}, l.Perm m → l.Pairwise le → m.Pairwise le → l = m
  | [], m, p, _, _ => (List.Perm.nil_eq p)
  | x :: l, [], p, _, _ => absurd p.length_eq (by simp)
  | x :: l, y :: m, p, hl, hm => by
    obtain ⟨h1, h2⟩ := List.pairwise_cons.mp hl
    obtain ⟨g1, g2⟩ := List.pairwise_cons.mp hm
    have e : x = y := by
      rcases List.mem_cons.mp (p.mem_iff.mp List.mem_cons_self) with e | hx
      · exact e
      · rcases List.mem_cons.mp (p.mem_iff.mpr (List.mem_cons_self (a := y) (l := m))) with e | hy
        · exact e.symm
        · exact anti _ _ (h1 _ hy) (g1 _ hx)
    subst e
    rw [perm_up anti (List.Perm.cons_inv p) h2 g2]
/-- a walk over a list within a comprehension, whatever one turn is -/
theorem lc_any {K : Fg} {a : Addr} {xs : List V} {H0 : Hp} {R : Hp → Prop} {B : V → Hp → (Hp → Prop) → Prop} (Pv : Nat → Hp → Prop) (h0 : Pv 0 H0) (hl : ∀ i H, i ≤ xs.length → Pv i H → SqL K H a xs)
    (hs : ∀ i x H, xs[i]? = some x → Pv i H → B x H (Pv (i + 1))) (hd : ∀ H, Pv xs.length H → R H) :
    ∃ W : Nat → Nat → Hp → Prop, (∃ m, W 0 m H0) ∧ ∀ i m H, W i m H → ((Itl K a).stop i H ∧ R H) ∨ ((Itl K a).go i H ∧ ∃ Nx : Hp → Prop, (∀ H', Nx H' → ∃ m', m' < m ∧ W (i + 1) m' H') ∧ ∀ x H', (Itl K a).yld i H x H' → B x H' Nx) := by
  refine ⟨fun i m H => m = xs.length - i ∧ i ≤ xs.length ∧ Pv i H, ⟨xs.length, by simp, Nat.zero_le _, h0⟩, ?_⟩
  rintro i m H ⟨rfl, hi, p⟩
  have q := hl i H hi p
  by_cases hlt : i < xs.length
  · refine .inr ⟨⟨xs, xs[i], q, by simp [hlt]⟩, Pv (i + 1), fun H' p' => ⟨xs.length - (i + 1), by omega, rfl, hlt, p'⟩, fun x H' y => ?_⟩
    obtain ⟨e, y⟩ := y
    subst e
    exact hs i x _ (y xs q) p
  · have e : i = xs.length := by omega
    subst e
    exact .inl ⟨⟨xs, q, Nat.le_refl _⟩, hd H p⟩
def encP (b : Str × Int) : PyData := .tuple [.str b.1, .int b.2]
def prB : Str × Int → Str × Int → Bool := PySem.W.dataLe false encP
def prS (bs : List (Str × Int)) : List (Str × Int) := bs.mergeSort prB
def prLe (a b : Str × Int) : Prop := a.1.cps.toList < b.1.cps.toList ∨ (a.1 = b.1 ∧ a.2 ≤ b.2)
theorem str_ext {x y : Str} (h : x.cps.toList = y.cps.toList) : x = y := by
  cases x; cases y
  congr 1
  exact Array.ext' h
theorem prB_iff {a b : Str × Int} : prB a b = true ↔ prLe a b := by
  show (!PySem.W.dataLt (.tuple [.str b.1, .int b.2]) (.tuple [.str a.1, .int a.2])) = true ↔ _
  rw [PySem.W.dataLt_pair (by simp [PySem.W.alike]) (by simp [PySem.W.alike]), PySem.W.dataLt_int, PySem.W.dataLt_str]
  simp only [PyData.eqv, beq_iff_eq]
  unfold prLe
  by_cases h1 : b.1 = a.1
  · rw [if_pos h1]
    have ir : ¬ a.1.cps.toList < b.1.cps.toList := by rw [h1]; exact List.lt_irrefl _
    by_cases h2 : b.2 = a.2
    · simp [h2, h1]
    · rw [if_neg h2]
      simp only [Bool.not_eq_true', decide_eq_false_iff_not]
      constructor
      · intro z; exact .inr ⟨h1.symm, by omega⟩
      · rintro (z | ⟨_, z⟩)
        · exact absurd z ir
        · omega
  · rw [if_neg h1]
    simp only [Bool.not_eq_true', decide_eq_false_iff_not]
    constructor
    · intro z
      have z : a.1.cps.toList ≤ b.1.cps.toList := List.not_lt.mp z
      rcases List.le_iff_lt_or_eq.mp z with z | z
      · exact .inl z
      · exact absurd (str_ext z).symm h1
    · rintro (z | ⟨z, _⟩)
      · exact List.not_lt.mpr (List.le_of_lt z)
      · exact absurd z.symm h1
theorem prLe_anti (a b : Str × Int) (h : prLe a b) (g : prLe b a) : a = b := by
  rcases h with h | ⟨h1, h2⟩
  · rcases g with g | ⟨g1, g2⟩
    · exact absurd (List.lt_trans h g) (List.lt_irrefl _)
    · rw [g1] at h; exact absurd h (List.lt_irrefl _)
  · rcases g with g | ⟨g1, g2⟩
    · rw [h1] at g; exact absurd g (List.lt_irrefl _)
    · exact Prod.ext h1 (by omega)
theorem prB_total : PySem.W.TotalLe prB where
  trans a b c h1 h2 := by
    rw [prB_iff] at h1 h2 ⊢
    rcases h1 with h1 | ⟨h1, h3⟩
    · rcases h2 with h2 | ⟨h2, h4⟩
      · exact .inl (List.lt_trans h1 h2)
      · exact .inl (by rw [← h2]; exact h1)
    · rcases h2 with h2 | ⟨h2, h4⟩
      · exact .inl (by rw [h1]; exact h2)
      · exact .inr ⟨h1.trans h2, Int.le_trans h3 h4⟩
  total a b := by
    rw [prB_iff, prB_iff]
    unfold prLe
    by_cases h1 : a.1.cps.toList < b.1.cps.toList
    · exact .inl (.inl h1)
    · by_cases h2 : b.1.cps.toList < a.1.cps.toList
      · exact .inr (.inl h2)
      · have e : a.1 = b.1 := str_ext (List.le_antisymm (List.not_lt.mp h2) (List.not_lt.mp h1))
        rcases Int.le_total a.2 b.2 with z | z
        · exact .inl (.inr ⟨e, z⟩)
        · exact .inr (.inr ⟨e.symm, z⟩)
theorem prS_up (bs : List (Str × Int)) : (prS bs).Pairwise prLe := (PySem.W.sort_pairwise prB_total bs).imp fun h => prB_iff.mp h
theorem prS_perm (bs : List (Str × Int)) : (prS bs).Perm bs := List.mergeSort_perm _ _
theorem prS_eq {l bs : List (Str × Int)} (p : l.Perm bs) (h : l.Pairwise prLe) : l = prS bs := perm_up prLe_anti (p.trans (prS_perm bs).symm) h (prS_up bs)
/-- v stands for a name and a moment -/
def PrR (H : Hp) (v : V) (b : Str × Int) : Prop := ∃ t, v = .ref t ∧ H t = some (.tup [.str b.1, .int b.2])
abbrev PrsR (H : Hp) (vs : List V) (bs : List (Str × Int)) : Prop := Paired (PrR H) vs bs
theorem PrsR.mono {H H' : Hp} (h : ∀ t xs, H t = some (.tup xs) → H' t = some (.tup xs)) : ∀ {vs bs}, PrsR H vs bs → PrsR H' vs bs
  | _, _, .nil => .nil
  | _, _, .cons ⟨t, e, g⟩ r => .cons ⟨t, e, h _ _ g⟩ (PrsR.mono h r)
theorem PrsR.length {H : Hp} {vs bs} (r : PrsR H vs bs) : vs.length = bs.length := Paired.length r
theorem PrsR.snoc {H : Hp} {v : V} {b : Str × Int} (g : PrR H v b) : ∀ {vs bs}, PrsR H vs bs → PrsR H (vs ++ [v]) (bs ++ [b])
  | _, _, .nil => .cons g .nil
  | _, _, .cons h r => .cons h (PrsR.snoc g r)
def rSortedN (K : PySem.W.Frag) : List V → Hp → VK → Prop := fun vs H Q => ∃ (a : Addr) (xs : List V) (bs : List (Str × Int)), vs = [V.ref a] ∧ SqL K H a xs ∧ PrsR H xs bs ∧
  ∀ ys p, PrsR H ys (prS bs) → H p = none → Q (.ref p) (upd H p (.lst ys))
theorem each_of {X : Cx} {pins : List (Addr × Obj)} {σ : L2.St} {H : Hp} {s : Shared} (I : Inv X pins σ H s) : ∀ {xs : List V} {us : List Value} {bs : List (Str × Int)}, Vals xs us → PrsR H xs bs → PySem.W.EachIs (fun v b => ∃ t, v = Value.ref t ∧ H t = some (.tup [.str b.1, .int b.2])) us bs
  | _, _, _, .nil, .nil => .nil
  | _, _, _, .cons r rs, .cons ⟨t, e, g⟩ gs => by
    subst e
    cases r
    exact .cons ⟨t, rfl, g⟩ (each_of I rs gs)
theorem each_back {H : Hp} : ∀ {us : List Value} {bs : List (Str × Int)}, PySem.W.EachIs (fun v b => ∃ t, v = Value.ref t ∧ H t = some (.tup [.str b.1, .int b.2])) us bs → PrsR H (us.map backV) bs ∧ ∀ u ∈ us, ∃ a, u = Value.ref a
  | _, _, .nil => ⟨.nil, fun u h => by cases h⟩
  | _, _, .cons ⟨t, e, g⟩ r => by
    subst e
    obtain ⟨h1, h2⟩ := each_back r
    refine ⟨.cons ⟨t, rfl, g⟩ h1, fun u hu => ?_⟩
    rcases List.mem_cons.mp hu with z | z
    · exact ⟨t, z⟩
    · exact h2 u z
theorem cr_sortedN {X : Cx} (hu : X.A.units + 64 < cLine) : CallR X (.builtin "sorted") (rSortedN X.K) := by
  intro pins s σ H vs us Q I r h
  obtain ⟨a, xs, bs, rfl, hs, hp, q⟩ := h
  obtain ⟨its, rv, hl, hz⟩ := I.list hs
  obtain ⟨u, rfl, ru⟩ := vals1 r
  obtain rfl : u = Value.ref a := ru
  have e := each_of I rv hp
  have er : PySem.W.EachIs (fun v b => ∃ as, Reads s.heap v (encP b) as) its bs := e.mono fun v b ⟨t, ev, ht⟩ => by
    subst ev
    obtain ⟨_, its2, r2, o, ho, hc, n, hd⟩ := I.hok _ _ ht
    obtain ⟨u1, u2, rfl, ri, rj⟩ := vals2 r2
    obtain ⟨t1, rfl⟩ := ri
    obtain ⟨t2, rfl⟩ := rj
    exact ⟨_, .tuple ho hc hd (.cons (.str _ _) (.cons (.int _ _) .nil))⟩
  have dp : ∀ b : Str × Int, (encP b).depth ≤ 2 := fun b => by
    show 1 + max 0 (max 0 0) ≤ 2
    decide
  refine PySem.W.sorted_data (enc := encP) hl.isList e er (PySem.W.AllAlike.of fun b b' => by simp [encP, PySem.W.alike, PySem.W.alikeAll]) (PySem.W.Sortable.tuples fun b => ⟨_, _, rfl⟩) (by rw [← hp.length]; exact hz) (fun b _ => by have := dp b; omega) fun out ho eo => ?_
  obtain ⟨ep, he'⟩ := PyProof.Rows.sortedAll_at s.heap its (List.toArray out)
  obtain ⟨b1, b2⟩ := each_back eo
  refine ⟨.ref _, upd H (s.heap.objs.size + 1) (.lst (out.map backV)), I.laid (t' := s.toks) (fun _ _ => PyProof.Rows.sortedAll_old) (Nat.le_succ _) ⟨?_, out, ep, vals_back b2, he'⟩, rfl, q _ _ b1 (I.hok.fresh (Nat.le_succ _))⟩
  rw [List.length_map, ho, ← hp.length]
  exact hz
theorem rising_up : ∀ (p : Str) (l : List Str), risingS p l = true → (p :: l).Pairwise (fun a b => a.cps.toList ≤ b.cps.toList)
  | p, [], _ => List.pairwise_singleton _ _
  | p, x :: r, h => by
    obtain ⟨h1, h2⟩ := Bool.and_eq_true_iff.mp (show (!ltCps x.cps.toList p.cps.toList && risingS x r) = true from h)
    have ih := rising_up x r h2
    have le : p.cps.toList ≤ x.cps.toList := by
      rw [PyProof.Rows.ltCps_eq] at h1
      have : ¬ x.cps.toList < p.cps.toList := by simpa using h1
      exact List.not_lt.mp this
    refine List.pairwise_cons.mpr ⟨fun y hy => ?_, ih⟩
    rcases List.mem_cons.mp hy with z | z
    · subst z; exact le
    · exact List.le_trans le ((List.pairwise_cons.mp ih).1 y z)
theorem sortedS_up {l : List Str} (h : sortedS l = true) : l.Pairwise (fun a b => a.cps.toList ≤ b.cps.toList) := by
  cases l with
  | nil => exact .nil
  | cons x r => exact rising_up x r h
section
variable {X : Cx} {K : Fg} {p pos : Pos} {e : Expr} {es : List Expr} {t : TA}
theorem pc_sortedN (hr : X.A.units + 64 < cLine) (T : Tx X.K X.mg) (ha : PA X (e :: es) t) (hK : X.K = K := by rfl) (hg : Gl X "sorted" := by rfl) (he : starEach (e :: es) X.env = (false, eval e X.env) :: starEach es X.env := by rfl) (hpl : (backTo pos (starEach es X.env)).any (·.1) = false := by rfl) :
    PE X (.Call (.Name "sorted" p) (e :: es) [] pos) (tCB (rSortedN K) t) := by subst hK; exact pe_callB (cr_sortedN hr) hg T.sorted (by decide +kernel) ha (he := he) (hpl := hpl)
theorem pi_listK {tg : Expr} {te : TE} (he : PE X e te) (hK : X.K = K := by rfl) : PI X tg e (iList K te) := by subst hK; exact pi_list he
theorem pc_maxl (hc : X.calm = true) (T : Tx X.K X.mg) (ha : PA X (e :: es) t) (hK : X.K = K := by rfl) (hg : Gl X "max" := by rfl) (he : starEach (e :: es) X.env = (false, eval e X.env) :: starEach es X.env := by rfl) (hpl : (backTo pos (starEach es X.env)).any (·.1) = false := by rfl) :
    PE X (.Call (.Name "max" p) (e :: es) [] pos) (tCB (rMax K) t) := by subst hK; exact pe_callB (cr_max hc) hg T.max (by decide +kernel) ha (he := he) (hpl := hpl)
theorem pc_minl (hc : X.calm = true) (T : Tx X.K X.mg) (ha : PA X (e :: es) t) (hK : X.K = K := by rfl) (hg : Gl X "min" := by rfl) (he : starEach (e :: es) X.env = (false, eval e X.env) :: starEach es X.env := by rfl) (hpl : (backTo pos (starEach es X.env)).any (·.1) = false := by rfl) :
    PE X (.Call (.Name "min" p) (e :: es) [] pos) (tCB (rMin K) t) := by subst hK; exact pe_callB (cr_min hc) hg T.min (by decide +kernel) ha (he := he) (hpl := hpl)
theorem pc_max2 (hc : X.calm = true) (T : Tx X.K X.mg) (ha : PA X (e :: es) t) (hg : Gl X "max" := by rfl) (he : starEach (e :: es) X.env = (false, eval e X.env) :: starEach es X.env := by rfl) (hpl : (backTo pos (starEach es X.env)).any (·.1) = false := by rfl) :
    PE X (.Call (.Name "max" p) (e :: es) [] pos) (tCB (fun xs H Q => ∃ i j, xs = [.int i, .int j] ∧ Q (.int (if j > i then j else i)) H) t) := pe_callB (call_max2 hc) hg T.max (by decide +kernel) ha (he := he) (hpl := hpl)
theorem pc_min2 (hc : X.calm = true) (T : Tx X.K X.mg) (ha : PA X (e :: es) t) (hg : Gl X "min" := by rfl) (he : starEach (e :: es) X.env = (false, eval e X.env) :: starEach es X.env := by rfl) (hpl : (backTo pos (starEach es X.env)).any (·.1) = false := by rfl) :
    PE X (.Call (.Name "min" p) (e :: es) [] pos) (tCB (fun xs H Q => ∃ i j, xs = [.int i, .int j] ∧ Q (.int (if j < i then j else i)) H) t) := pe_callB (call_min2 hc) hg T.min (by decide +kernel) ha (he := he) (hpl := hpl)
theorem pc_sortedD (hc : X.calm = true) (T : Tx X.K X.mg) (ha : PA X (e :: es) t) (hg : Gl X "sorted" := by rfl) (he : starEach (e :: es) X.env = (false, eval e X.env) :: starEach es X.env := by rfl) (hpl : (backTo pos (starEach es X.env)).any (·.1) = false := by rfl) :
    PE X (.Call (.Name "sorted" p) (e :: es) [] pos) (tCB (fun xs H Q => ∃ (a : Addr) (kvs : List (Key × V)) (ks : List Str), xs = [.ref a] ∧ Rd H a (.dK kvs) ∧ kvs.map (·.1) = ks.map Sum.inr ∧ ks.length < 64 ∧
    ∀ ys p, ys.Perm ks → sortedS ys = true → H p = none → Q (.ref p) (upd H p (.lst (ys.map V.str)))) t) := pe_callB (call_sortedD hc) hg T.sorted (by decide +kernel) ha (he := he) (hpl := hpl)
end
end Pl

/-! x in y, len(y), y != z by y's own methods. -/
namespace Pl
open PySem L2 PySem.Spec PyProof.Rows
section
variable {X : Cx} {CX : CXT} {k j : Nat} {S : Addr → Sp → Prop} {E : XK}
/-- an own def called within a built-in -/
theorem run_in1 {pins : List (Addr × Obj)} {σ : L2.St} {H : Hp} {s : Shared} {Q : VK} {us : List Value} {vs : List V} {f : Addr} {fd : FuncData} {ps : List Str} {sp : Sp} (G : FnOk X.prog X.w X.K X.mg X.base CX k f fd ps sp) (hr : Room j X.A) (h : k + 1 ≤ j) (hb : Binds X.K fd ps []) (hx : Passes CX X E)
    (I : Inv X pins σ H s) (r : Vals vs us) (q : sp vs H Q E) : wpAny (model X.prog X.w) X.A.in1 (call (.ref f) us) (EP X pins σ Q) X.xe s := by
  have hl : (us ++ []).length = ps.length := by
    rw [List.append_nil, ← r.length]; exact G.len _ _ _ _ q
  have hbt := hb s us I.kIn hl
  rw [List.append_nil] at hbt
  refine wpAny_call (codeAny_mono (G.run X.A.in1 X.stack s H ⟨us, []⟩ us vs Q E ((hr.mono h).in1) I.env0.in1 hbt r q) fun r s' hq => ?_)
  cases r with
  | error e => exact hx pins σ H s e s' I hq
  | ok fl =>
    cases fl with
    | ret u => exact I.after hq
    | next => exact False.elim hq
    | brk => exact False.elim hq
    | cont => exact False.elim hq
def rOwnIn (n : Bool) (S : Addr → Sp → Prop) (E : XK) : R2 := fun x y H Q => ∃ a C dx fs sp, y = .ref a ∧ H a = some (.ins C dx fs) ∧ S C sp ∧ sp [y, x] H (fun r H' => ∃ b, r = .bl b ∧ Q (.bl (if n then !b else b)) H') E
theorem own_in {pins : List (Addr × Obj)} {s : Shared} {σ : L2.St} {H : Hp} {x y : V} {v u : Value} {Q : VK} {n : Bool} (c : ∀ C sp, S C sp → CalI X.prog X.w X.K X.mg X.base CX C "__contains__" k sp) (hr : Room j X.A) (h : k ≤ j) (hx : Passes CX X E) (I : Inv X pins σ H s) (rx : RelV x v) (ry : RelV y u) (h : rOwnIn n S E x y H Q) :
    wpAny (model X.prog X.w) X.A (compareOp (if n then .NotIn else .In) v u) (EP X pins σ Q) X.xe s := by
  obtain ⟨a, C, dx, fs, sp, rfl, ha, hS, q⟩ := h
  obtain rfl : u = Value.ref a := ry
  obtain ⟨f, fd, ps, G, hm, cl, hb⟩ := c C sp hS
  obtain ⟨mA, J, _⟩ := ins_get I.hok ha
  obtain ⟨od, J, _⟩ := J.look
  obtain ⟨m, hF⟩ := I.fr
  have run := run_fn (us := [.ref a, v]) (vs := [.ref a, x]) G (hr.mono (by omega)) hb .nil hx I (.cons rfl (.cons rx .nil)) (by rw [List.append_nil]; exact q)
  cases n with
  | false =>
    refine PySem.W.in_K hF I.ok.mod.kin J hm.at_ hm.fn (wpAny_mono run (fun r s' z => ?_) fun _ _ e => e)
    obtain ⟨y, H1, I1, r1, b, rfl, q1⟩ := z
    obtain rfl : r = .bool b := r1
    exact wpAny_truthy_bool ⟨.bl b, H1, I1, rfl, q1⟩
  | true =>
    refine PySem.W.notIn_K hF I.ok.mod.kin J hm.at_ hm.fn (wpAny_mono run (fun r s' z => ?_) fun _ _ e => e)
    obtain ⟨y, H1, I1, r1, b, rfl, q1⟩ := z
    obtain rfl : r = .bool b := r1
    exact wpAny_truthy_bool ⟨.bl (!b), H1, I1, rfl, q1⟩
theorem op_ownIn (c : ∀ C sp, S C sp → CalI X.prog X.w X.K X.mg X.base CX C "__contains__" k sp) (hr : Room j X.A) (h : k ≤ j) (hx : Passes CX X E) : OpR X (compareOp .In) (rOwnIn false S E) := fun pins s σ H x y v u Q I rx ry q => own_in (n := false) c hr h hx I rx ry q
theorem op_ownNotIn (c : ∀ C sp, S C sp → CalI X.prog X.w X.K X.mg X.base CX C "__contains__" k sp) (hr : Room j X.A) (h : k ≤ j) (hx : Passes CX X E) : OpR X (compareOp .NotIn) (rOwnIn true S E) := fun pins s σ H x y v u Q I rx ry q => own_in (n := true) c hr h hx I rx ry q
/-! ### len(x) -/
def rOwnLen (S : Addr → Sp → Prop) (E : XK) : List V → Hp → VK → Prop := fun vs H Q => ∃ a C dx fs sp, vs = [.ref a] ∧ H a = some (.ins C dx fs) ∧ S C sp ∧ sp [.ref a] H (fun r H' => ∃ n, r = .int n ∧ 0 ≤ n ∧ n < 2 ^ 63 ∧ Q (.int n) H') E
theorem call_ownLen (c : ∀ C sp, S C sp → CalI X.prog X.w X.K X.mg X.base CX C "__len__" k sp) (hr : Room j X.A) (h : k + 1 ≤ j) (hx : Passes CX X E) : CallR X (.builtin "len") (rOwnLen S E) := by
  intro pins s σ H xs us Q I r q
  obtain ⟨a, C, dx, fs, sp, rfl, ha, hS, q⟩ := q
  obtain ⟨u, rfl, ru⟩ := vals1 r
  obtain rfl : u = Value.ref a := ru
  obtain ⟨f, fd, ps, G, hm, cl, hb⟩ := c C sp hS
  obtain ⟨mA, J, _⟩ := ins_get I.hok ha
  obtain ⟨od, J, _⟩ := J.look
  obtain ⟨m, hF⟩ := I.fr
  refine PySem.W.len_K hF I.ok.mod.kin J hm.at_ hm.fn (wpAny_mono (run_in1 (us := [.ref a]) (vs := [.ref a]) G hr h hb hx I (.cons rfl .nil) q) (fun r s' z => ?_) fun _ _ e => e)
  obtain ⟨y, H1, I1, r1, n, rfl, n0, n1, q1⟩ := z
  obtain ⟨t, rfl⟩ := r1
  exact ⟨⟨n0, n1⟩, .int n, H1, I1.tok _, ⟨_, rfl⟩, q1⟩
theorem pc_ownLen {p pos : Pos} {e : Expr} {es : List Expr} {t : TA} (c : ∀ C sp, S C sp → CalI X.prog X.w X.K X.mg X.base CX C "__len__" k sp) (hr : Room j X.A) (h : k + 1 ≤ j) (hx : Passes CX X E) (T : Tx X.K X.mg) (ha : PA X (e :: es) t) (hg : Gl X "len" := by rfl) (he : starEach (e :: es) X.env = (false, eval e X.env) :: starEach es X.env := by rfl) (hpl : (backTo pos (starEach es X.env)).any (·.1) = false := by rfl) :
    PE X (.Call (.Name "len" p) (e :: es) [] pos) (tCB (rOwnLen S E) t) := pe_callB (call_ownLen c hr h hx) hg T.len (by decide +kernel) ha (he := he) (hpl := hpl)
end
/-! ### x != y by x's own == -/
section
open PySem.W PySem.Calls
variable {prog : Program} {w : World} {A : Around} {E : Value → Shared → Prop} {s : Shared} {K : Frag} {x C L f : Addr} {h₀ : Heap} {m : Str → Option Value} {ox : Obj} {od : Option Obj} {b tb : Value}
theorem ne_K {Q : Value → Shared → Prop} (hu : A.units + 1 < cLine) (Fh : Fr h₀ L s.heap m) (X₀ : K.In h₀) (I : InstAt s.heap x ox C od) (hb : Looks (model prog w) s.heap (typeOf b) tb) (hn : notFirst K C tb = true)
    (hs : findIn K (.ref C) "__ne__" = some (some (.builtin "object.__ne__"))) (hm : mroIn K C (.type "object") = some true) (he : findIn K (.ref C) "__eq__" = some (some (.ref f))) (hf : isFn K (.ref f) = true)
    (h : wpAny (model prog w) A.in1 (call (.ref f) [.ref x, b]) (fun r s' => ∃ v, r = .bool v ∧ Q (.bool (!v)) s') E s) : wpAny (model prog w) A (richCompare .NotEq (.ref x) b) Q E s := by
  have X := X₀.keeps Fh.keep
  have ent : ∀ R : Fin → Shared → Prop, (∀ v s', Q (.bool (!v)) s' → R (.done (.ret (.bool (!v)))) s') → wpAny (model prog w) A.in1 (Builtin.«object.__ne__» ⟨[.ref x, b], []⟩) R E s := fun R hR => by
    unfold Builtin.«object.__ne__»
    refine wpAny_bind (m := slotArgs "__ne__" 1 _) (wpAny_pure ?_)
    refine wpAny_bind (wpAny_cRoomFor (by show A.units + 1 < cLine; exact hu) ?_)
    refine wpAny_bind (m := callSpecialIfBound? (.ref x) (Str.ofString "__eq__") [b]) (ifBound_K X I he hf (wpAny_mono h (fun r s' hr => ?_) fun _ _ e => e))
    obtain ⟨v, rfl, hq⟩ := hr
    exact wpAny_bind (wpAny_truthy_bool (wpAny_pure (hR v s' hq)))
  have one : wpAny (model prog w) A (tryCompare (.ref x) (cmpInfo .NotEq).2.1 b) (fun r s' => ∃ v, r = some v ∧ Q v s') E s := by
    unfold tryCompare
    refine wpAny_bind ?_
    show wpAny _ _ (callSpecialIfBound? (.ref x) "__ne__" [b]) _ _ _
    simp only [callSpecialIfBound?, bindSpecialIfBound?]
    refine wpAny_holding (wpAny_bind (wpAny_bind (wpAny_bind (I.type.here ((looks_findIn X hs).here ?_)))))
    refine wpAny_bind (wpAny_askSetting (wpAny_ite ?_))
    have sl : Looks (model prog w) s.heap (isInstance (.ref x) (.type "object")) true := I.type.andThen (looks_mroIn X hm)
    have fin : wpAny (model prog w) A (call (.builtin "object.__ne__") ([.ref x] ++ [b]) >>= fun v => pure (some v)) (fun r s' => wpAny (model prog w) A (match r with
      | some .notImplemented => pure none
      | none => pure none
      | some v => pure (some v)) (fun r s' => ∃ v, r = some v ∧ Q v s') E s') E s := by
      refine wpAny_bind (wpAny_call (codeAny_call_builtin PySem.F.cmp_object.ne.plain PySem.F.cmpEntry_ne (@check_slot (model prog w) _ _ _ "object.__ne__" "object" "__ne__" (.ref x) [b] [] _ PySem.F.cmpKind_ne PySem.F.cmpSplit_ne sl (PySem.F.cmpArgs_ne _ _) ?_)))
      exact ent _ fun v s' hq => wpAny_pure (wpAny_pure ⟨_, rfl, hq⟩)
    split
    · exact wpAny_bind ((Looks.of_pure (PySem.F.cmp_object.ne.bind (.ref x))).here (wpAny_pure (by exact fin)))
    · exact wpAny_tryCatch (wpAny_bind ((Looks.of_pure (PySem.F.cmp_object.ne.bind (.ref x))).here (wpAny_pure (by exact fin))))
  unfold richCompare
  simp only [oneThing_ref]
  refine wpAny_holding (wpAny_bind (wpAny_cRoomFor (by omega) ?_))
  refine wpAny_bind (I.type.here (wpAny_bind (hb.here ?_)))
  split
  · rename_i q
    have e : subIn K tb (.ref C) = some false := by
      rcases Bool.or_eq_true_iff.mp hn with e | e
      · rw [beq_iff_eq.mp e] at q; simp at q
      · exact beq_iff_eq.mp e
    refine wpAny_bind ((looks_subIn X e).here ?_)
    simp only [Bool.false_eq_true, if_false]
    refine wpAny_bind (wpAny_mono one (fun r s' z => ?_) fun _ _ e => e)
    obtain ⟨v, rfl, hq⟩ := z
    exact wpAny_pure hq
  · refine wpAny_bind (wpAny_pure ?_)
    simp only [Bool.false_eq_true, if_false]
    refine wpAny_bind (wpAny_mono one (fun r s' z => ?_) fun _ _ e => e)
    obtain ⟨v, rfl, hq⟩ := z
    exact wpAny_pure hq
end
end Pl

/-! dicts of lists of ints, compared; x != y. -/
namespace Pl
open PySem L2 PySem.Spec PyProof.Rows
/-- a list of ints to be read -/
theorem reads_lst {P : Program} {w : World} {H : Hp} {h : Heap} (hok : HOk P w H h) {a : Addr} {l : List Int} (e : H a = some (.lst (l.map V.int))) : ∃ as, Reads h (.ref a) (.list (l.map PyData.int)) as := by
  obtain ⟨_, its, n, rv, ho⟩ := hok a _ e
  obtain ⟨as, ra⟩ := reads_ints rv
  exact ⟨_, .list ho rfl rfl ra⟩
theorem can_all : ∀ l : List Int, PyData.canLayAll0 (l.map PyData.int) = true
  | [] => rfl
  | x :: l => by show (true && PyData.canLayAll0 (l.map PyData.int)) = true; rw [can_all l]; rfl
theorem can_ints (l : List Int) : (PyData.list (l.map PyData.int)).canLay0 = true := can_all l
theorem eqv_all : ∀ l m : List Int, PyData.eqvAll (l.map PyData.int) (m.map PyData.int) = decide (l = m)
  | [], [] => by simp [PyData.eqvAll]
  | [], _ :: _ => by simp [PyData.eqvAll]
  | _ :: _, [] => by simp [PyData.eqvAll]
  | x :: l, y :: m => by
    have ih := eqv_all l m
    simp only [List.map_cons, PyData.eqvAll, ih, PyData.eqv]
    by_cases h1 : x = y <;> by_cases h2 : l = m <;> simp [h1, h2]
theorem eqv_ints (l m : List Int) : PyData.eqv (.list (l.map PyData.int)) (.list (m.map PyData.int)) = decide (l = m) := by
  rw [← eqv_all l m]; simp [PyData.eqv]
/-- the same rows -/
def eqRs (rs rs' : Rs) : Bool := rs.length == rs'.length && rs.all fun r => decide (rs'.lookup r.1 = some r.2)
theorem hits_rows {P : Program} {w : World} {A : Around} {s : Shared} {H : Hp} {N N' : Addr → Prop} {ls : List (Key × V)} {vb : List (Key × Value)} {rs' : Rs} (hok : HOk P w H s.heap) (hu : A.units + 3 < cLine) (rb : KV ls vb) (hb : Rows N' H ls rs') (nd' : (rs'.map (·.1)).Nodup) :
    ∀ {ks : List (Key × V)} {va : List (Key × Value)} {rs : Rs}, KV ks va → Rows N H ks rs → PySem.W.KeqHitsIn P w A s vb va (rs.all fun r => decide (rs'.lookup r.1 = some r.2))
  | _, _, _, .nil, .nil => .nil
  | (p1, p2) :: ks, (q1, q2) :: va, (n, l) :: rs, .cons h t, .cons g r => by
    obtain ⟨h1, h2⟩ := h
    obtain ⟨g1, a, _, g2, g3⟩ := g
    have h1 : p1 = q1 := h1
    have g1 : p1 = Sum.inr n := g1
    have g2 : p2 = .ref a := g2
    subst h1 g1 g2
    obtain rfl : q2 = Value.ref a := h2
    have ih := hits_rows (N := N) hok hu rb hb nd' t r
    have rv := rb.val (Sum.inr n)
    by_cases hn : n ∈ rs'.map (·.1)
    · obtain ⟨r', hr', er⟩ := List.mem_map.mp hn
      obtain ⟨i, hi⟩ := List.mem_iff_getElem?.mp hr'
      have hi' : rs'[i]? = some (n, r'.2) := by rw [hi, ← er]
      obtain ⟨a', v1, _, v2, _⟩ := hb.val nd' hi'
      rw [v1] at rv
      obtain ⟨y, hy, ry⟩ := rv.some_of
      obtain rfl : y = Value.ref a' := ry
      obtain ⟨as, ra⟩ := reads_lst hok g3
      obtain ⟨bs, rb'⟩ := reads_lst hok v2
      have d1 : (PyData.list (l.map PyData.int)).depth ≤ 2 := by simp only [PyData.depth]; have := depth_ints (ns := l); omega
      have e := SeqAt.eqAt_reads _ _ A s _ _ as bs ra rb' (can_ints l) (can_ints r'.2) (Nat.lt_of_le_of_lt (Nat.add_le_add_left (Nat.le_trans (Nat.min_le_left _ _) d1) _) (by omega))
      have lk : rs'.lookup n = some r'.2 := look_at nd' hi'
      have eb : decide (rs'.lookup n = some l) = PyData.eqv (.list (l.map PyData.int)) (.list (r'.2.map PyData.int)) := by
        rw [eqv_ints, lk]
        by_cases h : l = r'.2
        · simp [h]
        · have h' : ¬ r'.2 = l := fun z => h z.symm
          simp [h, h']
      rw [List.all_cons]
      show PySem.W.KeqHitsIn P w A s vb _ (decide (rs'.lookup n = some l) && _)
      rw [eb]
      exact .hit hy (e.inModel P w) ih
    · have v0 := hb.none hn
      rw [v0] at rv
      have hv : valueAt vb (Sum.inr n) = none := by
        cases e : valueAt vb (Sum.inr n) with
        | none => rfl
        | some y => rw [e] at rv; exact rv.elim
      rw [List.all_cons]
      have lk : rs'.lookup n = none := look_no hn
      show PySem.W.KeqHitsIn P w A s vb _ (decide (rs'.lookup n = some l) && _)
      rw [lk]
      exact .miss hv
section
variable {X : Cx}
def rEqRs : R2 := fun x y H Q => ∃ a b ks ls rs rs' N N', x = .ref a ∧ y = .ref b ∧ H a = some (.dK ks) ∧ H b = some (.dK ls) ∧ Rows N H ks rs ∧ Rows N' H ls rs' ∧ (rs'.map (·.1)).Nodup ∧ Q (.bl (eqRs rs rs')) H
theorem op_eqRs (hu : X.A.units + 64 < cLine) : OpR X (compareOp .Eq) rEqRs := by
  intro pins s σ H x y v u Q I rx ry h
  obtain ⟨a, b, ks, ls, rs, rs', N, N', rfl, rfl, ea, eb, ra', rb', nd, q⟩ := h
  obtain rfl : v = Value.ref a := rx
  obtain rfl : u = Value.ref b := ry
  obtain ⟨_, ya, va, ra, da⟩ := (show ObjOk X.prog X.w H s.heap a (.dK ks) from I.hok a _ ea)
  obtain ⟨_, yb, vb, rb, db⟩ := (show ObjOk X.prog X.w H s.heap b (.dK ls) from I.hok b _ eb)
  have hu1 : X.A.in1.units + 3 < cLine := by show X.A.units + 1 + 3 < cLine; omega
  have hl : va.length = rs.length := by rw [← ra.length]; exact ra'.length
  have hl' : vb.length = rs'.length := by rw [← rb.length]; exact rb'.length
  refine PySem.W.keq_eqIn (knd := mixKind X.prog X.w) ya yb da db (by omega) (fun _ => hits_rows I.hok hu1 rb rb' nd ra ra') (fin_bl I q ?_)
  unfold eqRs
  rw [hl, hl']
/-! ### x != y -/
structure NeO (K : Fg) (C : Addr) : Prop where
  ne : PySem.W.findIn K (.ref C) "__ne__" = some (some (.builtin "object.__ne__"))
  top : PySem.W.mroIn K C (.type "object") = some true
variable {CX : CXT} {k j : Nat} {S : Addr → Addr → Sp → Prop} {E : XK}
def rOwnNe (S : Addr → Addr → Sp → Prop) (E : XK) : R2 := fun x y H Q => ∃ a C dx fs b C' dy gs sp, x = .ref a ∧ H a = some (.ins C dx fs) ∧ y = .ref b ∧ H b = some (.ins C' dy gs) ∧ S C C' sp ∧ sp [x, y] H (fun r H' => ∃ z, r = .bl z ∧ Q (.bl (!z)) H') E
theorem op_ownNe (c : ∀ C C' sp, S C C' sp → CalI X.prog X.w X.K X.mg X.base CX C "__eq__" k sp ∧ PySem.W.notFirst X.K C (.ref C') = true ∧ NeO X.K C) (hr : Room j X.A) (h : k + 1 ≤ j) (hx : Passes CX X E) : OpR X (compareOp .NotEq) (rOwnNe S E) := by
  intro pins s σ H x y v u Q I rx ry h0
  obtain ⟨a, C, dx, fs, b, C', dy, gs, sp, rfl, ha, rfl, hb', hS, q⟩ := h0
  obtain rfl : v = Value.ref a := rx
  obtain rfl : u = Value.ref b := ry
  obtain ⟨⟨f, fd, ps, G, hm, cl, hb⟩, O, ne⟩ := c C C' sp hS
  obtain ⟨mA, J, _⟩ := ins_get I.hok ha
  obtain ⟨od, J, _⟩ := J.look
  obtain ⟨mB, J', _⟩ := ins_get I.hok hb'
  obtain ⟨od', J', _⟩ := J'.look
  obtain ⟨m, hF⟩ := I.fr
  show wpAny (model X.prog X.w) X.A (richCompare .NotEq (.ref a) (.ref b)) (EP X pins σ Q) X.xe s
  refine ne_K (hu_of hr) hF I.ok.mod.kin J J'.type O ne.ne ne.top hm.at_ hm.fn ?_
  refine wpAny_mono (run_in1 (us := [.ref a, .ref b]) (vs := [.ref a, .ref b]) G hr h hb hx I (.cons rfl (.cons rfl .nil)) q) (fun r s' z => ?_) fun _ _ e => e
  obtain ⟨y, H1, I1, r1, z, rfl, q1⟩ := z
  exact ⟨z, r1, .bl (!z), H1, I1, rfl, q1⟩
end
end Pl

namespace Pl
open PySem L2 PySem.Spec PyProof.Rows
/-- sorted of a list of ints, of any length -/
def rSortedA (K : PySem.W.Frag) : List V → Hp → VK → Prop := fun vs H Q => ∃ (a : Addr) (ns : List Int), vs = [V.ref a] ∧ SqL K H a (ns.map V.int) ∧ ns.length ≤ 100000 ∧
  ∀ (ns' : List Int) (p : Addr), ns'.Perm ns → ns'.Pairwise (· ≤ ·) → H p = none → Q (.ref p) (upd H p (.lst (ns'.map V.int)))
theorem cr_sortedA {X : Cx} : CallR X (.builtin "sorted") (rSortedA X.K) := by
  intro pins s σ H vs us Q I r h
  obtain ⟨a, ns, rfl, hs, hm, q⟩ := h
  obtain ⟨its, rv, hl, _⟩ := I.list hs
  rw [Vals.ref1 r]
  have hi := rv.ints
  have big : (100000 : Nat) ≤ sizeLine := by decide
  refine PyProof.Rows.sorted_intsAny hl.isList hi (by rw [hi.length]; omega) fun out ns' h1 h2 h3 => ?_
  obtain ⟨ep, he'⟩ := PyProof.Rows.sortedAll_at s.heap its out
  have hlen : (ns'.map V.int).length ≤ sizeLine := by rw [List.length_map, h2.length_eq]; omega
  exact ⟨.ref _, upd H (s.heap.objs.size + 1) (.lst (ns'.map V.int)), I.laid (t' := s.toks) (fun _ _ => PyProof.Rows.sortedAll_old) (Nat.le_succ _) ⟨hlen, out.toList, ep, vals_of_ints h1, he'⟩, rfl, q ns' _ h2 h3 (I.hok.fresh (Nat.le_succ _))⟩
theorem pc_sortedA {X : Cx} {K : Fg} {p pos : Pos} {e : Expr} {es : List Expr} {t : TA} (T : Tx X.K X.mg) (ha : PA X (e :: es) t) (hK : X.K = K := by rfl) (hg : Gl X "sorted" := by rfl) (he : starEach (e :: es) X.env = (false, eval e X.env) :: starEach es X.env := by rfl) (hpl : (backTo pos (starEach es X.env)).any (·.1) = false := by rfl) :
    PE X (.Call (.Name "sorted" p) (e :: es) [] pos) (tCB (rSortedA K) t) := by subst hK; exact pe_callB cr_sortedA hg T.sorted (by decide +kernel) ha (he := he) (hpl := hpl)
end Pl

namespace Pl
open PySem L2 PySem.Spec PyProof.Rows
/-- [g(x) for x in a], ints -/
theorem lc_mapI {K : Fg} {σ : L2.St} {H : Hp} {Qd : Hp → Prop} {g : Int → Int} {j : Nat} {a D : Addr} {l : List Int} {te : L2.St → Hp → (V → Hp → Prop) → Prop} (hD : H D = none) (hs : SqL K H a (l.map V.int)) (hz : l.length ≤ 100000)
    (hp : ∀ x ∈ l, ∀ (H' : Hp) (R : V → Hp → Prop), Same H H' → R (.int (g x)) H' → te ((wipe σ [j]).set j (some (.int x))) H' R)
    (q : ∀ H', Same H H' → H' D = some (.lst ((l.map g).map V.int)) → Qd H') (hw3 : ∀ x, wipe ((wipe σ [j]).set j (some x)) [j] = wipe σ [j]) :
    ∃ W : Nat → Nat → Hp → Prop, (∃ m, W 0 m (upd H D (.lst []))) ∧ ∀ i m H, W i m H →
      ((Itl K a).stop i H ∧ Qd H) ∨ ((Itl K a).go i H ∧ ∃ Nx : Hp → Prop, (∀ H', Nx H' → ∃ m', m' < m ∧ W (i + 1) m' H') ∧ ∀ x H', (Itl K a).yld i H x H' → gName j x (wipe σ [j]) H' fun σ2 H2 => wipe σ2 [j] = wipe σ [j] ∧ tYes σ2 H2 fun b H3 =>
        if b = true then te σ2 H3 fun y H4 => ∃ acc, H4 D = some (.lst acc) ∧ acc.length < sizeLine ∧ Nx (upd H4 D (.lst (acc ++ [y]))) else Nx H3) := by
  refine lc_list (K := K) (a := a) (xs := l.map V.int) (fun n H' => Same H H' ∧ H' D = some (.lst (((l.take n).map g).map V.int))) ⟨(Same.refl H).new hD, upd_same⟩ (fun n H' _ p => ?_) ?_ ?_
  · rcases hs with (h | ⟨o, h⟩) | h
    · exact .inl (.inl (p.1 _ _ h))
    · exact .inl (.inr ⟨o, p.1 _ _ h⟩)
    · exact .inr h
  · rintro n x H' hx ⟨s1, s2⟩
    obtain ⟨z, hz', rfl⟩ : ∃ z, l[n]? = some z ∧ x = V.int z := by
      rw [List.getElem?_map] at hx
      cases e : l[n]? with
      | none => rw [e] at hx; cases hx
      | some z => rw [e] at hx; exact ⟨z, rfl, (Option.some.inj hx).symm⟩
    have il : n < l.length := (List.getElem?_eq_some_iff.mp hz').1
    refine ⟨hw3 _, ?_⟩
    refine hp z (List.mem_of_getElem? hz') H' _ s1 ?_
    refine ⟨_, s2, ?_, s1.chg hD, ?_⟩
    · rw [List.length_map, List.length_map, List.length_take]
      have : 100000 < sizeLine := by decide
      omega
    · rw [upd_same, List.take_add_one, hz', List.map_append, List.map_append]; rfl
  · rintro H' ⟨s1, s2⟩
    rw [List.length_map, List.take_length] at s2
    exact q H' s1 s2
theorem valV_ix : ∀ {kvs : List (Key × V)} {i : Nat} {k : Key} {v : V}, (kvs.map (·.1)).Nodup → kvs[i]? = Option.some (k, v) → valV kvs k = Option.some v
  | [], i, k, v, _, h => by simp at h
  | (k', v') :: r, 0, k, v, _, h => by
    simp at h
    obtain ⟨rfl, rfl⟩ := h
    exact valV_pos rfl
  | (k', v') :: r, i + 1, k, v, nd, h => by
    obtain ⟨n1, n2⟩ := List.nodup_cons.mp nd
    have h : r[i]? = Option.some (k, v) := by simpa using h
    have hne : ¬ (k', v').1 = k := fun z => n1 (by
      have z : k' = k := z
      rw [z]; exact List.mem_map.mpr ⟨_, List.mem_of_getElem? h, rfl⟩)
    exact (valV_neg hne).trans (valV_ix n2 h)
end Pl

namespace Pl
open PySem L2 PySem.Spec
/-! stretches: their mathematics (no heap) -/
inductive Fm where
  | no | row (k : Int) | sh (k : Int)
deriving DecidableEq
def Fm.at : Fm → Int → Option Int
  | .no, _ => none
  | .row k, _ => some k
  | .sh k, n => some (k + n)
theorem Fm.two {a b : Fm} {n m : Int} (h1 : a.at n = b.at n) (h2 : a.at m = b.at m) (ne : n ≠ m) : a = b := by
  cases a <;> cases b <;> simp [Fm.at] at h1 h2 ⊢ <;> omega
theorem Fm.same_word {a b : Fm} {n : Int} (h : a.at n = b.at n) : (a = .no ↔ b = .no) := by
  cases a <;> cases b <;> simp [Fm.at] at h ⊢
abbrev SgG (α : Type) := Option Int × Option Int × α
abbrev Sg := SgG Fm
def inS (f l : Option Int) (n : Int) : Prop := (∀ a, f = some a → a ≤ n) ∧ ∀ b, l = some b → n ≤ b
def neS (f l : Option Int) : Prop := ∀ a b, f = some a → l = some b → a ≤ b
theorem inS_ne {f l : Option Int} {n : Int} (h : inS f l n) : neS f l := fun a b h1 h2 => Int.le_trans (h.1 a h1) (h.2 b h2)
def laterB : Option Int → Option Int → Option Int
  | none, o => o
  | some a, none => some a
  | some a, some b => some (if b > a then b else a)
def soonE : Option Int → Option Int → Option Int
  | none, o => o
  | some a, none => some a
  | some a, some b => some (if b < a then b else a)
theorem laterB_le {a b : Option Int} {n : Int} : (∀ x, laterB a b = some x → x ≤ n) ↔ (∀ x, a = some x → x ≤ n) ∧ ∀ x, b = some x → x ≤ n := by
  cases a <;> cases b <;> simp [laterB] <;> split <;> omega
theorem soonE_le {a b : Option Int} {n : Int} : (∀ x, soonE a b = some x → n ≤ x) ↔ (∀ x, a = some x → n ≤ x) ∧ ∀ x, b = some x → n ≤ x := by
  cases a <;> cases b <;> simp [soonE] <;> split <;> omega
theorem inS_clip {f l b e : Option Int} {n : Int} : inS (laterB f b) (soonE l e) n ↔ inS f l n ∧ inS b e n := by
  unfold inS
  rw [laterB_le, soonE_le]
  exact ⟨fun ⟨⟨a, b⟩, c, d⟩ => ⟨⟨a, c⟩, b, d⟩, fun ⟨⟨a, c⟩, b, d⟩ => ⟨⟨a, b⟩, c, d⟩⟩
/-- begins with b and ends with e, and nothing lies between: no moment -/
theorem no_inS {b e : Int} (h : e < b) {n : Int} : ¬ inS (some b) (some e) n := fun z => by
  have := z.1 b rfl
  have := z.2 e rfl
  omega
theorem inS_lo {f l : Option Int} {a : Int} (e : f = some a) (h : neS f l) : inS f l a := ⟨fun x hx => by rw [e] at hx; cases hx; exact Int.le_refl _, fun b hb => h a b e hb⟩
/-! ### covers: from f on up to ahead of b -/
inductive Cv {α β : Type} (ev : α → Int → β) (v : Int → β) (f : Option Int) : List (SgG α) → Option Int → Prop
  | nil : Cv ev v f [] f
  | snoc {ss : List (SgG α)} {b : Option Int} {m : Int} {fm : α} : Cv ev v f ss b → neS b (some m) → (∀ n, inS b (some m) n → ev fm n = v n) → Cv ev v f (ss ++ [(b, some m, fm)]) (some (m + 1))
section
variable {α β : Type} {ev : α → Int → β}
theorem Cv.last {v : Int → β} {f b : Option Int} {ss : List (SgG α)} {s : SgG α} (c : Cv ev v f (ss ++ [s]) b) : ∃ b0 m fm, s = (b0, some m, fm) ∧ b = some (m + 1) ∧ Cv ev v f ss b0 ∧ neS b0 (some m) ∧ ∀ n, inS b0 (some m) n → ev fm n = v n := by
  generalize e : ss ++ [s] = ts at c
  cases c with
  | nil => simp at e
  | @snoc ss' b' m fm c1 h1 h2 =>
    obtain ⟨e1, e2⟩ := List.append_inj' e rfl
    subst e1
    injection e2 with e2 _
    exact ⟨b', m, fm, e2, rfl, c1, h1, h2⟩
theorem Cv.app {v : Int → β} {f b c : Option Int} {ss ts : List (SgG α)} (h : Cv ev v f ss b) (g : Cv ev v b ts c) : Cv ev v f (ss ++ ts) c := by
  induction g with
  | nil => rw [List.append_nil]; exact h
  | snoc _ h1 h2 ih => rw [← List.append_assoc]; exact .snoc ih h1 h2
/-- the begin never goes back -/
theorem Cv.mono {v : Int → β} {f b : Option Int} {ss : List (SgG α)} (c : Cv ev v f ss b) : ∀ a, f = some a → ∃ x, b = some x ∧ a ≤ x := by
  induction c with
  | nil => exact fun a h => ⟨a, h, Int.le_refl _⟩
  | @snoc ss b m fm _ h1 _ ih =>
    intro a ha
    obtain ⟨x, hx, hl⟩ := ih a ha
    have := h1 x m hx rfl
    exact ⟨m + 1, rfl, by omega⟩
theorem Cv.congr {v u : Int → β} {f b : Option Int} {ss : List (SgG α)} (c : Cv ev v f ss b) (e : ∀ n, ∀ s ∈ ss, inS s.1 s.2.1 n → v n = u n) : Cv ev u f ss b := by
  induction c with
  | nil => exact .nil
  | @snoc ss b m fm c1 h1 h2 ih =>
    refine .snoc (ih fun n s hs => e n s (List.mem_append_left _ hs)) h1 fun n hn => ?_
    rw [h2 n hn]
    exact e n _ (List.mem_append_right _ (List.mem_singleton.mpr rfl)) hn
/-- a whole cover of f to l -/
def Full (ev : α → Int → β) (v : Int → β) (f l : Option Int) (ss : List (SgG α)) : Prop := ∃ ts b fm, ss = ts ++ [(b, l, fm)] ∧ Cv ev v f ts b ∧ neS b l ∧ ∀ n, inS b l n → ev fm n = v n
theorem Cv.take {v : Int → β} {f b : Option Int} {ss : List (SgG α)} (c : Cv ev v f ss b) : ∀ i, i < ss.length → ∃ b0 m fm, ss[i]? = some (b0, some m, fm) ∧ Cv ev v f (ss.take i) b0 ∧ Cv ev v f (ss.take (i + 1)) (some (m + 1)) ∧ neS b0 (some m) ∧ ∀ n, inS b0 (some m) n → ev fm n = v n := by
  induction c with
  | nil => intro i h; cases h
  | @snoc ss b m fm c1 h1 h2 ih =>
    intro i hi
    rw [List.length_append] at hi
    by_cases h : i < ss.length
    · obtain ⟨b0, m0, fm0, e, c2, c3, n1, n2⟩ := ih i h
      refine ⟨b0, m0, fm0, by rw [List.getElem?_append_left h]; exact e, ?_, ?_, n1, n2⟩
      · rw [List.take_append_of_le_length (Nat.le_of_lt h)]; exact c2
      · rw [List.take_append_of_le_length h]; exact c3
    · have ei : i = ss.length := by simp at hi; omega
      subst ei
      refine ⟨b, m, fm, by rw [List.getElem?_append_right (Nat.le_refl _), Nat.sub_self]; rfl, ?_, ?_, h1, h2⟩
      · rw [List.take_left]; exact c1
      · rw [List.take_of_length_le (by rw [List.length_append]; exact Nat.le_refl _)]; exact .snoc c1 h1 h2
theorem Full.take {v : Int → β} {f l : Option Int} {ss : List (SgG α)} (c : Full ev v f l ss) : ∀ i, i < ss.length → ∃ b0 e fm, ss[i]? = some (b0, e, fm) ∧ Cv ev v f (ss.take i) b0 ∧ neS b0 e ∧ (∀ n, inS b0 e n → ev fm n = v n) ∧ ((i + 1 = ss.length ∧ e = l) ∨ (i + 1 < ss.length ∧ ∃ m, e = some m ∧ Cv ev v f (ss.take (i + 1)) (some (m + 1)))) := by
  obtain ⟨ts, b, fm, rfl, c1, n1, n2⟩ := c
  intro i hi
  rw [List.length_append] at hi
  by_cases h : i < ts.length
  · obtain ⟨b0, m0, fm0, e, c2, c3, k1, k2⟩ := c1.take i h
    refine ⟨b0, some m0, fm0, by rw [List.getElem?_append_left h]; exact e, ?_, k1, k2, .inr ⟨by rw [List.length_append]; simp; omega, m0, rfl, ?_⟩⟩
    · rw [List.take_append_of_le_length (Nat.le_of_lt h)]; exact c2
    · rw [List.take_append_of_le_length h]; exact c3
  · have ei : i = ts.length := by simp at hi; omega
    subst ei
    refine ⟨b, l, fm, by rw [List.getElem?_append_right (Nat.le_refl _), Nat.sub_self]; rfl, ?_, n1, n2, .inl ⟨by rw [List.length_append]; rfl, rfl⟩⟩
    rw [List.take_left]; exact c1
theorem Full.pos {v : Int → β} {f l : Option Int} {ss : List (SgG α)} (c : Full ev v f l ss) : 0 < ss.length := by
  obtain ⟨ts, b, fm, rfl, _⟩ := c
  rw [List.length_append]; exact Nat.succ_pos _
/-- what the next stretch begins with -/
theorem Cv.begin_uniq {v : Int → β} {f b b' : Option Int} {ss : List (SgG α)} (c : Cv ev v f ss b) (d : Cv ev v f ss b') : b = b' := by
  cases c with
  | nil =>
    generalize e : ([] : List (SgG α)) = ts at d
    cases d with
    | nil => rfl
    | snoc _ _ _ => simp at e
  | snoc _ _ _ =>
    obtain ⟨b0, m, fm, e, rfl, _⟩ := d.last
    cases e; rfl
theorem Full.one {v : Int → β} {f l : Option Int} {fm : α} (n : neS f l) (h : ∀ n, inS f l n → ev fm n = v n) : Full ev v f l [(f, l, fm)] := ⟨[], f, fm, rfl, .nil, n, h⟩
theorem merge_ne {b0 l : Option Int} {m : Int} (h : neS b0 (some m)) (g : neS (some (m + 1)) l) : neS b0 l := fun a b h1 h2 => by
  have := h a m h1 rfl
  have := g (m + 1) b rfl h2
  omega
theorem merge_at {v : Int → β} {b0 l : Option Int} {m : Int} {fm : α} (h : ∀ n, inS b0 (some m) n → ev fm n = v n) (g : ∀ n, inS (some (m + 1)) l n → ev fm n = v n) : ∀ n, inS b0 l n → ev fm n = v n := fun n hn => by
  by_cases z : n ≤ m
  · exact h n ⟨hn.1, fun b e => by cases e; exact z⟩
  · exact g n ⟨fun a e => by cases e; omega, hn.2⟩
theorem Full.congr {v u : Int → β} {f l : Option Int} {ss : List (SgG α)} (c : Full ev v f l ss) (e : ∀ n, ∀ s ∈ ss, inS s.1 s.2.1 n → v n = u n) : Full ev u f l ss := by
  obtain ⟨ts, b, fm, rfl, c1, n1, n2⟩ := c
  exact ⟨ts, b, fm, rfl, c1.congr fun n s hs => e n s (List.mem_append_left _ hs), n1, fun n hn => (n2 n hn).trans (e n _ (List.mem_append_right _ (List.mem_singleton.mpr rfl)) hn)⟩
/-- each stretch of a cover lies in it -/
theorem Cv.inside {v : Int → β} {f b : Option Int} {ss : List (SgG α)} (c : Cv ev v f ss b) : ∀ s ∈ ss, ∀ n, inS s.1 s.2.1 n → (∀ a, f = some a → a ≤ n) ∧ ∀ x, b = some x → n < x := by
  induction c with
  | nil => intro s hs; cases hs
  | @snoc ss b m fm c1 h1 h2 ih =>
    intro s hs n hn
    rcases List.mem_append.mp hs with h | h
    · obtain ⟨k1, k2⟩ := ih s h n hn
      refine ⟨k1, fun x hx => ?_⟩
      cases hx
      cases eb : b with
      | none =>
        cases c1 with
        | nil => cases h
        | snoc _ _ _ => cases eb
      | some y =>
        have := k2 y eb
        have := h1 y m eb rfl
        omega
    · rw [List.mem_singleton.mp h] at hn
      refine ⟨fun a ha => ?_, fun x hx => by cases hx; have := hn.2 m rfl; omega⟩
      obtain ⟨y, hy, hl⟩ := c1.mono a ha
      have := hn.1 y hy
      omega
theorem Full.inside {v : Int → β} {f l : Option Int} {ss : List (SgG α)} (c : Full ev v f l ss) : ∀ s ∈ ss, ∀ n, inS s.1 s.2.1 n → inS f l n := by
  obtain ⟨ts, b, fm, rfl, c1, n1, n2⟩ := c
  intro s hs n hn
  rcases List.mem_append.mp hs with h | h
  · obtain ⟨k1, k2⟩ := c1.inside s h n hn
    refine ⟨k1, fun y hy => ?_⟩
    cases eb : b with
    | none =>
      cases c1 with
      | nil => cases h
      | snoc _ _ _ => cases eb
    | some x =>
      have := k2 x eb
      have := n1 x y eb hy
      omega
  · rw [List.mem_singleton.mp h] at hn
    refine ⟨fun a ha => ?_, hn.2⟩
    obtain ⟨y, hy, hl⟩ := c1.mono a ha
    have := hn.1 y hy
    omega
end
/-! ### clipping -/
def clip (f l b e : Option Int) : List (Option Int × Option Int) := match laterB f b, soonE l e with
  | some x, some y => if x > y then [] else [(some x, some y)]
  | x, y => [(x, y)]
theorem clip_is {f l b e : Option Int} : (clip f l b e = [] ∧ ∀ n, ¬ (inS f l n ∧ inS b e n)) ∨ (clip f l b e = [(laterB f b, soonE l e)] ∧ neS (laterB f b) (soonE l e)) := by
  unfold clip
  cases h1 : laterB f b with
  | none => exact .inr ⟨rfl, fun a b z => by cases z⟩
  | some x =>
    cases h2 : soonE l e with
    | none => exact .inr ⟨rfl, fun a b _ z => by cases z⟩
    | some y =>
      by_cases h : x > y
      · refine .inl ⟨if_pos h, fun n hn => ?_⟩
        have := inS_clip.mpr hn
        rw [h1, h2] at this
        exact no_inS (by omega) this
      · exact .inr ⟨if_neg h, fun a b z1 z2 => by cases z1; cases z2; omega⟩
/-! ### the look's answer -/
def lkv (ms : List Int) (wy : Str) (lim : Option Int) (m : Int) : Option Int := (lkRow ms wy m).bind fun r => if inLim lim r m then some r else none
/-- from where a row at p is found; prev and next the places beside it -/
def catchR (wy : Str) (prev : Option Int) (p : Int) (next : Option Int) : Option Int × Option Int :=
  if wy = "at" then (some p, next.map (· - 1)) else if wy = "before" then (some (p + 1), next) else if wy = "since" then (prev.map (· + 1), some p) else (prev, some (p - 1))
def catchI (wy : Str) (lim prev : Option Int) (p : Int) (next : Option Int) : Option Int × Option Int := match lim with
  | none => catchR wy prev p next
  | some w => (laterB (catchR wy prev p next).1 (some (p - w)), soonE (catchR wy prev p next).2 (some (p + w)))
theorem catchR_iff {A B : List Int} {p : Int} {wy : Str} {m : Int} (up : (A ++ p :: B).Pairwise (· < ·)) (hw : wy ∈ ways) : IsRow (A ++ p :: B) wy m (some p) ↔ inS (catchR wy A.getLast? p B.head?).1 (catchR wy A.getLast? p B.head?).2 m := by
  have c4 : wy = "at" ∨ wy = "before" ∨ wy = "since" ∨ wy = "after" := by simpa [ways] using hw
  have nab : ¬ ((Str.ofString "before") = (Str.ofString "at")) := by decide +kernel
  have nsa : ¬ ((Str.ofString "since") = (Str.ofString "at")) := by decide +kernel
  have nsb : ¬ ((Str.ofString "since") = (Str.ofString "before")) := by decide +kernel
  have nfa : ¬ ((Str.ofString "after") = (Str.ofString "at")) := by decide +kernel
  have nfb : ¬ ((Str.ofString "after") = (Str.ofString "before")) := by decide +kernel
  have nfs : ¬ ((Str.ofString "after") = (Str.ofString "since")) := by decide +kernel
  obtain ⟨_, upB', cross⟩ := List.pairwise_append.mp up
  obtain ⟨pB, upB⟩ := List.pairwise_cons.mp upB'
  have upA := (List.pairwise_append.mp up).1
  have Ap : ∀ x ∈ A, x < p := fun x hx => cross x hx p List.mem_cons_self
  -- the nearest ones beside it
  have lastA : ∀ x ∈ A, ∃ q, A.getLast? = some q ∧ x ≤ q ∧ q ∈ A := fun x hx => by
    obtain ⟨L, q, rfl⟩ : ∃ L q, A = L ++ [q] := ⟨A.dropLast, A.getLast (List.ne_nil_of_mem hx), (List.dropLast_concat_getLast _).symm⟩
    refine ⟨q, List.getLast?_concat, ?_, List.mem_append_right _ (List.mem_singleton.mpr rfl)⟩
    rcases List.mem_append.mp hx with h | h
    · exact Int.le_of_lt ((List.pairwise_append.mp upA).2.2 x h q (List.mem_singleton.mpr rfl))
    · rw [List.mem_singleton.mp h]; exact Int.le_refl _
  have headB : ∀ x ∈ B, ∃ q, B.head? = some q ∧ q ≤ x ∧ q ∈ B := fun x hx => by
    cases B with
    | nil => cases hx
    | cons q r =>
      refine ⟨q, rfl, ?_, List.mem_cons_self⟩
      rcases List.mem_cons.mp hx with h | h
      · rw [h]; exact Int.le_refl _
      · exact Int.le_of_lt ((List.pairwise_cons.mp upB).1 x h)
  have memA : ∀ q, A.getLast? = some q → q ∈ A := fun q h => List.mem_of_getLast? h
  have memB : ∀ q, B.head? = some q → q ∈ B := fun q h => List.mem_of_head? h
  have memp : p ∈ A ++ p :: B := List.mem_append_right _ List.mem_cons_self
  have inA : ∀ x ∈ A, x ∈ A ++ p :: B := fun x h => List.mem_append_left _ h
  have inB : ∀ x ∈ B, x ∈ A ++ p :: B := fun x h => List.mem_append_right _ (List.mem_cons_of_mem _ h)
  rcases c4 with rfl | rfl | rfl | rfl
  · simp only [IsRow, sideB, back, catchR, if_true, decide_true, Bool.true_or]
    constructor
    · rintro ⟨_, h2, h3⟩
      refine ⟨fun a ha => by cases ha; simpa using h2, fun b hb => ?_⟩
      obtain ⟨q, hq, rfl⟩ := Option.map_eq_some_iff.mp hb
      have := pB q (memB q hq)
      by_cases h : q ≤ m
      · have := h3 q (inB q (memB q hq)) (decide_eq_true h); omega
      · show m ≤ q - 1; omega
    · rintro ⟨h1, h2⟩
      refine ⟨memp, decide_eq_true (h1 p rfl), fun x hx hs => ?_⟩
      have hs := of_decide_eq_true hs
      rcases List.mem_append.mp hx with h | h
      · exact Int.le_of_lt (Ap x h)
      · rcases List.mem_cons.mp h with h | h
        · omega
        · obtain ⟨q, e, l, _⟩ := headB x h
          have := h2 (q - 1) (by rw [e]; rfl)
          omega
  · simp only [IsRow, sideB, back, catchR, if_neg nab, if_true, decide_true, Bool.or_true]
    constructor
    · rintro ⟨_, h2, h3⟩
      have h2 := of_decide_eq_true h2
      refine ⟨fun a ha => by cases ha; omega, fun b hb => ?_⟩
      have := pB b (memB b hb)
      by_cases h : b < m
      · have := h3 b (inB b (memB b hb)) (decide_eq_true h); omega
      · omega
    · rintro ⟨h1, h2⟩
      have := h1 (p + 1) rfl
      refine ⟨memp, decide_eq_true (by omega), fun x hx hs => ?_⟩
      have hs := of_decide_eq_true hs
      rcases List.mem_append.mp hx with h | h
      · exact Int.le_of_lt (Ap x h)
      · rcases List.mem_cons.mp h with h | h
        · omega
        · obtain ⟨q, e, l, _⟩ := headB x h
          have := h2 q e
          omega
  · simp only [IsRow, sideB, back, catchR, if_neg nsa, if_neg nsb, if_true, decide_eq_false nsa, decide_eq_false nsb, Bool.or_self, Bool.false_eq_true, if_false]
    constructor
    · rintro ⟨_, h2, h3⟩
      have h2 := of_decide_eq_true h2
      refine ⟨fun a ha => ?_, fun b hb => by cases hb; exact h2⟩
      obtain ⟨q, hq, rfl⟩ := Option.map_eq_some_iff.mp ha
      have := Ap q (memA q hq)
      by_cases h : m ≤ q
      · have := h3 q (inA q (memA q hq)) (decide_eq_true h); omega
      · show q + 1 ≤ m; omega
    · rintro ⟨h1, h2⟩
      refine ⟨memp, decide_eq_true (h2 p rfl), fun x hx hs => ?_⟩
      have hs := of_decide_eq_true hs
      rcases List.mem_append.mp hx with h | h
      · obtain ⟨q, e, l, _⟩ := lastA x h
        have := h1 (q + 1) (by rw [e]; rfl)
        omega
      · rcases List.mem_cons.mp h with h | h
        · omega
        · exact Int.le_of_lt (pB x h)
  · simp only [IsRow, sideB, back, catchR, if_neg nfa, if_neg nfb, if_neg nfs, decide_eq_false nfa, decide_eq_false nfb, Bool.or_self, Bool.false_eq_true, if_false]
    constructor
    · rintro ⟨_, h2, h3⟩
      have h2 := of_decide_eq_true h2
      refine ⟨fun a ha => ?_, fun b hb => by cases hb; omega⟩
      have := Ap a (memA a ha)
      by_cases h : m < a
      · have := h3 a (inA a (memA a ha)) (decide_eq_true h); omega
      · omega
    · rintro ⟨h1, h2⟩
      have := h2 (p - 1) rfl
      refine ⟨memp, decide_eq_true (by omega), fun x hx hs => ?_⟩
      have hs := of_decide_eq_true hs
      rcases List.mem_append.mp hx with h | h
      · obtain ⟨q, e, l, _⟩ := lastA x h
        have := h1 q e
        omega
      · rcases List.mem_cons.mp h with h | h
        · omega
        · exact Int.le_of_lt (pB x h)
theorem lkv_some {ms : List Int} {wy : Str} {lim : Option Int} {m p : Int} (up : ms.Pairwise (· ≤ ·)) (hw : wy ∈ ways) : lkv ms wy lim m = some p ↔ IsRow ms wy m (some p) ∧ inLim lim p m = true := by
  have h := lkRow_is (m := m) up hw
  unfold lkv
  constructor
  · intro e
    obtain ⟨r, e1, e2⟩ := Option.bind_eq_some_iff.mp e
    rw [e1] at h
    by_cases hl : inLim lim r m = true
    · rw [if_pos hl] at e2; cases e2; exact ⟨h, hl⟩
    · rw [if_neg hl] at e2; cases e2
  · rintro ⟨h1, h2⟩
    rw [IsRow.uniq h h1]
    show (if inLim lim p m = true then some p else none) = some p
    rw [if_pos h2]
theorem inLim_iff {w p m : Int} : inLim (some w) p m = true ↔ inS (some (p - w)) (some (p + w)) m := by
  unfold inLim inS
  constructor
  · intro h
    have h := of_decide_eq_true h
    split at h <;> exact ⟨fun a e => by cases e; omega, fun b e => by cases e; omega⟩
  · rintro ⟨h1, h2⟩
    have := h1 _ rfl
    have := h2 _ rfl
    refine decide_eq_true ?_
    split <;> omega
theorem catchI_iff {A B : List Int} {p : Int} {wy : Str} {lim : Option Int} {m : Int} (up : (A ++ p :: B).Pairwise (· < ·)) (hw : wy ∈ ways) : lkv (A ++ p :: B) wy lim m = some p ↔ inS (catchI wy lim A.getLast? p B.head?).1 (catchI wy lim A.getLast? p B.head?).2 m := by
  rw [lkv_some (up.imp fun h => Int.le_of_lt h) hw, catchR_iff up hw]
  cases lim with
  | none => exact ⟨fun h => h.1, fun h => ⟨h, rfl⟩⟩
  | some w =>
    rw [inLim_iff]
    show _ ↔ inS (laterB _ _) (soonE _ _) m
    rw [inS_clip]
theorem sideB_shift {wy : Str} {x n a : Int} : sideB wy (x - a) n = sideB wy x (n + a) := by
  unfold sideB
  have h1 : decide (x - a ≤ n) = decide (x ≤ n + a) := decide_eq_decide.mpr (by omega)
  have h2 : decide (x - a < n) = decide (x < n + a) := decide_eq_decide.mpr (by omega)
  have h3 : decide (n ≤ x - a) = decide (n + a ≤ x) := decide_eq_decide.mpr (by omega)
  have h4 : decide (n < x - a) = decide (n + a < x) := decide_eq_decide.mpr (by omega)
  rw [h1, h2, h3, h4]
theorem IsRow.shift {ms : List Int} {wy : Str} {n a : Int} {o : Option Int} (h : IsRow ms wy (n + a) o) : IsRow (ms.map (· - a)) wy n (o.map (· - a)) := by
  cases o with
  | none =>
    intro x hx
    obtain ⟨y, hy, rfl⟩ := List.mem_map.mp hx
    exact sideB_shift.trans (h y hy)
  | some r =>
    obtain ⟨h1, h2, h3⟩ := h
    refine ⟨List.mem_map.mpr ⟨r, h1, rfl⟩, sideB_shift.trans h2, fun x hx hs => ?_⟩
    obtain ⟨y, hy, rfl⟩ := List.mem_map.mp hx
    have := h3 y hy (sideB_shift.symm.trans hs)
    split <;> rename_i z
    · rw [if_pos z] at this; show y - a ≤ r - a; omega
    · rw [if_neg z] at this; show r - a ≤ y - a; omega
/-- rows beside a slice that reaches past the moment on both sides add nothing -/
theorem IsRow.ext {pre sl post : List Int} {wy : Str} {m : Int} {o : Option Int} (hw : wy ∈ ways) (hpre : pre = [] ∨ ∃ x ∈ sl, x < m ∧ ∀ y ∈ pre, y < x) (hpost : post = [] ∨ ∃ x ∈ sl, m < x ∧ ∀ y ∈ post, x < y) (h : IsRow sl wy m o) : IsRow (pre ++ sl ++ post) wy m o := by
  have c4 : wy = "at" ∨ wy = "before" ∨ wy = "since" ∨ wy = "after" := by simpa [ways] using hw
  -- of a row aside: on the side only behind a row of the slice that is on the side and nearer
  have aside : ∀ y, y ∈ pre ∨ y ∈ post → sideB wy y m = true → ∃ x ∈ sl, sideB wy x m = true ∧ if back wy then y ≤ x else x ≤ y := by
    intro y hy hs
    have nab : ¬ ((Str.ofString "before") = (Str.ofString "at")) := by decide +kernel
    have nsa : ¬ ((Str.ofString "since") = (Str.ofString "at")) := by decide +kernel
    have nsb : ¬ ((Str.ofString "since") = (Str.ofString "before")) := by decide +kernel
    have nfa : ¬ ((Str.ofString "after") = (Str.ofString "at")) := by decide +kernel
    have nfb : ¬ ((Str.ofString "after") = (Str.ofString "before")) := by decide +kernel
    have nfs : ¬ ((Str.ofString "after") = (Str.ofString "since")) := by decide +kernel
    rcases hy with hy | hy
    · rcases hpre with z | ⟨x, hx, hm, hl⟩
      · subst z; cases hy
      · have := hl y hy
        rcases c4 with rfl | rfl | rfl | rfl <;> simp [sideB, back, nab, nsa, nsb, nfa, nfb, nfs] at hs ⊢
        · exact ⟨x, hx, by omega, by omega⟩
        · exact ⟨x, hx, by omega, by omega⟩
        · omega
        · omega
    · rcases hpost with z | ⟨x, hx, hm, hl⟩
      · subst z; cases hy
      · have := hl y hy
        rcases c4 with rfl | rfl | rfl | rfl <;> simp [sideB, back, nab, nsa, nsb, nfa, nfb, nfs] at hs ⊢
        · omega
        · omega
        · exact ⟨x, hx, by omega, by omega⟩
        · exact ⟨x, hx, by omega, by omega⟩
  have cases3 : ∀ y ∈ pre ++ sl ++ post, y ∈ sl ∨ (y ∈ pre ∨ y ∈ post) := fun y hy => by
    rcases List.mem_append.mp hy with h | h
    · rcases List.mem_append.mp h with h | h
      · exact .inr (.inl h)
      · exact .inl h
    · exact .inr (.inr h)
  cases o with
  | none =>
    intro y hy
    rcases cases3 y hy with g | g
    · exact h y g
    · cases e : sideB wy y m with
      | false => rfl
      | true =>
        obtain ⟨x, hx, hs, _⟩ := aside y g e
        have := h x hx
        rw [hs] at this; cases this
  | some r =>
    obtain ⟨h1, h2, h3⟩ := h
    refine ⟨List.mem_append_left _ (List.mem_append_right _ h1), h2, fun y hy hs => ?_⟩
    rcases cases3 y hy with g | g
    · exact h3 y g hs
    · obtain ⟨x, hx, hxs, hl⟩ := aside y g hs
      have := h3 x hx hxs
      split <;> rename_i z
      · rw [if_pos z] at hl this; omega
      · rw [if_neg z] at hl this; omega
/-- the look along a stretch, in the places (rows minus the amount) of a slice -/
theorem lkv_places {pre sl post : List Int} {wy : Str} {lim : Option Int} {n a : Int} (up : (pre ++ sl ++ post).Pairwise (· < ·)) (hw : wy ∈ ways) (hpre : pre = [] ∨ ∃ x ∈ sl, x < n + a ∧ ∀ y ∈ pre, y < x) (hpost : post = [] ∨ ∃ x ∈ sl, n + a < x ∧ ∀ y ∈ post, x < y) :
    (lkv (pre ++ sl ++ post) wy lim (n + a)) = (lkv (sl.map (· - a)) wy lim n).map (· + a) := by
  have upS : sl.Pairwise (· < ·) := (List.pairwise_append.mp (List.pairwise_append.mp up).1).2.1
  have upP : (sl.map (· - a)).Pairwise (· ≤ ·) := by
    rw [List.pairwise_map]
    exact upS.imp fun h => by omega
  have h0 := lkRow_is (m := n + a) (upS.imp fun h => Int.le_of_lt h) hw
  have h1 := h0.ext hw hpre hpost
  have e1 : lkRow (pre ++ sl ++ post) wy (n + a) = lkRow sl wy (n + a) := IsRow.uniq (lkRow_is (up.imp fun h => Int.le_of_lt h) hw) h1
  have e2 : lkRow (sl.map (· - a)) wy n = (lkRow sl wy (n + a)).map (· - a) := IsRow.uniq (lkRow_is upP hw) h0.shift
  unfold lkv
  rw [e1, e2]
  cases lkRow sl wy (n + a) with
  | none => rfl
  | some r =>
    have il : inLim lim (r - a) n = inLim lim r (n + a) := by
      cases lim with
      | none => rfl
      | some w =>
        show decide _ = decide _
        have : r - a - n = r - (n + a) := by omega
        rw [this]
    show (if inLim lim r (n + a) = true then some r else none) = (if inLim lim (r - a) n = true then some (r - a) else none).map (· + a)
    rw [il]
    by_cases h : inLim lim r (n + a) = true
    · rw [if_pos h, if_pos h]
      show some r = some (r - a + a)
      congr 1; omega
    · rw [if_neg h, if_neg h]; rfl
/-! ### what was caught, and the gaps -/
structure Cg (v : Int → Option Int) (f l : Option Int) (cs : List Sg) : Prop where
  each : ∀ c ∈ cs, neS c.1 c.2.1 ∧ ∀ n, inS c.1 c.2.1 n → inS f l n ∧ c.2.2.at n = v n
  ord : cs.Pairwise fun c d => ∃ m k, c.2.1 = some m ∧ d.1 = some k ∧ m < k
  all : ∀ n, inS f l n → v n ≠ none → ∃ c ∈ cs, inS c.1 c.2.1 n
def Rest (v : Int → Option Int) (l : Option Int) : Option Int → List Sg → Prop
  | b, [] => neS b l ∧ ∀ n, inS b l n → v n = none
  | b, (lo, hi, fm) :: cs => neS lo hi ∧ (∀ n, inS lo hi n → fm.at n = v n) ∧ (lo = b ∨ ∃ m, lo = some m ∧ neS b (some (m - 1)) ∧ ∀ n, inS b (some (m - 1)) n → v n = none) ∧ (hi = l ∨ (hi ≠ l ∧ ∃ e, hi = some e ∧ Rest v l (some (e + 1)) cs))
theorem Cg.rest {v : Int → Option Int} {l : Option Int} : ∀ {cs : List Sg} {f : Option Int}, Cg v f l cs → neS f l → Rest v l f cs
  | [], f, g, n => ⟨n, fun m hm => by
    cases e : v m with
    | none => rfl
    | some r =>
      obtain ⟨c, hc, _⟩ := g.all m hm (by rw [e]; simp)
      cases hc⟩
  | (lo, hi, fm) :: cs, f, g, nfl => by
    obtain ⟨n1, h1⟩ := g.each _ List.mem_cons_self
    obtain ⟨o1, o2⟩ := List.pairwise_cons.mp g.ord
    have n1 : neS lo hi := n1
    have h1 : ∀ n, inS lo hi n → inS f l n ∧ fm.at n = v n := h1
    refine ⟨n1, fun n hn => (h1 n hn).2, ?_, ?_⟩
    · cases lo with
      | none =>
        left
        cases f with
        | none => rfl
        | some x =>
          -- a moment far down
          exfalso
          cases hi with
          | none => have := (h1 (x - 1) ⟨fun _ e => (by cases e), fun _ e => (by cases e)⟩).1.1 x rfl; omega
          | some y => have := (h1 (min (x - 1) y) ⟨fun _ e => (by cases e), fun _ e => (by cases e; omega)⟩).1.1 x rfl; omega
      | some m =>
        have hm : inS f l m := (h1 m (inS_lo rfl n1)).1
        by_cases e : some m = f
        · exact .inl e
        · refine .inr ⟨m, rfl, fun a b z1 z2 => ?_, fun n hn => ?_⟩
          · cases z2
            have := hm.1 a z1
            have : a ≠ m := fun z => e (by rw [z1, z])
            omega
          · cases ev : v n with
            | none => rfl
            | some r =>
              exfalso
              have hn2 := hn.2 _ rfl
              obtain ⟨c, hc, hin⟩ := g.all n ⟨hn.1, fun b hb => by have := hm.2 b hb; omega⟩ (by rw [ev]; simp)
              rcases List.mem_cons.mp hc with z | z
              · subst z
                have := hin.1 m rfl
                omega
              · obtain ⟨x, k, z1, z2, lt⟩ := o1 c z
                have := hin.1 k z2
                have := n1 m x rfl z1
                omega
    · cases hi with
      | none =>
        left
        cases l with
        | none => rfl
        | some y =>
          exfalso
          cases lo with
          | none => have := (h1 (y + 1) ⟨fun _ e => (by cases e), fun _ e => (by cases e)⟩).1.2 y rfl; omega
          | some x => have := (h1 (max (y + 1) x) ⟨fun _ e => (by cases e; omega), fun _ e => (by cases e)⟩).1.2 y rfl; omega
      | some e =>
        by_cases z : some e = l
        · exact .inl z
        · have he : inS f l e := by
            cases lo with
            | none => exact (h1 e ⟨fun _ q => by (cases q), fun _ q => by (cases q; exact Int.le_refl _)⟩).1
            | some x => exact (h1 e ⟨fun _ q => by (cases q; exact n1 x e rfl rfl), fun _ q => by (cases q; exact Int.le_refl _)⟩).1
          refine .inr ⟨z, e, rfl, Cg.rest ⟨fun c hc => ⟨(g.each c (List.mem_cons_of_mem _ hc)).1, fun n hn => ?_⟩, o2, fun n hn hv => ?_⟩ fun a b q1 q2 => ?_⟩
          · obtain ⟨k1, k2⟩ := (g.each c (List.mem_cons_of_mem _ hc)).2 n hn
            refine ⟨⟨fun a q => ?_, k1.2⟩, k2⟩
            cases q
            obtain ⟨m, k, z1, z2, lt⟩ := o1 c hc
            have z1 : some e = some m := z1
            cases z1
            have := hn.1 k z2
            omega
          · have h := hn.1 _ rfl
            obtain ⟨c, hc, hin⟩ := g.all n ⟨fun a q => by have := he.1 a q; omega, hn.2⟩ hv
            rcases List.mem_cons.mp hc with w | w
            · subst w
              have := hin.2 e rfl
              omega
            · exact ⟨c, w, hin⟩
          · cases q1
            have := he.2 b q2
            have : e ≠ b := fun w => z (by rw [q2, w])
            omega
/-! ### the loop over the places -/
structure Ca (P : List Int) (wy : Str) (lim : Option Int) (a : Int) (f l : Option Int) (i : Nat) (cs : List Sg) : Prop where
  each : ∀ c ∈ cs, neS c.1 c.2.1 ∧ ∀ n, inS c.1 c.2.1 n → inS f l n ∧ c.2.2.at n = (lkv P wy lim n).map (· + a)
  ord : cs.Pairwise fun c d => ∃ m k, c.2.1 = some m ∧ d.1 = some k ∧ m < k
  all : ∀ n, inS f l n → ∀ r, lkv P wy lim n = some r → r ∈ P.take i → ∃ c ∈ cs, inS c.1 c.2.1 n
  ahead : ∀ p, P[i]? = some p → ∀ c ∈ cs, ∃ m k, c.2.1 = some m ∧ (catchI wy lim (P.take i).getLast? p (P.drop (i + 1)).head?).1 = some k ∧ m < k
theorem Ca.zero {P : List Int} {wy : Str} {lim : Option Int} {a : Int} {f l : Option Int} : Ca P wy lim a f l 0 [] := ⟨fun c h => (by cases h), .nil, fun n _ r _ h => (by cases h), fun p _ c h => (by cases h)⟩
theorem Ca.cg {P : List Int} {wy : Str} {lim : Option Int} {a : Int} {f l : Option Int} {cs : List Sg} (up : P.Pairwise (· < ·)) (hw : wy ∈ ways) (c : Ca P wy lim a f l P.length cs) : Cg (fun n => (lkv P wy lim n).map (· + a)) f l cs := ⟨c.each, c.ord, fun n hn hv => by
  cases e : lkv P wy lim n with
  | none =>
    have hv : (lkv P wy lim n).map (· + a) ≠ none := hv
    rw [e] at hv; exact absurd rfl hv
  | some r =>
    have hr := ((lkv_some (up.imp fun h => Int.le_of_lt h) hw).mp e).1.1
    exact c.all n hn r e (by rw [List.take_length]; exact hr)⟩
theorem split_at {P : List Int} {i : Nat} {p : Int} (h : P[i]? = some p) : P = P.take i ++ p :: P.drop (i + 1) := by
  obtain ⟨hi, e⟩ := List.getElem?_eq_some_iff.mp h
  rw [← e, List.getElem_cons_drop, List.take_append_drop]
theorem Cg.congr {v u : Int → Option Int} {f l : Option Int} {cs : List Sg} (g : Cg v f l cs) (e : ∀ n, inS f l n → v n = u n) : Cg u f l cs :=
  ⟨fun c hc => ⟨(g.each c hc).1, fun n hn => by
    obtain ⟨h1, h2⟩ := (g.each c hc).2 n hn
    exact ⟨h1, h2.trans (e n h1)⟩⟩, g.ord, fun n hn hv => g.all n hn (by rw [e n hn]; exact hv)⟩
theorem catch_next {wy : Str} {lim prev : Option Int} {p p' : Int} {nx' : Option Int} (hw : wy ∈ ways) (hpp : p < p') (hprev : ∀ q, prev = some q → q < p) : ∃ k', (catchI wy lim (some p) p' nx').1 = some k' ∧ (∀ k, (catchI wy lim prev p (some p')).1 = some k → k ≤ k') ∧ ∃ e, (catchI wy lim prev p (some p')).2 = some e ∧ e < k' := by
  have c4 : wy = "at" ∨ wy = "before" ∨ wy = "since" ∨ wy = "after" := by simpa [ways] using hw
  have nab : ¬ ((Str.ofString "before") = (Str.ofString "at")) := by decide +kernel
  have nsa : ¬ ((Str.ofString "since") = (Str.ofString "at")) := by decide +kernel
  have nsb : ¬ ((Str.ofString "since") = (Str.ofString "before")) := by decide +kernel
  have nfa : ¬ ((Str.ofString "after") = (Str.ofString "at")) := by decide +kernel
  have nfb : ¬ ((Str.ofString "after") = (Str.ofString "before")) := by decide +kernel
  have nfs : ¬ ((Str.ofString "after") = (Str.ofString "since")) := by decide +kernel
  -- the ends without the limit
  obtain ⟨b', hb', hb, e, he, hlt⟩ : ∃ b', (catchR wy (some p) p' nx').1 = some b' ∧ (∀ k, (catchR wy prev p (some p')).1 = some k → k ≤ b') ∧ ∃ e, (catchR wy prev p (some p')).2 = some e ∧ e < b' := by
    rcases c4 with rfl | rfl | rfl | rfl
    · exact ⟨p', by simp [catchR], fun k h => by simp [catchR] at h; omega, p' - 1, by simp [catchR], by omega⟩
    · exact ⟨p' + 1, by simp [catchR, nab], fun k h => by simp [catchR, nab] at h; omega, p', by simp [catchR, nab], by omega⟩
    · refine ⟨p + 1, by simp [catchR, nsa, nsb], fun k h => ?_, p, by simp [catchR, nsa, nsb], by omega⟩
      simp only [catchR, if_neg nsa, if_neg nsb, if_true] at h
      obtain ⟨q, hq, rfl⟩ := Option.map_eq_some_iff.mp h
      have := hprev q hq
      show q + 1 ≤ p + 1; omega
    · refine ⟨p, by simp [catchR, nfa, nfb, nfs], fun k h => ?_, p - 1, by simp [catchR, nfa, nfb, nfs], by omega⟩
      simp only [catchR, if_neg nfa, if_neg nfb, if_neg nfs] at h
      have := hprev k h
      omega
  cases lim with
  | none => exact ⟨b', hb', hb, e, he, hlt⟩
  | some w =>
    refine ⟨if p' - w > b' then p' - w else b', ?_, fun k h => ?_, if p + w < e then p + w else e, ?_, ?_⟩
    · show laterB _ _ = _
      rw [hb']; rfl
    · have h : laterB (catchR wy prev p (some p')).1 (some (p - w)) = some k := h
      cases ep : (catchR wy prev p (some p')).1 with
      | none =>
        rw [ep] at h
        have h : some (p - w) = some k := h
        cases h
        split <;> omega
      | some x =>
        rw [ep] at h
        have := hb x ep
        have h : some (if p - w > x then p - w else x) = some k := h
        injection h with h
        split at h <;> split <;> omega
    · show soonE _ _ = _
      rw [he]; rfl
    · split <;> split <;> omega
theorem Ca.step {P : List Int} {wy : Str} {lim : Option Int} {a : Int} {f l : Option Int} {i : Nat} {cs : List Sg} {p : Int} (up : P.Pairwise (· < ·)) (hw : wy ∈ ways) (c : Ca P wy lim a f l i cs) (hp : P[i]? = some p) :
    Ca P wy lim a f l (i + 1) (cs ++ (clip f l (catchI wy lim (P.take i).getLast? p (P.drop (i + 1)).head?).1 (catchI wy lim (P.take i).getLast? p (P.drop (i + 1)).head?).2).map fun x => (x.1, x.2, Fm.row (p + a))) := by
  have sp := split_at hp
  have hi : i < P.length := (List.getElem?_eq_some_iff.mp hp).1
  have iff : ∀ m, lkv P wy lim m = some p ↔ inS (catchI wy lim (P.take i).getLast? p (P.drop (i + 1)).head?).1 (catchI wy lim (P.take i).getLast? p (P.drop (i + 1)).head?).2 m := fun m => by
    have := catchI_iff (lim := lim) (m := m) (sp ▸ up) hw
    rw [← sp] at this
    exact this
  have tk : P.take (i + 1) = P.take i ++ [p] := by rw [List.take_add_one, hp]; rfl
  have cross := (List.pairwise_append.mp (sp ▸ up)).2.2
  have prevlt : ∀ q, (P.take i).getLast? = some q → q < p := fun q h => cross q (List.mem_of_getLast? h) p List.mem_cons_self
  -- the next place's begin
  have nextk : ∀ p', P[i + 1]? = some p' → ∃ k', (catchI wy lim (P.take (i + 1)).getLast? p' (P.drop (i + 1 + 1)).head?).1 = some k' ∧ (∀ k, (catchI wy lim (P.take i).getLast? p (P.drop (i + 1)).head?).1 = some k → k ≤ k') ∧ ∃ e, (catchI wy lim (P.take i).getLast? p (P.drop (i + 1)).head?).2 = some e ∧ e < k' := fun p' h => by
    have hd : (P.drop (i + 1)).head? = some p' := by rw [List.head?_drop]; exact h
    have lt : p < p' := by
      have h2 := (List.pairwise_cons.mp (List.pairwise_append.mp (sp ▸ up)).2.1).1
      exact h2 p' (List.mem_of_head? hd)
    rw [tk, List.getLast?_concat, hd]
    exact catch_next hw lt prevlt
  have ah := c.ahead p hp
  generalize (catchI wy lim (P.take i).getLast? p (P.drop (i + 1)).head?) = I at iff nextk ah ⊢
  have old : ∀ p', P[i + 1]? = some p' → ∀ d ∈ cs, ∃ m k, d.2.1 = some m ∧ (catchI wy lim (P.take (i + 1)).getLast? p' (P.drop (i + 1 + 1)).head?).1 = some k ∧ m < k := fun p' h d hd => by
    obtain ⟨k', e1, e2, _⟩ := nextk p' h
    obtain ⟨m, k, z1, z2, lt⟩ := ah d hd
    exact ⟨m, k', z1, e1, Int.lt_of_lt_of_le lt (e2 k z2)⟩
  rcases clip_is (f := f) (l := l) (b := I.1) (e := I.2) with ⟨e0, hno⟩ | ⟨e0, hne⟩
  · rw [e0, List.map_nil, List.append_nil]
    refine ⟨c.each, c.ord, fun n hn r hr hm => ?_, old⟩
    rw [tk] at hm
    rcases List.mem_append.mp hm with h | h
    · exact c.all n hn r hr h
    · rw [List.mem_singleton.mp h] at hr
      exact absurd ⟨hn, (iff n).mp hr⟩ (hno n)
  · rw [e0]
    show Ca P wy lim a f l (i + 1) (cs ++ [(laterB f I.1, soonE l I.2, Fm.row (p + a))])
    refine ⟨fun d hd => ?_, List.pairwise_append.mpr ⟨c.ord, List.pairwise_singleton _ _, fun d hd s hs => ?_⟩, fun n hn r hr hm => ?_, fun p' h d hd => ?_⟩
    · rcases List.mem_append.mp hd with h | h
      · exact c.each d h
      · rw [List.mem_singleton.mp h]
        refine ⟨hne, fun n hn => ?_⟩
        obtain ⟨h1, h2⟩ := inS_clip.mp hn
        refine ⟨h1, ?_⟩
        rw [(iff n).mpr h2]; rfl
    · rw [List.mem_singleton.mp hs]
      obtain ⟨m, k, z1, z2, lt⟩ := ah d hd
      obtain ⟨x, hx, hl⟩ : ∃ x, laterB f I.1 = some x ∧ k ≤ x := by
        rw [z2]
        cases f with
        | none => exact ⟨k, rfl, Int.le_refl _⟩
        | some y => exact ⟨_, rfl, by split <;> omega⟩
      exact ⟨m, x, z1, hx, Int.lt_of_lt_of_le lt hl⟩
    · rw [tk] at hm
      rcases List.mem_append.mp hm with h | h
      · obtain ⟨d, hd, hin⟩ := c.all n hn r hr h
        exact ⟨d, List.mem_append_left _ hd, hin⟩
      · rw [List.mem_singleton.mp h] at hr
        exact ⟨_, List.mem_append_right _ (List.mem_singleton.mpr rfl), inS_clip.mpr ⟨hn, (iff n).mp hr⟩⟩
    · rcases List.mem_append.mp hd with g | g
      · exact old p' h d g
      · rw [List.mem_singleton.mp g]
        obtain ⟨k', e1, _, e, e2, lt⟩ := nextk p' h
        obtain ⟨x, hx, hl⟩ : ∃ x, soonE l I.2 = some x ∧ x ≤ e := by
          rw [e2]
          cases l with
          | none => exact ⟨e, rfl, Int.le_refl _⟩
          | some y => exact ⟨_, rfl, by split <;> omega⟩
        exact ⟨x, k', hx, e1, Int.lt_of_le_of_lt hl lt⟩
/-! ### two forms that meet -/
theorem clip_two {v : Int → Option Int} {f l : Option Int} {m : Int} {x y : Fm} (ne : neS f l) (hx : ∀ n, inS f l n → n ≤ m → x.at n = v n) (hy : ∀ n, inS f l n → m < n → y.at n = v n) :
    Full Fm.at v f l (((clip f l none (some m)).map fun z => (z.1, z.2, x)) ++ ((clip f l (some (m + 1)) none).map fun z => (z.1, z.2, y))) := by
  have lf : laterB f none = f := by cases f <;> rfl
  have sl : soonE l none = l := by cases l <;> rfl
  by_cases h1 : ∃ a, f = some a ∧ m < a
  · obtain ⟨a, rfl, ha⟩ := h1
    have e1 : clip (some a) l none (some m) = [] := by
      unfold clip
      cases l with
      | none =>
        show (if a > m then [] else [(some a, some m)]) = []
        rw [if_pos (by omega)]
      | some b =>
        have := ne a b rfl rfl
        show (if a > (if m < b then m else b) then [] else [(some a, some (if m < b then m else b))]) = []
        rw [if_pos (by split <;> omega)]
    have e2 : clip (some a) l (some (m + 1)) none = [(some a, l)] := by
      unfold clip
      rw [sl]
      show (match some (if m + 1 > a then m + 1 else a), l with | some x, some y => if x > y then [] else [(some x, some y)] | x, y => [(x, y)]) = _
      rw [if_neg (by omega)]
      cases l with
      | none => rfl
      | some b =>
        have := ne a b rfl rfl
        show (if a > b then [] else [(some a, some b)]) = _
        rw [if_neg (by omega)]
    rw [e1, e2]
    exact .one ne fun n hn => hy n hn (by have := hn.1 a rfl; omega)
  · have h1 : ∀ a, f = some a → a ≤ m := fun a e => by
      by_cases z : a ≤ m
      · exact z
      · exact absurd ⟨a, e, by omega⟩ h1
    by_cases h2 : ∃ b, l = some b ∧ b ≤ m
    · obtain ⟨b, rfl, hb⟩ := h2
      have e1 : clip f (some b) none (some m) = [(f, some b)] := by
        unfold clip
        rw [lf]
        show (match f, some (if m < b then m else b) with | some x, some y => if x > y then [] else [(some x, some y)] | x, y => [(x, y)]) = _
        rw [if_neg (by omega)]
        cases f with
        | none => rfl
        | some a =>
          have := ne a b rfl rfl
          show (if a > b then [] else [(some a, some b)]) = _
          rw [if_neg (by omega)]
      have e2 : clip f (some b) (some (m + 1)) none = [] := by
        unfold clip
        cases f with
        | none =>
          show (if m + 1 > b then [] else [(some (m + 1), some b)]) = []
          rw [if_pos (by omega)]
        | some a =>
          show (if (if m + 1 > a then m + 1 else a) > b then [] else [(some (if m + 1 > a then m + 1 else a), some b)]) = []
          rw [if_pos (by split <;> omega)]
      rw [e1, e2]
      exact .one ne fun n hn => hx n hn (by have := hn.2 b rfl; omega)
    · have h2 : ∀ b, l = some b → m < b := fun b e => by
        by_cases z : m < b
        · exact z
        · exact absurd ⟨b, e, by omega⟩ h2
      have e1 : clip f l none (some m) = [(f, some m)] := by
        unfold clip
        rw [lf]
        have : soonE l (some m) = some m := by
          cases l with
          | none => rfl
          | some b =>
            show some (if m < b then m else b) = some m
            rw [if_pos (h2 b rfl)]
        rw [this]
        cases f with
        | none => rfl
        | some a =>
          have := h1 a rfl
          show (if a > m then [] else [(some a, some m)]) = _
          rw [if_neg (by omega)]
      have e2 : clip f l (some (m + 1)) none = [(some (m + 1), l)] := by
        unfold clip
        rw [sl]
        have : laterB f (some (m + 1)) = some (m + 1) := by
          cases f with
          | none => rfl
          | some a =>
            have := h1 a rfl
            show some (if m + 1 > a then m + 1 else a) = _
            rw [if_pos (by omega)]
        rw [this]
        cases l with
        | none => rfl
        | some b =>
          have := h2 b rfl
          show (if m + 1 > b then [] else [(some (m + 1), some b)]) = _
          rw [if_neg (by omega)]
      rw [e1, e2]
      refine ⟨[(f, some m, x)], some (m + 1), y, rfl, Cv.snoc (ss := []) .nil (fun a b z1 z2 => by cases z2; exact h1 a z1) fun n hn => hx n ⟨hn.1, fun b hb => ?_⟩ (hn.2 m rfl), fun a b z1 z2 => by cases z1; have := h2 b z2; omega, fun n hn => hy n ⟨fun a ha => ?_, hn.2⟩ (by have := hn.1 _ rfl; omega)⟩
      · have := hn.2 m rfl
        have := h2 b hb
        omega
      · have := hn.1 _ rfl
        have := h1 a ha
        omega
end Pl

namespace Pl
open PySem L2 PySem.Spec
theorem cntB_spec' {l : List Int} {m : Int} (up : l.Pairwise (· < ·)) : (∀ i x, i < cntB l m → l[i]? = some x → x < m) ∧ (∀ i x, cntB l m ≤ i → l[i]? = some x → ¬ x < m) := cntB_spec (up.imp fun h => Int.le_of_lt h)
theorem cntB_len {l : List Int} {m : Int} : cntB l m ≤ l.length := List.countP_le_length
theorem cntB_mono {l : List Int} {m m' : Int} (h : m ≤ m') : cntB l m ≤ cntB l m' := by
  unfold cntB
  exact List.countP_mono_left fun x _ hx => decide_eq_true (by have := of_decide_eq_true hx; omega)
theorem up_lt {l : List Int} {i j : Nat} {x y : Int} (up : l.Pairwise (· < ·)) (h : i < j) (hx : l[i]? = some x) (hy : l[j]? = some y) : x < y := by
  obtain ⟨a, rfl⟩ := List.getElem?_eq_some_iff.mp hx
  obtain ⟨b, rfl⟩ := List.getElem?_eq_some_iff.mp hy
  exact List.pairwise_iff_getElem.mp up i j a b h
def stA (ms : List Int) (a : Int) : Option Int → Nat
  | none => 0
  | some x => cntB ms (x + a)
def spA (ms : List Int) (a : Int) : Option Int → Nat
  | none => ms.length
  | some y => cntB ms (y + a + 1)
def cutL (ms : List Int) (s t : Nat) : List Int := (ms.drop (min (s - 1) ms.length)).take (min (t + 1) ms.length - min (s - 1) ms.length)
theorem cutL_len {ms : List Int} {s t : Nat} : (cutL ms s t).length ≤ ms.length := by
  unfold cutL
  rw [List.length_take, List.length_drop]
  omega
theorem cutL_places {ms : List Int} {wy : Str} {lim f l : Option Int} {a : Int} (up : ms.Pairwise (· < ·)) (hw : wy ∈ ways) (ne : neS f l) :
    (cutL ms (stA ms a f) (spA ms a l)).Pairwise (· < ·) ∧ ∀ n, inS f l n → lkv ms wy lim (n + a) = (lkv ((cutL ms (stA ms a f) (spA ms a l)).map (· - a)) wy lim n).map (· + a) := by
  have hst : stA ms a f ≤ spA ms a l := by
    cases f with
    | none => exact Nat.zero_le _
    | some x =>
      cases l with
      | none => exact cntB_len
      | some y =>
        have := ne x y rfl rfl
        exact cntB_mono (by omega)
  have hsp : spA ms a l ≤ ms.length := by
    cases l with
    | none => exact Nat.le_refl _
    | some y => exact cntB_len
  generalize hs : stA ms a f = s at hst ⊢
  generalize ht : spA ms a l = t at hst hsp ⊢
  have e1 : min (s - 1) ms.length = s - 1 := by omega
  have e0 : ms = ms.take (s - 1) ++ cutL ms s t ++ ms.drop (min (t + 1) ms.length) := by
    unfold cutL
    rw [e1]
    have h1 : (ms.drop (s - 1)).drop (min (t + 1) ms.length - (s - 1)) = ms.drop (min (t + 1) ms.length) := by
      rw [List.drop_drop]; congr 1; omega
    rw [List.append_assoc, ← h1, List.take_append_drop, List.take_append_drop]
  have gt : ∀ i x, ms[i]? = some x → s - 1 ≤ i → i < min (t + 1) ms.length → x ∈ cutL ms s t := fun i x hi h1 h2 => by
    unfold cutL
    rw [e1]
    refine List.mem_of_getElem? (i := i - (s - 1)) ?_
    rw [List.getElem?_take, if_pos (by omega), List.getElem?_drop, show s - 1 + (i - (s - 1)) = i by omega]
    exact hi
  have up0 := up
  rw [e0] at up0
  refine ⟨(List.pairwise_append.mp (List.pairwise_append.mp up0).1).2.1, fun n hn => ?_⟩
  have z := lkv_places (lim := lim) (n := n) (a := a) up0 hw ?_ ?_
  · rw [← e0] at z; exact z
  · cases f with
    | none =>
      left
      have : s = 0 := hs.symm
      subst this; rfl
    | some x =>
      have hx := hn.1 x rfl
      by_cases s0 : s = 0
      · left; subst s0; rfl
      · right
        have sl : s - 1 < ms.length := by omega
        refine ⟨ms[s - 1], gt _ _ (List.getElem?_eq_getElem sl) (Nat.le_refl _) (by omega), ?_, fun y hy => ?_⟩
        · have hs' : cntB ms (x + a) = s := hs
          have := (cntB_spec' (m := x + a) up).1 (s - 1) _ (by omega) (List.getElem?_eq_getElem sl)
          omega
        · obtain ⟨j, hj⟩ := List.mem_iff_getElem?.mp hy
          rw [List.getElem?_take] at hj
          split at hj
          · exact up_lt up (by assumption) hj (List.getElem?_eq_getElem sl)
          · cases hj
  · cases l with
    | none =>
      left
      have : t = ms.length := ht.symm
      subst this
      exact List.drop_eq_nil_of_le (by omega)
    | some y =>
      have hy := hn.2 y rfl
      by_cases t0 : t < ms.length
      · right
        refine ⟨ms[t], gt _ _ (List.getElem?_eq_getElem t0) (by omega) (by omega), ?_, fun z hz => ?_⟩
        · have ht' : cntB ms (y + a + 1) = t := ht
          have := (cntB_spec' (m := y + a + 1) up).2 t _ (by omega) (List.getElem?_eq_getElem t0)
          omega
        · obtain ⟨j, hj⟩ := List.mem_iff_getElem?.mp hz
          rw [List.getElem?_drop] at hj
          exact up_lt up (by omega) (List.getElem?_eq_getElem t0) hj
      · left
        exact List.drop_eq_nil_of_le (by omega)
end Pl
namespace Pl
open PySem L2 PySem.Spec
section
variable {α β : Type} {ev : α → Int → β}
theorem Full.cv {v : Int → β} {f : Option Int} {m : Int} {ss : List (SgG α)} (c : Full ev v f (some m) ss) : Cv ev v f ss (some (m + 1)) := by
  obtain ⟨ts, b, fm, rfl, c1, n1, n2⟩ := c
  exact .snoc c1 n1 n2
theorem Cv.full {v : Int → β} {f b l : Option Int} {ss ts : List (SgG α)} (c : Cv ev v f ss b) (g : Full ev v b l ts) : Full ev v f l (ss ++ ts) := by
  obtain ⟨us, b1, fm, rfl, c1, n1, n2⟩ := g
  exact ⟨ss ++ us, b1, fm, by rw [List.append_assoc], c.app c1, n1, n2⟩
theorem Full.ext {v u : Int → β} {f l : Option Int} {ss : List (SgG α)} (c : Full ev v f l ss) (e : ∀ n, inS f l n → v n = u n) : Full ev u f l ss := c.congr fun n s hs hn => e n (c.inside s hs n hn)
end
/-- how many stretches a term has at most, with at most R rows in a stream -/
def Tm.bd (R : Nat) : Tm → Nat
  | .now => 1
  | .shift m _ => m.bd R
  | .look _ m _ _ => m.bd R * (2 * R + 1)
  | .either a b => 2 * (a.bd R + b.bd R)
  | .later a b => 2 * (a.bd R + b.bd R)
  | .earlier a b => 2 * (a.bd R + b.bd R)
theorem Tm.bd_pos (R : Nat) : ∀ t : Tm, 1 ≤ t.bd R
  | .now => Nat.le_refl _
  | .shift m _ => m.bd_pos R
  | .look _ m _ _ => Nat.le_trans (m.bd_pos R) (Nat.le_mul_of_pos_right _ (by omega))
  | .either a b => by have := a.bd_pos R; show 1 ≤ 2 * (a.bd R + b.bd R); omega
  | .later a b => by have := a.bd_pos R; show 1 ≤ 2 * (a.bd R + b.bd R); omega
  | .earlier a b => by have := a.bd_pos R; show 1 ≤ 2 * (a.bd R + b.bd R); omega
def Tm.jn : Tm → Nat
  | .now => 0
  | .shift m _ => m.jn
  | .look _ m _ _ => m.jn
  | .either a b => a.jn + b.jn + 1
  | .later a b => a.jn + b.jn + 1
  | .earlier a b => a.jn + b.jn + 1
def Tm.lo : Tm → Nat
  | .now => 0
  | .shift m _ => m.lo
  | .look _ m _ _ => m.lo + 1
  | .either a b => a.lo + b.lo
  | .later a b => a.lo + b.lo
  | .earlier a b => a.lo + b.lo
theorem Tm.lo_sz : ∀ t : Tm, t.sz.l = (t.lo : Int)
  | .now => rfl
  | .shift m _ => by show (szOf 0 0 [m.sz]).l = _; rw [szOf1_l, m.lo_sz]; show _ = ((m.lo : Nat) : Int); omega
  | .look _ m _ _ => by show (szOf 1 1 [m.sz]).l = _; rw [szOf1_l, m.lo_sz]; show _ = ((m.lo + 1 : Nat) : Int); omega
  | .either a b => by show (szOf 0 0 [a.sz, b.sz]).l = _; rw [szOf2_l, a.lo_sz, b.lo_sz]; show _ = ((a.lo + b.lo : Nat) : Int); omega
  | .later a b => by show (szOf 0 1 [a.sz, b.sz]).l = _; rw [szOf2_l, a.lo_sz, b.lo_sz]; show _ = ((a.lo + b.lo : Nat) : Int); omega
  | .earlier a b => by show (szOf 0 1 [a.sz, b.sz]).l = _; rw [szOf2_l, a.lo_sz, b.lo_sz]; show _ = ((a.lo + b.lo : Nat) : Int); omega
theorem Tm.jn_sz : ∀ t : Tm, ((2 * t.jn + 1 + t.lo : Nat) : Int) ≤ t.sz.p
  | .now => by decide
  | .shift m _ => by show _ ≤ (szOf 0 0 [m.sz]).p; rw [szOf1_p]; have := m.jn_sz; show ((2 * m.jn + 1 + m.lo : Nat) : Int) ≤ _; omega
  | .look _ m _ _ => by show _ ≤ (szOf 1 1 [m.sz]).p; rw [szOf1_p]; have := m.jn_sz; show ((2 * m.jn + 1 + (m.lo + 1) : Nat) : Int) ≤ _; omega
  | .either a b => by show _ ≤ (szOf 0 0 [a.sz, b.sz]).p; rw [szOf2_p]; have := a.jn_sz; have := b.jn_sz; show ((2 * (a.jn + b.jn + 1) + 1 + (a.lo + b.lo) : Nat) : Int) ≤ _; omega
  | .later a b => by show _ ≤ (szOf 0 1 [a.sz, b.sz]).p; rw [szOf2_p]; have := a.jn_sz; have := b.jn_sz; show ((2 * (a.jn + b.jn + 1) + 1 + (a.lo + b.lo) : Nat) : Int) ≤ _; omega
  | .earlier a b => by show _ ≤ (szOf 0 1 [a.sz, b.sz]).p; rw [szOf2_p]; have := a.jn_sz; have := b.jn_sz; show ((2 * (a.jn + b.jn + 1) + 1 + (a.lo + b.lo) : Nat) : Int) ≤ _; omega
theorem pow_mono2 {M a b : Nat} (h : 1 ≤ M) : M ^ a ≤ M ^ (a + b) := Nat.pow_le_pow_right h (Nat.le_add_right _ _)
theorem bd_join {M x y a b i j : Nat} (hM : 1 ≤ M) (h1 : x + 2 * M ^ a ≤ M ^ a * (3 * 2 ^ i)) (h2 : y + 2 * M ^ b ≤ M ^ b * (3 * 2 ^ j)) : 2 * (x + y) + 2 * M ^ (a + b) ≤ M ^ (a + b) * (3 * 2 ^ (i + j + 1)) := by
  have e1 : M ^ a ≤ M ^ (a + b) := pow_mono2 hM
  have e2 : M ^ b ≤ M ^ (a + b) := by rw [Nat.add_comm a b]; exact pow_mono2 hM
  have i1 : 1 ≤ 2 ^ i := Nat.one_le_two_pow
  have j1 : 1 ≤ 2 ^ j := Nat.one_le_two_pow
  have p1 : 1 ≤ M ^ (a + b) := Nat.pow_pos hM
  rw [Nat.pow_succ, Nat.pow_add 2 i j]
  generalize M ^ (a + b) = N at e1 e2 p1 ⊢
  generalize M ^ a = A at h1 e1
  generalize M ^ b = B at h2 e2
  generalize 2 ^ i = I at h1 i1 ⊢
  generalize 2 ^ j = J at h2 j1 ⊢
  -- x ≤ A (3 I - 2) ≤ N (3 I - 2)
  have x1 : x + 2 * N ≤ N * (3 * I) := by
    obtain ⟨k, rfl⟩ := Nat.exists_eq_add_of_le e1
    obtain ⟨q, rfl⟩ := Nat.exists_eq_add_of_le i1
    have : k * (3 * (1 + q)) = 3 * k + 3 * (k * q) := by rw [Nat.mul_left_comm, Nat.mul_add k 1 q]; omega
    rw [Nat.add_mul]
    omega
  have y1 : y + 2 * N ≤ N * (3 * J) := by
    obtain ⟨k, rfl⟩ := Nat.exists_eq_add_of_le e2
    obtain ⟨q, rfl⟩ := Nat.exists_eq_add_of_le j1
    have : k * (3 * (1 + q)) = 3 * k + 3 * (k * q) := by rw [Nat.mul_left_comm, Nat.mul_add k 1 q]; omega
    rw [Nat.add_mul]
    omega
  obtain ⟨q, rfl⟩ := Nat.exists_eq_add_of_le i1
  obtain ⟨r, rfl⟩ := Nat.exists_eq_add_of_le j1
  have f1 : N * (3 * (1 + q)) = 3 * N + 3 * (N * q) := by rw [Nat.mul_left_comm, Nat.mul_add N 1 q]; omega
  have f2 : N * (3 * (1 + r)) = 3 * N + 3 * (N * r) := by rw [Nat.mul_left_comm, Nat.mul_add N 1 r]; omega
  have f3 : N * (3 * ((1 + q) * (1 + r) * 2)) = 6 * N + 6 * (N * q) + 6 * (N * r) + 6 * (N * (q * r)) := by
    have : (1 + q) * (1 + r) = 1 + q + r + q * r := by rw [Nat.add_mul, Nat.mul_add, Nat.mul_add]; omega
    rw [this]
    have : N * (3 * ((1 + q + r + q * r) * 2)) = 6 * (N * (1 + q + r + q * r)) := by
      rw [show 3 * ((1 + q + r + q * r) * 2) = 6 * (1 + q + r + q * r) by omega, Nat.mul_left_comm]
    rw [this, Nat.mul_add N (1 + q + r), Nat.mul_add N (1 + q), Nat.mul_add N 1]
    omega
  rw [f1] at x1
  rw [f2] at y1
  rw [f3]
  omega
theorem Tm.bd_le (R : Nat) : ∀ t : Tm, t.bd R + 2 * (2 * R + 1) ^ t.lo ≤ (2 * R + 1) ^ t.lo * (3 * 2 ^ t.jn)
  | .now => by show 1 + 2 * 1 ≤ 1 * (3 * 1); decide
  | .shift m _ => m.bd_le R
  | .look _ m _ _ => by
    have := m.bd_le R
    show m.bd R * (2 * R + 1) + 2 * (2 * R + 1) ^ (m.lo + 1) ≤ (2 * R + 1) ^ (m.lo + 1) * (3 * 2 ^ m.jn)
    rw [Nat.pow_succ]
    have h := Nat.mul_le_mul_right (2 * R + 1) this
    rw [Nat.add_mul, Nat.mul_assoc 2, Nat.mul_right_comm] at h
    exact h
  | .either a b => bd_join (by omega) (a.bd_le R) (b.bd_le R)
  | .later a b => bd_join (by omega) (a.bd_le R) (b.bd_le R)
  | .earlier a b => bd_join (by omega) (a.bd_le R) (b.bd_le R)
end Pl

namespace Pl
open PySem L2 PySem.Spec PyProof.Rows
/-! ### lists of stretches that don't touch -/
abbrev P2 := Option Int × Option Int
def aft (s t : P2) : Prop := ∃ x y, s.2 = some x ∧ t.1 = some y ∧ x + 2 ≤ y
def inU (ds : List P2) (n : Int) : Prop := ∃ s ∈ ds, inS s.1 s.2 n
def Nml (ds : List P2) : Prop := ds.Pairwise aft ∧ ∀ s ∈ ds, neS s.1 s.2
theorem neS_has {f l : Option Int} (h : neS f l) : ∃ n, inS f l n := by
  cases f with
  | some a => exact ⟨a, inS_lo rfl h⟩
  | none =>
    cases l with
    | none => exact ⟨0, fun _ z => (by cases z), fun _ z => (by cases z)⟩
    | some b => exact ⟨b, fun _ z => (by cases z), fun _ z => (by cases z; exact Int.le_refl _)⟩
/-- arbitrarily early moments of a stretch without a begin -/
theorem inS_early {l : Option Int} (m : Int) : ∃ n, n < m ∧ inS none l n := by
  cases l with
  | none => exact ⟨m - 1, by omega, fun _ z => (by cases z), fun _ z => (by cases z)⟩
  | some b => exact ⟨min (m - 1) b, by omega, fun _ z => (by cases z), fun _ z => (by cases z; omega)⟩
theorem inU_nil {n : Int} : ¬ inU [] n := fun ⟨_, h, _⟩ => by cases h
theorem inU_cons {d : P2} {r : List P2} {n : Int} : inU (d :: r) n ↔ inS d.1 d.2 n ∨ inU r n := by
  constructor
  · rintro ⟨s, hs, h⟩
    rcases List.mem_cons.mp hs with rfl | hs
    · exact .inl h
    · exact .inr ⟨s, hs, h⟩
  · rintro (h | ⟨s, hs, h⟩)
    · exact ⟨d, List.mem_cons_self, h⟩
    · exact ⟨s, List.mem_cons_of_mem _ hs, h⟩
theorem inU_app {ds es : List P2} {n : Int} : inU (ds ++ es) n ↔ inU ds n ∨ inU es n := by
  induction ds with
  | nil => exact ⟨fun h => .inr h, fun h => h.elim (fun h => absurd h inU_nil) id⟩
  | cons d r ih => rw [List.cons_append, inU_cons, inU_cons, ih]; exact or_assoc.symm
theorem inU_one {d : P2} {n : Int} : inU [d] n ↔ inS d.1 d.2 n := by
  rw [inU_cons]; exact ⟨fun h => h.elim id fun h => absurd h inU_nil, .inl⟩
theorem Nml.tl {d : P2} {r : List P2} (h : Nml (d :: r)) : Nml r := ⟨(List.pairwise_cons.mp h.1).2, fun s hs => h.2 s (List.mem_cons_of_mem _ hs)⟩
theorem Nml.far {d : P2} {r : List P2} (h : Nml (d :: r)) {n : Int} (hn : inU r n) : ∃ x, d.2 = some x ∧ x + 2 ≤ n := by
  obtain ⟨s, hs, k⟩ := hn
  obtain ⟨x, y, e1, e2, e3⟩ := (List.pairwise_cons.mp h.1).1 s hs
  have := k.1 y e2
  exact ⟨x, e1, by omega⟩
/-- the first begin -/
theorem Nml.lo {d e : P2} {r q : List P2} (h : Nml (d :: r)) (g : Nml (e :: q)) (sub : ∀ n, inU (d :: r) n → inU (e :: q) n) {y : Int} (he : e.1 = some y) : ∃ x, d.1 = some x ∧ y ≤ x := by
  have low : ∀ n, inU (e :: q) n → y ≤ n := fun n hn => by
    rcases inU_cons.mp hn with k | k
    · exact k.1 y he
    · obtain ⟨z, e1, e2⟩ := g.far k
      have := g.2 e List.mem_cons_self y z he e1
      omega
  have ne := h.2 d List.mem_cons_self
  cases hd : d.1 with
  | none =>
    obtain ⟨n, lt, hn⟩ := inS_early (l := d.2) y
    have := low n (sub n (inU_cons.mpr (.inl (by rw [hd]; exact hn))))
    omega
  | some x => exact ⟨x, rfl, low x (sub x (inU_cons.mpr (.inl (inS_lo hd ne))))⟩
theorem Nml.begin_eq {d e : P2} {r q : List P2} (h : Nml (d :: r)) (g : Nml (e :: q)) (sub : ∀ n, inU (d :: r) n ↔ inU (e :: q) n) : d.1 = e.1 := by
  cases hd : d.1 with
  | none =>
    cases he : e.1 with
    | none => rfl
    | some y =>
      obtain ⟨x, e1, _⟩ := h.lo g (fun n => (sub n).mp) he
      rw [hd] at e1; cases e1
  | some x =>
    obtain ⟨y, e1, l1⟩ := g.lo h (fun n => (sub n).mpr) hd
    obtain ⟨x', e2, l2⟩ := h.lo g (fun n => (sub n).mp) e1
    rw [hd] at e2; cases e2
    rw [e1]; congr 1; omega
/-- the first end -/
theorem Nml.hi {d e : P2} {r q : List P2} (h : Nml (d :: r)) (g : Nml (e :: q)) (sub : ∀ n, inU (d :: r) n → inU (e :: q) n) (eq : d.1 = e.1) {y : Int} (he : e.2 = some y) : ∃ x, d.2 = some x ∧ x ≤ y := by
  have no : ¬ inU (e :: q) (y + 1) := fun hn => by
    rcases inU_cons.mp hn with k | k
    · have := k.2 y he; omega
    · obtain ⟨z, e1, e2⟩ := g.far k
      rw [he] at e1; cases e1
      omega
  have lo : ∀ a, d.1 = some a → a ≤ y := fun a ha => g.2 e List.mem_cons_self a y (eq ▸ ha) he
  have no' : ¬ inS d.1 d.2 (y + 1) := fun k => no (sub _ (inU_cons.mpr (.inl k)))
  cases hd : d.2 with
  | none =>
    refine absurd ⟨fun a ha => ?_, fun b hb => ?_⟩ no'
    · have := lo a ha; omega
    · rw [hd] at hb; cases hb
  | some x =>
    refine ⟨x, rfl, Int.not_lt.mp fun lt => no' ⟨fun a ha => ?_, fun b hb => ?_⟩⟩
    · have := lo a ha; omega
    · rw [hd] at hb; cases hb; omega
theorem Nml.end_eq {d e : P2} {r q : List P2} (h : Nml (d :: r)) (g : Nml (e :: q)) (sub : ∀ n, inU (d :: r) n ↔ inU (e :: q) n) : d.2 = e.2 := by
  have eq := h.begin_eq g sub
  cases hd : d.2 with
  | none =>
    cases he : e.2 with
    | none => rfl
    | some y =>
      obtain ⟨x, e1, _⟩ := h.hi g (fun n => (sub n).mp) eq he
      rw [hd] at e1; cases e1
  | some x =>
    obtain ⟨y, e1, l1⟩ := g.hi h (fun n => (sub n).mpr) eq.symm hd
    obtain ⟨x', e2, l2⟩ := h.hi g (fun n => (sub n).mp) eq e1
    rw [hd] at e2; cases e2
    rw [e1]; congr 1; omega
theorem Nml.uniq : ∀ {ds es : List P2}, Nml ds → Nml es → (∀ n, inU ds n ↔ inU es n) → ds = es
  | [], [], _, _, _ => rfl
  | [], e :: q, _, g, sub => by
    obtain ⟨n, hn⟩ := neS_has (g.2 e List.mem_cons_self)
    exact absurd ((sub n).mpr (inU_cons.mpr (.inl hn))) inU_nil
  | d :: r, [], h, _, sub => by
    obtain ⟨n, hn⟩ := neS_has (h.2 d List.mem_cons_self)
    exact absurd ((sub n).mp (inU_cons.mpr (.inl hn))) inU_nil
  | d :: r, e :: q, h, g, sub => by
    have e1 := h.begin_eq g sub
    have e2 := h.end_eq g sub
    obtain rfl : d = e := Prod.ext e1 e2
    have out : ∀ {t : List P2}, Nml (d :: t) → ∀ n, inU t n → ¬ inS d.1 d.2 n := fun k n hn z => by
      obtain ⟨x, e1, e2⟩ := k.far hn
      have := z.2 x e1; omega
    rw [Nml.uniq h.tl g.tl fun n => ⟨fun k => ?_, fun k => ?_⟩]
    · rcases inU_cons.mp ((sub n).mp (inU_cons.mpr (.inr k))) with z | z
      · exact absurd z (out h n k)
      · exact z
    · rcases inU_cons.mp ((sub n).mpr (inU_cons.mpr (.inr k))) with z | z
      · exact absurd z (out g n k)
      · exact z
/-! ### the differences, found one after the other -/
/-- ds tells S of all moments done (D) -/
def Dn (S D : Int → Prop) (ds : List P2) : Prop := Nml ds ∧ ∀ n, inU ds n ↔ D n ∧ S n
theorem Dn.skip {S D D' : Int → Prop} {ds : List P2} (h : Dn S D ds) (up : ∀ n, D n → D' n) (no : ∀ n, D' n → ¬ D n → ¬ S n) : Dn S D' ds := ⟨h.1, fun n => by
  rw [h.2]
  exact ⟨fun ⟨a, b⟩ => ⟨up n a, b⟩, fun ⟨a, b⟩ => ⟨Classical.byContradiction fun z => no n a z b, b⟩⟩⟩
/-- all that is done lies before the begin f -/
def Bef (D : Int → Prop) (f : Option Int) : Prop := ∀ n, D n → ∃ x, f = some x ∧ n < x
theorem Dn.ends {S D : Int → Prop} {ds : List P2} {f : Option Int} (h : Dn S D ds) (b : Bef D f) {s : P2} (hs : s ∈ ds) : ∃ y x, s.2 = some y ∧ f = some x ∧ y < x ∧ ∀ a, s.1 = some a → a ≤ y := by
  have ne := h.1.2 s hs
  obtain ⟨n, hn⟩ := neS_has ne
  obtain ⟨x, hx, lt⟩ := b n ((h.2 n).mp ⟨s, hs, hn⟩).1
  cases e : s.2 with
  | none =>
    have : inS s.1 s.2 (max n x) := ⟨fun a ha => by have := hn.1 a ha; omega, fun z hz => by rw [e] at hz; cases hz⟩
    obtain ⟨x', hx', lt'⟩ := b _ ((h.2 _).mp ⟨s, hs, this⟩).1
    rw [hx] at hx'; cases hx'
    omega
  | some y =>
    have : inS s.1 s.2 y := ⟨fun a ha => ne a y ha e, fun z hz => by rw [e] at hz; cases hz; exact Int.le_refl _⟩
    obtain ⟨x', hx', lt'⟩ := b _ ((h.2 _).mp ⟨s, hs, this⟩).1
    exact ⟨y, x', rfl, hx', lt', fun a ha => ne a y ha e⟩
theorem Dn.add {S D : Int → Prop} {ds : List P2} {f l : Option Int} (h : Dn S D ds) (b : Bef D f) (ne : neS f l) (hS : ∀ n, inS f l n → S n) (nt : ∀ ds0 s, ds = ds0 ++ [s] → ∀ y, s.2 = some y → f ≠ some (y + 1)) : Dn S (fun n => D n ∨ inS f l n) (ds ++ [(f, l)]) := by
  refine ⟨⟨List.pairwise_append.mpr ⟨h.1.1, List.pairwise_singleton _ _, fun s hs t ht => ?_⟩, fun s hs => ?_⟩, fun n => ?_⟩
  · rw [List.mem_singleton.mp ht]
    obtain ⟨y, x, e1, e2, lt, _⟩ := h.ends b hs
    refine ⟨y, x, e1, e2, ?_⟩
    rcases List.eq_nil_or_concat ds with rfl | ⟨ds0, s1, e⟩
    · cases hs
    · rw [List.concat_eq_append] at e
      subst e
      rcases List.mem_append.mp hs with k | k
      · obtain ⟨u, v, z1, z2, z3⟩ := (List.pairwise_append.mp h.1.1).2.2 s k s1 (List.mem_singleton.mpr rfl)
        obtain ⟨y', x', w1, w2, lt', w4⟩ := h.ends b (List.mem_append_right _ (List.mem_singleton.mpr rfl) : s1 ∈ ds0 ++ [s1])
        rw [e1] at z1; cases z1
        rw [e2] at w2; cases w2
        have := w4 v z2
        omega
      · obtain rfl := List.mem_singleton.mp k
        have := nt ds0 s rfl y e1
        rw [e2] at this
        have : x ≠ y + 1 := fun z => this (by rw [z])
        omega
  · rcases List.mem_append.mp hs with k | k
    · exact h.1.2 s k
    · rw [List.mem_singleton.mp k]; exact ne
  · rw [inU_app, inU_one, h.2]
    constructor
    · rintro (⟨a, c⟩ | a)
      · exact ⟨.inl a, c⟩
      · exact ⟨.inr a, hS n a⟩
    · rintro ⟨a | a, c⟩
      · exact .inl ⟨a, c⟩
      · exact .inr a
theorem Dn.merge {S D : Int → Prop} {ds : List P2} {g l : Option Int} {y : Int} (h : Dn S D (ds ++ [(g, some y)])) (ne : neS (some (y + 1)) l) (hS : ∀ n, inS (some (y + 1)) l n → S n) : Dn S (fun n => D n ∨ inS (some (y + 1)) l n) (ds ++ [(g, l)]) := by
  have ng : neS g (some y) := h.1.2 (g, some y) (List.mem_append_right _ (List.mem_singleton.mpr rfl))
  have join : ∀ n, inS g l n ↔ inS g (some y) n ∨ inS (some (y + 1)) l n := fun n => by
    constructor
    · intro k
      by_cases c : n ≤ y
      · exact .inl ⟨k.1, fun z hz => by cases hz; exact c⟩
      · exact .inr ⟨fun a ha => by cases ha; omega, k.2⟩
    · rintro (k | k)
      · refine ⟨k.1, fun z hz => ?_⟩
        have := ne (y + 1) z rfl hz
        have := k.2 y rfl
        omega
      · refine ⟨fun a ha => ?_, k.2⟩
        have := ng a y ha rfl
        have := k.1 (y + 1) rfl
        omega
  obtain ⟨p1, _, p3⟩ := List.pairwise_append.mp h.1.1
  refine ⟨⟨List.pairwise_append.mpr ⟨p1, List.pairwise_singleton _ _, fun s hs t ht => ?_⟩, fun s hs => ?_⟩, fun n => ?_⟩
  · rw [List.mem_singleton.mp ht]
    exact p3 s hs (g, some y) (List.mem_singleton.mpr rfl)
  · rcases List.mem_append.mp hs with k | k
    · exact h.1.2 s (List.mem_append_left _ k)
    · rw [List.mem_singleton.mp k]
      intro a z ha hz
      have := ng a y ha rfl
      have := ne (y + 1) z rfl hz
      omega
  · have old := h.2 n
    rw [inU_app, inU_one] at old ⊢
    show inU ds n ∨ inS g l n ↔ _
    rw [join n, ← or_assoc]
    have old : inU ds n ∨ inS g (some y) n ↔ D n ∧ S n := old
    rw [old]
    constructor
    · rintro (⟨a, c⟩ | a)
      · exact ⟨.inl a, c⟩
      · exact ⟨.inr a, hS n a⟩
    · rintro ⟨a | a, c⟩
      · exact .inl ⟨a, c⟩
      · exact .inr a
/-- stretches still to be added, up to T -/
inductive Go (S T : Int → Prop) : (Int → Prop) → List P2 → Prop
  | nil {D : Int → Prop} : (∀ n, D n → T n) → (∀ n, T n → ¬ D n → ¬ S n) → Go S T D []
  | cons {D D1 : Int → Prop} {f l : Option Int} {r : List P2} : neS f l → (∀ n, D n → D1 n) → (∀ n, D1 n → ¬ D n → ¬ S n) → Bef D1 f → (∀ n, inS f l n → S n) → Go S T (fun n => D1 n ∨ inS f l n) r → Go S T D ((f, l) :: r)
/-- what two forms differ in -/
def dfr (f l : Option Int) : Fm → Fm → List P2
  | .row k, .sh c => clip f l none (some (k - c - 1)) ++ clip f l (some (k - c + 1)) none
  | .sh c, .row k => clip f l none (some (k - c - 1)) ++ clip f l (some (k - c + 1)) none
  | a, b => if a = b then [] else [(f, l)]
theorem cut2_go {S D D2 : Int → Prop} {f l : Option Int} {m : Int} (bf : Bef D f) (hS : ∀ n, inS f l n → (S n ↔ n ≠ m)) (h1 : ∀ n, D n → D2 n) (h2 : ∀ n, D2 n → D n ∨ inS f l n) (h3 : ∀ n, inS f l n → n < m → D2 n) (h4 : ∀ n, D2 n → D n ∨ n < m) : Go S (fun n => D n ∨ inS f l n) D2 (clip f l (some (m + 1)) none) := by
  rcases clip_is (f := f) (l := l) (b := some (m + 1)) (e := none) with ⟨z, no⟩ | ⟨z, ne⟩
  · rw [z]
    refine .nil h2 fun n hT hD hs => ?_
    rcases hT with h | h
    · exact hD (h1 n h)
    · have n1 : ¬ n < m := fun c => hD (h3 n h c)
      have n2 : ¬ m + 1 ≤ n := fun c => no n ⟨h, fun a ha => (by cases ha; exact c), fun _ w => (by cases w)⟩
      exact (hS n h).mp hs (by omega)
  · rw [z]
    obtain ⟨x, hx, x1, x2⟩ : ∃ x, laterB f (some (m + 1)) = some x ∧ m + 1 ≤ x ∧ ∀ a, f = some a → a ≤ x := by
      cases f with
      | none => exact ⟨m + 1, rfl, Int.le_refl _, fun _ w => (by cases w)⟩
      | some a =>
        refine ⟨_, rfl, ?_, fun a' w => ?_⟩
        · split <;> omega
        · cases w; split <;> omega
    have x3 : ∀ n, inS f l n → n < x → n ≤ m := fun n hn lt => by
      refine Int.not_lt.mp fun c => ?_
      have : inS (laterB f (some (m + 1))) (soonE l none) n := inS_clip.mpr ⟨hn, fun a ha => (by cases ha; omega), fun _ w => (by cases w)⟩
      have := this.1 x hx
      omega
    have z2 : ∀ n, inS (laterB f (some (m + 1))) (soonE l none) n ↔ inS f l n ∧ m + 1 ≤ n := fun n => by
      rw [inS_clip]
      exact ⟨fun ⟨p, q⟩ => ⟨p, q.1 _ rfl⟩, fun ⟨p, q⟩ => ⟨p, fun a ha => (by cases ha; exact q), fun _ w => (by cases w)⟩⟩
    refine .cons (D1 := fun n => (D n ∨ inS f l n) ∧ n < x) ne (fun n h => ⟨h2 n h, ?_⟩) (fun n ⟨hT, lt⟩ hD hs => ?_) (fun n ⟨_, lt⟩ => ⟨x, hx, lt⟩) (fun n h => ?_) (.nil (fun n h => ?_) fun n hT hD hs => ?_)
    · rcases h4 n h with k | k
      · obtain ⟨y, hy, lt⟩ := bf n k
        have := x2 y hy; omega
      · omega
    · rcases hT with h | h
      · exact hD (h1 n h)
      · have n1 : ¬ n < m := fun c => hD (h3 n h c)
        have := x3 n h lt
        exact (hS n h).mp hs (by omega)
    · obtain ⟨p, q⟩ := (z2 n).mp h
      exact (hS n p).mpr (by omega)
    · rcases h with ⟨h, _⟩ | h
      · exact h
      · exact .inr ((z2 n).mp h).1
    · by_cases lt : n < x
      · exact hD (.inl ⟨hT, lt⟩)
      · rcases hT with h | h
        · obtain ⟨y, hy, l2⟩ := bf n h
          have := x2 y hy; omega
        · exact hD (.inr ((z2 n).mpr ⟨h, by omega⟩))
theorem cut1_go {S D : Int → Prop} {f l : Option Int} {m : Int} (bf : Bef D f) (hS : ∀ n, inS f l n → (S n ↔ n ≠ m)) : Go S (fun n => D n ∨ inS f l n) D (clip f l none (some (m - 1)) ++ clip f l (some (m + 1)) none) := by
  rcases clip_is (f := f) (l := l) (b := none) (e := some (m - 1)) with ⟨z, no⟩ | ⟨z, ne⟩
  · rw [z]
    exact cut2_go bf hS (fun n h => h) (fun n h => .inl h) (fun n h lt => absurd ⟨h, fun _ w => (by cases w), fun b hb => (by cases hb; omega)⟩ (no n)) (fun n h => .inl h)
  · rw [z]
    have e1 : laterB f none = f := by cases f <;> rfl
    rw [e1] at ne ⊢
    have z2 : ∀ n, inS f (soonE l (some (m - 1))) n ↔ inS f l n ∧ n ≤ m - 1 := fun n => by
      have := inS_clip (f := f) (l := l) (b := none) (e := some (m - 1)) (n := n)
      rw [e1] at this
      rw [this]
      exact ⟨fun ⟨p, q⟩ => ⟨p, q.2 _ rfl⟩, fun ⟨p, q⟩ => ⟨p, fun _ w => (by cases w), fun b hb => (by cases hb; exact q)⟩⟩
    refine .cons (D1 := D) ne (fun n h => h) (fun n h k => absurd h k) bf (fun n h => ?_) (cut2_go bf hS (fun n h => .inl h) (fun n h => ?_) (fun n h lt => .inr ((z2 n).mpr ⟨h, by omega⟩)) (fun n h => ?_))
    · obtain ⟨p, q⟩ := (z2 n).mp h
      exact (hS n p).mpr (by omega)
    · exact h.imp id fun h => ((z2 n).mp h).1
    · exact h.imp id fun h => by have := ((z2 n).mp h).2; omega
theorem dfr_go {S D : Int → Prop} {f l : Option Int} {a b : Fm} (bf : Bef D f) (ne : neS f l) (hS : ∀ n, inS f l n → (S n ↔ a.at n ≠ b.at n)) : Go S (fun n => D n ∨ inS f l n) D (dfr f l a b) := by
  have all : a ≠ b → (∀ n, a.at n ≠ b.at n) → Go S (fun n => D n ∨ inS f l n) D (if a = b then [] else [(f, l)]) := fun h k => by
    rw [if_neg h]
    exact .cons (D1 := D) ne (fun n h => h) (fun n h k => absurd h k) bf (fun n h => (hS n h).mpr (k n)) (.nil (fun n h => h) fun n h k => absurd h k)
  have none_ : a = b → Go S (fun n => D n ∨ inS f l n) D (if a = b then [] else [(f, l)]) := fun h => by
    rw [if_pos h]
    exact .nil (fun n h => .inl h) fun n hT hD hs => hT.elim hD fun k => (hS n k).mp hs (by rw [h])
  cases a with
  | no =>
    cases b with
    | no => exact none_ rfl
    | row k => exact all (by intro z; cases z) (fun n z => by cases z)
    | sh k => exact all (by intro z; cases z) (fun n z => by cases z)
  | row k =>
    cases b with
    | no => exact all (by intro z; cases z) (fun n z => by cases z)
    | row c =>
      by_cases e : k = c
      · exact none_ (by rw [e])
      · exact all (by intro z; cases z; exact e rfl) (fun n z => by injection z with z; exact e z)
    | sh c =>
      refine cut1_go (m := k - c) bf fun n hn => (hS n hn).trans ?_
      show some k ≠ some (c + n) ↔ _
      exact ⟨fun h z => h (by congr 1; omega), fun h z => h (by injection z with z; omega)⟩
  | sh c =>
    cases b with
    | no => exact all (by intro z; cases z) (fun n z => by cases z)
    | row k =>
      refine cut1_go (m := k - c) bf fun n hn => (hS n hn).trans ?_
      show some (c + n) ≠ some k ↔ _
      exact ⟨fun h z => h (by congr 1; omega), fun h z => h (by injection z with z; omega)⟩
    | sh k =>
      by_cases e : c = k
      · exact none_ (by rw [e])
      · exact all (by intro z; cases z; exact e rfl) (fun n z => by injection z with z; exact e (by omega))
theorem dfr_len {f l : Option Int} {a b : Fm} : (dfr f l a b).length ≤ 2 := by
  have h : ∀ m, (clip f l none (some (m - 1)) ++ clip f l (some (m + 1)) none).length ≤ 2 := fun m => by
    rw [List.length_append]
    rcases clip_is (f := f) (l := l) (b := none) (e := some (m - 1)) with ⟨z, _⟩ | ⟨z, _⟩ <;> rcases clip_is (f := f) (l := l) (b := some (m + 1)) (e := none) with ⟨z', _⟩ | ⟨z', _⟩ <;> rw [z, z'] <;> simp
  have g : (if a = b then ([] : List P2) else [(f, l)]).length ≤ 2 := by split <;> simp
  cases a <;> cases b <;> first | exact g | exact h _
/-- before a begin -/
def bel (b : Option Int) (n : Int) : Prop := ∃ m, b = some m ∧ n < m
theorem bel_bef (b : Option Int) : Bef (bel b) b := fun _ h => h
theorem Dn.iff {S D D' : Int → Prop} {ds : List P2} (h : Dn S D ds) (e : ∀ n, D n ↔ D' n) : Dn S D' ds := h.skip (fun n => (e n).mp) fun n a b => absurd ((e n).mpr a) b
theorem bel_next {b : Option Int} {m : Int} (ne : neS b (some m)) (n : Int) : (bel b n ∨ inS b (some m) n) ↔ bel (some (m + 1)) n := by
  constructor
  · rintro (⟨x, rfl, lt⟩ | h)
    · have := ne x m rfl rfl
      exact ⟨m + 1, rfl, by omega⟩
    · have := h.2 m rfl
      exact ⟨m + 1, rfl, by omega⟩
  · rintro ⟨x, e, lt⟩
    cases e
    cases b with
    | none => exact .inr ⟨fun _ z => (by cases z), fun w hw => (by cases hw; omega)⟩
    | some x =>
      by_cases c : n < x
      · exact .inl ⟨x, rfl, c⟩
      · exact .inr ⟨fun w hw => (by cases hw; omega), fun w hw => (by cases hw; omega)⟩
theorem bel_end {b : Option Int} (n : Int) : (bel b n ∨ inS b none n) ↔ True := by
  refine ⟨fun _ => trivial, fun _ => ?_⟩
  cases b with
  | none => exact .inr ⟨fun _ z => (by cases z), fun _ z => (by cases z)⟩
  | some x =>
    by_cases c : n < x
    · exact .inl ⟨x, rfl, c⟩
    · exact .inr ⟨fun w hw => (by cases hw; omega), fun _ z => (by cases z)⟩
theorem Go.inv {S T D : Int → Prop} {f l : Option Int} {r : List P2} (h : Go S T D ((f, l) :: r)) : ∃ D1 : Int → Prop, neS f l ∧ (∀ n, D n → D1 n) ∧ (∀ n, D1 n → ¬ D n → ¬ S n) ∧ Bef D1 f ∧ (∀ n, inS f l n → S n) ∧ Go S T (fun n => D1 n ∨ inS f l n) r := by
  cases h with
  | cons a b c d e g => exact ⟨_, a, b, c, d, e, g⟩
theorem Go.done {S T D : Int → Prop} (h : Go S T D []) {ds : List P2} (k : Dn S D ds) : Dn S T ds := by
  cases h with
  | nil a b => exact k.skip a b
end Pl

namespace Pl
open PySem L2 PySem.Spec PyProof.Rows
def neg (l : List Int) : List Int := l.map fun x => 0 - x
theorem IsRow.mem {l l' : List Int} {wy : Str} {m : Int} (h : ∀ x, x ∈ l ↔ x ∈ l') : ∀ {o : Option Int}, IsRow l wy m o → IsRow l' wy m o
  | some r, ⟨h1, h2, h3⟩ => ⟨(h r).mp h1, h2, fun x hx => h3 x ((h x).mpr hx)⟩
  | none, h0 => fun x hx => h0 x ((h x).mpr hx)
def pairs4 : List (Str × Str) := [(Str.ofString "at", Str.ofString "since"), (Str.ofString "since", Str.ofString "at"), (Str.ofString "before", Str.ofString "after"), (Str.ofString "after", Str.ofString "before")]
theorem pairs_in : ∀ w ∈ pairs4, w.1 ∈ ways ∧ w.2 ∈ ways := by decide +kernel
theorem side_mir {w : Str × Str} (hw : w ∈ pairs4) (x m : Int) : sideB w.2 (0 - x) (0 - m) = sideB w.1 x m ∧ back w.2 = !back w.1 := by
  have nab : ¬ ((Str.ofString "before") = (Str.ofString "at")) := by decide +kernel
  have nsa : ¬ ((Str.ofString "since") = (Str.ofString "at")) := by decide +kernel
  have nsb : ¬ ((Str.ofString "since") = (Str.ofString "before")) := by decide +kernel
  have nfa : ¬ ((Str.ofString "after") = (Str.ofString "at")) := by decide +kernel
  have nfb : ¬ ((Str.ofString "after") = (Str.ofString "before")) := by decide +kernel
  have nfs : ¬ ((Str.ofString "after") = (Str.ofString "since")) := by decide +kernel
  have c : w = (Str.ofString "at", Str.ofString "since") ∨ w = (Str.ofString "since", Str.ofString "at") ∨ w = (Str.ofString "before", Str.ofString "after") ∨ w = (Str.ofString "after", Str.ofString "before") := by simpa [pairs4] using hw
  rcases c with rfl | rfl | rfl | rfl <;> refine ⟨?_, by decide +kernel⟩ <;> simp [sideB, nab, nsa, nsb, nfa, nfb, nfs] <;> omega
theorem IsRow.mir {l : List Int} {w : Str × Str} {m : Int} (hw : w ∈ pairs4) : ∀ {o : Option Int}, IsRow (neg l) w.2 (0 - m) o → IsRow l w.1 m (o.map fun x => 0 - x) := by
  have mem : ∀ x, x ∈ neg l ↔ 0 - x ∈ l := fun x => by
    unfold neg
    rw [List.mem_map]
    constructor
    · rintro ⟨y, hy, e⟩; rw [← e]; simpa using hy
    · intro h; exact ⟨_, h, by omega⟩
  intro o h
  cases o with
  | none =>
    intro x hx
    have := h (0 - x) ((mem _).mpr (by simpa using hx))
    rw [(side_mir hw x m).1] at this
    exact this
  | some r =>
    obtain ⟨h1, h2, h3⟩ := h
    have e : r = 0 - (0 - r) := by omega
    refine ⟨(mem r).mp h1, ?_, fun x hx hs => ?_⟩
    · rw [← (side_mir hw (0 - r) m).1, ← e]; exact h2
    · have q := h3 (0 - x) ((mem _).mpr (by simpa using hx)) (by rw [(side_mir hw x m).1]; exact hs)
      rw [(side_mir hw x m).2] at q
      revert q
      cases back w.1 <;> simp <;> omega
theorem lim_mir {lim : Option Int} {r m : Int} : inLim lim (0 - r) (0 - m) = inLim lim r m := by
  cases lim with
  | none => rfl
  | some i =>
    unfold inLim
    have e : (if 0 - r - (0 - m) < 0 then -(0 - r - (0 - m)) else 0 - r - (0 - m)) = (if r - m < 0 then -(r - m) else r - m) := by split <;> split <;> omega
    show decide (_ ≤ i) = decide (_ ≤ i)
    rw [e]
def lkAns (l : List Int) (wy : Str) (lim : Option Int) (m : Int) : Option Int := (lkRow (srt l) wy m).bind fun r => if inLim lim r m then some r else none
theorem ans_mir {l : List Int} {w : Str × Str} {lim : Option Int} {m : Int} (hw : w ∈ pairs4) : lkAns l w.1 lim m = (lkAns (neg l) w.2 lim (0 - m)).map fun x => 0 - x := by
  have ms : ∀ l : List Int, ∀ x, x ∈ srt l ↔ x ∈ l := fun l x => (srt_perm l).mem_iff
  have R1 := (lkRow_is (m := m) (srt_up l) (pairs_in w hw).1).mem (ms l)
  have R2 := ((lkRow_is (m := 0 - m) (srt_up (neg l)) (pairs_in w hw).2).mem (ms _)).mir hw
  have e := R1.uniq R2
  unfold lkAns
  rw [e]
  cases lkRow (srt (neg l)) w.2 (0 - m) with
  | none => rfl
  | some r =>
    show (if inLim lim (0 - r) m then some (0 - r) else none) = (if inLim lim r (0 - m) then some r else none).map fun x => 0 - x
    have : inLim lim (0 - r) m = inLim lim r (0 - m) := by
      have := lim_mir (lim := lim) (r := 0 - r) (m := m)
      rw [← this]; congr 1; omega
    rw [this]
    split <;> rfl
/-! ### the answers, by what rows each stream has -/
def Tm.ansF (f : Str → List Int) : Tm → Int → Option Int
  | .now, n => some n
  | .shift m c, n => (m.ansF f n).map (· + c)
  | .look z m wy lim, n => (m.ansF f n).bind fun x => lkAns (f z) wy lim x
  | .either a b, n => match a.ansF f n with
    | some r => some r
    | none => b.ansF f n
  | .later a b, n => (a.ansF f n).bind fun x => (b.ansF f n).bind fun y => some (if y > x then y else x)
  | .earlier a b, n => (a.ansF f n).bind fun x => (b.ansF f n).bind fun y => some (if y < x then y else x)
theorem rowsOf_at {rs : Rs} : ∀ {i : Nat} {z : Str} {l : List Int}, (rs.map (·.1)).Nodup → rs[i]? = some (z, l) → rowsOf rs z = l := by
  induction rs with
  | nil => intro i z l _ h; simp at h
  | cons x r ih =>
    intro i z l nd h
    obtain ⟨a, b⟩ := x
    unfold rowsOf
    cases i with
    | zero => cases h; rw [List.lookup_cons_self]; rfl
    | succ i =>
      rw [List.getElem?_cons_succ] at h
      have nd : a ∉ r.map (·.1) ∧ (r.map (·.1)).Nodup := List.nodup_cons.mp nd
      have ne : z ≠ a := fun e => nd.1 (by rw [← e]; exact List.mem_map.mpr ⟨_, List.mem_of_getElem? h, rfl⟩)
      have e : (z == a) = false := by simpa using ne
      rw [List.lookup_cons, e]
      exact ih nd.2 h
theorem rowsOf_none {rs : Rs} {z : Str} (h : z ∉ rs.map (·.1)) : rowsOf rs z = [] := by
  unfold rowsOf; rw [look_no h]; rfl
theorem srt_nil : srt [] = [] := List.length_eq_zero_iff.mp (srt_len [])
theorem rowsOf_srs {rs : Rs} (nd : (rs.map (·.1)).Nodup) (z : Str) : rowsOf (srs rs) z = srt (rowsOf rs z) := by
  by_cases h : z ∈ rs.map (·.1)
  · obtain ⟨r, hr, e⟩ := List.mem_map.mp h
    obtain ⟨i, hi⟩ := List.mem_iff_getElem?.mp hr
    have hi' : rs[i]? = some (z, r.2) := by rw [hi, ← e]
    rw [rowsOf_at nd hi']
    by_cases e0 : r.2 = []
    · have : z ∉ (srs rs).map (·.1) := fun m => by
        obtain ⟨q, hq, eq⟩ := List.mem_map.mp m
        obtain ⟨y, hy, ey⟩ := List.mem_map.mp hq
        obtain ⟨hy1, hy2⟩ := List.mem_filter.mp hy
        obtain ⟨j, hj⟩ := List.mem_iff_getElem?.mp hy1
        have ez : y.1 = z := by rw [← eq, ← ey]
        have e1 := rowsOf_at nd (show rs[j]? = some (z, y.2) by rw [hj, ← ez])
        rw [rowsOf_at nd hi', e0] at e1
        rw [← e1] at hy2
        cases hy2
      rw [rowsOf_none this, e0, srt_nil]
    · have m : (z, srt r.2) ∈ srs rs := List.mem_map.mpr ⟨r, List.mem_filter.mpr ⟨hr, by cases e2 : r.2 with | nil => exact absurd e2 e0 | cons _ _ => rfl⟩, by rw [← e]⟩
      obtain ⟨j, hj⟩ := List.mem_iff_getElem?.mp m
      exact rowsOf_at (srs_nd nd) hj
  · rw [rowsOf_none h, rowsOf_none fun m => h (srs_names _ m), srt_nil]
theorem Tm.ans_F {rs : Rs} (nd : (rs.map (·.1)).Nodup) : ∀ (t : Tm) (n : Int), t.ans (srs rs) n = t.ansF (rowsOf rs) n
  | .now, n => rfl
  | .shift m c, n => by show (m.ans (srs rs) n).map _ = (m.ansF _ n).map _; rw [ans_F nd m n]
  | .look z m wy lim, n => by
    show ((m.ans (srs rs) n).bind _) = (m.ansF _ n).bind _
    rw [ans_F nd m n, rowsOf_srs nd]; rfl
  | .either a b, n => by
    show (match a.ans (srs rs) n with | some r => some r | none => b.ans (srs rs) n) = (match a.ansF _ n with | some r => some r | none => b.ansF _ n)
    rw [ans_F nd a n, ans_F nd b n]
  | .later a b, n => by
    show ((a.ans (srs rs) n).bind fun x => (b.ans (srs rs) n).bind _) = ((a.ansF _ n).bind fun x => (b.ansF _ n).bind _)
    rw [ans_F nd a n, ans_F nd b n]
  | .earlier a b, n => by
    show ((a.ans (srs rs) n).bind fun x => (b.ans (srs rs) n).bind _) = ((a.ansF _ n).bind fun x => (b.ansF _ n).bind _)
    rw [ans_F nd a n, ans_F nd b n]
/-! ### moved -/
theorem side_mv {wy : Str} (x m c : Int) : sideB wy (x + c) (m + c) = sideB wy x m := by
  unfold sideB
  simp
theorem lim_mv {lim : Option Int} {r m c : Int} : inLim lim (r + c) (m + c) = inLim lim r m := by
  cases lim with
  | none => rfl
  | some i =>
    unfold inLim
    rw [show r + c - (m + c) = r - m by omega]
theorem lkAns_mv {l : List Int} {wy : Str} {lim : Option Int} {m c : Int} (hw : wy ∈ ways) : lkAns (l.map (· + c)) wy lim (m + c) = (lkAns l wy lim m).map (· + c) := by
  have ms : ∀ l : List Int, ∀ x, x ∈ srt l ↔ x ∈ l := fun l x => (srt_perm l).mem_iff
  have mem : ∀ x, x ∈ l.map (· + c) ↔ x - c ∈ l := fun x => by
    rw [List.mem_map]
    exact ⟨fun ⟨y, hy, e⟩ => by rw [← e]; simpa using hy, fun h => ⟨_, h, by omega⟩⟩
  have R1 := (lkRow_is (m := m) (srt_up l) hw).mem (ms l)
  have R2 := (lkRow_is (m := m + c) (srt_up (l.map (· + c))) hw).mem (ms _)
  have R3 : IsRow (l.map (· + c)) wy (m + c) ((lkRow (srt l) wy m).map (· + c)) := by
    cases e : lkRow (srt l) wy m with
    | none =>
      rw [e] at R1
      intro x hx
      have := R1 _ ((mem x).mp hx)
      rw [← side_mv (c := c), show x - c + c = x by omega] at this
      exact this
    | some r =>
      rw [e] at R1
      obtain ⟨h1, h2, h3⟩ := R1
      refine ⟨(mem _).mpr (by rw [show r + c - c = r by omega]; exact h1), by rw [side_mv]; exact h2, fun x hx hs => ?_⟩
      have hs' : sideB wy (x - c) m = true := by rw [← side_mv (c := c), show x - c + c = x by omega]; exact hs
      have := h3 _ ((mem x).mp hx) hs'
      revert this
      cases back wy <;> simp <;> omega
  unfold lkAns
  rw [R2.uniq R3]
  cases lkRow (srt l) wy m with
  | none => rfl
  | some r =>
    show (if inLim lim (r + c) (m + c) then some (r + c) else none) = (if inLim lim r m then some r else none).map (· + c)
    rw [lim_mv]
    split <;> rfl
theorem ansF_mv {ks : Kd → Bool} {f : Str → List Int} {c : Int} : ∀ {t : Tm}, Good ks t → ∀ n, t.ansF (fun z => (f z).map (· + c)) (n + c) = (t.ansF f n).map (· + c)
  | .now, _, n => rfl
  | .shift m k, g, n => by
    show (m.ansF _ (n + c)).map _ = ((m.ansF f n).map _).map _
    rw [ansF_mv g.2.1 n]
    cases m.ansF f n with
    | none => rfl
    | some x => show some (x + c + k) = some (x + k + c); congr 1; omega
  | .look z m wy lim, g, n => by
    show (m.ansF _ (n + c)).bind _ = ((m.ansF f n).bind _).map _
    rw [ansF_mv g.2.1 n]
    cases m.ansF f n with
    | none => rfl
    | some x => exact lkAns_mv g.2.2.2.1
  | .either a b, g, n => by
    show (match a.ansF _ (n + c) with | some r => some r | none => b.ansF _ (n + c)) = (match a.ansF f n with | some r => some r | none => b.ansF f n).map _
    rw [ansF_mv g.2.1 n, ansF_mv g.2.2 n]
    cases a.ansF f n <;> rfl
  | .later a b, g, n => by
    show ((a.ansF _ (n + c)).bind fun x => (b.ansF _ (n + c)).bind _) = ((a.ansF f n).bind fun x => (b.ansF f n).bind _).map _
    rw [ansF_mv g.2.1 n, ansF_mv g.2.2 n]
    cases a.ansF f n with
    | none => rfl
    | some x =>
      cases b.ansF f n with
      | none => rfl
      | some y => show some (if y + c > x + c then y + c else x + c) = some ((if y > x then y else x) + c); congr 1; split <;> split <;> omega
  | .earlier a b, g, n => by
    show ((a.ansF _ (n + c)).bind fun x => (b.ansF _ (n + c)).bind _) = ((a.ansF f n).bind fun x => (b.ansF f n).bind _).map _
    rw [ansF_mv g.2.1 n, ansF_mv g.2.2 n]
    cases a.ansF f n with
    | none => rfl
    | some x =>
      cases b.ansF f n with
      | none => rfl
      | some y => show some (if y + c < x + c then y + c else x + c) = some ((if y < x then y else x) + c); congr 1; split <;> split <;> omega
/-! ### mirrored -/
def mw (wy : Str) : Str := if wy = "at" then "since" else if wy = "since" then "at" else if wy = "before" then "after" else "before"
theorem mw_pair {wy : Str} (h : wy ∈ ways) : (wy, mw wy) ∈ pairs4 := by
  have : ∀ x ∈ ways, (x, mw x) ∈ pairs4 := by decide +kernel
  exact this wy h
def Tm.mir : Tm → Tm
  | .now => .now
  | .shift m c => .shift m.mir (0 - c)
  | .look z m wy lim => .look z m.mir (mw wy) lim
  | .either a b => .either a.mir b.mir
  | .later a b => .earlier a.mir b.mir
  | .earlier a b => .later a.mir b.mir
theorem Tm.mir_sz : ∀ t : Tm, t.mir.sz = t.sz
  | .now => rfl
  | .shift m _ => by show szOf 0 0 [m.mir.sz] = _; rw [mir_sz m]; rfl
  | .look _ m _ _ => by show szOf 1 1 [m.mir.sz] = _; rw [mir_sz m]; rfl
  | .either a b => by show szOf 0 0 [a.mir.sz, b.mir.sz] = _; rw [mir_sz a, mir_sz b]; rfl
  | .later a b => by show szOf 0 1 [a.mir.sz, b.mir.sz] = _; rw [mir_sz a, mir_sz b]; rfl
  | .earlier a b => by show szOf 0 1 [a.mir.sz, b.mir.sz] = _; rw [mir_sz a, mir_sz b]; rfl
theorem Good.mir {ks : Kd → Bool} (hk : ∀ k, ks k = true) : ∀ {t : Tm}, Good ks t → Good ks t.mir
  | .now, _ => hk _
  | .shift m c, g => ⟨hk _, Good.mir hk g.2.1, by have := g.2.2.1; omega, by have := g.2.2.2; cases m <;> first | exact this | (intro z; cases z)⟩
  | .look z m wy lim, g => ⟨hk _, Good.mir hk g.2.1, g.2.2.1, (pairs_in _ (mw_pair g.2.2.2.1)).2, g.2.2.2.2⟩
  | .either a b, g => ⟨hk _, Good.mir hk g.2.1, Good.mir hk g.2.2⟩
  | .later a b, g => ⟨hk _, Good.mir hk g.2.1, Good.mir hk g.2.2⟩
  | .earlier a b, g => ⟨hk _, Good.mir hk g.2.1, Good.mir hk g.2.2⟩
theorem lkAns_neg {l : List Int} {wy : Str} {lim : Option Int} {m : Int} (hw : wy ∈ ways) : lkAns (neg l) (mw wy) lim (0 - m) = (lkAns l wy lim m).map fun x => 0 - x := by
  rw [ans_mir (w := (wy, mw wy)) (mw_pair hw)]
  cases lkAns (neg l) (mw wy) lim (0 - m) with
  | none => rfl
  | some x => show some x = some (0 - (0 - x)); congr 1; omega
theorem ansF_mir {ks : Kd → Bool} {f : Str → List Int} : ∀ {t : Tm}, Good ks t → ∀ n, t.mir.ansF (fun z => neg (f z)) (0 - n) = (t.ansF f n).map fun x => 0 - x
  | .now, _, n => rfl
  | .shift m k, g, n => by
    show (m.mir.ansF _ (0 - n)).map _ = ((m.ansF f n).map _).map _
    rw [ansF_mir g.2.1 n]
    cases m.ansF f n with
    | none => rfl
    | some x => show some (0 - x + (0 - k)) = some (0 - (x + k)); congr 1; omega
  | .look z m wy lim, g, n => by
    show (m.mir.ansF _ (0 - n)).bind _ = ((m.ansF f n).bind _).map _
    rw [ansF_mir g.2.1 n]
    cases m.ansF f n with
    | none => rfl
    | some x => exact lkAns_neg g.2.2.2.1
  | .either a b, g, n => by
    show (match a.mir.ansF _ (0 - n) with | some r => some r | none => b.mir.ansF _ (0 - n)) = (match a.ansF f n with | some r => some r | none => b.ansF f n).map _
    rw [ansF_mir g.2.1 n, ansF_mir g.2.2 n]
    cases a.ansF f n <;> rfl
  | .later a b, g, n => by
    show ((a.mir.ansF _ (0 - n)).bind fun x => (b.mir.ansF _ (0 - n)).bind _) = ((a.ansF f n).bind fun x => (b.ansF f n).bind _).map _
    rw [ansF_mir g.2.1 n, ansF_mir g.2.2 n]
    cases a.ansF f n with
    | none => rfl
    | some x =>
      cases b.ansF f n with
      | none => rfl
      | some y => show some (if 0 - y < 0 - x then 0 - y else 0 - x) = some (0 - (if y > x then y else x)); congr 1; split <;> split <;> omega
  | .earlier a b, g, n => by
    show ((a.mir.ansF _ (0 - n)).bind fun x => (b.mir.ansF _ (0 - n)).bind _) = ((a.ansF f n).bind fun x => (b.ansF f n).bind _).map _
    rw [ansF_mir g.2.1 n, ansF_mir g.2.2 n]
    cases a.ansF f n with
    | none => rfl
    | some x =>
      cases b.ansF f n with
      | none => rfl
      | some y => show some (if 0 - y > 0 - x then 0 - y else 0 - x) = some (0 - (if y < x then y else x)); congr 1; split <;> split <;> omega
/-! ### renamed -/
def Tm.nms : Tm → List Str
  | .now => []
  | .shift m _ => m.nms
  | .look z m _ _ => z :: m.nms
  | .either a b => a.nms ++ b.nms
  | .later a b => a.nms ++ b.nms
  | .earlier a b => a.nms ++ b.nms
theorem Tm.nms_shd {t : Tm} {c : Int} : ∀ z ∈ (t.shd c).nms, z ∈ t.nms := fun z h => by
  cases t with
  | shift m a =>
    by_cases e0 : c = 0
    · rw [show (Tm.shift m a).shd c = .shift m a from if_pos e0] at h; exact h
    · by_cases e1 : a + c = 0
      · rw [show (Tm.shift m a).shd c = m from (if_neg e0).trans (if_pos e1)] at h; exact h
      · rw [show (Tm.shift m a).shd c = .shift m (a + c) from (if_neg e0).trans (if_neg e1)] at h; exact h
  | now =>
    by_cases e0 : c = 0
    · rw [show (Tm.now).shd c = .now from if_pos e0] at h; exact h
    · rw [show (Tm.now).shd c = .shift .now c from if_neg e0] at h; exact h
  | look z' m wy lim =>
    by_cases e0 : c = 0
    · rw [show (Tm.look z' m wy lim).shd c = .look z' m wy lim from if_pos e0] at h; exact h
    · rw [show (Tm.look z' m wy lim).shd c = .shift (.look z' m wy lim) c from if_neg e0] at h; exact h
  | either a b =>
    by_cases e0 : c = 0
    · rw [show (Tm.either a b).shd c = .either a b from if_pos e0] at h; exact h
    · rw [show (Tm.either a b).shd c = .shift (.either a b) c from if_neg e0] at h; exact h
  | later a b =>
    by_cases e0 : c = 0
    · rw [show (Tm.later a b).shd c = .later a b from if_pos e0] at h; exact h
    · rw [show (Tm.later a b).shd c = .shift (.later a b) c from if_neg e0] at h; exact h
  | earlier a b =>
    by_cases e0 : c = 0
    · rw [show (Tm.earlier a b).shd c = .earlier a b from if_pos e0] at h; exact h
    · rw [show (Tm.earlier a b).shd c = .shift (.earlier a b) c from if_neg e0] at h; exact h
def Tm.ren (φ : Str → Str) : Tm → Tm
  | .now => .now
  | .shift m c => .shift (m.ren φ) c
  | .look z m wy lim => .look (φ z) (m.ren φ) wy lim
  | .either a b => .either (a.ren φ) (b.ren φ)
  | .later a b => .later (a.ren φ) (b.ren φ)
  | .earlier a b => .earlier (a.ren φ) (b.ren φ)
theorem Tm.ren_sz {φ : Str → Str} : ∀ t : Tm, (t.ren φ).sz = t.sz
  | .now => rfl
  | .shift m _ => by show szOf 0 0 [(m.ren φ).sz] = _; rw [ren_sz m]; rfl
  | .look _ m _ _ => by show szOf 1 1 [(m.ren φ).sz] = _; rw [ren_sz m]; rfl
  | .either a b => by show szOf 0 0 [(a.ren φ).sz, (b.ren φ).sz] = _; rw [ren_sz a, ren_sz b]; rfl
  | .later a b => by show szOf 0 1 [(a.ren φ).sz, (b.ren φ).sz] = _; rw [ren_sz a, ren_sz b]; rfl
  | .earlier a b => by show szOf 0 1 [(a.ren φ).sz, (b.ren φ).sz] = _; rw [ren_sz a, ren_sz b]; rfl
theorem Good.ren {ks : Kd → Bool} {φ : Str → Str} : ∀ {t : Tm}, Good ks t → (∀ z ∈ t.nms, GName (φ z)) → Good ks (t.ren φ)
  | .now, g, _ => g
  | .shift m c, g, h => ⟨g.1, Good.ren g.2.1 h, g.2.2.1, by have := g.2.2.2; cases m <;> first | exact this | (intro z; cases z)⟩
  | .look z m wy lim, g, h => ⟨g.1, Good.ren g.2.1 fun y hy => h y (List.mem_cons_of_mem _ hy), h z List.mem_cons_self, g.2.2.2.1, g.2.2.2.2⟩
  | .either a b, g, h => ⟨g.1, Good.ren g.2.1 fun y hy => h y (List.mem_append_left _ hy), Good.ren g.2.2 fun y hy => h y (List.mem_append_right _ hy)⟩
  | .later a b, g, h => ⟨g.1, Good.ren g.2.1 fun y hy => h y (List.mem_append_left _ hy), Good.ren g.2.2 fun y hy => h y (List.mem_append_right _ hy)⟩
  | .earlier a b, g, h => ⟨g.1, Good.ren g.2.1 fun y hy => h y (List.mem_append_left _ hy), Good.ren g.2.2 fun y hy => h y (List.mem_append_right _ hy)⟩
theorem ansF_ren {φ : Str → Str} {f f' : Str → List Int} : ∀ {t : Tm}, (∀ z ∈ t.nms, f' (φ z) = f z) → ∀ n, (t.ren φ).ansF f' n = t.ansF f n
  | .now, _, n => rfl
  | .shift m k, h, n => by show ((m.ren φ).ansF f' n).map _ = (m.ansF f n).map _; rw [ansF_ren (t := m) h n]
  | .look z m wy lim, h, n => by
    show ((m.ren φ).ansF f' n).bind _ = (m.ansF f n).bind _
    rw [ansF_ren (fun y hy => h y (List.mem_cons_of_mem _ hy)) n, h z List.mem_cons_self]
  | .either a b, h, n => by
    show (match (a.ren φ).ansF f' n with | some r => some r | none => (b.ren φ).ansF f' n) = (match a.ansF f n with | some r => some r | none => b.ansF f n)
    rw [ansF_ren (fun y hy => h y (List.mem_append_left _ hy)) n, ansF_ren (fun y hy => h y (List.mem_append_right _ hy)) n]
  | .later a b, h, n => by
    show (((a.ren φ).ansF f' n).bind fun x => ((b.ren φ).ansF f' n).bind _) = ((a.ansF f n).bind fun x => (b.ansF f n).bind _)
    rw [ansF_ren (fun y hy => h y (List.mem_append_left _ hy)) n, ansF_ren (fun y hy => h y (List.mem_append_right _ hy)) n]
  | .earlier a b, h, n => by
    show (((a.ren φ).ansF f' n).bind fun x => ((b.ren φ).ansF f' n).bind _) = ((a.ansF f n).bind fun x => (b.ansF f n).bind _)
    rw [ansF_ren (fun y hy => h y (List.mem_append_left _ hy)) n, ansF_ren (fun y hy => h y (List.mem_append_right _ hy)) n]
/-! ### stretches mirrored -/
def mir2 (s : P2) : P2 := (s.2.map fun x => 0 - x, s.1.map fun x => 0 - x)
theorem inS_mir {s : P2} {n : Int} : inS (mir2 s).1 (mir2 s).2 n ↔ inS s.1 s.2 (0 - n) := by
  obtain ⟨f, l⟩ := s
  constructor
  · rintro ⟨h1, h2⟩
    refine ⟨fun a ha => ?_, fun b hb => ?_⟩
    · have ha : f = some a := ha
      have := h2 (0 - a) (by show f.map _ = _; rw [ha]; rfl)
      omega
    · have hb : l = some b := hb
      have := h1 (0 - b) (by show l.map _ = _; rw [hb]; rfl)
      omega
  · rintro ⟨h1, h2⟩
    refine ⟨fun a ha => ?_, fun b hb => ?_⟩
    · have ha : l.map (fun x => 0 - x) = some a := ha
      cases l with
      | none => cases ha
      | some y =>
        have := h2 y rfl
        have ha : 0 - y = a := Option.some.inj ha
        omega
    · have hb : f.map (fun x => 0 - x) = some b := hb
      cases f with
      | none => cases hb
      | some y =>
        have := h1 y rfl
        have hb : 0 - y = b := Option.some.inj hb
        omega
theorem Nml.mir {ds : List P2} (h : Nml ds) : Nml (ds.map mir2).reverse ∧ ∀ n, inU (ds.map mir2).reverse n ↔ inU ds (0 - n) := by
  refine ⟨⟨?_, fun s hs => ?_⟩, fun n => ?_⟩
  · rw [List.pairwise_reverse, List.pairwise_map]
    refine h.1.imp fun {s t} h => ?_
    obtain ⟨x, y, e1, e2, e3⟩ := h
    exact ⟨0 - y, 0 - x, by show t.1.map _ = _; rw [e2]; rfl, by show s.2.map _ = _; rw [e1]; rfl, by omega⟩
  · obtain ⟨t, ht, rfl⟩ := List.mem_map.mp (List.mem_reverse.mp hs)
    obtain ⟨n, hn⟩ := neS_has (h.2 t ht)
    refine inS_ne (n := 0 - n) (inS_mir.mpr ?_)
    rw [show 0 - (0 - n) = n by omega]; exact hn
  · constructor
    · rintro ⟨s, hs, k⟩
      obtain ⟨t, ht, rfl⟩ := List.mem_map.mp (List.mem_reverse.mp hs)
      exact ⟨t, ht, inS_mir.mp k⟩
    · rintro ⟨t, ht, k⟩
      exact ⟨mir2 t, List.mem_reverse.mpr (List.mem_map.mpr ⟨t, ht, rfl⟩), inS_mir.mpr k⟩
/-! ### rows moved -/
def mvR (g : Int → Int) (rs : Rs) : Rs := rs.map fun r => (r.1, r.2.map g)
theorem mvR_names {g : Int → Int} {rs : Rs} : (mvR g rs).map (·.1) = rs.map (·.1) := by
  unfold mvR; rw [List.map_map]; rfl
theorem rowsOf_mvR {g : Int → Int} {rs : Rs} (z : Str) : rowsOf (mvR g rs) z = (rowsOf rs z).map g := by
  unfold rowsOf
  induction rs with
  | nil => rfl
  | cons x r ih =>
    obtain ⟨a, b⟩ := x
    show ((((a, b.map g) :: mvR g r).lookup z).getD []) = ((((a, b) :: r).lookup z).getD []).map g
    rw [List.lookup_cons, List.lookup_cons]
    cases z == a with
    | true => rfl
    | false => exact ih
theorem ans_mv {ks : Kd → Bool} {rs : Rs} {t : Tm} {c : Int} (nd : (rs.map (·.1)).Nodup) (g : Good ks t) (n : Int) : t.ans (srs (mvR (fun x => 1 * x + c) rs)) (n + c) = (t.ans (srs rs) n).map (· + c) := by
  rw [Tm.ans_F (by rw [mvR_names]; exact nd), Tm.ans_F nd, ← ansF_mv g]
  congr 1
  funext z
  rw [rowsOf_mvR]
  congr 1
  funext x; omega
theorem ans_mir_rs {ks : Kd → Bool} {rs : Rs} {t : Tm} (nd : (rs.map (·.1)).Nodup) (g : Good ks t) (n : Int) : t.mir.ans (srs (mvR (fun x => -1 * x + 0) rs)) (0 - n) = (t.ans (srs rs) n).map fun x => 0 - x := by
  rw [Tm.ans_F (by rw [mvR_names]; exact nd), Tm.ans_F nd, ← ansF_mir g]
  congr 1
  funext z
  rw [rowsOf_mvR]
  unfold neg
  congr 1
  funext x; omega
end Pl

namespace L2
open PySem PySem.Spec PyProof.Rows
/-- the object of a new set -/
abbrev eSt (w : World) : Obj := { cls := .type "set", dict := none, data := .set #[] 0 (.fresh 0 0 (!w.params.followText "set-order")) }
section
variable {P : Program} {w : World} {A : Around} {E : Value → Shared → Prop} {s : Shared}
set_option maxRecDepth 100000 in
set_option maxHeartbeats 3200000 in
/-- set(l) of a list of ints, with all that a walk over it wants -/
theorem set_of_list {l : Addr} {its : Array Value} (ns : List Int) {Q : Value → Shared → Prop} (calm : A.handled = none) (isl : s.heap.IsList l its) (ia : IntsAre its.toList ns) (few : ns.length + 1 < scanBound)
    (q : ∀ (h' : Heap) (tk c : Nat), SetR w h' s.heap.objs.size (fun j => decide (j ∈ ns)) c → c ≤ ns.length → (∀ b o, s.heap.get? b = some o → h'.get? b = some o) → Q (.ref s.heap.objs.size) { s with heap := h', toks := tk }) :
    wpAny (model P w) A (call (.type "set") [.ref l]) Q E s := by
  have sz : its.size = ns.length := by have := IntsAre.length ia; rw [Array.length_toList] at this; exact this
  obtain ⟨c, tl, m0⟩ := F.called_set.mro
  have m1 := F.called_set.made; have m2 := F.called_set.sub; have m3 := F.called_set.notType; have m4 := F.called_set.canCreate; have m5 := F.typeCall_set_1 (.ref l)
  refine wpAny_call (codeAny_of_tree ?_); show wpAny _ _ (callAny (.type "set") _) _ _ _
  refine wpAny_pure ⟨Code.quiet_builtin _ (by decide +kernel), codeAny_builtin F.entry_type_call ?_⟩; rw [Around.under_plain (weight_type_call_type "set" [.ref l] []) rfl]
  repeat (any_goals (first | assumption | wp_step))
  let s0 : Shared := { s with heap := s.heap.push (eSt w) }
  refine codeAny_mono (code_set_led1 (.ref l) (E := E) (Q₁ := fun v t => v = .ref s.heap.objs.size ∧ t = s0) ⟨rfl, rfl⟩) fun r t hr => ?_
  match r, hr with
  | .error e, hr => exact hr
  | .ok (.ret v), hr =>
    obtain ⟨rfl, rfl⟩ := hr
    have g0 : (s.heap.push (eSt w)).get? s.heap.objs.size = some (eSt w) := Heap.get?_push_size _ rfl
    have ty : Shared.TypeIs s0 (.ref s.heap.objs.size) "set" := ⟨_, g0, rfl⟩
    have i1 := F.called_set.init.lookup; have i2 := F.called_set.init.bind (.ref s.heap.objs.size)
    repeat (any_goals (first | assumption | wp_step))
    refine codeAny_mono (codeAny_call_builtin (R := wants (fun r t => r = .none ∧ ∃ h' tk c, t = { s with heap := h', toks := tk } ∧ SetR w h' s.heap.objs.size (fun j => decide (j ∈ ns)) c ∧ c ≤ ns.length ∧ (∀ b o, s.heap.get? b = some o → h'.get? b = some o)) E) F.called_set.init.plain F.entry_set_init (check_set_init_1 ty ?_)) fun r t hr => ?_
    · obtain ⟨ol, e0, e1, nl, e2⟩ := isl
      obtain ⟨oc, od, oa, osl⟩ := ol
      simp only at e1 e2
      subst e1; subst e2
      have e3 : (s.heap.push (eSt w)).get? l = some ⟨.type "list", od, .seq its nl, osl⟩ := Heap.get?_push_of_some _ e0
      have j1 := F.sub_list_set; have j2 := F.sub_list_frozenset
      have j3 : (Value.type "list" == Value.type "dict") = false := by decide
      have il : (s.heap.push (eSt w)).IsList l its := ⟨_, e3, rfl, nl, rfl⟩
      unfold Builtin.«set.__init__» noKeywords Builtin.Frozenset.updateFrom
      generalize hPI : pyIter = PI
      wp_walk
      subst hPI
      refine wpAny_pyIter_list il ?_
      refine wpAny_bind (wpAny_runValue ?_)
      have ll : l < s.heap.objs.size := Heap.lt_size e0
      have sz1 : (s.heap.push (eSt w)).objs.size = s.heap.objs.size + 1 := Heap.size_push ..
      have n1 : l ≠ (s.heap.push (eSt w)).objs.size := by rw [sz1]; exact Nat.ne_of_lt (Nat.lt_succ_of_lt ll)
      have n2 : s.heap.objs.size ∉ [(s.heap.push (eSt w)).objs.size, l] := by
        rw [sz1]; intro z; simp only [List.mem_cons, List.not_mem_nil, or_false] at z
        exact z.elim (Nat.ne_of_lt (Nat.lt_succ_self _)) (Nat.ne_of_gt ll)
      have hv : ∀ (i : Nat) (v : Value), its[i]? = some v → ∃ k t, ns[i]? = some k ∧ v = .int k t := fun i v e => by
        have hi : i < ns.length := by rw [← sz]; exact (Array.getElem?_eq_some_iff.mp e).1
        obtain ⟨t, et⟩ := IntsAre.int_at ia i v (by rw [Array.getElem?_toList]; exact e)
        refine ⟨ns[i], t, List.getElem?_eq_getElem hi, et.trans ?_⟩
        rw [List.getD_eq_getElem?_getD, List.getElem?_eq_getElem hi]; rfl
      refine set_update_ints ((Walks.list (by simp [calm]) _ l n1 its).toS) s.heap.objs.size n2 ns sz few hv (its.size - 0) 0 _ rfl (Nat.zero_le _) ⟨⟨_, Heap.get?_push_size _ rfl, rfl, rfl⟩, il.push _⟩ ⟨0, Nat.le_refl 0, setR_new_at (Heap.get?_push_of_some _ g0)⟩ fun s' c' mv lc hS => ?_
      obtain ⟨h', gg, dd, tt, oo⟩ := s'
      have k1 : gg = s.gens := mv.gens; have k2 : dd = s.drawn := mv.drawn; have k3 : oo = s.os := mv.os
      subst k1; subst k2; subst k3
      show wpAny _ _ _ _ _ _; refine wpAny_pure ?_; show wpAny _ _ (ret Value.none) _ _ _
      rw [sz] at lc
      refine wpAny_pure ⟨rfl, h', tt, c', rfl, hS, lc, fun b o e => ?_⟩
      have lb : b < s.heap.objs.size := Heap.lt_size e
      refine mv.heap b o (fun z => ?_) (Heap.get?_push_of_some _ (Heap.get?_push_of_some _ e))
      rw [sz1] at z; simp only [List.mem_cons, List.not_mem_nil, or_false] at z
      exact z.elim (Nat.ne_of_lt lb) (Nat.ne_of_lt (Nat.lt_succ_of_lt lb))
    · match r, hr with
      | .error e, hr => exact hr
      | .ok (.ret u), hr =>
        obtain ⟨rfl, h', tk, c', rfl, r1, r2, r3⟩ := hr
        repeat (any_goals (first | assumption | wp_step))
        exact q _ _ _ r1 r2 r3
      | .ok .next, hr => exact hr.elim
      | .ok .brk, hr => exact hr.elim
      | .ok .cont, hr => exact hr.elim
  | .ok .next, hr => exact hr.elim
  | .ok .brk, hr => exact hr.elim
  | .ok .cont, hr => exact hr.elim
/-- sorted(set(a)), a list of ints -/
def tSortedSetL (K : PySem.W.Frag) (ta : TE) : TE := fun σ H Q => ta σ H fun x H1 => ∃ (l : Addr) (ns : List Int), x = .ref l ∧ SqL K H1 l (ns.map V.int) ∧ ns.length < 64 ∧
  ∀ (ns' : List Int) (p : Addr), ns'.Pairwise (· < ·) → (∀ k, k ∈ ns' ↔ k ∈ ns) → H1 p = none → Q (.ref p) (upd H1 p (.lst (ns'.map V.int)))
theorem pe_sortedSetL {X : Cx} {a : Expr} {ta : TE} {p p2 q pos : Pos} (hg : Gl X "sorted") (hm : X.mg "sorted" = none) (hg2 : Gl X "set") (hm2 : X.mg "set" = none) (ha : PE X a ta) (hc : X.calm = true := by rfl)
    (na : starEach [a] X.env = (false, eval a X.env) :: starEach [] X.env := by rfl) : PE X (.Call (.Name "sorted" p) [.Call (.Name "set" p2) [a] [] q] [] pos) (tSortedSetL X.K ta) := by
  refine ⟨fun pins s σ H Q I h => ?_⟩
  refine Call_ (ld_blt I hg hm (show bootBuiltins (Str.ofString "sorted") = some (.builtin "sorted") by decide +kernel) ?_)
  refine callWith_builtin1 (args_cons ?_ rfl) rfl rfl
  refine Call_ (ld_blt I hg2 hm2 boot_set ?_)
  refine callWith_type1 (args_cons (thn (ha.run pins s σ H _ I h) fun v s1 ⟨x, H1, I1, r1, l, ns, ex, hq, h64, k⟩ => args_nil ?_) na) na rfl
  subst ex
  cases r1
  obtain ⟨its, r, pl, _⟩ := I1.list hq
  refine set_of_list ns (I1.ok.hd hc) pl.isList (by simpa using RZ.intsAre_vals r) (by show _ < 4096; omega) fun h' tk c hS hc' hk => args_nil ?_
  have I2 : Inv X pins σ H1 { s1 with heap := h', toks := tk } := I1.kept fun b o e => hk b o e
  have hS2 : SetR X.w ({ s1 with heap := h', toks := tk } : Shared).heap s1.heap.objs.size (fun j => decide (j ∈ ns)) c := hS
  generalize s1.heap.objs.size = sa at hS2 ⊢
  generalize ({ s1 with heap := h', toks := tk } : Shared) = s2 at I2 hS2 ⊢
  refine sorted_set hS2 (I2.ok.hd hc) (by omega) fun s' p out c2 ns2 k1 g o hp hget hi hs' hm' hl => ?_
  have len : (ns2.map V.int).length ≤ sizeLine := by rw [List.length_map, hl]; have : 64 < sizeLine := by decide
                                                     omega
  have fr : H1 p = none := I2.hok.fresh hp
  have J : Inv X pins σ (upd H1 p (.lst (ns2.map V.int))) { s2 with heap := s'.heap, gens := s'.gens, drawn := s'.drawn, toks := s'.toks } :=
    I2.call (ch := []) (Un.laid k1 hp fr) (I2.hok.laid k1 hp ⟨len, out.toList, c2, vals_of_ints hi, hget⟩) (by rw [g]; exact I2.bare) (fun _ z => nomatch z)
  have e : s' = { s2 with heap := s'.heap, gens := s'.gens, drawn := s'.drawn, toks := s'.toks } := by
    cases s'; cases s2; cases o; rfl
  rw [e]
  exact ⟨.ref p, _, J, rfl, k ns2 p hs' (fun j => (hm' j).trans decide_eq_true_iff) fr⟩
end
end L2

namespace Pl
open PySem L2 PySem.Spec PyProof.Rows
/-! ### rows of two worlds joined -/
theorem nd_subG {α : Type} : ∀ {l m : List α}, l.Nodup → (∀ x ∈ l, x ∈ m) → l.length ≤ m.length
  | [], _, _, _ => Nat.zero_le _
  | a :: l, m, nd, h => by
    obtain ⟨n1, n2⟩ := List.nodup_cons.mp nd
    obtain ⟨s, t, rfl⟩ := List.append_of_mem (h a List.mem_cons_self)
    have : l.length ≤ (s ++ t).length := nd_subG n2 fun x hx => by
      have := h x (List.mem_cons_of_mem _ hx)
      rw [List.mem_append, List.mem_cons] at this
      rw [List.mem_append]
      rcases this with h | h | h
      · exact .inl h
      · exact absurd (h ▸ hx) n1
      · exact .inr h
    simp only [List.length_append, List.length_cons] at *
    omega
theorem lt_nd {l : List Int} (h : l.Pairwise (· < ·)) : l.Nodup := h.imp fun h => Int.ne_of_lt h
theorem lt_uniq {l m : List Int} (hl : l.Pairwise (· < ·)) (hm : m.Pairwise (· < ·)) (e : ∀ x, x ∈ l ↔ x ∈ m) : l = m :=
  up_same ((List.perm_ext_iff_of_nodup (lt_nd hl) (lt_nd hm)).mpr e) (hl.imp Int.le_of_lt) (hm.imp Int.le_of_lt)
structure JoinOf (r1 r2 rs : Rs) : Prop where
  nd : (rs.map (·.1)).Nodup
  nm : ∀ z, z ∈ rs.map (·.1) ↔ z ∈ r1.map (·.1) ∨ z ∈ r2.map (·.1)
  up : ∀ r ∈ rs, r.2.Pairwise (· < ·)
  mem : ∀ z x, x ∈ rowsOf rs z ↔ x ∈ rowsOf r1 z ∨ x ∈ rowsOf r2 z
def setR (rs : Rs) (n : Str) (l : List Int) : Rs := if n ∈ rs.map (·.1) then rs.map (fun r => if r.1 = n then (r.1, l) else r) else rs ++ [(n, l)]
theorem setR_names (rs : Rs) (n : Str) (l : List Int) : (setR rs n l).map (·.1) = if n ∈ rs.map (·.1) then rs.map (·.1) else rs.map (·.1) ++ [n] := by
  unfold setR
  split
  · rw [List.map_map]
    apply List.map_congr_left
    intro r _
    show (if r.1 = n then (r.1, l) else r).1 = r.1
    split <;> rfl
  · rw [List.map_append]; rfl
theorem setR_nd {rs : Rs} {n : Str} {l : List Int} (nd : (rs.map (·.1)).Nodup) : ((setR rs n l).map (·.1)).Nodup := by
  rw [setR_names]
  split
  · exact nd
  · rename_i h; exact nd_snoc nd h
theorem rowsOf_ne {rs : Rs} {a : Str × List Int} {z : Str} (h : z ≠ a.1) : rowsOf (a :: rs) z = rowsOf rs z := by
  unfold rowsOf; rw [List.lookup_cons, show (z == a.1) = false by simpa using h]
theorem rowsOf_eq {rs : Rs} {a : Str × List Int} {z : Str} (h : z = a.1) : rowsOf (a :: rs) z = a.2 := by
  unfold rowsOf; rw [List.lookup_cons, show (z == a.1) = true by simpa using h]; rfl
theorem rowsOf_app {rs qs : Rs} {z : Str} : rowsOf (rs ++ qs) z = if z ∈ rs.map (·.1) then rowsOf rs z else rowsOf qs z := by
  induction rs with
  | nil => rfl
  | cons a r ih =>
    rw [List.cons_append]
    by_cases h : z = a.1
    · rw [rowsOf_eq h, rowsOf_eq h, if_pos (by rw [h]; exact List.mem_cons_self)]
    · rw [rowsOf_ne h, rowsOf_ne h, ih]
      have : (z ∈ (a :: r).map (·.1)) ↔ z ∈ r.map (·.1) := by
        rw [List.map_cons, List.mem_cons]
        exact ⟨fun k => k.resolve_left h, .inr⟩
      by_cases k : z ∈ r.map (·.1)
      · rw [if_pos k, if_pos (this.mpr k)]
      · rw [if_neg k, if_neg fun q => k (this.mp q)]
theorem rowsOf_setR {rs : Rs} {n : Str} {l : List Int} (z : Str) : rowsOf (setR rs n l) z = if z = n then l else rowsOf rs z := by
  unfold setR
  split
  · rename_i h
    induction rs with
    | nil => cases h
    | cons a r ih =>
      rw [List.map_cons]
      by_cases e : a.1 = n
      · rw [if_pos e]
        by_cases k : z = n
        · rw [if_pos k, rowsOf_eq (by rw [k, e])]
        · rw [if_neg k, rowsOf_ne (by show z ≠ a.1; rw [e]; exact k), rowsOf_ne (by rw [e]; exact k)]
          by_cases h2 : n ∈ r.map (·.1)
          · rw [ih h2, if_neg k]
          · congr 1
            have : ∀ x ∈ r, (if x.1 = n then (x.1, l) else x) = x := fun x hx => if_neg fun q => h2 (List.mem_map.mpr ⟨x, hx, q⟩)
            rw [List.map_congr_left this, List.map_id']
      · rw [if_neg e]
        have h2 : n ∈ r.map (·.1) := (List.mem_cons.mp h).resolve_left fun q => e q.symm
        by_cases k : z = a.1
        · rw [rowsOf_eq k, rowsOf_eq k, if_neg (by rw [k]; exact e)]
        · rw [rowsOf_ne k, rowsOf_ne k, ih h2]
  · rename_i h
    rw [rowsOf_app]
    by_cases k : z = n
    · rw [if_pos k, if_neg (by rw [k]; exact h), rowsOf_eq k]
    · rw [if_neg k]
      split
      · rfl
      · rename_i k2
        rw [rowsOf_ne k, rowsOf_none k2]; rfl
theorem JoinOf.start {r1 : Rs} (nd : (r1.map (·.1)).Nodup) (up : ∀ r ∈ r1, r.2.Pairwise (· < ·)) : JoinOf r1 [] r1 := ⟨nd, fun z => by simp, up, fun z x => by rw [show rowsOf [] z = [] from rfl]; simp⟩
theorem JoinOf.step {r1 q rs : Rs} {n : Str} {l l' : List Int} (h : JoinOf r1 q rs) (hn : n ∉ q.map (·.1)) (up : l'.Pairwise (· < ·)) (mem : ∀ x, x ∈ l' ↔ x ∈ rowsOf rs n ∨ x ∈ l) : JoinOf r1 (q ++ [(n, l)]) (setR rs n l') := by
  refine ⟨setR_nd h.nd, fun z => ?_, fun r hr => ?_, fun z x => ?_⟩
  · rw [setR_names, List.map_append, List.mem_append]
    split
    · rename_i k
      rw [h.nm]
      constructor
      · rintro (a | a)
        · exact .inl a
        · exact .inr (.inl a)
      · rintro (a | a | a)
        · exact .inl a
        · exact .inr a
        · have : z = n := by simpa using a
          rw [this]; exact (h.nm n).mp k
    · rw [List.mem_append, h.nm]
      constructor
      · rintro ((a | a) | a)
        · exact .inl a
        · exact .inr (.inl a)
        · exact .inr (.inr (by simpa using a))
      · rintro (a | a | a)
        · exact .inl (.inl a)
        · exact .inl (.inr a)
        · exact .inr (by simpa using a)
  · unfold setR at hr
    split at hr
    · obtain ⟨y, hy, rfl⟩ := List.mem_map.mp hr
      split
      · exact up
      · exact h.up y hy
    · rcases List.mem_append.mp hr with a | a
      · exact h.up r a
      · rw [List.mem_singleton.mp a]; exact up
  · rw [rowsOf_setR, rowsOf_app]
    by_cases e : z = n
    · subst e
      rw [if_pos rfl, mem, if_neg hn, rowsOf_eq rfl, h.mem, rowsOf_none hn]
      simp
    · rw [if_neg e, h.mem, rowsOf_ne (rs := []) (a := (n, l)) e]
      split
      · rfl
      · rename_i k
        rw [rowsOf_none k]; rfl
theorem rowsOf_mem {rs : Rs} (nd : (rs.map (·.1)).Nodup) {r : Str × List Int} (h : r ∈ rs) : rowsOf rs r.1 = r.2 := by
  obtain ⟨i, hi⟩ := List.mem_iff_getElem?.mp h
  exact rowsOf_at nd hi
theorem rowsOf_in {rs : Rs} {z : Str} {x : Int} (h : x ∈ rowsOf rs z) : z ∈ rs.map (·.1) := by
  by_cases k : z ∈ rs.map (·.1)
  · exact k
  · rw [rowsOf_none k] at h; cases h
/-! rows as they stand in a dict, one of them anew -/
theorem Rows.put {N : Addr → Prop} {H : Hp} {p : Addr} {n : Str} {l : List Int} (np : N p) (hp : H p = some (.lst (l.map V.int))) {kvs : List (Key × V)} {rs : Rs} (h : Rows N H kvs rs) : Rows N H (putK kvs (Sum.inr n) (.ref p)) (setR rs n l) := by
  have key : ∀ {kvs : List (Key × V)} {rs : Rs}, Rows N H kvs rs → ((kvs.any fun kv => decide (kv.1 = (Sum.inr n : Key))) = true ↔ n ∈ rs.map (·.1)) := fun {kvs rs} h => by
    rw [List.any_eq_true]
    have e := h.keys
    constructor
    · rintro ⟨kv, hkv, d⟩
      have d := of_decide_eq_true d
      have : (Sum.inr n : Key) ∈ kvs.map (·.1) := List.mem_map.mpr ⟨kv, hkv, d⟩
      rw [e] at this
      obtain ⟨r, hr, er⟩ := List.mem_map.mp this
      injection er with er
      exact List.mem_map.mpr ⟨r, hr, er⟩
    · intro m
      obtain ⟨r, hr, er⟩ := List.mem_map.mp m
      have : (Sum.inr n : Key) ∈ kvs.map (·.1) := by rw [e]; exact List.mem_map.mpr ⟨r, hr, by rw [er]⟩
      obtain ⟨kv, hkv, ekv⟩ := List.mem_map.mp this
      exact ⟨kv, hkv, decide_eq_true ekv⟩
  unfold putK setR
  by_cases k : n ∈ rs.map (·.1)
  · rw [if_pos ((key h).mpr k), if_pos k]
    clear key k
    induction h with
    | nil => exact .nil
    | @cons kv r ks rr hd t ih =>
      obtain ⟨e, a, na, ea, ha⟩ := hd
      rw [List.map_cons, List.map_cons]
      refine .cons ?_ ih
      by_cases q : r.1 = n
      · rw [if_pos (by rw [e, q]), if_pos q]
        exact ⟨e, p, np, rfl, hp⟩
      · rw [if_neg (fun z => q (by rw [e] at z; injection z)), if_neg q]
        exact ⟨e, a, na, ea, ha⟩
  · rw [if_neg fun z => k ((key h).mp z), if_neg k]
    exact Rows.snoc np hp h
/-! how many rows -/
def prs (rs : Rs) : List (Str × Int) := rs.flatMap fun r => r.2.map fun m => (r.1, m)
theorem prs_mem {rs : Rs} (nd : (rs.map (·.1)).Nodup) {b : Str × Int} : b ∈ prs rs ↔ b.2 ∈ rowsOf rs b.1 := by
  unfold prs
  rw [List.mem_flatMap]
  constructor
  · rintro ⟨r, hr, h⟩
    obtain ⟨x, hx, rfl⟩ := List.mem_map.mp h
    show x ∈ rowsOf rs r.1
    rw [rowsOf_mem nd hr]; exact hx
  · intro h
    obtain ⟨r, hr, e⟩ := List.mem_map.mp (rowsOf_in h)
    refine ⟨r, hr, List.mem_map.mpr ⟨b.2, ?_, by rw [e]⟩⟩
    rw [← rowsOf_mem nd hr, e]; exact h
theorem prs_nd {rs : Rs} (nd : (rs.map (·.1)).Nodup) (each : ∀ r ∈ rs, r.2.Nodup) : (prs rs).Nodup := by
  unfold prs
  refine List.pairwise_flatMap.mpr ⟨fun r hr => ?_, ?_⟩
  · exact List.Pairwise.map _ (fun a b ne e => ne (by injection e)) (each r hr)
  · have := List.pairwise_map.mp nd
    refine this.imp fun {a b} ne x hx y hy e => ?_
    obtain ⟨u, _, rfl⟩ := List.mem_map.mp hx
    obtain ⟨v, _, rfl⟩ := List.mem_map.mp hy
    injection e with e
    exact ne e
theorem prs_len (rs : Rs) : ((prs rs).length : Int) = (rs.map fun r => (r.2.length : Int)).sum := by
  unfold prs
  induction rs with
  | nil => rfl
  | cons a r ih =>
    rw [List.flatMap_cons, List.length_append, List.length_map, List.map_cons, List.sum_cons, ← ih]
    exact Int.natCast_add _ _
/-- the rows of a world: names, strictly ascending, none empty -/
structure WG (rs : Rs) : Prop where
  nd : (rs.map (·.1)).Nodup
  nm : ∀ r ∈ rs, GName r.1
  up : ∀ r ∈ rs, r.2.Pairwise (· < ·)
  ne : ∀ r ∈ rs, r.2 ≠ []
theorem srs_id {rs : Rs} (up : ∀ r ∈ rs, r.2.Pairwise (· < ·)) (ne : ∀ r ∈ rs, r.2 ≠ []) : srs rs = rs := by
  unfold srs
  have h1 : (rs.filter fun r => !r.2.isEmpty) = rs := List.filter_eq_self.mpr fun r hr => by
    have := ne r hr
    cases e : r.2 with
    | nil => exact absurd e this
    | cons _ _ => rfl
  rw [h1]
  have : ∀ r ∈ rs, (r.1, srt r.2) = r := fun r hr => by
    rw [← srt_eq (List.Perm.refl r.2) ((up r hr).imp Int.le_of_lt)]
  rw [List.map_congr_left this, List.map_id']
theorem WG.len {r1 r2 rs : Rs} (g1 : WG r1) (g2 : WG r2) (j : JoinOf r1 r2 rs) : (prs rs).length ≤ (prs r1).length + (prs r2).length := by
  rw [← List.length_append]
  refine nd_subG (prs_nd j.nd fun r hr => lt_nd (j.up r hr)) fun b hb => ?_
  rw [List.mem_append, prs_mem g1.nd, prs_mem g2.nd]
  exact (j.mem _ _).mp ((prs_mem j.nd).mp hb)
theorem WG.join {r1 r2 rs : Rs} (g1 : WG r1) (g2 : WG r2) (j : JoinOf r1 r2 rs) : WG rs := by
  refine ⟨j.nd, fun r hr => ?_, j.up, fun r hr e => ?_⟩
  · rcases (j.nm r.1).mp (List.mem_map.mpr ⟨r, hr, rfl⟩) with h | h
    · obtain ⟨x, hx, ex⟩ := List.mem_map.mp h
      rw [← ex]; exact g1.nm x hx
    · obtain ⟨x, hx, ex⟩ := List.mem_map.mp h
      rw [← ex]; exact g2.nm x hx
  · have em : ∀ x, ¬ x ∈ rowsOf rs r.1 := fun x h => by
      rw [rowsOf_mem j.nd hr, e] at h; cases h
    have use : ∀ {q : Rs}, WG q → r.1 ∈ q.map (·.1) → ∃ x, x ∈ rowsOf q r.1 := fun {q} g h => by
      obtain ⟨y, hy, ey⟩ := List.mem_map.mp h
      rw [← ey, rowsOf_mem g.nd hy]
      have := g.ne y hy
      cases e : y.2 with
      | nil => exact absurd e this
      | cons a _ => exact ⟨a, List.mem_cons_self⟩
    rcases (j.nm r.1).mp (List.mem_map.mpr ⟨r, hr, rfl⟩) with h | h
    · obtain ⟨x, hx⟩ := use g1 h
      exact em x ((j.mem _ _).mpr (.inl hx))
    · obtain ⟨x, hx⟩ := use g2 h
      exact em x ((j.mem _ _).mpr (.inr hx))
theorem wg_one {z : Str} (g : GName z) (m : Int) : WG [(z, [m])] := ⟨by simp, fun r hr => by rw [List.mem_singleton.mp hr]; exact g, fun r hr => by rw [List.mem_singleton.mp hr]; simp, fun r hr => by rw [List.mem_singleton.mp hr]; simp⟩
theorem rowsOf_one {z y : Str} {m x : Int} : x ∈ rowsOf [(z, [m])] y ↔ y = z ∧ x = m := by
  by_cases e : y = z
  · rw [rowsOf_eq e]; simp [e]
  · rw [rowsOf_ne e]
    show x ∈ rowsOf [] y ↔ _
    rw [show rowsOf [] y = [] from rfl]
    simp [e]
theorem wg_srs {rs : Rs} (nd : (rs.map (·.1)).Nodup) (h : ∀ r ∈ rs, GName r.1 ∧ r.2.Nodup) : WG (srs rs) := by
  refine ⟨srs_nd nd, fun r hr => ?_, fun r hr => ?_, fun r hr => ?_⟩
  all_goals obtain ⟨y, hy, rfl⟩ := List.mem_map.mp hr
  · exact (h y (List.mem_filter.mp hy).1).1
  · have n : (srt y.2).Nodup := (srt_perm y.2).nodup_iff.mpr (h y (List.mem_filter.mp hy).1).2
    exact ((srt_up y.2).and n).imp fun {a b} q => by have := q.1; have := q.2; omega
  · intro e
    have e : srt y.2 = [] := e
    have l0 : y.2.length = 0 := by rw [← srt_len, e]; rfl
    have := (List.mem_filter.mp hy).2
    rw [List.length_eq_zero_iff.mp l0] at this
    cases this
theorem mem_srs {rs : Rs} (nd : (rs.map (·.1)).Nodup) (z : Str) (x : Int) : x ∈ rowsOf (srs rs) z ↔ x ∈ rowsOf rs z := by
  rw [rowsOf_srs nd]; exact (srt_perm _).mem_iff
theorem WG.eqv {r q : Rs} (g : WG r) (k : WG q) (e : ∀ z x, x ∈ rowsOf r z ↔ x ∈ rowsOf q z) (z : Str) : rowsOf r z = rowsOf q z := by
  have up : ∀ {r : Rs}, WG r → (rowsOf r z).Pairwise (· < ·) := fun {r} g => by
    by_cases h : z ∈ r.map (·.1)
    · obtain ⟨y, hy, ey⟩ := List.mem_map.mp h
      rw [← ey, rowsOf_mem g.nd hy]; exact g.up y hy
    · rw [rowsOf_none h]; exact .nil
  exact lt_uniq (up g) (up k) (e z)
section
variable {X : Cx} {p pos : Pos} {e : Expr} {es : List Expr} {t : TA}
theorem pc_dictC {K : Fg} (T : Tx X.K X.mg) (ha : PA X (e :: es) t) (hK : X.K = K := by rfl) (hg : Gl X "dict" := by rfl) (he : starEach (e :: es) X.env = (false, eval e X.env) :: starEach es X.env := by rfl) (hpl : (backTo pos (starEach es X.env)).any (·.1) = false := by rfl) :
    PE X (.Call (.Name "dict" p) (e :: es) [] pos) (tCB (fun xs H Q => ∃ (a : Addr) (kvs : List (Key × V)), xs = [.ref a] ∧ Rd H a (.dK kvs) ∧ ∀ p, H p = none → Q (.ref p) (upd H p (.dK kvs))) t) := by subst hK; exact pe_callTy call_dictD hg T.dict (by decide +kernel) ha (he := he) (hpl := hpl)
end
end Pl

namespace Pl
open PySem L2 PySem.Spec PyProof.Rows
/-- one list of the dict anew -/
theorem Rows.chg {N : Addr → Prop} {H : Hp} {al : Addr} {z : Str} {l' : List Int} (na : N al) : ∀ {kvs : List (Key × V)} {rs : Rs}, Rows N H kvs rs → (∀ kv r, (kv, r) ∈ kvs.zip rs → (r.1 = z ↔ kv.2 = .ref al)) → Rows N (upd H al (.lst (l'.map V.int))) kvs (rs.map fun r => if r.1 = z then (r.1, l') else r)
  | _, _, .nil, _ => .nil
  | kv :: _, r :: _, .cons ⟨e, a, na', ea, ha⟩ t, h => by
    have h0 := h kv r (by rw [List.zip_cons_cons]; exact List.mem_cons_self)
    rw [List.map_cons]
    refine .cons ?_ (Rows.chg na t fun kv r m => h kv r (by rw [List.zip_cons_cons]; exact List.mem_cons_of_mem _ m))
    by_cases q : r.1 = z
    · rw [if_pos q]
      exact ⟨e, al, na, h0.mp q, upd_same⟩
    · rw [if_neg q]
      refine ⟨e, a, na', ea, ?_⟩
      rw [upd_ne fun z' => q (h0.mpr (by rw [ea, z']))]; exact ha
theorem nd_ixG {α : Type} {l : List α} (nd : l.Nodup) {i j : Nat} {x : α} (hi : l[i]? = some x) (hj : l[j]? = some x) : i = j :=
  (List.getElem?_inj (List.getElem?_eq_some_iff.mp hi).1 nd).mp (hi.trans hj.symm)
theorem zip_at {α β : Type} : ∀ {l : List α} {m : List β} {x : α} {y : β}, (x, y) ∈ l.zip m → ∃ i : Nat, l[i]? = some x ∧ m[i]? = some y
  | [], _, _, _, h => by simp at h
  | _ :: _, [], _, _, h => by simp at h
  | a :: l, b :: m, x, y, h => by
    rw [List.zip_cons_cons, List.mem_cons] at h
    rcases h with h | h
    · injection h with h1 h2
      exact ⟨0, by rw [h1]; rfl, by rw [h2]; rfl⟩
    · obtain ⟨i, h1, h2⟩ := zip_at h
      exact ⟨i + 1, by rw [List.getElem?_cons_succ]; exact h1, by rw [List.getElem?_cons_succ]; exact h2⟩
theorem Rows.chg1 {N : Addr → Prop} {H : Hp} {al : Addr} {z : Str} {l l' : List Int} {kvs : List (Key × V)} {rs : Rs} {i : Nat} (na : N al) (h : Rows N H kvs rs) (nd : (rs.map (·.1)).Nodup) (vnd : (kvs.map (·.2)).Nodup) (hk : kvs[i]? = some (Sum.inr z, .ref al)) (hr : rs[i]? = some (z, l)) : Rows N (upd H al (.lst (l'.map V.int))) kvs (setR rs z l') := by
  have e : setR rs z l' = rs.map fun r => if r.1 = z then (r.1, l') else r := by
    unfold setR
    rw [if_pos (List.mem_map.mpr ⟨_, List.mem_of_getElem? hr, rfl⟩)]
  rw [e]
  refine Rows.chg na h fun kv r m => ?_
  obtain ⟨j, h1, h2⟩ := zip_at m
  constructor
  · intro q
    have : j = i := nd_ixG nd (x := z) (by rw [List.getElem?_map, h2, ← q]; rfl) (by rw [List.getElem?_map, hr]; rfl)
    rw [this, hk] at h1
    rw [← Option.some.inj h1]
  · intro q
    have : j = i := by
      have k1 : (kvs.map (·.2))[j]? = some (V.ref al) := by rw [List.getElem?_map, h1, ← q]; rfl
      have k2 : (kvs.map (·.2))[i]? = some (V.ref al) := by rw [List.getElem?_map, hk]; rfl
      exact nd_ixG vnd k1 k2
    rw [this, hr] at h2
    rw [← Option.some.inj h2]
/-- [x for x in a if f(x)], whatever the items -/
theorem lc_filtG {K : Fg} {α : Type} {g : α → V} {σ : L2.St} {H : Hp} {Qd : Hp → Prop} {f : α → Bool} {j : Nat} {a D : Addr} {l : List α} {tt : TT} (hD : H D = none) (hs : SqL K H a (l.map g)) (hz : l.length ≤ 1000)
    (hp : ∀ x ∈ l, ∀ (H' : Hp) (R : Bool → Hp → Prop), Same H H' → R (f x) H' → tt ((wipe σ [j]).set j (some (g x))) H' R)
    (q : ∀ H', Same H H' → H' D = some (.lst ((l.filter f).map g)) → Qd H') (hw2 : ∀ x, ((wipe σ [j]).set j (some x))[j]? = some (some x)) (hw3 : ∀ x, wipe ((wipe σ [j]).set j (some x)) [j] = wipe σ [j]) :
    ∃ W : Nat → Nat → Hp → Prop, (∃ m, W 0 m (upd H D (.lst []))) ∧ ∀ i m H, W i m H →
      ((Itl K a).stop i H ∧ Qd H) ∨ ((Itl K a).go i H ∧ ∃ Nx : Hp → Prop, (∀ H', Nx H' → ∃ m', m' < m ∧ W (i + 1) m' H') ∧ ∀ x H', (Itl K a).yld i H x H' → gName j x (wipe σ [j]) H' fun σ2 H2 => wipe σ2 [j] = wipe σ [j] ∧ tt σ2 H2 fun b H3 =>
        if b = true then tVar j σ2 H3 fun y H4 => ∃ acc, H4 D = some (.lst acc) ∧ acc.length < sizeLine ∧ Nx (upd H4 D (.lst (acc ++ [y]))) else Nx H3) := by
  refine lc_list (K := K) (a := a) (xs := l.map g) (fun n H' => Same H H' ∧ H' D = some (.lst (((l.take n).filter f).map g))) ⟨(Same.refl H).new hD, upd_same⟩ (fun n H' _ p => ?_) ?_ ?_
  · rcases hs with (h | ⟨o, h⟩) | h
    · exact .inl (.inl (p.1 _ _ h))
    · exact .inl (.inr ⟨o, p.1 _ _ h⟩)
    · exact .inr h
  · rintro n x H' hx ⟨s1, s2⟩
    obtain ⟨z, hz', rfl⟩ : ∃ z, l[n]? = some z ∧ x = g z := by
      rw [List.getElem?_map] at hx
      cases e : l[n]? with
      | none => rw [e] at hx; cases hx
      | some z => rw [e] at hx; exact ⟨z, rfl, (Option.some.inj hx).symm⟩
    have il : n < l.length := (List.getElem?_eq_some_iff.mp hz').1
    refine ⟨hw3 _, hp z (List.mem_of_getElem? hz') H' _ s1 ?_⟩
    cases e : f z with
    | true =>
      refine iteT ⟨_, hw2 _, _, s2, by rw [List.length_map]; exact small1000 (Nat.le_trans (List.length_filter_le _ _) (by rw [List.length_take]; omega)), s1.chg hD, ?_⟩
      rw [upd_same, List.take_add_one, hz', List.filter_append, List.map_append]
      show _ = some (HO.lst (_ ++ (([z].filter f).map g)))
      rw [List.filter_cons_of_pos e]; rfl
    | false =>
      refine iteF ⟨s1, ?_⟩
      rw [s2, List.take_add_one, hz', List.filter_append]
      have : ((some z).toList.filter f) = [] := by show [z].filter f = []; rw [List.filter_cons_of_neg (by rw [e]; decide)]; rfl
      rw [this, List.append_nil]
  · rintro H' ⟨s1, s2⟩
    rw [List.length_map, List.take_length] at s2
    exact q H' s1 s2
theorem RsOk.setR {m : Nat} {rs : Rs} {z : Str} {l : List Int} (h : RsOk m rs) (nl : l.Nodup) (ll : l.length ≤ m) : RsOk m (setR rs z l) := by
  refine ⟨setR_nd h.nd, fun r hr => ?_⟩
  unfold Pl.setR at hr
  split at hr
  · obtain ⟨y, hy, rfl⟩ := List.mem_map.mp hr
    split
    · exact ⟨nl, ll⟩
    · exact h.each y hy
  · rcases List.mem_append.mp hr with a | a
    · exact h.each r a
    · rw [List.mem_singleton.mp a]; exact ⟨nl, ll⟩
theorem setR_same {rs : Rs} {z : Str} {l : List Int} (h : z ∈ rs.map (·.1)) : (setR rs z l).map (·.1) = rs.map (·.1) := by rw [setR_names, if_pos h]
theorem cut_sub {l : List Int} (i j : Option Int) : ∃ c : List Int, cutV (l.map V.int) i j = c.map V.int ∧ c.Sublist l := by
  unfold cutV
  refine ⟨(l.drop (HT.sIx (l.map V.int).length 0 i)).take (HT.sIx (l.map V.int).length (l.map V.int).length j - HT.sIx (l.map V.int).length 0 i), by rw [List.map_take, List.map_drop], ?_⟩
  exact (List.take_sublist _ _).trans (List.drop_sublist _ _)
theorem sIx_neg1 (n d : Nat) : HT.sIx n d (some (-1)) = n - 1 := by
  show (if (-1 : Int) < 0 then ((-1 : Int) + (n : Int)).toNat else min (-1 : Int).toNat n) = n - 1
  rw [if_pos (by decide)]; omega
theorem cut_init {l : List Int} {x : Int} : cutV ((l ++ [x]).map V.int) none (some (-1)) = l.map V.int := by
  unfold cutV
  rw [sIx_neg1, HT.sIx_none, List.length_map, List.length_append, List.drop_zero, List.map_append]
  show List.take (l.length + 1 - 1 - 0) (l.map V.int ++ [V.int x]) = _
  rw [Nat.add_sub_cancel, Nat.sub_zero, List.take_append_of_le_length (by rw [List.length_map]; exact Nat.le_refl _), List.take_of_length_le (by rw [List.length_map]; exact Nat.le_refl _)]
theorem cut_last {l : List Int} {x : Int} : cutV ((l ++ [x]).map V.int) (some (-1)) none = [V.int x] := by
  unfold cutV
  rw [sIx_neg1, HT.sIx_none, List.length_map, List.length_append, List.map_append]
  show List.take (l.length + 1 - (l.length + 1 - 1)) (List.drop (l.length + 1 - 1) (l.map V.int ++ [V.int x])) = _
  rw [Nat.add_sub_cancel, List.drop_left' (by rw [List.length_map]), show l.length + 1 - l.length = 1 by omega]; rfl
theorem ix_listQ {X : Cx} {K : Fg} (e : X.K = K := by rfl) : IxR X (rIxL K) := e ▸ ix_list
theorem setR_twice {rs : Rs} {z : Str} {l m : List Int} (h : z ∈ rs.map (·.1)) : setR (setR rs z l) z m = setR rs z m := by
  have h2 : z ∈ (setR rs z l).map (·.1) := by rw [setR_same h]; exact h
  unfold setR at h2 ⊢
  rw [if_pos h] at h2 ⊢
  rw [if_pos h2, if_pos h, List.map_map]
  refine List.map_congr_left fun r _ => ?_
  show (if (if r.1 = z then (r.1, l) else r).1 = z then ((if r.1 = z then (r.1, l) else r).1, m) else (if r.1 = z then (r.1, l) else r)) = if r.1 = z then (r.1, m) else r
  by_cases e : r.1 = z <;> simp [e]
/-! pairs of a name and a value, as a dict gives them -/
abbrev Gv := Str × V × PyData
def GvE (H : Hp) (v : V) (e : Gv) : Prop := ∃ t, v = .ref t ∧ H t = some (.tup [.str e.1, e.2.1])
abbrev GvR (H : Hp) (vs : List V) (es : List Gv) : Prop := Paired (GvE H) vs es
theorem GvR.mono {H H' : Hp} (h : ∀ t xs, H t = some (.tup xs) → H' t = some (.tup xs)) : ∀ {vs : List V} {es : List Gv}, GvR H vs es → GvR H' vs es
  | _, _, .nil => .nil
  | _, _, .cons ⟨t, e, g⟩ r => .cons ⟨t, e, h _ _ g⟩ (GvR.mono h r)
theorem GvR.snoc {H : Hp} {t : Addr} {e : Gv} (h : H t = some (.tup [.str e.1, e.2.1])) : ∀ {vs : List V} {es : List Gv}, GvR H vs es → GvR H (vs ++ [.ref t]) (es ++ [e])
  | _, _, .nil => .cons ⟨t, rfl, h⟩ .nil
  | _, _, .cons x r => .cons x (GvR.snoc h r)
theorem GvR.length {H : Hp} {vs : List V} {es : List Gv} (r : GvR H vs es) : vs.length = es.length := Paired.length r
def gvK (es : List Gv) : List (Key × V) := es.map fun e => (Sum.inr e.1, e.2.1)
theorem gvK_at {es : List Gv} (nd : (es.map (·.1)).Nodup) {i : Nat} {e : Gv} (h : es[i]? = some e) : valV (gvK es) (Sum.inr e.1) = some e.2.1 := by
  have h1 : (gvK es)[i]? = some (Sum.inr e.1, e.2.1) := by unfold gvK; rw [List.getElem?_map, h]; rfl
  refine valV_ix ?_ h1
  have : (gvK es).map (·.1) = (es.map (·.1)).map fun z => (Sum.inr z : Key) := by unfold gvK; rw [List.map_map, List.map_map]; rfl
  rw [this]
  exact List.Pairwise.map _ (fun a b ne e => ne (by injection e)) nd
end Pl

/-! sets of texts that can be walked; their comprehension; sorted of them -/
namespace L2
open PySem PySem.Spec PyProof.Rows PySem.Froz PpSet
/-- the object of a new set -/
abbrev eSx (w : World) : Obj := { cls := .type "set", dict := none, data := .set #[] 0 (.fresh 0 0 (!w.params.followText "set-order")) }
/-- the texts l, none twice, make up the set at a, whose table can be walked -/
def TxS (P : Program) (w : World) (h : Heap) (a : Addr) (l : List Str) : Prop :=
  ∃ D : SD, h.get? a = some (sObj "set" D) ∧ TxOk P w D l ∧ l.Nodup ∧ l.length < scanBound ∧ Ris D.2.2.place.toList ∧ (w.params.followText "set-order" = true ∨ D.2.2.led = true)
def insT (l : List Str) (k : Str) : List Str := if k ∈ l then l else k :: l
theorem mem_insT {l : List Str} {k x : Str} : x ∈ insT l k ↔ x = k ∨ x ∈ l := by
  unfold insT
  split
  · rename_i h
    exact ⟨.inr, fun z => z.elim (fun e => e ▸ h) id⟩
  · exact List.mem_cons
theorem nd_insT {l : List Str} {k : Str} (h : l.Nodup) : (insT l k).Nodup := by
  unfold insT
  split
  · exact h
  · rename_i z
    exact List.nodup_cons.mpr ⟨z, h⟩
theorem len_insT {l : List Str} {k : Str} : (insT l k).length ≤ l.length + 1 := by
  unfold insT
  split
  · exact Nat.le_succ _
  · exact Nat.le_refl _
section
variable {P : Program} {w : World} {h h' : Heap} {a : Addr} {l : List Str}
theorem TxS.at (R : TxS P w h a l) (k : ∀ o, h.get? a = some o → h'.get? a = some o) : TxS P w h' a l := by
  obtain ⟨D, ho, r⟩ := R
  exact ⟨D, k _ ho, r⟩
theorem txs_fresh {h : Heap} : TxS P w (h.push (eSx w)) h.objs.size [] :=
  ⟨(#[], 0, .fresh 0 0 (!w.params.followText "set-order")), Heap.get?_push_size _ rfl, TxOk.nil rfl, .nil, by decide, List.Pairwise.nil, by
    show _ ∨ (!w.params.followText "set-order") = true
    cases w.params.followText "set-order"
    · exact .inr rfl
    · exact .inl rfl⟩
theorem tail_ris {ep : Nat} {es1 : Array (Int × Value)} {t2 : SetTable} {b : Bool} (r : Ris t2.place.toList) : Ris (tailTx ep es1 t2 b).2.2.place.toList := by
  unfold tailTx
  by_cases c : (!b && t2.tooFull) = true
  · rw [if_pos c]; exact relayAll_ris _ _ _
  · rw [if_neg c]; exact r
theorem tail_led {ep : Nat} {es1 : Array (Int × Value)} {t2 : SetTable} {b : Bool} (r : t2.led = true) : (tailTx ep es1 t2 b).2.2.led = true := by
  unfold tailTx
  by_cases c : (!b && t2.tooFull) = true
  · rw [if_pos c]; show (relayAll t2 es1 _).2.1.led = true; rw [relayAll_led]; exact r
  · rw [if_neg c]; exact r
theorem ris_add {D : SD} {x : Int} {v : Value} (r : Ris D.2.2.place.toList) : Ris (addTx x v D).2.2.place.toList := by
  obtain ⟨es, ep, t⟩ := D
  have hr := layNew_ris t es x v r
  refine tail_ris ?_
  show Ris (if (layNew t es x v).2.1.plain = true then { (layNew t es x v).2.1 with plain := false } else (layNew t es x v).2.1).place.toList
  split <;> exact hr
theorem led_add {D : SD} {x : Int} {v : Value} (r : D.2.2.led = true) : (addTx x v D).2.2.led = true := by
  obtain ⟨es, ep, t⟩ := D
  have hl := layNew_led t es x v
  have r : t.led = true := r
  refine tail_led ?_
  show (if (layNew t es x v).2.1.plain = true then { (layNew t es x v).2.1 with plain := false } else (layNew t es x v).2.1).led = true
  split <;> (show (layNew t es x v).2.1.led = true; rw [hl]; exact r)
end
section
variable {P : Program} {w : World} {A : Around} {E : Value → Shared → Prop} {s : Shared} {a : Addr} {l : List Str}
theorem txs_hashed {k : Str} {u : Tok} {Q : Bool → Shared → Prop} (R : TxS P w s.heap a l) (room : l.length + 1 < scanBound)
    (q : ∀ b h', Heap.SameBut a s.heap h' → TxS P w h' a (insT l k) → Q b { s with heap := h' }) : wpAny (model P w) A (setAddHashed a (.str k u) (hashStr w k)) Q E s := by
  obtain ⟨D, ho, F, nd, hb, hr, hl⟩ := R
  by_cases hk : k ∈ l
  · have e : insT l k = l := if_pos hk
    have fin := q false s.heap (Heap.SameBut.refl a s.heap) (by rw [e]; exact ⟨D, ho, F, nd, hb, hr, hl⟩)
    obtain ⟨es, ep, t⟩ := D
    have hd : (sObj "set" (es, ep, t)).data = .set es ep t := rfl
    have hel : ElemsOf (strKind P w) es.toList := F.el
    have hsz : es.size = l.length := F.sz
    have hkey : (strKind P w).is k (.str k u) = true := is_str k u
    unfold setAddHashed setAddHashedIn
    refine wpAny_holding (wpAny_bind (wpAny_setState_of ho hd F.fit ?_))
    dsimp only
    rw [byScan_of rfl (by omega) hel]
    simp only [↓reduceIte]
    unfold setAddByScan
    refine wpAny_bind ?_
    refine wpAny_bind (wpAny_rule ?_)
    refine wpAny_bind (wpAny_setScan_of (knd := strKind P w) (k := k) hkey ho hd F.fit hel ?_)
    cases hfi : List.findIdx? (fun e => (strKind P w).is k e.2) es.toList with
    | some j =>
      dsimp only
      exact wpAny_pure (wpAny_pure fin)
    | none =>
      obtain ⟨e, he, z⟩ := (F.mem k).mp hk
      have c := List.findIdx?_eq_none_iff.mp hfi e he
      rw [z] at c
      cases c
  · have e : insT l k = k :: l := if_neg hk
    refine add_x ho F hk room (q true _ (Heap.SameBut.update s.heap a _) ?_)
    rw [e]
    exact ⟨_, get_upd _ ho rfl, add_ok u F, List.nodup_cons.mpr ⟨hk, nd⟩, room, ris_add hr, hl.imp id fun z => led_add z⟩
theorem TxS.typeIs (R : TxS P w s.heap a l) : s.TypeIs (.ref a) "set" := by
  obtain ⟨D, ho, _⟩ := R
  exact ⟨_, ho, rfl⟩
theorem txs_add {k : Str} {u : Tok} {Q : Value → Shared → Prop} (R : TxS P w s.heap a l) (room : l.length + 1 < scanBound)
    (q : ∀ h', Heap.SameBut a s.heap h' → TxS P w h' a (insT l k) → Q .none { s with heap := h', toks := s.toks + 1 }) : wpAny (model P w) A (call (.builtin "set.add") [.ref a, .str k u]) Q E s := by
  refine wpAny_call_entry F.slot_set_add R.typeIs F.entry_set_add ?_ (F.args_set_add_2 _ _)
  unfold Builtin.«set.add» Builtin.Frozenset.oneOther
  simp only [List.isEmpty_nil, bind_assoc]
  unfold Builtin.Frozenset.addrOf setAdd
  refine wpAny_bind (wpAny_pure ?_)
  try dsimp only
  refine wpAny_bind (wpAny_pure ?_)
  try dsimp only
  refine wpAny_bind ?_
  refine wpAny_holding ?_
  refine wpAny_bind ((strKind P w).pyHash (is_str k u) ?_)
  refine txs_hashed (s := { s with toks := s.toks + 1 }) R room fun b h' sb r => ?_
  show wpAny _ _ (ret Value.none) _ _ _
  exact wpAny_pure ⟨_, rfl, q h' sb r⟩
end
/-- the set of texts l at a -/
def SetTx (P : Program) (w : World) (a : Addr) (l : List Str) : HO := .ext fun h => TxS P w h a l
theorem setTx_new {P : Program} {w : World} {H : Hp} {h : Heap} {a : Addr} {l : List Str} (R : TxS P w h a l) : ObjOk P w H h a (SetTx P w a l) := by
  have ⟨D, ho, _⟩ := R
  exact ⟨R, ⟨_, ho⟩, fun h1 h2 p k => TxS.at p k⟩
section
variable {X : Cx}
theorem setTx_get {pins : List (Addr × Obj)} {σ : St} {H : Hp} {s : Shared} {a : Addr} {l : List Str} (I : Inv X pins σ H s) (ha : H a = some (SetTx X.prog X.w a l)) : TxS X.prog X.w s.heap a l := (I.hok a _ ha).1
theorem addTx_ok {pins : List (Addr × Obj)} {σ : St} {H : Hp} {s : Shared} {E : Value → Shared → Prop} {D : Addr} {l : List Str} {k : Str} {u : Tok} {Q : Value → Shared → Prop} (I : Inv X pins σ H s) (hD : H D = some (SetTx X.prog X.w D l)) (room : l.length + 1 < scanBound)
    (q : ∀ s', Inv X pins σ (upd H D (SetTx X.prog X.w D (insT l k))) s' → Q .none s') : wpAny (model X.prog X.w) X.A (call (.builtin "set.add") [.ref D, .str k u]) Q E s := by
  refine txs_add (setTx_get I hD) room fun h' sb new => ?_
  have he : ∃ u, h'.get? D = some u := by
    have ⟨_, ho, _⟩ := new
    exact ⟨_, ho⟩
  exact q _ (I.write (e := D) (t' := s.toks + 1) (by rw [hD]; trivial) (.inl rfl) (fun b u hb hu => (sb.2 b hb).trans hu) he (setTx_new new))
/-- sorted(a), a set of texts -/
def rSortedTx (P : Program) (w : World) : List V → Hp → VK → Prop := fun xs H Q => ∃ (a : Addr) (l : List Str), xs = [.ref a] ∧ H a = some (SetTx P w a l) ∧ l.length < 64 ∧ ∀ ys p, ys.Perm l → sortedS ys = true → H p = none → Q (.ref p) (upd H p (.lst (ys.map V.str)))
theorem strs_of : ∀ (vs : List Value), (∀ v ∈ vs, ∃ k u, v = Value.str k u) → ∃ ks, StrsAre vs ks
  | [], _ => ⟨[], .nil⟩
  | v :: r, h => by
    obtain ⟨k, u, rfl⟩ := h v List.mem_cons_self
    obtain ⟨ks, q⟩ := strs_of r fun x hx => h x (List.mem_cons_of_mem _ hx)
    exact ⟨k :: ks, .cons k u q⟩
theorem perm_of_sub : ∀ {l ks : List Str}, l.Nodup → (∀ k ∈ l, k ∈ ks) → ks.length = l.length → l.Perm ks
  | [], ks, _, _, e => by rw [List.length_eq_zero_iff.mp e]
  | a :: r, ks, nd, sub, e => by
    obtain ⟨na, nr⟩ := List.nodup_cons.mp nd
    have ha := sub a List.mem_cons_self
    refine List.Perm.trans (List.Perm.cons a (perm_of_sub nr (fun k hk => ?_) ?_)) (List.perm_cons_erase ha).symm
    · exact (List.mem_erase_of_ne (fun z : k = a => na (z ▸ hk))).mpr (sub k (List.mem_cons_of_mem _ hk))
    · rw [List.length_erase_of_mem ha, e, List.length_cons]; rfl
theorem str_item {P : Program} {w : World} {D : SD} {l : List Str} (F : TxOk P w D l) {e : Int × Value} (he : e ∈ D.1.toList) : ∃ k u, e.2 = Value.str k u ∧ k ∈ l := by
  obtain ⟨⟨k, h1, _⟩, _⟩ := F.el e he
  obtain ⟨u, eu⟩ := Value.isStrOf_shape (x := k) (v := e.2) h1
  exact ⟨k, u, eu, (F.mem k).mpr ⟨e, he, h1⟩⟩
theorem cr_sortedTx (hc : X.calm = true) : CallR X (.builtin "sorted") (rSortedTx X.prog X.w) := by
  intro pins s σ H xs us Q I r q
  obtain ⟨a, l, rfl, ha, h64, q⟩ := q
  obtain ⟨u, rfl, rx⟩ := vals1 r
  cases rx
  obtain ⟨D, ho, F, nd, hb, hr, hl⟩ := setTx_get I ha
  have sz : D.1.size = l.length := F.sz
  refine Calls.call_function_entry PyProof.Rows.kind_sorted PyProof.Rows.plain_sorted PyProof.Rows.entry_sorted (PyProof.Rows.args_sorted1 _) ?_
  unfold Builtin.«sorted»
  refine wpAny_bind (m := checkCount "sorted" 1 1 _) (wpAny_pure ?_)
  refine wpAny_bind (collect_set (A := X.A.in1) (es := D.1) (ep := D.2.1) (t := D.2.2) (I.ok.hd hc) ⟨_, ho, rfl, rfl⟩ F.fit (by omega) hr hl fun s1 vs k1 hz g1 o1 pm => ?_)
  have hvl : vs.length = l.length := by rw [pm.length_eq, List.length_map, Array.length_toList]; exact sz
  obtain ⟨ks, hS⟩ := strs_of vs fun v hv => by
    obtain ⟨e, he, q⟩ := List.mem_map.mp (pm.mem_iff.mp hv)
    obtain ⟨k, u, ek, _⟩ := str_item F he
    exact ⟨k, u, q ▸ ek⟩
  have kl : ks.length = l.length := by rw [← StrsAre.len_eq hS]; exact hvl
  have sub : ∀ k ∈ l, k ∈ ks := fun k hk => by
    obtain ⟨e, he, z⟩ := (F.mem k).mp hk
    obtain ⟨u, eu⟩ := Value.isStrOf_shape (x := k) (v := e.2) z
    have hv : e.2 ∈ vs := pm.mem_iff.mpr (List.mem_map.mpr ⟨e, he, rfl⟩)
    obtain ⟨i, hi⟩ := List.mem_iff_getElem?.mp hv
    obtain ⟨y, t, ey, hy⟩ := StrsAre.item hS i _ hi
    rw [eu] at ey
    injection ey with e1 _
    rw [e1]
    exact List.mem_of_getElem? hy
  have pk : ks.Perm l := (perm_of_sub nd sub kl).symm
  have I1 : Inv X pins σ H s1 := I.call' (ch := []) o1 (Un.kept k1) (I.hok.kept k1) (by rw [g1]; exact I.bare) (fun _ z => nomatch z)
  refine wpAny_bind (wpAny_newList ?_ (by rw [hvl, sizeLine_eq]; omega))
  have hoL : (s1.heap.push (seqObj "list" vs.toArray 0)).get? s1.heap.objs.size = some (seqObj "list" vs.toArray 0) := Heap.get?_push_size _ rfl
  show wpAny _ _ _ _ _ { s1 with heap := s1.heap.push (seqObj "list" vs.toArray 0) }
  refine wpAny_bind (wpAny_holding (wpAny_call_entry PyProof.Rows.slot_list_sort ⟨_, hoL, rfl⟩ PyProof.Rows.entry_list_sort
    (list_sort_treeK strKind_oneLt (s := { s1 with heap := s1.heap.push (seqObj "list" vs.toArray 0) }) hoL hS.keysOf (fun v₁ v₂ rest e => keyKind_strs (by rw [← e]; exact hS)) (by rw [hvl]; exact h64) fun st' hp hs => ⟨_, rfl, ?_⟩)
    (PyProof.Rows.args_list_sort _)))
  obtain ⟨ys, g1', g2, g3⟩ := sorted_out_str hS hp hs
  obtain ⟨e', he'⟩ := PyProof.Rows.sortedHeap_at (vs := vs) (out := (arrOf st').map (·.2)) hoL
  have hlen : (ys.map V.str).length ≤ sizeLine := by
    rw [List.length_map, g2.length_eq, kl]
    exact Nat.le_trans (Nat.le_of_lt h64) (by decide)
  refine wpAny_pure ⟨_, rfl, .ref s1.heap.objs.size, upd H s1.heap.objs.size (.lst (ys.map V.str)), I1.laid (t' := s1.toks) (fun b u e => ?_) (Nat.le_refl _)
    (show ObjOk X.prog X.w _ _ _ (.lst (ys.map V.str)) from ⟨hlen, ((arrOf st').map (·.2)).toList, e', vals_of_strs g1', by rw [Array.toArray_toList]; exact he'⟩), rfl, q ys _ (g2.trans pk) g3 (I1.hok.fresh (Nat.le_refl _))⟩
  have hb : b < s1.heap.objs.size := Heap.lt_size e
  rw [PyProof.Rows.sortedHeap_old (Nat.ne_of_lt hb) (by rw [size_push']; exact Nat.lt_succ_of_lt hb)]
  exact Heap.get?_push_of_some _ e
end
/-! ### a set comprehension, over any way of keeping what the set is -/
section
variable {X : Cx} (O : Program → World → Addr → HO) (Ad : Program → World → Addr → V → Hp → (Hp → Prop) → Prop)
/-- {elt for target in iter if ..}; D: the new set; Ad: what the add of a value wishes -/
def tScG (P : Program) (w : World) (wi : TI) (g : TG) (tt : TT) (te : TE) (vs : List Nat) : TE := fun σ H Q => wi σ H fun J H1 => ∀ D, H1 D = none → ∃ W : Nat → Nat → Hp → Prop, (∃ m, W 0 m (upd H1 D (O P w D))) ∧ ∀ i m H, W i m H →
  (J.stop i H ∧ Q (.ref D) H) ∨ (J.go i H ∧ ∃ Nx : Hp → Prop, (∀ H', Nx H' → ∃ m', m' < m ∧ W (i + 1) m' H') ∧ ∀ x H', J.yld i H x H' → g x (wipe σ vs) H' fun σ2 H2 => wipe σ2 vs = wipe σ vs ∧ tt σ2 H2 fun b H3 => if b = true then te σ2 H3 fun y H4 => Ad P w D y H4 Nx else Nx H3)
/-- the set's object is there and an add keeps to Ad -/
structure SetG : Prop where
  new : ∀ (P : Program) (w : World) (H : Hp) (h : Heap), ObjOk P w H (h.push (eSx w)) h.objs.size (O P w h.objs.size)
  add : ∀ (Y : Cx) {pins : List (Addr × Obj)} {σ : L2.St} {H : Hp} {s : Shared} {E : Value → Shared → Prop} {D : Addr} {y : V} {u : Value} {N : Hp → Prop}, Inv Y pins σ H s → RelV y u → Ad Y.prog Y.w D y H N →
    wpAny (model Y.prog Y.w) Y.A (call (.builtin "set.add") [.ref D, u]) (fun _ s' => ∃ H', Inv Y pins σ H' s' ∧ N H') E s
variable {O Ad}
theorem pe_scG (G : SetG O Ad) {elt tg iter : Expr} {ifs : List Expr} {scope : Scope} {own : List (PySem.Str × Nat)} {pos : Pos} {wi : TI} {g : TG} {tt : TT} {te : TE} (hc : X.calm = true) (hN : X.N.Nodup) (hi : PI X tg iter wi) (ok : BlkOk X.N X.env.scope scope own)
    (hg : ∀ (s : Shared) (H : Hp) (C : Addr) (cl : List (PySem.Str × Addr)) (fp : List Addr), PG (X.blk s H scope (compEnvC scope cl C X.env) fp) tg g) (ht : ∀ (s : Shared) (H : Hp) (C : Addr) (cl : List (PySem.Str × Addr)) (fp : List Addr), PTs (X.blk s H scope (compEnvC scope cl C X.env) fp) ifs tt)
    (he : ∀ (s : Shared) (H : Hp) (C : Addr) (cl : List (PySem.Str × Addr)) (fp : List Addr), PE (X.blk s H scope (compEnvC scope cl C X.env) fp) elt te) (hs : ∀ x, foldedSetIterable iter X.env x = pure x := by intro _; rfl) :
    PE X (.SetComp elt [⟨tg, iter, ifs, 0⟩] scope pos) (tScG O Ad X.prog X.w wi g tt te (own.map (·.2))) := by
  refine ⟨fun pins s σ H Q I h => ?_⟩
  rw [eval_SetComp]
  have free : ∀ y ∈ scope.names, y.2 = .free → ∃ c, X.env.cells.lookup y.1 = some c := fun y hy e => (ok.free y hy e).elim (fun k => I.ok.has _ (.inl k)) fun k => I.ok.has _ (.inr k)
  refine wpAny_comprehension_free (use := none) rfl hs (closure_ok free) ok.kind (fun y hy e => by rw [ok.uniq y hy, e]) (thn (hi.run pins s σ H _ I h) fun xv s1 hx => thn hx fun itv s2 h2 => ?_)
  obtain ⟨it, fp, tn, J, H2, rfl, I2, T, st2, f2, q⟩ := h2
  refine newSet_ok (newEnv_comp ?_)
  generalize eD : s2.heap.objs.size = D
  obtain ⟨W, ⟨m0, w0⟩, turn⟩ := q D (I2.hok.fresh (Nat.le_of_eq eD))
  have low : ∀ b ∈ fp, b < s2.heap.objs.size := fun b hb => by
    obtain ⟨o, e, _⟩ := T.obj _ _ st2 b hb
    exact Heap.lt_size e
  generalize es3 : ({ s2 with heap := s2.heap.push { cls := .type "set", dict := none, data := .set #[] 0 (.fresh 0 0 (!X.w.params.followText "set-order")) } } : Shared) = s3
  have h3 : s3.heap = s2.heap.push (eSx X.w) := by rw [← es3]
  have I3' : Inv X pins σ (upd H2 D (O X.prog X.w D)) s3 := by
    rw [← es3]
    refine I2.laid (t' := s2.toks) (fun b o e => Heap.get?_push_of_some _ e) (Nat.le_of_eq eD) ?_
    rw [← eD]
    exact G.new X.prog X.w _ s2.heap
  obtain ⟨H3, e3⟩ : ∃ H3, H3 = upd H2 D (O X.prog X.w D) := ⟨_, rfl⟩
  rw [← e3] at I3' w0
  have I3 : Inv X pins σ H3 s3 := I3'
  have f3 : ∀ b ∈ fp, FpOk X pins H3 b ∧ b < s3.heap.objs.size := fun b hb => by
    have lt := low b hb
    refine ⟨⟨?_, (f2 b hb).2⟩, by rw [h3, Heap.size_push]; exact Nat.lt_succ_of_lt lt⟩
    rw [e3, upd_ne (by rw [← eD]; exact Nat.ne_of_lt lt)]
    exact (f2 b hb).1
  have st3 : tn 0 s3.heap := T.keep _ _ _ st2 fun b _ o e => by rw [h3]; exact Heap.get?_push_of_some _ e
  have I4 := block_start I3 ok hN f3
  have pg := hg s3 H3 s3.heap.objs.size (cellsFrom (s3.heap.objs.size + 1) scope.names (cloFrom X.env.cells scope.names [])) fp
  have pt := ht s3 H3 s3.heap.objs.size (cellsFrom (s3.heap.objs.size + 1) scope.names (cloFrom X.env.cells scope.names [])) fp
  have pe := he s3 H3 s3.heap.objs.size (cellsFrom (s3.heap.objs.size + 1) scope.names (cloFrom X.env.cells scope.names [])) fp
  show codeAny _ _ (.compStart (.SetComp elt [⟨tg, iter, ifs, 0⟩] scope pos) 0 (.ref it) (.ref D) (compEnvC scope (cellsFrom (s3.heap.objs.size + 1) scope.names (cloFrom X.env.cells scope.names [])) s3.heap.objs.size X.env)) (compPost (model X.prog X.w) X.A X.xe none _ (.ref D) s3.heap.objs.size) { s3 with heap := pushCells (s3.heap.push { cls := .type "dict", data := .dict #[] }) scope.names }
  have nfp : ∀ b ∈ fp, H3 b = none := fun b hb => (f3 b hb).1.1
  generalize ece : compEnvC scope (cellsFrom (s3.heap.objs.size + 1) scope.names (cloFrom X.env.cells scope.names [])) s3.heap.objs.size X.env = ce at I4 pg pt pe ⊢
  have cL : ce.locals = s3.heap.objs.size := by rw [← ece]; rfl
  generalize es4 : ({ s3 with heap := pushCells (s3.heap.push { cls := .type "dict", data := .dict #[] }) scope.names } : Shared) = s4 at I4 ⊢
  have st4 : tn 0 s4.heap := T.keep _ _ _ st3 fun b _ o e => by rw [← es4]; exact pushCells_keeps _ _ _ _ (Heap.get?_push_of_some _ e)
  have stat : ∀ {σ' : L2.St} {H' : Hp} {s' : Shared}, Inv (X.blk s3 H3 scope ce fp) [] σ' H' s' → (∀ b ∈ fp, H' b = none) → ∀ b ∈ fp, FpOk (X.blk s3 H3 scope ce fp) [] H' b := fun I' hn b hb =>
    ⟨hn b hb, (I'.ok.exf b hb).1, I'.ok.exfs b hb, .inl hb, fun x c e => (I'.ok.exf b hb).2 x c e, fun p hp => absurd (show p ∈ ([] : List (Addr × Obj)) ++ [] from hp) (by simp)⟩
  have loop : codeAny (model X.prog X.w) X.A (.compLoop (.SetComp elt [⟨tg, iter, ifs, 0⟩] scope pos) 0 (.ref it) (.ref D) ce) (compPost (model X.prog X.w) X.A X.xe none (EP X pins σ Q) (.ref D) s3.heap.objs.size) s4 := by
    refine compLoopS_any (fun n s' => ∃ i H', Inv (X.blk s3 H3 scope ce fp) [] (wipe σ (own.map (·.2))) H' s' ∧ tn i s'.heap ∧ (∀ b ∈ fp, H' b = none) ∧ W i n H') ?_ m0 ⟨0, H3, I4, st4, nfp, w0⟩
    rintro n s5 ⟨i, H5, I5, st5, n5, w5⟩
    rcases turn i n H5 w5 with ⟨stop, qq⟩ | ⟨go, Nx, hNx, step⟩
    · refine thnF (T.done (X.blk s3 H3 scope ce fp) rfl rfl rfl hc i [] s5 _ H5 (fun _ _ => False) I5 (stat I5 n5) st5 stop) fun r s6 ⟨hr, I6⟩ => ?_
      subst hr
      have I7 : Inv X pins σ H5 s6 := I3.call' (ch := fp) I6.os I6.base I6.hok I6.bare fun b hb => ⟨(f3 b hb).1.2.2.2.1, (f3 b hb).1.2.1, (f3 b hb).1.2.2.2.2.1, (f3 b hb).1.2.2.2.2.2⟩
      have nC : H5 s3.heap.objs.size = none := by rw [← cL]; exact I6.free
      obtain ⟨m, hn, _⟩ := I6.loc
      have hn : s6.heap.Ns ce.locals m := hn
      rw [cL] at hn
      obtain ⟨y0, y1, y2, y3, y4, y5⟩ := I3.fpOk (Nat.le_refl _) nC
      exact ⟨m, hn, fun h'' sb => ⟨.ref D, H5, I7.turned (t' := s6.toks) (fun b o hb e => (sb.2 b hb).trans e) y0 y1 y3 y4 y5, rfl, qq⟩⟩
    · refine thnF (T.item (X.blk s3 H3 scope ce fp) rfl rfl rfl hc i [] s5 _ H5 (fun _ _ => False) I5 (stat I5 n5) st5 go) fun r s6 ⟨u, hr, h6⟩ => ?_
      subst hr
      refine thnF h6 fun _ s7 ⟨x, H7, I7, r7, y7, st7, n7⟩ => ?_
      have I7' := I7.pinned (stat I7 n7) (T.obj _ _ st7)
      refine thnF (pg.run _ s7 _ H7 x u _ I7' r7 (step x H7 y7)) fun _ s8 ⟨σ8, H8, I8, hw8, q8⟩ => ?_
      refine thnF (pt.run _ s8 σ8 H8 _ I8 q8) fun b s9 ⟨H9, I9, q9⟩ => ?_
      have fin : ∀ {s' : Shared} {H' : Hp}, Inv (X.blk s3 H3 scope ce fp) ([] ++ pinsAt fp s7.heap) σ8 H' s' → Nx H' → ∃ m, m < n ∧ ∃ i H', Inv (X.blk s3 H3 scope ce fp) [] (wipe σ (own.map (·.2))) H' s' ∧ tn i s'.heap ∧ (∀ b ∈ fp, H' b = none) ∧ W i m H' := fun {s' H'} I' nx => by
        obtain ⟨m', hm, w'⟩ := hNx H' nx
        have pin' : ∀ b ∈ fp, ∀ o, s7.heap.get? b = some o → s'.heap.get? b = some o ∧ H' b = none := fun b hb o e =>
          let z := I'.pin (b, o) (List.mem_append_right _ (List.mem_append_right _ (mem_pinsAt hb e)))
          ⟨z.1, z.2.1⟩
        have hl : (wipe σ (own.map (·.2))).length = σ8.length := by rw [← hw8, wipe_length]
        refine ⟨m', hm, i + 1, H', (I'.unpinned (pins := [])).weak hl (fun j v e => ?_), T.keep _ _ _ st7 fun b hb o e => (pin' b hb o e).1, fun b hb => ?_, w'⟩
        · rw [← hw8] at e
          exact (wipe_some e).1
        · obtain ⟨o, e, _⟩ := T.obj _ _ st7 b hb
          exact (pin' b hb o e).2
      cases b with
      | false =>
        simp only [Bool.false_eq_true, if_false] at q9 ⊢
        exact fin I9 q9
      | true =>
        simp only [if_true] at q9 ⊢
        refine thnF (pe.run _ s9 σ8 H9 _ I9 q9) fun z s10 ⟨yv, H10, I10, r10, ad⟩ => ?_
        exact wpAny_mono (G.add (X.blk s3 H3 scope ce fp) I10 r10 ad) (fun _ s11 ⟨H11, I11, nx⟩ => fin I11 nx) fun _ _ z => z
  exact codeAny_compStart_set loop (T.self X.A 0 _ _ _ st4 loop)
end
/-! ### of texts -/
def AdTx (P : Program) (w : World) (D : Addr) (y : V) (H : Hp) (N : Hp → Prop) : Prop := ∃ (c : Str) (l : List Str), y = .str c ∧ H D = some (SetTx P w D l) ∧ l.length + 1 < scanBound ∧ N (upd H D (SetTx P w D (insT l c)))
theorem setG_tx : SetG (fun P w D => SetTx P w D []) AdTx where
  new := fun P w H h => setTx_new txs_fresh
  add := fun Y {pins σ H s E D y u N} I r h => by
    obtain ⟨c, l, rfl, hD, room, n⟩ := h
    obtain ⟨t, rfl⟩ := r
    exact addTx_ok I hD room fun s' I' => ⟨_, I', n⟩
section
variable {K : PySem.W.Frag} {P : Program} {w : World}
/-- over a list that the block leaves as it is -/
theorem sct_list {a : Addr} {xs : List V} {g : TG} {tt : TT} {te : TE} {vs : List Nat} {σ : L2.St} {H1 : Hp} {D : Addr} {Qd : Hp → Prop} (Pv : Nat → Hp → Prop) (h0 : Pv 0 (upd H1 D (SetTx P w D []))) (hl : ∀ i H, i ≤ xs.length → Pv i H → SqL K H a xs)
    (hs : ∀ i x H, xs[i]? = some x → Pv i H → g x (wipe σ vs) H fun σ2 H2 => wipe σ2 vs = wipe σ vs ∧ tt σ2 H2 fun b H3 => if b = true then te σ2 H3 fun y H4 => AdTx P w D y H4 (Pv (i + 1)) else Pv (i + 1) H3) (hd : ∀ H, Pv xs.length H → Qd H) :
    ∃ W : Nat → Nat → Hp → Prop, (∃ m, W 0 m (upd H1 D (SetTx P w D []))) ∧ ∀ i m H, W i m H →
      ((Itl K a).stop i H ∧ Qd H) ∨ ((Itl K a).go i H ∧ ∃ Nx : Hp → Prop, (∀ H', Nx H' → ∃ m', m' < m ∧ W (i + 1) m' H') ∧ ∀ x H', (Itl K a).yld i H x H' → g x (wipe σ vs) H' fun σ2 H2 => wipe σ2 vs = wipe σ vs ∧ tt σ2 H2 fun b H3 => if b = true then te σ2 H3 fun y H4 => AdTx P w D y H4 Nx else Nx H3) := by
  refine ⟨fun i m H => m = xs.length - i ∧ i ≤ xs.length ∧ Pv i H, ⟨xs.length, by simp, Nat.zero_le _, h0⟩, ?_⟩
  rintro i m H ⟨rfl, hi, p⟩
  have q := hl i H hi p
  by_cases hlt : i < xs.length
  · refine .inr ⟨⟨xs, xs[i], q, by simp [hlt]⟩, Pv (i + 1), fun H' p' => ⟨xs.length - (i + 1), by omega, rfl, hlt, p'⟩, fun x H' y => ?_⟩
    obtain ⟨e, y⟩ := y
    subst e
    exact hs i x _ (y xs q) p
  · have e : i = xs.length := by omega
    subst e
    exact .inl ⟨⟨xs, q, Nat.le_refl _⟩, hd H p⟩
end
end L2
namespace Pl
open PySem L2 PySem.Spec PyProof.Rows
section
variable {X : Cx} {p pos : Pos} {e : Expr} {es : List Expr} {t : TA} {P : Program} {w : World}
theorem pc_sortedTx (hc : X.calm = true) (T : Tx X.K X.mg) (ha : PA X (e :: es) t) (hP : X.prog = P := by rfl) (hw : X.w = w := by rfl) (hg : Gl X "sorted" := by rfl) (he : starEach (e :: es) X.env = (false, eval e X.env) :: starEach es X.env := by rfl) (hpl : (backTo pos (starEach es X.env)).any (·.1) = false := by rfl) :
    PE X (.Call (.Name "sorted" p) (e :: es) [] pos) (tCB (rSortedTx P w) t) := by subst hP; subst hw; exact pe_callB (cr_sortedTx hc) hg T.sorted (by decide +kernel) ha (he := he) (hpl := hpl)
end
end Pl

/-! set(..) of a list of texts -/
namespace L2
open PySem PySem.Spec PyProof.Rows PySem.Froz PpSet
theorem txs_new_at {P : Program} {w : World} {h : Heap} {a : Addr} (ho : h.get? a = some (eSx w)) : TxS P w h a [] :=
  ⟨(#[], 0, .fresh 0 0 (!w.params.followText "set-order")), ho, TxOk.nil rfl, .nil, by decide, List.Pairwise.nil, by
    show _ ∨ (!w.params.followText "set-order") = true
    cases w.params.followText "set-order"
    · exact .inr rfl
    · exact .inl rfl⟩
section
variable {P : Program} {w : World} {A : Around} {E : Value → Shared → Prop} {s : Shared}
/-- the loop that puts a walk's texts into a set -/
theorem set_update_strs {I : Addr} {fp wr : List Addr} {G : Array GenState → Array GenState → Prop} {n : Nat} {Pv : Nat → Value → Prop} {St : Nat → Shared → Prop} {R : Result → Shared → Prop}
    (W : WalksS P w A.in1 I fp wr G n Pv St) (S : Addr) (hSf : S ∉ fp) (ns : List Str) (hn : n = ns.length) (hb : ns.length + 1 < scanBound) (hval : ∀ i v, Pv i v → ∃ k t, ns[i]? = some k ∧ v = .str k t) :
    ∀ (k i : Nat) (s : Shared), n - i = k → i ≤ n → St i s → (∃ l, l.length ≤ i ∧ TxS P w s.heap S l ∧ ∀ x, x ∈ l ↔ x ∈ ns.take i) →
      (∀ s' l, Moved (S :: wr) G s s' → l.length ≤ n → TxS P w s'.heap S l → (∀ x, x ∈ l ↔ x ∈ ns) → R (.ok (.ret .none)) s') →
      codeAny (model P w) A (.builtin "set.update.loop" ⟨[.ref S, .ref I], []⟩) R s := by
  have nw : S ∉ wr := fun h => hSf (W.sub _ h)
  intro k
  induction k with
  | zero =>
    intro i s hk hi hst ⟨l, ll, hS, hm⟩ hR
    obtain rfl : i = n := by omega
    refine codeAny_builtin F.entry_set_update_loop ?_
    rw [Around.under_plainId F.plain_set_update_loop _]
    show wpAny _ A.in1 (pyNext (.ref I) >>= _) _ _ s
    refine wpAny_bind (W.done s _ _ hst fun s' mv => ?_)
    show wpAny _ A.in1 (ret Value.none) _ _ s'
    rw [show ns.take i = ns from List.take_of_length_le (by omega)] at hm
    exact wpAny_pure (hR s' l (mv.mono fun b hb => List.mem_cons_of_mem _ hb) ll (hS.at fun o e => mv.heap S o nw e) hm)
  | succ k ih =>
    intro i s hk hi hst ⟨l, ll, hS, hm⟩ hR
    refine codeAny_builtin F.entry_set_update_loop ?_
    rw [Around.under_plainId F.plain_set_update_loop _]
    show wpAny _ A.in1 (pyNext (.ref I) >>= _) _ _ s
    refine wpAny_bind (W.item i s _ _ (by omega) hst fun v s' hP hst' mv => ?_)
    obtain ⟨z, t, hz, rfl⟩ := hval i v hP
    have hS' : TxS P w s'.heap S l := hS.at fun o e => mv.heap S o nw e
    show wpAny _ A.in1 (holding [Value.str z t] (setAdd S (.str z t)) >>= _) _ _ s'
    refine wpAny_bind (wpAny_holding ?_)
    unfold setAdd
    refine wpAny_holding ?_
    refine wpAny_bind ((strKind P w).pyHash (is_str z t) ?_)
    refine txs_hashed (s := { s' with toks := s'.toks + 1 }) hS' (by omega) fun b h' sb new => ?_
    refine wpAny_pure ⟨plainId_quiet F.plain_set_update_loop _, ih (i + 1) _ (by omega) (by omega) (W.frame _ s' _ _ hst' (Nat.le_succ _) fun b hb o e => ?_) ⟨_, Nat.le_trans len_insT (Nat.succ_le_succ ll), new, fun x => ?_⟩ fun s'' l2 mv2 ll2 hS2 hm2 => ?_⟩
    · rw [sb.2 b (fun h : b = S => hSf (by rw [← h]; exact hb))]; exact e
    · rw [mem_insT, hm x, List.take_add_one, hz, List.mem_append]
      show x = z ∨ x ∈ ns.take i ↔ x ∈ ns.take i ∨ x ∈ [z]
      rw [List.mem_singleton]; exact Or.comm
    · refine hR s'' l2 (Moved.trans W.gtrans ((mv.mono fun b hb => List.mem_cons_of_mem _ hb).then_heap (Nat.le_succ _) fun b o hb e => ?_) mv2) ll2 hS2 hm2
      rw [sb.2 b (fun h : b = S => hb (by rw [h]; exact List.mem_cons_self))]; exact e
set_option maxRecDepth 100000 in
set_option maxHeartbeats 3200000 in
/-- set(l) of a list of texts, with all that a walk over it wants -/
theorem set_of_listT {l : Addr} {its : Array Value} (ns : List Str) {Q : Value → Shared → Prop} (calm : A.handled = none) (isl : s.heap.IsList l its) (ia : StrsAre its.toList ns) (few : ns.length + 1 < scanBound)
    (q : ∀ (h' : Heap) (tk : Nat) (l' : List Str), TxS P w h' s.heap.objs.size l' → l'.length ≤ ns.length → (∀ x, x ∈ l' ↔ x ∈ ns) → (∀ b o, s.heap.get? b = some o → h'.get? b = some o) → Q (.ref s.heap.objs.size) { s with heap := h', toks := tk }) :
    wpAny (model P w) A (call (.type "set") [.ref l]) Q E s := by
  have sz : its.size = ns.length := by have := StrsAre.len_eq ia; rw [Array.length_toList] at this; exact this
  obtain ⟨c, tl, m0⟩ := F.called_set.mro
  have m1 := F.called_set.made; have m2 := F.called_set.sub; have m3 := F.called_set.notType; have m4 := F.called_set.canCreate; have m5 := F.typeCall_set_1 (.ref l)
  refine wpAny_call (codeAny_of_tree ?_); show wpAny _ _ (callAny (.type "set") _) _ _ _
  refine wpAny_pure ⟨Code.quiet_builtin _ (by decide +kernel), codeAny_builtin F.entry_type_call ?_⟩; rw [Around.under_plain (weight_type_call_type "set" [.ref l] []) rfl]
  repeat (any_goals (first | assumption | wp_step))
  let s0 : Shared := { s with heap := s.heap.push (eSx w) }
  refine codeAny_mono (code_set_led1 (.ref l) (E := E) (Q₁ := fun v t => v = .ref s.heap.objs.size ∧ t = s0) ⟨rfl, rfl⟩) fun r t hr => ?_
  match r, hr with
  | .error e, hr => exact hr
  | .ok (.ret v), hr =>
    obtain ⟨rfl, rfl⟩ := hr
    have g0 : (s.heap.push (eSx w)).get? s.heap.objs.size = some (eSx w) := Heap.get?_push_size _ rfl
    have ty : Shared.TypeIs s0 (.ref s.heap.objs.size) "set" := ⟨_, g0, rfl⟩
    have i1 := F.called_set.init.lookup; have i2 := F.called_set.init.bind (.ref s.heap.objs.size)
    repeat (any_goals (first | assumption | wp_step))
    refine codeAny_mono (codeAny_call_builtin (R := wants (fun r t => r = .none ∧ ∃ h' tk l', t = { s with heap := h', toks := tk } ∧ TxS P w h' s.heap.objs.size l' ∧ l'.length ≤ ns.length ∧ (∀ x, x ∈ l' ↔ x ∈ ns) ∧ (∀ b o, s.heap.get? b = some o → h'.get? b = some o)) E) F.called_set.init.plain F.entry_set_init (check_set_init_1 ty ?_)) fun r t hr => ?_
    · obtain ⟨ol, e0, e1, nl, e2⟩ := isl
      obtain ⟨oc, od, oa, osl⟩ := ol
      simp only at e1 e2
      subst e1; subst e2
      have e3 : (s.heap.push (eSx w)).get? l = some ⟨.type "list", od, .seq its nl, osl⟩ := Heap.get?_push_of_some _ e0
      have j1 := F.sub_list_set; have j2 := F.sub_list_frozenset
      have j3 : (Value.type "list" == Value.type "dict") = false := by decide
      have il : (s.heap.push (eSx w)).IsList l its := ⟨_, e3, rfl, nl, rfl⟩
      unfold Builtin.«set.__init__» noKeywords Builtin.Frozenset.updateFrom
      generalize hPI : pyIter = PI
      wp_walk
      subst hPI
      refine wpAny_pyIter_list il ?_
      refine wpAny_bind (wpAny_runValue ?_)
      have ll : l < s.heap.objs.size := Heap.lt_size e0
      have sz1 : (s.heap.push (eSx w)).objs.size = s.heap.objs.size + 1 := Heap.size_push ..
      have n1 : l ≠ (s.heap.push (eSx w)).objs.size := by rw [sz1]; exact Nat.ne_of_lt (Nat.lt_succ_of_lt ll)
      have n2 : s.heap.objs.size ∉ [(s.heap.push (eSx w)).objs.size, l] := by
        rw [sz1]; intro z; simp only [List.mem_cons, List.not_mem_nil, or_false] at z
        exact z.elim (Nat.ne_of_lt (Nat.lt_succ_self _)) (Nat.ne_of_gt ll)
      have hv : ∀ (i : Nat) (v : Value), its[i]? = some v → ∃ k t, ns[i]? = some k ∧ v = .str k t := fun i v e => by
        obtain ⟨y, t, e1, e2⟩ := StrsAre.item ia i v (by rw [Array.getElem?_toList]; exact e)
        exact ⟨y, t, e2, e1⟩
      refine set_update_strs ((Walks.list (by simp [calm]) _ l n1 its).toS) s.heap.objs.size n2 ns sz few hv (its.size - 0) 0 _ rfl (Nat.zero_le _) ⟨⟨_, Heap.get?_push_size _ rfl, rfl, rfl⟩, il.push _⟩ ⟨[], Nat.le_refl 0, txs_new_at (Heap.get?_push_of_some _ g0), fun x => by simp⟩ fun s' l' mv lc hS hm => ?_
      obtain ⟨h', gg, dd, tt, oo⟩ := s'
      have k1 : gg = s.gens := mv.gens; have k2 : dd = s.drawn := mv.drawn; have k3 : oo = s.os := mv.os
      subst k1; subst k2; subst k3
      show wpAny _ _ _ _ _ _; refine wpAny_pure ?_; show wpAny _ _ (ret Value.none) _ _ _
      rw [sz] at lc
      refine wpAny_pure ⟨rfl, h', tt, l', rfl, hS, lc, hm, fun b o e => ?_⟩
      have lb : b < s.heap.objs.size := Heap.lt_size e
      refine mv.heap b o (fun z => ?_) (Heap.get?_push_of_some _ (Heap.get?_push_of_some _ e))
      rw [sz1] at z; simp only [List.mem_cons, List.not_mem_nil, or_false] at z
      exact z.elim (Nat.ne_of_lt lb) (Nat.ne_of_lt (Nat.lt_succ_of_lt lb))
    · match r, hr with
      | .error e, hr => exact hr
      | .ok (.ret u), hr =>
        obtain ⟨rfl, h', tk, l', rfl, r1, r2, r3, r4⟩ := hr
        repeat (any_goals (first | assumption | wp_step))
        exact q _ _ _ r1 r2 r3 r4
      | .ok .next, hr => exact hr.elim
      | .ok .brk, hr => exact hr.elim
      | .ok .cont, hr => exact hr.elim
  | .ok .next, hr => exact hr.elim
  | .ok .brk, hr => exact hr.elim
  | .ok .cont, hr => exact hr.elim
end
section
variable {X : Cx}
/-- set(a), a list of texts -/
def rSetTx (K : PySem.W.Frag) (P : Program) (w : World) : List V → Hp → VK → Prop := fun xs H Q => ∃ (l : Addr) (ns : List Str), xs = [.ref l] ∧ SqL K H l (ns.map V.str) ∧ ns.length ≤ 4000 ∧
  ∀ (p : Addr) (l' : List Str), H p = none → l'.length ≤ ns.length → l'.Nodup → (∀ x, x ∈ l' ↔ x ∈ ns) → Q (.ref p) (upd H p (SetTx P w p l'))
theorem strs_back : ∀ {ns : List Str} {us : List Value}, Vals (ns.map V.str) us → StrsAre us ns
  | [], _, .nil => .nil
  | n :: ns, _, .cons r t => by
    obtain ⟨tk, rfl⟩ := r
    exact .cons n tk (strs_back t)
theorem cr_setTx (hc : X.calm = true) : CallR X (.type "set") (rSetTx X.K X.prog X.w) := by
  intro pins s σ H xs us Q I r h
  obtain ⟨l, ns, rfl, hq, hz, q⟩ := h
  obtain ⟨u, rfl, ru⟩ := vals1 r
  cases ru
  obtain ⟨its, r, pl, _⟩ := I.list hq
  refine set_of_listT ns (I.ok.hd hc) pl.isList (by simpa using strs_back r) (by show _ < 4096; omega) fun h' tk l' hS ll hm k1 => ?_
  have fr : H s.heap.objs.size = none := I.hok.fresh (Nat.le_refl _)
  exact ⟨.ref s.heap.objs.size, _, I.laid (t' := tk) k1 (Nat.le_refl _) (setTx_new hS), rfl, q _ l' fr ll (by obtain ⟨_, _, _, nd, _⟩ := hS; exact nd) hm⟩
end
end L2
namespace Pl
open PySem L2 PySem.Spec PyProof.Rows
section
variable {X : Cx} {p pos : Pos} {e : Expr} {es : List Expr} {t : TA} {P : Program} {w : World} {K : Fg}
theorem pc_setTx (hc : X.calm = true) (T : Tx X.K X.mg) (ha : PA X (e :: es) t) (hK : X.K = K := by rfl) (hP : X.prog = P := by rfl) (hw : X.w = w := by rfl) (hg : Gl X "set" := by rfl) (he : starEach (e :: es) X.env = (false, eval e X.env) :: starEach es X.env := by rfl) (hpl : (backTo pos (starEach es X.env)).any (·.1) = false := by rfl) :
    PE X (.Call (.Name "set" p) (e :: es) [] pos) (tCB (rSetTx K P w) t) := by subst hK; subst hP; subst hw; exact pe_callTy (cr_setTx hc) hg T.set (by decide +kernel) ha (he := he) (hpl := hpl)
end
end Pl

namespace L2
open PySem PySem.Spec PyProof.Rows
/-! several except clauses, some with a name: the wish is wMany's; a clause with a name puts the exception into its slot and empties the slot at its end -/
def asTS (i : Nat) (ts : Addr → Value → Option Addr → TS) : Addr → Value → Option Addr → TS := fun a cls d D σ H =>
  ts a cls d { nx := fun σ' H' => D.nx (σ'.set i none) H', rt := D.rt, bk := fun σ' H' => D.bk (σ'.set i none) H', ct := fun σ' H' => D.ct (σ'.set i none) H' } (σ.set i (some (.ref a))) H
def SuiteOk (X : Cx) (b₀ : Stmt) (suite : List Stmt) (ts : Addr → Value → Option Addr → TS) : Prop :=
  ∀ (a : Addr) (oe : Obj) (cls : Value) (d : Option Addr) (pn : List (Addr × Obj)), Zc cls d oe → (∃ vs, oe.data = .fields vs) → PSs (X.suite a ((a, oe) :: pn)) (b₀ :: suite) (ts a cls d)
inductive HdsX (X : Cx) : List ExceptHandler → List (Value × (Addr → Value → Option Addr → TS)) → Prop
  | nil : HdsX X [] []
  | bare {x : Str} {c : Value} {ts : Addr → Value → Option Addr → TS} {b₀ : Stmt} {suite : List Stmt} {np pos' : Pos} {hds : List ExceptHandler} {l : List (Value × (Addr → Value → Option Addr → TS))} (hc : Names X x c) (hsu : SuiteOk X b₀ suite ts) (r : HdsX X hds l) :
      HdsX X (.ExceptHandler (some (.Name x np)) none (b₀ :: suite) pos' :: hds) ((c, ts) :: l)
  | named {x n : Str} {i : Nat} {c : Value} {ts : Addr → Value → Option Addr → TS} {b₀ : Stmt} {suite : List Stmt} {np pos' : Pos} {hds : List ExceptHandler} {l : List (Value × (Addr → Value → Option Addr → TS))} (hi : X.N[i]? = some n) (hln : X.env.kindOf n = some .local) (hc : Names X x c) (hsu : SuiteOk X b₀ suite ts) (r : HdsX X hds l) :
      HdsX X (.ExceptHandler (some (.Name x np)) (some n) (b₀ :: suite) pos' :: hds) ((c, asTS i ts) :: l)
section
variable {X : Cx} {body : List Stmt} {h₀ : ExceptHandler} {hds : List ExceptHandler} {l : List (Value × (Addr → Value → Option Addr → TS))} {pos : Pos} {tb : WX → TS} {Wout : WX}
theorem ps_try_x (hs : X.stack = X.env :: X.outer) (hf : X.env.frame = some X.env.locals) (hN : X.N.Nodup) (tk : Takes X Wout)
    (hb : ∀ (W : WX) (pn : List (Addr × Obj)) (xe : Value → Shared → Prop), Takes (X.tr pn xe) W → PassesOwn (model X.prog X.w) X.A X.env xe → PSs (X.tr pn xe) body (tb W))
    (hh : HdsX X (h₀ :: hds) l) : PS X (.Try body (h₀ :: hds) [] [] pos) (fun D σ H => tb (wMany X.K Wout D l) D σ H) := by
  refine ⟨fun pins s σ H D I h => ?_⟩
  have ok := I.ok
  have hfr : X.A.frames = some (X.env :: X.outer) := by rw [ok.frames, hs]
  refine wpAny_Try_except ?_
  refine wpAny_mono ((hb (wMany X.K Wout D l) (X.pn ++ pins) (fun e s₁ => wpAny (model X.prog X.w) X.A (noteFrame e X.env) (fun _ s₂ => wpAny (model X.prog X.w) X.A (setFlight e none) (fun _ s₃ =>
    wpAny (model X.prog X.w) X.A (handleBy e X.env (h₀ :: hds)) (SP X pins D) X.xe s₃) X.xe s₂) X.xe s₁) (fun u s' xx => ?_) PassesOwn.looking).run [] s σ H D (I.toTry _) h) (fun f s1 hsp => ?_) (fun e s1 he => he)
  · obtain ⟨a, B, sI, pins', σ', H', cls, d, rfl, J', nb, up, sky, na, os, ag, w⟩ := xx
    have J : Inv X pins σ' H' sI := J'.ofTry ok
    have sky' : Sky B (X.env :: X.outer) a (Zc cls d) X.env.locals s'.heap := by rw [← hs]; exact sky
    show wpAny (model X.prog X.w) X.A (noteFrame (.ref a) X.env) _ _ _
    refine Sky.land Zc.steady hfr hf sky' fun h3 fl3 up3 => ?_
    have J3 : Inv X pins σ' H' { s' with heap := h3 } := J.landed nb fl3.1 (up.trans up3) os ag
    obtain ⟨oe3, vs3, he3, hz3, hd3⟩ := fl3.there
    have nfr : a ∉ frs (X.env :: X.outer) := fun hm => by
      obtain ⟨_, o', e', hnf⟩ := fl3.2.2.1.mem hm
      rw [he3] at e'; cases e'
      exact hnf _ hd3
    have nL : a ≠ X.env.locals := fun z => nfr (List.mem_filterMap.mpr ⟨X.env, List.mem_cons_self, by rw [hf, z]⟩)
    have nF : a ∉ X.fs := fun hm => by
      obtain ⟨e, he, q⟩ := List.mem_filterMap.mp hm
      exact nfr (List.mem_filterMap.mpr ⟨e, List.mem_cons_of_mem _ he, q⟩)
    have S3 := J3.suite he3 hd3 na nL nF
    -- one clause's class is asked
    have ask : ∀ {x : Str} {c : Value} {np : Pos} {b : Bool} {Q : Value → Shared → Prop} {E : Value → Shared → Prop} {k : Value → Sem Bool}, Names X x c → PySem.W.exmOne X.K cls c = some b →
        (∀ {Q : Value → Shared → Prop} {E : Value → Shared → Prop}, Q c { s' with heap := h3 } → wpAny (model X.prog X.w) (X.A.mark (some (.ref a))) (eval (.Name x np) X.env) Q E { s' with heap := h3 }) := fun {x c np b _ _ _} hc _ {Q E} q => by
      obtain ⟨hg, hdbg, hm | ⟨hm, hv, hnn⟩⟩ := hc
      · exact ld_glob (X := X.suite a ((a, oe3) :: (X.pn ++ pins))) S3 hg hm q hdbg
      · exact ld_blt (X := X.suite a ((a, oe3) :: (X.pn ++ pins))) S3 hg hm hv q hnn hdbg
    have LT : PySem.W.Looks (model X.prog X.w) h3 (typeOf (.ref a)) cls := fun A Q E s k q => wpAny_typeOf_ref (k _ _ he3) (by rw [hz3.1]; exact q)
    have go : ∀ {hds' : List ExceptHandler} {l' : List (Value × (Addr → Value → Option Addr → TS))}, HdsX X hds' l' → wMany X.K Wout D l' cls d σ' H' →
        wpAny (model X.prog X.w) X.A (handleBy (.ref a) X.env hds') (SP X pins D) X.xe { s' with heap := h3 } := by
      intro hds' l' hk
      induction hk with
      | nil =>
        intro w
        refine wpAny_handleBy_nil ?_
        obtain ⟨k1, k2, k3, oe, vs, T, oT, ts', he, hz, hd, h1, hr⟩ := id fl3
        unfold PySem.passOn
        refine wpAny_bind (wpAny_field he hd h1 ?_)
        rw [if_neg (show ¬ ((Value.ref T == Value.none) = true) from by simp)]
        have fin : wpAny (model X.prog X.w) X.A (setFlight (.ref a) X.env.frame) (fun _ s4 => wpAny (model X.prog X.w) X.A (throw (.ref a) : Sem Flow) (SP X pins D) X.xe s4) X.xe { s' with heap := h3 } := by
          rw [hf]
          refine HandSPX.setFlight_upZ fl3 fun h4 hh4 up4 => wpAny_throw (tk _ _ ?_)
          exact ⟨a, B, sI, pins, σ', H', cls, d, rfl, J, nb, (up.trans up3).trans up4, .inr (.inr (by rw [hs]; exact hh4)), na, os, ag, w⟩
        first
          | exact wpAny_bind (wpAny_pure (wpAny_bind fin))
          | exact wpAny_bind fin
      | @bare x c ts b₀ suite np pos' hds2 l2 hc hsu r ih =>
        intro w
        obtain ⟨b, hb1, hyes, hno⟩ := w
        refine wpAny_handleBy_cons (codeAny_handlers_test ?_) (by intro q; cases q)
        have LM := PySem.W.exm_one (M := model X.prog X.w) (J3.kIn) LT hb1
        refine ask (b := b) (Q := fun _ _ => True) (E := fun _ _ => True) (k := fun _ => pure true) hc hb1 (LM.here ?_)
        cases b with
        | false => exact ih (hno rfl)
        | true =>
          refine codeAny_handlers_suite ?_
          refine HandSPX.lands_againZ fl3 fun h4 fl4 up4 => ?_
          have J4 : Inv X pins σ' H' { s' with heap := h4 } := J.landed nb fl4.1 ((up.trans up3).trans up4) os ag
          obtain ⟨oe4, vs4, he4, hz4, hd4⟩ := fl4.there
          have S4 := J4.suite he4 hd4 na nL nF
          refine wpAny_mono ((hsu a oe4 cls d (X.pn ++ pins) hz4 ⟨_, hd4⟩).run [] _ _ H' _ S4 (hyes rfl a na)) (fun f s6 hsp => ?_) (fun _ _ z => False.elim z)
          cases f with
          | ret u => exact let ⟨_, _, _, S6, r6, q6⟩ := hsp; ⟨_, _, _, S6.unsuite ok, r6, q6⟩
          | next => exact let ⟨_, _, S6, q6⟩ := hsp; ⟨_, _, S6.unsuite ok, q6⟩
          | brk => exact let ⟨_, _, S6, q6⟩ := hsp; ⟨_, _, S6.unsuite ok, q6⟩
          | cont => exact let ⟨_, _, S6, q6⟩ := hsp; ⟨_, _, S6.unsuite ok, q6⟩
      | @named x n i c ts b₀ suite np pos' hds2 l2 hi hln hc hsu r ih =>
        intro w
        obtain ⟨b, hb1, hyes, hno⟩ := w
        refine wpAny_handleBy_cons (codeAny_handlers_test ?_) (by intro q; cases q)
        have LM := PySem.W.exm_one (M := model X.prog X.w) (J3.kIn) LT hb1
        refine ask (b := b) (Q := fun _ _ => True) (E := fun _ _ => True) (k := fun _ => pure true) hc hb1 (LM.here ?_)
        cases b with
        | false => exact ih (hno rfl)
        | true =>
          refine codeAny_handlers_suite_as ?_
          refine HandSPX.lands_againZ fl3 fun h4 fl4 up4 => ?_
          have J4 : Inv X pins σ' H' { s' with heap := h4 } := J.landed nb fl4.1 ((up.trans up3).trans up4) os ag
          obtain ⟨oe4, vs4, he4, hz4, hd4⟩ := fl4.there
          have S4 := J4.suite he4 hd4 na nL nF
          refine store_ok (X := X.suite a ((a, oe4) :: (X.pn ++ pins))) (v := .ref a) S4 hN hi (.inl hln) rfl (fun s5 S5 => ?_) (.inr hln)
          refine wpAny_mono ((hsu a oe4 cls d (X.pn ++ pins) hz4 ⟨_, hd4⟩).run [] s5 _ H' _ S5 (hyes rfl a na)) (fun f s6 hsp => ?_) (fun _ _ z => False.elim z)
          cases f with
          | ret u => exact let ⟨_, _, _, S6, r6, q6⟩ := hsp; gone_ok (S6.unsuite ok) hN hi hln fun s7 J7 => ⟨_, _, _, J7, r6, q6⟩
          | next => exact let ⟨_, _, S6, q6⟩ := hsp; gone_ok (S6.unsuite ok) hN hi hln fun s7 J7 => ⟨_, _, J7, q6⟩
          | brk => exact let ⟨_, _, S6, q6⟩ := hsp; gone_ok (S6.unsuite ok) hN hi hln fun s7 J7 => ⟨_, _, J7, q6⟩
          | cont => exact let ⟨_, _, S6, q6⟩ := hsp; gone_ok (S6.unsuite ok) hN hi hln fun s7 J7 => ⟨_, _, J7, q6⟩
    exact go hh w
  · cases f with
    | next => exact let ⟨_, _, J', q⟩ := hsp; wpAny_execs_nil ⟨_, _, J'.ofTry ok, q⟩
    | brk => exact let ⟨_, _, J', q⟩ := hsp; ⟨_, _, J'.ofTry ok, q⟩
    | cont => exact let ⟨_, _, J', q⟩ := hsp; ⟨_, _, J'.ofTry ok, q⟩
    | ret u => exact let ⟨_, _, _, J', r, q⟩ := hsp; ⟨_, _, _, J'.ofTry ok, r, q⟩
end
end L2

/-! Errors of the package: raised, passed on, caught by the law. -/
namespace Pl
open PySem L2 PySem.Spec PyProof.Rows
section
variable {P : Program} {w : World} {K : Fg} {mg : Str → Option Value} {base : Heap}
/-! ### a def that may raise, called where it does not -/
theorem noX {k : Nat} {f : Addr} {fd : FuncData} {ps : List Str} {sp : Sp} (F : FnOk P w K mg base (L2.CX P w) k f fd ps sp) : FnOk P w K mg base CX0 k f fd ps (fun vs H Q _ => sp vs H Q E0) :=
  ⟨fun vs H Q E h => F.len vs H Q _ h, fun A outer s H args us vs Q E hr e0 hb hv hs => codeAny_mono (F.run A outer s H args us vs Q _ hr e0 hb hv hs) fun r s' h => by
    cases r with
    | error e => obtain ⟨_, _, _, _, _, _, _, _, _, _, _, _, z⟩ := h; exact z.elim
    | ok fl => cases fl <;> exact h⟩
theorem Cal.noX {x : Str} {k : Nat} {sp : Sp} (c : Cal P w K mg base (L2.CX P w) x k sp) : Cal P w K mg base CX0 x k (fun vs H Q _ => sp vs H Q E0) := by
  obtain ⟨f, fd, ps, G, r⟩ := c
  exact ⟨f, fd, ps, Pl.noX G, r⟩
theorem CalI.noX {C : Addr} {m : Str} {k : Nat} {sp : Sp} (c : CalI P w K mg base (L2.CX P w) C m k sp) : CalI P w K mg base CX0 C m k (fun vs H Q _ => sp vs H Q E0) := by
  obtain ⟨f, fd, ps, G, r⟩ := c
  exact ⟨f, fd, ps, Pl.noX G, r⟩
theorem CalM.noX {x : Str} {C : Addr} {k : Nat} {sp : Sp} (c : CalM P w K mg base (L2.CX P w) x C k sp) : CalM P w K mg base CX0 x C k (fun vs H Q _ => sp vs H Q E0) := by
  obtain ⟨f, fd, ps, G, r⟩ := c
  exact ⟨f, fd, ps, Pl.noX G, r⟩
/-- a def that raises nothing is one that may raise -/
theorem toX {k : Nat} {f : Addr} {fd : FuncData} {ps : List Str} {sp : Sp} (F : FnOk P w K mg base CX0 k f fd ps sp) : FnOk P w K mg base (L2.CX P w) k f fd ps sp :=
  ⟨F.len, fun A outer s H args us vs Q E hr e0 hb hv hs => codeAny_mono (F.run A outer s H args us vs Q E hr e0 hb hv hs) fun r s' h => by
    cases r with
    | error e => exact (show False from h).elim
    | ok fl => cases fl <;> exact h⟩
end
/-! ### two promises of one def -/
section
variable {P : Program} {w : World} {K : Fg} {mg : Str → Option Value} {base : Heap}
def CalR (P : Program) (w : World) (K : Fg) (mg : Str → Option Value) (base : Heap) (CX : CXT) (x : Str) (k : Nat) (sp : Sp) : Prop := ∃ f, FnR P w K mg base CX k f sp ∧ mg x = some (.ref f) ∧ PySem.W.keepIn K (.ref f) = true
theorem rawX {k : Nat} {f : Addr} {sp : Sp} (F : FnR P w K mg base CX0 k f sp) : FnR P w K mg base (L2.CX P w) k f sp := fun A outer s H us vs Q E hr e0 hv hs => codeAny_mono (F A outer s H us vs Q E hr e0 hv hs) fun r s' h => by
    cases r with
    | error e => exact (show False from h).elim
    | ok fl => cases fl <;> exact h
theorem Cal.raw {CX : CXT} {x : Str} {k : Nat} {sp : Sp} (c : Cal P w K mg base CX x k sp) : CalR P w K mg base CX x k sp := by
  obtain ⟨f, fd, ps, G, hm, hk, hb⟩ := c
  exact ⟨f, (G.raw hb .nil).imp fun vs H Q E h => by rw [List.append_nil]; exact h, hm, hk⟩
theorem CalR.toX {x : Str} {k : Nat} {sp : Sp} (c : CalR P w K mg base CX0 x k sp) : CalR P w K mg base (L2.CX P w) x k sp := by
  obtain ⟨f, G, r⟩ := c
  exact ⟨f, rawX G, r⟩
theorem CalR.imp {CX : CXT} {x : Str} {k : Nat} {sp sp' : Sp} (c : CalR P w K mg base CX x k sp) (h : ∀ vs H Q E, sp' vs H Q E → sp vs H Q E) : CalR P w K mg base CX x k sp' := by
  obtain ⟨f, G, r⟩ := c
  exact ⟨f, G.imp h, r⟩
theorem CalR.mono {CX : CXT} {x : Str} {k j : Nat} {sp : Sp} (c : CalR P w K mg base CX x k sp) (h : k ≤ j) : CalR P w K mg base CX x j sp := by
  obtain ⟨f, G, r⟩ := c
  exact ⟨f, G.mono h, r⟩
theorem CalR.or {CX : CXT} {x : Str} {k j : Nat} {sp sp' : Sp} (c : CalR P w K mg base CX x k sp) (c' : CalR P w K mg base CX x j sp') (h : k ≤ j) : CalR P w K mg base CX x j (fun vs H Q E => sp vs H Q E ∨ sp' vs H Q E) := by
  obtain ⟨f, G, hm, hk⟩ := c
  obtain ⟨f', G', hm', _⟩ := c'
  have e : f' = f := by
    have z := hm.symm.trans hm'
    cases z; rfl
  subst e
  exact ⟨_, fun A outer s H us vs Q E hr e0 r hs => hs.elim (G.mono h A outer s H us vs Q E hr e0 r) (G' A outer s H us vs Q E hr e0 r), hm, hk⟩
/-- the own method m of the class C -/
def CalIR (P : Program) (w : World) (K : Fg) (mg : Str → Option Value) (base : Heap) (CX : CXT) (C : Addr) (m : Str) (k : Nat) (sp : Sp) : Prop := ∃ f, FnR P w K mg base CX k f sp ∧ Meth K C m f ∧ Cls K C
theorem CalI.raw {CX : CXT} {C : Addr} {m : Str} {k : Nat} {sp : Sp} (c : CalI P w K mg base CX C m k sp) : CalIR P w K mg base CX C m k sp := by
  obtain ⟨f, fd, ps, G, hm, cl, hb⟩ := c
  exact ⟨f, (G.raw hb .nil).imp fun vs H Q E h => by rw [List.append_nil]; exact h, hm, cl⟩
theorem CalIR.toX {C : Addr} {m : Str} {k : Nat} {sp : Sp} (c : CalIR P w K mg base CX0 C m k sp) : CalIR P w K mg base (L2.CX P w) C m k sp := by
  obtain ⟨f, G, r⟩ := c
  exact ⟨f, rawX G, r⟩
theorem CalIR.imp {CX : CXT} {C : Addr} {m : Str} {k : Nat} {sp sp' : Sp} (c : CalIR P w K mg base CX C m k sp) (h : ∀ vs H Q E, sp' vs H Q E → sp vs H Q E) : CalIR P w K mg base CX C m k sp' := by
  obtain ⟨f, G, r⟩ := c
  exact ⟨f, G.imp h, r⟩
theorem CalIR.mono {CX : CXT} {C : Addr} {m : Str} {k j : Nat} {sp : Sp} (c : CalIR P w K mg base CX C m k sp) (h : k ≤ j) : CalIR P w K mg base CX C m j sp := by
  obtain ⟨f, G, r⟩ := c
  exact ⟨f, G.mono h, r⟩
theorem CalIR.or {CX : CXT} {C : Addr} {m : Str} {k j : Nat} {sp sp' : Sp} (c : CalIR P w K mg base CX C m k sp) (c' : CalIR P w K mg base CX C m j sp') (h : k ≤ j) : CalIR P w K mg base CX C m j (fun vs H Q E => sp vs H Q E ∨ sp' vs H Q E) := by
  obtain ⟨f, G, hm, hk⟩ := c
  obtain ⟨f', G', hm', _⟩ := c'
  have e : f' = f := by
    have z := hm.at_.symm.trans hm'.at_
    cases z; rfl
  subst e
  exact ⟨_, fun A outer s H us vs Q E hr e0 r hs => hs.elim (G.mono h A outer s H us vs Q E hr e0 r) (G' A outer s H us vs Q E hr e0 r), hm, hk⟩
end
section
variable {X : Cx} {CX : CXT} {k j : Nat} {sp : Sp} {E : XK} {x m : Str} {C : Addr} {p pos apos : Pos} {o e : Expr} {es : List Expr} {t : TA} {ta : TE} {pl : Sem Bool}
theorem run_fnV {pins : List (Addr × Obj)} {σ : L2.St} {H : Hp} {s : Shared} {Q : VK} {f : Addr} {us : List Value} {vs : List V} (F : FnR X.prog X.w X.K X.mg X.base CX k f sp) (hr : Room k X.A) (hx : Passes CX X E) (I : Inv X pins σ H s) (r : Vals vs us) (h : sp vs H Q E) :
    wpAny (model X.prog X.w) X.A (call (.ref f) us) (EP X pins σ Q) X.xe s := by
  refine wpAny_call (codeAny_mono (run_fnR F hr hx I r h) fun r s' z => ?_)
  cases r with
  | error e => exact z
  | ok fl => cases fl <;> first | exact z | exact False.elim z
theorem pcr (c : CalR X.prog X.w X.K X.mg X.base CX x k sp) (hr : Room j X.A) (h : k ≤ j) (hx : Passes CX X E) (ha : PA X (e :: es) t) (hg : Gl X x := by rfl) (hdb : (x == ("__debug__" : Str)) = false := by decide)
    (he : starEach (e :: es) X.env = (false, eval e X.env) :: starEach es X.env := by rfl) (hpl : (backTo pos (starEach es X.env)).any (·.1) = false := by rfl) :
    PE X (.Call (.Name x p) (e :: es) [] pos) (fun σ H Q => t σ H fun vs H1 => sp vs H1 Q E) := by
  obtain ⟨f, G, hm, hk⟩ := c
  refine ⟨fun pins s σ H Q I q => wpAny_Call_Name_kw (ld_glob I hg hm (PySem.W.callWith_K (first := []) I.ok.mod.kin hk (thn (ha.run pos pins s σ H _ I q) fun us s1 z => ?_) he hpl) hdb)⟩
  obtain ⟨vs, H1, I1, r, q1⟩ := z
  exact ⟨I1.kIn, run_fnV G (hr.mono h) hx I1 r q1⟩
theorem pcr0 (c : CalR X.prog X.w X.K X.mg X.base CX x k sp) (hr : Room j X.A) (h : k ≤ j) (hx : Passes CX X E) (hg : Gl X x := by rfl) (hdb : (x == ("__debug__" : Str)) = false := by decide) : PE X (.Call (.Name x p) [] [] pos) (fun _ H Q => sp [] H Q E) := by
  obtain ⟨f, G, hm, hk⟩ := c
  exact ⟨fun pins s σ H Q I q => wpAny_Call_Name_kw (ld_glob I hg hm (PySem.W.callWith_K0 (first := []) I.kIn hk (run_fnV G (hr.mono h) hx I .nil q)) hdb)⟩
end
/-- an answer that is used for less -/
theorem pe_weak {X : Cx} {e : Expr} {t : TE} (he : PE X e t) : PE X e (fun σ H Q => ∃ Qd : VK, (∀ v H', Qd v H' → Q v H') ∧ t σ H Qd) :=
  ⟨fun pins s σ H Q I ⟨Qd, hq, h⟩ => wpAny_mono (he.run pins s σ H Qd I h) (fun v s' ⟨y, H1, I1, r, q⟩ => ⟨y, H1, I1, r, hq _ _ q⟩) fun _ _ e => e⟩
/-- what a callee raises leaves the def, too -/
theorem passX {X : Cx} {E : XK} {E₁ : Value → Shared → Prop} (hs : X.stack = X.env :: X.outer := by rfl) (hf : X.env.frame = some X.env.locals := by rfl) (hex : X.ex = [] := by rfl)
    (hx : X.xe = fun e s' => wpAny (model X.prog X.w) X.A (leaving X.env e) (fun _ s'' => L2.CX X.prog X.w X.outer X.H_0 X.s_0 E e s'') E₁ s' := by rfl) : Passes (L2.CX X.prog X.w) X E := passes_call (takes_of hs hf hex hx) fun _ _ _ _ h => h
/-! ### an error class with one field -/
def spErrI (K : Fg) (C : Addr) (f : Str) : Sp := fun vs H Q _ => ∃ (a : Addr) (v : V), vs = [.ref a, v] ∧ H a = some (exo a C none) ∧ ∀ dx, H dx = none → dx ≠ a → Q .non (upd (upd H dx (exd dx [(f, v)])) a (exo a C (some dx)))
structure ErrC (P : Program) (w : World) (K : Fg) (mg : Str → Option Value) (base : Heap) (x : Str) (C : Addr) (f : Str) : Prop where
  g : mg x = some (.ref C)
  O : OexC K C
  no : PySem.W.findIn K (.ref C) f = some none
  ini : ∃ fI fd ps, PySem.W.findIn K (.ref C) "__init__" = some (some (.ref fI)) ∧ PySem.W.typeIn K (.ref fI) = some (.type "function") ∧ FnOk P w K mg base CX0 1 fI fd ps (spErrI K C f) ∧ Binds K fd ps []
theorem err_init {P : Program} {w : World} {K : Fg} {mg : Str → Option Value} {base : Heap} {C : Addr} {qual : Str} {st : Stmt} {f : Addr} {fd : FuncData} {x s : Str} {p1 p2 p3 p4 : Pos} (O : OexC K C) (no : PySem.W.findIn K (.ref C) x = some none) (F : Fun K "__init__" qual st f fd) (S : FnScope [s, x] [s, x] (defScope st))
    (hb : defBody st = [.Assign [.Attribute (.Name s p1) x p2] (.Name x p3) p4]) (ds : (s == ("__debug__" : Str)) = false) (dx : (x == ("__debug__" : Str)) = false) (ks : Loc (defScope st) s) (kx : Loc (defScope st) x)
    (dcs : (s == ("__classdict__" : Str)) = false) (dcx : (x == ("__classdict__" : Str)) = false) : FnOk P w K mg base CX0 1 f fd [s, x] (spErrI K C x) := by
  refine F.ok S (fun vs H Q E h => ?_) (fun cdv A outer s0 H vs Q E hr h => ?_)
  · obtain ⟨a, v, rfl, _⟩ := h; rfl
  · obtain ⟨a, v, rfl, ha, q⟩ := h
    have vis : ∀ {y : Str}, Loc (defScope st) y → Vis (defScope st) y := fun h => h.elim .inl (fun h => .inr (.inl h))
    rw [hb]
    refine ⟨_, pss_one (ps_ost (pe_var (i := 0) rfl (vis ks) ds dcs) (pe_var (i := 1) rfl (vis kx) dx dcx)), ?_⟩
    exact ⟨_, rfl, _, rfl, a, C, rfl, O, no, .inl ⟨ha, fun d hd ne => q d hd ne⟩⟩
theorem errMk {K : Fg} {C : Addr} {f : Str} {H1 : Hp} {Q : XK} {v : V} (q : ∀ d, H1 d = none → Q (.ref C) (some d) (upd H1 d (.xd [(f, v)]))) :
    ([v] : List V).length ≤ 1000 ∧ ∀ a, H1 a = none → spErrI K C f (.ref a :: ([v] ++ [])) (upd H1 a (exo a C none))
      (fun v' H2 => v' = .non ∧ ∃ (d : Addr) (fs : List (Str × V)), H2 a = some (exo a C (some d)) ∧ H2 d = some (exd d fs) ∧ H1 d = none ∧ Q (.ref C) (some d) (upd (del H2 a) d (.xd fs))) (fun _ _ _ => False) := by
  refine ⟨by show 1 ≤ 1000; decide, fun a ha => ⟨a, v, rfl, upd_same, fun d hd ne => ⟨rfl, d, [(f, v)], upd_same, by rw [upd_ne ne, upd_same], ?_, ?_⟩⟩⟩
  · rw [upd_ne ne] at hd; exact hd
  · have hd1 : H1 d = none := by rw [upd_ne ne] at hd; exact hd
    have e : upd (del (upd (upd (upd H1 a (exo a C none)) d (exd d [(f, v)])) a (exo a C (some d))) a) d (.xd [(f, v)]) = upd H1 d (.xd [(f, v)]) := by
      funext b
      by_cases hb : b = d
      · subst hb; rw [upd_same, upd_same]
      · rw [upd_ne hb, upd_ne hb]
        by_cases hb2 : b = a
        · subst hb2; rw [del_same, ha]
        · rw [del_ne hb2, upd_ne hb2, upd_ne hb, upd_ne hb2]
    rw [e]; exact q d hd1
section
variable {X : Cx} {x f : Str} {C : Addr} {j : Nat} {p pos pos2 : Pos} {e : Expr} {es : List Expr} {ta : TA}
/-- raise X(e) -/
theorem ps_raiseE {E : XK} {E₁ : Value → Shared → Prop} (T : ErrC X.prog X.w X.K X.mg X.base x C f) (hr : Room j X.A) (h2 : 2 ≤ j) (ha : PA X (e :: es) ta) (hc : X.calm = true := by rfl) (hg : Gl X x := by rfl)
    (hs : X.stack = X.env :: X.outer := by rfl) (hf : X.env.frame = some X.env.locals := by rfl) (hex : X.ex = [] := by rfl)
    (hx : X.xe = fun e s' => wpAny (model X.prog X.w) X.A (leaving X.env e) (fun _ s'' => L2.CX X.prog X.w X.outer X.H_0 X.s_0 E e s'') E₁ s' := by rfl)
    (hdb : (x == ("__debug__" : Str)) = false := by decide) (he : starEach (e :: es) X.env = (false, eval e X.env) :: starEach es X.env := by rfl) (hpl : (backTo pos (starEach es X.env)).any (·.1) = false := by rfl) :
    PS X (.Raise (some (.Call (.Name x p) (e :: es) [] pos)) none pos2) (fun _ σ H => tMkO C (spErrI X.K C f) [] ta σ H fun cls d H' => E cls d H') := by
  obtain ⟨fI, fd, ps, i1, i2, F1, hb⟩ := T.ini
  exact ps_raise hc (takes_of hs hf hex hx) (pmk_oex (CX := CX0) T.O i1 i2 F1 (hr.mono h2) hb .nil (fun _ _ _ _ _ _ _ h => h.elim) hg T.g ha hdb he hpl)
/-! ### an error class without a field -/
structure ErrO (K : Fg) (mg : Str → Option Value) (x : Str) (C : Addr) : Prop where
  g : mg x = some (.ref C)
  q : PySem.W.excIn K C [.type "ValueError", .type "Exception", .type "BaseException", .type "object"] "ValueError.__new__" = true
  kp : PySem.W.keepIn K (.ref C) = true
  sb : PySem.W.subIn K (.ref C) (.type "BaseException") = some true
  ty : PySem.W.typeIn K (.ref C) = some (.type "type")
theorem pmk_own0 (T : ErrO X.K X.mg x C) (hg : Gl X x) (hdb : (x == ("__debug__" : Str)) = false := by decide) : PMk X (.Call (.Name x p) [] [] pos) (fun _ H Q => Q (.ref C) none H) := by
  intro pins s σ H Q I h
  refine wpAny_Call_Name_kw (ld_glob I hg T.g ?_ hdb)
  refine PySem.W.callWith_K0 (first := []) I.kIn T.kp ?_
  show wpAny _ _ (call (.ref C) []) _ _ _
  obtain ⟨bm, N, nm, qn, bs, hdct, sn, sub, ab, col, dd, k0, k1, k2, k3, k5, mN, hC, hN, hni, T'⟩ := exc_obj I.kIn T.q
  obtain ⟨hp, g, d, t, os⟩ := s
  refine wpAny_call_exc_subT PySem.F.excBase_ValueError T' hC hN hni (fun h' e hm => ?_) (by show 0 ≤ sizeLine; rw [sizeLine_eq]; omega)
  exact mk_of I hm (raises_own T.sb T.ty) h (I.hok.gone hm.new)
/-- raise X() -/
theorem ps_raiseO {E : XK} {E₁ : Value → Shared → Prop} (T : ErrO X.K X.mg x C) (hc : X.calm = true := by rfl) (hg : Gl X x := by rfl)
    (hs : X.stack = X.env :: X.outer := by rfl) (hf : X.env.frame = some X.env.locals := by rfl) (hex : X.ex = [] := by rfl)
    (hx : X.xe = fun e s' => wpAny (model X.prog X.w) X.A (leaving X.env e) (fun _ s'' => L2.CX X.prog X.w X.outer X.H_0 X.s_0 E e s'') E₁ s' := by rfl)
    (hdb : (x == ("__debug__" : Str)) = false := by decide) :
    PS X (.Raise (some (.Call (.Name x p) [] [] pos)) none pos2) (fun _ σ H => E (.ref C) none H) := ps_raise hc (takes_of hs hf hex hx) (pmk_own0 T hg hdb)
end
end Pl

/-! == of two tuples of own objects, by their own ==. -/
namespace PySem
namespace TupQ
open PySem.SeqAt GQ
open AutoSeq1 (wpAny_loadPart')
open MeetsSeq MeetsSeq2 MeetsSeq3 SeqRoads2
section
variable {prog : Program} {w : World} {A : Around} {R : Result → Shared → Prop}
/-- pair by pair; the first that differ end it -/
theorem tup_walk (l b : Addr) (ia ib : Array Value) (n n2 : Nat) (dd dd2 : Option Addr) (sl sl2 : Array (Option Value)) (I : Nat → Shared → Prop)
    (turn : ∀ i (h1 : i < ia.size) (h2 : i < ib.size) s, I i s → wpAny (model prog w) A.in1 (eqBool ia[i] ib[i]) (fun r s' => if r = true then I (i + 1) s' else R (.ok (.ret (.bool false))) s') (fun e s' => R (.error e) s') s)
    (fin : ∀ s, I (min ia.size ib.size) s → R (.ok (.ret (.bool (ia.size == ib.size)))) s) {s : Shared} (hl1 : s.heap.get? l = some { cls := .type "tuple", dict := dd, data := .seq ia n, slots := sl }) (hb1 : s.heap.get? b = some { cls := .type "tuple", dict := dd2, data := .seq ib n2, slots := sl2 }) (h : I 0 s) :
    wpAny (model prog w) A.in1 (Builtin.«tuple.__eq__» ⟨[.ref l, .ref b], []⟩) (FinOf prog w A R) (fun e s' => R (.error e) s') s := by
  have f2 := AutoSeq1.sub_tuple_tuple
  have hZ : (ia.toList.zip ib.toList).length = min ia.size ib.size := by simp
  have h0 := h
  obtain ⟨hp, g, d, tk, os⟩ := s
  wp_walk using wpAny_loadPart' hl1, wpAny_loadPart' hb1, wpAny_forIn_list _ (fun rest c s' => c.1 = none ∧ ∃ i, rest = (ia.toList.zip ib.toList).drop i ∧ i ≤ min ia.size ib.size ∧ I i s') _
  case turn =>
    rintro ⟨y, x⟩ rest c s' ⟨hc, i, hz, hi, hI⟩
    have lt : i < (ia.toList.zip ib.toList).length := by
      rcases Nat.lt_or_ge i (ia.toList.zip ib.toList).length with q | q
      · exact q
      · rw [List.drop_of_length_le q] at hz; cases hz
    have m1 : i < min ia.size ib.size := hZ ▸ lt
    have h1 : i < ia.size := Nat.lt_of_lt_of_le m1 (Nat.min_le_left _ _)
    have h2 : i < ib.size := Nat.lt_of_lt_of_le m1 (Nat.min_le_right _ _)
    rw [List.drop_eq_getElem_cons lt] at hz
    injection hz with e1 e2
    have ey : y = ia[i] := by have := congrArg Prod.fst e1; simpa using this
    have ex : x = ib[i] := by have := congrArg Prod.snd e1; simpa using this
    subst ey ex
    refine wpAny_bind (wpAny_mono (turn i h1 h2 s' hI) (fun r s2 q2 => ?_) fun _ _ z => z)
    cases r with
    | true =>
      have q2 : I (i + 1) s2 := q2
      wp_walk
      exact ⟨rfl, i + 1, e2, m1, q2⟩
    | false =>
      have q2 : R (.ok (.ret (.bool false))) s2 := q2
      wp_walk
      exact q2
  case fin =>
    rintro ⟨c1, c2⟩ s' ⟨hc, i, hz, hi, hI⟩
    simp only at hc
    subst hc
    have ge : min ia.size ib.size ≤ i := by
      rcases Nat.lt_or_ge i (ia.toList.zip ib.toList).length with q | q
      · rw [List.drop_eq_getElem_cons q] at hz; cases hz
      · exact hZ ▸ q
    have ei : i = min ia.size ib.size := by omega
    have hR := fin s' (ei ▸ hI)
    wp_walk
    simpa [Builtin.Tuple.tupleCompareSizes] using hR
  case h =>
    exact ⟨rfl, 0, rfl, Nat.zero_le _, h0⟩
end
end TupQ
end PySem

namespace Pl
open PySem L2 PySem.Spec PyProof.Rows
/-- pair by pair, by the own == -/
def tEqs (S : Addr → Addr → Sp → Prop) (E : XK) : List (Addr × Addr) → Hp → (Bool → Hp → Prop) → Prop
  | [], H, K => K true H
  | (p, q) :: r, H, K => (p = q → tEqs S E r H K) ∧ (p ≠ q → ∃ C dx fs C' dy gs sp, H p = some (.ins C dx fs) ∧ H q = some (.ins C' dy gs) ∧ S C C' sp ∧ sp [.ref p, .ref q] H (fun v H' => ∃ b, v = .bl b ∧ ((b = true → tEqs S E r H' K) ∧ (b = false → K false H'))) E)
def rEqT (K : Fg) (S : Addr → Addr → Sp → Prop) (E : XK) : R2 := fun x y H Q => ∃ (a b : Addr) (ps qs : List Addr), x = .ref a ∧ y = .ref b ∧ SqT K H a (ps.map V.ref) ∧ SqT K H b (qs.map V.ref) ∧
  tEqs S E (ps.zip qs) H fun r H' => Q (.bl (r && decide (ps.length = qs.length))) H'
section
variable {X : Cx} {CX : CXT} {k j : Nat} {S : Addr → Addr → Sp → Prop} {E : XK}
theorem eq_in1 {pins : List (Addr × Obj)} {s : Shared} {σ : L2.St} {H : Hp} {p q : Addr} {C C' dx dy : Addr} {fs gs : List (Str × V)} {sp : Sp} {Kb : Bool → Hp → Prop} (c : CalI X.prog X.w X.K X.mg X.base CX C "__eq__" k sp ∧ PySem.W.notFirst X.K C (.ref C') = true) (hr : Room j X.A) (h : k + 1 ≤ j) (hx : Passes CX X E)
    (I : Inv X pins σ H s) (ne : p ≠ q) (hp : H p = some (.ins C dx fs)) (hq : H q = some (.ins C' dy gs)) (hs : sp [.ref p, .ref q] H (fun v H' => ∃ b, v = .bl b ∧ Kb b H') E) :
    wpAny (model X.prog X.w) X.A.in1 (eqBool (.ref p) (.ref q)) (fun r s' => ∃ H', Inv X pins σ H' s' ∧ Kb r H') X.xe s := by
  obtain ⟨⟨f, fd, ps, G, hm, cl, hb⟩, O⟩ := c
  obtain ⟨mA, J, _⟩ := ins_get I.hok hp
  obtain ⟨od, J, _⟩ := J.look
  obtain ⟨mB, J', _⟩ := ins_get I.hok hq
  obtain ⟨od', J', _⟩ := J'.look
  obtain ⟨m, hF⟩ := I.fr
  refine GQ.eqBool_refG ne (PySem.W.cmp_K (op := .Eq) (hr.mono h).in1.units0 hF I.ok.mod.kin J J'.type O hm.at_ hm.fn ?_)
  refine wpAny_mono (run_in1 (us := [.ref p, .ref q]) (vs := [.ref p, .ref q]) G hr h hb hx I (.cons rfl (.cons rfl .nil)) hs) (fun r s' z => ?_) fun _ _ e => e
  obtain ⟨y, H1, I1, r1, b, rfl, q1⟩ := z
  obtain rfl : r = Value.bool b := r1
  exact ⟨b, rfl, H1, I1, q1⟩
theorem op_eqT (c : ∀ C C' sp, S C C' sp → CalI X.prog X.w X.K X.mg X.base CX C "__eq__" k sp ∧ PySem.W.notFirst X.K C (.ref C') = true) (hr : Room j X.A) (h : k + 1 ≤ j) (hx : Passes CX X E) : OpR X (compareOp .Eq) (rEqT X.K S E) := by
  intro pins s σ H x y v u Q I rx ry hh
  obtain ⟨a, b, ps, qs, rfl, rfl, ha, hb, q⟩ := hh
  obtain rfl : v = Value.ref a := rx
  obtain rfl : u = Value.ref b := ry
  obtain ⟨ia, ra, ea, za⟩ := I.tuple ha
  obtain ⟨ib, rb, eb, zb⟩ := I.tuple hb
  obtain ⟨⟨c1, d1, t1, l1⟩, ho, hc1, n1, hd1⟩ := id ea
  obtain ⟨⟨c2, d2, t2, l2⟩, ho2, hc2, n2, hd2⟩ := id eb
  simp only at hc1 hd1 hc2 hd2
  subst hc1 hd1 hc2 hd2
  have va : ia = ps.map Value.ref := by
    clear ea ho za q ha
    induction ps generalizing ia with
    | nil => cases ra; rfl
    | cons p r ih => cases ra with | cons r1 r2 => rw [List.map_cons, ← ih _ r2, show _ = Value.ref p from r1]
  have vb : ib = qs.map Value.ref := by
    clear eb ho2 zb q hb
    induction qs generalizing ib with
    | nil => cases rb; rfl
    | cons p r ih => cases rb with | cons r1 r2 => rw [List.map_cons, ← ih _ r2, show _ = Value.ref p from r1]
  subst va vb
  show wpAny (model X.prog X.w) X.A (richCompare .Eq (.ref a) (.ref b)) (EP X pins σ Q) X.xe s
  refine wpAny_richCompare_same_room (op := .Eq) ⟨_, ho, rfl⟩ ⟨_, ho2, rfl⟩ F.slot_tuple_eq (GQ.call_here F.slot_tuple_eq ⟨_, ho, rfl⟩ F.entry_tuple_eq (F.args_tuple_eq_2 _ _) ?_) hr.units0
  have lz : (ps.zip qs).length = min ps.length qs.length := List.length_zip
  refine TupQ.tup_walk a b (ps.map Value.ref).toArray (qs.map Value.ref).toArray n1 n2 d1 d2 l1 l2 (fun i s' => ∃ H', Inv X pins σ H' s' ∧ tEqs S E ((ps.zip qs).drop i) H' fun r H' => Q (.bl (r && decide (ps.length = qs.length))) H') (fun i h1 h2 s' ⟨H1, I1, t⟩ => ?_) (fun s' ⟨H1, I1, t⟩ => ?_) ho ho2 ⟨H, I, q⟩
  · have k1 : i < ps.length := by simpa using h1
    have k2 : i < qs.length := by simpa using h2
    have e1 : (ps.map Value.ref).toArray[i] = Value.ref ps[i] := by simp
    have e2 : (qs.map Value.ref).toArray[i] = Value.ref qs[i] := by simp
    rw [e1, e2]
    have ed : (ps.zip qs).drop i = (ps[i], qs[i]) :: (ps.zip qs).drop (i + 1) := by
      rw [List.drop_eq_getElem_cons (by rw [lz]; omega), List.getElem_zip]
    rw [ed] at t
    by_cases hab : ps[i] = qs[i]
    · rw [← hab] at t ⊢
      exact SeqAt.EqAt.same (A := X.A.in1) (s := s') (.ref ps[i]) X.prog X.w _ _ ⟨H1, I1, t.1 rfl⟩
    · obtain ⟨C, dx, fs, C', dy, gs, sp, hp, hq, hS, hs⟩ := t.2 hab
      refine wpAny_mono (eq_in1 (c C C' sp hS) hr h hx I1 hab hp hq hs) (fun r s2 z => ?_) fun _ _ e => e
      obtain ⟨H2, I2, y1, y2⟩ := z
      cases r with
      | true => exact ⟨H2, I2, y1 rfl⟩
      | false =>
        refine ⟨(by intro z; cases z), .bl false, H2, I2, rfl, ?_⟩
        exact y2 rfl
  · have ed : (ps.zip qs).drop (min (ps.map Value.ref).toArray.size (qs.map Value.ref).toArray.size) = [] := by
      apply List.drop_of_length_le
      simp
    rw [ed] at t
    refine ⟨(by intro z; cases z), .bl (decide (ps.length = qs.length)), H1, I1, ?_, by simpa [tEqs] using t⟩
    show _ = Value.bool _
    simp
    by_cases hh : ps.length = qs.length <;> simp [hh]
end
end Pl

/-! x == y, x != y, x op y where y is no own object. -/
namespace Pl
open PySem L2 PySem.Spec PyProof.Rows
/-- a value that may stand on the right, its type -/
inductive OtV (H : Hp) : V → Value → Prop
  | non : OtV H .non (.type "NoneType")
  | bl (b : Bool) : OtV H (.bl b) (.type "bool")
  | int (i : Int) : OtV H (.int i) (.type "int")
  | str (z : Str) : OtV H (.str z) (.type "str")
  | lst {a : Addr} {xs : List V} : H a = some (.lst xs) → OtV H (.ref a) (.type "list")
  | tup {a : Addr} {xs : List V} : H a = some (.tup xs) → OtV H (.ref a) (.type "tuple")
  | dK {a : Addr} {kvs : List (Key × V)} : H a = some (.dK kvs) → OtV H (.ref a) (.type "dict")
  | ins {a C dx : Addr} {fs : List (Str × V)} : H a = some (.ins C dx fs) → OtV H (.ref a) (.ref C)
theorem OtV.same {H H' : Hp} {y : V} {t : Value} (o : OtV H y t) (s : Same H H') : OtV H' y t := by
  cases o with
  | non => exact .non
  | bl b => exact .bl b
  | int i => exact .int i
  | str z => exact .str z
  | lst h => exact .lst (s _ _ h)
  | tup h => exact .tup (s _ _ h)
  | dK h => exact .dK (s _ _ h)
  | ins h => exact .ins (s _ _ h)
section
variable {X : Cx} {CX : CXT} {k j : Nat} {E : XK} {pins : List (Addr × Obj)} {σ : L2.St} {H : Hp} {s : Shared}
theorem OtV.looks {y : V} {u t : Value} (I : Inv X pins σ H s) (r : RelV y u) (o : OtV H y t) : PySem.W.Looks (model X.prog X.w) s.heap (typeOf u) t := by
  cases o with
  | non => obtain rfl : u = Value.none := r; exact .of_pure rfl
  | bl b => obtain rfl : u = Value.bool b := r; exact .of_pure rfl
  | int i => obtain ⟨tk, rfl⟩ := (show ∃ t, u = Value.int i t from r); exact .of_pure rfl
  | str z => obtain ⟨tk, rfl⟩ := (show ∃ t, u = Value.str z t from r); exact .of_pure rfl
  | @lst a xs h =>
    obtain rfl : u = Value.ref a := r
    obtain ⟨z, its, kk, rv, e⟩ := I.hok _ _ h
    exact fun A Q E s' k q => wpAny_typeOf_ref (k _ _ e) q
  | @tup a xs h =>
    obtain rfl : u = Value.ref a := r
    obtain ⟨its, rv, ⟨o, e, ec, _⟩, _⟩ := I.tuple (.inl (.inl h))
    exact fun A Q E s' k q => wpAny_typeOf_ref (k _ _ e) (by rw [ec]; exact q)
  | @dK a kvs h =>
    obtain rfl : u = Value.ref a := r
    obtain ⟨_, _, _, _, o, es, ep, e, ec, _⟩ := I.hok _ _ h
    exact fun A Q E s' k q => wpAny_typeOf_ref (k _ _ e) (by rw [ec.1]; exact q)
  | ins h =>
    obtain rfl : u = _ := r
    obtain ⟨mA, J, _⟩ := ins_get I.hok h
    obtain ⟨od, J, _⟩ := J.look
    exact J.type
/-- x == y by x's own method, y anything -/
def rOwnEqY (S : Addr → Value → Sp → Prop) (E : XK) : R2 := fun x y H Q => ∃ a C dx fs t sp, x = .ref a ∧ H a = some (.ins C dx fs) ∧ OtV H y t ∧ S C t sp ∧ sp [x, y] H Q E
theorem op_eqY {S : Addr → Value → Sp → Prop} (c : ∀ C t sp, S C t sp → CalI X.prog X.w X.K X.mg X.base CX C "__eq__" k sp ∧ PySem.W.notFirst X.K C t = true) (hr : Room j X.A) (h : k ≤ j) (hx : Passes CX X E) : OpR X (compareOp .Eq) (rOwnEqY S E) := by
  intro pins s σ H x y v u Q I rx ry hh
  obtain ⟨a, C, dx, fs, t, sp, rfl, ha, ot, hS, q⟩ := hh
  obtain rfl : v = Value.ref a := rx
  obtain ⟨⟨f, fd, ps, G, hm, cl, hb⟩, O⟩ := c C t sp hS
  obtain ⟨mA, J, _⟩ := ins_get I.hok ha
  obtain ⟨od, J, _⟩ := J.look
  obtain ⟨m, hF⟩ := I.fr
  show wpAny (model X.prog X.w) X.A (richCompare .Eq (.ref a) u) (EP X pins σ Q) X.xe s
  refine PySem.W.cmp_K (op := .Eq) hr.units0 hF I.ok.mod.kin J (ot.looks I ry) O hm.at_ hm.fn ?_
  exact wpAny_mono (run_fn (us := [.ref a, u]) (vs := [.ref a, y]) G (hr.mono h) hb .nil hx I (.cons rfl (.cons ry .nil)) (by rw [List.append_nil]; exact q)) (fun r s' z => back_cmp z) fun _ _ e => e
def rOwnNeY (S : Addr → Value → Sp → Prop) (E : XK) : R2 := fun x y H Q => ∃ a C dx fs t sp, x = .ref a ∧ H a = some (.ins C dx fs) ∧ OtV H y t ∧ S C t sp ∧ sp [x, y] H (fun r H' => ∃ z, r = .bl z ∧ Q (.bl (!z)) H') E
theorem op_neY {S : Addr → Value → Sp → Prop} (c : ∀ C t sp, S C t sp → CalI X.prog X.w X.K X.mg X.base CX C "__eq__" k sp ∧ PySem.W.notFirst X.K C t = true ∧ NeO X.K C) (hr : Room j X.A) (h : k + 1 ≤ j) (hx : Passes CX X E) : OpR X (compareOp .NotEq) (rOwnNeY S E) := by
  intro pins s σ H x y v u Q I rx ry hh
  obtain ⟨a, C, dx, fs, t, sp, rfl, ha, ot, hS, q⟩ := hh
  obtain rfl : v = Value.ref a := rx
  obtain ⟨⟨f, fd, ps, G, hm, cl, hb⟩, O, ne⟩ := c C t sp hS
  obtain ⟨mA, J, _⟩ := ins_get I.hok ha
  obtain ⟨od, J, _⟩ := J.look
  obtain ⟨m, hF⟩ := I.fr
  show wpAny (model X.prog X.w) X.A (richCompare .NotEq (.ref a) u) (EP X pins σ Q) X.xe s
  refine ne_K (hu_of hr) hF I.ok.mod.kin J (ot.looks I ry) O ne.ne ne.top hm.at_ hm.fn ?_
  refine wpAny_mono (run_in1 (us := [.ref a, u]) (vs := [.ref a, y]) G hr h hb hx I (.cons rfl (.cons ry .nil)) q) (fun r s' z => ?_) fun _ _ e => e
  obtain ⟨y', H1, I1, r1, z, rfl, q1⟩ := z
  exact ⟨z, r1, .bl (!z), H1, I1, rfl, q1⟩
end
end Pl

/-! o.f = e where f is a property with a setter; C(..) with defaults that fill up. -/
namespace Pl
open PySem L2 PySem.Spec PyProof.Rows
/-- the class has the name as a property at p whose setter is the def at g -/
structure SetOf (K : Fg) (C : Addr) (f : Str) (p g : Addr) : Prop where
  at_ : PySem.W.takerIn K C f = some (some (.ref p))
  ty : PySem.W.typeIn K (.ref p) = some (.type "property")
  rec_ : ∃ a rest, PySem.W.recIn K p "property" = some (a :: .ref g :: rest)
def tPset (C : Addr) (sp : Sp) (E : XK) (ta tv : TE) : TS := fun D σ H => tv σ H fun y H1 => ta σ H1 fun x H2 => ∃ a dx fs, x = .ref a ∧ H2 a = some (.ins C dx fs) ∧ sp [.ref a, y] H2 (fun _ H3 => D.nx σ H3) E
section
variable {X : Cx} {CX : CXT} {k : Nat} {C p g : Addr} {f : Str} {fd : FuncData} {ps : List Str} {sp : Sp} {E : XK} {o value : Expr} {pos pos' : Pos} {ta tv : TE}
theorem ps_pset (ha : PE X o ta) (hv : PE X value tv) (c : Cls X.K C) (hp : SetOf X.K C f p g) (F : FnOk X.prog X.w X.K X.mg X.base CX k g fd ps sp) (hr : Room (k + 2) X.A) (hb : Binds X.K fd ps []) (hx : Passes CX X E)
    (hs : swapsWith value (some (.Attribute o f pos')) pos.line X.env = pure false := by rfl) : PS X (.Assign [.Attribute o f pos'] value pos) (tPset C sp E ta tv) := by
  refine ⟨fun pins s σ H D I h => ?_⟩
  refine plainObj_wpAny_Assign_Attribute (thn (hv.run pins s σ H _ I h) fun u s1 ⟨y, H1, I1, ry, q⟩ => thn (ha.run pins s1 σ H1 _ I1 q) fun ov s2 ⟨x, H2, I2, rx, a, dx, fs, ex, ea, q2⟩ => ?_) hs
  subst ex
  obtain rfl : ov = Value.ref a := rx
  obtain ⟨mA, O, _, _, _, _⟩ := ins_get I2.hok ea
  obtain ⟨od, J, _⟩ := O.look
  obtain ⟨a0, rest, hrec⟩ := hp.rec_
  have I3 := I2.tok (s2.toks + 1)
  have hl : ([Value.ref a, u] ++ []).length = ps.length := by
    rw [← F.len _ _ _ _ q2]; rfl
  refine PySem.W.set_plain I2.kIn J c.sa ?_
  refine PySem.W.osa_descr (s := { s2 with toks := s2.toks + 1 }) PySem.W.KF.slot_pset I3.kIn (od := od) J c.po hp.at_ hp.ty ?_
  refine PySem.W.prop_set (s := { s2 with toks := s2.toks + 1 }) I3.kIn hrec ?_
  refine codeAny_mono (F.run X.A.in1.in1 X.stack { s2 with toks := s2.toks + 1 } H2 ⟨[.ref a, u], []⟩ [.ref a, u] [.ref a, y] _ E hr.in1.in1 I3.env0.in1.in1 (hb _ [.ref a, u] I3.kIn hl) (.cons rfl (.cons ry .nil)) q2) fun r s' hq => ?_
  cases r with
  | error er => exact hx pins σ H2 _ er s' I3 hq
  | ok fl =>
    cases fl with
    | ret w =>
      obtain ⟨v, H', I4, rv, q3⟩ := I3.after hq
      exact ⟨σ, _, I4, q3⟩
    | next => exact False.elim hq
    | brk => exact False.elim hq
    | cont => exact False.elim hq
end
/-! ### C(..), the defaults fill up -/
def CalMD (P : Program) (w : World) (K : Fg) (mg : Str → Option Value) (base : Heap) (CX : CXT) (x : Str) (C : Addr) (dvs : List V) (k : Nat) (sp : Sp) : Prop :=
  ∃ f fd ps ds, FnOk P w K mg base CX k f fd ps sp ∧ mg x = some (.ref C) ∧ Mk K C f ∧ Binds K fd ps ds ∧ Vals dvs ds
section
variable {X : Cx} {CX : CXT} {k j : Nat} {sp : Sp} {dvs : List V} {E : XK} {C : Addr} {x : Str} {p pos : Pos} {e : Expr} {es : List Expr} {t : TA}
theorem pmdx (c : CalMD X.prog X.w X.K X.mg X.base CX x C dvs k sp) (hr : Room j X.A) (h : k + 1 ≤ j) (hx : Passes CX X E) (ha : PA X (e :: es) t) (hg : Gl X x := by rfl) (hdb : (x == ("__debug__" : Str)) = false := by decide)
    (he : starEach (e :: es) X.env = (false, eval e X.env) :: starEach es X.env := by rfl) (hpl : (backTo pos (starEach es X.env)).any (·.1) = false := by rfl) :
    PE X (.Call (.Name x p) (e :: es) [] pos) (tMake C sp dvs E t) := by
  obtain ⟨f, fd, ps, ds, G, hm, M, hb, hd⟩ := c
  exact pe_make M G (hr.mono h) hg hm hb hd hx ha hdb he hpl
theorem pmdx0 (c : CalMD X.prog X.w X.K X.mg X.base CX x C dvs k sp) (hr : Room j X.A) (h : k + 1 ≤ j) (hx : Passes CX X E) (hg : Gl X x := by rfl) (hdb : (x == ("__debug__" : Str)) = false := by decide) : PE X (.Call (.Name x p) [] [] pos) (tMake C sp dvs E tNil) := by
  obtain ⟨f, fd, ps, ds, G, hm, M, hb, hd⟩ := c
  exact pe_make0 M G (hr.mono h) hg hm hb hd hx hdb
end
/-- the initialiser of a class, as it stands in the text, with defaults that fill up -/
def DfID (K : Fg) (mg : Str → Option Value) (x qual : Str) (C : Addr) (st : Stmt) (ps : List Str) (dvs : List V) : Prop := ∃ f fd oc od dV kV doc pm an cdv ct osl ds,
  fd = PySem.W.fnOf "__init__" qual (defArgs st) (defBody st) (defScope st) dV kV doc pm an cdv ct ∧ K.lookup f = some ⟨oc, od, .func fd, osl⟩ ∧ PySem.W.codeIn K cdv qual = true ∧ mg x = some (.ref C) ∧ Mk K C f ∧ Binds K fd ps ds ∧ Vals dvs ds
theorem DfID.cal {P : Program} {w : World} {K : Fg} {mg : Str → Option Value} {base : Heap} {CX : CXT} {x qual : Str} {C : Addr} {st : Stmt} {ps N : List Str} {dvs : List V} {k : Nat} {sp : Sp} (D : DfID K mg x qual C st ps dvs) (S : FnScope N ps (defScope st)) (len : ∀ vs H Q E, sp vs H Q E → vs.length = ps.length)
    (h : ∀ (f : Addr) (cdv : Value) (A : Around) (outer : List Env) (s : Shared) (H : Hp) (vs : List V) (Q : VK) (E : XK), Room k (A.deeper (envOfC qual (defScope st) s.heap.objs.size f cdv)) → sp vs H Q E →
      ∃ t, PSs (cxOf CX P w K mg base N qual (defScope st) f cdv A outer s H E) (defBody st) t ∧ t { nx := fun _ H' => Q .non H', rt := Q } (start N vs) H) : CalMD P w K mg base CX x C dvs (k + 1) sp := by
  obtain ⟨f, fd, oc, od, dV, kV, doc, pm, an, cdv, ct, osl, ds, rfl, lk, hcd, hm, M, hb, hd⟩ := D
  exact ⟨f, _, ps, ds, fn_of lk hcd S len fun A outer s H vs Q E hr hsp => h f cdv A outer s H vs Q E hr hsp, hm, M, hb, hd⟩
end Pl

/-! x op= y, o[i] = v, x op y with y no own object: by own methods. -/
namespace Pl
open PySem L2 PySem.Spec PyProof.Rows
/-- x op= y by the class's own method -/
def tIOwn (S : Addr → Sp → Prop) (E : XK) : TIp := fun x y H Q => ∃ a C dx fs sp, x = .ref a ∧ H a = some (.ins C dx fs) ∧ S C sp ∧ sp [x, y] H Q E
section
variable {X : Cx} {CX : CXT} {k j : Nat} {E : XK}
theorem ip_own {S : Addr → Sp → Prop} {op : Operator} {mth : Str} (em : PySem.dunderI op.info.2 = mth) (c : ∀ C sp, S C sp → CalI X.prog X.w X.K X.mg X.base CX C mth k sp ∧ PySem.W.selfFirst X.K C = true) (hr : Room j X.A) (h : k ≤ j) (hx : Passes CX X E) : PIp X op (tIOwn S E) := by
  intro pins s σ H x y v u Q I rx ry hh
  obtain ⟨a, C, dx, fs, sp, rfl, ha, hS, q⟩ := hh
  obtain rfl : v = Value.ref a := rx
  obtain ⟨⟨f, fd, ps, G, hm, cl, hb⟩, O⟩ := c C sp hS
  obtain ⟨mA, J, _⟩ := ins_get I.hok ha
  obtain ⟨od, J, _⟩ := J.look
  obtain ⟨m, hF⟩ := I.fr
  refine PySem.W.ksp_inplace hF I.ok.mod.kin J O (by rw [em]; exact hm.at_) hm.fn ?_
  exact wpAny_mono (run_fn (us := [.ref a, u]) (vs := [.ref a, y]) G (hr.mono h) hb .nil hx I (.cons rfl (.cons ry .nil)) (by rw [List.append_nil]; exact q)) (fun r s' z => back_cmp z) fun _ _ e => e
/-- o[i] = v by the class's own method -/
def tSetOwn (S : Addr → Sp → Prop) (E : XK) : TSet := fun o i v H k => ∃ a C dx fs sp, o = .ref a ∧ H a = some (.ins C dx fs) ∧ S C sp ∧ sp [o, i, v] H (fun _ H' => k H') E
theorem set_own {S : Addr → Sp → Prop} (c : ∀ C sp, S C sp → CalI X.prog X.w X.K X.mg X.base CX C "__setitem__" k sp ∧ PySem.W.noSeq X.K C = true) (hr : Room j X.A) (h : k ≤ j) (hx : Passes CX X E) : PSet X (tSetOwn S E) := by
  intro pins s σ H o i v ov iv u Q I ro ri rv hh
  obtain ⟨a, C, dx, fs, sp, rfl, ha, hS, q⟩ := hh
  obtain rfl : ov = Value.ref a := ro
  obtain ⟨⟨f, fd, ps, G, hm, cl, hb⟩, O⟩ := c C sp hS
  obtain ⟨mA, J, _⟩ := ins_get I.hok ha
  obtain ⟨od, J, _⟩ := J.look
  obtain ⟨m, hF⟩ := I.fr
  refine PySem.W.ksp_setItem hF I.ok.mod.kin J O hm.at_ hm.fn ?_
  refine wpAny_mono (run_fn (us := [.ref a, iv, u]) (vs := [.ref a, i, v]) G (hr.mono h) hb .nil hx I (.cons rfl (.cons ri (.cons rv .nil))) (by rw [List.append_nil]; exact q)) (fun r s' z => ?_) fun _ _ e => e
  obtain ⟨y, H1, I1, _, q1⟩ := z
  exact ⟨H1, I1, q1⟩
end
end Pl
namespace PySem.W
open PySem PySem.Calls PyProof.Rows Builtin
theorem ksp_binTL {prog : Program} {w : World} {A : Around} {E : Value → Shared → Prop} {s : Shared} {K : Frag} {x C L f : Addr} {T : String} {h₀ : Heap} {m : Str → Option Value} {ox : Obj} {od : Option Obj}
    {op : Operator} {b : Value} {fo ro rc : Option Value} {Q : Value → Shared → Prop} (F : Fr h₀ L s.heap m) (X₀ : K.In h₀) (I : InstAt s.heap x ox C od) (hb : Looks (model prog w) s.heap (typeOf b) (.type T)) (hc : selfFirst K C = true)
    (hs : findIn K (.ref C) (PySem.dunder op.info.2) = some (some (.ref f))) (hf : isFn K (.ref f) = true) (hr : findIn K (.ref C) (dunderR op.info.2) = some rc) (hp : rc = none ∨ ∃ g : Addr, rc = some (.ref g))
    (h1 : findIn K (.type T) (PySem.dunder op.info.2) = some fo) (h2 : findIn K (.type T) (dunderR op.info.2) = some ro) (hsub : subIn K (.type T) (.ref C) = some false)
    (h : wpAny (model prog w) A (call (.ref f) [.ref x, b]) (CmpBack Q) E s) : wpAny (model prog w) A (binaryOp op (.ref x) b) Q E s := by
  have XX := X₀.keeps F.keep
  obtain ⟨cd, rest, hcd, hm⟩ := ksp_first hc
  rcases hi : op.info with ⟨sym, nn⟩
  rw [hi] at hs hr h1 h2
  dsimp only at hs hr h1 h2
  have one := ksp_try XX I hs hf h
  obtain ⟨hh, g, d, tt, os⟩ := s
  have M1 : Looks (model prog w) hh (typeOf (.ref x)) (.ref C) := I.type
  have M2 : Looks (model prog w) hh (typeOf b) (.type T) := hb
  have M3 : Looks (model prog w) hh (fillsNumberSlot (.ref C) nn) true := fills_K XX hcd hm hs
  have M4 : Looks (model prog w) hh (fillsNumberSlot (.type T) nn) ((fo.isSome && !isSeqSlot fo) || (ro.isSome && !isSeqSlot ro)) := ksp_fillsT XX h1 h2
  have M5 : Looks (model prog w) hh (isSubtype (.type T) (.ref C)) false := looks_subIn XX hsub
  have M6 : Looks (model prog w) hh (numberSlotInPython (.ref C) nn) true := ksp_inPy XX hs hr hp
  have M7 : Looks (model prog w) hh (numberSlotInPython (.type T) nn) false := Looks.of_pure rfl
  have M8 : Looks (model prog w) hh (typeLookup (.type T) (dunderR nn)) ro := looks_findIn XX h2
  generalize ((fo.isSome && !isSeqSlot fo) || (ro.isSome && !isSeqSlot ro)) = right at M4
  have hne : (Value.ref C == Value.type T) = false := Bool.eq_false_iff.mpr fun q => by cases beq_iff_eq.mp q
  simp only [binaryOp, hi]
  refine wpAny_holding (wpAny_bind ?_)
  unfold binaryOp1
  refine wpAny_bind (M1.at (wpAny_bind (M2.at (wpAny_bind (M3.at ?_)))))
  simp only [hne, Bool.false_eq_true, if_false]
  cases right <;>
  · ksp_lk
    refine wpAny_mono one (fun r s' hr' => ?_) fun _ _ e => e
    obtain ⟨v, rfl, hq⟩ := hr'
    ksp_lk
    exact hq
end PySem.W
namespace Pl
open PySem L2 PySem.Spec PyProof.Rows
/-- what an own class says of an operator whose right side is of the type T -/
structure OpTT (K : Fg) (C : Addr) (op : Operator) (T : String) : Prop where
  first : PySem.W.selfFirst K C = true
  hr : ∃ rc, PySem.W.findIn K (.ref C) (dunderR op.info.2) = some rc ∧ (rc = none ∨ ∃ g : Addr, rc = some (.ref g))
  h1 : ∃ fo, PySem.W.findIn K (.type T) (PySem.dunder op.info.2) = some fo
  h2 : ∃ ro, PySem.W.findIn K (.type T) (dunderR op.info.2) = some ro
  sub : PySem.W.subIn K (.type T) (.ref C) = some false
def rOwnTy (S : Addr → String → Sp → Prop) (E : XK) : R2 := fun x y H Q => ∃ a C dx fs T sp, x = .ref a ∧ H a = some (.ins C dx fs) ∧ OtV H y (.type T) ∧ S C T sp ∧ sp [x, y] H Q E
theorem op_ownTy {X : Cx} {CX : CXT} {k j : Nat} {S : Addr → String → Sp → Prop} {E : XK} {op : Operator} (c : ∀ C T sp, S C T sp → CalI X.prog X.w X.K X.mg X.base CX C (PySem.dunder op.info.2) k sp ∧ OpTT X.K C op T) (hr : Room j X.A) (h : k ≤ j) (hx : Passes CX X E) : OpR X (binaryOp op) (rOwnTy S E) := by
  intro pins s σ H x y v u Q I rx ry h
  obtain ⟨a, C, dx, fs, T, sp, rfl, ha, ot, hS, q⟩ := h
  obtain rfl : v = Value.ref a := rx
  obtain ⟨⟨f, fd, ps, G, hm, cl, hb⟩, O⟩ := c C T sp hS
  obtain ⟨mA, J, _⟩ := ins_get I.hok ha
  obtain ⟨od, J, _⟩ := J.look
  obtain ⟨m, hF⟩ := I.fr
  obtain ⟨rc, h3, h4⟩ := O.hr
  obtain ⟨fo, h5⟩ := O.h1
  obtain ⟨ro, h6⟩ := O.h2
  refine PySem.W.ksp_binTL (T := T) hF I.ok.mod.kin J (ot.looks I ry) O.first hm.at_ hm.fn h3 h4 h5 h6 O.sub ?_
  exact wpAny_mono (run_fn (us := [.ref a, u]) (vs := [.ref a, y]) G (hr.mono (by omega)) hb .nil hx I (.cons rfl (.cons ry .nil)) (by rw [List.append_nil]; exact q)) (fun r s' z => back_cmp z) fun _ _ e => e
/-- a comprehension over anything that is walked -/
theorem walk_any {J : It} {n : Nat} {G : Hp → Prop} {Y : Nat → Hp → V → Hp → Prop} (w : Walk J n G Y) {H0 : Hp} {R : Hp → Prop} {B : V → Hp → (Hp → Prop) → Prop} (Pv : Nat → Hp → Prop) (h0 : Pv 0 H0) (hG : ∀ i H, i ≤ n → Pv i H → G H)
    (hs : ∀ i x H H', i < n → Pv i H → Y i H x H' → B x H' (Pv (i + 1))) (hd : ∀ H, Pv n H → R H) :
    ∃ W : Nat → Nat → Hp → Prop, (∃ m, W 0 m H0) ∧ ∀ i m H, W i m H → (J.stop i H ∧ R H) ∨ (J.go i H ∧ ∃ Nx : Hp → Prop, (∀ H', Nx H' → ∃ m', m' < m ∧ W (i + 1) m' H') ∧ ∀ x H', J.yld i H x H' → B x H' Nx) := by
  refine ⟨fun i m H => m = n - i ∧ i ≤ n ∧ Pv i H, ⟨n, by simp, Nat.zero_le _, h0⟩, ?_⟩
  rintro i m H ⟨rfl, hi, p⟩
  have q := hG i H hi p
  by_cases hlt : i < n
  · exact .inr ⟨w.goes i H hlt q, Pv (i + 1), fun H' p' => ⟨n - (i + 1), by omega, rfl, hlt, p'⟩, fun x H' y => hs i x H H' hlt p (w.yields i H x H' hlt q y)⟩
  · obtain rfl : i = n := by omega
    exact .inl ⟨w.stops H q, hd H p⟩
/-! ### name = {k: v for ..} on one line -/
theorem sw_trueD {kx vx : Expr} {gs : List Comprehension} {scope : Scope} {pos py : Pos} {y : Str} {l : Nat} {env : Env} (h1 : env.scope.kind = .function) (h2 : env.scope.names.lookup y = some .local) (h3 : (py.line == pos.line) = true)
    (h4 : (scope.names.any fun (n, k) => n == y && (k == .local || k == .cell)) = false) : swapsWith (.DictComp kx vx gs scope pos) (some (.Name y py)) l env = pure true := by
  have e1 : env.kindOf y = some .local := h2
  have e2 : env.blockKind = .function := by
    show Env.blockKind env = _
    unfold Env.blockKind
    rw [h1]
    rfl
  unfold swapsWith
  simp only [e2, e1, h4, Expr.pos, h3] <;> rfl
section
variable {X : Cx}
theorem ps_setDc {i : Nat} {y : Str} {py : Pos} {kx vx tg iter : Expr} {ifs : List Expr} {scope : Scope} {own : List (Str × Nat)} {pos spos : Pos} {wi : TI} {g : TG} {tt : TT} {tk tv : TE} (hc : X.calm = true) (hN : X.N.Nodup) (hy : X.N[i]? = some y) (hl : X.env.scope.names.lookup y = some .local)
    (hw : swapsWith (.DictComp kx vx [⟨tg, iter, ifs, 0⟩] scope pos) (some (.Name y py)) spos.line X.env = pure true) (hi : PI X tg iter wi) (ok : BlkOk X.N X.env.scope scope own)
    (h1 : ∀ (s : Shared) (H : Hp) (C : Addr) (cl : List (Str × Addr)) (fp : List Addr), PG (X.blk s H scope (compEnvC scope cl C X.env) fp) tg g)
    (h2 : ∀ (s : Shared) (H : Hp) (C : Addr) (cl : List (Str × Addr)) (fp : List Addr), PTs (X.blk s H scope (compEnvC scope cl C X.env) fp) ifs tt)
    (h3 : ∀ (s : Shared) (H : Hp) (C : Addr) (cl : List (Str × Addr)) (fp : List Addr), PE (X.blk s H scope (compEnvC scope cl C X.env) fp) kx tk)
    (h4 : ∀ (s : Shared) (H : Hp) (C : Addr) (cl : List (Str × Addr)) (fp : List Addr), PE (X.blk s H scope (compEnvC scope cl C X.env) fp) vx tv) (hs : ∀ x, foldedSetIterable iter X.env x = pure x := by intro _; rfl) :
    PS X (.Assign [.Name y py] (.DictComp kx vx [⟨tg, iter, ifs, 0⟩] scope pos) spos) (tAsg (tDc wi g tt tk tv (own.map (·.2))) (gName i)) := by
  refine ⟨fun pins s σ H D J h => ?_⟩
  rw [exec_Assign_Name_used _ _ _ _ hw]
  refine wpAny_bind (wpAny_standAt (wpAny_bind ?_))
  show wpAny _ X.A (do let _ ← comprehension (.DictComp kx vx [⟨tg, iter, ifs, 0⟩] scope pos) scope X.env (firstIterPos [⟨tg, iter, ifs, 0⟩] pos) newDict false (eval iter X.env) (some (assign (.Name y py) X.env))) _ _ s
  have h : tDc wi g tt tk tv (own.map (·.2)) σ H (fun x H1 => gName i x σ H1 D.nx) := h
  refine wpAny_bind (thn (dc_core (Qf := fun _ s' => SP X pins D .next s') hc hN J hi ok h1 h2 h3 h4 hs h fun L C s' m H' J' q hn f => ?_) fun _ s' z => wpAny_pure (wpAny_pure z))
  show wpAny _ _ (assign (.Name y py) X.env (.ref L)) _ _ _
  refine wpAny_assign_Name (store_ok2 (v := V.ref L) J' hN hy (.inl hl) rfl (fun s2 J2 ⟨a, sb, ha⟩ => ?_) (.inr hl))
  obtain ⟨f0, f1, f2, f3, f4, f5⟩ := f
  have ne : C ≠ a := ha.elim (fun z => by rw [z]; exact f1) fun z e => f4 y a z e.symm
  exact ⟨m, hn.sameBut sb ne, fun h3 sb3 => ⟨_, H', J2.turned (t' := s2.toks) (fun b o hb e => (sb3.2 b hb).trans e) f0 f1 f3 f4 f5, q⟩⟩
end
end Pl

/-! The facts that our ends read off the head, beside the library's. -/
namespace Pl
open PySem L2 PySem.Spec PyProof.Rows
open He (ga ma fAd ba)
/-- further facts, by names -/
inductive Fx where
  /-- isinstance's asks of a class -/
  | isi (x : Str)
  /-- is an instance of x one of y -/
  | kit (x y : Str) (b : Bool)
  /-- x's own operator m beside an int (r its turned name) -/
  | opi (x m r : Str)
  | nf (x y : Str)
  /-- x's method m may be called -/
  | fni (x m : Str)
  /-- the def m read off the class x -/
  | cfn (x m : Str)
  /-- x and y share the method m -/
  | eqm (x y m : Str)
  /-- x has y's method m -/
  | mtn (x y m : Str)
  /-- x is no subclass of y -/
  | sub (x y : Str)
  /-- x's own operator m (r its turned name) -/
  | opo (x m r : Str)
  /-- a built-in kind is none of y -/
  | kty (t : String) (y : Str)
  /-- x is none of a built-in kind -/
  | kto (x : Str) (t : String)
  /-- x's != is object's -/
  | neo (x : Str)
  /-- x: a tuple of these texts -/
  | tup (x : Str) (zs : List Str)
  /-- x: the tuple of the text z and None -/
  | tnn (x z : Str)
  /-- anything that is asked of what is written -/
  | ask (f : PySem.W.Frag → Bool)
def strsB : List Value → List Str → Bool
  | [], [] => true
  | .str x _ :: us, z :: zs => decide (x = z) && strsB us zs
  | _, _ => false
def tupB (K : Fg) (a : Addr) (zs : List Str) : Bool := match K.lookup a with
  | some o => decide (o.cls = .type "tuple") && (match o.data with
    | .seq its _ => decide (its.size ≤ sizeLine) && strsB its.toList zs
    | _ => false)
  | none => false
def tnnB (K : Fg) (a : Addr) (z : Str) : Bool := match K.lookup a with
  | some o => decide (o.cls = .type "tuple") && (match o.data with
    | .seq its _ => match its.toList with
      | [.str x _, .none] => decide (x = z)
      | _ => false
    | _ => false)
  | none => false
def Fx.ok (K : Fg) : Fx → Bool
  | .isi x => decide (PySem.W.findIn K (.ref (ga K x)) "__class__" = some (some (.builtin "object.__class__"))) && (decide (PySem.W.specialIn K (.builtin "object.__class__") "__get__" = some (some (.builtin "getset_descriptor.__get__"))) && (decide (PySem.W.takesIn K (.builtin "object.__class__") = some true) && decide (PySem.W.mroIn K (ga K x) (.type "object") = some true)))
  | .kit x y b => decide (PySem.W.kitOne K (.ref (ga K x)) (.ref (ga K y)) = some b)
  | .opi x m r => PySem.W.selfFirst K (ga K x) && (decide (PySem.W.findIn K (.ref (ga K x)) r = some none) && ((PySem.W.findIn K (.type "int") m).isSome && ((PySem.W.findIn K (.type "int") r).isSome && decide (PySem.W.subIn K (.type "int") (.ref (ga K x)) = some false))))
  | .nf x y => PySem.W.notFirst K (ga K x) (.ref (ga K y))
  | .fni x m => PySem.W.fnIn K (ma K (ga K x) m)
  | .cfn x m => PySem.W.readsIn K (ga K x) (.type "type") && (decide (PySem.W.specialIn K (.ref (ga K x)) "__getattribute__" = some (some (.builtin "type.__getattribute__"))) && ((match PySem.W.findCls K (.ref (ga K x)) (.type "type") m with
    | some (.val (.ref a)) => decide (a = ma K (ga K x) m)
    | _ => false) && PySem.W.keepIn K (.ref (ma K (ga K x) m))))
  | .eqm x y m => decide (ma K (ga K x) m = ma K (ga K y) m)
  | .tup x zs => tupB K (ga K x) zs
  | .tnn x z => tnnB K (ga K x) z
  | .ask f => f K
  | .mtn x y m => He.eqO (PySem.W.findIn K (.ref (ga K x)) m) (some (some (.ref (ma K (ga K y) m))))
  | .kty t y => decide (PySem.W.kitOne K (.type t) (.ref (ga K y)) = some false)
  | .kto x t => decide (PySem.W.kitOne K (.ref (ga K x)) (.type t) = some false)
  | .neo x => decide (PySem.W.findIn K (.ref (ga K x)) "__ne__" = some (some (.builtin "object.__ne__"))) && decide (PySem.W.mroIn K (ga K x) (.type "object") = some true)
  | .sub x y => decide (PySem.W.subIn K (.ref (ga K x)) (.ref (ga K y)) = some false)
  | .opo x m r => PySem.W.selfFirst K (ga K x) && (decide (PySem.W.findIn K (.ref (ga K x)) m = some (some (.ref (ma K (ga K x) m)))) && decide (PySem.W.findIn K (.ref (ga K x)) r = some none))
section
variable {K : Fg}
theorem isi_ok {x : Str} (c : (Fx.isi x).ok K = true) : Isi K (ga K x) := by
  obtain ⟨c1, c⟩ := ba c
  obtain ⟨c2, c⟩ := ba c
  obtain ⟨c3, c4⟩ := ba c
  exact ⟨of_decide_eq_true c1, of_decide_eq_true c2, of_decide_eq_true c3, of_decide_eq_true c4⟩
theorem kit_ok {x y : Str} {b : Bool} (c : (Fx.kit x y b).ok K = true) : PySem.W.kitOne K (.ref (ga K x)) (.ref (ga K y)) = some b := of_decide_eq_true c
theorem kty_ok {t : String} {y : Str} (c : (Fx.kty t y).ok K = true) : PySem.W.kitOne K (.type t) (.ref (ga K y)) = some false := of_decide_eq_true c
theorem kto_ok {x : Str} {t : String} (c : (Fx.kto x t).ok K = true) : PySem.W.kitOne K (.ref (ga K x)) (.type t) = some false := of_decide_eq_true c
theorem opi_ok {x m r : Str} {op : Operator} (c : (Fx.opi x m r).ok K = true) (hm : PySem.dunder op.info.2 = m) (hr : dunderR op.info.2 = r) : OpTx K (ga K x) op := by
  subst hm; subst hr
  obtain ⟨c1, c⟩ := ba c
  obtain ⟨c2, c⟩ := ba c
  obtain ⟨c3, c⟩ := ba c
  obtain ⟨c4, c5⟩ := ba c
  exact ⟨c1, ⟨_, of_decide_eq_true c2, .inl rfl⟩, Option.isSome_iff_exists.mp c3, Option.isSome_iff_exists.mp c4, of_decide_eq_true c5⟩
theorem strsB_ok : ∀ {us : List Value} {zs : List Str}, strsB us zs = true → Vals (zs.map V.str) us
  | [], [], _ => .nil
  | u :: us, z :: zs, h => by
    cases u with
    | str x t =>
      obtain ⟨h1, h2⟩ := ba h
      have e : x = z := of_decide_eq_true h1
      subst e
      exact .cons ⟨t, rfl⟩ (strsB_ok h2)
    | _ => cases h
  | [], _ :: _, h => by cases h
  | u :: us, [], h => by cases u <;> cases h
theorem tup_ok {x : Str} {zs : List Str} (c : (Fx.tup x zs).ok K = true) : TupK K (ga K x) zs := by
  have c : tupB K (ga K x) zs = true := c
  unfold tupB at c
  cases e : K.lookup (ga K x) with
  | none => rw [e] at c; cases c
  | some o =>
    rw [e] at c
    obtain ⟨c1, c2⟩ := ba c
    cases e2 : o.data with
    | seq its n =>
      rw [e2] at c2
      obtain ⟨c3, c4⟩ := ba c2
      exact ⟨o, its, n, e, of_decide_eq_true c1, e2, of_decide_eq_true c3, strsB_ok c4⟩
    | _ => rw [e2] at c2; cases c2
theorem tnn_ok {x z : Str} (c : (Fx.tnn x z).ok K = true) (H : Hp) : SqT K H (ga K x) [.str z, .non] := by
  have c : tnnB K (ga K x) z = true := c
  unfold tnnB at c
  cases e : K.lookup (ga K x) with
  | none => rw [e] at c; cases c
  | some o =>
    rw [e] at c
    obtain ⟨c1, c2⟩ := ba c
    cases e2 : o.data with
    | seq its n =>
      rw [e2] at c2
      have c2 : (match its.toList with
        | [.str x _, .none] => decide (x = z)
        | _ => false) = true := c2
      split at c2
      · rename_i x tt e3
        have e4 := of_decide_eq_true c2
        subst e4
        have e5 : its.size = 2 := by have := congrArg List.length e3; simpa using this
        exact .inr ⟨o, its, n, e, of_decide_eq_true c1, e2, by rw [e5]; decide, by rw [e3]; exact .cons ⟨tt, rfl⟩ (.cons rfl .nil)⟩
      · cases c2
    | _ => rw [e2] at c2; cases c2
theorem mtn_ok {x y m : Str} (c : (Fx.mtn x y m).ok K = true) (M : Meth K (ga K y) m (ma K (ga K y) m)) : Meth K (ga K x) m (ma K (ga K y) m) := ⟨He.eqO_ok c, M.fn, M.kp⟩
theorem sub_ok {x y : Str} (c : (Fx.sub x y).ok K = true) : PySem.W.subIn K (.ref (ga K x)) (.ref (ga K y)) = some false := of_decide_eq_true c
theorem opo_ok {x m r : Str} {op : Operator} (c : (Fx.opo x m r).ok K = true) (hm : PySem.dunder op.info.2 = m) (hr : dunderR op.info.2 = r) : OpO K (ga K x) op := by
  subst hm; subst hr
  obtain ⟨c1, c⟩ := ba c
  obtain ⟨c2, c3⟩ := ba c
  exact ⟨c1, ⟨_, of_decide_eq_true c2⟩, ⟨_, of_decide_eq_true c3, .inl rfl⟩⟩
theorem cfn_ok {x m : Str} (c : (Fx.cfn x m).ok K = true) : CFn K (ga K x) m (ma K (ga K x) m) := by
  obtain ⟨c1, c⟩ := ba c
  obtain ⟨c2, c⟩ := ba c
  obtain ⟨c3, c4⟩ := ba c
  refine ⟨⟨.type "type", ⟨c1, of_decide_eq_true c2⟩, ?_⟩, c4⟩
  cases e : PySem.W.findCls K (.ref (ga K x)) (.type "type") m with
  | none => rw [e] at c3; cases c3
  | some r =>
    rw [e] at c3
    cases r with
    | val v =>
      cases v with
      | ref a =>
        have z : a = ma K (ga K x) m := of_decide_eq_true c3
        rw [z]
      | _ => cases c3
    | get g a o t => cases c3
end
/-! ### the Hook -/
def asP (g : Addr → Option Obj) (n : Nat) : List Addr := List.range n
abbrev AlP : Type := He.AlD × Bool
def obsP (n : Nat) (fa : List He.Fa) (fn : List He.DefD) (fx : List Fx) (g : Addr → Option Obj) : AlP := (He.obsD fa fn (He.frG g (asP g n)), fx.all fun f => f.ok (He.frG g (asP g n)))
def hookP (n : Nat) (fa : List He.Fa) (fn : List He.DefD) (fx : List Fx) : PySem.W.Hook where
  α := AlP
  obs := fun s => obsP n fa fn fx s.heap.get?
  val := fun _ => (He.valD fn, true)
  says := fun _ h => ∃ K : PySem.W.Frag, K.In h ∧ He.SaysD fa fn K ∧ (fx.all fun f => f.ok K) = true
  of := fun _ _ e => ⟨_, He.frG_in, congrArg (fun z : AlP => z.1) e, congrArg (fun z : AlP => z.2) e⟩
  keeps := fun _ _ _ ⟨K, hK, c⟩ k => ⟨K, PySem.W.Frag.In.keeps hK k, c⟩
theorem obsP_eq {n : Nat} {fa : List He.Fa} {fn : List He.DefD} {fx : List Fx} {g : Addr → Option Obj} {s : Shared} (h : ∀ a, g a = s.heap.get? a) : obsP n fa fn fx g = (hookP n fa fn fx).obs s := by
  have e : g = s.heap.get? := funext h
  rw [e] <;> rfl
theorem fx_at {fx : List Fx} {K : Fg} (c : (fx.all fun f => f.ok K) = true) (i : Nat) {f : Fx} (h : fx[i]? = some f) : f.ok K = true := List.all_eq_true.mp c f (List.mem_of_getElem? h)
/-! ### from the facts to the words of our own -/
section
variable {K : Fg} {h : Heap} {mg : Str → Option Value} {fa : List He.Fa} {fn : List He.DefD}
theorem df_of {x : Str} {st : Stmt} {ps : List Str} {dvs : List V} {kws : List (Str × V)} (hg : mg x = some (.ref (ga K x))) (F : ∃ fd, FunD K x x (defArgs st) (defBody st) (defScope st) [] kws (ga K x) fd)
    (hb : ∀ (kV doc pm : Value) (an : Option Addr) (cdv ct : Value) (us : List Value), us.length = ps.length → bindArgs (PySem.W.fnOf x x (defArgs st) (defBody st) (defScope st) .none kV doc pm an cdv ct) ⟨us, []⟩ = pure (ps.zip us)) : Df K mg x x st ps := by
  obtain ⟨fd, F⟩ := F
  exact ⟨_, fd, funD_toFun F, hg, F.bindsN hb⟩
theorem fm_of {x m qual : Str} {st : Stmt} {ps : List Str} {kws : List (Str × V)} (F : ∃ fd, FunD K m qual (defArgs st) (defBody st) (defScope st) [] kws (ma K (ga K x) m) fd)
    (hb : ∀ (kV doc pm : Value) (an : Option Addr) (cdv ct : Value) (us : List Value), us.length = ps.length → bindArgs (PySem.W.fnOf m qual (defArgs st) (defBody st) (defScope st) .none kV doc pm an cdv ct) ⟨us, []⟩ = pure (ps.zip us)) : ∃ fd, Fun K m qual st (ma K (ga K x) m) fd ∧ Binds K fd ps [] := by
  obtain ⟨fd, F⟩ := F
  exact ⟨fd, funD_toFun F, F.bindsN hb⟩
theorem dfi_of {x qual : Str} {st : Stmt} {ps : List Str} {kws : List (Str × V)} (hg : mg x = some (.ref (ga K x))) (M : Mk K (ga K x) (ma K (ga K x) "__init__")) (F : ∃ fd, FunD K "__init__" qual (defArgs st) (defBody st) (defScope st) [] kws (ma K (ga K x) "__init__") fd)
    (hb : ∀ (kV doc pm : Value) (an : Option Addr) (cdv ct : Value) (us : List Value), us.length = ps.length → bindArgs (PySem.W.fnOf "__init__" qual (defArgs st) (defBody st) (defScope st) .none kV doc pm an cdv ct) ⟨us, []⟩ = pure (ps.zip us)) : DfI K mg x qual (ga K x) st ps := by
  obtain ⟨fd, F⟩ := F
  have hB := F.bindsN hb
  obtain ⟨oc, od, dV, kV, doc, pm, an, cdv, ct, osl, e, lk, hcd, _, _⟩ := F.ex
  exact ⟨_, fd, oc, od, dV, kV, doc, pm, an, cdv, ct, osl, e, lk, hcd, hg, M, hB⟩
/-- an initialiser with defaults, all arguments given -/
theorem dfi_of1 {x qual : Str} {st : Stmt} {ps : List Str} {d : V} {kws : List (Str × V)} (hg : mg x = some (.ref (ga K x))) (M : Mk K (ga K x) (ma K (ga K x) "__init__")) (F : ∃ fd, FunD K "__init__" qual (defArgs st) (defBody st) (defScope st) [d] kws (ma K (ga K x) "__init__") fd)
    (hb : ∀ (T : Addr) (kV doc pm : Value) (an : Option Addr) (cdv ct : Value) (us its : List Value), us.length = ps.length → its.length = 1 → ∃ k, bindArgs (PySem.W.fnOf "__init__" qual (defArgs st) (defBody st) (defScope st) (.ref T) kV doc pm an cdv ct) ⟨us, []⟩ = seqItems? (.ref T) >>= k ∧ k (some its.toArray) = pure (ps.zip us)) : DfI K mg x qual (ga K x) st ps := by
  obtain ⟨fd, F⟩ := F
  obtain ⟨ds, r, hB⟩ := F.binds1 (ps := ps) ps.length 1 (by simp) (by simp) fun T kV doc pm an cdv ct us its h1 h2 => by
    obtain ⟨k, e1, e2⟩ := hb T kV doc pm an cdv ct us its h1 h2
    refine ⟨k, e1, e2.trans ?_⟩
    have e3 : its.drop 1 = [] := List.drop_of_length_le (by rw [h2]; exact Nat.le_refl 1)
    rw [e3, List.append_nil]
  have e : ds = [] := by cases r; rfl
  subst e
  obtain ⟨oc, od, dV, kV, doc, pm, an, cdv, ct, osl, e, lk, hcd, _, _⟩ := F.ex
  exact ⟨_, fd, oc, od, dV, kV, doc, pm, an, cdv, ct, osl, e, lk, hcd, hg, M, hB⟩
/-- an initialiser with keyword-only parameters, all of them given -/
theorem kinit_of {qual : Str} {st : Stmt} {f : Addr} {ps ks : List Str} {n : Nat} {kws : List (Str × V)} (F : ∃ fd, FunD K "__init__" qual (defArgs st) (defBody st) (defScope st) [] kws f fd) (hk : kws ≠ [])
    (hb : ∀ (D : Addr) (doc pm : Value) (an : Option Addr) (cdv ct : Value) (us ws : List Value), us.length = n → ws.length = ks.length → bindArgs (PySem.W.fnOf "__init__" qual (defArgs st) (defBody st) (defScope st) .none (.ref D) doc pm an cdv ct) ⟨us, ks.zip ws⟩ = pure (ps.zip (us ++ ws))) :
    ∃ fd g, Fun K "__init__" qual st f fd ∧ KBn K fd ps n ks g (fun vs zs => vs ++ zs) := by
  obtain ⟨fd, F⟩ := F
  obtain ⟨mv, hB⟩ := F.kbinds0 (ps := ps) n ks [] (fun us _ ws => us ++ ws) hk (fun q h => by cases h) (fun r1 _ r2 => r1.append r2) fun D doc pm an cdv ct us mv ws h1 h2 h3 => by
    have : mv = [] := List.length_eq_zero_iff.mp h2
    subst this
    exact hb D doc pm an cdv ct us ws h1 h3
  exact ⟨fd, _, funD_toFun F, hB⟩
end
end Pl

/-! One run's facts in parts. -/
namespace Pl
open PySem L2 PySem.Spec PyProof.Rows
theorem obsD_app {K : Fg} {fa1 fa2 : List He.Fa} {fn1 fn2 : List He.DefD} (h1 : He.obsD fa1 fn1 K = He.valD fn1) (h2 : He.obsD fa2 fn2 K = He.valD fn2) : He.obsD (fa1 ++ fa2) (fn1 ++ fn2) K = He.valD (fn1 ++ fn2) := by
  have a1 : ((fa1.all fun f => f.ok K) && fn1.all fun d => d.ok K) = true := congrArg (fun z : He.AlD => z.1) h1
  have a2 : ((fa2.all fun f => f.ok K) && fn2.all fun d => d.ok K) = true := congrArg (fun z : He.AlD => z.1) h2
  have b1 : fn1.map (fun d => He.fnW K d.at_) = fn1.map He.DefD.val := congrArg (fun z : He.AlD => z.2) h1
  have b2 : fn2.map (fun d => He.fnW K d.at_) = fn2.map He.DefD.val := congrArg (fun z : He.AlD => z.2) h2
  rw [Bool.and_eq_true] at a1 a2
  show (((fa1 ++ fa2).all fun f => f.ok K) && (fn1 ++ fn2).all fun d => d.ok K, (fn1 ++ fn2).map fun d => He.fnW K d.at_) = (true, (fn1 ++ fn2).map He.DefD.val)
  rw [List.all_append, List.all_append, List.map_append, List.map_append, a1.1, a1.2, a2.1, a2.2, b1, b2]; rfl
noncomputable abbrev EndR (r : PySem.W.OpenRow) (M : Nat) (w : World) (os : OsState) : Option PySem.W.SharedT := HandSHeadRun.endF (HandSHeadRun.stepQ (HandSHeadRun.denQ HandSHeadRun.tabQ) r.prog w) M r.prog w os
/-- the head's run, told in three equations -/
def RunL (r : PySem.W.OpenRow) (M : Nat) (w : World) : Prop := ∀ os : OsState, (EndR r M w os).map (fun s => HandSHeadRun.looksF r.prog (PySem.W.boot_heap w.params) s.abs) = some true
def RunS (r : PySem.W.OpenRow) (q : Program) (M : Nat) (loose : List Str) (w : World) : Prop := ∀ os : OsState, (EndR r M w os).map (fun s => HandSHeadRun.seenQ q loose (importedModules r.prog.main.body) (fun s => PySem.W.xlAt q [] s && PySem.W.recOk r.toRowW.records s) s.abs) = some (PySem.W.openGood q loose)
def RunO (r : PySem.W.OpenRow) (M : Nat) (n : Nat) (fa : List He.Fa) (fn : List He.DefD) (fx : List Fx) (w : World) : Prop := ∀ os : OsState, (EndR r M w os).map (fun s => obsP n fa fn fx (HandSHeadRun.getT s)) = some (He.valD fn, true)
theorem run_join {r : PySem.W.OpenRow} {q : Program} {n M : Nat} {fa : List He.Fa} {fn : List He.DefD} {fx : List Fx} {loose : List Str} {w : World} (h1 : RunL r M w) (h2 : RunS r q M loose w) (h3 : RunO r M n fa fn fx w) :
    HandSHeadRun.RunEq r q (hookP n fa fn fx) (fun s => obsP n fa fn fx (HandSHeadRun.getT s)) M loose w := by
  intro os
  have a := h1 os
  have b := h2 os
  have c := h3 os
  obtain ⟨s, hs, ea⟩ := Option.map_eq_some_iff.mp a
  have hs : HandSHeadRun.endF (HandSHeadRun.stepQ (HandSHeadRun.denQ HandSHeadRun.tabQ) r.prog w) M r.prog w os = some s := hs
  unfold EndR at b c
  rw [hs] at b c ⊢
  have b := Option.some.inj b
  have c := Option.some.inj c
  exact congrArg some (Prod.ext ea (Prod.ext b c))
theorem runO_app {r : PySem.W.OpenRow} {n M : Nat} {fa1 fa2 : List He.Fa} {fn1 fn2 : List He.DefD} {fx1 fx2 : List Fx} {w : World} (h1 : RunO r M n fa1 fn1 fx1 w) (h2 : RunO r M n fa2 fn2 fx2 w) : RunO r M n (fa1 ++ fa2) (fn1 ++ fn2) (fx1 ++ fx2) w := by
  intro os
  have a := h1 os
  have b := h2 os
  obtain ⟨s, hs, ea3⟩ := Option.map_eq_some_iff.mp a
  rw [hs] at b ⊢
  have eb3 := Option.some.inj b
  have c1 := congrArg (fun z : AlP => z.1) ea3
  have c2 := congrArg (fun z : AlP => z.2) ea3
  have d1 := congrArg (fun z : AlP => z.1) eb3
  have d2 := congrArg (fun z : AlP => z.2) eb3
  have c2 : (fx1.all fun f => f.ok (He.frG (HandSHeadRun.getT s) (asP (HandSHeadRun.getT s) n))) = true := c2
  have d2 : (fx2.all fun f => f.ok (He.frG (HandSHeadRun.getT s) (asP (HandSHeadRun.getT s) n))) = true := d2
  show some (He.obsD (fa1 ++ fa2) (fn1 ++ fn2) _, (fx1 ++ fx2).all _) = _
  rw [obsD_app c1 d1, List.all_append, c2, d2]; rfl
end Pl

namespace Pl
open PySem L2
def top (i : Nat) : Stmt := PySem.Challenge.pw_pastlooks_k26_whole_texts_read_back.main.body.getD i (.Pass ⟨0, 0, 0, 0⟩)
abbrev s__wall : Stmt := top 0
abbrev n__wall : List Str := ["k"]
abbrev p__wall : List Str := ["k"]
theorem sc__wall : FnScope n__wall p__wall (defScope s__wall) := ⟨rfl, rfl, rfl, by decide +kernel, rfl, by decide +kernel, by decide +kernel⟩
abbrev s_BadName___init__ : Stmt := inClass (top 3) 0
abbrev n_BadName___init__ : List Str := ["self", "name"]
abbrev p_BadName___init__ : List Str := ["self", "name"]
theorem sc_BadName___init__ : FnScope n_BadName___init__ p_BadName___init__ (defScope s_BadName___init__) := ⟨rfl, rfl, rfl, by decide +kernel, rfl, by decide +kernel, by decide +kernel⟩
abbrev s_BadMoment___init__ : Stmt := inClass (top 4) 0
abbrev n_BadMoment___init__ : List Str := ["self", "value"]
abbrev p_BadMoment___init__ : List Str := ["self", "value"]
theorem sc_BadMoment___init__ : FnScope n_BadMoment___init__ p_BadMoment___init__ (defScope s_BadMoment___init__) := ⟨rfl, rfl, rfl, by decide +kernel, rfl, by decide +kernel, by decide +kernel⟩
abbrev s_BadBound___init__ : Stmt := inClass (top 5) 0
abbrev n_BadBound___init__ : List Str := ["self", "value"]
abbrev p_BadBound___init__ : List Str := ["self", "value"]
theorem sc_BadBound___init__ : FnScope n_BadBound___init__ p_BadBound___init__ (defScope s_BadBound___init__) := ⟨rfl, rfl, rfl, by decide +kernel, rfl, by decide +kernel, by decide +kernel⟩
abbrev s_BadTerm___init__ : Stmt := inClass (top 6) 0
abbrev n_BadTerm___init__ : List Str := ["self", "value"]
abbrev p_BadTerm___init__ : List Str := ["self", "value"]
theorem sc_BadTerm___init__ : FnScope n_BadTerm___init__ p_BadTerm___init__ (defScope s_BadTerm___init__) := ⟨rfl, rfl, rfl, by decide +kernel, rfl, by decide +kernel, by decide +kernel⟩
abbrev s_BadWay___init__ : Stmt := inClass (top 7) 0
abbrev n_BadWay___init__ : List Str := ["self", "way"]
abbrev p_BadWay___init__ : List Str := ["self", "way"]
theorem sc_BadWay___init__ : FnScope n_BadWay___init__ p_BadWay___init__ (defScope s_BadWay___init__) := ⟨rfl, rfl, rfl, by decide +kernel, rfl, by decide +kernel, by decide +kernel⟩
abbrev s_BadWorld___init__ : Stmt := inClass (top 8) 0
abbrev n_BadWorld___init__ : List Str := ["self", "value"]
abbrev p_BadWorld___init__ : List Str := ["self", "value"]
theorem sc_BadWorld___init__ : FnScope n_BadWorld___init__ p_BadWorld___init__ (defScope s_BadWorld___init__) := ⟨rfl, rfl, rfl, by decide +kernel, rfl, by decide +kernel, by decide +kernel⟩
abbrev s_BadRows___init__ : Stmt := inClass (top 9) 0
abbrev n_BadRows___init__ : List Str := ["self", "name"]
abbrev p_BadRows___init__ : List Str := ["self", "name"]
theorem sc_BadRows___init__ : FnScope n_BadRows___init__ p_BadRows___init__ (defScope s_BadRows___init__) := ⟨rfl, rfl, rfl, by decide +kernel, rfl, by decide +kernel, by decide +kernel⟩
abbrev s_BadText___init__ : Stmt := inClass (top 10) 0
abbrev n_BadText___init__ : List Str := ["self", "place"]
abbrev p_BadText___init__ : List Str := ["self", "place"]
theorem sc_BadText___init__ : FnScope n_BadText___init__ p_BadText___init__ (defScope s_BadText___init__) := ⟨rfl, rfl, rfl, by decide +kernel, rfl, by decide +kernel, by decide +kernel⟩
abbrev s_is_integer : Stmt := top 15
abbrev n_is_integer : List Str := ["thing"]
abbrev p_is_integer : List Str := ["thing"]
theorem sc_is_integer : FnScope n_is_integer p_is_integer (defScope s_is_integer) := ⟨rfl, rfl, rfl, by decide +kernel, rfl, by decide +kernel, by decide +kernel⟩
abbrev s_is_count : Stmt := top 16
abbrev n_is_count : List Str := ["thing"]
abbrev p_is_count : List Str := ["thing"]
theorem sc_is_count : FnScope n_is_count p_is_count (defScope s_is_count) := ⟨rfl, rfl, rfl, by decide +kernel, rfl, by decide +kernel, by decide +kernel⟩
abbrev s_is_name : Stmt := top 17
abbrev n_is_name : List Str := ["thing", "letter"]
abbrev p_is_name : List Str := ["thing"]
theorem sc_is_name : FnScope n_is_name p_is_name (defScope s_is_name) := ⟨rfl, rfl, rfl, by decide +kernel, rfl, by decide +kernel, by decide +kernel⟩
abbrev s_check_name : Stmt := top 18
abbrev n_check_name : List Str := ["name"]
abbrev p_check_name : List Str := ["name"]
theorem sc_check_name : FnScope n_check_name p_check_name (defScope s_check_name) := ⟨rfl, rfl, rfl, by decide +kernel, rfl, by decide +kernel, by decide +kernel⟩
abbrev s_check_moment : Stmt := top 19
abbrev n_check_moment : List Str := ["value"]
abbrev p_check_moment : List Str := ["value"]
theorem sc_check_moment : FnScope n_check_moment p_check_moment (defScope s_check_moment) := ⟨rfl, rfl, rfl, by decide +kernel, rfl, by decide +kernel, by decide +kernel⟩
abbrev s_check_bound : Stmt := top 20
abbrev n_check_bound : List Str := ["value"]
abbrev p_check_bound : List Str := ["value"]
theorem sc_check_bound : FnScope n_check_bound p_check_bound (defScope s_check_bound) := ⟨rfl, rfl, rfl, by decide +kernel, rfl, by decide +kernel, by decide +kernel⟩
abbrev s_check_limit : Stmt := top 21
abbrev n_check_limit : List Str := ["value"]
abbrev p_check_limit : List Str := ["value"]
theorem sc_check_limit : FnScope n_check_limit p_check_limit (defScope s_check_limit) := ⟨rfl, rfl, rfl, by decide +kernel, rfl, by decide +kernel, by decide +kernel⟩
abbrev s_count_before : Stmt := top 25
abbrev n_count_before : List Str := ["moments", "moment", "low", "high", "middle"]
abbrev p_count_before : List Str := ["moments", "moment"]
theorem sc_count_before : FnScope n_count_before p_count_before (defScope s_count_before) := ⟨rfl, rfl, rfl, by decide +kernel, rfl, by decide +kernel, by decide +kernel⟩
abbrev s_row_found : Stmt := top 26
abbrev n_row_found : List Str := ["moments", "way", "moment", "place"]
abbrev p_row_found : List Str := ["moments", "way", "moment"]
theorem sc_row_found : FnScope n_row_found p_row_found (defScope s_row_found) := ⟨rfl, rfl, rfl, by decide +kernel, rfl, by decide +kernel, by decide +kernel⟩
abbrev s_row_within : Stmt := top 27
abbrev n_row_within : List Str := ["moments", "way", "within", "moment", "row"]
abbrev p_row_within : List Str := ["moments", "way", "within", "moment"]
theorem sc_row_within : FnScope n_row_within p_row_within (defScope s_row_within) := ⟨rfl, rfl, rfl, by decide +kernel, rfl, by decide +kernel, by decide +kernel⟩
abbrev s_World___init__ : Stmt := inClass (top 30) 0
abbrev n_World___init__ : List Str := ["self", "rows"]
abbrev p_World___init__ : List Str := ["self", "rows"]
theorem sc_World___init__ : FnScope n_World___init__ p_World___init__ (defScope s_World___init__) := ⟨rfl, rfl, rfl, by decide +kernel, rfl, by decide +kernel, by decide +kernel⟩
abbrev s_World_of : Stmt := inClass (top 30) 1
abbrev n_World_of : List Str := ["cls", "pairs", "found", "name", "moment"]
abbrev p_World_of : List Str := ["cls", "pairs"]
theorem sc_World_of : FnScope n_World_of p_World_of (defScope s_World_of) := ⟨rfl, rfl, rfl, by decide +kernel, rfl, by decide +kernel, by decide +kernel⟩ -- cells ['found']
abbrev s_World_names : Stmt := inClass (top 30) 2
abbrev n_World_names : List Str := ["self"]
abbrev p_World_names : List Str := ["self"]
theorem sc_World_names : FnScope n_World_names p_World_names (defScope s_World_names) := ⟨rfl, rfl, rfl, by decide +kernel, rfl, by decide +kernel, by decide +kernel⟩
abbrev s_World_rows : Stmt := inClass (top 30) 3
abbrev n_World_rows : List Str := ["self", "name", "moment"]
abbrev p_World_rows : List Str := ["self"]
theorem sc_World_rows : FnScope n_World_rows p_World_rows (defScope s_World_rows) := ⟨rfl, rfl, rfl, by decide +kernel, rfl, by decide +kernel, by decide +kernel⟩ -- cells ['self']
abbrev s_World_copy : Stmt := inClass (top 30) 4
abbrev n_World_copy : List Str := ["self"]
abbrev p_World_copy : List Str := ["self"]
theorem sc_World_copy : FnScope n_World_copy p_World_copy (defScope s_World_copy) := ⟨rfl, rfl, rfl, by decide +kernel, rfl, by decide +kernel, by decide +kernel⟩
abbrev s_World_with_row : Stmt := inClass (top 30) 5
abbrev n_World_with_row : List Str := ["self", "name", "moment"]
abbrev p_World_with_row : List Str := ["self", "name", "moment"]
theorem sc_World_with_row : FnScope n_World_with_row p_World_with_row (defScope s_World_with_row) := ⟨rfl, rfl, rfl, by decide +kernel, rfl, by decide +kernel, by decide +kernel⟩
abbrev s_World_trial : Stmt := inClass (top 30) 6
abbrev n_World_trial : List Str := ["self", "rows", "deed", "held"]
abbrev p_World_trial : List Str := ["self", "rows", "deed"]
theorem sc_World_trial : FnScope n_World_trial p_World_trial (defScope s_World_trial) := ⟨rfl, rfl, rfl, by decide +kernel, rfl, by decide +kernel, by decide +kernel⟩
abbrev s_World___getitem__ : Stmt := inClass (top 30) 7
abbrev n_World___getitem__ : List Str := ["self", "at"]
abbrev p_World___getitem__ : List Str := ["self", "at"]
theorem sc_World___getitem__ : FnScope n_World___getitem__ p_World___getitem__ (defScope s_World___getitem__) := ⟨rfl, rfl, rfl, by decide +kernel, rfl, by decide +kernel, by decide +kernel⟩
abbrev s_World___setitem__ : Stmt := inClass (top 30) 8
abbrev n_World___setitem__ : List Str := ["self", "at", "worth", "given", "others", "name"]
abbrev p_World___setitem__ : List Str := ["self", "at", "worth"]
theorem sc_World___setitem__ : FnScope n_World___setitem__ p_World___setitem__ (defScope s_World___setitem__) := ⟨rfl, rfl, rfl, by decide +kernel, rfl, by decide +kernel, by decide +kernel⟩ -- cells ['self', 'at']
abbrev s_World___contains__ : Stmt := inClass (top 30) 9
abbrev n_World___contains__ : List Str := ["self", "x", "name", "moment"]
abbrev p_World___contains__ : List Str := ["self", "x"]
theorem sc_World___contains__ : FnScope n_World___contains__ p_World___contains__ (defScope s_World___contains__) := ⟨rfl, rfl, rfl, by decide +kernel, rfl, by decide +kernel, by decide +kernel⟩
abbrev s_World___len__ : Stmt := inClass (top 30) 10
abbrev n_World___len__ : List Str := ["self"]
abbrev p_World___len__ : List Str := ["self"]
theorem sc_World___len__ : FnScope n_World___len__ p_World___len__ (defScope s_World___len__) := ⟨rfl, rfl, rfl, by decide +kernel, rfl, by decide +kernel, by decide +kernel⟩
abbrev s_World___or__ : Stmt := inClass (top 30) 11
abbrev n_World___or__ : List Str := ["self", "other"]
abbrev p_World___or__ : List Str := ["self", "other"]
theorem sc_World___or__ : FnScope n_World___or__ p_World___or__ (defScope s_World___or__) := ⟨rfl, rfl, rfl, by decide +kernel, rfl, by decide +kernel, by decide +kernel⟩
abbrev s_World___ior__ : Stmt := inClass (top 30) 12
abbrev n_World___ior__ : List Str := ["self", "other"]
abbrev p_World___ior__ : List Str := ["self", "other"]
theorem sc_World___ior__ : FnScope n_World___ior__ p_World___ior__ (defScope s_World___ior__) := ⟨rfl, rfl, rfl, by decide +kernel, rfl, by decide +kernel, by decide +kernel⟩
abbrev s_World___eq__ : Stmt := inClass (top 30) 13
abbrev n_World___eq__ : List Str := ["self", "other"]
abbrev p_World___eq__ : List Str := ["self", "other"]
theorem sc_World___eq__ : FnScope n_World___eq__ p_World___eq__ (defScope s_World___eq__) := ⟨rfl, rfl, rfl, by decide +kernel, rfl, by decide +kernel, by decide +kernel⟩
abbrev s_World___iter__ : Stmt := inClass (top 30) 14
abbrev n_World___iter__ : List Str := ["self"]
abbrev p_World___iter__ : List Str := ["self"]
theorem sc_World___iter__ : FnScope n_World___iter__ p_World___iter__ (defScope s_World___iter__) := ⟨rfl, rfl, rfl, by decide +kernel, rfl, by decide +kernel, by decide +kernel⟩
abbrev s_check_world : Stmt := top 31
abbrev n_check_world : List Str := ["value"]
abbrev p_check_world : List Str := ["value"]
theorem sc_check_world : FnScope n_check_world p_check_world (defScope s_check_world) := ⟨rfl, rfl, rfl, by decide +kernel, rfl, by decide +kernel, by decide +kernel⟩
abbrev s_is_list_of_moments : Stmt := top 32
abbrev n_is_list_of_moments : List Str := ["thing", "entry"]
abbrev p_is_list_of_moments : List Str := ["thing"]
theorem sc_is_list_of_moments : FnScope n_is_list_of_moments p_is_list_of_moments (defScope s_is_list_of_moments) := ⟨rfl, rfl, rfl, by decide +kernel, rfl, by decide +kernel, by decide +kernel⟩
abbrev s_checked_rows : Stmt := top 33
abbrev n_checked_rows : List Str := ["rows", "checked", "name"]
abbrev p_checked_rows : List Str := ["rows"]
theorem sc_checked_rows : FnScope n_checked_rows p_checked_rows (defScope s_checked_rows) := ⟨rfl, rfl, rfl, by decide +kernel, rfl, by decide +kernel, by decide +kernel⟩
abbrev s_joined : Stmt := top 34
abbrev n_joined : List Str := ["one", "other", "both", "name"]
abbrev p_joined : List Str := ["one", "other"]
theorem sc_joined : FnScope n_joined p_joined (defScope s_joined) := ⟨rfl, rfl, rfl, by decide +kernel, rfl, by decide +kernel, by decide +kernel⟩
abbrev s_limited : Stmt := top 35
abbrev n_limited : List Str := ["held", "name"]
abbrev p_limited : List Str := ["held"]
theorem sc_limited : FnScope n_limited p_limited (defScope s_limited) := ⟨rfl, rfl, rfl, by decide +kernel, rfl, by decide +kernel, by decide +kernel⟩ -- cells ['held']
abbrev s_Term___init__ : Stmt := inClass (top 40) 0
abbrev n_Term___init__ : List Str := ["self", "children", "looks", "choices", "child"]
abbrev p_Term___init__ : List Str := ["self", "children", "looks", "choices"]
theorem sc_Term___init__ : FnScope n_Term___init__ p_Term___init__ (defScope s_Term___init__) := ⟨rfl, rfl, rfl, by decide +kernel, rfl, by decide +kernel, by decide +kernel⟩
abbrev s_Term___add__ : Stmt := inClass (top 40) 1
abbrev n_Term___add__ : List Str := ["self", "other"]
abbrev p_Term___add__ : List Str := ["self", "other"]
theorem sc_Term___add__ : FnScope n_Term___add__ p_Term___add__ (defScope s_Term___add__) := ⟨rfl, rfl, rfl, by decide +kernel, rfl, by decide +kernel, by decide +kernel⟩
abbrev s_Term___sub__ : Stmt := inClass (top 40) 2
abbrev n_Term___sub__ : List Str := ["self", "other"]
abbrev p_Term___sub__ : List Str := ["self", "other"]
theorem sc_Term___sub__ : FnScope n_Term___sub__ p_Term___sub__ (defScope s_Term___sub__) := ⟨rfl, rfl, rfl, by decide +kernel, rfl, by decide +kernel, by decide +kernel⟩
abbrev s_Term___or__ : Stmt := inClass (top 40) 3
abbrev n_Term___or__ : List Str := ["self", "other"]
abbrev p_Term___or__ : List Str := ["self", "other"]
theorem sc_Term___or__ : FnScope n_Term___or__ p_Term___or__ (defScope s_Term___or__) := ⟨rfl, rfl, rfl, by decide +kernel, rfl, by decide +kernel, by decide +kernel⟩
abbrev s_Term_later : Stmt := inClass (top 40) 4
abbrev n_Term_later : List Str := ["self", "other"]
abbrev p_Term_later : List Str := ["self", "other"]
theorem sc_Term_later : FnScope n_Term_later p_Term_later (defScope s_Term_later) := ⟨rfl, rfl, rfl, by decide +kernel, rfl, by decide +kernel, by decide +kernel⟩
abbrev s_Term_earlier : Stmt := inClass (top 40) 5
abbrev n_Term_earlier : List Str := ["self", "other"]
abbrev p_Term_earlier : List Str := ["self", "other"]
theorem sc_Term_earlier : FnScope n_Term_earlier p_Term_earlier (defScope s_Term_earlier) := ⟨rfl, rfl, rfl, by decide +kernel, rfl, by decide +kernel, by decide +kernel⟩
abbrev s_Term___eq__ : Stmt := inClass (top 40) 6
abbrev n_Term___eq__ : List Str := ["self", "other"]
abbrev p_Term___eq__ : List Str := ["self", "other"]
theorem sc_Term___eq__ : FnScope n_Term___eq__ p_Term___eq__ (defScope s_Term___eq__) := ⟨rfl, rfl, rfl, by decide +kernel, rfl, by decide +kernel, by decide +kernel⟩
abbrev s_Term___call__ : Stmt := inClass (top 40) 7
abbrev n_Term___call__ : List Str := ["self", "world", "now"]
abbrev p_Term___call__ : List Str := ["self", "world", "now"]
theorem sc_Term___call__ : FnScope n_Term___call__ p_Term___call__ (defScope s_Term___call__) := ⟨rfl, rfl, rfl, by decide +kernel, rfl, by decide +kernel, by decide +kernel⟩
abbrev s_Term_streams : Stmt := inClass (top 40) 8
abbrev n_Term_streams : List Str := ["self", "part"]
abbrev p_Term_streams : List Str := ["self"]
theorem sc_Term_streams : FnScope n_Term_streams p_Term_streams (defScope s_Term_streams) := ⟨rfl, rfl, rfl, by decide +kernel, rfl, by decide +kernel, by decide +kernel⟩
abbrev s_Term_part_paths : Stmt := inClass (top 40) 9
abbrev n_Term_part_paths : List Str := ["self"]
abbrev p_Term_part_paths : List Str := ["self"]
theorem sc_Term_part_paths : FnScope n_Term_part_paths p_Term_part_paths (defScope s_Term_part_paths) := ⟨rfl, rfl, rfl, by decide +kernel, rfl, by decide +kernel, by decide +kernel⟩
abbrev s_Term_part_at : Stmt := inClass (top 40) 10
abbrev n_Term_part_at : List Str := ["self", "path"]
abbrev p_Term_part_at : List Str := ["self", "path"]
theorem sc_Term_part_at : FnScope n_Term_part_at p_Term_part_at (defScope s_Term_part_at) := ⟨rfl, rfl, rfl, by decide +kernel, rfl, by decide +kernel, by decide +kernel⟩
abbrev s_Term_with_part : Stmt := inClass (top 40) 11
abbrev n_Term_with_part : List Str := ["self", "path", "other"]
abbrev p_Term_with_part : List Str := ["self", "path", "other"]
theorem sc_Term_with_part : FnScope n_Term_with_part p_Term_with_part (defScope s_Term_with_part) := ⟨rfl, rfl, rfl, by decide +kernel, rfl, by decide +kernel, by decide +kernel⟩
abbrev s_Now___init__ : Stmt := inClass (top 41) 0
abbrev n_Now___init__ : List Str := ["self"]
abbrev p_Now___init__ : List Str := ["self"]
theorem sc_Now___init__ : FnScope n_Now___init__ p_Now___init__ (defScope s_Now___init__) := ⟨rfl, rfl, rfl, by decide +kernel, rfl, by decide +kernel, by decide +kernel⟩
abbrev s_Now_own_values : Stmt := inClass (top 41) 1
abbrev n_Now_own_values : List Str := ["self"]
abbrev p_Now_own_values : List Str := ["self"]
theorem sc_Now_own_values : FnScope n_Now_own_values p_Now_own_values (defScope s_Now_own_values) := ⟨rfl, rfl, rfl, by decide +kernel, rfl, by decide +kernel, by decide +kernel⟩
abbrev s_Now_answer : Stmt := inClass (top 41) 2
abbrev n_Now_answer : List Str := ["self", "world", "now"]
abbrev p_Now_answer : List Str := ["self", "world", "now"]
theorem sc_Now_answer : FnScope n_Now_answer p_Now_answer (defScope s_Now_answer) := ⟨rfl, rfl, rfl, by decide +kernel, rfl, by decide +kernel, by decide +kernel⟩
abbrev s_Shift___init__ : Stmt := inClass (top 42) 0
abbrev n_Shift___init__ : List Str := ["self", "moment", "amount"]
abbrev p_Shift___init__ : List Str := ["self", "moment", "amount"]
theorem sc_Shift___init__ : FnScope n_Shift___init__ p_Shift___init__ (defScope s_Shift___init__) := ⟨rfl, rfl, rfl, by decide +kernel, rfl, by decide +kernel, by decide +kernel⟩
abbrev s_Shift_own_values : Stmt := inClass (top 42) 1
abbrev n_Shift_own_values : List Str := ["self"]
abbrev p_Shift_own_values : List Str := ["self"]
theorem sc_Shift_own_values : FnScope n_Shift_own_values p_Shift_own_values (defScope s_Shift_own_values) := ⟨rfl, rfl, rfl, by decide +kernel, rfl, by decide +kernel, by decide +kernel⟩
abbrev s_Shift_rebuilt : Stmt := inClass (top 42) 2
abbrev n_Shift_rebuilt : List Str := ["self", "children"]
abbrev p_Shift_rebuilt : List Str := ["self", "children"]
theorem sc_Shift_rebuilt : FnScope n_Shift_rebuilt p_Shift_rebuilt (defScope s_Shift_rebuilt) := ⟨rfl, rfl, rfl, by decide +kernel, rfl, by decide +kernel, by decide +kernel⟩
abbrev s_Shift_answer : Stmt := inClass (top 42) 3
abbrev n_Shift_answer : List Str := ["self", "world", "now", "moment"]
abbrev p_Shift_answer : List Str := ["self", "world", "now"]
theorem sc_Shift_answer : FnScope n_Shift_answer p_Shift_answer (defScope s_Shift_answer) := ⟨rfl, rfl, rfl, by decide +kernel, rfl, by decide +kernel, by decide +kernel⟩
abbrev s_Look___init__ : Stmt := inClass (top 43) 0
abbrev n_Look___init__ : List Str := ["self", "stream", "moment", "way", "within"]
abbrev p_Look___init__ : List Str := ["self", "stream", "moment", "way", "within"]
theorem sc_Look___init__ : FnScope n_Look___init__ p_Look___init__ (defScope s_Look___init__) := ⟨rfl, rfl, rfl, by decide +kernel, rfl, by decide +kernel, by decide +kernel⟩
abbrev s_Look_own_values : Stmt := inClass (top 43) 1
abbrev n_Look_own_values : List Str := ["self"]
abbrev p_Look_own_values : List Str := ["self"]
theorem sc_Look_own_values : FnScope n_Look_own_values p_Look_own_values (defScope s_Look_own_values) := ⟨rfl, rfl, rfl, by decide +kernel, rfl, by decide +kernel, by decide +kernel⟩
abbrev s_Look_rebuilt : Stmt := inClass (top 43) 2
abbrev n_Look_rebuilt : List Str := ["self", "children"]
abbrev p_Look_rebuilt : List Str := ["self", "children"]
theorem sc_Look_rebuilt : FnScope n_Look_rebuilt p_Look_rebuilt (defScope s_Look_rebuilt) := ⟨rfl, rfl, rfl, by decide +kernel, rfl, by decide +kernel, by decide +kernel⟩
abbrev s_Look_answer : Stmt := inClass (top 43) 3
abbrev n_Look_answer : List Str := ["self", "world", "now", "moment"]
abbrev p_Look_answer : List Str := ["self", "world", "now"]
theorem sc_Look_answer : FnScope n_Look_answer p_Look_answer (defScope s_Look_answer) := ⟨rfl, rfl, rfl, by decide +kernel, rfl, by decide +kernel, by decide +kernel⟩
abbrev s_Either___init__ : Stmt := inClass (top 44) 0
abbrev n_Either___init__ : List Str := ["self", "first", "second"]
abbrev p_Either___init__ : List Str := ["self", "first", "second"]
theorem sc_Either___init__ : FnScope n_Either___init__ p_Either___init__ (defScope s_Either___init__) := ⟨rfl, rfl, rfl, by decide +kernel, rfl, by decide +kernel, by decide +kernel⟩
abbrev s_Either_own_values : Stmt := inClass (top 44) 1
abbrev n_Either_own_values : List Str := ["self"]
abbrev p_Either_own_values : List Str := ["self"]
theorem sc_Either_own_values : FnScope n_Either_own_values p_Either_own_values (defScope s_Either_own_values) := ⟨rfl, rfl, rfl, by decide +kernel, rfl, by decide +kernel, by decide +kernel⟩
abbrev s_Either_rebuilt : Stmt := inClass (top 44) 2
abbrev n_Either_rebuilt : List Str := ["self", "children"]
abbrev p_Either_rebuilt : List Str := ["self", "children"]
theorem sc_Either_rebuilt : FnScope n_Either_rebuilt p_Either_rebuilt (defScope s_Either_rebuilt) := ⟨rfl, rfl, rfl, by decide +kernel, rfl, by decide +kernel, by decide +kernel⟩
abbrev s_Either_answer : Stmt := inClass (top 44) 3
abbrev n_Either_answer : List Str := ["self", "world", "now", "one"]
abbrev p_Either_answer : List Str := ["self", "world", "now"]
theorem sc_Either_answer : FnScope n_Either_answer p_Either_answer (defScope s_Either_answer) := ⟨rfl, rfl, rfl, by decide +kernel, rfl, by decide +kernel, by decide +kernel⟩
abbrev s_Later___init__ : Stmt := inClass (top 45) 0
abbrev n_Later___init__ : List Str := ["self", "first", "second"]
abbrev p_Later___init__ : List Str := ["self", "first", "second"]
theorem sc_Later___init__ : FnScope n_Later___init__ p_Later___init__ (defScope s_Later___init__) := ⟨rfl, rfl, rfl, by decide +kernel, rfl, by decide +kernel, by decide +kernel⟩
abbrev s_Later_own_values : Stmt := inClass (top 45) 1
abbrev n_Later_own_values : List Str := ["self"]
abbrev p_Later_own_values : List Str := ["self"]
theorem sc_Later_own_values : FnScope n_Later_own_values p_Later_own_values (defScope s_Later_own_values) := ⟨rfl, rfl, rfl, by decide +kernel, rfl, by decide +kernel, by decide +kernel⟩
abbrev s_Later_rebuilt : Stmt := inClass (top 45) 2
abbrev n_Later_rebuilt : List Str := ["self", "children"]
abbrev p_Later_rebuilt : List Str := ["self", "children"]
theorem sc_Later_rebuilt : FnScope n_Later_rebuilt p_Later_rebuilt (defScope s_Later_rebuilt) := ⟨rfl, rfl, rfl, by decide +kernel, rfl, by decide +kernel, by decide +kernel⟩
abbrev s_Later_answer : Stmt := inClass (top 45) 3
abbrev n_Later_answer : List Str := ["self", "world", "now", "both"]
abbrev p_Later_answer : List Str := ["self", "world", "now"]
theorem sc_Later_answer : FnScope n_Later_answer p_Later_answer (defScope s_Later_answer) := ⟨rfl, rfl, rfl, by decide +kernel, rfl, by decide +kernel, by decide +kernel⟩
abbrev s_Earlier___init__ : Stmt := inClass (top 46) 0
abbrev n_Earlier___init__ : List Str := ["self", "first", "second"]
abbrev p_Earlier___init__ : List Str := ["self", "first", "second"]
theorem sc_Earlier___init__ : FnScope n_Earlier___init__ p_Earlier___init__ (defScope s_Earlier___init__) := ⟨rfl, rfl, rfl, by decide +kernel, rfl, by decide +kernel, by decide +kernel⟩
abbrev s_Earlier_own_values : Stmt := inClass (top 46) 1
abbrev n_Earlier_own_values : List Str := ["self"]
abbrev p_Earlier_own_values : List Str := ["self"]
theorem sc_Earlier_own_values : FnScope n_Earlier_own_values p_Earlier_own_values (defScope s_Earlier_own_values) := ⟨rfl, rfl, rfl, by decide +kernel, rfl, by decide +kernel, by decide +kernel⟩
abbrev s_Earlier_rebuilt : Stmt := inClass (top 46) 2
abbrev n_Earlier_rebuilt : List Str := ["self", "children"]
abbrev p_Earlier_rebuilt : List Str := ["self", "children"]
theorem sc_Earlier_rebuilt : FnScope n_Earlier_rebuilt p_Earlier_rebuilt (defScope s_Earlier_rebuilt) := ⟨rfl, rfl, rfl, by decide +kernel, rfl, by decide +kernel, by decide +kernel⟩
abbrev s_Earlier_answer : Stmt := inClass (top 46) 3
abbrev n_Earlier_answer : List Str := ["self", "world", "now", "both"]
abbrev p_Earlier_answer : List Str := ["self", "world", "now"]
theorem sc_Earlier_answer : FnScope n_Earlier_answer p_Earlier_answer (defScope s_Earlier_answer) := ⟨rfl, rfl, rfl, by decide +kernel, rfl, by decide +kernel, by decide +kernel⟩
abbrev s_told : Stmt := top 47
abbrev n_told : List Str := ["term", "world", "now"]
abbrev p_told : List Str := ["term", "world", "now"]
theorem sc_told : FnScope n_told p_told (defScope s_told) := ⟨rfl, rfl, rfl, by decide +kernel, rfl, by decide +kernel, by decide +kernel⟩
abbrev s_check_term : Stmt := top 48
abbrev n_check_term : List Str := ["value"]
abbrev p_check_term : List Str := ["value"]
theorem sc_check_term : FnScope n_check_term p_check_term (defScope s_check_term) := ⟨rfl, rfl, rfl, by decide +kernel, rfl, by decide +kernel, by decide +kernel⟩
abbrev s_shifted : Stmt := top 49
abbrev n_shifted : List Str := ["term", "amount"]
abbrev p_shifted : List Str := ["term", "amount"]
theorem sc_shifted : FnScope n_shifted p_shifted (defScope s_shifted) := ⟨rfl, rfl, rfl, by decide +kernel, rfl, by decide +kernel, by decide +kernel⟩
abbrev s_all_parts : Stmt := top 50
abbrev n_all_parts : List Str := ["term", "found", "child"]
abbrev p_all_parts : List Str := ["term"]
theorem sc_all_parts : FnScope n_all_parts p_all_parts (defScope s_all_parts) := ⟨rfl, rfl, rfl, by decide +kernel, rfl, by decide +kernel, by decide +kernel⟩
abbrev s_both_answers : Stmt := top 51
abbrev n_both_answers : List Str := ["term", "world", "now", "one", "other"]
abbrev p_both_answers : List Str := ["term", "world", "now"]
theorem sc_both_answers : FnScope n_both_answers p_both_answers (defScope s_both_answers) := ⟨rfl, rfl, rfl, by decide +kernel, rfl, by decide +kernel, by decide +kernel⟩
abbrev s_spelled : Stmt := top 61
abbrev n_spelled : List Str := ["term"]
abbrev p_spelled : List Str := ["term"]
theorem sc_spelled : FnScope n_spelled p_spelled (defScope s_spelled) := ⟨rfl, rfl, rfl, by decide +kernel, rfl, by decide +kernel, by decide +kernel⟩
abbrev s_written : Stmt := top 62
abbrev n_written : List Str := ["term", "sign", "word", "limit", "first", "second"]
abbrev p_written : List Str := ["term"]
theorem sc_written : FnScope n_written p_written (defScope s_written) := ⟨rfl, rfl, rfl, by decide +kernel, rfl, by decide +kernel, by decide +kernel⟩
abbrev s_written_number : Stmt := top 63
abbrev n_written_number : List Str := ["number"]
abbrev p_written_number : List Str := ["number"]
theorem sc_written_number : FnScope n_written_number p_written_number (defScope s_written_number) := ⟨rfl, rfl, rfl, by decide +kernel, rfl, by decide +kernel, by decide +kernel⟩
abbrev s_parse : Stmt := top 64
abbrev n_parse : List Str := ["text", "reader", "term"]
abbrev p_parse : List Str := ["text"]
theorem sc_parse : FnScope n_parse p_parse (defScope s_parse) := ⟨rfl, rfl, rfl, by decide +kernel, rfl, by decide +kernel, by decide +kernel⟩
abbrev s_Reader___init__ : Stmt := inClass (top 65) 0
abbrev n_Reader___init__ : List Str := ["self", "text"]
abbrev p_Reader___init__ : List Str := ["self", "text"]
theorem sc_Reader___init__ : FnScope n_Reader___init__ p_Reader___init__ (defScope s_Reader___init__) := ⟨rfl, rfl, rfl, by decide +kernel, rfl, by decide +kernel, by decide +kernel⟩
abbrev s_Reader_read_term : Stmt := inClass (top 65) 1
abbrev n_Reader_read_term : List Str := ["self", "inside", "word"]
abbrev p_Reader_read_term : List Str := ["self", "inside"]
theorem sc_Reader_read_term : FnScope n_Reader_read_term p_Reader_read_term (defScope s_Reader_read_term) := ⟨rfl, rfl, rfl, by decide +kernel, rfl, by decide +kernel, by decide +kernel⟩
abbrev s_Reader_read_joined : Stmt := inClass (top 65) 2
abbrev n_Reader_read_joined : List Str := ["self", "inside", "first", "joint", "term", "amount"]
abbrev p_Reader_read_joined : List Str := ["self", "inside"]
theorem sc_Reader_read_joined : FnScope n_Reader_read_joined p_Reader_read_joined (defScope s_Reader_read_joined) := ⟨rfl, rfl, rfl, by decide +kernel, rfl, by decide +kernel, by decide +kernel⟩
abbrev s_Reader_read_ordered : Stmt := inClass (top 65) 3
abbrev n_Reader_read_ordered : List Str := ["self", "word", "inside", "first", "second"]
abbrev p_Reader_read_ordered : List Str := ["self", "word", "inside"]
theorem sc_Reader_read_ordered : FnScope n_Reader_read_ordered p_Reader_read_ordered (defScope s_Reader_read_ordered) := ⟨rfl, rfl, rfl, by decide +kernel, rfl, by decide +kernel, by decide +kernel⟩
abbrev s_Reader_read_look : Stmt := inClass (top 65) 4
abbrev n_Reader_read_look : List Str := ["self", "ways", "inside", "stream", "within", "word"]
abbrev p_Reader_read_look : List Str := ["self", "ways", "inside"]
theorem sc_Reader_read_look : FnScope n_Reader_read_look p_Reader_read_look (defScope s_Reader_read_look) := ⟨rfl, rfl, rfl, by decide +kernel, rfl, by decide +kernel, by decide +kernel⟩
abbrev s_Reader_read_number : Stmt := inClass (top 65) 5
abbrev n_Reader_read_number : List Str := ["self"]
abbrev p_Reader_read_number : List Str := ["self"]
theorem sc_Reader_read_number : FnScope n_Reader_read_number p_Reader_read_number (defScope s_Reader_read_number) := ⟨rfl, rfl, rfl, by decide +kernel, rfl, by decide +kernel, by decide +kernel⟩
abbrev s_Reader_read_row_of : Stmt := inClass (top 65) 6
abbrev n_Reader_read_row_of : List Str := ["self", "letters", "most", "found", "letter"]
abbrev p_Reader_read_row_of : List Str := ["self", "letters", "most"]
theorem sc_Reader_read_row_of : FnScope n_Reader_read_row_of p_Reader_read_row_of (defScope s_Reader_read_row_of) := ⟨rfl, rfl, rfl, by decide +kernel, rfl, by decide +kernel, by decide +kernel⟩
abbrev s_Reader_read_word : Stmt := inClass (top 65) 7
abbrev n_Reader_read_word : List Str := ["self", "words", "longest", "word", "count"]
abbrev p_Reader_read_word : List Str := ["self", "words"]
theorem sc_Reader_read_word : FnScope n_Reader_read_word p_Reader_read_word (defScope s_Reader_read_word) := ⟨rfl, rfl, rfl, by decide +kernel, rfl, by decide +kernel, by decide +kernel⟩
abbrev s_Reader_read_end : Stmt := inClass (top 65) 8
abbrev n_Reader_read_end : List Str := ["self"]
abbrev p_Reader_read_end : List Str := ["self"]
theorem sc_Reader_read_end : FnScope n_Reader_read_end p_Reader_read_end (defScope s_Reader_read_end) := ⟨rfl, rfl, rfl, by decide +kernel, rfl, by decide +kernel, by decide +kernel⟩
abbrev s_common_length : Stmt := top 66
abbrev n_common_length : List Str := ["text", "place", "word", "count"]
abbrev p_common_length : List Str := ["text", "place", "word"]
theorem sc_common_length : FnScope n_common_length p_common_length (defScope s_common_length) := ⟨rfl, rfl, rfl, by decide +kernel, rfl, by decide +kernel, by decide +kernel⟩
abbrev s__law_open : Stmt := top 68
abbrev n__law_open : List Str := ["_law_script", "_law_cells"]
abbrev p__law_open : List Str := ["_law_script"]
theorem sc__law_open : FnScope n__law_open p__law_open (defScope s__law_open) := ⟨rfl, rfl, rfl, by decide +kernel, rfl, by decide +kernel, by decide +kernel⟩
abbrev s__law_pick : Stmt := top 69
abbrev n__law_pick : List Str := ["_law_box", "_law_many", "_law_cells", "_law_k", "_law_at", "_law_cell", "_law_number_here"]
abbrev p__law_pick : List Str := ["_law_box", "_law_many"]
theorem sc__law_pick : FnScope n__law_pick p__law_pick (defScope s__law_pick) := ⟨rfl, rfl, rfl, by decide +kernel, rfl, by decide +kernel, by decide +kernel⟩
abbrev s__law_number : Stmt := top 70
abbrev n__law_number : List Str := ["_law_box", "_law_kind"]
abbrev p__law_number : List Str := ["_law_box"]
theorem sc__law_number : FnScope n__law_number p__law_number (defScope s__law_number) := ⟨rfl, rfl, rfl, by decide +kernel, rfl, by decide +kernel, by decide +kernel⟩
abbrev s__law_limit : Stmt := top 71
abbrev n__law_limit : List Str := ["_law_box", "_law_kind"]
abbrev p__law_limit : List Str := ["_law_box"]
theorem sc__law_limit : FnScope n__law_limit p__law_limit (defScope s__law_limit) := ⟨rfl, rfl, rfl, by decide +kernel, rfl, by decide +kernel, by decide +kernel⟩
abbrev s__law_names : Stmt := top 72
abbrev n__law_names : List Str := ["_law_box", "_law_many", "_law_letters", "_law_names_here", "_law_k", "_law_name", "_law_j", "_law_word"]
abbrev p__law_names : List Str := ["_law_box", "_law_many"]
theorem sc__law_names : FnScope n__law_names p__law_names (defScope s__law_names) := ⟨rfl, rfl, rfl, by decide +kernel, rfl, by decide +kernel, by decide +kernel⟩ -- cells ['_law_box', '_law_letters', '_law_names_here']
abbrev s__law_shift : Stmt := top 73
abbrev n__law_shift : List Str := ["_law_tree_here", "_law_amount"]
abbrev p__law_shift : List Str := ["_law_tree_here", "_law_amount"]
theorem sc__law_shift : FnScope n__law_shift p__law_shift (defScope s__law_shift) := ⟨rfl, rfl, rfl, by decide +kernel, rfl, by decide +kernel, by decide +kernel⟩
abbrev s__law_tree : Stmt := top 74
abbrev n__law_tree : List Str := ["_law_box", "_law_names_here", "_law_looks", "_law_joins", "_law_kind", "_law_left", "_law_inner", "_law_one", "_law_other", "_law_inside", "_law_name", "_law_way", "_law_far"]
abbrev p__law_tree : List Str := ["_law_box", "_law_names_here", "_law_looks", "_law_joins"]
theorem sc__law_tree : FnScope n__law_tree p__law_tree (defScope s__law_tree) := ⟨rfl, rfl, rfl, by decide +kernel, rfl, by decide +kernel, by decide +kernel⟩
abbrev s__law_term : Stmt := top 75
abbrev n__law_term : List Str := ["_law_tree_here", "_law_one", "_law_other"]
abbrev p__law_term : List Str := ["_law_tree_here"]
theorem sc__law_term : FnScope n__law_term p__law_term (defScope s__law_term) := ⟨rfl, rfl, rfl, by decide +kernel, rfl, by decide +kernel, by decide +kernel⟩
abbrev s__law_found : Stmt := top 76
abbrev n__law_found : List Str := ["_law_moments_here", "_law_moment", "_law_way", "_law_far", "_law_row", "_law_fitting"]
abbrev p__law_found : List Str := ["_law_moments_here", "_law_moment", "_law_way", "_law_far"]
theorem sc__law_found : FnScope n__law_found p__law_found (defScope s__law_found) := ⟨rfl, rfl, rfl, by decide +kernel, rfl, by decide +kernel, by decide +kernel⟩ -- cells ['_law_moment']
abbrev s__law_told : Stmt := top 77
abbrev n__law_told : List Str := ["_law_tree_here", "_law_rows_here", "_law_now", "_law_inner", "_law_moment", "_law_one", "_law_other"]
abbrev p__law_told : List Str := ["_law_tree_here", "_law_rows_here", "_law_now"]
theorem sc__law_told : FnScope n__law_told p__law_told (defScope s__law_told) := ⟨rfl, rfl, rfl, by decide +kernel, rfl, by decide +kernel, by decide +kernel⟩
abbrev s__law_moments : Stmt := top 78
abbrev n__law_moments : List Str := ["_law_box", "_law_most", "_law_found_here", "_law_moment", "_law_k"]
abbrev p__law_moments : List Str := ["_law_box", "_law_most"]
theorem sc__law_moments : FnScope n__law_moments p__law_moments (defScope s__law_moments) := ⟨rfl, rfl, rfl, by decide +kernel, rfl, by decide +kernel, by decide +kernel⟩
abbrev s__law_rows : Stmt := top 79
abbrev n__law_rows : List Str := ["_law_box", "_law_names_here", "_law_most", "_law_rows_here", "_law_name"]
abbrev p__law_rows : List Str := ["_law_box", "_law_names_here", "_law_most"]
theorem sc__law_rows : FnScope n__law_rows p__law_rows (defScope s__law_rows) := ⟨rfl, rfl, rfl, by decide +kernel, rfl, by decide +kernel, by decide +kernel⟩
abbrev s__law_copy : Stmt := top 80
abbrev n__law_copy : List Str := ["_law_rows_here", "_law_result", "_law_name"]
abbrev p__law_copy : List Str := ["_law_rows_here"]
theorem sc__law_copy : FnScope n__law_copy p__law_copy (defScope s__law_copy) := ⟨rfl, rfl, rfl, by decide +kernel, rfl, by decide +kernel, by decide +kernel⟩
abbrev s__law_world : Stmt := top 81
abbrev n__law_world : List Str := ["_law_rows_here"]
abbrev p__law_world : List Str := ["_law_rows_here"]
theorem sc__law_world : FnScope n__law_world p__law_world (defScope s__law_world) := ⟨rfl, rfl, rfl, by decide +kernel, rfl, by decide +kernel, by decide +kernel⟩
abbrev s__law_is_integer : Stmt := top 82
abbrev n__law_is_integer : List Str := ["_law_thing"]
abbrev p__law_is_integer : List Str := ["_law_thing"]
theorem sc__law_is_integer : FnScope n__law_is_integer p__law_is_integer (defScope s__law_is_integer) := ⟨rfl, rfl, rfl, by decide +kernel, rfl, by decide +kernel, by decide +kernel⟩
abbrev s__law_answer : Stmt := top 83
abbrev n__law_answer : List Str := ["_law_thing", "_law_due"]
abbrev p__law_answer : List Str := ["_law_thing", "_law_due"]
theorem sc__law_answer : FnScope n__law_answer p__law_answer (defScope s__law_answer) := ⟨rfl, rfl, rfl, by decide +kernel, rfl, by decide +kernel, by decide +kernel⟩
abbrev s__law_written : Stmt := top 84
abbrev n__law_written : List Str := ["_law_tree_here", "_law_sign", "_law_word", "_law_far", "_law_one", "_law_other"]
abbrev p__law_written : List Str := ["_law_tree_here"]
theorem sc__law_written : FnScope n__law_written p__law_written (defScope s__law_written) := ⟨rfl, rfl, rfl, by decide +kernel, rfl, by decide +kernel, by decide +kernel⟩
abbrev s__law_loose_text : Stmt := top 85
abbrev n__law_loose_text : List Str := ["_law_box", "_law_text", "_law_total", "_law_k", "_law_amount"]
abbrev p__law_loose_text : List Str := ["_law_box", "_law_text", "_law_total"]
theorem sc__law_loose_text : FnScope n__law_loose_text p__law_loose_text (defScope s__law_loose_text) := ⟨rfl, rfl, rfl, by decide +kernel, rfl, by decide +kernel, by decide +kernel⟩
abbrev s_law : Stmt := top 86
abbrev n_law : List Str := ["_law_script", "_law_box", "_law_names_here", "_law_tree_here", "_law_term_here", "_law_text", "_law_back", "_law_small", "_law_loose", "_law_outer", "_law_inner", "_law_due", "_law_found_here", "_law_rows_here", "_law_k", "_law_now"]
abbrev p_law : List Str := ["_law_script"]
theorem sc_law : FnScope n_law p_law (defScope s_law) := ⟨rfl, rfl, rfl, by decide +kernel, rfl, by decide +kernel, by decide +kernel⟩
end Pl

namespace Pl
open PySem L2 PySem.Spec PyProof.Rows
def names0 : List Str := [(Str.ofString "_wall"), (Str.ofString "PastError"), (Str.ofString "BadName"), (Str.ofString "BadMoment"), (Str.ofString "BadBound"), (Str.ofString "BadTerm"), (Str.ofString "BadWay"), (Str.ofString "BadWorld"), (Str.ofString "BadRows"), (Str.ofString "BadText")]
def names1 : List Str := [(Str.ofString "TooMany"), (Str.ofString "LETTERS"), (Str.ofString "MOST_LETTERS"), (Str.ofString "is_integer"), (Str.ofString "is_count"), (Str.ofString "is_name"), (Str.ofString "check_name"), (Str.ofString "check_moment"), (Str.ofString "check_bound"), (Str.ofString "check_limit")]
def names2 : List Str := [(Str.ofString "WAYS"), (Str.ofString "BACKWARD"), (Str.ofString "count_before"), (Str.ofString "row_found"), (Str.ofString "row_within"), (Str.ofString "MOST_ROWS"), (Str.ofString "World"), (Str.ofString "check_world"), (Str.ofString "is_list_of_moments"), (Str.ofString "checked_rows")]
def names3 : List Str := [(Str.ofString "joined"), (Str.ofString "limited"), (Str.ofString "MOST_DEPTH"), (Str.ofString "MOST_PARTS"), (Str.ofString "MOST_LOOKS"), (Str.ofString "Term"), (Str.ofString "Now"), (Str.ofString "Shift"), (Str.ofString "Look"), (Str.ofString "Either")]
def names4 : List Str := [(Str.ofString "Later"), (Str.ofString "Earlier"), (Str.ofString "told"), (Str.ofString "check_term"), (Str.ofString "shifted"), (Str.ofString "all_parts"), (Str.ofString "both_answers"), (Str.ofString "DIGITS"), (Str.ofString "MOST_DIGITS"), (Str.ofString "BEYOND_DIGITS")]
def names5 : List Str := [(Str.ofString "BEGINNINGS"), (Str.ofString "JOINTS"), (Str.ofString "LIMITED"), (Str.ofString "WAYS_BACK"), (Str.ofString "WAYS_AHEAD"), (Str.ofString "spelled"), (Str.ofString "written"), (Str.ofString "written_number"), (Str.ofString "parse"), (Str.ofString "Reader")]
def names6 : List Str := [(Str.ofString "common_length"), (Str.ofString "_law_open"), (Str.ofString "_law_pick"), (Str.ofString "_law_number"), (Str.ofString "_law_limit"), (Str.ofString "_law_names"), (Str.ofString "_law_shift"), (Str.ofString "_law_tree"), (Str.ofString "_law_term"), (Str.ofString "_law_found")]
def names7 : List Str := [(Str.ofString "_law_told"), (Str.ofString "_law_moments"), (Str.ofString "_law_rows"), (Str.ofString "_law_copy"), (Str.ofString "_law_world"), (Str.ofString "_law_is_integer"), (Str.ofString "_law_answer"), (Str.ofString "_law_written"), (Str.ofString "_law_loose_text")]
def names : List Str := names0 ++ (names1 ++ (names2 ++ (names3 ++ (names4 ++ (names5 ++ (names6 ++ (names7)))))))
def d0 : He.DefD := ⟨((Str.ofString "is_integer"), none), (Str.ofString "is_integer"), (Str.ofString "is_integer"), defArgs s_is_integer, defBody s_is_integer, defScope s_is_integer, [], []⟩
def d1 : He.DefD := ⟨((Str.ofString "is_count"), none), (Str.ofString "is_count"), (Str.ofString "is_count"), defArgs s_is_count, defBody s_is_count, defScope s_is_count, [], []⟩
def d2 : He.DefD := ⟨((Str.ofString "is_name"), none), (Str.ofString "is_name"), (Str.ofString "is_name"), defArgs s_is_name, defBody s_is_name, defScope s_is_name, [], []⟩
def d3 : He.DefD := ⟨((Str.ofString "check_name"), none), (Str.ofString "check_name"), (Str.ofString "check_name"), defArgs s_check_name, defBody s_check_name, defScope s_check_name, [], []⟩
def d4 : He.DefD := ⟨((Str.ofString "check_moment"), none), (Str.ofString "check_moment"), (Str.ofString "check_moment"), defArgs s_check_moment, defBody s_check_moment, defScope s_check_moment, [], []⟩
def d5 : He.DefD := ⟨((Str.ofString "check_bound"), none), (Str.ofString "check_bound"), (Str.ofString "check_bound"), defArgs s_check_bound, defBody s_check_bound, defScope s_check_bound, [], []⟩
def d6 : He.DefD := ⟨((Str.ofString "check_limit"), none), (Str.ofString "check_limit"), (Str.ofString "check_limit"), defArgs s_check_limit, defBody s_check_limit, defScope s_check_limit, [], []⟩
def d7 : He.DefD := ⟨((Str.ofString "count_before"), none), (Str.ofString "count_before"), (Str.ofString "count_before"), defArgs s_count_before, defBody s_count_before, defScope s_count_before, [], []⟩
def d8 : He.DefD := ⟨((Str.ofString "row_found"), none), (Str.ofString "row_found"), (Str.ofString "row_found"), defArgs s_row_found, defBody s_row_found, defScope s_row_found, [], []⟩
def d9 : He.DefD := ⟨((Str.ofString "row_within"), none), (Str.ofString "row_within"), (Str.ofString "row_within"), defArgs s_row_within, defBody s_row_within, defScope s_row_within, [], []⟩
def d10 : He.DefD := ⟨((Str.ofString "check_world"), none), (Str.ofString "check_world"), (Str.ofString "check_world"), defArgs s_check_world, defBody s_check_world, defScope s_check_world, [], []⟩
def d11 : He.DefD := ⟨((Str.ofString "is_list_of_moments"), none), (Str.ofString "is_list_of_moments"), (Str.ofString "is_list_of_moments"), defArgs s_is_list_of_moments, defBody s_is_list_of_moments, defScope s_is_list_of_moments, [], []⟩
def d12 : He.DefD := ⟨((Str.ofString "checked_rows"), none), (Str.ofString "checked_rows"), (Str.ofString "checked_rows"), defArgs s_checked_rows, defBody s_checked_rows, defScope s_checked_rows, [], []⟩
def d13 : He.DefD := ⟨((Str.ofString "limited"), none), (Str.ofString "limited"), (Str.ofString "limited"), defArgs s_limited, defBody s_limited, defScope s_limited, [], []⟩
def d14 : He.DefD := ⟨((Str.ofString "told"), none), (Str.ofString "told"), (Str.ofString "told"), defArgs s_told, defBody s_told, defScope s_told, [], []⟩
def d15 : He.DefD := ⟨((Str.ofString "check_term"), none), (Str.ofString "check_term"), (Str.ofString "check_term"), defArgs s_check_term, defBody s_check_term, defScope s_check_term, [], []⟩
def d16 : He.DefD := ⟨((Str.ofString "shifted"), none), (Str.ofString "shifted"), (Str.ofString "shifted"), defArgs s_shifted, defBody s_shifted, defScope s_shifted, [], []⟩
def d17 : He.DefD := ⟨((Str.ofString "both_answers"), none), (Str.ofString "both_answers"), (Str.ofString "both_answers"), defArgs s_both_answers, defBody s_both_answers, defScope s_both_answers, [], []⟩
def d18 : He.DefD := ⟨((Str.ofString "spelled"), none), (Str.ofString "spelled"), (Str.ofString "spelled"), defArgs s_spelled, defBody s_spelled, defScope s_spelled, [], []⟩
def d19 : He.DefD := ⟨((Str.ofString "written"), none), (Str.ofString "written"), (Str.ofString "written"), defArgs s_written, defBody s_written, defScope s_written, [], []⟩
def d20 : He.DefD := ⟨((Str.ofString "written_number"), none), (Str.ofString "written_number"), (Str.ofString "written_number"), defArgs s_written_number, defBody s_written_number, defScope s_written_number, [], []⟩
def d21 : He.DefD := ⟨((Str.ofString "parse"), none), (Str.ofString "parse"), (Str.ofString "parse"), defArgs s_parse, defBody s_parse, defScope s_parse, [], []⟩
def d22 : He.DefD := ⟨((Str.ofString "common_length"), none), (Str.ofString "common_length"), (Str.ofString "common_length"), defArgs s_common_length, defBody s_common_length, defScope s_common_length, [], []⟩
def d23 : He.DefD := ⟨((Str.ofString "_law_open"), none), (Str.ofString "_law_open"), (Str.ofString "_law_open"), defArgs s__law_open, defBody s__law_open, defScope s__law_open, [], []⟩
def d24 : He.DefD := ⟨((Str.ofString "_law_pick"), none), (Str.ofString "_law_pick"), (Str.ofString "_law_pick"), defArgs s__law_pick, defBody s__law_pick, defScope s__law_pick, [], []⟩
def d25 : He.DefD := ⟨((Str.ofString "_law_number"), none), (Str.ofString "_law_number"), (Str.ofString "_law_number"), defArgs s__law_number, defBody s__law_number, defScope s__law_number, [], []⟩
def d26 : He.DefD := ⟨((Str.ofString "_law_limit"), none), (Str.ofString "_law_limit"), (Str.ofString "_law_limit"), defArgs s__law_limit, defBody s__law_limit, defScope s__law_limit, [], []⟩
def d27 : He.DefD := ⟨((Str.ofString "_law_names"), none), (Str.ofString "_law_names"), (Str.ofString "_law_names"), defArgs s__law_names, defBody s__law_names, defScope s__law_names, [], []⟩
def d28 : He.DefD := ⟨((Str.ofString "_law_shift"), none), (Str.ofString "_law_shift"), (Str.ofString "_law_shift"), defArgs s__law_shift, defBody s__law_shift, defScope s__law_shift, [], []⟩
def d29 : He.DefD := ⟨((Str.ofString "_law_tree"), none), (Str.ofString "_law_tree"), (Str.ofString "_law_tree"), defArgs s__law_tree, defBody s__law_tree, defScope s__law_tree, [], []⟩
def d30 : He.DefD := ⟨((Str.ofString "_law_term"), none), (Str.ofString "_law_term"), (Str.ofString "_law_term"), defArgs s__law_term, defBody s__law_term, defScope s__law_term, [], []⟩
def d31 : He.DefD := ⟨((Str.ofString "_law_found"), none), (Str.ofString "_law_found"), (Str.ofString "_law_found"), defArgs s__law_found, defBody s__law_found, defScope s__law_found, [], []⟩
def d32 : He.DefD := ⟨((Str.ofString "_law_told"), none), (Str.ofString "_law_told"), (Str.ofString "_law_told"), defArgs s__law_told, defBody s__law_told, defScope s__law_told, [], []⟩
def d33 : He.DefD := ⟨((Str.ofString "_law_moments"), none), (Str.ofString "_law_moments"), (Str.ofString "_law_moments"), defArgs s__law_moments, defBody s__law_moments, defScope s__law_moments, [], []⟩
def d34 : He.DefD := ⟨((Str.ofString "_law_rows"), none), (Str.ofString "_law_rows"), (Str.ofString "_law_rows"), defArgs s__law_rows, defBody s__law_rows, defScope s__law_rows, [], []⟩
def d35 : He.DefD := ⟨((Str.ofString "_law_copy"), none), (Str.ofString "_law_copy"), (Str.ofString "_law_copy"), defArgs s__law_copy, defBody s__law_copy, defScope s__law_copy, [], []⟩
def d36 : He.DefD := ⟨((Str.ofString "_law_world"), none), (Str.ofString "_law_world"), (Str.ofString "_law_world"), defArgs s__law_world, defBody s__law_world, defScope s__law_world, [], []⟩
def d37 : He.DefD := ⟨((Str.ofString "_law_is_integer"), none), (Str.ofString "_law_is_integer"), (Str.ofString "_law_is_integer"), defArgs s__law_is_integer, defBody s__law_is_integer, defScope s__law_is_integer, [], []⟩
def d38 : He.DefD := ⟨((Str.ofString "_law_answer"), none), (Str.ofString "_law_answer"), (Str.ofString "_law_answer"), defArgs s__law_answer, defBody s__law_answer, defScope s__law_answer, [], []⟩
def d39 : He.DefD := ⟨((Str.ofString "_law_written"), none), (Str.ofString "_law_written"), (Str.ofString "_law_written"), defArgs s__law_written, defBody s__law_written, defScope s__law_written, [], []⟩
def d40 : He.DefD := ⟨((Str.ofString "_law_loose_text"), none), (Str.ofString "_law_loose_text"), (Str.ofString "_law_loose_text"), defArgs s__law_loose_text, defBody s__law_loose_text, defScope s__law_loose_text, [], []⟩
def d41 : He.DefD := ⟨((Str.ofString "law"), none), (Str.ofString "law"), (Str.ofString "law"), defArgs s_law, defBody s_law, defScope s_law, [], []⟩
def d42 : He.DefD := ⟨((Str.ofString "World"), some (Str.ofString "__init__")), (Str.ofString "__init__"), (Str.ofString "World.__init__"), defArgs s_World___init__, defBody s_World___init__, defScope s_World___init__, [.non], []⟩
def d43 : He.DefD := ⟨((Str.ofString "World"), some (Str.ofString "__getitem__")), (Str.ofString "__getitem__"), (Str.ofString "World.__getitem__"), defArgs s_World___getitem__, defBody s_World___getitem__, defScope s_World___getitem__, [], []⟩
def d44 : He.DefD := ⟨((Str.ofString "Term"), some (Str.ofString "__init__")), (Str.ofString "__init__"), (Str.ofString "Term.__init__"), defArgs s_Term___init__, defBody s_Term___init__, defScope s_Term___init__, [], []⟩
def d45 : He.DefD := ⟨((Str.ofString "Reader"), some (Str.ofString "__init__")), (Str.ofString "__init__"), (Str.ofString "Reader.__init__"), defArgs s_Reader___init__, defBody s_Reader___init__, defScope s_Reader___init__, [], []⟩
def d46 : He.DefD := ⟨((Str.ofString "Reader"), some (Str.ofString "read_term")), (Str.ofString "read_term"), (Str.ofString "Reader.read_term"), defArgs s_Reader_read_term, defBody s_Reader_read_term, defScope s_Reader_read_term, [], []⟩
def d47 : He.DefD := ⟨((Str.ofString "Reader"), some (Str.ofString "read_joined")), (Str.ofString "read_joined"), (Str.ofString "Reader.read_joined"), defArgs s_Reader_read_joined, defBody s_Reader_read_joined, defScope s_Reader_read_joined, [], []⟩
def d48 : He.DefD := ⟨((Str.ofString "Reader"), some (Str.ofString "read_ordered")), (Str.ofString "read_ordered"), (Str.ofString "Reader.read_ordered"), defArgs s_Reader_read_ordered, defBody s_Reader_read_ordered, defScope s_Reader_read_ordered, [], []⟩
def d49 : He.DefD := ⟨((Str.ofString "Reader"), some (Str.ofString "read_look")), (Str.ofString "read_look"), (Str.ofString "Reader.read_look"), defArgs s_Reader_read_look, defBody s_Reader_read_look, defScope s_Reader_read_look, [], []⟩
def d50 : He.DefD := ⟨((Str.ofString "Reader"), some (Str.ofString "read_number")), (Str.ofString "read_number"), (Str.ofString "Reader.read_number"), defArgs s_Reader_read_number, defBody s_Reader_read_number, defScope s_Reader_read_number, [], []⟩
def d51 : He.DefD := ⟨((Str.ofString "Reader"), some (Str.ofString "read_row_of")), (Str.ofString "read_row_of"), (Str.ofString "Reader.read_row_of"), defArgs s_Reader_read_row_of, defBody s_Reader_read_row_of, defScope s_Reader_read_row_of, [], []⟩
def d52 : He.DefD := ⟨((Str.ofString "Reader"), some (Str.ofString "read_word")), (Str.ofString "read_word"), (Str.ofString "Reader.read_word"), defArgs s_Reader_read_word, defBody s_Reader_read_word, defScope s_Reader_read_word, [], []⟩
def d53 : He.DefD := ⟨((Str.ofString "Reader"), some (Str.ofString "read_end")), (Str.ofString "read_end"), (Str.ofString "Reader.read_end"), defArgs s_Reader_read_end, defBody s_Reader_read_end, defScope s_Reader_read_end, [], []⟩
def d54 : He.DefD := ⟨((Str.ofString "Now"), some (Str.ofString "__init__")), (Str.ofString "__init__"), (Str.ofString "Now.__init__"), defArgs s_Now___init__, defBody s_Now___init__, defScope s_Now___init__, [], []⟩
def d55 : He.DefD := ⟨((Str.ofString "Shift"), some (Str.ofString "__init__")), (Str.ofString "__init__"), (Str.ofString "Shift.__init__"), defArgs s_Shift___init__, defBody s_Shift___init__, defScope s_Shift___init__, [], []⟩
def d56 : He.DefD := ⟨((Str.ofString "Look"), some (Str.ofString "__init__")), (Str.ofString "__init__"), (Str.ofString "Look.__init__"), defArgs s_Look___init__, defBody s_Look___init__, defScope s_Look___init__, [], [((Str.ofString "within"), .non)]⟩
def d57 : He.DefD := ⟨((Str.ofString "Either"), some (Str.ofString "__init__")), (Str.ofString "__init__"), (Str.ofString "Either.__init__"), defArgs s_Either___init__, defBody s_Either___init__, defScope s_Either___init__, [], []⟩
def d58 : He.DefD := ⟨((Str.ofString "Later"), some (Str.ofString "__init__")), (Str.ofString "__init__"), (Str.ofString "Later.__init__"), defArgs s_Later___init__, defBody s_Later___init__, defScope s_Later___init__, [], []⟩
def d59 : He.DefD := ⟨((Str.ofString "Earlier"), some (Str.ofString "__init__")), (Str.ofString "__init__"), (Str.ofString "Earlier.__init__"), defArgs s_Earlier___init__, defBody s_Earlier___init__, defScope s_Earlier___init__, [], []⟩
def d60 : He.DefD := ⟨((Str.ofString "Now"), some (Str.ofString "__add__")), (Str.ofString "__add__"), (Str.ofString "Term.__add__"), defArgs s_Term___add__, defBody s_Term___add__, defScope s_Term___add__, [], []⟩
def d61 : He.DefD := ⟨((Str.ofString "Now"), some (Str.ofString "__sub__")), (Str.ofString "__sub__"), (Str.ofString "Term.__sub__"), defArgs s_Term___sub__, defBody s_Term___sub__, defScope s_Term___sub__, [], []⟩
def d62 : He.DefD := ⟨((Str.ofString "Now"), some (Str.ofString "__or__")), (Str.ofString "__or__"), (Str.ofString "Term.__or__"), defArgs s_Term___or__, defBody s_Term___or__, defScope s_Term___or__, [], []⟩
def d63 : He.DefD := ⟨((Str.ofString "Now"), some (Str.ofString "later")), (Str.ofString "later"), (Str.ofString "Term.later"), defArgs s_Term_later, defBody s_Term_later, defScope s_Term_later, [], []⟩
def d64 : He.DefD := ⟨((Str.ofString "Now"), some (Str.ofString "earlier")), (Str.ofString "earlier"), (Str.ofString "Term.earlier"), defArgs s_Term_earlier, defBody s_Term_earlier, defScope s_Term_earlier, [], []⟩
def d65 : He.DefD := ⟨((Str.ofString "Now"), some (Str.ofString "__eq__")), (Str.ofString "__eq__"), (Str.ofString "Term.__eq__"), defArgs s_Term___eq__, defBody s_Term___eq__, defScope s_Term___eq__, [], []⟩
def d66 : He.DefD := ⟨((Str.ofString "Now"), some (Str.ofString "answer")), (Str.ofString "answer"), (Str.ofString "Now.answer"), defArgs s_Now_answer, defBody s_Now_answer, defScope s_Now_answer, [], []⟩
def d67 : He.DefD := ⟨((Str.ofString "Shift"), some (Str.ofString "answer")), (Str.ofString "answer"), (Str.ofString "Shift.answer"), defArgs s_Shift_answer, defBody s_Shift_answer, defScope s_Shift_answer, [], []⟩
def d68 : He.DefD := ⟨((Str.ofString "Look"), some (Str.ofString "answer")), (Str.ofString "answer"), (Str.ofString "Look.answer"), defArgs s_Look_answer, defBody s_Look_answer, defScope s_Look_answer, [], []⟩
def d69 : He.DefD := ⟨((Str.ofString "Either"), some (Str.ofString "answer")), (Str.ofString "answer"), (Str.ofString "Either.answer"), defArgs s_Either_answer, defBody s_Either_answer, defScope s_Either_answer, [], []⟩
def d70 : He.DefD := ⟨((Str.ofString "Later"), some (Str.ofString "answer")), (Str.ofString "answer"), (Str.ofString "Later.answer"), defArgs s_Later_answer, defBody s_Later_answer, defScope s_Later_answer, [], []⟩
def d71 : He.DefD := ⟨((Str.ofString "Earlier"), some (Str.ofString "answer")), (Str.ofString "answer"), (Str.ofString "Earlier.answer"), defArgs s_Earlier_answer, defBody s_Earlier_answer, defScope s_Earlier_answer, [], []⟩
def d72 : He.DefD := ⟨((Str.ofString "Now"), some (Str.ofString "own_values")), (Str.ofString "own_values"), (Str.ofString "Now.own_values"), defArgs s_Now_own_values, defBody s_Now_own_values, defScope s_Now_own_values, [], []⟩
def d73 : He.DefD := ⟨((Str.ofString "Shift"), some (Str.ofString "own_values")), (Str.ofString "own_values"), (Str.ofString "Shift.own_values"), defArgs s_Shift_own_values, defBody s_Shift_own_values, defScope s_Shift_own_values, [], []⟩
def d74 : He.DefD := ⟨((Str.ofString "Look"), some (Str.ofString "own_values")), (Str.ofString "own_values"), (Str.ofString "Look.own_values"), defArgs s_Look_own_values, defBody s_Look_own_values, defScope s_Look_own_values, [], []⟩
def d75 : He.DefD := ⟨((Str.ofString "Either"), some (Str.ofString "own_values")), (Str.ofString "own_values"), (Str.ofString "Either.own_values"), defArgs s_Either_own_values, defBody s_Either_own_values, defScope s_Either_own_values, [], []⟩
def d76 : He.DefD := ⟨((Str.ofString "Later"), some (Str.ofString "own_values")), (Str.ofString "own_values"), (Str.ofString "Later.own_values"), defArgs s_Later_own_values, defBody s_Later_own_values, defScope s_Later_own_values, [], []⟩
def d77 : He.DefD := ⟨((Str.ofString "Earlier"), some (Str.ofString "own_values")), (Str.ofString "own_values"), (Str.ofString "Earlier.own_values"), defArgs s_Earlier_own_values, defBody s_Earlier_own_values, defScope s_Earlier_own_values, [], []⟩
def fn_0_0 : List He.DefD := [d0, d1, d2, d3, d4, d5, d6, d7, d8, d9, d10, d11]
def fn_0_1 : List He.DefD := [d12, d13, d14, d15, d16, d17, d18, d19, d20, d21, d22, d23]
def fn_0_2 : List He.DefD := [d24, d25]
def fn_0_ : List He.DefD := fn_0_0 ++ (fn_0_1 ++ (fn_0_2))
def fa_0_0 : List He.Fa := [.glo (Str.ofString "is_integer"), .glo (Str.ofString "is_count"), .glo (Str.ofString "is_name"), .glo (Str.ofString "check_name"), .glo (Str.ofString "check_moment"), .glo (Str.ofString "check_bound"), .glo (Str.ofString "check_limit"), .glo (Str.ofString "count_before"), .glo (Str.ofString "row_found"), .glo (Str.ofString "row_within"), .glo (Str.ofString "check_world"), .glo (Str.ofString "is_list_of_moments")]
def fa_0_1 : List He.Fa := [.glo (Str.ofString "checked_rows"), .glo (Str.ofString "limited"), .glo (Str.ofString "told"), .glo (Str.ofString "check_term"), .glo (Str.ofString "shifted"), .glo (Str.ofString "both_answers"), .glo (Str.ofString "spelled"), .glo (Str.ofString "written"), .glo (Str.ofString "written_number"), .glo (Str.ofString "parse"), .glo (Str.ofString "common_length"), .glo (Str.ofString "_law_open")]
def fa_0_2 : List He.Fa := [.glo (Str.ofString "_law_pick"), .glo (Str.ofString "_law_number"), .glo (Str.ofString "_law_limit"), .glo (Str.ofString "_law_names"), .glo (Str.ofString "_law_shift"), .glo (Str.ofString "_law_tree"), .glo (Str.ofString "_law_term"), .glo (Str.ofString "_law_found"), .glo (Str.ofString "_law_told"), .glo (Str.ofString "_law_moments"), .glo (Str.ofString "_law_rows"), .glo (Str.ofString "_law_copy")]
def fa_0_3 : List He.Fa := [.glo (Str.ofString "_law_world"), .glo (Str.ofString "_law_is_integer"), .glo (Str.ofString "_law_answer"), .glo (Str.ofString "_law_written"), .glo (Str.ofString "_law_loose_text"), .glo (Str.ofString "law"), .glo (Str.ofString "World"), .glo (Str.ofString "Term"), .glo (Str.ofString "Now"), .glo (Str.ofString "Shift"), .glo (Str.ofString "Look"), .glo (Str.ofString "Either")]
def fa_0_4 : List He.Fa := [.glo (Str.ofString "Later"), .glo (Str.ofString "Earlier"), .glo (Str.ofString "BACKWARD"), .glo (Str.ofString "JOINTS"), .glo (Str.ofString "BEGINNINGS"), .glo (Str.ofString "WAYS_BACK"), .glo (Str.ofString "WAYS_AHEAD"), .glo (Str.ofString "Reader"), .glo (Str.ofString "WAYS")]
def fa_0_ : List He.Fa := fa_0_0 ++ (fa_0_1 ++ (fa_0_2 ++ (fa_0_3 ++ (fa_0_4))))
def fx_0_0 : List Fx := [.isi (Str.ofString "Now"), .isi (Str.ofString "Shift"), .isi (Str.ofString "Look"), .isi (Str.ofString "Either"), .isi (Str.ofString "Later"), .isi (Str.ofString "Earlier"), .isi (Str.ofString "World"), .kit (Str.ofString "Now") (Str.ofString "Term") true, .kit (Str.ofString "Shift") (Str.ofString "Term") true, .kit (Str.ofString "Look") (Str.ofString "Term") true, .kit (Str.ofString "Either") (Str.ofString "Term") true, .kit (Str.ofString "Later") (Str.ofString "Term") true]
def fx_0_1 : List Fx := [.kit (Str.ofString "Earlier") (Str.ofString "Term") true, .kit (Str.ofString "Now") (Str.ofString "Shift") false, .kit (Str.ofString "Shift") (Str.ofString "Shift") true, .kit (Str.ofString "Look") (Str.ofString "Shift") false, .kit (Str.ofString "Either") (Str.ofString "Shift") false, .kit (Str.ofString "Later") (Str.ofString "Shift") false, .kit (Str.ofString "Earlier") (Str.ofString "Shift") false, .kit (Str.ofString "World") (Str.ofString "World") true, .cfn (Str.ofString "Term") (Str.ofString "__init__"), .opi (Str.ofString "Now") (Str.ofString "__add__") (Str.ofString "__radd__"), .opi (Str.ofString "Now") (Str.ofString "__sub__") (Str.ofString "__rsub__"), .opi (Str.ofString "Shift") (Str.ofString "__add__") (Str.ofString "__radd__")]
def fx_0_2 : List Fx := [.opi (Str.ofString "Shift") (Str.ofString "__sub__") (Str.ofString "__rsub__"), .opi (Str.ofString "Look") (Str.ofString "__add__") (Str.ofString "__radd__"), .opi (Str.ofString "Look") (Str.ofString "__sub__") (Str.ofString "__rsub__"), .opi (Str.ofString "Either") (Str.ofString "__add__") (Str.ofString "__radd__"), .opi (Str.ofString "Either") (Str.ofString "__sub__") (Str.ofString "__rsub__"), .opi (Str.ofString "Later") (Str.ofString "__add__") (Str.ofString "__radd__"), .opi (Str.ofString "Later") (Str.ofString "__sub__") (Str.ofString "__rsub__"), .opi (Str.ofString "Earlier") (Str.ofString "__add__") (Str.ofString "__radd__"), .opi (Str.ofString "Earlier") (Str.ofString "__sub__") (Str.ofString "__rsub__"), .mtn (Str.ofString "Shift") (Str.ofString "Now") (Str.ofString "__add__"), .mtn (Str.ofString "Shift") (Str.ofString "Now") (Str.ofString "__sub__"), .mtn (Str.ofString "Shift") (Str.ofString "Now") (Str.ofString "__or__")]
def fx_0_3 : List Fx := [.mtn (Str.ofString "Shift") (Str.ofString "Now") (Str.ofString "later"), .mtn (Str.ofString "Shift") (Str.ofString "Now") (Str.ofString "earlier"), .mtn (Str.ofString "Shift") (Str.ofString "Now") (Str.ofString "__eq__"), .mtn (Str.ofString "Look") (Str.ofString "Now") (Str.ofString "__add__"), .mtn (Str.ofString "Look") (Str.ofString "Now") (Str.ofString "__sub__"), .mtn (Str.ofString "Look") (Str.ofString "Now") (Str.ofString "__or__"), .mtn (Str.ofString "Look") (Str.ofString "Now") (Str.ofString "later"), .mtn (Str.ofString "Look") (Str.ofString "Now") (Str.ofString "earlier"), .mtn (Str.ofString "Look") (Str.ofString "Now") (Str.ofString "__eq__"), .mtn (Str.ofString "Either") (Str.ofString "Now") (Str.ofString "__add__"), .mtn (Str.ofString "Either") (Str.ofString "Now") (Str.ofString "__sub__"), .mtn (Str.ofString "Either") (Str.ofString "Now") (Str.ofString "__or__")]
def fx_0_4 : List Fx := [.mtn (Str.ofString "Either") (Str.ofString "Now") (Str.ofString "later")]
def fx_0_ : List Fx := fx_0_0 ++ (fx_0_1 ++ (fx_0_2 ++ (fx_0_3 ++ (fx_0_4))))
def fn_1_0 : List He.DefD := [d26, d27, d28, d29, d30, d31, d32, d33, d34, d35, d36, d37]
def fn_1_1 : List He.DefD := [d38, d39, d40, d41, d42, d43, d44, d45, d46, d47, d48, d49]
def fn_1_2 : List He.DefD := [d50, d51]
def fn_1_ : List He.DefD := fn_1_0 ++ (fn_1_1 ++ (fn_1_2))
def fa_1_0 : List He.Fa := [.free (Str.ofString "isinstance"), .free (Str.ofString "int"), .free (Str.ofString "bool"), .free (Str.ofString "str"), .free (Str.ofString "list"), .free (Str.ofString "tuple"), .free (Str.ofString "len"), .free (Str.ofString "range"), .free (Str.ofString "set"), .free (Str.ofString "sorted"), .free (Str.ofString "max"), .free (Str.ofString "min")]
def fa_1_1 : List He.Fa := [.free (Str.ofString "sum"), .free (Str.ofString "all"), .free (Str.ofString "dict"), .free (Str.ofString "abs"), .int (Str.ofString "MOST_LETTERS") 12, .int (Str.ofString "MOST_ROWS") 300, .int (Str.ofString "MOST_DEPTH") 12, .int (Str.ofString "MOST_PARTS") 40, .int (Str.ofString "MOST_LOOKS") 12, .int (Str.ofString "BEYOND_DIGITS") 1000000000000000000000000000000000000000000000000000000000000, .int (Str.ofString "MOST_DIGITS") 60, .str (Str.ofString "LETTERS") (Str.ofString "abcdefghijklmnopqrstuvwxyz")]
def fa_1_2 : List He.Fa := [.str (Str.ofString "LIMITED") (Str.ofString "within "), .str (Str.ofString "DIGITS") (Str.ofString "0123456789"), .cls (Str.ofString "Now"), .cls (Str.ofString "Shift"), .cls (Str.ofString "Look"), .cls (Str.ofString "Either"), .cls (Str.ofString "Later"), .cls (Str.ofString "Earlier"), .cls (Str.ofString "World"), .cls (Str.ofString "Reader"), .noat (Str.ofString "Now") (Str.ofString "children"), .noat (Str.ofString "Now") (Str.ofString "depth")]
def fa_1_3 : List He.Fa := [.noat (Str.ofString "Now") (Str.ofString "parts"), .noat (Str.ofString "Now") (Str.ofString "looks"), .noat (Str.ofString "Now") (Str.ofString "choices"), .noat (Str.ofString "Shift") (Str.ofString "children"), .noat (Str.ofString "Shift") (Str.ofString "depth"), .noat (Str.ofString "Shift") (Str.ofString "parts"), .noat (Str.ofString "Shift") (Str.ofString "looks"), .noat (Str.ofString "Shift") (Str.ofString "choices"), .noat (Str.ofString "Shift") (Str.ofString "moment"), .noat (Str.ofString "Shift") (Str.ofString "amount"), .noat (Str.ofString "Look") (Str.ofString "children"), .noat (Str.ofString "Look") (Str.ofString "depth")]
def fa_1_4 : List He.Fa := [.noat (Str.ofString "Look") (Str.ofString "parts"), .noat (Str.ofString "Look") (Str.ofString "looks"), .noat (Str.ofString "Look") (Str.ofString "choices"), .noat (Str.ofString "Look") (Str.ofString "stream"), .noat (Str.ofString "Look") (Str.ofString "moment"), .noat (Str.ofString "Look") (Str.ofString "way"), .noat (Str.ofString "Look") (Str.ofString "within"), .noat (Str.ofString "Either") (Str.ofString "children"), .noat (Str.ofString "Either") (Str.ofString "depth"), .noat (Str.ofString "Either") (Str.ofString "parts")]
def fa_1_ : List He.Fa := fa_1_0 ++ (fa_1_1 ++ (fa_1_2 ++ (fa_1_3 ++ (fa_1_4))))
def fx_1_0 : List Fx := [.mtn (Str.ofString "Either") (Str.ofString "Now") (Str.ofString "earlier"), .mtn (Str.ofString "Either") (Str.ofString "Now") (Str.ofString "__eq__"), .mtn (Str.ofString "Later") (Str.ofString "Now") (Str.ofString "__add__"), .mtn (Str.ofString "Later") (Str.ofString "Now") (Str.ofString "__sub__"), .mtn (Str.ofString "Later") (Str.ofString "Now") (Str.ofString "__or__"), .mtn (Str.ofString "Later") (Str.ofString "Now") (Str.ofString "later"), .mtn (Str.ofString "Later") (Str.ofString "Now") (Str.ofString "earlier"), .mtn (Str.ofString "Later") (Str.ofString "Now") (Str.ofString "__eq__"), .mtn (Str.ofString "Earlier") (Str.ofString "Now") (Str.ofString "__add__"), .mtn (Str.ofString "Earlier") (Str.ofString "Now") (Str.ofString "__sub__"), .mtn (Str.ofString "Earlier") (Str.ofString "Now") (Str.ofString "__or__"), .mtn (Str.ofString "Earlier") (Str.ofString "Now") (Str.ofString "later")]
def fx_1_1 : List Fx := [.mtn (Str.ofString "Earlier") (Str.ofString "Now") (Str.ofString "earlier"), .mtn (Str.ofString "Earlier") (Str.ofString "Now") (Str.ofString "__eq__"), .fni (Str.ofString "World") (Str.ofString "__getitem__"), .ask (fun K => decide ([He.ga K "Now", He.ga K "Shift", He.ga K "Look", He.ga K "Either", He.ga K "Later", He.ga K "Earlier", He.ga K "Reader"].Nodup)), .ask (fun K => PySem.W.notFirst K (He.ga K "Now") (.ref (He.ga K "Now")) && PySem.W.notFirst K (He.ga K "Now") (.ref (He.ga K "Shift")) && PySem.W.notFirst K (He.ga K "Now") (.ref (He.ga K "Look")) && PySem.W.notFirst K (He.ga K "Now") (.ref (He.ga K "Either")) && PySem.W.notFirst K (He.ga K "Now") (.ref (He.ga K "Later")) && PySem.W.notFirst K (He.ga K "Now") (.ref (He.ga K "Earlier"))), .ask (fun K => PySem.W.notFirst K (He.ga K "Shift") (.ref (He.ga K "Now")) && PySem.W.notFirst K (He.ga K "Shift") (.ref (He.ga K "Shift")) && PySem.W.notFirst K (He.ga K "Shift") (.ref (He.ga K "Look")) && PySem.W.notFirst K (He.ga K "Shift") (.ref (He.ga K "Either")) && PySem.W.notFirst K (He.ga K "Shift") (.ref (He.ga K "Later")) && PySem.W.notFirst K (He.ga K "Shift") (.ref (He.ga K "Earlier"))), .ask (fun K => PySem.W.notFirst K (He.ga K "Look") (.ref (He.ga K "Now")) && PySem.W.notFirst K (He.ga K "Look") (.ref (He.ga K "Shift")) && PySem.W.notFirst K (He.ga K "Look") (.ref (He.ga K "Look")) && PySem.W.notFirst K (He.ga K "Look") (.ref (He.ga K "Either")) && PySem.W.notFirst K (He.ga K "Look") (.ref (He.ga K "Later")) && PySem.W.notFirst K (He.ga K "Look") (.ref (He.ga K "Earlier"))), .ask (fun K => PySem.W.notFirst K (He.ga K "Either") (.ref (He.ga K "Now")) && PySem.W.notFirst K (He.ga K "Either") (.ref (He.ga K "Shift")) && PySem.W.notFirst K (He.ga K "Either") (.ref (He.ga K "Look")) && PySem.W.notFirst K (He.ga K "Either") (.ref (He.ga K "Either")) && PySem.W.notFirst K (He.ga K "Either") (.ref (He.ga K "Later")) && PySem.W.notFirst K (He.ga K "Either") (.ref (He.ga K "Earlier"))), .ask (fun K => PySem.W.notFirst K (He.ga K "Later") (.ref (He.ga K "Now")) && PySem.W.notFirst K (He.ga K "Later") (.ref (He.ga K "Shift")) && PySem.W.notFirst K (He.ga K "Later") (.ref (He.ga K "Look")) && PySem.W.notFirst K (He.ga K "Later") (.ref (He.ga K "Either")) && PySem.W.notFirst K (He.ga K "Later") (.ref (He.ga K "Later")) && PySem.W.notFirst K (He.ga K "Later") (.ref (He.ga K "Earlier"))), .ask (fun K => PySem.W.notFirst K (He.ga K "Earlier") (.ref (He.ga K "Now")) && PySem.W.notFirst K (He.ga K "Earlier") (.ref (He.ga K "Shift")) && PySem.W.notFirst K (He.ga K "Earlier") (.ref (He.ga K "Look")) && PySem.W.notFirst K (He.ga K "Earlier") (.ref (He.ga K "Either")) && PySem.W.notFirst K (He.ga K "Earlier") (.ref (He.ga K "Later")) && PySem.W.notFirst K (He.ga K "Earlier") (.ref (He.ga K "Earlier"))), .neo (Str.ofString "Now"), .neo (Str.ofString "Shift")]
def fx_1_2 : List Fx := [.neo (Str.ofString "Look"), .neo (Str.ofString "Either"), .neo (Str.ofString "Later"), .neo (Str.ofString "Earlier"), .kit (Str.ofString "Now") (Str.ofString "Now") true, .kit (Str.ofString "Now") (Str.ofString "Look") false, .kit (Str.ofString "Now") (Str.ofString "Either") false, .kit (Str.ofString "Now") (Str.ofString "Later") false, .kit (Str.ofString "Now") (Str.ofString "Earlier") false, .kit (Str.ofString "Shift") (Str.ofString "Now") false, .kit (Str.ofString "Shift") (Str.ofString "Look") false, .kit (Str.ofString "Shift") (Str.ofString "Either") false]
def fx_1_3 : List Fx := [.kit (Str.ofString "Shift") (Str.ofString "Later") false, .kit (Str.ofString "Shift") (Str.ofString "Earlier") false, .kit (Str.ofString "Look") (Str.ofString "Now") false, .kit (Str.ofString "Look") (Str.ofString "Look") true, .kit (Str.ofString "Look") (Str.ofString "Either") false, .kit (Str.ofString "Look") (Str.ofString "Later") false, .kit (Str.ofString "Look") (Str.ofString "Earlier") false, .kit (Str.ofString "Either") (Str.ofString "Now") false, .kit (Str.ofString "Either") (Str.ofString "Look") false, .kit (Str.ofString "Either") (Str.ofString "Either") true, .kit (Str.ofString "Either") (Str.ofString "Later") false, .kit (Str.ofString "Either") (Str.ofString "Earlier") false]
def fx_1_4 : List Fx := [.kit (Str.ofString "Later") (Str.ofString "Now") false, .kit (Str.ofString "Later") (Str.ofString "Look") false]
def fx_1_ : List Fx := fx_1_0 ++ (fx_1_1 ++ (fx_1_2 ++ (fx_1_3 ++ (fx_1_4))))
def fn_2_0 : List He.DefD := [d52, d53, d54, d55, d56, d57, d58, d59, d60, d61, d62, d63]
def fn_2_1 : List He.DefD := [d64, d65, d66, d67, d68, d69, d70, d71, d72, d73, d74, d75]
def fn_2_2 : List He.DefD := [d76, d77]
def fn_2_ : List He.DefD := fn_2_0 ++ (fn_2_1 ++ (fn_2_2))
def fa_2_0 : List He.Fa := [.noat (Str.ofString "Either") (Str.ofString "looks"), .noat (Str.ofString "Either") (Str.ofString "choices"), .noat (Str.ofString "Either") (Str.ofString "first"), .noat (Str.ofString "Either") (Str.ofString "second"), .noat (Str.ofString "Later") (Str.ofString "children"), .noat (Str.ofString "Later") (Str.ofString "depth"), .noat (Str.ofString "Later") (Str.ofString "parts"), .noat (Str.ofString "Later") (Str.ofString "looks"), .noat (Str.ofString "Later") (Str.ofString "choices"), .noat (Str.ofString "Later") (Str.ofString "first"), .noat (Str.ofString "Later") (Str.ofString "second"), .noat (Str.ofString "Earlier") (Str.ofString "children")]
def fa_2_1 : List He.Fa := [.noat (Str.ofString "Earlier") (Str.ofString "depth"), .noat (Str.ofString "Earlier") (Str.ofString "parts"), .noat (Str.ofString "Earlier") (Str.ofString "looks"), .noat (Str.ofString "Earlier") (Str.ofString "choices"), .noat (Str.ofString "Earlier") (Str.ofString "first"), .noat (Str.ofString "Earlier") (Str.ofString "second"), .noat (Str.ofString "World") (Str.ofString "held"), .noat (Str.ofString "Reader") (Str.ofString "text"), .noat (Str.ofString "Reader") (Str.ofString "place"), .noat (Str.ofString "Reader") (Str.ofString "parts"), .noat (Str.ofString "Reader") (Str.ofString "looks"), .meth (Str.ofString "Now") (Str.ofString "__add__")]
def fa_2_2 : List He.Fa := [.meth (Str.ofString "Now") (Str.ofString "__sub__"), .meth (Str.ofString "Now") (Str.ofString "__or__"), .meth (Str.ofString "Now") (Str.ofString "later"), .meth (Str.ofString "Now") (Str.ofString "earlier"), .meth (Str.ofString "Now") (Str.ofString "__eq__"), .meth (Str.ofString "Now") (Str.ofString "answer"), .meth (Str.ofString "Shift") (Str.ofString "answer"), .meth (Str.ofString "Look") (Str.ofString "answer"), .meth (Str.ofString "Either") (Str.ofString "answer"), .meth (Str.ofString "Later") (Str.ofString "answer"), .meth (Str.ofString "Earlier") (Str.ofString "answer"), .meth (Str.ofString "World") (Str.ofString "__getitem__")]
def fa_2_3 : List He.Fa := [.meth (Str.ofString "Reader") (Str.ofString "read_term"), .meth (Str.ofString "Reader") (Str.ofString "read_joined"), .meth (Str.ofString "Reader") (Str.ofString "read_ordered"), .meth (Str.ofString "Reader") (Str.ofString "read_look"), .meth (Str.ofString "Reader") (Str.ofString "read_number"), .meth (Str.ofString "Reader") (Str.ofString "read_row_of"), .meth (Str.ofString "Reader") (Str.ofString "read_word"), .meth (Str.ofString "Reader") (Str.ofString "read_end"), .meth (Str.ofString "Now") (Str.ofString "own_values"), .meth (Str.ofString "Shift") (Str.ofString "own_values"), .meth (Str.ofString "Look") (Str.ofString "own_values"), .meth (Str.ofString "Either") (Str.ofString "own_values")]
def fa_2_4 : List He.Fa := [.meth (Str.ofString "Later") (Str.ofString "own_values"), .meth (Str.ofString "Earlier") (Str.ofString "own_values"), .mkr (Str.ofString "World"), .mkr (Str.ofString "Reader"), .mkr (Str.ofString "Now"), .mkr (Str.ofString "Shift"), .mkr (Str.ofString "Look"), .mkr (Str.ofString "Either"), .mkr (Str.ofString "Later"), .mkr (Str.ofString "Earlier")]
def fa_2_ : List He.Fa := fa_2_0 ++ (fa_2_1 ++ (fa_2_2 ++ (fa_2_3 ++ (fa_2_4))))
def fx_2_0 : List Fx := [.kit (Str.ofString "Later") (Str.ofString "Either") false, .kit (Str.ofString "Later") (Str.ofString "Later") true, .kit (Str.ofString "Later") (Str.ofString "Earlier") false, .kit (Str.ofString "Earlier") (Str.ofString "Now") false, .kit (Str.ofString "Earlier") (Str.ofString "Look") false, .kit (Str.ofString "Earlier") (Str.ofString "Either") false, .kit (Str.ofString "Earlier") (Str.ofString "Later") false, .kit (Str.ofString "Earlier") (Str.ofString "Earlier") true, .opo (Str.ofString "Now") (Str.ofString "__or__") (Str.ofString "__ror__"), .opo (Str.ofString "Shift") (Str.ofString "__or__") (Str.ofString "__ror__"), .opo (Str.ofString "Look") (Str.ofString "__or__") (Str.ofString "__ror__"), .opo (Str.ofString "Either") (Str.ofString "__or__") (Str.ofString "__ror__")]
def fx_2_1 : List Fx := [.opo (Str.ofString "Later") (Str.ofString "__or__") (Str.ofString "__ror__"), .opo (Str.ofString "Earlier") (Str.ofString "__or__") (Str.ofString "__ror__"), .sub (Str.ofString "Shift") (Str.ofString "Now"), .sub (Str.ofString "Look") (Str.ofString "Now"), .sub (Str.ofString "Either") (Str.ofString "Now"), .sub (Str.ofString "Later") (Str.ofString "Now"), .sub (Str.ofString "Earlier") (Str.ofString "Now"), .sub (Str.ofString "Now") (Str.ofString "Shift"), .sub (Str.ofString "Look") (Str.ofString "Shift"), .sub (Str.ofString "Either") (Str.ofString "Shift"), .sub (Str.ofString "Later") (Str.ofString "Shift"), .sub (Str.ofString "Earlier") (Str.ofString "Shift")]
def fx_2_2 : List Fx := [.sub (Str.ofString "Now") (Str.ofString "Look"), .sub (Str.ofString "Shift") (Str.ofString "Look"), .sub (Str.ofString "Either") (Str.ofString "Look"), .sub (Str.ofString "Later") (Str.ofString "Look"), .sub (Str.ofString "Earlier") (Str.ofString "Look"), .sub (Str.ofString "Now") (Str.ofString "Either"), .sub (Str.ofString "Shift") (Str.ofString "Either"), .sub (Str.ofString "Look") (Str.ofString "Either"), .sub (Str.ofString "Later") (Str.ofString "Either"), .sub (Str.ofString "Earlier") (Str.ofString "Either"), .sub (Str.ofString "Now") (Str.ofString "Later"), .sub (Str.ofString "Shift") (Str.ofString "Later")]
def fx_2_3 : List Fx := [.sub (Str.ofString "Look") (Str.ofString "Later"), .sub (Str.ofString "Either") (Str.ofString "Later"), .sub (Str.ofString "Earlier") (Str.ofString "Later"), .sub (Str.ofString "Now") (Str.ofString "Earlier"), .sub (Str.ofString "Shift") (Str.ofString "Earlier"), .sub (Str.ofString "Look") (Str.ofString "Earlier"), .sub (Str.ofString "Either") (Str.ofString "Earlier"), .sub (Str.ofString "Later") (Str.ofString "Earlier"), .tup (Str.ofString "WAYS") [(Str.ofString "at"), (Str.ofString "before"), (Str.ofString "since"), (Str.ofString "after")], .tup (Str.ofString "BACKWARD") [(Str.ofString "at"), (Str.ofString "before")], .tup (Str.ofString "JOINTS") [(Str.ofString " + "), (Str.ofString " - "), (Str.ofString " or ")], .tup (Str.ofString "BEGINNINGS") [(Str.ofString "now"), (Str.ofString "("), (Str.ofString "last "), (Str.ofString "next "), (Str.ofString "later("), (Str.ofString "earlier(")]]
def fx_2_4 : List Fx := [.tup (Str.ofString "WAYS_BACK") [(Str.ofString "at "), (Str.ofString "before ")], .tup (Str.ofString "WAYS_AHEAD") [(Str.ofString "since "), (Str.ofString "after ")]]
def fx_2_ : List Fx := fx_2_0 ++ (fx_2_1 ++ (fx_2_2 ++ (fx_2_3 ++ (fx_2_4))))
def fn : List He.DefD := ((fn_0_ ++ fn_1_) ++ fn_2_)
def fa : List He.Fa := ((fa_0_ ++ fa_1_) ++ fa_2_)
def fx : List Fx := ((fx_0_ ++ fx_1_) ++ fx_2_)
abbrev R : PySem.W.OpenRow := PySem.W.OpenLaw.row PySem.Challenge.rw_pastlooks_k26_whole_texts_read_back
abbrev hk : PySem.W.Hook := hookP 1400 fa fn fx
def ob (s : PySem.W.SharedT) : AlP := obsP 1400 fa fn fx (HandSHeadRun.getT s)
theorem ob_eq (s : PySem.W.SharedT) : ob s = hk.obs s.abs := obsP_eq (HandSHeadRun.getT_eq s)
def ksK : Kd → Bool
  | .now => true
  | .shift => true
  | .look => true
  | .either => true
  | .later => true
  | .earlier => true
def caK (K : Fg) : CA := ⟨He.ga K (Str.ofString "Term"), fun k => match k with | .now => He.ga K (Str.ofString "Now") | .shift => He.ga K (Str.ofString "Shift") | .look => He.ga K (Str.ofString "Look") | .either => He.ga K (Str.ofString "Either") | .later => He.ga K (Str.ofString "Later") | .earlier => He.ga K (Str.ofString "Earlier")⟩
theorem runL (w : World) : RunL R 12000 w := by
  intro os
  kernel_rfl
theorem runS (w : World) : RunS R (PySem.W.view R.prog [86]) 12000 names w := by
  intro os
  kernel_rfl
theorem run0 (w : World) : RunO R 12000 1400 fa_0_ fn_0_ fx_0_  w := by
  intro os
  kernel_rfl
theorem run1 (w : World) : RunO R 12000 1400 fa_1_ fn_1_ fx_1_  w := by
  intro os
  kernel_rfl
theorem run2 (w : World) : RunO R 12000 1400 fa_2_ fn_2_ fx_2_  w := by
  intro os
  kernel_rfl
theorem run (w : World) : HandSHeadRun.RunEq R (PySem.W.view R.prog [86]) hk ob 12000 names w := run_join (runL w) (runS w) (runO_app (runO_app (run0 w) (run1 w)) (run2 w))
end Pl

namespace Pl
open PySem L2 PySem.Spec PyProof.Rows
section
variable {P : Program} {w : World} {K : Fg} {mg : Str → Option Value} {base : Heap}
/-! ### is_integer, check_moment -/
def spIsInt (K : Fg) : Sp := fun vs H Q _ => ∃ x t b1 b2, vs = [x] ∧ TyX K H x t ∧ PySem.W.kitOne K t (.type "int") = some b1 ∧ (b1 = true → PySem.W.kitOne K t (.type "bool") = some b2) ∧ Q (.bl (b1 && !b2)) H
theorem ok_is_integer (D : Df K mg "is_integer" "is_integer" s_is_integer p_is_integer) (T : Tx K mg) : Cal P w K mg base CX0 "is_integer" 1 (spIsInt K) := by
  refine D.cal fun f fd F => F.ok sc_is_integer (fun vs H Q E h => ?_) (fun cdv A outer s H vs Q E hr h => ?_)
  · obtain ⟨x, t, b1, b2, rfl, _⟩ := h; rfl
  · obtain ⟨x, t, b1, b2, rfl, ty, k1, k2, k⟩ := h
    refine ⟨_, (pss_one (ps_ret (pe_and (pc_isi T (pa_cons (pv 0) (pa_cons (pt_int T) pa_nil))) (pe_one (pe_not (pc_isi T (pa_cons (pv 0) (pa_cons (pt_bool T) pa_nil)))))))), ?_⟩
    refine ⟨_, rfl, _, _, _, _, b1, rfl, .ty "int", ty, k1, b1, rfl, ?_⟩
    cases b1 with
    | false => exact iteF k
    | true => exact iteT ⟨_, rfl, _, _, _, _, b2, rfl, .ty "bool", ty, k2 rfl, b2, rfl, k⟩
def spChkM : Sp := fun vs H Q _ => ∃ i, vs = [.int i] ∧ Q .non H
theorem ok_check_moment (D : Df K mg "check_moment" "check_moment" s_check_moment p_check_moment) (c_is_integer : Cal P w K mg base CX0 "is_integer" 1 (spIsInt K)) (T : Tx K mg) : Cal P w K mg base CX0 "check_moment" 2 spChkM := by
  refine D.cal fun f fd F => F.ok sc_check_moment (fun vs H Q E h => ?_) (fun cdv A outer s H vs Q E hr h => ?_)
  · obtain ⟨x, rfl, _⟩ := h; rfl
  · obtain ⟨x, rfl, k⟩ := h
    refine ⟨_, (pss_one (ps_if (pt_not (pt_val (pc c_is_integer hr (by decide) (pa_cons (pv 0) pa_nil))))
        (pss_one ps_never)
        pss_nil)), ?_⟩
    exact ⟨_, rfl, _, _, true, false, rfl, .base (.int x), kit_ty (by decide +kernel), fun _ => kit_ty (by decide +kernel), _, rfl, iteF k⟩
/-! ### the law's numbers -/
def spOpen (K : Fg) : Sp := fun vs H Q _ => ∃ (a : Addr) (ns : List Int), vs = [.ref a] ∧ SqL K H a (ns.map V.int) ∧ ns.length ≤ 63 ∧ ∀ b c H', Same H H' → H b = none → H c = none → Box H' b c → Q (.ref b) H'
theorem ok__law_open (D : Df K mg "_law_open" "_law_open" s__law_open p__law_open) (T : Tx K mg) : Cal P w K mg base CX0 "_law_open" 1 (spOpen K) := by
  refine D.cal fun f fd F => F.ok sc__law_open (fun vs H Q E h => ?_) (fun cdv A outer s H vs Q E hr h => ?_)
  · obtain ⟨a, ns, rfl, _⟩ := h; rfl
  · obtain ⟨a, ns, rfl, hs, hn, k⟩ := h
    refine ⟨_, (pss_cons (ps_set (i := 1) sc__law_open.nd rfl (Or.inl rfl) (pc_listc T (pa_cons (pe_slice sl_list (pv 0) po_none (po_some pe_int)) pa_nil)))
      (pss_cons (ps_if (pt_cmpR op_eq (pc_len T (pa_cons (pv 1) pa_nil)) pe_int (nomark _))
        (pss_one (ps_expr (pe_bm PySem.F.plainAttrs_list PySem.F.slot_list_append PySem.F.type_list_append mt_append (pv 1) (pa_cons pe_int pa_nil))))
        pss_nil)
      (pss_one (ps_ret (pe_lst (pa_cons (pv 1) (pa_cons pe_int pa_nil))))))), ?_⟩
    have e : cutV (ns.map V.int) none (some 63) = ns.map V.int := by
      have q : HT.sIx (ns.map V.int).length (ns.map V.int).length (some 63) = (ns.map V.int).length := by
        rw [show (63 : Int) = ((63 : Nat) : Int) from rfl, HT.sIx_nat, List.length_map]; omega
      unfold cutV
      rw [q, HT.sIx_none, Nat.sub_zero, List.drop_zero, List.take_length]
    refine ⟨_, rfl, 63, rfl, a, _, rfl, hs, fun p hp => ⟨p, _, rfl, .inl (SqL.of upd_same), fun l hl => ?_⟩⟩
    rw [e] at *
    have npl : p ≠ l := by intro z; subst z; rw [upd_same] at hl; cases hl
    have hl0 : H l = none := by rw [← hl, upd_ne npl.symm]
    have s0 : Same H (upd (upd H p (.lst (ns.map V.int))) l (.lst (ns.map V.int))) := fun d o h => by
      rw [upd_ne (ne_of_none h hl0), upd_ne (ne_of_none h hp)]; exact h
    refine ⟨_, rfl, _, _, rfl, .inl ⟨_, SqL.of upd_same, rfl⟩, rfl, _, rfl, ?_⟩
    refine ite2 (fun z => ?_) (fun z => ?_)
    · have z1 : ns = [] := by
        cases ns with
        | nil => rfl
        | cons a r => simp at z; omega
      subst z1
      refine ⟨_, rfl, .inl ⟨rfl, _, SqL.of upd_same⟩, l, _, _, rfl, rfl, upd_same, (by show 0 < sizeLine; decide), ?_⟩
      refine ⟨_, rfl, (by show 2 ≤ sizeLine; decide), fun b hb => ?_⟩
      have n1 : l ≠ b := by intro z; subst z; rw [upd_same] at hb; cases hb
      have hb0 : H b = none := by
        have q := hb
        rw [upd_ne n1.symm] at q
        exact s0.free q
      refine k b l _ ((s0.chg hl0).chg hb0) hb0 hl0 ⟨[0], 0, upd_same, by rw [upd_ne n1, upd_same]; rfl, by decide, by decide⟩
    · have z1 : 0 < ns.length := by
        cases ns with
        | nil => exact absurd (by rfl) z
        | cons a r => simp
      refine ⟨_, rfl, (by show 2 ≤ sizeLine; decide), fun b hb => ?_⟩
      have n1 : l ≠ b := by intro z; subst z; rw [upd_same] at hb; cases hb
      have hb0 : H b = none := s0.free hb
      refine k b l _ (s0.chg hb0) hb0 hl0 ⟨ns, 0, upd_same, by rw [upd_ne n1, upd_same], z1, hn⟩
theorem pM1 : (0 : Int) < 2147483647 := by decide
theorem pM2 : (0 : Int) < 2147483399 := by decide
/-- one more number: 0 ≤ r < m -/
def spPick : Sp := fun vs H Q _ => ∃ b c m, vs = [.ref b, .int m] ∧ Box H b c ∧ 0 < m ∧ m < 1073741824 ∧ ∀ (r : Int) H', 0 ≤ r → r < m → Box H' b c → Kp b c H H' → Q (.int r) H'
theorem ok__law_pick (D : Df K mg "_law_pick" "_law_pick" s__law_pick p__law_pick) (T : Tx K mg) : Cal P w K mg base CX0 "_law_pick" 1 spPick := by
  refine D.cal fun f fd F => F.ok sc__law_pick (fun vs H Q E h => ?_) (fun cdv A outer s H vs Q E hr h => ?_)
  · obtain ⟨b, c, m, rfl, _⟩ := h; rfl
  · obtain ⟨b, c, m, rfl, ⟨cells, k, hb, hc, c1, c2⟩, m0, m1, q⟩ := h
    have nd := sc__law_pick.nd
    have nbc : b ≠ c := Box.set hb hc
    refine ⟨_, (pss_cons (ps_set (i := 2) sc__law_pick.nd rfl (Or.inl rfl) (pe_ix ix_list (pv 0) pe_int (fun _ _ => rfl)))
      (pss_cons (ps_set (i := 3) sc__law_pick.nd rfl (Or.inl rfl) (pe_ix ix_list (pv 0) pe_int (fun _ _ => rfl)))
      (pss_cons (ps_asg (pe_op op_add (pv 3) pe_int) (pg_sub (pv 0) pe_int set_list))
      (pss_cons (ps_set (i := 4) sc__law_pick.nd rfl (Or.inl rfl) (pe_op op_mod (pv 3) (pc_len T (pa_cons (pv 2) pa_nil))))
      (pss_cons (ps_set (i := 5) sc__law_pick.nd rfl (Or.inl rfl) (pe_ix ix_list (pv 2) (pv 4) (fun _ _ => rfl)))
      (pss_cons (ps_if (pt_cmpR op_ge (pv 5) (pe_op op_pow pe_int pe_int) (nomark _))
        (pss_cons (ps_asg (pe_op op_fdiv (pv 5) (pv 1)) (pg_sub (pv 2) (pv 4) set_list))
        (pss_one (ps_ret (pe_op op_mod (pc_intc T (pa_cons (pv 5) pa_nil)) (pv 1)))))
        pss_nil)
      (pss_cons (ps_set (i := 6) sc__law_pick.nd rfl (Or.inl rfl) (pe_op op_mod (pc_intc T (pa_cons (pe_op op_mul (pe_op op_add (pe_op op_add (pe_op op_mod (pc_intc T (pa_cons (pv 5) pa_nil)) pe_int) (pe_op op_mul pe_int (pv 3))) pe_int) pe_int) pa_nil)) pe_int))
      (pss_cons (ps_set (i := 6) sc__law_pick.nd rfl (Or.inl rfl) (pe_op op_mod (pc_intc T (pa_cons (pe_op op_mul (pv 6) (pe_op op_add (pe_op op_fdiv (pv 6) pe_int) pe_int)) pa_nil)) pe_int))
      (pss_cons (ps_set (i := 6) sc__law_pick.nd rfl (Or.inl rfl) (pe_op op_mod (pc_intc T (pa_cons (pe_op op_mul (pv 6) (pe_op op_add (pe_op op_fdiv (pv 6) pe_int) pe_int)) pa_nil)) pe_int))
      (pss_one (ps_ret (pe_op op_mod (pc_intc T (pa_cons (pe_op op_fdiv (pv 6) pe_int) pa_nil)) (pv 1))))))))))))), ?_⟩
    refine ⟨_, rfl, b, _, 0, _, rfl, rfl, SqL.of hb, rfl, ?_⟩
    refine ⟨_, rfl, b, _, 1, _, rfl, rfl, SqL.of hb, rfl, ?_⟩
    refine ⟨_, rfl, _, _, rfl, rfl, _, rfl, b, _, 1, 1, rfl, rfl, hb, rfl, ?_⟩
    have n0 : (0 : Int) < (cells.map V.int).length := by rw [List.length_map]; omega
    have hc' : (upd H b (.lst [.ref c, .int (k + 1)])) c = some (.lst (cells.map V.int)) := by rw [upd_ne nbc.symm]; exact hc
    refine ⟨_, rfl, _, rfl, _, _, rfl, .inl ⟨_, SqL.of hc', rfl⟩, _, _, rfl, rfl, n0, ?_⟩
    rw [List.length_map] at n0 ⊢
    have a0 : 0 ≤ k % (cells.length : Int) := Int.emod_nonneg _ (by omega)
    have a1 : k % (cells.length : Int) < (cells.length : Int) := Int.emod_lt_of_pos _ n0
    obtain ⟨y, hy, hy'⟩ := atI_int (l := cells) a0 a1
    refine ⟨_, rfl, _, rfl, c, _, _, _, rfl, rfl, SqL.of hc', hy, ?_⟩
    refine ⟨_, rfl, _, _, rfl, rfl, (by show (0 : Int) ≤ 18 ∧ (18 : Int) ≤ 1000000 ∧ Int.natAbs 10 < 2 ^ 64; decide), _, _, rfl, rfl, _, rfl, ?_⟩
    have K1 : Kp b c H (upd H b (.lst [.ref c, .int (k + 1)])) := fun d o h1 h2 h => by rw [upd_ne h1]; exact h
    refine ite2 (fun z => ?_) (fun z => ?_)
    · refine ⟨_, rfl, _, rfl, _, _, rfl, rfl, ⟨m0, m1⟩, _, rfl, _, rfl, c, _, _, _, rfl, rfl, hc', ixN_int a0 (by rw [List.length_map]; exact a1), ?_⟩
      refine ⟨_, rfl, .inl ⟨_, rfl, _, rfl, _, _, rfl, rfl, m0, ?_⟩⟩
      refine q _ _ (Int.emod_nonneg _ (by omega)) (Int.emod_lt_of_pos _ m0) ⟨_, k + 1, by rw [upd_ne nbc, upd_same]; rfl, by rw [upd_same, map_set_int], by rw [List.length_set]; exact c1, by rw [List.length_set]; exact c2⟩ fun d o h1 h2 h => ?_
      rw [upd_ne h2, upd_ne h1]; exact h
    · refine ⟨_, rfl, .inl ⟨_, rfl, _, _, rfl, rfl, pM1, _, rfl, _, _, rfl, rfl, .inl ⟨by decide, by decide⟩, _, _, rfl, rfl, _, _, rfl, rfl, _, _, rfl, rfl, .inr ⟨by decide, by decide⟩, .inl ⟨_, rfl, _, _, rfl, rfl, pM1, ?_⟩⟩⟩
      dsimp only
      generalize hn1 : (y % 2147483647 + 7919 * k + 1) * 48271 % 2147483647 = n1
      have b1 : 0 ≤ n1 := by omega
      have b2 : n1 < 2147483647 := by omega
      refine ⟨_, rfl, _, rfl, _, _, rfl, rfl, ⟨by decide, by decide⟩, _, _, rfl, rfl, _, _, rfl, rfl, .inl ⟨by omega, by omega⟩, .inl ⟨_, rfl, _, _, rfl, rfl, pM1, ?_⟩⟩
      dsimp only
      generalize hn2 : n1 * (n1 / 1009 + 69621) % 2147483647 = n2
      have d1 : 0 ≤ n2 := by rw [← hn2]; exact Int.emod_nonneg _ (by decide)
      have d2 : n2 < 2147483647 := by rw [← hn2]; exact Int.emod_lt_of_pos _ (by decide)
      refine ⟨_, rfl, _, rfl, _, _, rfl, rfl, ⟨by decide, by decide⟩, _, _, rfl, rfl, _, _, rfl, rfl, .inl ⟨by omega, by omega⟩, .inl ⟨_, rfl, _, _, rfl, rfl, pM2, ?_⟩⟩
      dsimp only
      generalize hn3 : n2 * (n2 / 2003 + 40692) % 2147483399 = n3
      refine ⟨_, rfl, _, _, rfl, rfl, ⟨by decide, by decide⟩, .inl ⟨_, rfl, _, rfl, _, _, rfl, rfl, m0, ?_⟩⟩
      exact q _ _ (Int.emod_nonneg _ (by omega)) (Int.emod_lt_of_pos _ m0) ⟨cells, k + 1, upd_same, hc', c1, c2⟩ K1
/-- a number of any size -/
def spNum : Sp := fun vs H Q _ => ∃ b c, vs = [.ref b] ∧ Box H b c ∧ ∀ (r : Int) H', Box H' b c → Kp b c H H' → Q (.int r) H'
theorem ok__law_number (D : Df K mg "_law_number" "_law_number" s__law_number p__law_number) (c__law_pick : Cal P w K mg base CX0 "_law_pick" 1 spPick) : Cal P w K mg base CX0 "_law_number" 2 spNum := by
  refine D.cal fun f fd F => F.ok sc__law_number (fun vs H Q E h => ?_) (fun cdv A outer s H vs Q E hr h => ?_)
  · obtain ⟨b, c, rfl, _⟩ := h; rfl
  · obtain ⟨b, c, rfl, B, q⟩ := h
    refine ⟨_, (pss_cons (ps_set (i := 1) sc__law_number.nd rfl (Or.inl rfl) (pc c__law_pick hr (by decide) (pa_cons (pv 0) (pa_cons pe_int pa_nil))))
      (pss_cons (ps_if (pt_cmpR op_lt (pv 1) pe_int (nomark _))
        (pss_one (ps_ret (pe_op op_sub (pc c__law_pick hr (by decide) (pa_cons (pv 0) (pa_cons pe_int pa_nil))) pe_int)))
        pss_nil)
      (pss_cons (ps_if (pt_cmpR op_eq (pv 1) pe_int (nomark _))
        (pss_one (ps_ret (pe_op op_sub (pc c__law_pick hr (by decide) (pa_cons (pv 0) (pa_cons pe_int pa_nil))) pe_int)))
        pss_nil)
      (pss_cons (ps_if (pt_cmpR op_eq (pv 1) pe_int (nomark _))
        (pss_one (ps_ret (pe_op op_sub (pc c__law_pick hr (by decide) (pa_cons (pv 0) (pa_cons pe_int pa_nil))) pe_int)))
        pss_nil)
      (pss_one (ps_ret (pe_op op_add (pe_op op_mul (pe_op op_sub (pc c__law_pick hr (by decide) (pa_cons (pv 0) (pa_cons pe_int pa_nil))) pe_int) (pe_op op_pow pe_int pe_int)) (pc c__law_pick hr (by decide) (pa_cons (pv 0) (pa_cons pe_int pa_nil)))))))))), ?_⟩
    refine ⟨_, rfl, b, c, 8, rfl, B, by decide, by decide, fun r H1 _ _ B1 k1 => ?_⟩
    refine ⟨_, rfl, _, _, rfl, rfl, _, rfl, ite2 (fun z => ?_) (fun z => ?_)⟩
    · exact ⟨_, rfl, b, c, 9, rfl, B1, by decide, by decide, fun r2 H2 _ _ B2 k2 => ⟨_, _, rfl, rfl, q _ _ B2 (k1.trans k2)⟩⟩
    refine ⟨_, rfl, rfl, _, rfl, ite2 (fun z => ?_) (fun z => ?_)⟩
    · exact ⟨_, rfl, b, c, 41, rfl, B1, by decide, by decide, fun r2 H2 _ _ B2 k2 => ⟨_, _, rfl, rfl, q _ _ B2 (k1.trans k2)⟩⟩
    refine ⟨_, rfl, rfl, _, rfl, ite2 (fun z => ?_) (fun z => ?_)⟩
    · exact ⟨_, rfl, b, c, 2000001, rfl, B1, by decide, by decide, fun r2 H2 _ _ B2 k2 => ⟨_, _, rfl, rfl, q _ _ B2 (k1.trans k2)⟩⟩
    refine ⟨_, rfl, b, c, 200000001, rfl, B1, by decide, by decide, fun r2 H2 y0 y1 B2 k2 => ⟨_, _, rfl, rfl, _, _, rfl, rfl, (by show (0 : Int) ≤ 32 ∧ (32 : Int) ≤ 1000000 ∧ Int.natAbs 10 < 2 ^ 64; decide), _, _, rfl, rfl, .inl ⟨by omega, by omega⟩, ?_⟩⟩
    exact ⟨_, rfl, b, c, 100000000, rfl, B2, by decide, by decide, fun r3 H3 _ _ B3 k3 => ⟨_, _, rfl, rfl, q _ _ B3 ((k1.trans k2).trans k3)⟩⟩
end
end Pl

namespace Pl
open PySem L2 PySem.Spec PyProof.Rows
section
variable {P : Program} {w : World} {K : Fg} {mg : Str → Option Value} {base : Heap}
/-- moments, no one twice -/
def spMoms : Sp := fun vs H Q _ => ∃ b c m, vs = [.ref b, .int m] ∧ Box H b c ∧ 0 ≤ m ∧ m ≤ 60 ∧ ∀ (p : Addr) (l : List Int) (H' : Hp), Box H' b c → Kp b c H H' → H p = none → H' p = some (.lst (l.map V.int)) → l.Nodup → (l.length : Int) ≤ m → Q (.ref p) H'
theorem ok__law_moments (D : Df K mg "_law_moments" "_law_moments" s__law_moments p__law_moments) (T : Tx K mg) (c__law_pick : Cal P w K mg base CX0 "_law_pick" 1 spPick) (c__law_number : Cal P w K mg base CX0 "_law_number" 2 spNum) : Cal P w K mg base CX0 "_law_moments" 3 spMoms := by
  refine D.cal fun f fd F => F.ok sc__law_moments (fun vs H Q E h => ?_) (fun cdv A outer s H vs Q E hr h => ?_)
  · obtain ⟨b, c, m, rfl, _⟩ := h; rfl
  · obtain ⟨b, c, m, rfl, B, m0, m1, q⟩ := h
    refine ⟨_, (pss_cons (ps_set (i := 2) sc__law_moments.nd rfl (Or.inl rfl) (pe_lst pa_nil))
      (pss_cons (ps_set (i := 3) sc__law_moments.nd rfl (Or.inl rfl) (pc c__law_number hr (by decide) (pa_cons (pv 0) pa_nil)))
      (pss_cons (ps_for PassesOwn.never rfl (pi_range1 rfl T.range (pa_cons (pc c__law_pick hr (by decide) (pa_cons (pv 0) (pa_cons (pe_op op_add (pv 1) pe_int) pa_nil))) pa_nil)) (pg_name (i := 4) sc__law_moments.nd rfl (Or.inl rfl))
        (pss_cons (ps_if (pt_cmpR op_eq (pc c__law_pick hr (by decide) (pa_cons (pv 0) (pa_cons pe_int pa_nil))) pe_int (nomark _))
          (pss_one (ps_set (i := 3) sc__law_moments.nd rfl (Or.inl rfl) (pc c__law_number hr (by decide) (pa_cons (pv 0) pa_nil))))
          (pss_one (ps_set (i := 3) sc__law_moments.nd rfl (Or.inl rfl) (pe_op op_sub (pe_op op_add (pv 3) (pc c__law_pick hr (by decide) (pa_cons (pv 0) (pa_cons pe_int pa_nil)))) pe_int))))
        (pss_one (ps_if (pt_cmpR op_notIn_seq (pv 3) (pv 2) (by rfl))
          (pss_one (ps_expr (pe_bm PySem.F.plainAttrs_list PySem.F.slot_list_append PySem.F.type_list_append mt_append (pv 2) (pa_cons (pv 3) pa_nil))))
          pss_nil))))
      (pss_one (ps_ret (pv 2)))))), ?_⟩
    refine ⟨by show 0 ≤ sizeLine; decide, fun p hp => ?_⟩
    have B1 := B.new (o := .lst []) hp
    have k1 : Kp b c H (upd H p (.lst [])) := (Kp.refl).new hp
    refine ⟨_, rfl, b, c, rfl, B1, fun r H2 B2 k2 => ?_⟩
    have np := B.nb hp
    have p2 : H2 p = some (.lst (([] : List Int).map V.int)) := k2 p _ np.1 np.2 upd_same
    refine ⟨_, rfl, _, rfl, _, _, rfl, rfl, b, c, m + 1, rfl, B2, by omega, by omega, fun n H3 n0 n1 B3 k3 => ?_⟩
    refine ⟨_, rfl, (range_ok n0 (by omega)).1, (range_ok n0 (by omega)).2, for_range (lo := 0) (n := n.toNat) (fun i σ H' => ∃ (l : List Int) (r : Int) (x : Option V), σ = [some (.ref b), some (.int m), some (.ref p), some (.int r), x] ∧ Box H' b c ∧ Kp b c H H' ∧ H' p = some (.lst (l.map V.int)) ∧ l.Nodup ∧ l.length ≤ i)
      ⟨[], r, none, rfl, B3, (k1.trans k2).trans k3, k3 p _ np.1 np.2 p2, List.nodup_nil, Nat.le_refl _⟩ ?_ ?_⟩
    · rintro i σ H' hi ⟨l, r, x, rfl, B', k', hl, nd, le⟩
      refine ⟨_, rfl, b, c, 3, rfl, B', by decide, by decide, fun t H4 t0 t1 B4 k4 => ?_⟩
      have hl4 := k4 p _ np.1 np.2 hl
      refine ⟨rfl, _, rfl, ite2 (fun z => ?_) (fun z => ?_)⟩
      · refine ⟨_, rfl, b, c, rfl, B4, fun r5 H5 B5 k5 => ?_⟩
        have hl5 := k5 p _ np.1 np.2 hl4
        refine ⟨_, rfl, _, rfl, p, _, rfl, .inl (SqL.of hl5), rfl, flat_int, _, rfl, ?_⟩
        rw [inV_int]
        refine ite2 (fun y => ?_) (fun y => ?_)
        · have y' : r5 ∉ l := by simpa using y
          refine ⟨_, rfl, .inl ⟨rfl, _, SqL.of hl5⟩, _, rfl, p, _, _, rfl, rfl, hl5, by rw [List.length_map]; exact small1000 (by omega), ?_⟩
          refine ⟨l ++ [r5], r5, _, rfl, B5.chg B hp, ((k'.trans k4).trans k5).chg hp, by rw [upd_same, List.map_append]; rfl, ?_, by rw [List.length_append]; exact Nat.succ_le_succ le⟩
          exact nd_snoc nd y'
        · exact ⟨l, r5, _, rfl, B5, (k'.trans k4).trans k5, hl5, nd, Nat.le_succ_of_le le⟩
      · refine ⟨_, rfl, _, rfl, b, c, 7, rfl, B4, by decide, by decide, fun u H5 _ _ B5 k5 => ?_⟩
        have hl5 := k5 p _ np.1 np.2 hl4
        refine ⟨_, _, rfl, rfl, _, _, rfl, rfl, ?_⟩
        refine ⟨_, rfl, _, rfl, p, _, rfl, .inl (SqL.of hl5), rfl, flat_int, _, rfl, ?_⟩
        rw [inV_int]
        refine ite2 (fun y => ?_) (fun y => ?_)
        · have y' : r + u - 2 ∉ l := by simpa using y
          refine ⟨_, rfl, .inl ⟨rfl, _, SqL.of hl5⟩, _, rfl, p, _, _, rfl, rfl, hl5, by rw [List.length_map]; exact small1000 (by omega), ?_⟩
          refine ⟨l ++ [r + u - 2], r + u - 2, _, rfl, B5.chg B hp, ((k'.trans k4).trans k5).chg hp, by rw [upd_same, List.map_append]; rfl, ?_, by rw [List.length_append]; exact Nat.succ_le_succ le⟩
          exact nd_snoc nd y'
        · exact ⟨l, _, _, rfl, B5, (k'.trans k4).trans k5, hl5, nd, Nat.le_succ_of_le le⟩
    · rintro σ H' ⟨l, r, x, rfl, B', k', hl, nd, le⟩
      exact ⟨_, rfl, q p l _ B' k' hp hl nd (by omega)⟩
/-- rows of the names, drawn -/
def spRows (K : Fg) : Sp := fun vs H Q _ => ∃ (b c n : Addr) (ns : List Str) (m : Int), vs = [.ref b, .ref n, .int m] ∧ Box H b c ∧ SqL K H n (ns.map V.str) ∧ ns.Nodup ∧ ns.length ≤ 100 ∧ 0 ≤ m ∧ m ≤ 60 ∧
  ∀ (d : Addr) (kvs : List (Key × V)) (rs : Rs) (H' : Hp), Box H' b c → Kp b c H H' → H d = none → H' d = some (.dK kvs) → Rows (Nb b c) H' kvs rs → rs.map (·.1) = ns → RsOk m.toNat rs → (∀ kv ∈ kvs, ∀ a, kv.2 = .ref a → H a = none) → Q (.ref d) H'
theorem ok__law_rows (D : Df K mg "_law_rows" "_law_rows" s__law_rows p__law_rows) (c__law_moments : Cal P w K mg base CX0 "_law_moments" 3 spMoms) : Cal P w K mg base CX0 "_law_rows" 4 (spRows K) := by
  refine D.cal fun f fd F => F.ok sc__law_rows (fun vs H Q E h => ?_) (fun cdv A outer s H vs Q E hr h => ?_)
  · obtain ⟨b, c, n, ns, m, rfl, _⟩ := h; rfl
  · obtain ⟨b, c, n, ns, m, rfl, B, hn, nd, n100, m0, m1, q⟩ := h
    have hu := hu_of hr
    refine ⟨_, (pss_cons (ps_set (i := 3) sc__law_rows.nd rfl (Or.inl rfl) pe_dnewK)
      (pss_cons (ps_for PassesOwn.never rfl (pi_list (pv 1)) (pg_name (i := 4) sc__law_rows.nd rfl (Or.inl rfl))
        (pss_one (ps_dput hu (pv 3) (pv 4) (pc c__law_moments hr (by decide) (pa_cons (pv 0) (pa_cons (pv 2) pa_nil))) rfl)))
      (pss_one (ps_ret (pv 3))))), ?_⟩
    intro d hd
    have B1 := B.new (o := .dK []) hd
    have k1 : Kp b c H (upd H d (.dK [])) := (Kp.refl).new hd
    have ndb := B.nb hd
    refine ⟨_, rfl, n, rfl, ⟨_, B.strs k1 hn⟩, for_list (K := K) (a := n) (xs := ns.map V.str) (fun i σ H' => ∃ (kvs : List (Key × V)) (rs : Rs) (x : Option V), σ = [some (.ref b), some (.ref n), some (.int m), some (.ref d), x] ∧ Box H' b c ∧ Kp b c H H' ∧ H' d = some (.dK kvs) ∧ Rows (Nb b c) H' kvs rs ∧ rs.map (·.1) = ns.take i ∧ RsOk m.toNat rs ∧ rs.length = i ∧ i ≤ 100 ∧ (∀ kv ∈ kvs, ∀ a, kv.2 = .ref a → H a = none))
      ⟨[], [], none, rfl, B1, k1, upd_same, .nil, rfl, ⟨List.nodup_nil, fun r h => by cases h⟩, rfl, by omega, fun kv h => by cases h⟩ ?_ ?_ ?_⟩
    · rintro i σ H' hi ⟨kvs, rs, x, rfl, B', k', _⟩
      exact B.strs k' hn
    · rintro i y σ H' hi ⟨kvs, rs, x, rfl, B', k', hdk, hr', en, ok, el, hi2, fr⟩
      obtain ⟨z, hz, rfl⟩ : ∃ z, ns[i]? = some z ∧ y = V.str z := by
        rw [List.getElem?_map] at hi
        cases e : ns[i]? with
        | none => rw [e] at hi; cases hi
        | some z => rw [e] at hi; exact ⟨z, rfl, (Option.some.inj hi).symm⟩
      have hlt : i < ns.length := (List.getElem?_eq_some_iff.mp hz).1
      refine ⟨_, rfl, _, rfl, b, c, m, rfl, B', m0, m1, fun p l H5 B5 k5 hp hl nl ll => ?_⟩
      have pd : p ≠ d := by intro z; subst z; rw [hdk] at hp; cases hp
      have hd5 := k5 d _ ndb.1 ndb.2 hdk
      have hz' : z ∉ rs.map (·.1) := by
        rw [en]
        intro mem
        obtain ⟨j, hj⟩ := List.mem_iff_getElem?.mp mem
        rw [List.getElem?_take] at hj
        split at hj
        · exact absurd (nd_ix nd hj hz) (by omega)
        · cases hj
      have r5 := hr'.kp k5
      have vn := r5.none hz'
      have np := B'.nb hp
      refine ⟨_, rfl, _, rfl, d, _, rfl, DPut.k (k := Sum.inr z) hd5 (by rw [hr'.length]; exact small1000 (by omega)), ?_⟩
      rw [putK_new _ vn]
      have n0 : H p = none := by
        cases e : H p with
        | none => rfl
        | some o =>
          have q := k' p o (B'.nb hp).1 (B'.nb hp).2 e
          rw [hp] at q; cases q
      refine ⟨kvs ++ [(Sum.inr z, .ref p)], rs ++ [(z, l)], _, rfl, B5.chg B hd, (k'.trans k5).chg hd, upd_same, ?_, ?_, ?_, by rw [List.length_append, el]; rfl, by omega, ?_⟩
      · refine Rows.snoc np (by rw [upd_ne pd]; exact hl) (r5.mono fun a o _ e => ?_)
        rw [upd_ne (ne_of e hd5 (by intro z; cases z))]; exact e
      · rw [List.map_append, en]
        show ns.take i ++ [z] = _
        rw [List.take_add_one, hz]
        rfl
      · refine ⟨?_, fun r hr => ?_⟩
        · rw [List.map_append]; exact nd_snoc ok.nd hz'
        · rcases List.mem_append.mp hr with h | h
          · exact ok.each r h
          · rw [List.mem_singleton.mp h]
            exact ⟨nl, by show l.length ≤ m.toNat; omega⟩
      · intro kv hkv a ea
        rcases List.mem_append.mp hkv with h | h
        · exact fr kv h a ea
        · rw [List.mem_singleton.mp h] at ea
          cases ea
          exact n0
    · rintro σ H' ⟨kvs, rs, x, rfl, B', k', hdk, hr', en, ok, el, _, fr⟩
      rw [List.length_map, List.take_length] at en
      exact ⟨_, rfl, q d kvs rs _ B' k' hd hdk hr' en ok fr⟩
/-- a copy: new lists under the same names -/
def spCopy : Sp := fun vs H Q _ => ∃ (N : Addr → Prop) (d : Addr) (kvs : List (Key × V)) (rs : Rs), vs = [.ref d] ∧ H d = some (.dK kvs) ∧ Rows N H kvs rs ∧ (rs.map (·.1)).Nodup ∧ rs.length ≤ 100 ∧ (∀ a, H a = none → N a) ∧
  ∀ (d' : Addr) (kvs' : List (Key × V)) (H' : Hp), Same H H' → H d' = none → H' d' = some (.dK kvs') → Rows N H' kvs' rs → (∀ kv ∈ kvs', ∀ a, kv.2 = .ref a → H a = none) → Q (.ref d') H'
theorem ok__law_copy (D : Df K mg "_law_copy" "_law_copy" s__law_copy p__law_copy) (T : Tx K mg) : Cal P w K mg base CX0 "_law_copy" 1 spCopy := by
  refine D.cal fun f fd F => F.ok sc__law_copy (fun vs H Q E h => ?_) (fun cdv A outer s H vs Q E hr h => ?_)
  · obtain ⟨N, d, kvs, rs, rfl, _⟩ := h; rfl
  · obtain ⟨N, d, kvs, rs, rfl, hd, hR, nd, r100, hN, q⟩ := h
    have hu := hu_of hr
    refine ⟨_, (pss_cons (ps_set (i := 1) sc__law_copy.nd rfl (Or.inl rfl) pe_dnewK)
      (pss_cons (ps_lock (ps_for PassesOwn.never rfl (pi_keys (pv 0)) (pg_name (i := 2) sc__law_copy.nd rfl (Or.inl rfl))
        (pss_one (ps_dput hu (pv 1) (pv 2) (pc_listc T (pa_cons (pe_dget hu (pv 0) (pv 2) (fun _ _ => rfl)) pa_nil)) rfl))))
      (pss_one (ps_ret (pv 1))))), ?_⟩
    intro e he
    have ned : e ≠ d := by intro z; subst z; rw [hd] at he; cases he
    have hd1 : (upd H e (.dK [])) d = some (.dK kvs) := by rw [upd_ne ned.symm]; exact hd
    refine ⟨d, _, hd1, trivial, fun od => ?_⟩
    refine ⟨_, rfl, d, od, rfl, .inl ⟨kvs, upd_same, for_it walk_keys (fun i σ H' => ∃ (kvs' : List (Key × V)) (x : Option V), σ = [some (.ref d), some (.ref e), x] ∧ H' d = some (.frz od (.dK kvs)) ∧ H' e = some (.dK kvs') ∧ (∀ a o, H a = some o → a ≠ d → H' a = some o) ∧ Rows N H' kvs' (rs.take i) ∧ (∀ kv ∈ kvs', ∀ a, kv.2 = .ref a → H a = none)) ?_ ?_ ?_ ?_⟩⟩
    · exact ⟨[], none, rfl, upd_same, by rw [upd_ne ned, upd_same], fun a o h1 h2 => by rw [upd_ne h2, upd_ne (ne_of_none h1 he)]; exact h1, .nil, fun kv h => by cases h⟩
    · rintro i σ H' hi ⟨kvs', x, rfl, h1, _⟩
      exact h1
    · rintro i y σ H' H'' hi ⟨kvs', x, rfl, h1, h2, h3, h4, h5⟩ ⟨rfl, k, v, hk, rfl⟩
      obtain ⟨n, l, a, hr1, rfl, rfl, na, ha⟩ := hR.at hk
      obtain ⟨a', hv, _, _, hk'⟩ := hR.val nd hr1
      rw [hk] at hk'
      have ea : a' = a := by injection hk' with z; injection z with z1 z2; injection z2 with z3; exact z3.symm
      subst ea
      have nad : a' ≠ d := by intro z; subst z; rw [hd] at ha; cases ha
      have ha' := h3 _ _ ha nad
      refine ⟨_, rfl, _, rfl, d, .ref a', rfl, .inl ⟨kvs, Sum.inr n, .inr ⟨od, h1⟩, rfl, hv.symm⟩, a', _, rfl, .inl (SqL.of ha'), fun p hp => ?_⟩
      have pe : p ≠ e := by intro z; subst z; rw [h2] at hp; cases hp
      have pd : p ≠ d := by intro z; subst z; rw [h1] at hp; cases hp
      have hp0 : H p = none := by
        cases z : H p with
        | none => rfl
        | some o => rw [h3 p o z pd] at hp; cases hp
      have nin : n ∉ (rs.take i).map (·.1) := by
        intro mem
        rw [List.map_take] at mem
        obtain ⟨j, hj⟩ := List.mem_iff_getElem?.mp mem
        rw [List.getElem?_take] at hj
        split at hj
        · exact absurd (nd_ix nd hj (by rw [List.getElem?_map, hr1]; rfl)) (by omega)
        · cases hj
      have vn := h4.none nin
      have h2' : (upd H'' p (.lst (l.map V.int))) e = some (.dK kvs') := by rw [upd_ne pe.symm]; exact h2
      refine ⟨_, rfl, _, rfl, e, _, rfl, DPut.k (k := Sum.inr n) h2' (by rw [h4.length, List.length_take]; exact small1000 (by omega)), ?_⟩
      rw [putK_new _ vn]
      refine ⟨_, _, rfl, by rw [upd_ne ned.symm, upd_ne pd.symm]; exact h1, upd_same, fun a o z1 z2 => ?_, ?_, ?_⟩
      · rw [upd_ne (ne_of_none z1 he), upd_ne (ne_of_none z1 hp0)]; exact h3 a o z1 z2
      · rw [List.take_add_one, hr1]
        refine Rows.snoc (hN p hp0) (by rw [upd_ne pe, upd_same]) (h4.mono fun a xs _ z => ?_)
        rw [upd_ne (ne_of z h2 (by intro z; cases z)), upd_ne (ne_of_none z hp)]; exact z
      · intro kv hkv a ea
        rcases List.mem_append.mp hkv with h | h
        · exact h5 kv h a ea
        · rw [List.mem_singleton.mp h] at ea
          cases ea
          exact hp0
    · rintro σ H' ⟨kvs', x, rfl, h1, h2, h3, h4, h5⟩
      rw [hR.length, List.take_length] at h4
      refine ⟨h1, _, rfl, q e kvs' _ (fun a o z => ?_) he (by rw [upd_ne ned]; exact h2) (h4.mono fun a xs _ z => ?_) h5⟩
      · by_cases ad : a = d
        · subst ad; rw [hd] at z; cases z; exact upd_same
        · rw [upd_ne ad]; exact h3 a o z ad
      · rw [upd_ne (ne_of z h1 (by intro z; cases z))]; exact z
end
end Pl

namespace Pl
open PySem L2 PySem.Spec PyProof.Rows
section
variable {P : Program} {w : World} {K : Fg} {mg : Str → Option Value} {base : Heap}
def spName : Sp := fun vs H Q _ => ∃ z, vs = [.str z] ∧ GName z ∧ ∀ H', Same H H' → Q (.bl true) H'
theorem ok_is_name (D : Df K mg "is_name" "is_name" s_is_name p_is_name) (T : Tx K mg) (gL : ∃ t, mg "LETTERS" = some (.str (Str.ofString "abcdefghijklmnopqrstuvwxyz") t)) (gM : ∃ t, mg "MOST_LETTERS" = some (.int 12 t)) : Cal P w K mg base CX0 "is_name" 1 spName := by
  refine D.cal fun f fd F => F.ok sc_is_name (fun vs H Q E h => ?_) (fun cdv A outer s H vs Q E hr h => ?_)
  · obtain ⟨z, rfl, _⟩ := h; rfl
  · obtain ⟨z, rfl, G, k⟩ := h
    obtain ⟨tL, g_LETTERS⟩ := gL
    obtain ⟨tM, g_MOST_LETTERS⟩ := gM
    refine ⟨_, (pss_cons (ps_if (PW.pt (pw_or (pt_not (pt_val (pc_isi T (pa_cons (pv 0) (pa_cons (pt_str T) pa_nil))))) (pw_or1 (pt_not (pt_chain op_le op_le pe_int (pc_len T (pa_cons (pv 0) pa_nil)) (pe_glob rfl g_MOST_LETTERS rel_i))))))
        (pss_one (ps_ret pe_bl))
        pss_nil)
      (pss_one (ps_ret (pc_all rfl T (pa_cons (pe_lc (own := [("letter", 1)]) rfl sc_is_name.nd (pi_str (pv 0)) (blkOk_by (N := n_is_name) (sc := defScope s_is_name) (by decide +kernel)) (fun _ _ _ _ _ => (pg_name (i := 1) sc_is_name.nd rfl (Or.inl rfl))) (fun _ _ _ _ _ => (by exact pts_nil)) (fun _ _ _ _ _ => (by exact (pe_cmpR op_in_sign (pv 1) (pe_glob rfl g_LETTERS rel_s) (by rfl))))) pa_nil))))), ?_⟩
    refine ⟨_, rfl, _, _, _, _, true, rfl, .ty "str", .base (.str z), kit_ty (by decide +kernel), _, rfl, ?_⟩
    refine iteF ?_
    have lo : (1 : Int) ≤ (z.length : Int) := by have := G.lo; omega
    have hi : (z.length : Int) ≤ 12 := by have := G.hi; omega
    have hz : z.length ≤ sizeLine := sz (by have := G.hi; omega)
    refine ⟨_, rfl, _, z.length, rfl, ⟨hz, rfl⟩, _, _, rfl, rfl, _, rfl, ?_⟩
    rw [decide_eq_true lo]
    refine iteT ⟨_, _, rfl, rfl, _, rfl, ?_⟩
    rw [decide_eq_true hi]
    refine iteF ?_
    refine ⟨_, rfl, z, rfl, fun Dl hD => lc_it (walk_str (z := z)) (vs := [1]) (fun i H' => Same H H' ∧ H' Dl = some (.lst ((List.replicate i true).map V.bl))) ⟨(Same.refl H).new hD, upd_same⟩ (fun _ _ _ _ => trivial) ?_ ?_⟩
    · rintro i x H' H'' hi ⟨s1, s2⟩ ⟨rfl, c, hc, rfl⟩
      refine ⟨rfl, ?_⟩
      refine ⟨_, rfl, c, _, rfl, rfl, _, s2, by rw [List.length_map, List.length_replicate]; exact small1000 (by have := G.hi; have e : z.length = z.cps.size := rfl; omega), s1.chg hD, ?_⟩
      rw [upd_same, List.replicate_succ', List.map_append]
      have e : decide (c ∈ (Str.ofString "abcdefghijklmnopqrstuvwxyz").cps.toList) = true := decide_eq_true (G.all c (by
        have h : z.cps.toList[i]? = some c := by rw [Array.getElem?_toList]; exact hc
        exact List.mem_of_getElem? h))
      rw [e]; rfl
    · rintro H' ⟨s1, s2⟩
      refine ⟨Dl, _, rfl, SqL.of s2, ?_⟩
      have e : (List.replicate z.cps.size true).all id = true := by
        rw [List.all_eq_true]; intro x hx
        rw [(List.mem_replicate.mp hx).2]; rfl
      rw [e]
      exact k _ s1
def spChkN : Sp := fun vs H Q _ => ∃ z, vs = [.str z] ∧ GName z ∧ ∀ H', Same H H' → Q .non H'
theorem ok_check_name (D : Df K mg "check_name" "check_name" s_check_name p_check_name) (c_is_name : Cal P w K mg base CX0 "is_name" 1 spName) : Cal P w K mg base CX0 "check_name" 2 spChkN := by
  refine D.cal fun f fd F => F.ok sc_check_name (fun vs H Q E h => ?_) (fun cdv A outer s H vs Q E hr h => ?_)
  · obtain ⟨x, rfl, _⟩ := h; rfl
  · obtain ⟨x, rfl, G, k⟩ := h
    refine ⟨_, (pss_one (ps_if (pt_not (pt_val (pc c_is_name hr (by decide) (pa_cons (pv 0) pa_nil))))
        (pss_one ps_never)
        pss_nil)), ?_⟩
    exact ⟨_, rfl, _, rfl, G, fun H' s1 => ⟨_, rfl, iteF (k H' s1)⟩⟩
def spIsL : Sp := fun vs H Q _ => ∃ (a : Addr) (ns : List Int), vs = [.ref a] ∧ H a = some (.lst (ns.map V.int)) ∧ ns.Nodup ∧ ns.length < 64 ∧ ∀ H', Same H H' → Q (.bl true) H'
theorem ok_is_list_of_moments (D : Df K mg "is_list_of_moments" "is_list_of_moments" s_is_list_of_moments p_is_list_of_moments) (T : Tx K mg) (c_is_integer : Cal P w K mg base CX0 "is_integer" 1 (spIsInt K)) : Cal P w K mg base CX0 "is_list_of_moments" 2 spIsL := by
  refine D.cal fun f fd F => F.ok sc_is_list_of_moments (fun vs H Q E h => ?_) (fun cdv A outer s H vs Q E hr h => ?_)
  · obtain ⟨a, ns, rfl, _⟩ := h; rfl
  · obtain ⟨a, ns, rfl, ha, nd, n64, k⟩ := h
    refine ⟨_, (pss_cons (ps_if (pt_not (pt_val (pc_isi T (pa_cons (pv 0) (pa_cons (pt_list T) pa_nil)))))
        (pss_one (ps_ret pe_bl))
        pss_nil)
      (pss_one (ps_ret (pe_and (pc_all rfl T (pa_cons (pe_lc (own := [("entry", 1)]) rfl sc_is_list_of_moments.nd (pi_list (pv 0)) (blkOk_by (N := n_is_list_of_moments) (sc := defScope s_is_list_of_moments) (by decide +kernel)) (fun _ _ _ _ _ => (pg_name (i := 1) sc_is_list_of_moments.nd rfl (Or.inl rfl))) (fun _ _ _ _ _ => (by exact pts_nil)) (fun _ _ _ _ _ => (by exact (pc c_is_integer hr (by decide) (pa_cons (pv 1) pa_nil))))) pa_nil)) (pe_one (pe_cmpR op_eq (RZ.pe_lenSetI rfl T.len rfl T.set (pv 0)) (pc_len T (pa_cons (pv 0) pa_nil)) (nomark _))))))), ?_⟩
    refine ⟨_, rfl, _, _, _, _, true, rfl, .ty "list", .base (.lst ha), kit_ty (by decide +kernel), _, rfl, iteF ?_⟩
    refine ⟨_, rfl, a, rfl, ⟨_, SqL.of ha⟩, fun Dl hD => lc_list (K := K) (a := a) (xs := ns.map V.int) (vs := [1]) (fun i H' => Same H H' ∧ H' Dl = some (.lst ((List.replicate i true).map V.bl))) ⟨(Same.refl H).new hD, upd_same⟩ (fun i H' _ q => SqL.of (q.1 _ _ ha)) ?_ ?_⟩
    · rintro i x H' hi ⟨s1, s2⟩
      obtain ⟨z, hz, rfl⟩ : ∃ z, ns[i]? = some z ∧ x = V.int z := by
        rw [List.getElem?_map] at hi
        cases e : ns[i]? with
        | none => rw [e] at hi; cases hi
        | some z => rw [e] at hi; exact ⟨z, rfl, (Option.some.inj hi).symm⟩
      have hl : i < ns.length := (List.getElem?_eq_some_iff.mp hz).1
      refine ⟨rfl, ?_⟩
      refine ⟨_, rfl, _, _, true, false, rfl, .base (.int z), kit_ty (by decide +kernel), fun _ => kit_ty (by decide +kernel), _, s2, by rw [List.length_map, List.length_replicate]; exact small1000 (by omega), s1.chg hD, ?_⟩
      rw [upd_same, List.replicate_succ', List.map_append]; rfl
    · rintro H' ⟨s1, s2⟩
      refine ⟨Dl, _, rfl, SqL.of s2, ?_⟩
      have e : (List.replicate (ns.map V.int).length true).all id = true := by
        rw [List.all_eq_true]; intro x hx
        rw [(List.mem_replicate.mp hx).2]; rfl
      rw [e]
      have ha' := s1 _ _ ha
      refine ⟨_, rfl, iteT ⟨_, rfl, a, ns, rfl, SqL.of ha', nd, by omega, _, rfl, _, _, rfl, .inl ⟨_, SqL.of ha', rfl⟩, rfl, ?_⟩⟩
      rw [List.length_map, decide_eq_true rfl]
      exact k _ s1
def spChecked : Sp := fun vs H Q _ => ∃ (N : Addr → Prop) (d : Addr) (kvs : List (Key × V)) (rs : Rs), vs = [.ref d] ∧ H d = some (.dK kvs) ∧ Rows N H kvs rs ∧ (rs.map (·.1)).Nodup ∧ rs.length ≤ 100 ∧ (∀ r ∈ rs, GName r.1 ∧ r.2.Nodup ∧ r.2.length < 64) ∧ (∀ a, H a = none → N a) ∧
  ∀ (d' : Addr) (kvs' : List (Key × V)) (H' : Hp), Same H H' → H d' = none → H' d' = some (.dK kvs') → Rows N H' kvs' (srs rs) → (∀ kv ∈ kvs', ∀ a, kv.2 = .ref a → H a = none) → Q (.ref d') H'
theorem ok_checked_rows (D : Df K mg "checked_rows" "checked_rows" s_checked_rows p_checked_rows) (T : Tx K mg) (c_check_name : Cal P w K mg base CX0 "check_name" 2 spChkN) (c_is_list_of_moments : Cal P w K mg base CX0 "is_list_of_moments" 2 spIsL) : Cal P w K mg base CX0 "checked_rows" 3 spChecked := by
  refine D.cal fun f fd F => F.ok sc_checked_rows (fun vs H Q E h => ?_) (fun cdv A outer s H vs Q E hr h => ?_)
  · obtain ⟨N, d, kvs, rs, rfl, _⟩ := h; rfl
  · obtain ⟨N, d, kvs, rs, rfl, hd, hR, nd, r100, each, hN, q⟩ := h
    have hu := hu_of hr
    refine ⟨_, (pss_cons (ps_set (i := 1) sc_checked_rows.nd rfl (Or.inl rfl) pe_dnewK)
      (pss_cons (ps_lock (ps_for PassesOwn.never rfl (pi_keys (pv 0)) (pg_name (i := 2) sc_checked_rows.nd rfl (Or.inl rfl))
        (pss_cons (ps_expr (pc c_check_name hr (by decide) (pa_cons (pv 2) pa_nil)))
        (pss_cons (ps_if (pt_not (pt_val (pc c_is_list_of_moments hr (by decide) (pa_cons (pe_dget hu (pv 0) (pv 2) (fun _ _ => rfl)) pa_nil))))
          (pss_one ps_never)
          pss_nil)
        (pss_one (ps_if (pt_truth (pe_dget hu (pv 0) (pv 2) (fun _ _ => rfl)) (by intro _; rfl))
          (pss_one (ps_dput hu (pv 1) (pv 2) (pc_sorted T (pa_cons (pe_dget hu (pv 0) (pv 2) (fun _ _ => rfl)) pa_nil)) rfl))
          pss_nil))))))
      (pss_one (ps_ret (pv 1))))), ?_⟩
    intro e he
    have ned : e ≠ d := by intro z; subst z; rw [hd] at he; cases he
    have hd1 : (upd H e (.dK [])) d = some (.dK kvs) := by rw [upd_ne ned.symm]; exact hd
    refine ⟨d, _, hd1, trivial, fun od => ?_⟩
    refine ⟨_, rfl, d, od, rfl, .inl ⟨kvs, upd_same, for_it walk_keys (fun i σ H' => ∃ (kvs' : List (Key × V)) (x : Option V), σ = [some (.ref d), some (.ref e), x] ∧ H' d = some (.frz od (.dK kvs)) ∧ H' e = some (.dK kvs') ∧ (∀ a o, H a = some o → a ≠ d → H' a = some o) ∧ Rows N H' kvs' (srs (rs.take i)) ∧ (∀ kv ∈ kvs', ∀ a, kv.2 = .ref a → H a = none)) ?_ ?_ ?_ ?_⟩⟩
    · exact ⟨[], none, rfl, upd_same, by rw [upd_ne ned, upd_same], fun a o h1 h2 => by rw [upd_ne h2, upd_ne (ne_of_none h1 he)]; exact h1, .nil, fun kv h => by cases h⟩
    · rintro i σ H' hi ⟨kvs', x, rfl, h1, _⟩
      exact h1
    · rintro i y σ H' H'' hi ⟨kvs', x, rfl, h1, h2, h3, h4, h5⟩ ⟨rfl, k, v, hk, rfl⟩
      obtain ⟨n, l, a, hr1, rfl, rfl, na, ha⟩ := hR.at hk
      obtain ⟨a', hv, _, _, hk'⟩ := hR.val nd hr1
      rw [hk] at hk'
      have ea : a' = a := by injection hk' with z; injection z with z1 z2; injection z2 with z3; exact z3.symm
      subst ea
      obtain ⟨gn, ln, l64⟩ := each _ (List.mem_of_getElem? hr1)
      have nad : a' ≠ d := by intro z; subst z; rw [hd] at ha; cases ha
      have ha' := h3 _ _ ha nad
      -- check_name(name)
      refine ⟨_, rfl, n, rfl, gn, fun H3 s3 => ?_⟩
      -- is_list_of_moments(rows[name])
      refine ⟨_, rfl, _, rfl, d, .ref a', rfl, .inl ⟨kvs, Sum.inr n, .inr ⟨od, s3 _ _ h1⟩, rfl, hv.symm⟩, a', l, rfl, s3 _ _ ha', ln, l64, fun H4 s4 => ?_⟩
      refine ⟨_, rfl, iteF ?_⟩
      have s34 := s3.trans s4
      -- if rows[name]
      refine ⟨_, rfl, _, rfl, d, .ref a', rfl, .inl ⟨kvs, Sum.inr n, .inr ⟨od, s34 _ _ h1⟩, rfl, hv.symm⟩, !(l.map V.int).isEmpty, .inl ⟨_, SqL.of (s34 _ _ ha'), rfl⟩, ?_⟩
      have tk : rs.take (i + 1) = rs.take i ++ [(n, l)] := by rw [List.take_add_one, hr1]; rfl
      have nin : n ∉ (srs (rs.take i)).map (·.1) := by
        intro mem
        have mem := srs_names _ mem
        rw [List.map_take] at mem
        obtain ⟨j, hj⟩ := List.mem_iff_getElem?.mp mem
        rw [List.getElem?_take] at hj
        split at hj
        · exact absurd (nd_ix nd hj (by rw [List.getElem?_map, hr1]; rfl)) (by omega)
        · cases hj
      cases l with
      | nil =>
        refine iteF ⟨kvs', _, rfl, s34 _ _ h1, s34 _ _ h2, fun a o z1 z2 => s34 _ _ (h3 a o z1 z2), ?_, h5⟩
        rw [tk, srs_snoc]
        exact h4.same s34
      | cons z0 l =>
        refine iteT ⟨_, rfl, _, rfl, d, .ref a', rfl, .inl ⟨kvs, Sum.inr n, .inr ⟨od, s34 _ _ h1⟩, rfl, hv.symm⟩, a', (z0 :: l), rfl, SqL.of (s34 _ _ ha'), l64, fun ns' p pp up hp => ?_⟩
        have e1 := srt_eq pp up
        have pe : p ≠ e := by intro z; subst z; rw [s34 _ _ h2] at hp; cases hp
        have pd : p ≠ d := by intro z; subst z; rw [s34 _ _ h1] at hp; cases hp
        have hp0 : H p = none := by
          cases z : H p with
          | none => rfl
          | some o => rw [s34 _ _ (h3 p o z pd)] at hp; cases hp
        have h4' := h4.same s34
        have vn := h4'.none nin
        have h2' : (upd H4 p (.lst (ns'.map V.int))) e = some (.dK kvs') := by rw [upd_ne pe.symm]; exact s34 _ _ h2
        refine ⟨_, rfl, _, rfl, e, _, rfl, DPut.k (k := Sum.inr n) h2' (by rw [h4'.length]; exact small1000 (by have := srs_len (rs.take i); rw [List.length_take] at this; omega)), ?_⟩
        rw [putK_new _ vn]
        refine ⟨_, _, rfl, by rw [upd_ne ned.symm, upd_ne pd.symm]; exact s34 _ _ h1, upd_same, fun a o z1 z2 => ?_, ?_, ?_⟩
        · rw [upd_ne (ne_of_none z1 he), upd_ne (ne_of_none z1 hp0)]; exact s34 _ _ (h3 a o z1 z2)
        · rw [tk, srs_snoc]
          show Rows _ _ _ (srs (rs.take i) ++ [(n, srt (z0 :: l))])
          rw [e1]
          refine Rows.snoc (hN p hp0) (by rw [upd_ne pe, upd_same]) (h4'.mono fun a xs _ z => ?_)
          rw [upd_ne (ne_of z (s34 _ _ h2) (by intro z; cases z)), upd_ne (ne_of_none z hp)]; exact z
        · intro kv hkv a ea
          rcases List.mem_append.mp hkv with h | h
          · exact h5 kv h a ea
          · rw [List.mem_singleton.mp h] at ea
            cases ea
            exact hp0
    · rintro σ H' ⟨kvs', x, rfl, h1, h2, h3, h4, h5⟩
      rw [hR.length, List.take_length] at h4
      refine ⟨h1, _, rfl, q e kvs' _ (fun a o z => ?_) he (by rw [upd_ne ned]; exact h2) (h4.mono fun a xs _ z => ?_) h5⟩
      · by_cases ad : a = d
        · subst ad; rw [hd] at z; cases z; exact upd_same
        · rw [upd_ne ad]; exact h3 a o z ad
      · rw [upd_ne (ne_of z h1 (by intro z; cases z))]; exact z
/-- a world stands at p with these rows -/
def WAt (N : Addr → Prop) (C : Addr) (H : Hp) (p : Addr) (rs : Rs) : Prop := ∃ dx d kvs, H p = some (.ins C dx [(("held" : Str), V.ref d)]) ∧ H d = some (.dK kvs) ∧ Rows N H kvs rs
theorem WAt.same {N : Addr → Prop} {C p : Addr} {H H' : Hp} {rs : Rs} (x : WAt N C H p rs) (s : Same H H') : WAt N C H' p rs := by
  obtain ⟨dx, d, kvs, h1, h2, h3⟩ := x
  exact ⟨dx, d, kvs, s _ _ h1, s _ _ h2, h3.same s⟩
theorem WAt.kp {b c C p : Addr} {H H' : Hp} {rs : Rs} (x : WAt (Nb b c) C H p rs) (B : Box H b c) (s : Kp b c H H') : WAt (Nb b c) C H' p rs := by
  obtain ⟨dx, d, kvs, h1, h2, h3⟩ := x
  obtain ⟨_, _, hb, hc, _⟩ := B
  exact ⟨dx, d, kvs, s _ _ (ne_of h1 hb (by intro z; cases z)) (ne_of h1 hc (by intro z; cases z)) h1, s _ _ (ne_of h2 hb (by intro z; cases z)) (ne_of h2 hc (by intro z; cases z)) h2, h3.kp s⟩
/-- what the class World must have -/
structure WTx (K : Fg) (mg : Str → Option Value) (C : Addr) : Prop where
  cl : Cls K C
  nH : NoAttr K C "held"
  g : mg "World" = some (.ref C)
def spLim : Sp := fun vs H Q _ => ∃ (N : Addr → Prop) (d : Addr) (kvs : List (Key × V)) (rs : Rs), vs = [.ref d] ∧ H d = some (.dK kvs) ∧ Rows N H kvs rs ∧ (rs.map (·.1)).Nodup ∧ rs.length ≤ 300 ∧ (∀ r ∈ rs, r.2.length ≤ 1000) ∧ (rs.map fun r => (r.2.length : Int)).sum ≤ 300 ∧ ∀ H', Same H H' → Q (.ref d) H'
theorem ok_limited (D : Df K mg "limited" "limited" s_limited p_limited) (T : Tx K mg) (gM : ∃ t, mg "MOST_ROWS" = some (.int 300 t)) : Cal P w K mg base CX0 "limited" 1 spLim := by
  refine D.cal fun f fd F => F.ok sc_limited (fun vs H Q E h => ?_) (fun cdv A outer s H vs Q E hr h => ?_)
  · obtain ⟨N, d, kvs, rs, rfl, _⟩ := h; rfl
  · obtain ⟨N, d, kvs, rs, rfl, hd, hR, nd, l300, each, hs, q⟩ := h
    have hu := hu_of hr
    obtain ⟨tM, g_MOST_ROWS⟩ := gM
    refine ⟨_, (pss_cons (ps_if (pt_cmpR op_gt (pc_sum rfl T (pa_cons (pe_lock (pe_lc (own := [("name", 1)]) rfl sc_limited.nd (pi_keys (pv 0)) (blkOk_by (N := n_limited) (sc := defScope s_limited) (by decide +kernel)) (fun _ _ _ _ _ => (pg_name (i := 1) sc_limited.nd rfl (Or.inl rfl))) (fun _ _ _ _ _ => pts_nil) (fun _ _ _ _ _ => (by exact (pc_len (K := K) T (pa_cons (pe_dget hu (pv 0) (pv 1) (fun _ _ => rfl)) pa_nil)))))) pa_nil)) (pe_glob rfl g_MOST_ROWS rel_i) (nomark _))
        (pss_one ps_never)
        pss_nil)
      (pss_one (ps_ret (pv 0)))), ?_⟩
    refine ⟨d, _, hd, trivial, fun od => ?_⟩
    refine ⟨_, rfl, d, od, rfl, .inl ⟨kvs, upd_same, fun Dl hD => lc_it walk_keys (vs := [1]) (fun i H' => H' d = some (.frz od (.dK kvs)) ∧ (∀ a o, H a = some o → a ≠ d → H' a = some o) ∧ H' Dl = some (.lst (((rs.take i).map fun r => (r.2.length : Int)).map V.int))) ?_ ?_ ?_ ?_⟩⟩
    · exact ⟨by rw [upd_ne (by intro z; subst z; rw [upd_same] at hD; cases hD)]; exact upd_same, fun a o z1 z2 => by
        have q0 : (upd H d (.frz od (.dK kvs))) a = some o := by rw [upd_ne z2]; exact z1
        rw [upd_ne (ne_of_none q0 hD)]; exact q0, upd_same⟩
    · rintro i H' hi ⟨h1, _⟩
      exact h1
    · rintro i y H' H'' hi ⟨h1, h2, h3⟩ ⟨rfl, k, v, hk, rfl⟩
      obtain ⟨n, l, a, hr1, rfl, rfl, na, ha⟩ := hR.at hk
      obtain ⟨a', hv, _, _, hk'⟩ := hR.val nd hr1
      rw [hk] at hk'
      have ea : a' = a := by injection hk' with z; injection z with z1 z2; injection z2 with z3; exact z3.symm
      subst ea
      have nad : a' ≠ d := by intro z; subst z; rw [hd] at ha; cases ha
      have ha' := h2 _ _ ha nad
      have il : i < rs.length := (List.getElem?_eq_some_iff.mp hr1).1
      have tk : rs.take (i + 1) = rs.take i ++ [(n, l)] := by rw [List.take_add_one, hr1]; rfl
      have dd : d ≠ Dl := by intro z; subst z; rw [upd_same] at hD; cases hD
      refine ⟨rfl, ?_⟩
      refine ⟨_, rfl, _, rfl, d, .ref a', rfl, .inl ⟨kvs, Sum.inr n, .inr ⟨od, h1⟩, rfl, hv.symm⟩, _, l.length, rfl, .inl ⟨_, SqL.of ha', by rw [List.length_map]⟩, _, h3, by rw [List.length_map, List.length_map, List.length_take]; exact small1000 (by omega), by rw [upd_ne dd]; exact h1, fun b o z1 z2 => ?_, by rw [upd_same, tk, List.map_append, List.map_append]; rfl⟩
      have q0 : (upd H d (.frz od (.dK kvs))) b = some o := by rw [upd_ne z2]; exact z1
      rw [upd_ne (ne_of_none q0 hD)]; exact h2 b o z1 z2
    · rintro H' ⟨h1, h2, h3⟩
      rw [hR.length, List.take_length] at h3
      have dd : d ≠ Dl := by intro z; subst z; rw [upd_same] at hD; cases hD
      have s0 : Same H (upd H' d (.dK kvs)) := fun a o z => by
        by_cases ad : a = d
        · subst ad; rw [hd] at z; cases z; exact upd_same
        · rw [upd_ne ad]; exact h2 a o z ad
      refine ⟨h1, Dl, _, rfl, SqL.of (by rw [upd_ne dd.symm]; exact h3), ?_⟩
      refine ⟨_, _, rfl, rfl, _, rfl, ?_⟩
      rw [decide_eq_false (by omega)]
      refine iteF ?_
      exact ⟨_, rfl, q _ s0⟩
/-! ### making a world -/
def spWInit (C : Addr) : Sp := fun vs H Q _ => ∃ (N : Addr → Prop) (p dx d : Addr) (kvs : List (Key × V)) (rs : Rs), vs = [.ref p, .ref d] ∧ H p = some (.ins C dx []) ∧ H d = some (.dK kvs) ∧ Rows N H kvs rs ∧ (rs.map (·.1)).Nodup ∧ rs.length ≤ 100 ∧
  (∀ r ∈ rs, GName r.1 ∧ r.2.Nodup ∧ r.2.length < 64) ∧ ((srs rs).map fun r => (r.2.length : Int)).sum ≤ 300 ∧ (∀ a, H a = none → N a) ∧ ∀ H', (∀ a o, H a = some o → a ≠ p → H' a = some o) → WAt N C H' p (srs rs) → Q .non H'
theorem ok_World_init {C : Addr} (D : DfI K mg "World" "World.__init__" C s_World___init__ p_World___init__) (WT : WTx K mg C) (c_checked_rows : Cal P w K mg base CX0 "checked_rows" 3 spChecked) (c_limited : Cal P w K mg base CX0 "limited" 1 spLim) : CalM P w K mg base CX0 "World" C 4 (spWInit C) := by
  refine D.cal sc_World___init__ (fun vs H Q E h => ?_) (fun f cdv A outer s H vs Q E hr h => ?_)
  · obtain ⟨N, p, dx, d, kvs, rs, rfl, _⟩ := h; rfl
  · obtain ⟨N, p, dx, d, kvs, rs, rfl, hp, hd, hR, nd, r100, each, sm, hN, q⟩ := h
    refine ⟨_, (pss_cons (ps_fld (pv 0) pe_dnewK rfl)
      (pss_one (ps_if (pt_cmpR op_notN (pv 1) pe_non (nomark _))
        (pss_one (ps_fld (pv 0) (pc c_limited hr (by decide) (pa_cons (pc c_checked_rows hr (by decide) (pa_cons (pv 1) pa_nil)) pa_nil)) rfl))
        pss_nil))), ?_⟩
    intro e he
    have npe : p ≠ e := ne_of_none hp he
    have hp1 : (upd H e (.dK [])) p = some (.ins C dx []) := by rw [upd_ne npe]; exact hp
    refine ⟨_, rfl, p, C, dx, [], rfl, hp1, WT.cl, WT.nH, by show 0 < 1000; decide, ?_⟩
    have ndp : d ≠ p := by intro z; subst z; rw [hd] at hp; cases hp
    have nde : d ≠ e := ne_of_none hd he
    let H2 : Hp := upd (upd H e (.dK [])) p (.ins C dx (putF "held" (.ref e) []))
    have k2 : ∀ a o, H a = some o → a ≠ p → H2 a = some o := fun a o z1 z2 => by
      show (upd (upd H e (.dK [])) p _) a = some o
      rw [upd_ne z2, upd_ne (ne_of_none z1 he)]; exact z1
    have p2 : H2 p = some (.ins C dx (putF "held" (.ref e) [])) := upd_same
    refine ⟨_, rfl, rfl, _, rfl, ?_⟩
    refine ⟨_, rfl, N, d, kvs, rs, rfl, k2 _ _ hd ndp, ?_, nd, r100, each, fun a z => hN a ?_, fun d' kvs' H3 s3 hd' hdk hR' hf => ?_⟩
    · refine hR.mono fun a xs _ z => k2 a _ z ?_
      intro y; subst y; rw [hp] at z; cases z
    · cases z0 : H a with
      | none => rfl
      | some o =>
        by_cases ap : a = p
        · subst ap; exact absurd (z.symm.trans p2) (by simp)
        · exact absurd (z.symm.trans (k2 a o z0 ap)) (by simp)
    · have each' : ∀ r ∈ srs rs, r.2.length ≤ 1000 := fun r hr => by
        obtain ⟨y, hy, e2⟩ := List.mem_map.mp hr
        have := (each y (List.mem_filter.mp hy).1).2.2
        rw [← e2]
        show (srt y.2).length ≤ 1000
        rw [srt_len]; omega
      refine ⟨N, d', kvs', srs rs, rfl, hdk, hR', srs_nd nd, by have := srs_len rs; omega, each', sm, fun H4 s4 => ?_⟩
      have p4 := s4 _ _ (s3 _ _ p2)
      refine ⟨_, rfl, p, C, dx, _, rfl, p4, WT.cl, WT.nH, by show 1 < 1000; decide, ?_⟩
      have pd' : d' ≠ p := by intro z; subst z; exact absurd (hd'.symm.trans p2) (by simp)
      refine q _ (fun a o z1 z2 => by rw [upd_ne z2]; exact s4 _ _ (s3 _ _ (k2 a o z1 z2))) ⟨dx, d', kvs', ?_, by rw [upd_ne pd']; exact s4 _ _ hdk, ?_⟩
      · rw [upd_same]
        show some (HO.ins C dx (if ("held" : Str) = "held" then _ else _)) = _
        rw [if_pos rfl]
      · refine (hR'.same s4).mono fun a xs _ z => ?_
        rw [upd_ne (ne_of z p4 (by intro y; cases y))]; exact z
/-- the law's own world -/
def spWorld (C : Addr) : Sp := fun vs H Q _ => ∃ (N : Addr → Prop) (d : Addr) (kvs : List (Key × V)) (rs : Rs), vs = [.ref d] ∧ H d = some (.dK kvs) ∧ Rows N H kvs rs ∧ (rs.map (·.1)).Nodup ∧ rs.length ≤ 100 ∧
  (∀ r ∈ rs, GName r.1 ∧ r.2.Nodup ∧ r.2.length < 64) ∧ ((srs rs).map fun r => (r.2.length : Int)).sum ≤ 300 ∧ (∀ a, H a = none → N a) ∧ ∀ p H', H p = none → Same H H' → WAt N C H' p (srs rs) → Q (.ref p) H'
theorem ok__law_world {C : Addr} (D : Df K mg "_law_world" "_law_world" s__law_world p__law_world) (c_World : CalM P w K mg base CX0 "World" C 4 (spWInit C)) (c__law_copy : Cal P w K mg base CX0 "_law_copy" 1 spCopy) : Cal P w K mg base CX0 "_law_world" 6 (spWorld C) := by
  refine D.cal fun f fd F => F.ok sc__law_world (fun vs H Q E h => ?_) (fun cdv A outer s H vs Q E hr h => ?_)
  · obtain ⟨N, d, kvs, rs, rfl, _⟩ := h; rfl
  · obtain ⟨N, d, kvs, rs, rfl, hd, hR, nd, r100, each, sm, hN, q⟩ := h
    refine ⟨_, (pss_one (ps_ret (pmk c_World hr (by decide) (pa_cons (pc c__law_copy hr (by decide) (pa_cons (pv 0) pa_nil)) pa_nil)))), ?_⟩
    refine ⟨_, rfl, N, d, kvs, rs, rfl, hd, hR, nd, r100, hN, fun d' kvs' H1 s1 hd' hdk hR' hf => ?_⟩
    intro x dx nx ndx nex
    let H2 : Hp := upd (upd H1 dx (.own x)) x (.ins C dx [])
    have s2 : Same H1 H2 := fun a o z => by
      show (upd (upd H1 dx (.own x)) x (.ins C dx [])) a = some o
      rw [upd_ne (ne_of_none z nx), upd_ne (ne_of_none z ndx)]; exact z
    refine ⟨N, x, dx, d', kvs', rs, rfl, upd_same, s2 _ _ hdk, hR'.same s2, nd, r100, each, sm, fun a z => hN a ((s1.trans s2).free z), fun H3 k3 W => ⟨rfl, ?_⟩⟩
    refine q x H3 (s1.free nx) (fun a o z => ?_) W
    have z1 := s1 _ _ z
    exact k3 a o (s2 _ _ z1) (ne_of_none z1 nx)
end
end Pl

namespace Pl
open PySem L2 PySem.Spec PyProof.Rows
theorem putF_one {fs : List (Str × V)} {k : Str} {v : V} (hx : k ∉ fs.map (·.1)) : putF k v fs = fs ++ one k v := putF_no hx
theorem keys_one {fs : List (Str × V)} {k : Str} {v : V} : (fs ++ one k v).map (·.1) = fs.map (·.1) ++ [k] := by rw [List.map_append]; rfl
section
variable {P : Program} {w : World} {K : Fg} {mg : Str → Option Value} {base : Heap}
def spTInit (K : Fg) : Sp := fun vs H Q _ => ∃ (p ch C dx : Addr) (lo co : Int) (fs : List (Str × V)) (cs : List Addr) (zs : List Sz), vs = [.ref p, .ref ch, .int lo, .int co] ∧ H p = some (.ins C dx fs) ∧ TCls K C ∧ (∀ k ∈ kN, k ∉ fs.map (·.1)) ∧ fs.length ≤ 10 ∧
  SqT K H ch (cs.map V.ref) ∧ cs.length = zs.length ∧ zs.length ≤ 2 ∧ (∀ (n : Nat) c z, cs[n]? = some c → zs[n]? = some z → Kid K H c z ∧ c ≠ p) ∧ (szOf lo co zs).d ≤ 12 ∧ (szOf lo co zs).p ≤ 40 ∧ (szOf lo co zs).l ≤ 12 ∧
  ∀ H', (∀ a o, H a = some o → a ≠ p → H' a = some o) → H' p = some (.ins C dx (fs ++ allF ch (szOf lo co zs))) → Q .non H'
theorem seqT_keep {K : Fg} {H H' : Hp} {ch p C dx : Addr} {fs : List (Str × V)} {xs : List V} (hp : H p = some (.ins C dx fs)) (k : ∀ a o, H a = some o → a ≠ p → H' a = some o) (h : SqT K H ch xs) : SqT K H' ch xs := by
  rcases h with (h | ⟨o, h⟩) | h
  · exact .inl (.inl (k _ _ h (ne_of h hp (by intro z; cases z))))
  · exact .inl (.inr ⟨o, k _ _ h (ne_of h hp (by intro z; cases z))⟩)
  · exact .inr h
theorem ok_Term_init {CT : Addr} (D : ∃ f fd, Fun K "__init__" "Term.__init__" s_Term___init__ f fd ∧ CFn K CT "__init__" f ∧ Binds K fd p_Term___init__ []) (T : Tx K mg) (gD : ∃ t, mg "MOST_DEPTH" = some (.int 12 t)) (gP : ∃ t, mg "MOST_PARTS" = some (.int 40 t)) (gL : ∃ t, mg "MOST_LOOKS" = some (.int 12 t)) : CalC P w K mg base CX0 CT "__init__" 1 (spTInit K) := by
  obtain ⟨f, fd, F, cf, hb⟩ := D
  refine ⟨f, fd, _, F.ok sc_Term___init__ (fun vs H Q E h => ?_) (fun cdv A outer s H vs Q E hr h => ?_), cf, hb⟩
  · obtain ⟨p, ch, C, dx, lo, co, fs, cs, zs, rfl, _⟩ := h; rfl
  · obtain ⟨p, ch, C, dx, lo, co, fs, cs, zs, rfl, hp, TC, hk, hf, ht, hl, h2, hc, m1, m2, m3, q⟩ := h
    obtain ⟨tD, g_MOST_DEPTH⟩ := gD
    obtain ⟨tP, g_MOST_PARTS⟩ := gP
    obtain ⟨tL, g_MOST_LOOKS⟩ := gL
    have hu : (A.deeper (envOfC "Term.__init__" (defScope s_Term___init__) s.heap.objs.size f cdv)).units + 64 < cLine := hr.units
    refine ⟨_, (pss_cons (ps_fld (pv 0) (pv 1) rfl)
      (pss_cons (ps_fld (pv 0) (pe_op op_add pe_int (pc_maxDf rfl hu T (pa_cons (pe_lc (own := [("child", 4)]) rfl sc_Term___init__.nd (pi_tup (pv 1)) (blkOk_by (N := n_Term___init__) (sc := defScope s_Term___init__) (by decide +kernel)) (fun _ _ _ _ _ => (pg_name (i := 4) sc_Term___init__.nd rfl (Or.inl rfl))) (fun _ _ _ _ _ => (by exact pts_nil)) (fun _ _ _ _ _ => (by exact (pe_fldK (K := K) (pv 4))))) pa_nil) (pk_cons pe_int pk_nil))) rfl)
      (pss_cons (ps_fld (pv 0) (pe_op op_add pe_int (pc_sum rfl T (pa_cons (pe_lc (own := [("child", 4)]) rfl sc_Term___init__.nd (pi_tup (pv 1)) (blkOk_by (N := n_Term___init__) (sc := defScope s_Term___init__) (by decide +kernel)) (fun _ _ _ _ _ => (pg_name (i := 4) sc_Term___init__.nd rfl (Or.inl rfl))) (fun _ _ _ _ _ => (by exact pts_nil)) (fun _ _ _ _ _ => (by exact (pe_fldK (K := K) (pv 4))))) pa_nil))) rfl)
      (pss_cons (ps_fld (pv 0) (pe_op op_add (pv 2) (pc_sum rfl T (pa_cons (pe_lc (own := [("child", 4)]) rfl sc_Term___init__.nd (pi_tup (pv 1)) (blkOk_by (N := n_Term___init__) (sc := defScope s_Term___init__) (by decide +kernel)) (fun _ _ _ _ _ => (pg_name (i := 4) sc_Term___init__.nd rfl (Or.inl rfl))) (fun _ _ _ _ _ => (by exact pts_nil)) (fun _ _ _ _ _ => (by exact (pe_fldK (K := K) (pv 4))))) pa_nil))) rfl)
      (pss_cons (ps_fld (pv 0) (pe_op op_add (pv 3) (pc_sum rfl T (pa_cons (pe_lc (own := [("child", 4)]) rfl sc_Term___init__.nd (pi_tup (pv 1)) (blkOk_by (N := n_Term___init__) (sc := defScope s_Term___init__) (by decide +kernel)) (fun _ _ _ _ _ => (pg_name (i := 4) sc_Term___init__.nd rfl (Or.inl rfl))) (fun _ _ _ _ _ => (by exact pts_nil)) (fun _ _ _ _ _ => (by exact (pe_fldK (K := K) (pv 4))))) pa_nil))) rfl)
      (pss_one (ps_if (PW.pt (pw_or (pt_cmpR op_gt (pe_fld (pv 0) rfl) (pe_glob rfl g_MOST_DEPTH rel_i) (nomark _)) (pw_or (pt_cmpR op_gt (pe_fld (pv 0) rfl) (pe_glob rfl g_MOST_PARTS rel_i) (nomark _)) (pw_or1 (pt_cmpR op_gt (pe_fld (pv 0) rfl) (pe_glob rfl g_MOST_LOOKS rel_i) (nomark _))))))
        (pss_one ps_never)
        pss_nil))))))), ?_⟩
    -- self.children = children
    refine ⟨_, rfl, _, rfl, p, C, dx, fs, rfl, hp, TC.cl, TC.nCh, by show fs.length < 1000; omega, ?_⟩
    have f1 : putF "children" (V.ref ch) fs = fs ++ one "children" (V.ref ch) := putF_one (hk _ (by decide +kernel))
    rw [f1]
    -- the kids stand whatever self's fields are
    have kid : ∀ (H1 : Hp), (∀ a o, H a = some o → a ≠ p → H1 a = some o) → ∀ (n : Nat) c, cs[n]? = some c → ∃ z, zs[n]? = some z ∧ Kid K H1 c z := fun H1 k1 n c hn => by
      have il : n < zs.length := by have := (List.getElem?_eq_some_iff.mp hn).1; omega
      obtain ⟨kd, ne⟩ := hc n c _ hn (List.getElem?_eq_getElem il)
      exact ⟨_, List.getElem?_eq_getElem il, kd.same fun o e => k1 c o e ne⟩
    have up : ∀ (o : HO) (H1 : Hp), (∀ a u, H a = some u → a ≠ p → H1 a = some u) → ∀ a u, H a = some u → a ≠ p → (upd H1 p o) a = some u := fun o H1 k a u e ne => by rw [upd_ne ne]; exact k a u e ne
    have nx : ∀ (H1 H2 : Hp), (∀ a u, H a = some u → a ≠ p → H1 a = some u) → Same H1 H2 → ∀ a u, H a = some u → a ≠ p → H2 a = some u := fun H1 H2 k s a u e ne => s _ _ (k a u e ne)
    have key : ∀ {ks : List Str} {k : Str}, k ∈ kN → k ∉ ks → k ∉ fs.map (·.1) ++ ks := fun {ks k} h1 h2 h => (List.mem_append.mp h).elim (hk k h1) h2
    -- depth
    have k1 := up (.ins C dx (fs ++ one "children" (V.ref ch))) H fun a u e _ => e
    have p1 : (upd H p (.ins C dx (fs ++ one "children" (V.ref ch)))) p = some (.ins C dx (fs ++ one "children" (V.ref ch))) := upd_same
    generalize upd H p (.ins C dx (fs ++ one "children" (V.ref ch))) = H1 at k1 p1 ⊢
    refine ⟨_, rfl, ch, rfl, ⟨_, seqT_keep hp k1 ht⟩, fun D2 n2 => lc_fld (ns := zs.map (·.d)) (cs := cs) n2 (seqT_keep hp k1 ht) (by rw [List.length_map]; omega) (fun H2 s2 n c hn => ?_) (by rw [List.length_map]; exact hl) (fun H2 s2 d2 => ?_) (fun _ => rfl) (fun _ => rfl)⟩
    · obtain ⟨z, hz, C', dx', fs', e, TC', e1, e2, e3, e4⟩ := kid H2 (nx _ _ k1 s2) n c hn
      exact ⟨C', dx', fs', z.d, by rw [List.getElem?_map, hz]; rfl, e, TC'.cl, TC'.nD, e1⟩
    have k2 := nx _ _ k1 s2
    have p2 := s2 _ _ p1
    refine ⟨D2, _, 0, rfl, rfl, SqL.of d2, _, _, rfl, rfl, _, rfl, p, C, dx, _, rfl, p2, TC.cl, TC.nD, by rw [List.length_append]; show fs.length + 1 < 1000; omega, ?_⟩
    rw [putF_one (by rw [keys_one]; exact key (by decide +kernel) (by decide +kernel))]
    -- parts
    have k3 := up (.ins C dx (fs ++ one "children" (V.ref ch) ++ one "depth" (.int (1 + maxOr 0 (zs.map (·.d)))))) _ k2
    have p3 : (upd H2 p (.ins C dx (fs ++ one "children" (V.ref ch) ++ one "depth" (.int (1 + maxOr 0 (zs.map (·.d))))))) p = some _ := upd_same
    generalize upd H2 p _ = H3 at k3 p3 ⊢
    refine ⟨_, rfl, ch, rfl, ⟨_, seqT_keep hp k3 ht⟩, fun D4 n4 => lc_fld (ns := zs.map (·.p)) (cs := cs) n4 (seqT_keep hp k3 ht) (by rw [List.length_map]; omega) (fun H4 s4 n c hn => ?_) (by rw [List.length_map]; exact hl) (fun H4 s4 d4 => ?_) (fun _ => rfl) (fun _ => rfl)⟩
    · obtain ⟨z, hz, C', dx', fs', e, TC', e1, e2, e3, e4⟩ := kid H4 (nx _ _ k3 s4) n c hn
      exact ⟨C', dx', fs', z.p, by rw [List.getElem?_map, hz]; rfl, e, TC'.cl, TC'.nP, e2⟩
    have k4 := nx _ _ k3 s4
    have p4 := s4 _ _ p3
    refine ⟨D4, _, rfl, SqL.of d4, _, _, rfl, rfl, _, rfl, p, C, dx, _, rfl, p4, TC.cl, TC.nP, by rw [List.length_append, List.length_append]; show fs.length + 1 + 1 < 1000; omega, ?_⟩
    rw [putF_one (by rw [keys_one, keys_one, List.append_assoc]; exact key (by decide +kernel) (by decide +kernel))]
    have k5 := up (.ins C dx (fs ++ one "children" (V.ref ch) ++ one "depth" (.int (1 + maxOr 0 (zs.map (·.d)))) ++ one "parts" (.int (1 + (zs.map (·.p)).sum)))) _ k4
    have p5 : (upd H4 p (.ins C dx (fs ++ one "children" (V.ref ch) ++ one "depth" (.int (1 + maxOr 0 (zs.map (·.d)))) ++ one "parts" (.int (1 + (zs.map (·.p)).sum))))) p = some _ := upd_same
    generalize upd H4 p _ = H5 at k5 p5 ⊢
    -- looks
    refine ⟨_, rfl, ?_⟩
    refine ⟨_, rfl, ch, rfl, ⟨_, seqT_keep hp k5 ht⟩, fun D6 n6 => lc_fld (ns := zs.map (·.l)) (cs := cs) n6 (seqT_keep hp k5 ht) (by rw [List.length_map]; omega) (fun H6 s6 n c hn => ?_) (by rw [List.length_map]; exact hl) (fun H6 s6 d6 => ?_) (fun _ => rfl) (fun _ => rfl)⟩
    · obtain ⟨z, hz, C', dx', fs', e, TC', e1, e2, e3, e4⟩ := kid H6 (nx _ _ k5 s6) n c hn
      exact ⟨C', dx', fs', z.l, by rw [List.getElem?_map, hz]; rfl, e, TC'.cl, TC'.nL, e3⟩
    have k6 := nx _ _ k5 s6
    have p6 := s6 _ _ p5
    refine ⟨D6, _, rfl, SqL.of d6, _, _, rfl, rfl, _, rfl, p, C, dx, _, rfl, p6, TC.cl, TC.nL, by rw [List.length_append, List.length_append, List.length_append]; show fs.length + 1 + 1 + 1 < 1000; omega, ?_⟩
    rw [putF_one (by rw [keys_one, keys_one, keys_one, List.append_assoc, List.append_assoc]; exact key (by decide +kernel) (by decide +kernel))]
    have k7 := up (.ins C dx (fs ++ one "children" (V.ref ch) ++ one "depth" (.int (1 + maxOr 0 (zs.map (·.d)))) ++ one "parts" (.int (1 + (zs.map (·.p)).sum)) ++ one "looks" (.int (lo + (zs.map (·.l)).sum)))) _ k6
    have p7 : (upd H6 p (.ins C dx (fs ++ one "children" (V.ref ch) ++ one "depth" (.int (1 + maxOr 0 (zs.map (·.d)))) ++ one "parts" (.int (1 + (zs.map (·.p)).sum)) ++ one "looks" (.int (lo + (zs.map (·.l)).sum))))) p = some _ := upd_same
    generalize upd H6 p _ = H7 at k7 p7 ⊢
    -- choices
    refine ⟨_, rfl, ?_⟩
    refine ⟨_, rfl, ch, rfl, ⟨_, seqT_keep hp k7 ht⟩, fun D8 n8 => lc_fld (ns := zs.map (·.c)) (cs := cs) n8 (seqT_keep hp k7 ht) (by rw [List.length_map]; omega) (fun H8 s8 n c hn => ?_) (by rw [List.length_map]; exact hl) (fun H8 s8 d8 => ?_) (fun _ => rfl) (fun _ => rfl)⟩
    · obtain ⟨z, hz, C', dx', fs', e, TC', e1, e2, e3, e4⟩ := kid H8 (nx _ _ k7 s8) n c hn
      exact ⟨C', dx', fs', z.c, by rw [List.getElem?_map, hz]; rfl, e, TC'.cl, TC'.nC, e4⟩
    have k8 := nx _ _ k7 s8
    have p8 := s8 _ _ p7
    refine ⟨D8, _, rfl, SqL.of d8, _, _, rfl, rfl, _, rfl, p, C, dx, _, rfl, p8, TC.cl, TC.nC, by rw [List.length_append, List.length_append, List.length_append, List.length_append]; show fs.length + 1 + 1 + 1 + 1 < 1000; omega, ?_⟩
    rw [putF_one (by rw [keys_one, keys_one, keys_one, keys_one, List.append_assoc, List.append_assoc, List.append_assoc]; exact key (by decide +kernel) (by decide +kernel))]
    have eF : fs ++ one "children" (V.ref ch) ++ one "depth" (.int (1 + maxOr 0 (zs.map (·.d)))) ++ one "parts" (.int (1 + (zs.map (·.p)).sum)) ++ one "looks" (.int (lo + (zs.map (·.l)).sum)) ++ one "choices" (.int (co + (zs.map (·.c)).sum)) = fs ++ allF ch (szOf lo co zs) := by
      rw [List.append_assoc, List.append_assoc, List.append_assoc, List.append_assoc]; rfl
    rw [eF]
    have k9 := up (.ins C dx (fs ++ allF ch (szOf lo co zs))) _ k8
    have p9 : (upd H8 p (.ins C dx (fs ++ allF ch (szOf lo co zs)))) p = some _ := upd_same
    generalize upd H8 p _ = H9 at k9 p9 ⊢
    -- the limits
    have lkp : ∀ {k : Str} {v : V} {i : Nat}, k ∈ kN → (allF ch (szOf lo co zs))[i]? = some (k, v) → kN.idxOf k = i → (fs ++ allF ch (szOf lo co zs)).lookup k = some v := fun {k v i} h1 h2 h3 => by
      rw [List.lookup_append, lk_no rfl (hk k h1)]
      exact lk_of (ks := kN) rfl h2 h3
    refine ⟨_, rfl, p, C, dx, _, _, rfl, p9, TC.cl, TC.nD, lkp (i := 1) (by decide +kernel) rfl (by decide +kernel), _, _, rfl, rfl, _, rfl, ?_⟩
    rw [decide_eq_false (by omega)]
    refine ⟨_, rfl, p, C, dx, _, _, rfl, p9, TC.cl, TC.nP, lkp (i := 2) (by decide +kernel) rfl (by decide +kernel), _, _, rfl, rfl, _, rfl, ?_⟩
    rw [decide_eq_false (by omega)]
    refine ⟨_, rfl, p, C, dx, _, _, rfl, p9, TC.cl, TC.nL, lkp (i := 3) (by decide +kernel) rfl (by decide +kernel), _, _, rfl, rfl, _, rfl, ?_⟩
    rw [decide_eq_false (by omega)]
    exact q _ k9 p9
end
end Pl

namespace Pl
open PySem L2 PySem.Spec PyProof.Rows
section
variable {P : Program} {w : World} {K : Fg} {mg : Str → Option Value} {base : Heap} {A : CA} {ks : Kd → Bool}
theorem same_made {H H' : Hp} {x dx C : Addr} (nx : H x = none) (ndx : H dx = none) (k : ∀ a o, (upd (upd H dx (.own x)) x (.ins C dx [])) a = some o → a ≠ x → H' a = some o) : Same H H' := fun a o z =>
  k a o (by rw [upd_ne (ne_of_none z nx), upd_ne (ne_of_none z ndx)]; exact z) (ne_of_none z nx)
theorem same_upd2 {H : Hp} {x dx C : Addr} (nx : H x = none) (ndx : H dx = none) : Same H (upd (upd H dx (.own x)) x (.ins C dx [])) := fun a o z => by
  rw [upd_ne (ne_of_none z nx), upd_ne (ne_of_none z ndx)]; exact z
theorem TermAt.ne {H : Hp} {t : Tm} {a p C dx : Addr} (x : TermAt A H t a) (hp : H p = some (.ins C dx [])) : a ≠ p := by
  obtain ⟨dx', ch, os, h, e⟩ := x.hd
  refine ne_of h hp fun z => ?_
  injection z with _ _ z
  cases os with
  | nil => cases z
  | cons y r => cases z
def spNInit (A : CA) : Sp := fun vs H Q _ => ∃ p dx, vs = [.ref p] ∧ H p = some (.ins (A.cls .now) dx []) ∧ ∀ H', (∀ a o, H a = some o → a ≠ p → H' a = some o) → TermAt A H' .now p → Q .non H'
theorem ok_Now_init (D : DfI K mg "Now" "Now.__init__" (A.cls .now) s_Now___init__ p_Now___init__) (TT : TTx K mg A ks) (c_init : CalC P w K mg base CX0 A.T "__init__" 1 (spTInit K)) : CalM P w K mg base CX0 "Now" (A.cls .now) 2 (spNInit A) := by
  refine D.cal sc_Now___init__ (fun vs H Q E h => ?_) (fun f cdv A outer s H vs Q E hr h => ?_)
  · obtain ⟨p, dx, rfl, _⟩ := h; rfl
  · obtain ⟨p, dx, rfl, hp, q⟩ := h
    have g_Term := TT.gT
    refine ⟨_, (pss_one (ps_expr (pclx c_init hr (by decide) pass0 (pe_glob rfl g_Term rel_r) (pa_cons (pv 0) (pa_cons (pe_tup pa_nil) (pa_cons pe_int (pa_cons pe_int pa_nil))))))), ?_⟩
    refine ⟨rfl, _, rfl, by show 0 ≤ sizeLine; decide, fun ch hch => ?_⟩
    have k1 : ∀ a o, H a = some o → (upd H ch (.tup [])) a = some o := fun a o e => by rw [upd_ne (ne_of_none e hch)]; exact e
    refine ⟨p, ch, _, dx, 0, 0, [], [], [], rfl, k1 _ _ hp, (TT.at_ _ TT.n).cl, (fun k _ h => (by cases h)), by decide, SqT.of upd_same, rfl, by decide, fun n c z h => by simp at h, by decide, by decide, by decide, fun H' k2 h => ?_⟩
    refine q H' (fun a o e ne => k2 _ _ (k1 _ _ e) ne) ⟨dx, ch, h, k2 _ _ upd_same ?_⟩
    intro z; subst z; rw [hp] at hch; cases hch
def spSInit (A : CA) (ks : Kd → Bool) : Sp := fun vs H Q _ => ∃ p dx m c t, vs = [.ref p, .ref m, .int c] ∧ H p = some (.ins (A.cls .shift) dx []) ∧ TermAt A H t m ∧ ks t.kd = true ∧ Fit (Tm.sz (.shift t c)) ∧ ∀ H', (∀ a o, H a = some o → a ≠ p → H' a = some o) → TermAt A H' (.shift t c) p → Q .non H'
theorem ok_Shift_init (D : DfI K mg "Shift" "Shift.__init__" (A.cls .shift) s_Shift___init__ p_Shift___init__) (TT : TTx K mg A ks) (c_init : CalC P w K mg base CX0 A.T "__init__" 1 (spTInit K)) : CalM P w K mg base CX0 "Shift" (A.cls .shift) 2 (spSInit A ks) := by
  refine D.cal sc_Shift___init__ (fun vs H Q E h => ?_) (fun f cdv A' outer s H vs Q E hr h => ?_)
  · obtain ⟨p, dx, m, c, t, rfl, _⟩ := h; rfl
  · obtain ⟨p, dx, m, c, t, rfl, hp, hm, hk, ⟨f1, f2, f3⟩, q⟩ := h
    have g_Term := TT.gT
    have KS := TT.at_ _ TT.s
    refine ⟨_, (pss_cons (ps_fld (pv 0) (pv 1) rfl)
      (pss_cons (ps_fld (pv 0) (pv 2) rfl)
      (pss_one (ps_expr (pclx c_init hr (by decide) pass0 (pe_glob rfl g_Term rel_r) (pa_cons (pv 0) (pa_cons (pe_tup (pa_cons (pv 1) pa_nil)) (pa_cons pe_int (pa_cons pe_int pa_nil))))))))), ?_⟩
    refine ⟨_, rfl, _, rfl, p, _, dx, [], rfl, hp, KS.cl.cl, KS.no _ (by decide +kernel), by show 0 < 1000; decide, ?_⟩
    refine ⟨_, rfl, _, rfl, p, _, dx, _, rfl, upd_same, KS.cl.cl, KS.no _ (by decide +kernel), by show 1 < 1000; decide, ?_⟩
    rw [upd_upd]
    have e1 : putF "amount" (V.int c) (putF "moment" (V.ref m) []) = shO m c := putF_one (fs := one "moment" (.ref m)) (by show ¬ (Str.ofString "amount") ∈ ([Str.ofString "moment"] : List Str); decide +kernel)
    rw [e1]
    have npm : m ≠ p := hm.ne hp
    generalize hH : upd H p (.ins (A.cls .shift) dx (shO m c)) = H1
    have p1 : H1 p = some (.ins (A.cls .shift) dx (shO m c)) := by rw [← hH]; exact upd_same
    have k0 : ∀ a o, H a = some o → a ≠ p → H1 a = some o := fun a o e ne => by rw [← hH, upd_ne ne]; exact e
    refine ⟨rfl, _, rfl, _, rfl, by show 1 ≤ sizeLine; decide, fun ch hch => ?_⟩
    have k1 : ∀ a o, H1 a = some o → (upd H1 ch (.tup [.ref m])) a = some o := fun a o e => by rw [upd_ne (ne_of_none e hch)]; exact e
    have npc : ch ≠ p := by intro z; subst z; rw [p1] at hch; cases hch
    refine ⟨p, ch, _, dx, 0, 0, _, [m], [t.sz], rfl, k1 _ _ p1, KS.cl, (by show ∀ k ∈ kN, k ∉ ([Str.ofString "moment", Str.ofString "amount"] : List Str); decide +kernel), by show 2 ≤ 10; decide, SqT.of upd_same, rfl, by show 1 ≤ 2; decide, fun n c' z h1 h2 => ?_, f1, f2, f3, fun H' k2 h => ?_⟩
    · cases n with
      | zero =>
        simp at h1 h2
        subst h1; subst h2
        exact ⟨(hm.but hp fun a o e ne => k1 _ _ (k0 _ _ e ne)).kid (TT.at_ _ hk).cl, npm⟩
      | succ n => simp at h1
    · have kk : ∀ a o, H a = some o → a ≠ p → H' a = some o := fun a o e ne => k2 _ _ (k1 _ _ (k0 _ _ e ne)) ne
      exact q H' kk ⟨dx, ch, m, h, k2 _ _ upd_same npc, hm.but hp kk⟩
/-! ### shifts -/
def spSh1 (A : CA) (ks : Kd → Bool) : Sp := fun vs H Q _ => ∃ a c t, vs = [.ref a, .int c] ∧ TermAt A H t a ∧ ks t.kd = true ∧ t.kd ≠ .shift ∧ Fit (t.shd c).sz ∧ ∀ p H', Same H H' → TermAt A H' (t.shd c) p → Q (.ref p) H'
def spSh (A : CA) (ks : Kd → Bool) : Sp := fun vs H Q _ => ∃ a c t, vs = [.ref a, .int c] ∧ TermAt A H t a ∧ Good ks t ∧ Fit (t.shd c).sz ∧ ∀ p H', Same H H' → TermAt A H' (t.shd c) p → Q (.ref p) H'
theorem shd_ns {t : Tm} {c : Int} (h : t.kd ≠ .shift) : t.shd c = if c = 0 then t else .shift t c := by
  cases t <;> first | rfl | exact absurd rfl h
theorem ok_shifted1 (D : Df K mg "shifted" "shifted" s_shifted p_shifted) (T : Tx K mg) (TT : TTx K mg A ks) (g_Shift : mg "Shift" = some (.ref (A.cls .shift))) (c_Shift : CalM P w K mg base CX0 "Shift" (A.cls .shift) 2 (spSInit A ks)) : Cal P w K mg base CX0 "shifted" 4 (spSh1 A ks) := by
  refine D.cal fun f fd F => F.ok sc_shifted (fun vs H Q E h => ?_) (fun cdv A' outer s H vs Q E hr h => ?_)
  · obtain ⟨a, c, t, rfl, _⟩ := h; rfl
  · obtain ⟨a, c, t, rfl, ha, hk, hs, ft, q⟩ := h
    refine ⟨_, (pss_cons (ps_if (pt_cmpR op_eq (pv 1) pe_int (nomark _))
        (pss_one (ps_ret (pv 0)))
        pss_nil)
      (pss_cons (ps_if (pt_val (pc_isi T (pa_cons (pv 0) (pa_cons (pe_glob rfl g_Shift rel_r) pa_nil))))
        (pss_one ps_never)
        pss_nil)
      (pss_one (ps_ret (pmk c_Shift hr (by decide) (pa_cons (pv 0) (pa_cons (pv 1) pa_nil))))))), ?_⟩
    rw [shd_ns hs] at ft q
    refine ⟨_, rfl, rfl, _, rfl, ite2 (fun z => ?_) (fun z => ?_)⟩
    · have z : c = 0 := by simpa using z
      rw [if_pos z] at q
      exact ⟨_, rfl, q a H (Same.refl H) ha⟩
    · have z : c ≠ 0 := by simpa using z
      rw [if_neg z] at q ft
      obtain ⟨dx, ch, os, h1, _⟩ := ha.hd
      refine ⟨_, rfl, _, _, _, _, false, rfl, .own _, (TT.at_ _ hk).isi.ty (TT.at_ _ hk).cl.cl h1, ((TT.kS _ hk).trans (by rw [decide_eq_false hs])), _, rfl, iteF ?_⟩
      refine ⟨_, rfl, _, rfl, fun x dx' nx ndx nex => ?_⟩
      refine ⟨x, dx', a, c, t, rfl, upd_same, ha.same (same_upd2 nx ndx), hk, ft, fun H' kk sh => ⟨rfl, ?_⟩⟩
      exact q x H' (same_made nx ndx kk) sh
theorem sh_mom {m ch : Addr} {c : Int} {z : Sz} : (shO m c ++ allF ch z).lookup ("moment" : Str) = some (.ref m) := f_own (ks := ["moment", "amount"]) (i := 0) rfl rfl (by decide +kernel)
theorem sh_amt {m ch : Addr} {c : Int} {z : Sz} : (shO m c ++ allF ch z).lookup ("amount" : Str) = some (.int c) := f_own (ks := ["moment", "amount"]) (i := 1) rfl rfl (by decide +kernel)
theorem ok_shifted (D : Df K mg "shifted" "shifted" s_shifted p_shifted) (T : Tx K mg) (TT : TTx K mg A ks) (g_Shift : mg "Shift" = some (.ref (A.cls .shift))) (c_Shift : CalM P w K mg base CX0 "Shift" (A.cls .shift) 2 (spSInit A ks)) (c_shifted : Cal P w K mg base CX0 "shifted" 4 (spSh1 A ks)) : Cal P w K mg base CX0 "shifted" 5 (spSh A ks) := by
  refine D.cal fun f fd F => F.ok sc_shifted (fun vs H Q E h => ?_) (fun cdv A' outer s H vs Q E hr h => ?_)
  · obtain ⟨a, c, t, rfl, _⟩ := h; rfl
  · obtain ⟨a, c, t, rfl, ha, g, ft, q⟩ := h
    have hk := g.k
    refine ⟨_, (pss_cons (ps_if (pt_cmpR op_eq (pv 1) pe_int (nomark _))
        (pss_one (ps_ret (pv 0)))
        pss_nil)
      (pss_cons (ps_if (pt_val (pc_isi T (pa_cons (pv 0) (pa_cons (pe_glob rfl g_Shift rel_r) pa_nil))))
        (pss_one (ps_ret (pc c_shifted hr (by decide) (pa_cons (pe_fld (pv 0) rfl) (pa_cons (pe_op op_add (pe_fld (pv 0) rfl) (pv 1)) pa_nil)))))
        pss_nil)
      (pss_one (ps_ret (pmk c_Shift hr (by decide) (pa_cons (pv 0) (pa_cons (pv 1) pa_nil))))))), ?_⟩
    refine ⟨_, rfl, rfl, _, rfl, ite2 (fun z => ?_) (fun z => ?_)⟩
    · have z : c = 0 := by simpa using z
      have e : t.shd c = t := by cases t <;> exact if_pos z
      rw [e] at q
      exact ⟨_, rfl, q a H (Same.refl H) ha⟩
    · have z : c ≠ 0 := by simpa using z
      by_cases hs : t.kd = .shift
      · cases t with
        | shift m b =>
          obtain ⟨dx, ch, ma, h1, h2, h3⟩ := id ha
          have KS := TT.at_ _ TT.s
          refine ⟨_, rfl, _, _, _, _, true, rfl, .own _, KS.isi.ty KS.cl.cl h1, ((TT.kS _ TT.s).trans rfl), _, rfl, iteT ?_⟩
          have e : (Tm.shift m b).shd c = m.shd (b + c) := by
            rw [shd_ns g.2.2.2]
            show (if c = 0 then Tm.shift m b else if b + c = 0 then m else .shift m (b + c)) = _
            rw [if_neg z]
          rw [e] at ft q
          exact ⟨_, rfl, a, _, dx, _, _, rfl, h1, KS.cl.cl, KS.no _ (by decide +kernel), sh_mom, _, rfl, a, _, dx, _, _, rfl, h1, KS.cl.cl, KS.no _ (by decide +kernel), sh_amt, _, rfl, _, _, rfl, rfl, ma, b + c, m, rfl, h3, g.2.1.k, g.2.2.2, ft, q⟩
        | _ => cases hs
      · rw [shd_ns hs] at ft q
        rw [if_neg z] at q ft
        obtain ⟨dx, ch, os, h1, _⟩ := ha.hd
        refine ⟨_, rfl, _, _, _, _, false, rfl, .own _, (TT.at_ _ hk).isi.ty (TT.at_ _ hk).cl.cl h1, ((TT.kS _ hk).trans (by rw [decide_eq_false hs])), _, rfl, iteF ?_⟩
        refine ⟨_, rfl, _, rfl, fun x dx' nx ndx nex => ?_⟩
        refine ⟨x, dx', a, c, t, rfl, upd_same, ha.same (same_upd2 nx ndx), hk, ft, fun H' kk sh => ⟨rfl, ?_⟩⟩
        exact q x H' (same_made nx ndx kk) sh
/-! ### + and - -/
theorem ok_Term_add (D : ∃ f fd, Fun K "__add__" "Term.__add__" s_Term___add__ f fd ∧ (∀ k, ks k = true → Meth K (A.cls k) "__add__" f) ∧ Binds K fd p_Term___add__ []) (TT : TTx K mg A ks) (c_check_moment : Cal P w K mg base CX0 "check_moment" 2 spChkM) (c_shifted : Cal P w K mg base CX0 "shifted" 5 (spSh A ks)) :
    ∀ C sp, (∃ k, ks k = true ∧ C = A.cls k) ∧ sp = spSh A ks → CalI P w K mg base CX0 C "__add__" 6 sp := by
  obtain ⟨f, fd, F, mm, hb⟩ := D
  have G : FnOk P w K mg base CX0 6 f fd p_Term___add__ (spSh A ks) := by
    refine F.ok sc_Term___add__ (fun vs H Q E h => ?_) (fun cdv A' outer s H vs Q E hr h => ?_)
    · obtain ⟨a, c, t, rfl, _⟩ := h; rfl
    · obtain ⟨a, c, t, rfl, ha, g, ft, q⟩ := h
      refine ⟨_, (pss_cons (ps_expr (pc c_check_moment hr (by decide) (pa_cons (pv 1) pa_nil)))
      (pss_one (ps_ret (pc c_shifted hr (by decide) (pa_cons (pv 0) (pa_cons (pv 1) pa_nil)))))), ?_⟩
      exact ⟨_, rfl, c, rfl, _, rfl, _, rfl, a, c, t, rfl, ha, g, ft, q⟩
  rintro C sp ⟨⟨k, hk, rfl⟩, rfl⟩
  exact ⟨f, fd, _, G, mm k hk, (TT.at_ k hk).cl.cl, hb⟩
def spSub (A : CA) (ks : Kd → Bool) : Sp := fun vs H Q _ => ∃ a c t, vs = [.ref a, .int c] ∧ TermAt A H t a ∧ Good ks t ∧ Fit (t.shd (-c)).sz ∧ ∀ p H', Same H H' → TermAt A H' (t.shd (-c)) p → Q (.ref p) H'
theorem ok_Term_sub (D : ∃ f fd, Fun K "__sub__" "Term.__sub__" s_Term___sub__ f fd ∧ (∀ k, ks k = true → Meth K (A.cls k) "__sub__" f) ∧ Binds K fd p_Term___sub__ []) (TT : TTx K mg A ks) (c_check_moment : Cal P w K mg base CX0 "check_moment" 2 spChkM) (c_shifted : Cal P w K mg base CX0 "shifted" 5 (spSh A ks)) :
    ∀ C sp, (∃ k, ks k = true ∧ C = A.cls k) ∧ sp = spSub A ks → CalI P w K mg base CX0 C "__sub__" 6 sp := by
  obtain ⟨f, fd, F, mm, hb⟩ := D
  have G : FnOk P w K mg base CX0 6 f fd p_Term___sub__ (spSub A ks) := by
    refine F.ok sc_Term___sub__ (fun vs H Q E h => ?_) (fun cdv A' outer s H vs Q E hr h => ?_)
    · obtain ⟨a, c, t, rfl, _⟩ := h; rfl
    · obtain ⟨a, c, t, rfl, ha, g, ft, q⟩ := h
      refine ⟨_, (pss_cons (ps_expr (pc c_check_moment hr (by decide) (pa_cons (pv 1) pa_nil)))
      (pss_one (ps_ret (pc c_shifted hr (by decide) (pa_cons (pv 0) (pa_cons (pe_un un_neg (pv 1)) pa_nil)))))), ?_⟩
      exact ⟨_, rfl, c, rfl, _, rfl, _, rfl, _, rfl, a, -c, t, rfl, ha, g, ft, q⟩
  rintro C sp ⟨⟨k, hk, rfl⟩, rfl⟩
  exact ⟨f, fd, _, G, mm k hk, (TT.at_ k hk).cl.cl, hb⟩
end
end Pl

namespace Pl
open PySem L2 PySem.Spec PyProof.Rows
section
variable {P : Program} {w : World} {K : Fg} {mg : Str → Option Value} {base : Heap} {A : CA} {ks : Kd → Bool} {CW : Addr}
theorem ite_t {b : Bool} {α β : Prop} (hb : b = true) (h : α) : if b = true then α else β := by rw [if_pos hb]; exact h
theorem ite_f {b : Bool} {α β : Prop} (hb : b = false) (h : β) : if b = true then α else β := by rw [if_neg (by rw [hb]; decide)]; exact h
/-! ### checks -/
def spCnt : Sp := fun vs H Q _ => ∃ i, vs = [.int i] ∧ Q (.bl (decide (0 ≤ i))) H
theorem ok_is_count (D : Df K mg "is_count" "is_count" s_is_count p_is_count) (c_is_integer : Cal P w K mg base CX0 "is_integer" 1 (spIsInt K)) : Cal P w K mg base CX0 "is_count" 2 spCnt := by
  refine D.cal fun f fd F => F.ok sc_is_count (fun vs H Q E h => ?_) (fun cdv A' outer s H vs Q E hr h => ?_)
  · obtain ⟨i, rfl, _⟩ := h; rfl
  · obtain ⟨i, rfl, q⟩ := h
    refine ⟨_, (pss_one (ps_ret (pe_and (pc c_is_integer hr (by decide) (pa_cons (pv 0) pa_nil)) (pe_one (pe_cmpR op_ge (pv 0) pe_int (nomark _)))))), ?_⟩
    refine ⟨_, rfl, _, _, true, false, rfl, .base (.int i), kit_ty (by decide +kernel), fun _ => kit_ty (by decide +kernel), ?_⟩
    refine ⟨_, rfl, iteT ?_⟩
    exact ⟨_, rfl, _, _, rfl, rfl, q⟩
def spLimC : Sp := fun vs H Q _ => ∃ lim : Option Int, vs = [limV lim] ∧ (∀ i, lim = some i → 0 ≤ i) ∧ Q .non H
def spBnd : Sp := fun vs H Q _ => ∃ i : Int, vs = [.int i] ∧ 0 ≤ i ∧ Q .non H
theorem ok_check_bound (D : Df K mg "check_bound" "check_bound" s_check_bound p_check_bound) (c_is_count : Cal P w K mg base CX0 "is_count" 2 spCnt) : Cal P w K mg base CX0 "check_bound" 3 spBnd := by
  refine D.cal fun f fd F => F.ok sc_check_bound (fun vs H Q E h => ?_) (fun cdv A' outer s H vs Q E hr h => ?_)
  · obtain ⟨i, rfl, _⟩ := h; rfl
  · obtain ⟨i, rfl, h0, q⟩ := h
    refine ⟨_, (pss_one (ps_if (pt_not (pt_val (pc c_is_count hr (by decide) (pa_cons (pv 0) pa_nil))))
        (pss_one ps_never)
        pss_nil)), ?_⟩
    refine ⟨_, rfl, i, rfl, _, rfl, ?_⟩
    rw [decide_eq_true h0]
    exact iteF q
theorem ok_check_limit (D : Df K mg "check_limit" "check_limit" s_check_limit p_check_limit) (c_check_bound : Cal P w K mg base CX0 "check_bound" 3 spBnd) : Cal P w K mg base CX0 "check_limit" 4 spLimC := by
  refine D.cal fun f fd F => F.ok sc_check_limit (fun vs H Q E h => ?_) (fun cdv A' outer s H vs Q E hr h => ?_)
  · obtain ⟨lim, rfl, _⟩ := h; rfl
  · obtain ⟨lim, rfl, hl, q⟩ := h
    refine ⟨_, (pss_one (ps_if (pt_cmpR op_notN (pv 0) pe_non (nomark _))
        (pss_one (ps_expr (pc c_check_bound hr (by decide) (pa_cons (pv 0) pa_nil))))
        pss_nil)), ?_⟩
    cases lim with
    | none => exact ⟨_, rfl, rfl, _, rfl, iteF q⟩
    | some i => exact ⟨_, rfl, rfl, _, rfl, iteT ⟨_, rfl, i, rfl, hl i rfl, q⟩⟩
def spChkT (A : CA) (ks : Kd → Bool) : Sp := fun vs H Q _ => ∃ a t, vs = [.ref a] ∧ TermAt A H t a ∧ ks t.kd = true ∧ Q .non H
theorem ok_check_term (D : Df K mg "check_term" "check_term" s_check_term p_check_term) (T : Tx K mg) (TT : TTx K mg A ks) : Cal P w K mg base CX0 "check_term" 1 (spChkT A ks) := by
  refine D.cal fun f fd F => F.ok sc_check_term (fun vs H Q E h => ?_) (fun cdv A' outer s H vs Q E hr h => ?_)
  · obtain ⟨a, t, rfl, _⟩ := h; rfl
  · obtain ⟨a, t, rfl, ha, hk, q⟩ := h
    have g_Term := TT.gT
    refine ⟨_, (pss_one (ps_if (pt_not (pt_val (pc_isi T (pa_cons (pv 0) (pa_cons (pe_glob rfl g_Term rel_r) pa_nil)))))
        (pss_one ps_never)
        pss_nil)), ?_⟩
    obtain ⟨dx, ch, os, h1, _⟩ := ha.hd
    have KX := TT.at_ _ hk
    exact ⟨_, rfl, _, _, _, _, true, rfl, .own _, KX.isi.ty KX.cl.cl h1, KX.kT, _, rfl, iteF q⟩
def spChkW (CW : Addr) : Sp := fun vs H Q _ => ∃ a dx fs, vs = [.ref a] ∧ H a = some (.ins CW dx fs) ∧ Q .non H
theorem ok_check_world (D : Df K mg "check_world" "check_world" s_check_world p_check_world) (T : Tx K mg) (WT : WTx K mg CW) (iW : Isi K CW) (kW : PySem.W.kitOne K (.ref CW) (.ref CW) = some true) : Cal P w K mg base CX0 "check_world" 1 (spChkW CW) := by
  refine D.cal fun f fd F => F.ok sc_check_world (fun vs H Q E h => ?_) (fun cdv A' outer s H vs Q E hr h => ?_)
  · obtain ⟨a, dx, fs, rfl, _⟩ := h; rfl
  · obtain ⟨a, dx, fs, rfl, ha, q⟩ := h
    have g_World := WT.g
    refine ⟨_, (pss_one (ps_if (pt_not (pt_val (pc_isi T (pa_cons (pv 0) (pa_cons (pe_glob rfl g_World rel_r) pa_nil)))))
        (pss_one ps_never)
        pss_nil)), ?_⟩
    exact ⟨_, rfl, _, _, _, _, true, rfl, .own CW, iW.ty WT.cl ha, kW, _, rfl, iteF q⟩
/-! ### lookup -/
theorem up_le {l : List Int} {i j : Nat} {x y : Int} (up : l.Pairwise (· ≤ ·)) (h : i ≤ j) (hx : l[i]? = some x) (hy : l[j]? = some y) : x ≤ y := by
  obtain ⟨a, rfl⟩ := List.getElem?_eq_some_iff.mp hx
  obtain ⟨b, rfl⟩ := List.getElem?_eq_some_iff.mp hy
  rcases Nat.lt_or_ge i j with g | g
  · exact List.pairwise_iff_getElem.mp up i j a b g
  · have : i = j := by omega
    subst this; exact Int.le_refl _
def spCount (K : Fg) : Sp := fun vs H Q _ => ∃ a l m, vs = [.ref a, .int m] ∧ SqL K H a (l.map V.int) ∧ l.length ≤ 1000 ∧ l.Pairwise (· ≤ ·) ∧ Q (.int (cntB l m)) H
theorem ok_count_before (D : Df K mg "count_before" "count_before" s_count_before p_count_before) (T : Tx K mg) : Cal P w K mg base CX0 "count_before" 1 (spCount K) := by
  refine D.cal fun f fd F => F.ok sc_count_before (fun vs H Q E h => ?_) (fun cdv A' outer s H vs Q E hr h => ?_)
  · obtain ⟨a, l, m, rfl, _⟩ := h; rfl
  · obtain ⟨a, l, m, rfl, hs, hl, up, q⟩ := h
    refine ⟨_, (pss_cons (ps_set (i := 2) sc_count_before.nd rfl (Or.inl rfl) pe_int)
      (pss_cons (ps_set (i := 3) sc_count_before.nd rfl (Or.inl rfl) (pc_len T (pa_cons (pv 0) pa_nil)))
      (pss_cons (ps_while PassesOwn.never (pt_cmpR op_lt (pv 2) (pv 3) (nomark _))
        (pss_cons (ps_set (i := 4) sc_count_before.nd rfl (Or.inl rfl) (pe_op op_fdiv (pe_op op_add (pv 2) (pv 3)) pe_int))
        (pss_one (ps_if (pt_cmpR op_lt (pe_ix ix_list (pv 0) (pv 4) (fun _ _ => rfl)) (pv 1) (nomark _))
          (pss_one (ps_set (i := 2) sc_count_before.nd rfl (Or.inl rfl) (pe_op op_add (pv 4) pe_int)))
          (pss_one (ps_set (i := 3) sc_count_before.nd rfl (Or.inl rfl) (pv 4)))))))
      (pss_one (ps_ret (pv 2)))))), ?_⟩
    refine ⟨_, rfl, _, _, rfl, .inl ⟨_, hs, rfl⟩, ?_⟩
    refine ⟨fun k σ H' => ∃ (lo hi : Nat) (x : Option V), H' = H ∧ σ = [some (.ref a), some (.int m), some (.int lo), some (.int hi), x] ∧ lo ≤ hi ∧ hi ≤ l.length ∧ k = hi - lo ∧ (∀ i x, i < lo → l[i]? = some x → x < m) ∧ (∀ i x, hi ≤ i → l[i]? = some x → ¬ x < m), ?_, ?_⟩
    · refine ⟨l.length, 0, l.length, none, rfl, ?_, Nat.zero_le _, Nat.le_refl _, rfl, fun i x h => absurd h (Nat.not_lt_zero _), fun i x h e => ?_⟩
      · rw [List.length_map]; rfl
      · have := (List.getElem?_eq_some_iff.mp e).1; omega
    · rintro k σ H' ⟨lo, hi, x, rfl, rfl, h1, h2, rfl, i1, i2⟩
      refine ⟨_, rfl, _, rfl, _, _, rfl, rfl, _, rfl, ite2 (fun z => ?_) (fun z => ?_)⟩
      · have z : (lo : Int) < hi := by simpa using z
        have ez : ((lo : Int) + hi) / 2 = (((lo + hi) / 2 : Nat) : Int) := by omega
        have em : lo ≤ (lo + hi) / 2 ∧ (lo + hi) / 2 < hi := by omega
        refine ⟨fun σ' H2 => ∃ (lo' hi' : Nat) (x : Option V), H2 = H' ∧ σ' = [some (.ref a), some (.int m), some (.int lo'), some (.int hi'), x] ∧ lo' ≤ hi' ∧ hi' ≤ l.length ∧ hi' - lo' < hi - lo ∧ (∀ i x, i < lo' → l[i]? = some x → x < m) ∧ (∀ i x, hi' ≤ i → l[i]? = some x → ¬ x < m), ?_, ?_⟩
        · rintro σ' H2 ⟨lo', hi', x, e1, e2, h1, h2, h3, h4⟩
          exact ⟨hi' - lo', h3, lo', hi', x, e1, e2, h1, h2, rfl, h4⟩
        · have hm : (lo + hi) / 2 < l.length := by omega
          refine ⟨_, rfl, _, rfl, _, _, rfl, rfl, _, _, rfl, rfl, ⟨by decide, by decide⟩, ?_⟩
          dsimp only
          rw [ez]
          obtain ⟨y, hy, hy'⟩ := atI_int (l := l) (z := (((lo + hi) / 2 : Nat) : Int)) (by omega) (by omega)
          rw [Int.toNat_natCast] at hy'
          refine ⟨_, rfl, _, rfl, a, _, _, _, rfl, rfl, hs, hy, ?_⟩
          refine ⟨_, rfl, _, _, rfl, rfl, _, rfl, ite2 (fun y1 => ?_) (fun y1 => ?_)⟩
          · have y1 : y < m := by simpa using y1
            refine ⟨_, rfl, _, _, rfl, rfl, ?_⟩
            exact ⟨(lo + hi) / 2 + 1, hi, _, rfl, rfl, by omega, h2, by omega, fun i x h e => Int.lt_of_le_of_lt (up_le up (Nat.le_of_lt_succ h) e hy') y1, i2⟩
          · have y1 : ¬ y < m := by simpa using y1
            refine ⟨_, rfl, ?_⟩
            exact ⟨lo, (lo + hi) / 2, _, rfl, rfl, em.1, by omega, by omega, i1, fun i x h e g => y1 (Int.lt_of_le_of_lt (up_le up h hy' e) g)⟩
      · have e : lo = hi := by
          have : ¬ (lo : Int) < hi := by simpa using z
          omega
        subst e
        rw [cntB_eq h2 i1 i2] at q
        exact ⟨_, rfl, q⟩
def optV : Option Int → V := limV
def spRow (K : Fg) : Sp := fun vs H Q _ => ∃ a l wy m, vs = [.ref a, .str wy, .int m] ∧ SqL K H a (l.map V.int) ∧ l.length ≤ 1000 ∧ l.Pairwise (· ≤ ·) ∧ wy ∈ ways ∧ Q (limV (lkRow l wy m)) H
theorem ok_row_found (D : Df K mg "row_found" "row_found" s_row_found p_row_found) (T : Tx K mg) (c_count_before : Cal P w K mg base CX0 "count_before" 1 (spCount K)) : Cal P w K mg base CX0 "row_found" 2 (spRow K) := by
  refine D.cal fun f fd F => F.ok sc_row_found (fun vs H Q E h => ?_) (fun cdv A' outer s H vs Q E hr h => ?_)
  · obtain ⟨a, l, wy, m, rfl, _⟩ := h; rfl
  · obtain ⟨a, l, wy, m, rfl, hs, hl, up, hw, q⟩ := h
    refine ⟨_, (pss_cons (ps_if (pt_cmpR op_eq (pv 1) pe_str (nomark _))
        (pss_one (ps_set (i := 3) sc_row_found.nd rfl (Or.inl rfl) (pe_op op_sub (pc c_count_before hr (by decide) (pa_cons (pv 0) (pa_cons (pe_op op_add (pv 2) pe_int) pa_nil))) pe_int)))
        (pss_one (ps_if (pt_cmpR op_eq (pv 1) pe_str (nomark _))
          (pss_one (ps_set (i := 3) sc_row_found.nd rfl (Or.inl rfl) (pe_op op_sub (pc c_count_before hr (by decide) (pa_cons (pv 0) (pa_cons (pv 2) pa_nil))) pe_int)))
          (pss_one (ps_if (pt_cmpR op_eq (pv 1) pe_str (nomark _))
            (pss_one (ps_set (i := 3) sc_row_found.nd rfl (Or.inl rfl) (pc c_count_before hr (by decide) (pa_cons (pv 0) (pa_cons (pv 2) pa_nil)))))
            (pss_one (ps_set (i := 3) sc_row_found.nd rfl (Or.inl rfl) (pc c_count_before hr (by decide) (pa_cons (pv 0) (pa_cons (pe_op op_add (pv 2) pe_int) pa_nil))))))))))
      (pss_cons (ps_if (pt_chain op_le op_lt pe_int (pv 3) (pc_len T (pa_cons (pv 0) pa_nil)))
        (pss_one (ps_ret (pe_ix ix_list (pv 0) (pv 3) (fun _ _ => rfl))))
        pss_nil)
      (pss_one (ps_ret pe_non)))), ?_⟩
    have cases4 : wy = "at" ∨ wy = "before" ∨ wy = "since" ∨ wy = "after" := by simpa [ways] using hw
    rcases cases4 with rfl | rfl | rfl | rfl
    · have e0 : plc l "at" m = (cntB l (m + 1) : Int) - 1 := by unfold plc; rw [if_pos rfl]
      unfold lkRow at q
      rw [e0] at q
      refine ⟨_, rfl, rfl, _, rfl, iteT ?_⟩
      refine ⟨_, rfl, _, rfl, _, _, rfl, rfl, a, l, m + 1, rfl, hs, hl, up, _, _, rfl, rfl, ?_⟩
      by_cases c0 : 0 ≤ (cntB l (m + 1) : Int) - 1
      · rw [if_pos c0] at q
        by_cases c1 : (cntB l (m + 1) : Int) - 1 < l.length
        · obtain ⟨y, hy, hy'⟩ := atI_int (l := l) c0 c1
          rw [hy'] at q
          exact ⟨_, rfl, _, _, rfl, rfl, _, rfl, ite_t (decide_eq_true c0) ⟨_, rfl, _, _, rfl, .inl ⟨_, hs, rfl⟩, _, _, rfl, rfl, _, rfl, ite_t (decide_eq_true (by rw [List.length_map]; exact c1)) ⟨_, rfl, _, rfl, a, _, _, _, rfl, rfl, hs, hy, q⟩⟩⟩
        · have e : l[((cntB l (m + 1) : Int) - 1).toNat]? = none := List.getElem?_eq_none_iff.mpr (by omega)
          rw [e] at q
          exact ⟨_, rfl, _, _, rfl, rfl, _, rfl, ite_t (decide_eq_true c0) ⟨_, rfl, _, _, rfl, .inl ⟨_, hs, rfl⟩, _, _, rfl, rfl, _, rfl, ite_f (decide_eq_false (by rw [List.length_map]; exact c1)) q⟩⟩
      · rw [if_neg c0] at q
        exact ⟨_, rfl, _, _, rfl, rfl, _, rfl, ite_f (decide_eq_false c0) ⟨_, rfl, iteF q⟩⟩
    · have e0 : plc l "before" m = (cntB l m : Int) - 1 := by unfold plc; rw [if_neg (by decide +kernel), if_pos rfl]
      unfold lkRow at q
      rw [e0] at q
      refine ⟨_, rfl, rfl, _, rfl, iteF ?_⟩
      refine ⟨_, rfl, rfl, _, rfl, iteT ?_⟩
      refine ⟨_, rfl, _, rfl, a, l, m, rfl, hs, hl, up, _, _, rfl, rfl, ?_⟩
      by_cases c0 : 0 ≤ (cntB l m : Int) - 1
      · rw [if_pos c0] at q
        by_cases c1 : (cntB l m : Int) - 1 < l.length
        · obtain ⟨y, hy, hy'⟩ := atI_int (l := l) c0 c1
          rw [hy'] at q
          exact ⟨_, rfl, _, _, rfl, rfl, _, rfl, ite_t (decide_eq_true c0) ⟨_, rfl, _, _, rfl, .inl ⟨_, hs, rfl⟩, _, _, rfl, rfl, _, rfl, ite_t (decide_eq_true (by rw [List.length_map]; exact c1)) ⟨_, rfl, _, rfl, a, _, _, _, rfl, rfl, hs, hy, q⟩⟩⟩
        · have e : l[((cntB l m : Int) - 1).toNat]? = none := List.getElem?_eq_none_iff.mpr (by omega)
          rw [e] at q
          exact ⟨_, rfl, _, _, rfl, rfl, _, rfl, ite_t (decide_eq_true c0) ⟨_, rfl, _, _, rfl, .inl ⟨_, hs, rfl⟩, _, _, rfl, rfl, _, rfl, ite_f (decide_eq_false (by rw [List.length_map]; exact c1)) q⟩⟩
      · rw [if_neg c0] at q
        exact ⟨_, rfl, _, _, rfl, rfl, _, rfl, ite_f (decide_eq_false c0) ⟨_, rfl, iteF q⟩⟩
    · have e0 : plc l "since" m = (cntB l m : Int) := by unfold plc; rw [if_neg (by decide +kernel), if_neg (by decide +kernel), if_pos rfl]
      unfold lkRow at q
      rw [e0] at q
      refine ⟨_, rfl, rfl, _, rfl, iteF ?_⟩
      refine ⟨_, rfl, rfl, _, rfl, iteF ?_⟩
      refine ⟨_, rfl, rfl, _, rfl, iteT ?_⟩
      refine ⟨_, rfl, _, rfl, a, l, m, rfl, hs, hl, up, ?_⟩
      by_cases c0 : 0 ≤ (cntB l m : Int)
      · rw [if_pos c0] at q
        by_cases c1 : (cntB l m : Int) < l.length
        · obtain ⟨y, hy, hy'⟩ := atI_int (l := l) c0 c1
          rw [hy'] at q
          exact ⟨_, rfl, _, _, rfl, rfl, _, rfl, ite_t (decide_eq_true c0) ⟨_, rfl, _, _, rfl, .inl ⟨_, hs, rfl⟩, _, _, rfl, rfl, _, rfl, ite_t (decide_eq_true (by rw [List.length_map]; exact c1)) ⟨_, rfl, _, rfl, a, _, _, _, rfl, rfl, hs, hy, q⟩⟩⟩
        · have e : l[((cntB l m : Int)).toNat]? = none := List.getElem?_eq_none_iff.mpr (by omega)
          rw [e] at q
          exact ⟨_, rfl, _, _, rfl, rfl, _, rfl, ite_t (decide_eq_true c0) ⟨_, rfl, _, _, rfl, .inl ⟨_, hs, rfl⟩, _, _, rfl, rfl, _, rfl, ite_f (decide_eq_false (by rw [List.length_map]; exact c1)) q⟩⟩
      · rw [if_neg c0] at q
        exact ⟨_, rfl, _, _, rfl, rfl, _, rfl, ite_f (decide_eq_false c0) ⟨_, rfl, iteF q⟩⟩
    · have e0 : plc l "after" m = (cntB l (m + 1) : Int) := by unfold plc; rw [if_neg (by decide +kernel), if_neg (by decide +kernel), if_neg (by decide +kernel)]
      unfold lkRow at q
      rw [e0] at q
      refine ⟨_, rfl, rfl, _, rfl, iteF ?_⟩
      refine ⟨_, rfl, rfl, _, rfl, iteF ?_⟩
      refine ⟨_, rfl, rfl, _, rfl, iteF ?_⟩
      refine ⟨_, rfl, _, rfl, _, _, rfl, rfl, a, l, m + 1, rfl, hs, hl, up, ?_⟩
      by_cases c0 : 0 ≤ (cntB l (m + 1) : Int)
      · rw [if_pos c0] at q
        by_cases c1 : (cntB l (m + 1) : Int) < l.length
        · obtain ⟨y, hy, hy'⟩ := atI_int (l := l) c0 c1
          rw [hy'] at q
          exact ⟨_, rfl, _, _, rfl, rfl, _, rfl, ite_t (decide_eq_true c0) ⟨_, rfl, _, _, rfl, .inl ⟨_, hs, rfl⟩, _, _, rfl, rfl, _, rfl, ite_t (decide_eq_true (by rw [List.length_map]; exact c1)) ⟨_, rfl, _, rfl, a, _, _, _, rfl, rfl, hs, hy, q⟩⟩⟩
        · have e : l[((cntB l (m + 1) : Int)).toNat]? = none := List.getElem?_eq_none_iff.mpr (by omega)
          rw [e] at q
          exact ⟨_, rfl, _, _, rfl, rfl, _, rfl, ite_t (decide_eq_true c0) ⟨_, rfl, _, _, rfl, .inl ⟨_, hs, rfl⟩, _, _, rfl, rfl, _, rfl, ite_f (decide_eq_false (by rw [List.length_map]; exact c1)) q⟩⟩
      · rw [if_neg c0] at q
        exact ⟨_, rfl, _, _, rfl, rfl, _, rfl, ite_f (decide_eq_false c0) ⟨_, rfl, iteF q⟩⟩
def spWithin (K : Fg) : Sp := fun vs H Q _ => ∃ a l wy lim m, vs = [.ref a, .str wy, limV lim, .int m] ∧ SqL K H a (l.map V.int) ∧ l.length ≤ 1000 ∧ l.Pairwise (· ≤ ·) ∧ wy ∈ ways ∧ Q (limV ((lkRow l wy m).bind fun r => if inLim lim r m then some r else none)) H
theorem ok_row_within (D : Df K mg "row_within" "row_within" s_row_within p_row_within) (hA : mg "abs" = none) (c_row_found : Cal P w K mg base CX0 "row_found" 2 (spRow K)) : Cal P w K mg base CX0 "row_within" 3 (spWithin K) := by
  refine D.cal fun f fd F => F.ok sc_row_within (fun vs H Q E h => ?_) (fun cdv A' outer s H vs Q E hr h => ?_)
  · obtain ⟨a, l, wy, lim, m, rfl, _⟩ := h; rfl
  · obtain ⟨a, l, wy, lim, m, rfl, hs, hl, up, hw, q⟩ := h
    refine ⟨_, (pss_cons (ps_set (i := 4) sc_row_within.nd rfl (Or.inl rfl) (pc c_row_found hr (by decide) (pa_cons (pv 0) (pa_cons (pv 1) (pa_cons (pv 3) pa_nil)))))
      (pss_cons (ps_if (PW.pt (pw_or (pt_cmpR op_isN (pv 4) pe_non (nomark _)) (pw_or (pt_cmpR op_isN (pv 2) pe_non (nomark _)) (pw_or1 (pt_cmpR op_le (pc_abs hA (pa_cons (pe_op op_sub (pv 4) (pv 3)) pa_nil)) (pv 2) (nomark _))))))
        (pss_one (ps_ret (pv 4)))
        pss_nil)
      (pss_one (ps_ret pe_non)))), ?_⟩
    refine ⟨_, rfl, _, rfl, _, rfl, a, l, wy, m, rfl, hs, hl, up, hw, ?_⟩
    cases hr1 : lkRow l wy m with
    | none =>
      rw [hr1] at q
      exact ⟨_, rfl, rfl, _, rfl, iteT (iteT ⟨_, rfl, q⟩)⟩
    | some r =>
      rw [hr1] at q
      have q : Q (limV (if inLim lim r m then some r else none)) H := q
      refine ⟨_, rfl, rfl, _, rfl, iteF ?_⟩
      cases lim with
      | none => exact ⟨_, rfl, rfl, _, rfl, iteT (iteT ⟨_, rfl, q⟩)⟩
      | some i =>
        refine ⟨_, rfl, rfl, _, rfl, iteF ?_⟩
        refine ⟨_, rfl, _, rfl, _, _, rfl, rfl, _, rfl, _, rfl, _, _, rfl, rfl, _, rfl, ?_⟩
        by_cases hi : (if r - m < 0 then -(r - m) else r - m) ≤ i
        · have e2 : inLim (some i) r m = true := decide_eq_true hi
          rw [if_pos e2] at q
          exact ite_t (decide_eq_true hi) ⟨_, rfl, q⟩
        · have e2 : ¬ inLim (some i) r m = true := by
            intro z; exact hi (of_decide_eq_true z)
          rw [if_neg e2] at q
          exact ite_f (decide_eq_false hi) q
end
end Pl

namespace Pl
open PySem L2 PySem.Spec PyProof.Rows
section
variable {P : Program} {w : World} {K : Fg} {mg : Str → Option Value} {base : Heap} {A : CA} {ks : Kd → Bool} {CW : Addr}
/-- names apart, ascending lists, few -/
structure WOk (rs : Rs) : Prop where
  nd : (rs.map (·.1)).Nodup
  up : ∀ r ∈ rs, r.2.Pairwise (· ≤ ·)
  len : ∀ r ∈ rs, r.2.length ≤ 1000
theorem WOk.rows {rs : Rs} (W : WOk rs) {z : Str} : (rowsOf rs z).Pairwise (· ≤ ·) ∧ (rowsOf rs z).length ≤ 1000 := by
  unfold rowsOf
  by_cases h : z ∈ rs.map (·.1)
  · obtain ⟨r, hr, e⟩ := List.mem_map.mp h
    obtain ⟨i, hi⟩ := List.mem_iff_getElem?.mp hr
    have : rs[i]? = some (z, r.2) := by rw [hi, ← e]
    rw [look_at W.nd this]
    exact ⟨W.up r hr, W.len r hr⟩
  · rw [look_no h]
    exact ⟨.nil, Nat.zero_le _⟩
def spGet (CW : Addr) : Sp := fun vs H Q _ => ∃ N wd z rs, vs = [.ref wd, .str z] ∧ GName z ∧ WAt N CW H wd rs ∧ (rs.map (·.1)).Nodup ∧ ∀ l H', Same H H' → H' l = some (.lst ((rowsOf rs z).map V.int)) → Q (.ref l) H'
theorem ok_World_get (D : ∃ f fd, Fun K "__getitem__" "World.__getitem__" s_World___getitem__ f fd ∧ Meth K CW "__getitem__" f ∧ Binds K fd p_World___getitem__ []) (T : Tx K mg) (WT : WTx K mg CW) (c_check_name : Cal P w K mg base CX0 "check_name" 2 spChkN) : CalI P w K mg base CX0 CW "__getitem__" 3 (spGet CW) := by
  obtain ⟨f, fd, F, m1, hb⟩ := D
  refine ⟨f, fd, _, F.ok sc_World___getitem__ (fun vs H Q E h => ?_) (fun cdv A' outer s H vs Q E hr h => ?_), m1, WT.cl, hb⟩
  · obtain ⟨N, wd, z, rs, rfl, _⟩ := h; rfl
  · obtain ⟨N, wd, z, rs, rfl, hz, hw, nd, q⟩ := h
    have hu := hu_of hr
    refine ⟨_, (pss_cons (ps_expr (pc c_check_name hr (by decide) (pa_cons (pv 1) pa_nil)))
      (pss_one (ps_ret (pc_listc T (pa_cons (pe_dget2 hu (pe_fld (pv 0) rfl) (pv 1) (pe_lst pa_nil) ⟨rfl, rfl, rfl, rfl⟩) pa_nil))))), ?_⟩
    refine ⟨_, rfl, z, rfl, hz, fun H1 s1 => ?_⟩
    obtain ⟨dx, d, kvs, w1, w2, w3⟩ := hw.same s1
    refine ⟨_, rfl, wd, CW, dx, _, _, rfl, w1, WT.cl, WT.nH, rfl, d, rfl, .inl ⟨kvs, .inl w2⟩, _, rfl, by show 0 ≤ sizeLine; decide, fun e he => ?_⟩
    have s2 : Same H1 (upd H1 e (.lst [])) := (Same.refl H1).new he
    refine ⟨_, DGet.k (k := Sum.inr z) (s2 _ _ w2), ?_⟩
    by_cases h : z ∈ rs.map (·.1)
    · obtain ⟨r, hr1, e1⟩ := List.mem_map.mp h
      obtain ⟨i, hi⟩ := List.mem_iff_getElem?.mp hr1
      have hi' : rs[i]? = some (z, r.2) := by rw [hi, ← e1]
      obtain ⟨a, ha1, na, ha2, _⟩ := w3.val nd hi'
      have er : rowsOf rs z = r.2 := by unfold rowsOf; rw [look_at nd hi']; rfl
      rw [er] at q
      refine ⟨a, r.2.map V.int, by rw [ha1]; rfl, .inl (SqL.of (s2 _ _ ha2)), fun l hl => ?_⟩
      exact q l _ ((s1.trans s2).new hl) upd_same
    · have er : rowsOf rs z = [] := by unfold rowsOf; rw [look_no h]; rfl
      rw [er] at q
      refine ⟨e, [], by rw [w3.none h]; rfl, .inl (SqL.of upd_same), fun l hl => ?_⟩
      exact q l _ ((s1.trans s2).new hl) upd_same
/-! ### looks -/
def spLInit (A : CA) (ks : Kd → Bool) : Sp := fun vs H Q _ => ∃ p dx m z wy lim t, vs = [.ref p, .str z, .ref m, .str wy, limV lim] ∧ H p = some (.ins (A.cls .look) dx []) ∧ TermAt A H t m ∧ ks t.kd = true ∧ GName z ∧ wy ∈ ways ∧ (∀ i, lim = some i → 0 ≤ i) ∧ Fit (Tm.sz (.look z t wy lim)) ∧
  ∀ H', (∀ a o, H a = some o → a ≠ p → H' a = some o) → TermAt A H' (.look z t wy lim) p → Q .non H'
theorem ok_Look_init (D : ∃ f fd g, Fun K "__init__" "Look.__init__" s_Look___init__ f fd ∧ mg "Look" = some (.ref (A.cls .look)) ∧ Mk K (A.cls .look) f ∧ KBn K fd p_Look___init__ 4 ["within"] g (fun vs zs => vs ++ zs)) (T : Tx K mg) (TT : TTx K mg A ks) (hl : ks .look = true) (gW : ∃ a, mg "WAYS" = some (.ref a) ∧ TupK K a ways)
    (c_check_name : Cal P w K mg base CX0 "check_name" 2 spChkN) (c_check_term : Cal P w K mg base CX0 "check_term" 1 (spChkT A ks)) (c_check_limit : Cal P w K mg base CX0 "check_limit" 4 spLimC) (c_init : CalC P w K mg base CX0 A.T "__init__" 1 (spTInit K)) : CalKM P w K mg base CX0 "Look" (A.cls .look) 3 ["within"] 5 (spLInit A ks) := by
  obtain ⟨f, fd, g, F, hm, M, hb⟩ := D
  refine ⟨f, fd, _, g, F.ok sc_Look___init__ (fun vs H Q E h => ?_) (fun cdv A' outer s H vs Q E hr h => ?_), hm, M, hb⟩
  · obtain ⟨p, dx, m, z, wy, lim, t, rfl, _⟩ := h; rfl
  · obtain ⟨p, dx, m, z, wy, lim, t, rfl, hp, hm, hk, hz, hw, h0, ⟨f1, f2, f3⟩, q⟩ := h
    have g_Term := TT.gT
    obtain ⟨aW, g_WAYS, tW⟩ := gW
    have KS := TT.at_ _ hl
    refine ⟨_, (pss_cons (ps_expr (pc c_check_name hr (by decide) (pa_cons (pv 1) pa_nil)))
      (pss_cons (ps_expr (pc c_check_term hr (by decide) (pa_cons (pv 2) pa_nil)))
      (pss_cons (ps_if (PW.pt (pw_or (pt_not (pt_val (pc_isi T (pa_cons (pv 3) (pa_cons (pt_str T) pa_nil))))) (pw_or1 (pt_cmpR op_notIn_seq (pv 3) (pe_glob rfl g_WAYS rel_r) (by rfl)))))
        (pss_one ps_never)
        pss_nil)
      (pss_cons (ps_expr (pc c_check_limit hr (by decide) (pa_cons (pv 4) pa_nil)))
      (pss_cons (ps_fld (pv 0) (pv 1) rfl)
      (pss_cons (ps_fld (pv 0) (pv 2) rfl)
      (pss_cons (ps_fld (pv 0) (pv 3) rfl)
      (pss_cons (ps_fld (pv 0) (pv 4) rfl)
      (pss_one (ps_expr (pclx c_init hr (by decide) pass0 (pe_glob rfl g_Term rel_r) (pa_cons (pv 0) (pa_cons (pe_tup (pa_cons (pv 2) pa_nil)) (pa_cons pe_int (pa_cons pe_int pa_nil))))))))))))))), ?_⟩
    refine ⟨_, rfl, z, rfl, hz, fun H1 s1 => ?_⟩
    refine ⟨_, rfl, m, t, rfl, hm.same s1, hk, ?_⟩
    refine ⟨_, rfl, _, _, _, _, true, rfl, .ty "str", .base (.str wy), kit_ty (by decide +kernel), ?_⟩
    refine ⟨_, rfl, iteF ⟨_, rfl, aW, _, rfl, .inr (tW.sq _), rfl, flat_str, _, rfl, ?_⟩⟩
    rw [inV_str, decide_eq_true hw]
    refine iteF ?_
    refine ⟨_, rfl, lim, rfl, h0, ?_⟩
    refine ⟨_, rfl, _, rfl, p, _, dx, [], rfl, s1 _ _ hp, KS.cl.cl, KS.no _ (by decide +kernel), by show 0 < 1000; decide, ?_⟩
    refine ⟨_, rfl, _, rfl, p, _, dx, _, rfl, upd_same, KS.cl.cl, KS.no _ (by decide +kernel), by show 1 < 1000; decide, ?_⟩
    rw [upd_upd]
    have e1 : putF "moment" (V.ref m) (putF "stream" (V.str z) []) = one "stream" (.str z) ++ one "moment" (.ref m) := putF_one (fs := one "stream" (.str z)) (by show ¬ (Str.ofString "moment") ∈ ([Str.ofString "stream"] : List Str); decide +kernel)
    rw [e1]
    refine ⟨_, rfl, _, rfl, p, _, dx, _, rfl, upd_same, KS.cl.cl, KS.no _ (by decide +kernel), by show 2 < 1000; decide, ?_⟩
    rw [upd_upd, putF_one (fs := one "stream" (.str z) ++ one "moment" (.ref m)) (by show ¬ (Str.ofString "way") ∈ ([Str.ofString "stream", Str.ofString "moment"] : List Str); decide +kernel)]
    refine ⟨_, rfl, _, rfl, p, _, dx, _, rfl, upd_same, KS.cl.cl, KS.no _ (by decide +kernel), by show 3 < 1000; decide, ?_⟩
    rw [upd_upd, putF_one (fs := one "stream" (.str z) ++ one "moment" (.ref m) ++ one "way" (.str wy)) (by show ¬ (Str.ofString "within") ∈ ([Str.ofString "stream", Str.ofString "moment", Str.ofString "way"] : List Str); decide +kernel)]
    have e2 : one "stream" (.str z) ++ one "moment" (.ref m) ++ one "way" (.str wy) ++ one "within" (limV lim) = lkO z m wy lim := rfl
    rw [e2]
    have npm : m ≠ p := hm.ne hp
    generalize hH : upd H1 p (.ins (A.cls .look) dx (lkO z m wy lim)) = H2
    have p1 : H2 p = some (.ins (A.cls .look) dx (lkO z m wy lim)) := by rw [← hH]; exact upd_same
    have k0 : ∀ a o, H a = some o → a ≠ p → H2 a = some o := fun a o e ne => by rw [← hH, upd_ne ne]; exact s1 _ _ e
    refine ⟨rfl, _, rfl, _, rfl, by show 1 ≤ sizeLine; decide, fun ch hch => ?_⟩
    have k1 : ∀ a o, H2 a = some o → (upd H2 ch (.tup [.ref m])) a = some o := fun a o e => by rw [upd_ne (ne_of_none e hch)]; exact e
    have npc : ch ≠ p := by intro z; subst z; rw [p1] at hch; cases hch
    refine ⟨p, ch, _, dx, 1, 1, _, [m], [t.sz], rfl, k1 _ _ p1, KS.cl, (by show ∀ k ∈ kN, k ∉ ([Str.ofString "stream", Str.ofString "moment", Str.ofString "way", Str.ofString "within"] : List Str); decide +kernel), by show 4 ≤ 10; decide, SqT.of upd_same, rfl, by show 1 ≤ 2; decide, fun n c' z h1 h2 => ?_, f1, f2, f3, fun H' k2 h => ?_⟩
    · cases n with
      | zero =>
        simp at h1 h2
        subst h1; subst h2
        exact ⟨(hm.but hp fun a o e ne => k1 _ _ (k0 _ _ e ne)).kid (TT.at_ _ hk).cl, npm⟩
      | succ n => simp at h1
    · have kk : ∀ a o, H a = some o → a ≠ p → H' a = some o := fun a o e ne => k2 _ _ (k1 _ _ (k0 _ _ e ne)) ne
      exact q H' kk ⟨dx, ch, m, h, k2 _ _ upd_same npc, hm.but hp kk⟩
/-! ### answers -/
/-- an answer: a term of kind k, not deeper than d -/
def spAns (A : CA) (ks : Kd → Bool) (CW : Addr) (k : Kd) (d : Nat) : Sp := fun vs H Q _ => ∃ N a wd n t rs, vs = [.ref a, .ref wd, .int n] ∧ t.kd = k ∧ TermAt A H t a ∧ Good ks t ∧ t.sz.d ≤ (d : Int) ∧ WAt N CW H wd rs ∧ WOk rs ∧ ∀ H', Same H H' → Q (limV (t.ans rs n)) H'
/-- the rule of one level: which classes, with which promise -/
def AnsS (A : CA) (ks : Kd → Bool) (CW : Addr) (d : Nat) (C : Addr) (sp : Sp) : Prop := ∃ k, ks k = true ∧ C = A.cls k ∧ sp = spAns A ks CW k d
def AnsTo (P : Program) (w : World) (K : Fg) (mg : Str → Option Value) (base : Heap) (A : CA) (ks : Kd → Bool) (CW : Addr) (d : Nat) : Prop := ∀ e, e < d → ∀ C sp, AnsS A ks CW e C sp → CalI P w K mg base CX0 C "answer" (2 * e + 5) sp
theorem ok_Now_answer (D : ∃ f fd, Fun K "answer" "Now.answer" s_Now_answer f fd ∧ Meth K (A.cls .now) "answer" f ∧ Binds K fd p_Now_answer []) (TT : TTx K mg A ks) (d : Nat) : CalI P w K mg base CX0 (A.cls .now) "answer" (2 * d + 5) (spAns A ks CW .now d) := by
  obtain ⟨f, fd, F, m1, hb⟩ := D
  refine ⟨f, fd, _, F.ok sc_Now_answer (fun vs H Q E h => ?_) (fun cdv A' outer s H vs Q E hr h => ?_), m1, (TT.at_ _ TT.n).cl.cl, hb⟩
  · obtain ⟨N, a, wd, n, t, rs, rfl, _⟩ := h; rfl
  · obtain ⟨N, a, wd, n, t, rs, rfl, hk, ha, g, _, _, _, q⟩ := h
    cases t with
    | now =>
      refine ⟨_, (pss_one (ps_ret (pv 2))), ?_⟩
      exact ⟨_, rfl, q H (Same.refl H)⟩
    | _ => cases hk
theorem head_no {A : CA} {H : Hp} {t : Tm} {a : Addr} {m : Str} (x : TermAt A H t a) (h1 : m ∉ (["moment", "amount", "stream", "way", "within", "first", "second"] : List Str)) (h2 : m ∉ kN) : ∃ dx fs, H a = some (.ins (A.cls t.kd) dx fs) ∧ fs.lookup m = none := by
  obtain ⟨dx, ch, os, h, e⟩ := x.hd
  exact ⟨dx, _, h, f_no e (kd_no h1) h2⟩
theorem ok_Shift_answer (D : ∃ f fd, Fun K "answer" "Shift.answer" s_Shift_answer f fd ∧ Meth K (A.cls .shift) "answer" f ∧ Binds K fd p_Shift_answer []) (TT : TTx K mg A ks) {d : Nat} (c_to : AnsTo P w K mg base A ks CW d) : CalI P w K mg base CX0 (A.cls .shift) "answer" (2 * d + 5) (spAns A ks CW .shift d) := by
  obtain ⟨f, fd, F, m1, hb⟩ := D
  have KS := TT.at_ _ TT.s
  refine ⟨f, fd, _, F.ok sc_Shift_answer (fun vs H Q E h => ?_) (fun cdv A' outer s H vs Q E hr h => ?_), m1, KS.cl.cl, hb⟩
  · obtain ⟨N, a, wd, n, t, rs, rfl, _⟩ := h; rfl
  · obtain ⟨N, a, wd, n, t, rs, rfl, hk, ha, g, hd, hw, wo, q⟩ := h
    cases t with
    | shift m c =>
      have hd0 : 1 + m.sz.d ≤ (d : Int) := by have : (szOf 0 0 [m.sz]).d ≤ (d : Int) := hd; rw [szOf1_d] at this; exact this
      have m0 := m.d_pos
      have d1 : 1 ≤ d := by omega
      have hd' : m.sz.d ≤ ((d - 1 : Nat) : Int) := by omega
      have c_a := c_to (d - 1) (by omega)
      have lv : 2 * (d - 1) + 5 ≤ 2 * d + 4 := by omega
      refine ⟨_, (pss_cons (ps_set (i := 3) sc_Shift_answer.nd rfl (Or.inl rfl) (pmsx c_a hr lv pass0 (pe_fld (pv 0) rfl) (pa_cons (pv 1) (pa_cons (pv 2) pa_nil))))
      (pss_cons (ps_if (pt_cmpR op_isN (pv 3) pe_non (nomark _))
        (pss_one (ps_ret pe_non))
        pss_nil)
      (pss_one (ps_ret (pe_op op_add (pv 3) (pe_fld (pv 0) rfl)))))), ?_⟩
      obtain ⟨dx, ch, ma, h1, h2, h3⟩ := ha
      obtain ⟨dy, gs, g1, g2⟩ := head_no (m := "answer") h3 (by decide +kernel) (by decide +kernel)
      refine ⟨_, rfl, a, _, dx, _, _, rfl, h1, KS.cl.cl, KS.no _ (by decide +kernel), sh_mom, ma, _, dy, _, _, rfl, g1, ⟨m.kd, g.2.1.k, rfl, rfl⟩, g2, _, rfl, _, rfl, N, ma, wd, n, m, rs, rfl, rfl, h3, g.2.1, hd', hw, wo, fun H1 s1 => ?_⟩
      have e : (Tm.shift m c).ans rs n = (m.ans rs n).map (· + c) := rfl
      rw [e] at q
      cases hx : m.ans rs n with
      | none =>
        rw [hx] at q
        exact ⟨_, rfl, rfl, _, rfl, iteT (q _ s1)⟩
      | some x =>
        rw [hx] at q
        refine ⟨_, rfl, rfl, _, rfl, iteF ?_⟩
        exact ⟨_, rfl, _, rfl, a, _, dx, _, _, rfl, s1 _ _ h1, KS.cl.cl, KS.no _ (by decide +kernel), sh_amt, _, _, rfl, rfl, q _ s1⟩
    | _ => cases hk
theorem lk_str {m ch : Addr} {zz wy : Str} {lim : Option Int} {z : Sz} : (lkO zz m wy lim ++ allF ch z).lookup ("stream" : Str) = some (.str zz) := f_own (ks := ["stream", "moment", "way", "within"]) (i := 0) rfl rfl (by decide +kernel)
theorem lk_mom {m ch : Addr} {zz wy : Str} {lim : Option Int} {z : Sz} : (lkO zz m wy lim ++ allF ch z).lookup ("moment" : Str) = some (.ref m) := f_own (ks := ["stream", "moment", "way", "within"]) (i := 1) rfl rfl (by decide +kernel)
theorem lk_way {m ch : Addr} {zz wy : Str} {lim : Option Int} {z : Sz} : (lkO zz m wy lim ++ allF ch z).lookup ("way" : Str) = some (.str wy) := f_own (ks := ["stream", "moment", "way", "within"]) (i := 2) rfl rfl (by decide +kernel)
theorem lk_lim {m ch : Addr} {zz wy : Str} {lim : Option Int} {z : Sz} : (lkO zz m wy lim ++ allF ch z).lookup ("within" : Str) = some (limV lim) := f_own (ks := ["stream", "moment", "way", "within"]) (i := 3) rfl rfl (by decide +kernel)
/-- a stream's rows -/
def GetS (CW : Addr) (C : Addr) (sp : Sp) : Prop := C = CW ∧ sp = spGet CW
theorem ok_Look_answer (D : ∃ f fd, Fun K "answer" "Look.answer" s_Look_answer f fd ∧ Meth K (A.cls .look) "answer" f ∧ Binds K fd p_Look_answer []) (T : Tx K mg) (TT : TTx K mg A ks) (hl : ks .look = true) (c_get : ∀ C sp, GetS CW C sp → CalI P w K mg base CX0 C "__getitem__" 3 sp ∧ ∀ g, Meth K C "__getitem__" g → PySem.W.fnIn K g = true)
    (c_row_within : Cal P w K mg base CX0 "row_within" 3 (spWithin K)) {d : Nat} (c_to : AnsTo P w K mg base A ks CW d) : CalI P w K mg base CX0 (A.cls .look) "answer" (2 * d + 5) (spAns A ks CW .look d) := by
  obtain ⟨f, fd, F, m1, hb⟩ := D
  have KS := TT.at_ _ hl
  refine ⟨f, fd, _, F.ok sc_Look_answer (fun vs H Q E h => ?_) (fun cdv A' outer s H vs Q E hr h => ?_), m1, KS.cl.cl, hb⟩
  · obtain ⟨N, a, wd, n, t, rs, rfl, _⟩ := h; rfl
  · obtain ⟨N, a, wd, n, t, rs, rfl, hk, ha, g, hd, hw, wo, q⟩ := h
    cases t with
    | look zz m wy lim =>
      have hd0 : 1 + m.sz.d ≤ (d : Int) := by have : (szOf 1 1 [m.sz]).d ≤ (d : Int) := hd; rw [szOf1_d] at this; exact this
      have m0 := m.d_pos
      have d1 : 1 ≤ d := by omega
      have hd' : m.sz.d ≤ ((d - 1 : Nat) : Int) := by omega
      have c_a := c_to (d - 1) (by omega)
      have lv : 2 * (d - 1) + 5 ≤ 2 * d + 4 := by omega
      have l4 : 3 + 1 ≤ 2 * d + 4 := by omega
      have l2 : 3 ≤ 2 * d + 4 := by omega
      refine ⟨_, (pss_cons (ps_set (i := 3) sc_Look_answer.nd rfl (Or.inl rfl) (pmsx c_a hr lv pass0 (pe_fld (pv 0) rfl) (pa_cons (pv 1) (pa_cons (pv 2) pa_nil))))
      (pss_cons (ps_if (pt_cmpR op_isN (pv 3) pe_non (nomark _))
        (pss_one (ps_ret pe_non))
        pss_nil)
      (pss_one (ps_ret (pc c_row_within hr l2 (pa_cons (pe_ixOwn c_get hr l4 pass0 (pv 1) (pe_fld (pv 0) rfl)) (pa_cons (pe_fld (pv 0) rfl) (pa_cons (pe_fld (pv 0) rfl) (pa_cons (pv 3) pa_nil))))))))), ?_⟩
      obtain ⟨dx, ch, ma, h1, h2, h3⟩ := ha
      obtain ⟨dy, gs, g1, g2⟩ := head_no (m := "answer") h3 (by decide +kernel) (by decide +kernel)
      obtain ⟨gk, gm, gz, gw, gl⟩ := g
      refine ⟨_, rfl, a, _, dx, _, _, rfl, h1, KS.cl.cl, KS.no _ (by decide +kernel), lk_mom, ma, _, dy, _, _, rfl, g1, ⟨m.kd, gm.k, rfl, rfl⟩, g2, _, rfl, _, rfl, N, ma, wd, n, m, rs, rfl, rfl, h3, gm, hd', hw, wo, fun H1 s1 => ?_⟩
      have e : (Tm.look zz m wy lim).ans rs n = (m.ans rs n).bind fun x => (lkRow (rowsOf rs zz) wy x).bind fun r => if inLim lim r x then some r else none := rfl
      rw [e] at q
      cases hx : m.ans rs n with
      | none =>
        rw [hx] at q
        exact ⟨_, rfl, rfl, _, rfl, iteT (q _ s1)⟩
      | some x =>
        rw [hx] at q
        have q : ∀ H', Same H H' → Q (limV ((lkRow (rowsOf rs zz) wy x).bind fun r => if inLim lim r x then some r else none)) H' := q
        refine ⟨_, rfl, rfl, _, rfl, iteF ?_⟩
        have hw1 := hw.same s1
        obtain ⟨dw, dd, kw, w1, w2, w3⟩ := id hw1
        refine ⟨_, rfl, _, rfl, a, _, dx, _, _, rfl, s1 _ _ h1, KS.cl.cl, KS.no _ (by decide +kernel), lk_str, wd, _, dw, _, _, rfl, w1, ⟨rfl, rfl⟩, N, wd, zz, rs, rfl, gz, hw1, wo.nd, fun l H2 s2 hl2 => ?_⟩
        have s12 := s1.trans s2
        have hf := s12 _ _ h1
        exact ⟨_, rfl, a, _, dx, _, _, rfl, hf, KS.cl.cl, KS.no _ (by decide +kernel), lk_way, _, rfl, a, _, dx, _, _, rfl, hf, KS.cl.cl, KS.no _ (by decide +kernel), lk_lim, _, rfl, l, _, wy, lim, x, rfl, SqL.of hl2, wo.rows.2, wo.rows.1, gw, q _ s12⟩
    | _ => cases hk
/-- by depth: every kind answers -/
theorem ans_all (h : ∀ (d : Nat) (k : Kd), AnsTo P w K mg base A ks CW d → ks k = true → CalI P w K mg base CX0 (A.cls k) "answer" (2 * d + 5) (spAns A ks CW k d)) : ∀ d, AnsTo P w K mg base A ks CW d := by
  intro d
  induction d with
  | zero => intro e he; exact absurd he (Nat.not_lt_zero _)
  | succ d ih =>
    intro e he C sp hS
    rcases Nat.lt_or_ge e d with g | g
    · exact ih e g C sp hS
    · have : e = d := by omega
      subst this
      obtain ⟨k, hk, rfl, rfl⟩ := hS
      exact h e k ih hk
/-! ### told, called -/
def spTold (A : CA) (ks : Kd → Bool) (CW : Addr) : Sp := fun vs H Q _ => ∃ N a wd n t rs, vs = [.ref a, .ref wd, .int n] ∧ TermAt A H t a ∧ Good ks t ∧ t.sz.d ≤ 12 ∧ WAt N CW H wd rs ∧ WOk rs ∧ ∀ H', Same H H' → Q (limV (t.ans rs n)) H'
theorem ok_told (D : Df K mg "told" "told" s_told p_told) (TT : TTx K mg A ks) (c_check_term : Cal P w K mg base CX0 "check_term" 1 (spChkT A ks)) (c_check_world : Cal P w K mg base CX0 "check_world" 1 (spChkW CW)) (c_check_moment : Cal P w K mg base CX0 "check_moment" 2 spChkM) (c_to : AnsTo P w K mg base A ks CW 13) : Cal P w K mg base CX0 "told" 30 (spTold A ks CW) := by
  refine D.cal fun f fd F => F.ok sc_told (fun vs H Q E h => ?_) (fun cdv A' outer s H vs Q E hr h => ?_)
  · obtain ⟨N, a, wd, n, t, rs, rfl, _⟩ := h; rfl
  · obtain ⟨N, a, wd, n, t, rs, rfl, ha, g, hd, hw, wo, q⟩ := h
    have c_a := c_to 12 (by decide)
    refine ⟨_, (pss_cons (ps_expr (pc c_check_term hr (by decide) (pa_cons (pv 0) pa_nil)))
      (pss_cons (ps_expr (pc c_check_world hr (by decide) (pa_cons (pv 1) pa_nil)))
      (pss_cons (ps_expr (pc c_check_moment hr (by decide) (pa_cons (pv 2) pa_nil)))
      (pss_one (ps_ret (pmsx c_a hr (by decide) pass0 (pv 0) (pa_cons (pv 1) (pa_cons (pv 2) pa_nil)))))))), ?_⟩
    obtain ⟨dw, dd, kw, w1, w2, w3⟩ := id hw
    obtain ⟨dy, gs, g1, g2⟩ := head_no (m := "answer") ha (by decide +kernel) (by decide +kernel)
    refine ⟨_, rfl, a, t, rfl, ha, g.k, _, rfl, wd, dw, _, rfl, w1, _, rfl, n, rfl, ?_⟩
    exact ⟨_, rfl, a, _, dy, _, _, rfl, g1, ⟨t.kd, g.k, rfl, rfl⟩, g2, _, rfl, _, rfl, N, a, wd, n, t, rs, rfl, rfl, ha, g, hd, hw, wo, q⟩
theorem ok_Term_call (D : ∃ f fd, Fun K "__call__" "Term.__call__" s_Term___call__ f fd ∧ (∀ k, ks k = true → Meth K (A.cls k) "__call__" f) ∧ Binds K fd p_Term___call__ []) (TT : TTx K mg A ks) (c_told : Cal P w K mg base CX0 "told" 30 (spTold A ks CW)) :
    ∀ C sp, (∃ k, ks k = true ∧ C = A.cls k) ∧ sp = spTold A ks CW → CalI P w K mg base CX0 C "__call__" 31 sp := by
  obtain ⟨f, fd, F, mm, hb⟩ := D
  have G : FnOk P w K mg base CX0 31 f fd p_Term___call__ (spTold A ks CW) := by
    refine F.ok sc_Term___call__ (fun vs H Q E h => ?_) (fun cdv A' outer s H vs Q E hr h => ?_)
    · obtain ⟨N, a, wd, n, t, rs, rfl, _⟩ := h; rfl
    · obtain ⟨N, a, wd, n, t, rs, rfl, ha, g, hd, hw, wo, q⟩ := h
      refine ⟨_, (pss_one (ps_ret (pc c_told hr (by decide) (pa_cons (pv 0) (pa_cons (pv 1) (pa_cons (pv 2) pa_nil)))))), ?_⟩
      exact ⟨_, rfl, _, rfl, _, rfl, N, a, wd, n, t, rs, rfl, ha, g, hd, hw, wo, q⟩
  rintro C sp ⟨⟨k, hk, rfl⟩, rfl⟩
  exact ⟨f, fd, _, G, mm k hk, (TT.at_ k hk).cl.cl, hb⟩
end
end Pl

namespace Pl
open PySem L2 PySem.Spec PyProof.Rows
theorem srs_cons {a : Str × List Int} {r : Rs} : srs (a :: r) = if a.2.isEmpty then srs r else (a.1, srt a.2) :: srs r := by
  unfold srs
  rw [List.filter_cons]
  cases a.2.isEmpty <;> rfl
theorem srs_sum {rs : Rs} {m : Nat} (h : ∀ r ∈ rs, r.2.length ≤ m) : ((srs rs).map fun r => (r.2.length : Int)).sum ≤ (rs.length * m : Nat) := by
  induction rs with
  | nil => show (0 : Int) ≤ _; omega
  | cons a r ih =>
    have ih := ih fun x hx => h x (List.mem_cons_of_mem _ hx)
    have ha := h a List.mem_cons_self
    rw [srs_cons, List.length_cons, Nat.succ_mul]
    split
    · omega
    · rw [List.map_cons, List.sum_cons]
      show ((srt a.2).length : Int) + _ ≤ _
      rw [srt_len]; omega
theorem rows_srs {rs : Rs} {i : Nat} {z : Str} {l : List Int} (nd : (rs.map (·.1)).Nodup) (h : rs[i]? = some (z, l)) : rowsOf (srs rs) z = srt l := by
  induction rs generalizing i with
  | nil => simp at h
  | cons x r ih =>
    obtain ⟨a, b⟩ := x
    have nd' := List.nodup_cons.mp nd
    rw [srs_cons]
    cases i with
    | zero =>
      simp at h
      obtain ⟨rfl, rfl⟩ := h
      cases b with
      | nil =>
        rw [if_pos (show (List.isEmpty ([] : List Int)) = true from rfl)]
        have : rowsOf (srs r) a = [] := by
          unfold rowsOf
          rw [look_no fun m => nd'.1 (srs_names _ m)]; rfl
        rw [this]
        have := srt_len ([] : List Int)
        exact (List.length_eq_zero_iff.mp this).symm
      | cons y t =>
        rw [if_neg (show ¬ (List.isEmpty (y :: t)) = true from by intro z; cases z)]
        unfold rowsOf
        simp [List.lookup]
    | succ i =>
      have h' : r[i]? = some (z, l) := by simpa using h
      have ne : z ≠ a := by
        intro e; subst e
        exact nd'.1 (List.mem_map.mpr ⟨(z, l), List.mem_of_getElem? h', rfl⟩)
      have hb : (z == a) = false := by simpa using ne
      split
      · exact ih nd'.2 h'
      · have := ih nd'.2 h'
        unfold rowsOf at this ⊢
        simp only [List.lookup, hb]
        exact this
theorem wok_srs {rs : Rs} {m : Nat} (ok : RsOk m rs) (hm : m ≤ 1000) : WOk (srs rs) := by
  refine ⟨srs_nd ok.nd, fun r hr => ?_, fun r hr => ?_⟩
  · obtain ⟨y, hy, e⟩ := List.mem_map.mp hr
    rw [← e]; exact srt_up _
  · obtain ⟨y, hy, e⟩ := List.mem_map.mp hr
    rw [← e]
    show (srt y.2).length ≤ 1000
    rw [srt_len]
    have := (ok.each y (List.mem_filter.mp hy).1).2
    omega
/-- [x for x in a if f(x)] -/
theorem lc_filt {K : Fg} {σ : L2.St} {H : Hp} {Qd : Hp → Prop} {f : Int → Bool} {j : Nat} {a D : Addr} {l : List Int} {tt : TT} (hD : H D = none) (hs : SqL K H a (l.map V.int)) (hz : l.length ≤ 1000)
    (hp : ∀ x ∈ l, ∀ (H' : Hp) (R : Bool → Hp → Prop), Same H H' → R (f x) H' → tt ((wipe σ [j]).set j (some (.int x))) H' R)
    (q : ∀ H', Same H H' → H' D = some (.lst ((l.filter f).map V.int)) → Qd H') (hw2 : ∀ x, ((wipe σ [j]).set j (some x))[j]? = some (some x)) (hw3 : ∀ x, wipe ((wipe σ [j]).set j (some x)) [j] = wipe σ [j]) :
    ∃ W : Nat → Nat → Hp → Prop, (∃ m, W 0 m (upd H D (.lst []))) ∧ ∀ i m H, W i m H →
      ((Itl K a).stop i H ∧ Qd H) ∨ ((Itl K a).go i H ∧ ∃ Nx : Hp → Prop, (∀ H', Nx H' → ∃ m', m' < m ∧ W (i + 1) m' H') ∧ ∀ x H', (Itl K a).yld i H x H' → gName j x (wipe σ [j]) H' fun σ2 H2 => wipe σ2 [j] = wipe σ [j] ∧ tt σ2 H2 fun b H3 =>
        if b = true then tVar j σ2 H3 fun y H4 => ∃ acc, H4 D = some (.lst acc) ∧ acc.length < sizeLine ∧ Nx (upd H4 D (.lst (acc ++ [y]))) else Nx H3) := by
  refine lc_list (K := K) (a := a) (xs := l.map V.int) (fun n H' => Same H H' ∧ H' D = some (.lst (((l.take n).filter f).map V.int))) ⟨(Same.refl H).new hD, upd_same⟩ (fun n H' _ p => ?_) ?_ ?_
  · rcases hs with (h | ⟨o, h⟩) | h
    · exact .inl (.inl (p.1 _ _ h))
    · exact .inl (.inr ⟨o, p.1 _ _ h⟩)
    · exact .inr h
  · rintro n x H' hx ⟨s1, s2⟩
    obtain ⟨z, hz', rfl⟩ : ∃ z, l[n]? = some z ∧ x = V.int z := by
      rw [List.getElem?_map] at hx
      cases e : l[n]? with
      | none => rw [e] at hx; cases hx
      | some z => rw [e] at hx; exact ⟨z, rfl, (Option.some.inj hx).symm⟩
    have il : n < l.length := (List.getElem?_eq_some_iff.mp hz').1
    refine ⟨hw3 _, hp z (List.mem_of_getElem? hz') H' _ s1 ?_⟩
    cases e : f z with
    | true =>
      refine iteT ⟨_, hw2 _, _, s2, by rw [List.length_map]; exact small1000 (Nat.le_trans (List.length_filter_le _ _) (by rw [List.length_take]; omega)), s1.chg hD, ?_⟩
      rw [upd_same, List.take_add_one, hz', List.filter_append, List.map_append]
      show _ = some (HO.lst (_ ++ (([z].filter f).map V.int)))
      rw [List.filter_cons_of_pos e]; rfl
    | false =>
      refine iteF ⟨s1, ?_⟩
      rw [s2, List.take_add_one, hz', List.filter_append]
      have : ((some z).toList.filter f) = [] := by show [z].filter f = []; rw [List.filter_cons_of_neg (by rw [e]; decide)]; rfl
      rw [this, List.append_nil]
  · rintro H' ⟨s1, s2⟩
    rw [List.length_map, List.take_length] at s2
    exact q H' s1 s2
section
variable {P : Program} {w : World} {K : Fg} {mg : Str → Option Value} {base : Heap}
theorem op_notInK {X : Cx} {K : Fg} (hK : X.K = K := by rfl) : OpR X (compareOp .NotIn) (rIn K true) := by subst hK; exact op_notIn_seq
theorem op_inK {X : Cx} {K : Fg} (hK : X.K = K := by rfl) : OpR X (compareOp .In) (rIn K false) := by subst hK; exact op_in_seq
def spLim0 : Sp := fun vs H Q _ => ∃ b c, vs = [.ref b] ∧ Box H b c ∧ ∀ (lim : Option Int) H', (∀ i, lim = some i → 0 ≤ i) → Box H' b c → Kp b c H H' → Q (limV lim) H'
theorem ok__law_limit (D : Df K mg "_law_limit" "_law_limit" s__law_limit p__law_limit) (hA : mg "abs" = none) (c__law_pick : Cal P w K mg base CX0 "_law_pick" 1 spPick) (c__law_number : Cal P w K mg base CX0 "_law_number" 2 spNum) : Cal P w K mg base CX0 "_law_limit" 3 spLim0 := by
  refine D.cal fun f fd F => F.ok sc__law_limit (fun vs H Q E h => ?_) (fun cdv A' outer s H vs Q E hr h => ?_)
  · obtain ⟨b, c, rfl, _⟩ := h; rfl
  · obtain ⟨b, c, rfl, B, q⟩ := h
    refine ⟨_, (pss_cons (ps_set (i := 1) sc__law_limit.nd rfl (Or.inl rfl) (pc c__law_pick hr (by decide) (pa_cons (pv 0) (pa_cons pe_int pa_nil))))
      (pss_cons (ps_if (pt_cmpR op_lt (pv 1) pe_int (nomark _))
        (pss_one (ps_ret pe_non))
        pss_nil)
      (pss_cons (ps_if (pt_cmpR op_lt (pv 1) pe_int (nomark _))
        (pss_one (ps_ret (pc c__law_pick hr (by decide) (pa_cons (pv 0) (pa_cons pe_int pa_nil)))))
        pss_nil)
      (pss_one (ps_ret (pc_abs hA (pa_cons (pc c__law_number hr (by decide) (pa_cons (pv 0) pa_nil)) pa_nil))))))), ?_⟩
    refine ⟨_, rfl, b, c, 5, rfl, B, by decide, by decide, fun r H1 r0 _ B1 k1 => ?_⟩
    refine ⟨_, rfl, _, _, rfl, rfl, _, rfl, ite2 (fun z => ?_) (fun z => ?_)⟩
    · exact q none _ (fun i h => by cases h) B1 k1
    · refine ⟨_, rfl, _, _, rfl, rfl, _, rfl, ite2 (fun z => ?_) (fun z => ?_)⟩
      · refine ⟨_, rfl, b, c, 7, rfl, B1, by decide, by decide, fun r2 H2 r20 _ B2 k2 => ?_⟩
        exact q (some r2) _ (fun i h => by cases h; exact r20) B2 (k1.trans k2)
      · refine ⟨_, rfl, b, c, rfl, B1, fun r2 H2 B2 k2 => ⟨_, rfl, ?_⟩⟩
        refine q (some (if r2 < 0 then -r2 else r2)) _ (fun i h => ?_) B2 (k1.trans k2)
        cases h
        split <;> omega
/-- a letter -/
def ltr (i : Int) : Str := ⟨#[((Str.ofString "abcdefghijklmnopqrstuvwxyz").cps.toList.getD i.toNat 97)]⟩
theorem abc_at {i : Int} (h0 : 0 ≤ i) (h1 : i < 26) : atI (Str.ofString "abcdefghijklmnopqrstuvwxyz").cps.toList i = some ((Str.ofString "abcdefghijklmnopqrstuvwxyz").cps.toList.getD i.toNat 97) := by
  obtain ⟨n, rfl⟩ := Int.eq_ofNat_of_zero_le h0
  have e : ∀ n : Nat, n < 26 → atI (Str.ofString "abcdefghijklmnopqrstuvwxyz").cps.toList (n : Int) = some ((Str.ofString "abcdefghijklmnopqrstuvwxyz").cps.toList.getD (n : Int).toNat 97) := by decide +kernel
  exact e n (by omega)
theorem abc_in {i : Int} (h0 : 0 ≤ i) (h1 : i < 26) : (Str.ofString "abcdefghijklmnopqrstuvwxyz").cps.toList.getD i.toNat 97 ∈ (Str.ofString "abcdefghijklmnopqrstuvwxyz").cps.toList := by
  obtain ⟨n, rfl⟩ := Int.eq_ofNat_of_zero_le h0
  have e : ∀ n : Nat, n < 26 → (Str.ofString "abcdefghijklmnopqrstuvwxyz").cps.toList.getD (n : Int).toNat 97 ∈ (Str.ofString "abcdefghijklmnopqrstuvwxyz").cps.toList := by decide +kernel
  exact e n (by omega)
theorem abc_len : (Str.ofString "abcdefghijklmnopqrstuvwxyz").length ≤ sizeLine := by
  have e : (Str.ofString "abcdefghijklmnopqrstuvwxyz").length = 26 := by decide +kernel
  rw [e]; decide
theorem ltr_good {i : Int} (h0 : 0 ≤ i) (h1 : i < 26) : GName (ltr i) := ⟨by show 1 ≤ 1; decide, by show 1 ≤ 12; decide, fun c hc => by
  have : c = (Str.ofString "abcdefghijklmnopqrstuvwxyz").cps.toList.getD i.toNat 97 := by simpa [ltr] using hc
  rw [this]; exact abc_in h0 h1⟩
theorem nd_sub : ∀ {l m : List Str}, l.Nodup → (∀ x ∈ l, x ∈ m) → l.length ≤ m.length
  | [], _, _, _ => Nat.zero_le _
  | a :: l, m, nd, h => by
    obtain ⟨n1, n2⟩ := List.nodup_cons.mp nd
    have ha : a ∈ m := h a List.mem_cons_self
    have q := nd_sub (l := l) (m := m.erase a) n2 fun x hx => (List.mem_erase_of_ne (by intro z; subst z; exact n1 hx)).mpr (h x (List.mem_cons_of_mem _ hx))
    rw [List.length_erase_of_mem ha] at q
    have := List.length_pos_of_mem ha
    show l.length + 1 ≤ m.length
    omega
theorem join_cat : ∀ {ws : List Str}, ws ≠ [] → Txt.join (Str.ofString "") ws = Str.join (Str.ofString "") ws
  | [], h => absurd rfl h
  | x :: r, _ => StrLaws.glued_cons _ r x
theorem join_ones : ∀ {ws : List Str}, ws ≠ [] → (∀ w ∈ ws, w.length = 1) → (Str.join (Str.ofString "") ws).length = ws.length
  | [], h, _ => absurd rfl h
  | [x], _, h => h x (by simp)
  | x :: y :: r, _, h => by
    have ih := join_ones (ws := y :: r) (by simp) fun w hw => h w (List.mem_cons_of_mem _ hw)
    show (x ++ (Str.ofString "") ++ Str.join (Str.ofString "") (y :: r)).length = _
    rw [strLen_append, strLen_append, ih, h x List.mem_cons_self]
    have : (Str.ofString "").length = 0 := by decide +kernel
    rw [this]; simp [Nat.add_comm]
theorem join_good {ws : List Str} (h1 : 1 ≤ ws.length) (h2 : ws.length ≤ 12) (h : ∀ w ∈ ws, GName w ∧ w.length = 1) : GName (Txt.join (Str.ofString "") ws) := by
  have ne : ws ≠ [] := by intro z; subst z; simp at h1
  rw [join_cat ne]
  have l := join_ones ne fun w hw => (h w hw).2
  refine ⟨by omega, by omega, fun c hc => ?_⟩
  rcases (PyProof.Rows.mem_join _ c ws).mp hc with ⟨t, ht, ct⟩ | ⟨_, hc⟩
  · exact (h t ht).1.all c ct
  · have : (Str.ofString "").cps.toList = [] := by decide +kernel
    rw [this] at hc; cases hc
def abcd : List Str := ["a", "b", "c", "d"]
theorem abcd_nd : abcd.Nodup := by decide +kernel
theorem abcd_good : ∀ z ∈ abcd, GName z := by
  intro z hz
  have h : ∀ z ∈ abcd, 1 ≤ z.length ∧ z.length ≤ 12 ∧ ∀ c ∈ z.cps.toList, c ∈ (Str.ofString "abcdefghijklmnopqrstuvwxyz").cps.toList := by decide +kernel
  exact ⟨(h z hz).1, (h z hz).2.1, (h z hz).2.2⟩
def spNames : Sp := fun vs H Q _ => ∃ b c m, vs = [.ref b, .int m] ∧ Box H b c ∧ 0 ≤ m ∧ m ≤ 4 ∧ ∀ p (ns : List Str) H', Box H' b c → Kp b c H H' → H p = none → H' p = some (.lst (ns.map V.str)) → ns.Nodup → (ns.length : Int) = m → (∀ z ∈ ns, GName z) → Q (.ref p) H'
theorem ok__law_names (D : Df K mg "_law_names" "_law_names" s__law_names p__law_names) (T : Tx K mg) (c__law_pick : Cal P w K mg base CX0 "_law_pick" 1 spPick) : Cal P w K mg base CX0 "_law_names" 2 spNames := by
  refine D.cal fun f fd F => F.ok sc__law_names (fun vs H Q E h => ?_) (fun cdv A' outer s H vs Q E hr h => ?_)
  · obtain ⟨b, c, m, rfl, _⟩ := h; rfl
  · obtain ⟨b, c, m, rfl, B, m0, m4, q⟩ := h
    refine ⟨_, (pss_cons (ps_set (i := 2) sc__law_names.nd rfl (Or.inr rfl) pe_str)
      (pss_cons (ps_set (i := 3) sc__law_names.nd rfl (Or.inr rfl) (pe_lst pa_nil))
      (pss_cons (ps_for PassesOwn.never rfl (pi_range1 rfl T.range (pa_cons (pv 1) pa_nil)) (pg_name (i := 4) sc__law_names.nd rfl (Or.inl rfl))
        (pss_cons (ps_set (i := 5) sc__law_names.nd rfl (Or.inl rfl) (pe_ix ix_str (pv 2) (pc c__law_pick hr (by decide) (pa_cons (pv 0) (pa_cons pe_int pa_nil))) (fun _ _ => rfl)))
        (pss_cons (ps_if (pt_cmpR op_eq (pc c__law_pick hr (by decide) (pa_cons (pv 0) (pa_cons pe_int pa_nil))) pe_int (nomark _))
          (pss_one (ps_set (i := 5) sc__law_names.nd rfl (Or.inl rfl) (pe_join pe_str (pe_lc (own := [("_law_j", 6)]) rfl sc__law_names.nd (pi_range1 rfl T.range (pa_cons (pe_op op_add pe_int (pc c__law_pick hr (by decide) (pa_cons (pv 0) (pa_cons pe_int pa_nil)))) pa_nil)) (blkOk_by (N := n__law_names) (sc := defScope s__law_names) (by decide +kernel)) (fun _ _ _ _ _ => (pg_name (i := 6) sc__law_names.nd rfl (Or.inl rfl))) (fun _ _ _ _ _ => (by exact pts_nil)) (fun _ _ _ _ _ => (by exact (pe_ix ix_str (pv 2) (pc c__law_pick hr (by decide) (pa_cons (pv 0) (pa_cons pe_int pa_nil))) (fun _ _ => rfl))))))))
          pss_nil)
        (pss_cons (ps_if (pt_cmpR op_in_seq (pv 5) (pv 3) (by rfl))
          (pss_one (ps_set (i := 5) sc__law_names.nd rfl (Or.inl rfl) (pe_ix ix_list (pe_lc (own := [("_law_word", 7)]) rfl sc__law_names.nd (pi_list (pe_lst (pa_cons pe_str (pa_cons pe_str (pa_cons pe_str (pa_cons pe_str pa_nil)))))) (blkOk_by (N := n__law_names) (sc := defScope s__law_names) (by decide +kernel)) (fun _ _ _ _ _ => (pg_name (i := 7) sc__law_names.nd rfl (Or.inl rfl))) (fun _ _ _ _ _ => (by exact (pts_one (pt_cmpR (op_notInK (K := K)) (pv 7) (pv 3) (by rfl))))) (fun _ _ _ _ _ => (by exact (pv 7)))) pe_int (fun _ _ => rfl))))
          pss_nil)
        (pss_one (ps_expr (pe_bm PySem.F.plainAttrs_list PySem.F.slot_list_append PySem.F.type_list_append mt_append (pv 3) (pa_cons (pv 5) pa_nil))))))))
      (pss_one (ps_ret (pv 3)))))), ?_⟩
    refine ⟨by show 0 ≤ sizeLine; decide, fun p hp => ?_⟩
    have B1 := B.new (o := .lst []) hp
    have k1 : Kp b c H (upd H p (.lst [])) := (Kp.refl).new hp
    have np := B.nb hp
    refine ⟨_, rfl, _, rfl, (range_ok m0 (by omega)).1, (range_ok m0 (by omega)).2, for_range (lo := 0) (n := m.toNat) (fun i σ H' => ∃ (ns : List Str) (x y v u : Option V), σ = [some (.ref b), some (.int m), some (.str "abcdefghijklmnopqrstuvwxyz"), some (.ref p), x, y, v, u] ∧ Box H' b c ∧ Kp b c H H' ∧ H' p = some (.lst (ns.map V.str)) ∧ ns.Nodup ∧ ns.length = i ∧ (∀ z ∈ ns, GName z))
      ⟨[], none, none, none, none, rfl, B1, k1, upd_same, .nil, rfl, fun z h => by cases h⟩ ?_ ?_⟩
    · rintro i σ H' hi ⟨ns, x, y, v, u, rfl, B', k', hl, nd, el, gn⟩
      refine ⟨_, rfl, _, rfl, b, c, 3, rfl, B', by decide, by decide, fun r1 H1 r10 r11 B1' q1 => ?_⟩
      have hl1 := q1 p _ np.1 np.2 hl
      refine ⟨_, _, _, rfl, rfl, abc_len, abc_at r10 (by omega), ?_⟩
      refine ⟨_, rfl, b, c, 2, rfl, B1', by decide, by decide, fun r2 H2 r20 r21 B2 q2 => ?_⟩
      have hl2 := q2 p _ np.1 np.2 hl1
      have kk2 : Kp b c H H2 := (k'.trans q1).trans q2
      refine ⟨rfl, _, rfl, ite2 (fun z2 => ?_) (fun z2 => ?_)⟩
      · refine ⟨⟨_, rfl⟩, _, rfl, b, c, 12, rfl, B2, by decide, by decide, fun r3 H3 r30 r31 B3 q3 => ?_⟩
        have hl3 := q3 p _ np.1 np.2 hl2
        have kk3 := kk2.trans q3
        refine ⟨_, _, rfl, rfl, _, rfl, (range_ok (by omega) (by omega)).1, (range_ok (by omega) (by omega)).2, fun Dj hDj => lc_range (lo := 0) (n := (1 + r3).toNat) (vs := [6]) (fun j H' => ∃ ws : List Str, Box H' b c ∧ Kp b c H3 H' ∧ H' Dj = some (.lst (ws.map V.str)) ∧ ws.length = j ∧ ∀ w ∈ ws, GName w ∧ w.length = 1) ⟨[], B3.new hDj, (Kp.refl).new hDj, upd_same, rfl, fun w h => by cases h⟩ ?_ ?_⟩
        · rintro j H' hj ⟨ws, e1, e2, e3, e4, e5⟩
          have nDj := B3.nb hDj
          refine ⟨rfl, ?_⟩
          refine ⟨_, rfl, _, rfl, b, c, 26, rfl, e1, by decide, by decide, fun r4 H4 r40 r41 B4 q4 => ?_⟩
          refine ⟨_, _, _, rfl, rfl, abc_len, abc_at r40 r41, _, q4 _ _ nDj.1 nDj.2 e3, by rw [List.length_map]; exact small1000 (by omega), ws ++ [ltr r4], B4.chg B3 hDj, (e2.trans q4).chg hDj, by rw [upd_same, List.map_append]; rfl, by rw [List.length_append, e4]; rfl, fun w hw => ?_⟩
          rcases List.mem_append.mp hw with h | h
          · exact e5 w h
          · rw [List.mem_singleton.mp h]; exact ⟨ltr_good r40 r41, rfl⟩
        · rintro H4 ⟨ws, e1, e2, e3, e4, e5⟩
          have hl4 := e2 p _ np.1 np.2 hl3
          have kk4 := kk3.trans e2
          have hws : 1 ≤ ws.length ∧ ws.length ≤ 12 := by omega
          have szs : (ws.map (·.length)).sum + ws.length * (Str.ofString "").length ≤ 16777216 := by
            have e0 : (Str.ofString "").length = 0 := by decide +kernel
            have e1 : ws.map (·.length) = ws.map (fun _ => 1) := List.map_congr_left fun w hw => (e5 w hw).2
            rw [e0, e1, List.map_const', List.sum_replicate_nat]; omega
          have gj := join_good hws.1 hws.2 e5
          refine ⟨_, _, ws, rfl, rfl, .inl (SqL.of e3), szs, ?_⟩
          generalize Txt.join (Str.ofString "") ws = zj at gj ⊢
          refine ⟨_, rfl, _, rfl, p, _, rfl, .inl (SqL.of hl4), rfl, flat_str, _, rfl, ?_⟩
          rw [inV_str]
          refine ite2 (fun zin => ?_) (fun zin => ?_)
          · refine ⟨by show 4 ≤ sizeLine; decide, fun l4 hn4 => ?_⟩
            have s4 : Same H4 (upd H4 l4 (.lst (abcd.map V.str))) := (Same.refl H4).new hn4
            refine ⟨l4, rfl, ⟨_, SqL.of upd_same⟩, fun Dl hD => lc_list (K := K) (a := l4) (xs := abcd.map V.str) (vs := [7]) (fun j H' => Same H4 H' ∧ H' l4 = some (.lst (abcd.map V.str)) ∧ H' Dl = some (.lst (((abcd.take j).filter fun z => decide (z ∉ ns)).map V.str))) ⟨s4.new hD, by rw [upd_ne (ne_of_none upd_same hD)]; exact upd_same, upd_same⟩ (fun j H' _ q => SqL.of q.2.1) ?_ ?_⟩
            · rintro j x H' hj ⟨t1, t2, t3⟩
              obtain ⟨z, hz, rfl⟩ : ∃ z, abcd[j]? = some z ∧ x = V.str z := by
                rw [List.getElem?_map] at hj
                cases e : abcd[j]? with
                | none => rw [e] at hj; cases hj
                | some z => rw [e] at hj; exact ⟨z, rfl, (Option.some.inj hj).symm⟩
              have jl : j < 4 := (List.getElem?_eq_some_iff.mp hz).1
              refine ⟨rfl, ?_⟩
              refine ⟨_, rfl, _, rfl, p, _, rfl, .inl (SqL.of (t1 _ _ hl4)), rfl, flat_str, _, rfl, ?_⟩
              rw [inV_str]
              have nl4 : l4 ≠ Dl := by intro e; subst e; rw [upd_same] at hD; cases hD
              refine ite2 (fun y => ?_) (fun y => ?_)
              · have y : z ∉ ns := by simpa using y
                refine ⟨_, rfl, _, t3, by rw [List.length_map]; exact small1000 (Nat.le_trans (List.length_filter_le _ _) (by rw [List.length_take]; omega)), fun a o e => ?_, by rw [upd_ne nl4]; exact t2, ?_⟩
                · rw [upd_ne (ne_of_none e (s4.free hD))]; exact t1 a o e
                · rw [upd_same, List.take_add_one, hz, List.filter_append, List.map_append]
                  show _ = some (HO.lst (_ ++ (([z].filter fun z => decide (z ∉ ns)).map V.str)))
                  rw [List.filter_cons_of_pos (by simpa using y)]; rfl
              · have y : z ∈ ns := by simpa using y
                refine ⟨t1, t2, ?_⟩
                rw [t3, List.take_add_one, hz, List.filter_append]
                have : ((some z).toList.filter fun z => decide (z ∉ ns)) = [] := by show [z].filter _ = []; rw [List.filter_cons_of_neg (by simpa using y)]; rfl
                rw [this, List.append_nil]
            · rintro H' ⟨t1, t2, t3⟩
              rw [show abcd.map V.str = abcd.map V.str from rfl, List.length_map, List.take_length] at t3
              obtain ⟨z9, hz9, m9, n9⟩ : ∃ z, (abcd.filter fun z => decide (z ∉ ns))[0]? = some z ∧ z ∈ abcd ∧ z ∉ ns := by
                cases e : (abcd.filter fun z => decide (z ∉ ns)) with
                | nil =>
                  have q : ∀ x ∈ abcd, x ∈ ns := fun x hx => by
                    have := List.filter_eq_nil_iff.mp e x hx
                    simpa using this
                  have := nd_sub abcd_nd q
                  have : abcd.length = 4 := rfl
                  omega
                | cons z r =>
                  have mm : z ∈ abcd.filter fun z => decide (z ∉ ns) := by rw [e]; exact List.mem_cons_self
                  have := List.mem_filter.mp mm
                  exact ⟨z, rfl, this.1, by simpa using this.2⟩
              have HL2 := t1 _ _ hl4
              have BB2 := e1.same t1
              have GZ2 : GName z9 := abcd_good z9 m9
              refine ⟨Dl, _, _, _, rfl, rfl, SqL.of t3, at_of (j := 0) rfl (by rw [List.getElem?_map, hz9]; rfl), ?_⟩
              refine ⟨_, rfl, .inl ⟨rfl, _, SqL.of HL2⟩, _, rfl, p, _, _, rfl, rfl, HL2, by rw [List.length_map]; exact small1000 (by omega), ?_⟩
              refine ⟨ns ++ [z9], _, _, _, _, rfl, BB2.chg B hp, (kk4.trans (Kp.of t1)).chg hp, by rw [upd_same, List.map_append]; rfl, nd_snoc nd n9, by rw [List.length_append, el]; rfl, fun y hy => ?_⟩
              rcases List.mem_append.mp hy with h | h
              · exact gn y h
              · rw [List.mem_singleton.mp h]; exact GZ2
          · have zin : zj ∉ ns := fun m => zin (decide_eq_true m)
            refine ⟨_, rfl, .inl ⟨rfl, _, SqL.of hl4⟩, _, rfl, p, _, _, rfl, rfl, hl4, by rw [List.length_map]; exact small1000 (by omega), ?_⟩
            refine ⟨ns ++ [zj], _, _, _, _, rfl, e1.chg B hp, (kk4).chg hp, by rw [upd_same, List.map_append]; rfl, nd_snoc nd zin, by rw [List.length_append, el]; rfl, fun y hy => ?_⟩
            rcases List.mem_append.mp hy with h | h
            · exact gn y h
            · rw [List.mem_singleton.mp h]; exact gj
      · have gz : GName (ltr r1) := ltr_good r10 (by omega)
        refine ⟨_, rfl, _, rfl, p, _, rfl, .inl (SqL.of hl2), rfl, flat_str, _, rfl, ?_⟩
        rw [inV_str]
        refine ite2 (fun zin => ?_) (fun zin => ?_)
        · refine ⟨by show 4 ≤ sizeLine; decide, fun l4 hn4 => ?_⟩
          have s4 : Same H2 (upd H2 l4 (.lst (abcd.map V.str))) := (Same.refl H2).new hn4
          refine ⟨l4, rfl, ⟨_, SqL.of upd_same⟩, fun Dl hD => lc_list (K := K) (a := l4) (xs := abcd.map V.str) (vs := [7]) (fun j H' => Same H2 H' ∧ H' l4 = some (.lst (abcd.map V.str)) ∧ H' Dl = some (.lst (((abcd.take j).filter fun z => decide (z ∉ ns)).map V.str))) ⟨s4.new hD, by rw [upd_ne (ne_of_none upd_same hD)]; exact upd_same, upd_same⟩ (fun j H' _ q => SqL.of q.2.1) ?_ ?_⟩
          · rintro j x H' hj ⟨t1, t2, t3⟩
            obtain ⟨z, hz, rfl⟩ : ∃ z, abcd[j]? = some z ∧ x = V.str z := by
              rw [List.getElem?_map] at hj
              cases e : abcd[j]? with
              | none => rw [e] at hj; cases hj
              | some z => rw [e] at hj; exact ⟨z, rfl, (Option.some.inj hj).symm⟩
            have jl : j < 4 := (List.getElem?_eq_some_iff.mp hz).1
            refine ⟨rfl, ?_⟩
            refine ⟨_, rfl, _, rfl, p, _, rfl, .inl (SqL.of (t1 _ _ hl2)), rfl, flat_str, _, rfl, ?_⟩
            rw [inV_str]
            have nl4 : l4 ≠ Dl := by intro e; subst e; rw [upd_same] at hD; cases hD
            refine ite2 (fun y => ?_) (fun y => ?_)
            · have y : z ∉ ns := by simpa using y
              refine ⟨_, rfl, _, t3, by rw [List.length_map]; exact small1000 (Nat.le_trans (List.length_filter_le _ _) (by rw [List.length_take]; omega)), fun a o e => ?_, by rw [upd_ne nl4]; exact t2, ?_⟩
              · rw [upd_ne (ne_of_none e (s4.free hD))]; exact t1 a o e
              · rw [upd_same, List.take_add_one, hz, List.filter_append, List.map_append]
                show _ = some (HO.lst (_ ++ (([z].filter fun z => decide (z ∉ ns)).map V.str)))
                rw [List.filter_cons_of_pos (by simpa using y)]; rfl
            · have y : z ∈ ns := by simpa using y
              refine ⟨t1, t2, ?_⟩
              rw [t3, List.take_add_one, hz, List.filter_append]
              have : ((some z).toList.filter fun z => decide (z ∉ ns)) = [] := by show [z].filter _ = []; rw [List.filter_cons_of_neg (by simpa using y)]; rfl
              rw [this, List.append_nil]
          · rintro H' ⟨t1, t2, t3⟩
            rw [show abcd.map V.str = abcd.map V.str from rfl, List.length_map, List.take_length] at t3
            obtain ⟨z9, hz9, m9, n9⟩ : ∃ z, (abcd.filter fun z => decide (z ∉ ns))[0]? = some z ∧ z ∈ abcd ∧ z ∉ ns := by
              cases e : (abcd.filter fun z => decide (z ∉ ns)) with
              | nil =>
                have q : ∀ x ∈ abcd, x ∈ ns := fun x hx => by
                  have := List.filter_eq_nil_iff.mp e x hx
                  simpa using this
                have := nd_sub abcd_nd q
                have : abcd.length = 4 := rfl
                omega
              | cons z r =>
                have mm : z ∈ abcd.filter fun z => decide (z ∉ ns) := by rw [e]; exact List.mem_cons_self
                have := List.mem_filter.mp mm
                exact ⟨z, rfl, this.1, by simpa using this.2⟩
            have HL2 := t1 _ _ hl2
            have BB2 := B2.same t1
            have GZ2 : GName z9 := abcd_good z9 m9
            refine ⟨Dl, _, _, _, rfl, rfl, SqL.of t3, at_of (j := 0) rfl (by rw [List.getElem?_map, hz9]; rfl), ?_⟩
            refine ⟨_, rfl, .inl ⟨rfl, _, SqL.of HL2⟩, _, rfl, p, _, _, rfl, rfl, HL2, by rw [List.length_map]; exact small1000 (by omega), ?_⟩
            refine ⟨ns ++ [z9], _, _, _, _, rfl, BB2.chg B hp, (kk2.trans (Kp.of t1)).chg hp, by rw [upd_same, List.map_append]; rfl, nd_snoc nd n9, by rw [List.length_append, el]; rfl, fun y hy => ?_⟩
            rcases List.mem_append.mp hy with h | h
            · exact gn y h
            · rw [List.mem_singleton.mp h]; exact GZ2
        · have zin : (ltr r1) ∉ ns := fun m => zin (decide_eq_true m)
          refine ⟨_, rfl, .inl ⟨rfl, _, SqL.of hl2⟩, _, rfl, p, _, _, rfl, rfl, hl2, by rw [List.length_map]; exact small1000 (by omega), ?_⟩
          refine ⟨ns ++ [(ltr r1)], _, _, _, _, rfl, B2.chg B hp, (kk2).chg hp, by rw [upd_same, List.map_append]; rfl, nd_snoc nd zin, by rw [List.length_append, el]; rfl, fun y hy => ?_⟩
          rcases List.mem_append.mp hy with h | h
          · exact gn y h
          · rw [List.mem_singleton.mp h]; exact gz
    · rintro σ H' ⟨ns, x, y, v, u, rfl, B', k', hl, nd, el, gn⟩
      exact ⟨_, rfl, q p ns _ B' k' hp hl nd (by omega) gn⟩
end
end Pl

namespace Pl
open PySem L2 PySem.Spec PyProof.Rows
section
variable {P : Program} {w : World} {K : Fg} {mg : Str → Option Value} {base : Heap} {A : CA} {ks : Kd → Bool} {CW : Addr}
theorem bi_fst {a b ch : Addr} {z : Sz} : (biO a b ++ allF ch z).lookup ("first" : Str) = some (.ref a) := f_own (ks := ["first", "second"]) (i := 0) rfl rfl (by decide +kernel)
theorem bi_snd {a b ch : Addr} {z : Sz} : (biO a b ++ allF ch z).lookup ("second" : Str) = some (.ref b) := f_own (ks := ["first", "second"]) (i := 1) rfl rfl (by decide +kernel)
/-! ### either -/
def spI_either (A : CA) (ks : Kd → Bool) : Sp := fun vs H Q _ => ∃ p dx a b x y, vs = [.ref p, .ref a, .ref b] ∧ H p = some (.ins (A.cls .either) dx []) ∧ TermAt A H x a ∧ TermAt A H y b ∧ ks x.kd = true ∧ ks y.kd = true ∧ Fit (Tm.sz (.either x y)) ∧ ∀ H', (∀ a o, H a = some o → a ≠ p → H' a = some o) → TermAt A H' (.either x y) p → Q .non H'
theorem ok_Either_init (D : DfI K mg "Either" "Either.__init__" (A.cls .either) s_Either___init__ p_Either___init__) (TT : TTx K mg A ks) (hk0 : ks .either = true) (c_init : CalC P w K mg base CX0 A.T "__init__" 1 (spTInit K)) : CalM P w K mg base CX0 "Either" (A.cls .either) 2 (spI_either A ks) := by
  refine D.cal sc_Either___init__ (fun vs H Q E h => ?_) (fun f cdv A' outer s H vs Q E hr h => ?_)
  · obtain ⟨p, dx, a, b, x, y, rfl, _⟩ := h; rfl
  · obtain ⟨p, dx, a, b, x, y, rfl, hp, ha, hb, hkx, hky, ⟨f1, f2, f3⟩, q⟩ := h
    have g_Term := TT.gT
    have KS := TT.at_ _ hk0
    refine ⟨_, (pss_cons (ps_fld (pv 0) (pv 1) rfl)
      (pss_cons (ps_fld (pv 0) (pv 2) rfl)
      (pss_one (ps_expr (pclx c_init hr (by decide) pass0 (pe_glob rfl g_Term rel_r) (pa_cons (pv 0) (pa_cons (pe_tup (pa_cons (pv 1) (pa_cons (pv 2) pa_nil))) (pa_cons pe_int (pa_cons pe_int pa_nil))))))))), ?_⟩
    refine ⟨_, rfl, _, rfl, p, _, dx, [], rfl, hp, KS.cl.cl, KS.no _ (by decide +kernel), by show 0 < 1000; decide, ?_⟩
    refine ⟨_, rfl, _, rfl, p, _, dx, _, rfl, upd_same, KS.cl.cl, KS.no _ (by decide +kernel), by show 1 < 1000; decide, ?_⟩
    rw [upd_upd]
    have e1 : putF "second" (V.ref b) (putF "first" (V.ref a) []) = biO a b := putF_one (fs := one "first" (.ref a)) (by show ¬ (Str.ofString "second") ∈ ([Str.ofString "first"] : List Str); decide +kernel)
    rw [e1]
    have npa : a ≠ p := ha.ne hp
    have npb : b ≠ p := hb.ne hp
    generalize hH : upd H p (.ins (A.cls .either) dx (biO a b)) = H1
    have p1 : H1 p = some (.ins (A.cls .either) dx (biO a b)) := by rw [← hH]; exact upd_same
    have k0 : ∀ a o, H a = some o → a ≠ p → H1 a = some o := fun a o e ne => by rw [← hH, upd_ne ne]; exact e
    refine ⟨rfl, _, rfl, _, rfl, _, rfl, by show 2 ≤ sizeLine; decide, fun ch hch => ?_⟩
    have k1 : ∀ q o, H1 q = some o → (upd H1 ch (.tup [.ref a, .ref b])) q = some o := fun q o e => by rw [upd_ne (ne_of_none e hch)]; exact e
    have npc : ch ≠ p := by intro z; subst z; rw [p1] at hch; cases hch
    refine ⟨p, ch, _, dx, 0, 0, _, [a, b], [x.sz, y.sz], rfl, k1 _ _ p1, KS.cl, (by show ∀ k ∈ kN, k ∉ ([Str.ofString "first", Str.ofString "second"] : List Str); decide +kernel), by show 2 ≤ 10; decide, SqT.of upd_same, rfl, by show 2 ≤ 2; decide, fun n c' z h1 h2 => ?_, f1, f2, f3, fun H' k2 h => ?_⟩
    · match n, h1, h2 with
      | 0, h1, h2 =>
        simp at h1 h2
        subst h1; subst h2
        exact ⟨(ha.but hp fun a o e ne => k1 _ _ (k0 _ _ e ne)).kid (TT.at_ _ hkx).cl, npa⟩
      | 1, h1, h2 =>
        simp at h1 h2
        subst h1; subst h2
        exact ⟨(hb.but hp fun a o e ne => k1 _ _ (k0 _ _ e ne)).kid (TT.at_ _ hky).cl, npb⟩
      | n + 2, h1, h2 => simp at h1
    · have kk : ∀ a o, H a = some o → a ≠ p → H' a = some o := fun a o e ne => k2 _ _ (k1 _ _ (k0 _ _ e ne)) ne
      exact q H' kk ⟨dx, ch, a, b, h, k2 _ _ upd_same npc, ha.but hp kk, hb.but hp kk⟩
def spM_either (A : CA) (ks : Kd → Bool) : Sp := fun vs H Q _ => ∃ a b x y, vs = [.ref a, .ref b] ∧ TermAt A H x a ∧ TermAt A H y b ∧ ks x.kd = true ∧ ks y.kd = true ∧ Fit (Tm.sz (.either x y)) ∧ ∀ p H', Same H H' → TermAt A H' (.either x y) p → Q (.ref p) H'
theorem ok_Term_either (D : ∃ f fd, Fun K "__or__" "Term.__or__" s_Term___or__ f fd ∧ (∀ k, ks k = true → Meth K (A.cls k) "__or__" f) ∧ Binds K fd p_Term___or__ []) (TT : TTx K mg A ks) (g_Either : mg "Either" = some (.ref (A.cls .either))) (c_check_term : Cal P w K mg base CX0 "check_term" 1 (spChkT A ks)) (c_Either : CalM P w K mg base CX0 "Either" (A.cls .either) 2 (spI_either A ks)) :
    ∀ C sp, (∃ k, ks k = true ∧ C = A.cls k) ∧ sp = spM_either A ks → CalI P w K mg base CX0 C "__or__" 4 sp := by
  obtain ⟨f, fd, F, mm, hb⟩ := D
  have G : FnOk P w K mg base CX0 4 f fd p_Term___or__ (spM_either A ks) := by
    refine F.ok sc_Term___or__ (fun vs H Q E h => ?_) (fun cdv A' outer s H vs Q E hr h => ?_)
    · obtain ⟨a, b, x, y, rfl, _⟩ := h; rfl
    · obtain ⟨a, b, x, y, rfl, ha, hb', hkx, hky, ft, q⟩ := h
      refine ⟨_, (pss_cons (ps_expr (pc c_check_term hr (by decide) (pa_cons (pv 1) pa_nil)))
      (pss_one (ps_ret (pmk c_Either hr (by decide) (pa_cons (pv 0) (pa_cons (pv 1) pa_nil)))))), ?_⟩
      refine ⟨_, rfl, b, y, rfl, hb', hky, _, rfl, _, rfl, fun p dx np ndx nex => ⟨p, dx, a, b, x, y, rfl, upd_same, ha.same (same_upd2 np ndx), hb'.same (same_upd2 np ndx), hkx, hky, ft, fun H' kk hT => ⟨rfl, q p H' (same_made np ndx kk) hT⟩⟩⟩
  rintro C sp ⟨⟨k, hk, rfl⟩, rfl⟩
  exact ⟨f, fd, _, G, mm k hk, (TT.at_ k hk).cl.cl, hb⟩
/-! ### later -/
def spI_later (A : CA) (ks : Kd → Bool) : Sp := fun vs H Q _ => ∃ p dx a b x y, vs = [.ref p, .ref a, .ref b] ∧ H p = some (.ins (A.cls .later) dx []) ∧ TermAt A H x a ∧ TermAt A H y b ∧ ks x.kd = true ∧ ks y.kd = true ∧ Fit (Tm.sz (.later x y)) ∧ ∀ H', (∀ a o, H a = some o → a ≠ p → H' a = some o) → TermAt A H' (.later x y) p → Q .non H'
theorem ok_Later_init (D : DfI K mg "Later" "Later.__init__" (A.cls .later) s_Later___init__ p_Later___init__) (TT : TTx K mg A ks) (hk0 : ks .later = true) (c_init : CalC P w K mg base CX0 A.T "__init__" 1 (spTInit K)) : CalM P w K mg base CX0 "Later" (A.cls .later) 2 (spI_later A ks) := by
  refine D.cal sc_Later___init__ (fun vs H Q E h => ?_) (fun f cdv A' outer s H vs Q E hr h => ?_)
  · obtain ⟨p, dx, a, b, x, y, rfl, _⟩ := h; rfl
  · obtain ⟨p, dx, a, b, x, y, rfl, hp, ha, hb, hkx, hky, ⟨f1, f2, f3⟩, q⟩ := h
    have g_Term := TT.gT
    have KS := TT.at_ _ hk0
    refine ⟨_, (pss_cons (ps_fld (pv 0) (pv 1) rfl)
      (pss_cons (ps_fld (pv 0) (pv 2) rfl)
      (pss_one (ps_expr (pclx c_init hr (by decide) pass0 (pe_glob rfl g_Term rel_r) (pa_cons (pv 0) (pa_cons (pe_tup (pa_cons (pv 1) (pa_cons (pv 2) pa_nil))) (pa_cons pe_int (pa_cons pe_int pa_nil))))))))), ?_⟩
    refine ⟨_, rfl, _, rfl, p, _, dx, [], rfl, hp, KS.cl.cl, KS.no _ (by decide +kernel), by show 0 < 1000; decide, ?_⟩
    refine ⟨_, rfl, _, rfl, p, _, dx, _, rfl, upd_same, KS.cl.cl, KS.no _ (by decide +kernel), by show 1 < 1000; decide, ?_⟩
    rw [upd_upd]
    have e1 : putF "second" (V.ref b) (putF "first" (V.ref a) []) = biO a b := putF_one (fs := one "first" (.ref a)) (by show ¬ (Str.ofString "second") ∈ ([Str.ofString "first"] : List Str); decide +kernel)
    rw [e1]
    have npa : a ≠ p := ha.ne hp
    have npb : b ≠ p := hb.ne hp
    generalize hH : upd H p (.ins (A.cls .later) dx (biO a b)) = H1
    have p1 : H1 p = some (.ins (A.cls .later) dx (biO a b)) := by rw [← hH]; exact upd_same
    have k0 : ∀ a o, H a = some o → a ≠ p → H1 a = some o := fun a o e ne => by rw [← hH, upd_ne ne]; exact e
    refine ⟨rfl, _, rfl, _, rfl, _, rfl, by show 2 ≤ sizeLine; decide, fun ch hch => ?_⟩
    have k1 : ∀ q o, H1 q = some o → (upd H1 ch (.tup [.ref a, .ref b])) q = some o := fun q o e => by rw [upd_ne (ne_of_none e hch)]; exact e
    have npc : ch ≠ p := by intro z; subst z; rw [p1] at hch; cases hch
    refine ⟨p, ch, _, dx, 0, 1, _, [a, b], [x.sz, y.sz], rfl, k1 _ _ p1, KS.cl, (by show ∀ k ∈ kN, k ∉ ([Str.ofString "first", Str.ofString "second"] : List Str); decide +kernel), by show 2 ≤ 10; decide, SqT.of upd_same, rfl, by show 2 ≤ 2; decide, fun n c' z h1 h2 => ?_, f1, f2, f3, fun H' k2 h => ?_⟩
    · match n, h1, h2 with
      | 0, h1, h2 =>
        simp at h1 h2
        subst h1; subst h2
        exact ⟨(ha.but hp fun a o e ne => k1 _ _ (k0 _ _ e ne)).kid (TT.at_ _ hkx).cl, npa⟩
      | 1, h1, h2 =>
        simp at h1 h2
        subst h1; subst h2
        exact ⟨(hb.but hp fun a o e ne => k1 _ _ (k0 _ _ e ne)).kid (TT.at_ _ hky).cl, npb⟩
      | n + 2, h1, h2 => simp at h1
    · have kk : ∀ a o, H a = some o → a ≠ p → H' a = some o := fun a o e ne => k2 _ _ (k1 _ _ (k0 _ _ e ne)) ne
      exact q H' kk ⟨dx, ch, a, b, h, k2 _ _ upd_same npc, ha.but hp kk, hb.but hp kk⟩
def spM_later (A : CA) (ks : Kd → Bool) : Sp := fun vs H Q _ => ∃ a b x y, vs = [.ref a, .ref b] ∧ TermAt A H x a ∧ TermAt A H y b ∧ ks x.kd = true ∧ ks y.kd = true ∧ Fit (Tm.sz (.later x y)) ∧ ∀ p H', Same H H' → TermAt A H' (.later x y) p → Q (.ref p) H'
theorem ok_Term_later (D : ∃ f fd, Fun K "later" "Term.later" s_Term_later f fd ∧ (∀ k, ks k = true → Meth K (A.cls k) "later" f) ∧ Binds K fd p_Term_later []) (TT : TTx K mg A ks) (g_Later : mg "Later" = some (.ref (A.cls .later))) (c_check_term : Cal P w K mg base CX0 "check_term" 1 (spChkT A ks)) (c_Later : CalM P w K mg base CX0 "Later" (A.cls .later) 2 (spI_later A ks)) :
    ∀ C sp, (∃ k, ks k = true ∧ C = A.cls k) ∧ sp = spM_later A ks → CalI P w K mg base CX0 C "later" 4 sp := by
  obtain ⟨f, fd, F, mm, hb⟩ := D
  have G : FnOk P w K mg base CX0 4 f fd p_Term_later (spM_later A ks) := by
    refine F.ok sc_Term_later (fun vs H Q E h => ?_) (fun cdv A' outer s H vs Q E hr h => ?_)
    · obtain ⟨a, b, x, y, rfl, _⟩ := h; rfl
    · obtain ⟨a, b, x, y, rfl, ha, hb', hkx, hky, ft, q⟩ := h
      refine ⟨_, (pss_cons (ps_expr (pc c_check_term hr (by decide) (pa_cons (pv 1) pa_nil)))
      (pss_one (ps_ret (pmk c_Later hr (by decide) (pa_cons (pv 0) (pa_cons (pv 1) pa_nil)))))), ?_⟩
      refine ⟨_, rfl, b, y, rfl, hb', hky, _, rfl, _, rfl, fun p dx np ndx nex => ⟨p, dx, a, b, x, y, rfl, upd_same, ha.same (same_upd2 np ndx), hb'.same (same_upd2 np ndx), hkx, hky, ft, fun H' kk hT => ⟨rfl, q p H' (same_made np ndx kk) hT⟩⟩⟩
  rintro C sp ⟨⟨k, hk, rfl⟩, rfl⟩
  exact ⟨f, fd, _, G, mm k hk, (TT.at_ k hk).cl.cl, hb⟩
/-! ### earlier -/
def spI_earlier (A : CA) (ks : Kd → Bool) : Sp := fun vs H Q _ => ∃ p dx a b x y, vs = [.ref p, .ref a, .ref b] ∧ H p = some (.ins (A.cls .earlier) dx []) ∧ TermAt A H x a ∧ TermAt A H y b ∧ ks x.kd = true ∧ ks y.kd = true ∧ Fit (Tm.sz (.earlier x y)) ∧ ∀ H', (∀ a o, H a = some o → a ≠ p → H' a = some o) → TermAt A H' (.earlier x y) p → Q .non H'
theorem ok_Earlier_init (D : DfI K mg "Earlier" "Earlier.__init__" (A.cls .earlier) s_Earlier___init__ p_Earlier___init__) (TT : TTx K mg A ks) (hk0 : ks .earlier = true) (c_init : CalC P w K mg base CX0 A.T "__init__" 1 (spTInit K)) : CalM P w K mg base CX0 "Earlier" (A.cls .earlier) 2 (spI_earlier A ks) := by
  refine D.cal sc_Earlier___init__ (fun vs H Q E h => ?_) (fun f cdv A' outer s H vs Q E hr h => ?_)
  · obtain ⟨p, dx, a, b, x, y, rfl, _⟩ := h; rfl
  · obtain ⟨p, dx, a, b, x, y, rfl, hp, ha, hb, hkx, hky, ⟨f1, f2, f3⟩, q⟩ := h
    have g_Term := TT.gT
    have KS := TT.at_ _ hk0
    refine ⟨_, (pss_cons (ps_fld (pv 0) (pv 1) rfl)
      (pss_cons (ps_fld (pv 0) (pv 2) rfl)
      (pss_one (ps_expr (pclx c_init hr (by decide) pass0 (pe_glob rfl g_Term rel_r) (pa_cons (pv 0) (pa_cons (pe_tup (pa_cons (pv 1) (pa_cons (pv 2) pa_nil))) (pa_cons pe_int (pa_cons pe_int pa_nil))))))))), ?_⟩
    refine ⟨_, rfl, _, rfl, p, _, dx, [], rfl, hp, KS.cl.cl, KS.no _ (by decide +kernel), by show 0 < 1000; decide, ?_⟩
    refine ⟨_, rfl, _, rfl, p, _, dx, _, rfl, upd_same, KS.cl.cl, KS.no _ (by decide +kernel), by show 1 < 1000; decide, ?_⟩
    rw [upd_upd]
    have e1 : putF "second" (V.ref b) (putF "first" (V.ref a) []) = biO a b := putF_one (fs := one "first" (.ref a)) (by show ¬ (Str.ofString "second") ∈ ([Str.ofString "first"] : List Str); decide +kernel)
    rw [e1]
    have npa : a ≠ p := ha.ne hp
    have npb : b ≠ p := hb.ne hp
    generalize hH : upd H p (.ins (A.cls .earlier) dx (biO a b)) = H1
    have p1 : H1 p = some (.ins (A.cls .earlier) dx (biO a b)) := by rw [← hH]; exact upd_same
    have k0 : ∀ a o, H a = some o → a ≠ p → H1 a = some o := fun a o e ne => by rw [← hH, upd_ne ne]; exact e
    refine ⟨rfl, _, rfl, _, rfl, _, rfl, by show 2 ≤ sizeLine; decide, fun ch hch => ?_⟩
    have k1 : ∀ q o, H1 q = some o → (upd H1 ch (.tup [.ref a, .ref b])) q = some o := fun q o e => by rw [upd_ne (ne_of_none e hch)]; exact e
    have npc : ch ≠ p := by intro z; subst z; rw [p1] at hch; cases hch
    refine ⟨p, ch, _, dx, 0, 1, _, [a, b], [x.sz, y.sz], rfl, k1 _ _ p1, KS.cl, (by show ∀ k ∈ kN, k ∉ ([Str.ofString "first", Str.ofString "second"] : List Str); decide +kernel), by show 2 ≤ 10; decide, SqT.of upd_same, rfl, by show 2 ≤ 2; decide, fun n c' z h1 h2 => ?_, f1, f2, f3, fun H' k2 h => ?_⟩
    · match n, h1, h2 with
      | 0, h1, h2 =>
        simp at h1 h2
        subst h1; subst h2
        exact ⟨(ha.but hp fun a o e ne => k1 _ _ (k0 _ _ e ne)).kid (TT.at_ _ hkx).cl, npa⟩
      | 1, h1, h2 =>
        simp at h1 h2
        subst h1; subst h2
        exact ⟨(hb.but hp fun a o e ne => k1 _ _ (k0 _ _ e ne)).kid (TT.at_ _ hky).cl, npb⟩
      | n + 2, h1, h2 => simp at h1
    · have kk : ∀ a o, H a = some o → a ≠ p → H' a = some o := fun a o e ne => k2 _ _ (k1 _ _ (k0 _ _ e ne)) ne
      exact q H' kk ⟨dx, ch, a, b, h, k2 _ _ upd_same npc, ha.but hp kk, hb.but hp kk⟩
def spM_earlier (A : CA) (ks : Kd → Bool) : Sp := fun vs H Q _ => ∃ a b x y, vs = [.ref a, .ref b] ∧ TermAt A H x a ∧ TermAt A H y b ∧ ks x.kd = true ∧ ks y.kd = true ∧ Fit (Tm.sz (.earlier x y)) ∧ ∀ p H', Same H H' → TermAt A H' (.earlier x y) p → Q (.ref p) H'
theorem ok_Term_earlier (D : ∃ f fd, Fun K "earlier" "Term.earlier" s_Term_earlier f fd ∧ (∀ k, ks k = true → Meth K (A.cls k) "earlier" f) ∧ Binds K fd p_Term_earlier []) (TT : TTx K mg A ks) (g_Earlier : mg "Earlier" = some (.ref (A.cls .earlier))) (c_check_term : Cal P w K mg base CX0 "check_term" 1 (spChkT A ks)) (c_Earlier : CalM P w K mg base CX0 "Earlier" (A.cls .earlier) 2 (spI_earlier A ks)) :
    ∀ C sp, (∃ k, ks k = true ∧ C = A.cls k) ∧ sp = spM_earlier A ks → CalI P w K mg base CX0 C "earlier" 4 sp := by
  obtain ⟨f, fd, F, mm, hb⟩ := D
  have G : FnOk P w K mg base CX0 4 f fd p_Term_earlier (spM_earlier A ks) := by
    refine F.ok sc_Term_earlier (fun vs H Q E h => ?_) (fun cdv A' outer s H vs Q E hr h => ?_)
    · obtain ⟨a, b, x, y, rfl, _⟩ := h; rfl
    · obtain ⟨a, b, x, y, rfl, ha, hb', hkx, hky, ft, q⟩ := h
      refine ⟨_, (pss_cons (ps_expr (pc c_check_term hr (by decide) (pa_cons (pv 1) pa_nil)))
      (pss_one (ps_ret (pmk c_Earlier hr (by decide) (pa_cons (pv 0) (pa_cons (pv 1) pa_nil)))))), ?_⟩
      refine ⟨_, rfl, b, y, rfl, hb', hky, _, rfl, _, rfl, fun p dx np ndx nex => ⟨p, dx, a, b, x, y, rfl, upd_same, ha.same (same_upd2 np ndx), hb'.same (same_upd2 np ndx), hkx, hky, ft, fun H' kk hT => ⟨rfl, q p H' (same_made np ndx kk) hT⟩⟩⟩
  rintro C sp ⟨⟨k, hk, rfl⟩, rfl⟩
  exact ⟨f, fd, _, G, mm k hk, (TT.at_ k hk).cl.cl, hb⟩
/-! ### answers of joins -/
theorem ok_Either_answer (D : ∃ f fd, Fun K "answer" "Either.answer" s_Either_answer f fd ∧ Meth K (A.cls .either) "answer" f ∧ Binds K fd p_Either_answer []) (TT : TTx K mg A ks) (hk0 : ks .either = true) {d : Nat} (c_to : AnsTo P w K mg base A ks CW d) : CalI P w K mg base CX0 (A.cls .either) "answer" (2 * d + 5) (spAns A ks CW .either d) := by
  obtain ⟨f, fd, F, m1, hb⟩ := D
  have KS := TT.at_ _ hk0
  refine ⟨f, fd, _, F.ok sc_Either_answer (fun vs H Q E h => ?_) (fun cdv A' outer s H vs Q E hr h => ?_), m1, KS.cl.cl, hb⟩
  · obtain ⟨N, a, wd, n, t, rs, rfl, _⟩ := h; rfl
  · obtain ⟨N, a, wd, n, t, rs, rfl, hk, ha, g, hd, hw, wo, q⟩ := h
    cases t with
    | either x y =>
      have hd0 : 1 + max x.sz.d y.sz.d ≤ (d : Int) := hd
      have x0 := x.d_pos
      have d1 : 1 ≤ d := by omega
      have hdx : x.sz.d ≤ ((d - 1 : Nat) : Int) := by omega
      have hdy : y.sz.d ≤ ((d - 1 : Nat) : Int) := by omega
      have c_a := c_to (d - 1) (by omega)
      have lv : 2 * (d - 1) + 5 ≤ 2 * d + 4 := by omega
      refine ⟨_, (pss_cons (ps_set (i := 3) sc_Either_answer.nd rfl (Or.inl rfl) (pmsx c_a hr lv pass0 (pe_fld (pv 0) rfl) (pa_cons (pv 1) (pa_cons (pv 2) pa_nil))))
      (pss_cons (ps_if (pt_cmpR op_isN (pv 3) pe_non (nomark _))
        (pss_one (ps_ret (pmsx c_a hr lv pass0 (pe_fld (pv 0) rfl) (pa_cons (pv 1) (pa_cons (pv 2) pa_nil)))))
        pss_nil)
      (pss_one (ps_ret (pv 3))))), ?_⟩
      obtain ⟨dx, ch, xa, ya, h1, h2, h3, h4⟩ := ha
      obtain ⟨dy, gs, g1, g2⟩ := head_no (m := "answer") h3 (by decide +kernel) (by decide +kernel)
      refine ⟨_, rfl, a, _, dx, _, _, rfl, h1, KS.cl.cl, KS.no _ (by decide +kernel), bi_fst, xa, _, dy, _, _, rfl, g1, ⟨x.kd, g.2.1.k, rfl, rfl⟩, g2, _, rfl, _, rfl, N, xa, wd, n, x, rs, rfl, rfl, h3, g.2.1, hdx, hw, wo, fun H1 s1 => ?_⟩
      have e : (Tm.either x y).ans rs n = (match x.ans rs n with
        | some r => some r
        | none => y.ans rs n) := rfl
      rw [e] at q
      cases hx : x.ans rs n with
      | some r =>
        rw [hx] at q
        exact ⟨_, rfl, rfl, _, rfl, iteF ⟨_, rfl, q _ s1⟩⟩
      | none =>
        rw [hx] at q
        obtain ⟨dz, gs', g1', g2'⟩ := head_no (m := "answer") (h4.same s1) (by decide +kernel) (by decide +kernel)
        exact ⟨_, rfl, rfl, _, rfl, iteT ⟨_, rfl, a, _, dx, _, _, rfl, s1 _ _ h1, KS.cl.cl, KS.no _ (by decide +kernel), bi_snd, ya, _, dz, _, _, rfl, g1', ⟨y.kd, g.2.2.k, rfl, rfl⟩, g2', _, rfl, _, rfl, N, ya, wd, n, y, rs, rfl, rfl, h4.same s1, g.2.2, hdy, hw.same s1, wo, fun H2 s2 => q _ (s1.trans s2)⟩⟩
    | _ => cases hk
/-- the answers of both -/
def spBoth (A : CA) (ks : Kd → Bool) (CW : Addr) (d : Nat) : Sp := fun vs H Q _ => ∃ N a k dx ch xa ya z wd n x y rs, vs = [.ref a, .ref wd, .int n] ∧ H a = some (.ins (A.cls k) dx (biO xa ya ++ allF ch z)) ∧ ks k = true ∧ k.own = Kd.own .either ∧ TermAt A H x xa ∧ TermAt A H y ya ∧ Good ks x ∧ Good ks y ∧ x.sz.d < (d : Int) ∧ y.sz.d < (d : Int) ∧ WAt N CW H wd rs ∧ WOk rs ∧
  ∀ H', Same H H' → ((x.ans rs n = none ∨ y.ans rs n = none) → Q .non H') ∧ ∀ u v p, x.ans rs n = some u → y.ans rs n = some v → H' p = some (.lst ([u, v].map V.int)) → Q (.ref p) H'
theorem ok_both_answers (D : Df K mg "both_answers" "both_answers" s_both_answers p_both_answers) (TT : TTx K mg A ks) {d : Nat} (c_to : AnsTo P w K mg base A ks CW d) : Cal P w K mg base CX0 "both_answers" (2 * d + 4) (spBoth A ks CW d) := by
  refine D.cal fun f fd F => F.ok sc_both_answers (fun vs H Q E h => ?_) (fun cdv A' outer s H vs Q E hr h => ?_)
  · obtain ⟨N, a, k, dx, ch, xa, ya, z, wd, n, x, y, rs, rfl, _⟩ := h; rfl
  · obtain ⟨N, a, k, dx, ch, xa, ya, z, wd, n, x, y, rs, rfl, h1, hk, ho, h3, h4, gx, gy, hdx, hdy, hw, wo, q⟩ := h
    have KS := TT.at_ _ hk
    have x0 := x.d_pos
    have hdx' : x.sz.d ≤ ((d - 1 : Nat) : Int) := by omega
    have hdy' : y.sz.d ≤ ((d - 1 : Nat) : Int) := by omega
    have c_a := c_to (d - 1) (by omega)
    have lv : 2 * (d - 1) + 5 ≤ 2 * d + 3 := by omega
    have nf : NoAttr K (A.cls k) "first" := KS.no _ (by rw [ho]; decide +kernel)
    have ns : NoAttr K (A.cls k) "second" := KS.no _ (by rw [ho]; decide +kernel)
    refine ⟨_, (pss_cons (ps_set (i := 3) sc_both_answers.nd rfl (Or.inl rfl) (pmsx c_a hr lv pass0 (pe_fld (pv 0) rfl) (pa_cons (pv 1) (pa_cons (pv 2) pa_nil))))
      (pss_cons (ps_if (pt_cmpR op_isN (pv 3) pe_non (nomark _))
        (pss_one (ps_ret pe_non))
        pss_nil)
      (pss_cons (ps_set (i := 4) sc_both_answers.nd rfl (Or.inl rfl) (pmsx c_a hr lv pass0 (pe_fld (pv 0) rfl) (pa_cons (pv 1) (pa_cons (pv 2) pa_nil))))
      (pss_cons (ps_if (pt_cmpR op_isN (pv 4) pe_non (nomark _))
        (pss_one (ps_ret pe_non))
        pss_nil)
      (pss_one (ps_ret (pe_lst (pa_cons (pv 3) (pa_cons (pv 4) pa_nil))))))))), ?_⟩
    obtain ⟨dy, gs, g1, g2⟩ := head_no (m := "answer") h3 (by decide +kernel) (by decide +kernel)
    refine ⟨_, rfl, a, _, dx, _, _, rfl, h1, KS.cl.cl, nf, bi_fst, xa, _, dy, _, _, rfl, g1, ⟨x.kd, gx.k, rfl, rfl⟩, g2, _, rfl, _, rfl, N, xa, wd, n, x, rs, rfl, rfl, h3, gx, hdx', hw, wo, fun H1 s1 => ?_⟩
    cases hx : x.ans rs n with
    | none => exact ⟨_, rfl, rfl, _, rfl, iteT ((q _ s1).1 (.inl hx))⟩
    | some u =>
      obtain ⟨dz, gs', g1', g2'⟩ := head_no (m := "answer") (h4.same s1) (by decide +kernel) (by decide +kernel)
      refine ⟨_, rfl, rfl, _, rfl, iteF ?_⟩
      refine ⟨_, rfl, a, _, dx, _, _, rfl, s1 _ _ h1, KS.cl.cl, ns, bi_snd, ya, _, dz, _, _, rfl, g1', ⟨y.kd, gy.k, rfl, rfl⟩, g2', _, rfl, _, rfl, N, ya, wd, n, y, rs, rfl, rfl, h4.same s1, gy, hdy', hw.same s1, wo, fun H2 s2 => ?_⟩
      have s12 := s1.trans s2
      cases hy : y.ans rs n with
      | none => exact ⟨_, rfl, rfl, _, rfl, iteT ((q _ s12).1 (.inr hy))⟩
      | some v =>
        exact ⟨_, rfl, rfl, _, rfl, iteF ⟨_, rfl, _, rfl, by show 2 ≤ sizeLine; decide, fun p hp => (q _ (s12.new hp)).2 u v p hx hy upd_same⟩⟩
theorem ok_Later_answer (D : ∃ f fd, Fun K "answer" "Later.answer" s_Later_answer f fd ∧ Meth K (A.cls .later) "answer" f ∧ Binds K fd p_Later_answer []) (T : Tx K mg) (TT : TTx K mg A ks) (hk0 : ks .later = true) {d : Nat} (c_both_answers : Cal P w K mg base CX0 "both_answers" (2 * d + 4) (spBoth A ks CW d)) : CalI P w K mg base CX0 (A.cls .later) "answer" (2 * d + 5) (spAns A ks CW .later d) := by
  obtain ⟨f, fd, F, m1, hb⟩ := D
  have KS := TT.at_ _ hk0
  refine ⟨f, fd, _, F.ok sc_Later_answer (fun vs H Q E h => ?_) (fun cdv A' outer s H vs Q E hr h => ?_), m1, KS.cl.cl, hb⟩
  · obtain ⟨N, a, wd, n, t, rs, rfl, _⟩ := h; rfl
  · obtain ⟨N, a, wd, n, t, rs, rfl, hk, ha, g, hd, hw, wo, q⟩ := h
    cases t with
    | later x y =>
      have hd0 : 1 + max x.sz.d y.sz.d ≤ (d : Int) := hd
      refine ⟨_, (pss_cons (ps_set (i := 3) sc_Later_answer.nd rfl (Or.inl rfl) (pc c_both_answers hr (Nat.le_refl _) (pa_cons (pv 0) (pa_cons (pv 1) (pa_cons (pv 2) pa_nil)))))
      (pss_one (ps_ret (pe_ifExp (pt_cmpR op_isN (pv 3) pe_non (nomark _)) pe_non (pe_callB (cr_max rfl) rfl T.max (by decide +kernel) (pa_cons (pv 3) pa_nil)))))), ?_⟩
      obtain ⟨dx, ch, xa, ya, h1, h2, h3, h4⟩ := ha
      refine ⟨_, rfl, _, rfl, _, rfl, N, a, .later, dx, ch, xa, ya, _, wd, n, x, y, rs, rfl, h1, hk0, rfl, h3, h4, g.2.1, g.2.2, by omega, by omega, hw, wo, fun H1 s1 => ⟨fun hn => ?_, fun u v p hx hy hp => ?_⟩⟩
      · have e : (Tm.later x y).ans rs n = none := by
          show (x.ans rs n).bind _ = none
          rcases hn with hn | hn
          · rw [hn]; rfl
          · rw [hn]; cases x.ans rs n <;> rfl
        rw [e] at q
        exact ⟨_, rfl, rfl, _, rfl, iteT (q _ s1)⟩
      · have e : (Tm.later x y).ans rs n = some (if v > u then v else u) := by
          show (x.ans rs n).bind _ = _
          rw [hx, hy]; rfl
        rw [e] at q
        refine ⟨_, rfl, rfl, _, rfl, iteF ⟨_, rfl, p, [u, v], rfl, SqL.of hp, by show 0 < 2; decide, fun m hm hle => ?_⟩⟩
        have e2 : m = if v > u then v else u := by
          have l1 := hle u (by simp)
          have l2 := hle v (by simp)
          have : m = u ∨ m = v := by simpa using hm
          split <;> omega
        rw [e2]; exact q _ s1
    | _ => cases hk
theorem ok_Earlier_answer (D : ∃ f fd, Fun K "answer" "Earlier.answer" s_Earlier_answer f fd ∧ Meth K (A.cls .earlier) "answer" f ∧ Binds K fd p_Earlier_answer []) (T : Tx K mg) (TT : TTx K mg A ks) (hk0 : ks .earlier = true) {d : Nat} (c_both_answers : Cal P w K mg base CX0 "both_answers" (2 * d + 4) (spBoth A ks CW d)) : CalI P w K mg base CX0 (A.cls .earlier) "answer" (2 * d + 5) (spAns A ks CW .earlier d) := by
  obtain ⟨f, fd, F, m1, hb⟩ := D
  have KS := TT.at_ _ hk0
  refine ⟨f, fd, _, F.ok sc_Earlier_answer (fun vs H Q E h => ?_) (fun cdv A' outer s H vs Q E hr h => ?_), m1, KS.cl.cl, hb⟩
  · obtain ⟨N, a, wd, n, t, rs, rfl, _⟩ := h; rfl
  · obtain ⟨N, a, wd, n, t, rs, rfl, hk, ha, g, hd, hw, wo, q⟩ := h
    cases t with
    | earlier x y =>
      have hd0 : 1 + max x.sz.d y.sz.d ≤ (d : Int) := hd
      refine ⟨_, (pss_cons (ps_set (i := 3) sc_Earlier_answer.nd rfl (Or.inl rfl) (pc c_both_answers hr (Nat.le_refl _) (pa_cons (pv 0) (pa_cons (pv 1) (pa_cons (pv 2) pa_nil)))))
      (pss_one (ps_ret (pe_ifExp (pt_cmpR op_isN (pv 3) pe_non (nomark _)) pe_non (pe_callB (cr_min rfl) rfl T.min (by decide +kernel) (pa_cons (pv 3) pa_nil)))))), ?_⟩
      obtain ⟨dx, ch, xa, ya, h1, h2, h3, h4⟩ := ha
      refine ⟨_, rfl, _, rfl, _, rfl, N, a, .earlier, dx, ch, xa, ya, _, wd, n, x, y, rs, rfl, h1, hk0, rfl, h3, h4, g.2.1, g.2.2, by omega, by omega, hw, wo, fun H1 s1 => ⟨fun hn => ?_, fun u v p hx hy hp => ?_⟩⟩
      · have e : (Tm.earlier x y).ans rs n = none := by
          show (x.ans rs n).bind _ = none
          rcases hn with hn | hn
          · rw [hn]; rfl
          · rw [hn]; cases x.ans rs n <;> rfl
        rw [e] at q
        exact ⟨_, rfl, rfl, _, rfl, iteT (q _ s1)⟩
      · have e : (Tm.earlier x y).ans rs n = some (if v < u then v else u) := by
          show (x.ans rs n).bind _ = _
          rw [hx, hy]; rfl
        rw [e] at q
        refine ⟨_, rfl, rfl, _, rfl, iteF ⟨_, rfl, p, [u, v], rfl, SqL.of hp, by show 0 < 2; decide, fun m hm hle => ?_⟩⟩
        have e2 : m = if v < u then v else u := by
          have l1 := hle u (by simp)
          have l2 := hle v (by simp)
          have : m = u ∨ m = v := by simpa using hm
          split <;> omega
        rw [e2]; exact q _ s1
    | _ => cases hk
end
end Pl

namespace Pl
open PySem L2 PySem.Spec PyProof.Rows
/-! ### trees: the law's own form of a term -/
def TreeAt (H : Hp) : Tm → Addr → Prop
  | .now, a => H a = some (.tup [.str "now"])
  | .shift m c, a => ∃ ma, H a = some (.tup [.str "shift", .int c, .ref ma]) ∧ TreeAt H m ma
  | .look z m wy lim, a => ∃ ma, H a = some (.tup [.str "look", .str z, .str wy, limV lim, .ref ma]) ∧ TreeAt H m ma
  | .either x y, a => ∃ xa ya, H a = some (.tup [.str "either", .ref xa, .ref ya]) ∧ TreeAt H x xa ∧ TreeAt H y ya
  | .later x y, a => ∃ xa ya, H a = some (.tup [.str "later", .ref xa, .ref ya]) ∧ TreeAt H x xa ∧ TreeAt H y ya
  | .earlier x y, a => ∃ xa ya, H a = some (.tup [.str "earlier", .ref xa, .ref ya]) ∧ TreeAt H x xa ∧ TreeAt H y ya
theorem TreeAt.kt {H H' : Hp} (k : Kt H H') : ∀ {t : Tm} {a : Addr}, TreeAt H t a → TreeAt H' t a
  | .now, _, h => k.2 _ _ h
  | .shift _ _, _, ⟨ma, h1, h2⟩ => ⟨ma, k.2 _ _ h1, TreeAt.kt k h2⟩
  | .look _ _ _ _, _, ⟨ma, h1, h2⟩ => ⟨ma, k.2 _ _ h1, TreeAt.kt k h2⟩
  | .either _ _, _, ⟨xa, ya, h1, h2, h3⟩ => ⟨xa, ya, k.2 _ _ h1, TreeAt.kt k h2, TreeAt.kt k h3⟩
  | .later _ _, _, ⟨xa, ya, h1, h2, h3⟩ => ⟨xa, ya, k.2 _ _ h1, TreeAt.kt k h2, TreeAt.kt k h3⟩
  | .earlier _ _, _, ⟨xa, ya, h1, h2, h3⟩ => ⟨xa, ya, k.2 _ _ h1, TreeAt.kt k h2, TreeAt.kt k h3⟩
theorem TreeAt.same {H H' : Hp} {t : Tm} {a : Addr} (x : TreeAt H t a) (s : Same H H') : TreeAt H' t a := x.kt (Kt.of s)
def Kd.tag : Kd → Str
  | .now => "now"
  | .shift => "shift"
  | .look => "look"
  | .either => "either"
  | .later => "later"
  | .earlier => "earlier"
theorem TreeAt.hd {H : Hp} : ∀ {t : Tm} {a : Addr}, TreeAt H t a → ∃ xs, H a = some (.tup (.str t.kd.tag :: xs))
  | .now, _, h => ⟨_, h⟩
  | .shift _ _, _, ⟨_, h1, _⟩ => ⟨_, h1⟩
  | .look _ _ _ _, _, ⟨_, h1, _⟩ => ⟨_, h1⟩
  | .either _ _, _, ⟨_, _, h1, _⟩ => ⟨_, h1⟩
  | .later _ _, _, ⟨_, _, h1, _⟩ => ⟨_, h1⟩
  | .earlier _ _, _, ⟨_, _, h1, _⟩ => ⟨_, h1⟩
theorem tag_ne {k k' : Kd} (h : k ≠ k') : k.tag ≠ k'.tag := by
  revert h; cases k <;> cases k' <;> intro h <;> first | exact absurd rfl h | decide +kernel
theorem shd_d {t : Tm} {c : Int} : (t.shd c).sz.d ≤ 1 + t.sz.d ∧ (t.shd c).sz.p ≤ 1 + t.sz.p ∧ (t.shd c).sz.l ≤ t.sz.l := by
  have sh : ∀ (m : Tm) (c : Int), (Tm.shift m c).sz.d = 1 + m.sz.d ∧ (Tm.shift m c).sz.p = 1 + m.sz.p ∧ (Tm.shift m c).sz.l = m.sz.l := fun m c => ⟨szOf1_d, szOf1_p, by show (szOf 0 0 [m.sz]).l = _; rw [szOf1_l]; omega⟩
  by_cases hk : t.kd = .shift
  · cases t with
    | shift m a =>
      obtain ⟨e1, e2, e3⟩ := sh m a
      show (if c = 0 then Tm.shift m a else if a + c = 0 then m else .shift m (a + c)).sz.d ≤ _ ∧ (if c = 0 then Tm.shift m a else if a + c = 0 then m else .shift m (a + c)).sz.p ≤ _ ∧ (if c = 0 then Tm.shift m a else if a + c = 0 then m else .shift m (a + c)).sz.l ≤ _
      split
      · omega
      · split
        · omega
        · obtain ⟨g1, g2, g3⟩ := sh m (a + c)
          omega
    | _ => cases hk
  · rw [shd_ns hk]
    split
    · omega
    · obtain ⟨g1, g2, g3⟩ := sh t c
      omega
section
variable {P : Program} {w : World} {K : Fg} {mg : Str → Option Value} {base : Heap} {A : CA} {ks : Kd → Bool} {CW : Addr}
theorem eq_tag {x y : Str} : decide (V.str x = V.str y) = decide (x = y) := by
  rw [Bool.eq_iff_iff, decide_eq_true_iff, decide_eq_true_iff]
  exact ⟨fun h => by injection h, fun h => by rw [h]⟩
def spShift (ks : Kd → Bool) : Sp := fun vs H Q _ => ∃ a c t, vs = [.ref a, .int c] ∧ TreeAt H t a ∧ Good ks t ∧ ∀ p H', Same H H' → TreeAt H' (t.shd c) p → Q (.ref p) H'
theorem ok__law_shift (D : Df K mg "_law_shift" "_law_shift" s__law_shift p__law_shift) : Cal P w K mg base CX0 "_law_shift" 1 (spShift ks) := by
  refine D.cal fun f fd F => F.ok sc__law_shift (fun vs H Q E h => ?_) (fun cdv A' outer s H vs Q E hr h => ?_)
  · obtain ⟨a, c, t, rfl, _⟩ := h; rfl
  · obtain ⟨a, c, t, rfl, ht, g, q⟩ := h
    refine ⟨_, (C8.pss_cut (ps_if (pt_cmpR op_eq (pe_ix ix_tup (pv 0) pe_int (fun _ _ => rfl)) pe_str (nomark _))
        (pss_cons (ps_set (i := 1) sc__law_shift.nd rfl (Or.inl rfl) (pe_op op_add (pv 1) (pe_ix ix_tup (pv 0) pe_int (fun _ _ => rfl))))
        (pss_one (ps_set (i := 0) sc__law_shift.nd rfl (Or.inl rfl) (pe_ix ix_tup (pv 0) pe_int (fun _ _ => rfl)))))
        pss_nil)
      (pss_cons (ps_if (pt_cmpR op_eq (pv 1) pe_int (nomark _))
        (pss_one (ps_ret (pv 0)))
        pss_nil)
      (pss_one (ps_ret (pe_tup (pa_cons pe_str (pa_cons (pv 1) (pa_cons (pv 0) pa_nil)))))))), ?_⟩
    refine ⟨fun σ H' => H' = H ∧ ∃ a' c' m, σ = [some (.ref a'), some (.int c')] ∧ TreeAt H m a' ∧ t.shd c = (if c' = 0 then m else .shift m c'), ?_, ?_⟩
    · by_cases hk : t.kd = .shift
      · cases t with
        | shift m b =>
          obtain ⟨ma, h1, h2⟩ := ht
          refine ⟨_, rfl, a, _, 0, .str "shift", rfl, rfl, SqT.of h1, rfl, rfl, _, rfl, ite_t (decide_eq_true rfl) ?_⟩
          refine ⟨_, rfl, _, rfl, a, _, 1, _, rfl, rfl, SqT.of h1, rfl, _, _, rfl, rfl, ?_⟩
          refine ⟨_, rfl, a, _, 2, _, rfl, rfl, SqT.of h1, rfl, rfl, ma, c + b, m, rfl, h2, ?_⟩
          show (if c = 0 then Tm.shift m b else if b + c = 0 then m else .shift m (b + c)) = _
          by_cases c0 : c = 0
          · subst c0
            rw [if_pos rfl, if_neg (by have := g.2.2.1; omega)]
            congr 1; omega
          · rw [if_neg c0, Int.add_comm]
        | _ => cases hk
      · obtain ⟨xs, h1⟩ := ht.hd
        refine ⟨_, rfl, a, _, 0, .str t.kd.tag, rfl, rfl, SqT.of h1, at_of (j := 0) rfl rfl, rfl, _, rfl, ite_f (decide_eq_false fun z => ?_) ⟨rfl, a, c, t, rfl, ht, shd_ns hk⟩⟩
        injection z with z
        exact tag_ne hk z
    · rintro σ H1 ⟨rfl, a', c', m, rfl, hm, e⟩
      rw [e] at q
      refine ⟨_, rfl, rfl, _, rfl, ite2 (fun z => ?_) (fun z => ?_)⟩
      · have z : c' = 0 := by simpa using z
        rw [if_pos z] at q
        exact ⟨_, rfl, q _ _ (Same.refl _) hm⟩
      · have z : c' ≠ 0 := by simpa using z
        rw [if_neg z] at q
        refine ⟨_, rfl, _, rfl, by show 3 ≤ sizeLine; decide, fun p hp => ?_⟩
        have s1 := (Same.refl H1).new (o := .tup [.str "shift", .int c', .ref a']) hp
        exact q p _ s1 ⟨a', upd_same, hm.same s1⟩
def spTree (ks : Kd → Bool) (n : Nat) : Sp := fun vs H Q _ => ∃ (b c p : Addr) (ns : List Str) (L J : Int), vs = [.ref b, .ref p, .int L, .int J] ∧ Box H b c ∧ Nb b c p ∧ H p = some (.lst (ns.map V.str)) ∧ 0 < ns.length ∧ ns.length ≤ 100 ∧ (∀ z ∈ ns, GName z) ∧ 0 ≤ L ∧ 0 ≤ J ∧ L ≤ 100 ∧ J ≤ 100 ∧ L + J < (n : Int) ∧
  ∀ a t H', Box H' b c → Kp b c H H' → TreeAt H' t a → Good ks t → t.sz.d ≤ L + J + 2 → t.sz.p ≤ L + 3 * J + 2 → t.sz.l ≤ L → Q (.ref a) H'
theorem ways_at {i : Int} (h0 : 0 ≤ i) (h1 : i < 4) : ∃ wy, atI (ways.map V.str) i = some (V.str wy) ∧ wy ∈ ways := by
  obtain ⟨n, rfl⟩ := Int.eq_ofNat_of_zero_le h0
  have hn : n < 4 := by omega
  match n, hn with
  | 0, _ => exact ⟨"at", rfl, by decide +kernel⟩
  | 1, _ => exact ⟨"before", rfl, by decide +kernel⟩
  | 2, _ => exact ⟨"since", rfl, by decide +kernel⟩
  | 3, _ => exact ⟨"after", rfl, by decide +kernel⟩
theorem strs_at {ns : List Str} {i : Int} (h0 : 0 ≤ i) (h1 : i < (ns.length : Int)) : ∃ z, atI (ns.map V.str) i = some (V.str z) ∧ z ∈ ns := by
  have hz : i.toNat < ns.length := by omega
  refine ⟨ns[i.toNat], at_of (j := i.toNat) (by omega) ?_, List.getElem_mem hz⟩
  rw [List.getElem?_map, List.getElem?_eq_getElem hz] <;> rfl
theorem ok__law_tree (D : Df K mg "_law_tree" "_law_tree" s__law_tree p__law_tree) (T : Tx K mg) (hk : ∀ k, ks k = true) (c__law_pick : Cal P w K mg base CX0 "_law_pick" 1 spPick) (c__law_number : Cal P w K mg base CX0 "_law_number" 2 spNum) (c__law_limit : Cal P w K mg base CX0 "_law_limit" 3 spLim0) (c__law_shift : Cal P w K mg base CX0 "_law_shift" 1 (spShift ks)) : ∀ n, Cal P w K mg base CX0 "_law_tree" (n + 5) (spTree ks n) := by
  intro n
  induction n with
  | zero =>
    refine D.cal fun f fd F => F.ok sc__law_tree (fun vs H Q E h => ?_) (fun cdv A' outer s H vs Q E hr h => ?_)
    · obtain ⟨b, c, p, ns, L, J, rfl, _⟩ := h; rfl
    · obtain ⟨b, c, p, ns, L, J, rfl, B, np, hp, n0, n1, gn, l0, j0, l1, j1, lt, q⟩ := h
      exact absurd lt (by omega)
  | succ n c__law_tree =>
    refine D.cal fun f fd F => F.ok sc__law_tree (fun vs H Q E h => ?_) (fun cdv A' outer s H vs Q E hr h => ?_)
    · obtain ⟨b, c, p, ns, L, J, rfl, _⟩ := h; rfl
    · obtain ⟨b, c, p, ns, L, J, rfl, B, np, hp, n0, n1, gn, l0, j0, l1, j1, lt, q⟩ := h
      have v1 : 1 ≤ n + 5 := by omega
      have v2 : 2 ≤ n + 5 := by omega
      have v3 : 3 ≤ n + 5 := by omega
      have v5 : n + 5 ≤ n + 5 := Nat.le_refl _
      refine ⟨_, (pss_cons (ps_set (i := 4) sc__law_tree.nd rfl (Or.inl rfl) (pc c__law_pick hr (by omega) (pa_cons (pv 0) (pa_cons pe_int pa_nil))))
      (C8.pss_cut (ps_if (PW.pt (pw_and (pt_cmpR op_gt (pv 3) pe_int (nomark _)) (pw_and1 (pt_cmpR op_lt (pv 4) pe_int (nomark _)))))
        (pss_cons (ps_set (i := 5) sc__law_tree.nd rfl (Or.inl rfl) (pc c__law_pick hr (by omega) (pa_cons (pv 0) (pa_cons (pe_op op_add (pv 2) pe_int) pa_nil))))
        (pss_cons (ps_set (i := 6) sc__law_tree.nd rfl (Or.inl rfl) (pc c__law_pick hr (by omega) (pa_cons (pv 0) (pa_cons (pv 3) pa_nil))))
        (pss_cons (ps_set (i := 7) sc__law_tree.nd rfl (Or.inl rfl) (pc c__law_tree hr (by omega) (pa_cons (pv 0) (pa_cons (pv 1) (pa_cons (pv 5) (pa_cons (pv 6) pa_nil))))))
        (pss_cons (ps_set (i := 8) sc__law_tree.nd rfl (Or.inl rfl) (pc c__law_tree hr (by omega) (pa_cons (pv 0) (pa_cons (pv 1) (pa_cons (pe_op op_sub (pv 2) (pv 5)) (pa_cons (pe_op op_sub (pe_op op_sub (pv 3) pe_int) (pv 6)) pa_nil))))))
        (pss_one (ps_ret (pe_tup (pa_cons (pe_ix ix_list (pe_lst (pa_cons pe_str (pa_cons pe_str (pa_cons pe_str pa_nil)))) (pv 4) (fun _ _ => rfl)) (pa_cons (pv 7) (pa_cons (pv 8) pa_nil))))))))))
        pss_nil)
      (C8.pss_cut (ps_if (PW.pt (pw_and (pt_cmpR op_gt (pv 3) pe_int (nomark _)) (pw_and1 (pt_cmpR op_eq (pv 4) pe_int (nomark _)))))
        (pss_cons (ps_set (i := 9) sc__law_tree.nd rfl (Or.inl rfl) (pc c__law_tree hr (by omega) (pa_cons (pv 0) (pa_cons (pv 1) (pa_cons (pv 2) (pa_cons (pe_op op_sub (pv 3) pe_int) pa_nil))))))
        (pss_one (ps_ret (pc c__law_shift hr (by omega) (pa_cons (pv 9) (pa_cons (pc c__law_number hr (by omega) (pa_cons (pv 0) pa_nil)) pa_nil))))))
        pss_nil)
      (pss_cons (ps_if (pt_cmpR op_gt (pv 2) pe_int (nomark _))
        (pss_cons (ps_set (i := 10) sc__law_tree.nd rfl (Or.inl rfl) (pe_ix ix_list (pv 1) (pc c__law_pick hr (by omega) (pa_cons (pv 0) (pa_cons (pc_len T (pa_cons (pv 1) pa_nil)) pa_nil))) (fun _ _ => rfl)))
        (pss_cons (ps_set (i := 11) sc__law_tree.nd rfl (Or.inl rfl) (pe_ix ix_list (pe_lst (pa_cons pe_str (pa_cons pe_str (pa_cons pe_str (pa_cons pe_str pa_nil))))) (pc c__law_pick hr (by omega) (pa_cons (pv 0) (pa_cons pe_int pa_nil))) (fun _ _ => rfl)))
        (pss_cons (ps_set (i := 12) sc__law_tree.nd rfl (Or.inl rfl) (pc c__law_limit hr (by omega) (pa_cons (pv 0) pa_nil)))
        (pss_one (ps_ret (pe_tup (pa_cons pe_str (pa_cons (pv 10) (pa_cons (pv 11) (pa_cons (pv 12) (pa_cons (pc c__law_tree hr (by omega) (pa_cons (pv 0) (pa_cons (pv 1) (pa_cons (pe_op op_sub (pv 2) pe_int) (pa_cons (pv 3) pa_nil))))) pa_nil)))))))))))
        pss_nil)
      (pss_cons (ps_if (pt_cmpR op_eq (pe_op op_mod (pv 4) pe_int) pe_int (nomark _))
        (pss_one (ps_ret (pe_tup (pa_cons pe_str pa_nil))))
        pss_nil)
      (pss_one (ps_ret (pc c__law_shift hr (by omega) (pa_cons (pe_tup (pa_cons pe_str pa_nil)) (pa_cons (pc c__law_number hr (by omega) (pa_cons (pv 0) pa_nil)) pa_nil)))))))))), ?_⟩
      refine ⟨_, rfl, b, c, 8, rfl, B, by decide, by decide, fun kd H1 kd0 kd8 B1 k1 => ?_⟩
      have hp1 := k1 p _ np.1 np.2 hp
      refine ⟨fun σ H' => H' = H1 ∧ σ = [some (.ref b), some (.ref p), some (.int L), some (.int J), some (.int kd), none, none, none, none, none, none, none, none], ?_, ?_⟩
      · refine ⟨_, rfl, _, _, rfl, rfl, _, rfl, ite2 (fun z1 => ?_) (fun z1 => ?_)⟩
        · have j1' : 0 < J := by simpa using z1
          refine ⟨_, rfl, _, _, rfl, rfl, _, rfl, ite2 (fun z2 => ?_) (fun z2 => ⟨rfl, rfl⟩)⟩
          -- a join
          have kd3 : kd < 3 := by simpa using z2
          refine ⟨_, rfl, _, rfl, _, _, rfl, rfl, b, c, L + 1, rfl, B1, by omega, by omega, fun lf H2 lf0 lf1 B2 k2 => ?_⟩
          refine ⟨_, rfl, _, rfl, b, c, J, rfl, B2, by omega, by omega, fun nr H3 nr0 nr1 B3 k3 => ?_⟩
          have k13 := (k1.trans k2).trans k3
          have hp3 := k13 p _ np.1 np.2 hp
          refine ⟨_, rfl, _, rfl, _, rfl, _, rfl, b, c, p, ns, lf, nr, rfl, B3, np, hp3, n0, n1, gn, lf0, nr0, by omega, by omega, by omega, fun xa x H4 B4 k4 hx gx dx px lx => ?_⟩
          have hp4 := k4 p _ np.1 np.2 hp3
          refine ⟨_, rfl, _, rfl, _, rfl, _, rfl, _, _, rfl, rfl, _, rfl, _, _, rfl, rfl, _, rfl, _, _, rfl, rfl, b, c, p, ns, L - lf, J - 1 - nr, rfl, B4, np, hp4, n0, n1, gn, by omega, by omega, by omega, by omega, by omega, fun ya y H5 B5 k5 hy gy dy py ly => ?_⟩
          have hx5 := hx.kt (Kt.kp B4 k5)
          have k15 := (k13.trans k4).trans k5
          refine ⟨by show 3 ≤ sizeLine; decide, fun tl htl => ?_⟩
          have s6 := (Same.refl H5).new (o := .lst [.str "either", .str "later", .str "earlier"]) htl
          have kcases : kd = 0 ∨ kd = 1 ∨ kd = 2 := by omega
          have d2 : ∀ lo co, (szOf lo co [x.sz, y.sz]).d ≤ L + J + 2 := fun lo co => by rw [szOf2_d]; omega
          have p2 : ∀ lo co, (szOf lo co [x.sz, y.sz]).p ≤ L + 3 * J + 2 := fun lo co => by rw [szOf2_p]; omega
          have l2 : ∀ co, (szOf 0 co [x.sz, y.sz]).l ≤ L := fun co => by rw [szOf2_l]; omega
          rcases kcases with rfl | rfl | rfl
          · refine ⟨_, rfl, tl, _, 0, .str "either", rfl, rfl, SqL.of upd_same, rfl, _, rfl, _, rfl, by show 3 ≤ sizeLine; decide, fun pt hpt => ?_⟩
            have s7 := s6.new (o := .tup [.str "either", .ref xa, .ref ya]) hpt
            exact q pt (.either x y) _ (B5.same s7) (k15.trans (Kp.of s7)) ⟨xa, ya, upd_same, hx5.same s7, hy.same s7⟩ ⟨hk _, gx, gy⟩ (d2 0 0) (p2 0 0) (l2 0)
          · refine ⟨_, rfl, tl, _, 1, .str "later", rfl, rfl, SqL.of upd_same, rfl, _, rfl, _, rfl, by show 3 ≤ sizeLine; decide, fun pt hpt => ?_⟩
            have s7 := s6.new (o := .tup [.str "later", .ref xa, .ref ya]) hpt
            exact q pt (.later x y) _ (B5.same s7) (k15.trans (Kp.of s7)) ⟨xa, ya, upd_same, hx5.same s7, hy.same s7⟩ ⟨hk _, gx, gy⟩ (d2 0 1) (p2 0 1) (l2 1)
          · refine ⟨_, rfl, tl, _, 2, .str "earlier", rfl, rfl, SqL.of upd_same, rfl, _, rfl, _, rfl, by show 3 ≤ sizeLine; decide, fun pt hpt => ?_⟩
            have s7 := s6.new (o := .tup [.str "earlier", .ref xa, .ref ya]) hpt
            exact q pt (.earlier x y) _ (B5.same s7) (k15.trans (Kp.of s7)) ⟨xa, ya, upd_same, hx5.same s7, hy.same s7⟩ ⟨hk _, gx, gy⟩ (d2 0 1) (p2 0 1) (l2 1)
        · exact ⟨rfl, rfl⟩
      · rintro σ H1' ⟨rfl, rfl⟩
        refine ⟨fun σ H' => H' = H1' ∧ σ = [some (.ref b), some (.ref p), some (.int L), some (.int J), some (.int kd), none, none, none, none, none, none, none, none], ?_, ?_⟩
        · refine ⟨_, rfl, _, _, rfl, rfl, _, rfl, ite2 (fun z1 => ?_) (fun z1 => ⟨rfl, rfl⟩)⟩
          have j1' : 0 < J := by simpa using z1
          refine ⟨_, rfl, rfl, _, rfl, ite2 (fun z2 => ?_) (fun z2 => ⟨rfl, rfl⟩)⟩
          refine ⟨_, rfl, _, rfl, _, rfl, _, rfl, _, _, rfl, rfl, b, c, p, ns, L, J - 1, rfl, B1, np, hp1, n0, n1, gn, l0, by omega, l1, by omega, by omega, fun xa x H4 B4 k4 hx gx dx px lx => ?_⟩
          refine ⟨_, rfl, _, rfl, b, c, rfl, B4, fun am H5 B5 k5 => ?_⟩
          have hx5 := hx.kt (Kt.kp B4 k5)
          refine ⟨xa, am, x, rfl, hx5, gx, fun pt H6 s6 ht => ?_⟩
          have sh := shd_d (t := x) (c := am)
          exact q pt _ _ (B5.same s6) (((k1.trans k4).trans k5).trans (Kp.of s6)) ht (Good.shd (hk _) gx) (by omega) (by omega) (by omega)
        · rintro σ H1'' ⟨rfl, rfl⟩
          refine ⟨_, rfl, _, _, rfl, rfl, _, rfl, ite2 (fun z1 => ?_) (fun z1 => ?_)⟩
          · -- a look
            have L1 : 0 < L := by simpa using z1
            refine ⟨_, rfl, _, rfl, _, rfl, _, _, rfl, .inl ⟨_, SqL.of hp1, rfl⟩, b, c, _, rfl, B1, by rw [List.length_map]; omega, by rw [List.length_map]; omega, fun ni H2 ni0 ni1 B2 k2 => ?_⟩
            rw [List.length_map] at ni1
            obtain ⟨z, hz, hzn⟩ := strs_at ni0 ni1
            refine ⟨_, _, _, _, rfl, rfl, SqL.of (k2 p _ np.1 np.2 hp1), hz, ?_⟩
            refine ⟨by show 4 ≤ sizeLine; decide, fun wl hwl => ?_⟩
            have nwl := B2.nb hwl
            have kw : Kp b c H2 (upd H2 wl (.lst (ways.map V.str))) := (Kp.refl).new hwl
            refine ⟨_, rfl, b, c, 4, rfl, B2.new hwl, by decide, by decide, fun r H4 r0 r1 B4 k4 => ?_⟩
            obtain ⟨wy, hwy, hww⟩ := ways_at r0 r1
            refine ⟨_, _, _, _, rfl, rfl, SqL.of (k4 wl _ nwl.1 nwl.2 upd_same), hwy, ?_⟩
            have k24 := kw.trans k4
            refine ⟨_, rfl, b, c, rfl, B4, fun lim H5 hlim B5 k5 => ?_⟩
            have k15 := ((k1.trans k2).trans k24).trans k5
            have hp5 := k15 p _ np.1 np.2 hp
            refine ⟨_, rfl, _, rfl, _, rfl, _, rfl, _, rfl, _, rfl, _, _, rfl, rfl, _, rfl, b, c, p, ns, L - 1, J, rfl, B5, np, hp5, n0, n1, gn, by omega, j0, by omega, j1, by omega, fun xa x H6 B6 k6 hx gx dx px lx => ?_⟩
            refine ⟨by show 5 ≤ sizeLine; decide, fun pt hpt => ?_⟩
            have s7 := (Same.refl H6).new (o := .tup [.str "look", .str z, .str wy, limV lim, .ref xa]) hpt
            refine q pt (.look z x wy lim) _ (B6.same s7) ((k15.trans k6).trans (Kp.of s7)) ⟨xa, upd_same, hx.same s7⟩ ⟨hk _, gx, gn z hzn, hww, hlim⟩ ?_ ?_ ?_
            · show (szOf 1 1 [x.sz]).d ≤ _; rw [szOf1_d]; omega
            · show (szOf 1 1 [x.sz]).p ≤ _; rw [szOf1_p]; omega
            · show (szOf 1 1 [x.sz]).l ≤ _; rw [szOf1_l]; omega
          · -- the asked moment
            refine ⟨_, rfl, _, _, rfl, rfl, by show (0 : Int) < 2; decide, rfl, _, rfl, ite2 (fun z2 => ?_) (fun z2 => ?_)⟩
            · refine ⟨by show 1 ≤ sizeLine; decide, fun pt hpt => ?_⟩
              have s7 := (Same.refl H1'').new (o := .tup [.str "now"]) hpt
              exact q pt .now _ (B1.same s7) (k1.trans (Kp.of s7)) upd_same (hk _) (by show (1 : Int) ≤ _; omega) (by show (1 : Int) ≤ _; omega) (by show (0 : Int) ≤ _; omega)
            · refine ⟨by show 1 ≤ sizeLine; decide, fun pt hpt => ?_⟩
              have s7 := (Same.refl H1'').new (o := .tup [.str "now"]) hpt
              refine ⟨_, rfl, b, c, rfl, B1.same s7, fun am H5 B5 k5 => ?_⟩
              have h5 : TreeAt H5 .now pt := (Kt.kp (B1.same s7) k5).2 _ _ upd_same
              refine ⟨pt, am, .now, rfl, h5, hk _, fun pt2 H6 s6 ht => ?_⟩
              have d1 : (Tm.now.shd am).sz.d ≤ 2 ∧ (Tm.now.shd am).sz.p ≤ 2 ∧ (Tm.now.shd am).sz.l ≤ 0 := shd_d (t := .now) (c := am)
              exact q pt2 _ _ (B5.same s6) ((k1.trans (Kp.of s7)).trans (k5.trans (Kp.of s6))) ht (Good.shd (hk _) (hk _)) (by omega) (by omega) (by omega)
end
end Pl

namespace Pl
open PySem L2 PySem.Spec PyProof.Rows
theorem fit1 {lo co : Int} {z : Sz} (h : Fit (szOf lo co [z])) (h0 : 0 ≤ lo) : Fit z := by
  obtain ⟨a, b, c⟩ := h
  rw [szOf1_d] at a; rw [szOf1_p] at b; rw [szOf1_l] at c
  exact ⟨by omega, by omega, by omega⟩
theorem Tm.l_nn : ∀ t : Tm, 0 ≤ t.sz.l
  | .now => by decide
  | .shift m _ => by have := m.l_nn; show 0 ≤ (szOf 0 0 [m.sz]).l; rw [szOf1_l]; omega
  | .look _ m _ _ => by have := m.l_nn; show 0 ≤ (szOf 1 1 [m.sz]).l; rw [szOf1_l]; omega
  | .either a b => by have := a.l_nn; have := b.l_nn; show 0 ≤ (szOf 0 0 [a.sz, b.sz]).l; rw [szOf2_l]; omega
  | .later a b => by have := a.l_nn; have := b.l_nn; show 0 ≤ (szOf 0 1 [a.sz, b.sz]).l; rw [szOf2_l]; omega
  | .earlier a b => by have := a.l_nn; have := b.l_nn; show 0 ≤ (szOf 0 1 [a.sz, b.sz]).l; rw [szOf2_l]; omega
theorem fit2 {co : Int} {x y : Tm} (h : Fit (szOf 0 co [x.sz, y.sz])) : Fit x.sz ∧ Fit y.sz := by
  obtain ⟨a, b, c⟩ := h
  rw [szOf2_d] at a; rw [szOf2_p] at b; rw [szOf2_l] at c
  have := x.p_pos; have := y.p_pos; have := x.l_nn; have := y.l_nn
  exact ⟨⟨by omega, by omega, by omega⟩, ⟨by omega, by omega, by omega⟩⟩
section
variable {P : Program} {w : World} {K : Fg} {mg : Str → Option Value} {base : Heap} {A : CA} {ks : Kd → Bool} {CW : Addr}
def BinS (A : CA) (ks : Kd → Bool) (sp0 : Sp) (C C' : Addr) (sp : Sp) : Prop := (∃ k, ks k = true ∧ C = A.cls k) ∧ (∃ k, ks k = true ∧ C' = A.cls k) ∧ sp = sp0
def spTerm (A : CA) (ks : Kd → Bool) (n : Nat) : Sp := fun vs H Q _ => ∃ a t, vs = [.ref a] ∧ TreeAt H t a ∧ Good ks t ∧ t.sz.d < (n : Int) ∧ Fit t.sz ∧ ∀ x H', Same H H' → TermAt A H' t x → Q (.ref x) H'
theorem ok__law_term (D : Df K mg "_law_term" "_law_term" s__law_term p__law_term) (TT : TTx K mg A ks) (hl : ks .look = true) (c_Now : CalM P w K mg base CX0 "Now" (A.cls .now) 2 (spNInit A)) (c_Look : CalKM P w K mg base CX0 "Look" (A.cls .look) 3 ["within"] 5 (spLInit A ks))
    (c_add : ∀ C sp, (∃ k, ks k = true ∧ C = A.cls k) ∧ sp = spSh A ks → CalI P w K mg base CX0 C "__add__" 6 sp ∧ OpTx K C .Add)
    (c_or : ∀ C C' sp, BinS A ks (spM_either A ks) C C' sp → CalI P w K mg base CX0 C "__or__" 4 sp ∧ OpO K C .BitOr ∧ OpO K C' .BitOr ∧ (C ≠ C' → PySem.W.subIn K (.ref C') (.ref C) = some false))
    (c_later : ∀ C sp, (∃ k, ks k = true ∧ C = A.cls k) ∧ sp = spM_later A ks → CalI P w K mg base CX0 C "later" 4 sp)
    (c_earlier : ∀ C sp, (∃ k, ks k = true ∧ C = A.cls k) ∧ sp = spM_earlier A ks → CalI P w K mg base CX0 C "earlier" 4 sp) : ∀ n, Cal P w K mg base CX0 "_law_term" (n + 8) (spTerm A ks n) := by
  intro n
  induction n with
  | zero =>
    refine D.cal fun f fd F => F.ok sc__law_term (fun vs H Q E h => ?_) (fun cdv A' outer s H vs Q E hr h => ?_)
    · obtain ⟨a, t, rfl, _⟩ := h; rfl
    · obtain ⟨a, t, rfl, ht, g, hd, ft, q⟩ := h
      have := t.d_pos
      exact absurd hd (by omega)
  | succ n c__law_term =>
    refine D.cal fun f fd F => F.ok sc__law_term (fun vs H Q E h => ?_) (fun cdv A' outer s H vs Q E hr h => ?_)
    · obtain ⟨a, t, rfl, _⟩ := h; rfl
    · obtain ⟨a, t, rfl, ht, g, hd, ft, q⟩ := h
      have v3 : 2 + 1 ≤ n + 8 := by omega
      have v5 : 5 + 1 ≤ n + 8 := by omega
      have v4 : 4 ≤ n + 8 := by omega
      have v6 : 6 ≤ n + 8 := by omega
      have v8 : n + 8 ≤ n + 8 := Nat.le_refl _
      refine ⟨_, (pss_cons (ps_if (pt_cmpR op_eq (pe_ix ix_tup (pv 0) pe_int (fun _ _ => rfl)) pe_str (nomark _))
        (pss_one (ps_ret (pmk0 c_Now hr v3)))
        pss_nil)
      (pss_cons (ps_if (pt_cmpR op_eq (pe_ix ix_tup (pv 0) pe_int (fun _ _ => rfl)) pe_str (nomark _))
        (pss_one (ps_ret (pe_op (op_ownI c_add hr v6 pass0) (pc c__law_term hr (by omega) (pa_cons (pe_ix ix_tup (pv 0) pe_int (fun _ _ => rfl)) pa_nil)) (pe_ix ix_tup (pv 0) pe_int (fun _ _ => rfl)))))
        pss_nil)
      (pss_cons (ps_if (pt_cmpR op_eq (pe_ix ix_tup (pv 0) pe_int (fun _ _ => rfl)) pe_str (nomark _))
        (pss_one (ps_ret (pmkK c_Look hr v5 pass0 (pa_cons (pe_ix ix_tup (pv 0) pe_int (fun _ _ => rfl)) (pa_cons (pc c__law_term hr v8 (pa_cons (pe_ix ix_tup (pv 0) pe_int (fun _ _ => rfl)) pa_nil)) (pa_cons (pe_ix ix_tup (pv 0) pe_int (fun _ _ => rfl)) pa_nil))) (pk_cons (pe_ix ix_tup (pv 0) pe_int (fun _ _ => rfl)) pk_nil))))
        pss_nil)
      (pss_cons (ps_set (i := 1) sc__law_term.nd rfl (Or.inl rfl) (pc c__law_term hr (by omega) (pa_cons (pe_ix ix_tup (pv 0) pe_int (fun _ _ => rfl)) pa_nil)))
      (pss_cons (ps_set (i := 2) sc__law_term.nd rfl (Or.inl rfl) (pc c__law_term hr (by omega) (pa_cons (pe_ix ix_tup (pv 0) pe_int (fun _ _ => rfl)) pa_nil)))
      (pss_cons (ps_if (pt_cmpR op_eq (pe_ix ix_tup (pv 0) pe_int (fun _ _ => rfl)) pe_str (nomark _))
        (pss_one (ps_ret (pe_op (op_ownO c_or hr v4 pass0) (pv 1) (pv 2))))
        pss_nil)
      (pss_cons (ps_if (pt_cmpR op_eq (pe_ix ix_tup (pv 0) pe_int (fun _ _ => rfl)) pe_str (nomark _))
        (pss_one (ps_ret (pmsx c_later hr v4 pass0 (pv 1) (pa_cons (pv 2) pa_nil))))
        pss_nil)
      (pss_one (ps_ret (pmsx c_earlier hr v4 pass0 (pv 1) (pa_cons (pv 2) pa_nil))))))))))), ?_⟩
      have no : ∀ {x y : Kd}, x ≠ y → decide (V.str x.tag = V.str y.tag) = false := fun h => decide_eq_false fun z => by injection z with z; exact tag_ne h z
      have yes : ∀ {x : Kd}, decide (V.str x.tag = V.str x.tag) = true := decide_eq_true rfl
      cases t with
      | now =>
        refine ⟨_, rfl, a, _, 0, .str Kd.now.tag, rfl, rfl, SqT.of ht, rfl, rfl, _, rfl, ite_t (yes (x := .now)) ?_⟩
        exact fun x dx nx ndx nex => ⟨x, dx, rfl, upd_same, fun H' kk hN => ⟨rfl, q x H' (same_made nx ndx kk) hN⟩⟩
      | shift m c =>
        obtain ⟨ma, h1, h2⟩ := ht
        have hd1 : 1 + m.sz.d < ((n + 1 : Nat) : Int) := by have : (szOf 0 0 [m.sz]).d < ((n + 1 : Nat) : Int) := hd; rw [szOf1_d] at this; exact this
        have e : m.shd c = .shift m c := by rw [shd_ns g.2.2.2, if_neg g.2.2.1]
        refine ⟨_, rfl, a, _, 0, .str Kd.shift.tag, rfl, rfl, SqT.of h1, rfl, rfl, _, rfl, ite_f (no (x := .shift) (y := .now) (by decide)) ?_⟩
        refine ⟨_, rfl, a, _, 0, .str Kd.shift.tag, rfl, rfl, SqT.of h1, rfl, rfl, _, rfl, ite_t (yes (x := .shift)) ?_⟩
        refine ⟨_, rfl, a, _, 2, _, rfl, rfl, SqT.of h1, rfl, ma, m, rfl, h2, g.2.1, by omega, fit1 (lo := 0) (co := 0) ft (by decide), fun x H1 s1 hm => ?_⟩
        obtain ⟨dx, ch, os, g1, _⟩ := hm.hd
        exact ⟨_, rfl, a, _, 1, _, rfl, rfl, SqT.of (s1 _ _ h1), rfl, x, _, dx, _, c, _, rfl, rfl, g1, ⟨⟨m.kd, g.2.1.k, rfl⟩, rfl⟩, x, c, m, rfl, hm, g.2.1, by rw [e]; exact ft, fun p H2 s2 hp => q p H2 (s1.trans s2) (by rw [e] at hp; exact hp)⟩
      | look z m wy lim =>
        obtain ⟨ma, h1, h2⟩ := ht
        have hd1 : 1 + m.sz.d < ((n + 1 : Nat) : Int) := by have : (szOf 1 1 [m.sz]).d < ((n + 1 : Nat) : Int) := hd; rw [szOf1_d] at this; exact this
        refine ⟨_, rfl, a, _, 0, .str Kd.look.tag, rfl, rfl, SqT.of h1, rfl, rfl, _, rfl, ite_f (no (x := .look) (y := .now) (by decide)) ?_⟩
        refine ⟨_, rfl, a, _, 0, .str Kd.look.tag, rfl, rfl, SqT.of h1, rfl, rfl, _, rfl, ite_f (no (x := .look) (y := .shift) (by decide)) ?_⟩
        refine ⟨_, rfl, a, _, 0, .str Kd.look.tag, rfl, rfl, SqT.of h1, rfl, rfl, _, rfl, ite_t (yes (x := .look)) ?_⟩
        refine ⟨_, rfl, a, _, 1, _, rfl, rfl, SqT.of h1, rfl, ?_⟩
        refine ⟨_, rfl, a, _, 4, _, rfl, rfl, SqT.of h1, rfl, ma, m, rfl, h2, g.2.1, by omega, fit1 (lo := 1) (co := 1) ft (by decide), fun x H1 s1 hm => ?_⟩
        refine ⟨_, rfl, a, _, 2, _, rfl, rfl, SqT.of (s1 _ _ h1), rfl, ?_⟩
        refine ⟨_, rfl, a, _, 3, _, rfl, rfl, SqT.of (s1 _ _ h1), rfl, rfl, rfl, fun y dz ny ndy ney => ⟨y, dz, x, z, wy, lim, m, rfl, upd_same, hm.same (same_upd2 ny ndy), g.2.1.k, g.2.2.1, g.2.2.2.1, g.2.2.2.2, ft, fun H2 kk hL => ⟨rfl, q y H2 (s1.trans (same_made ny ndy kk)) hL⟩⟩⟩
      | either x y =>
        obtain ⟨xa, ya, h1, h2, h3⟩ := ht
        have hd1 : 1 + max x.sz.d y.sz.d < ((n + 1 : Nat) : Int) := hd
        obtain ⟨fx, fy⟩ := fit2 (co := 0) ft
        refine ⟨_, rfl, a, _, 0, .str Kd.either.tag, rfl, rfl, SqT.of h1, rfl, rfl, _, rfl, ite_f (no (x := .either) (y := .now) (by decide)) ?_⟩
        refine ⟨_, rfl, a, _, 0, .str Kd.either.tag, rfl, rfl, SqT.of h1, rfl, rfl, _, rfl, ite_f (no (x := .either) (y := .shift) (by decide)) ?_⟩
        refine ⟨_, rfl, a, _, 0, .str Kd.either.tag, rfl, rfl, SqT.of h1, rfl, rfl, _, rfl, ite_f (no (x := .either) (y := .look) (by decide)) ?_⟩
        refine ⟨_, rfl, a, _, 1, _, rfl, rfl, SqT.of h1, rfl, xa, x, rfl, h2, g.2.1, by omega, fx, fun x1 H1 s1 hx => ?_⟩
        refine ⟨_, rfl, a, _, 2, _, rfl, rfl, SqT.of (s1 _ _ h1), rfl, ya, y, rfl, h3.same s1, g.2.2, by omega, fy, fun y1 H2 s2 hy => ?_⟩
        have hx2 := hx.same s2
        refine ⟨_, rfl, a, _, 0, .str Kd.either.tag, rfl, rfl, SqT.of ((s1.trans s2) _ _ h1), rfl, rfl, _, rfl, ite_t (yes (x := .either)) ?_⟩
        obtain ⟨dx, c1, o1, e1, _⟩ := hx2.hd
        obtain ⟨dy, c2, o2, e2, _⟩ := hy.hd
        exact ⟨_, rfl, _, rfl, x1, _, dx, _, y1, _, dy, _, _, rfl, e1, rfl, e2, ⟨⟨x.kd, g.2.1.k, rfl⟩, ⟨y.kd, g.2.2.k, rfl⟩, rfl⟩, x1, y1, x, y, rfl, hx2, hy, g.2.1.k, g.2.2.k, ft, fun p H3 s3 hp => q p H3 ((s1.trans s2).trans s3) hp⟩
      | later x y =>
        obtain ⟨xa, ya, h1, h2, h3⟩ := ht
        have hd1 : 1 + max x.sz.d y.sz.d < ((n + 1 : Nat) : Int) := hd
        obtain ⟨fx, fy⟩ := fit2 (co := 1) ft
        refine ⟨_, rfl, a, _, 0, .str Kd.later.tag, rfl, rfl, SqT.of h1, rfl, rfl, _, rfl, ite_f (no (x := .later) (y := .now) (by decide)) ?_⟩
        refine ⟨_, rfl, a, _, 0, .str Kd.later.tag, rfl, rfl, SqT.of h1, rfl, rfl, _, rfl, ite_f (no (x := .later) (y := .shift) (by decide)) ?_⟩
        refine ⟨_, rfl, a, _, 0, .str Kd.later.tag, rfl, rfl, SqT.of h1, rfl, rfl, _, rfl, ite_f (no (x := .later) (y := .look) (by decide)) ?_⟩
        refine ⟨_, rfl, a, _, 1, _, rfl, rfl, SqT.of h1, rfl, xa, x, rfl, h2, g.2.1, by omega, fx, fun x1 H1 s1 hx => ?_⟩
        refine ⟨_, rfl, a, _, 2, _, rfl, rfl, SqT.of (s1 _ _ h1), rfl, ya, y, rfl, h3.same s1, g.2.2, by omega, fy, fun y1 H2 s2 hy => ?_⟩
        have hx2 := hx.same s2
        have h12 := (s1.trans s2) _ _ h1
        refine ⟨_, rfl, a, _, 0, .str Kd.later.tag, rfl, rfl, SqT.of h12, rfl, rfl, _, rfl, ite_f (no (x := .later) (y := .either) (by decide)) ?_⟩
        refine ⟨_, rfl, a, _, 0, .str Kd.later.tag, rfl, rfl, SqT.of h12, rfl, rfl, _, rfl, ite_t (yes (x := .later)) ?_⟩
        obtain ⟨dx, fs, e1, e2⟩ := head_no (m := "later") hx2 (by decide +kernel) (by decide +kernel)
        exact ⟨_, rfl, x1, _, dx, _, _, rfl, e1, ⟨⟨x.kd, g.2.1.k, rfl⟩, rfl⟩, e2, _, rfl, x1, y1, x, y, rfl, hx2, hy, g.2.1.k, g.2.2.k, ft, fun p H3 s3 hp => q p H3 ((s1.trans s2).trans s3) hp⟩
      | earlier x y =>
        obtain ⟨xa, ya, h1, h2, h3⟩ := ht
        have hd1 : 1 + max x.sz.d y.sz.d < ((n + 1 : Nat) : Int) := hd
        obtain ⟨fx, fy⟩ := fit2 (co := 1) ft
        refine ⟨_, rfl, a, _, 0, .str Kd.earlier.tag, rfl, rfl, SqT.of h1, rfl, rfl, _, rfl, ite_f (no (x := .earlier) (y := .now) (by decide)) ?_⟩
        refine ⟨_, rfl, a, _, 0, .str Kd.earlier.tag, rfl, rfl, SqT.of h1, rfl, rfl, _, rfl, ite_f (no (x := .earlier) (y := .shift) (by decide)) ?_⟩
        refine ⟨_, rfl, a, _, 0, .str Kd.earlier.tag, rfl, rfl, SqT.of h1, rfl, rfl, _, rfl, ite_f (no (x := .earlier) (y := .look) (by decide)) ?_⟩
        refine ⟨_, rfl, a, _, 1, _, rfl, rfl, SqT.of h1, rfl, xa, x, rfl, h2, g.2.1, by omega, fx, fun x1 H1 s1 hx => ?_⟩
        refine ⟨_, rfl, a, _, 2, _, rfl, rfl, SqT.of (s1 _ _ h1), rfl, ya, y, rfl, h3.same s1, g.2.2, by omega, fy, fun y1 H2 s2 hy => ?_⟩
        have hx2 := hx.same s2
        have h12 := (s1.trans s2) _ _ h1
        refine ⟨_, rfl, a, _, 0, .str Kd.earlier.tag, rfl, rfl, SqT.of h12, rfl, rfl, _, rfl, ite_f (no (x := .earlier) (y := .either) (by decide)) ?_⟩
        refine ⟨_, rfl, a, _, 0, .str Kd.earlier.tag, rfl, rfl, SqT.of h12, rfl, rfl, _, rfl, ite_f (no (x := .earlier) (y := .later) (by decide)) ?_⟩
        obtain ⟨dx, fs, e1, e2⟩ := head_no (m := "earlier") hx2 (by decide +kernel) (by decide +kernel)
        exact ⟨_, rfl, x1, _, dx, _, _, rfl, e1, ⟨⟨x.kd, g.2.1.k, rfl⟩, rfl⟩, e2, _, rfl, x1, y1, x, y, rfl, hx2, hy, g.2.1.k, g.2.2.k, ft, fun p H3 s3 hp => q p H3 ((s1.trans s2).trans s3) hp⟩
end
end Pl

namespace Pl
open PySem L2 PySem.Spec PyProof.Rows
section
variable {P : Program} {w : World} {K : Fg} {mg : Str → Option Value} {base : Heap} {A : CA} {ks : Kd → Bool} {CW : Addr}
theorem ok__law_is_integer (D : Df K mg "_law_is_integer" "_law_is_integer" s__law_is_integer p__law_is_integer) (T : Tx K mg) : Cal P w K mg base CX0 "_law_is_integer" 1 (spIsInt K) := by
  refine D.cal fun f fd F => F.ok sc__law_is_integer (fun vs H Q E h => ?_) (fun cdv A outer s H vs Q E hr h => ?_)
  · obtain ⟨x, t, b1, b2, rfl, _⟩ := h; rfl
  · obtain ⟨x, t, b1, b2, rfl, ty, k1, k2, k⟩ := h
    refine ⟨_, (pss_one (ps_ret (pe_and (pc_isi T (pa_cons (pv 0) (pa_cons (pt_int T) pa_nil))) (pe_one (pe_not (pc_isi T (pa_cons (pv 0) (pa_cons (pt_bool T) pa_nil)))))))), ?_⟩
    refine ⟨_, rfl, _, _, _, _, b1, rfl, .ty "int", ty, k1, b1, rfl, ?_⟩
    cases b1 with
    | false => exact iteF k
    | true => exact iteT ⟨_, rfl, _, _, _, _, b2, rfl, .ty "bool", ty, k2 rfl, b2, rfl, k⟩
def spAnsw : Sp := fun vs H Q _ => ∃ o : Option Int, vs = [limV o, limV o] ∧ Q (.bl true) H
theorem ok__law_answer (D : Df K mg "_law_answer" "_law_answer" s__law_answer p__law_answer) (c__law_is_integer : Cal P w K mg base CX0 "_law_is_integer" 1 (spIsInt K)) : Cal P w K mg base CX0 "_law_answer" 2 spAnsw := by
  refine D.cal fun f fd F => F.ok sc__law_answer (fun vs H Q E h => ?_) (fun cdv A outer s H vs Q E hr h => ?_)
  · obtain ⟨o, rfl, _⟩ := h; rfl
  · obtain ⟨o, rfl, q⟩ := h
    refine ⟨_, (pss_cons (ps_if (pt_cmpR op_isN (pv 1) pe_non (nomark _))
        (pss_one (ps_ret (pe_cmpR op_isN (pv 0) pe_non (nomark _))))
        pss_nil)
      (pss_one (ps_ret (pe_and (pc c__law_is_integer hr (by decide) (pa_cons (pv 0) pa_nil)) (pe_one (pe_cmpR op_eq (pv 0) (pv 1) (nomark _))))))), ?_⟩
    cases o with
    | none => exact ⟨_, rfl, rfl, _, rfl, iteT ⟨_, rfl, rfl, q⟩⟩
    | some i =>
      refine ⟨_, rfl, rfl, _, rfl, iteF ?_⟩
      refine ⟨_, rfl, _, _, true, false, rfl, .base (.int i), kit_ty (by decide +kernel), fun _ => kit_ty (by decide +kernel), _, rfl, iteT ⟨_, rfl, _, rfl, rfl, ?_⟩⟩
      have e : decide (limV (some i) = limV (some i)) = true := decide_eq_true rfl
      exact e ▸ q
end
end Pl

namespace Pl
open PySem L2 PySem.Spec PyProof.Rows
/-! ### all rows of a world, as pairs -/
def flat (rs : Rs) : List (Str × Int) := rs.flatMap fun r => r.2.map fun m => (r.1, m)
def byN (rs : Rs) (ys : List Str) : List (Str × Int) := ys.flatMap fun n => (rowsOf rs n).map fun m => (n, m)
theorem flat_cons {r : Str × List Int} {rs : Rs} : flat (r :: rs) = (r.2.map fun m => (r.1, m)) ++ flat rs := by
  unfold flat; rw [List.flatMap_cons]
theorem flat_srs (rs : Rs) : (flat (srs rs)).Perm (flat rs) := by
  induction rs with
  | nil => exact .refl _
  | cons a r ih =>
    rw [srs_cons, flat_cons]
    cases h : a.2 with
    | nil =>
      rw [if_pos (show ([] : List Int).isEmpty = true from rfl)]
      exact ih
    | cons x t =>
      rw [if_neg (show ¬ (x :: t).isEmpty = true from by intro z; cases z), flat_cons]
      exact List.Perm.append ((srt_perm _).map _) ih
theorem rows_mem {rs : Rs} (nd : (rs.map (·.1)).Nodup) {r : Str × List Int} (h : r ∈ rs) : rowsOf rs r.1 = r.2 := by
  obtain ⟨i, hi⟩ := List.mem_iff_getElem?.mp h
  unfold rowsOf; rw [look_at nd hi]; rfl
theorem byN_perm {rs : Rs} {ys : List Str} (nd : (rs.map (·.1)).Nodup) (p : ys.Perm (rs.map (·.1))) : (byN rs ys).Perm (flat rs) := by
  have e : byN rs (rs.map (·.1)) = flat rs := by
    unfold byN flat
    rw [List.flatMap_map]
    have q : ∀ l : Rs, (∀ r ∈ l, r ∈ rs) → (l.flatMap fun a => (rowsOf rs a.1).map fun m => (a.1, m)) = l.flatMap fun r => r.2.map fun m => (r.1, m) := fun l => by
      induction l with
      | nil => intro _; rfl
      | cons a l ih =>
        intro h
        rw [List.flatMap_cons, List.flatMap_cons, ih fun r hr => h r (List.mem_cons_of_mem _ hr), rows_mem nd (h a List.mem_cons_self)]
    exact q rs fun r hr => hr
  rw [← e]
  exact p.flatMap_right _
theorem byN_up {rs : Rs} {ys : List Str} (W : WOk rs) (p : ys.Perm (rs.map (·.1))) (up : ys.Pairwise fun a b => a.cps.toList ≤ b.cps.toList) : (byN rs ys).Pairwise prLe := by
  have ndy : ys.Nodup := p.nodup_iff.mpr W.nd
  unfold byN
  refine List.pairwise_flatMap.mpr ⟨fun n hn => ?_, ?_⟩
  · rw [List.pairwise_map]
    exact (W.rows (z := n)).1.imp fun h => .inr ⟨rfl, h⟩
  · refine (up.and ndy).imp fun {a b} h x hx y hy => ?_
    obtain ⟨m, _, rfl⟩ := List.mem_map.mp hx
    obtain ⟨m', _, rfl⟩ := List.mem_map.mp hy
    rcases List.le_iff_lt_or_eq.mp h.1 with z | z
    · exact .inl z
    · exact absurd (str_ext z) h.2
theorem byN_eq {rs : Rs} {ys : List Str} (W : WOk rs) (p : ys.Perm (rs.map (·.1))) (up : ys.Pairwise fun a b => a.cps.toList ≤ b.cps.toList) : byN rs ys = prS (flat rs) := prS_eq (byN_perm W.nd p) (byN_up W p up)
theorem prS_congr {a b : List (Str × Int)} (p : a.Perm b) : prS a = prS b := prS_eq ((prS_perm a).trans p) (prS_up a)
section
variable {P : Program} {w : World} {K : Fg} {mg : Str → Option Value} {base : Heap} {CW : Addr}
def spNamesW (CW : Addr) : Sp := fun vs H Q _ => ∃ N p rs, vs = [.ref p] ∧ WAt N CW H p rs ∧ rs.length < 64 ∧ ∀ (ys : List Str) (l : Addr) (H' : Hp), ys.Perm (rs.map (·.1)) → (ys.Pairwise fun a b => a.cps.toList ≤ b.cps.toList) → Same H H' → H' l = some (.lst (ys.map V.str)) → H l = none → Q (.ref l) H'
theorem ok_World_names (D : ∃ f fd, Fun K "names" "World.names" s_World_names f fd ∧ Meth K CW "names" f ∧ Binds K fd p_World_names []) (T : Tx K mg) (WT : WTx K mg CW) : CalI P w K mg base CX0 CW "names" 1 (spNamesW CW) := by
  obtain ⟨f, fd, F, m1, hb⟩ := D
  refine ⟨f, fd, _, F.ok sc_World_names (fun vs H Q E h => ?_) (fun cdv A' outer s H vs Q E hr h => ?_), m1, WT.cl, hb⟩
  · obtain ⟨N, p, rs, rfl, _⟩ := h; rfl
  · obtain ⟨N, p, rs, rfl, hw, h64, q⟩ := h
    refine ⟨_, (pss_one (ps_ret (pc_sortedD rfl T (pa_cons (pe_fld (pv 0) rfl) pa_nil)))), ?_⟩
    obtain ⟨dx, d, kvs, w1, w2, w3⟩ := hw
    refine ⟨_, rfl, p, CW, dx, _, _, rfl, w1, WT.cl, WT.nH, rfl, d, kvs, rs.map (·.1), rfl, .inl w2, by rw [w3.keys, List.map_map]; rfl, by rw [List.length_map]; exact h64, fun ys l py so hl => ?_⟩
    exact q ys l _ py (sortedS_up so) ((Same.refl H).new hl) upd_same hl
def spWRows (CW : Addr) : Sp := fun vs H Q _ => ∃ N p rs, vs = [.ref p] ∧ WAt N CW H p rs ∧ WOk rs ∧ rs.length < 64 ∧ (flat rs).length ≤ 1000 ∧ ∀ l xs H', Same H H' → H' l = some (.lst xs) → H l = none → PrsR H' xs (prS (flat rs)) → Q (.ref l) H'
theorem flat_len_le {rs : Rs} {ys zs : List Str} (nd : (rs.map (·.1)).Nodup) (p : (ys ++ zs).Perm (rs.map (·.1))) : (byN rs ys).length ≤ (flat rs).length := by
  rw [← (byN_perm nd p).length_eq]
  unfold byN
  rw [List.flatMap_append, List.length_append]
  omega
theorem ok_World_rows (D : ∃ f fd, Fun K "rows" "World.rows" s_World_rows f fd ∧ Meth K CW "rows" f ∧ Binds K fd p_World_rows []) (T : Tx K mg) (WT : WTx K mg CW) (c_names : ∀ C sp, (C = CW ∧ sp = spNamesW CW) → CalI P w K mg base CX0 C "names" 1 sp) : CalI P w K mg base CX0 CW "rows" 2 (spWRows CW) := by
  obtain ⟨f, fd, F, m1, hb⟩ := D
  refine ⟨f, fd, _, F.ok sc_World_rows (fun vs H Q E h => ?_) (fun cdv A' outer s H vs Q E hr h => ?_), m1, WT.cl, hb⟩
  · obtain ⟨N, p, rs, rfl, _⟩ := h; rfl
  · obtain ⟨N, p, rs, rfl, hw, wo, h64, hz, q⟩ := h
    have hu := hu_of hr
    refine ⟨_, (pss_one (ps_ret (pe_lc2 (own := [("name", 1), ("moment", 2)]) (vs1 := [2]) rfl sc_World_rows.nd (pi_list (pmsx0 c_names hr (by decide) pass0 (pv 0))) (blkOk_by (N := n_World_rows) (sc := defScope s_World_rows) (by decide +kernel)) (by decide) (fun _ _ _ _ _ => (pg_name (i := 1) sc_World_rows.nd rfl (Or.inl rfl))) (fun _ _ _ _ _ => (by exact pts_nil)) (fun _ _ _ _ _ => (by exact (pi_listK (K := K) (pe_dget hu (pe_fldK (K := K) (pv 0)) (pv 1) (fun _ _ => rfl))))) (fun _ _ _ _ _ => (pg_name (i := 2) sc_World_rows.nd rfl (Or.inl rfl))) (fun _ _ _ _ _ => (by exact pts_nil)) (fun _ _ _ _ _ => (by exact (pe_tup (pa_cons (pv 1) (pa_cons (pv 2) pa_nil)))))))), ?_⟩
    obtain ⟨dx, d, kvs, w1, w2, w3⟩ := id hw
    refine ⟨_, rfl, p, CW, dx, _, _, rfl, w1, ⟨rfl, rfl⟩, rfl, N, p, rs, rfl, hw, h64, fun ys l H1 py up s1 hl nl => ?_⟩
    refine ⟨l, rfl, ⟨_, SqL.of hl⟩, fun D hD => lc_any (K := K) (a := l) (xs := ys.map V.str) (fun i H' => Same H1 H' ∧ ∃ xs, H' D = some (.lst xs) ∧ PrsR H' xs (byN rs (ys.take i))) ⟨(Same.refl H1).new hD, [], upd_same, .nil⟩ (fun i H' _ c => SqL.of (c.1 _ _ hl)) ?_ ?_⟩
    · rintro i x H' hx ⟨s2, xs, x1, x2⟩
      rw [List.getElem?_map] at hx
      cases e : ys[i]? with
      | none => rw [e] at hx; cases hx
      | some n =>
        rw [e] at hx
        obtain rfl := Option.some.inj hx
        have s12 := s1.trans s2
        have hn : n ∈ rs.map (·.1) := py.mem_iff.mp (List.mem_of_getElem? e)
        obtain ⟨r, hr1, er⟩ := List.mem_map.mp hn
        obtain ⟨j, hj⟩ := List.mem_iff_getElem?.mp hr1
        have hj' : rs[j]? = some (n, r.2) := by rw [hj, ← er]
        have e2 : rowsOf rs n = r.2 := by unfold rowsOf; rw [look_at wo.nd hj']; rfl
        obtain ⟨a, ha1, na, ha2, _⟩ := w3.val wo.nd hj'
        have ta : ys.take (i + 1) = ys.take i ++ [n] := by rw [List.take_add_one, e]; rfl
        have il : i < ys.length := (List.getElem?_eq_some_iff.mp e).1
        have bl : ∀ k, (byN rs (ys.take i)).length + ((r.2.take k).length) ≤ 1000 := fun k => by
          have h1 := flat_len_le (rs := rs) (ys := ys.take (i + 1)) (zs := ys.drop (i + 1)) wo.nd (by rw [List.take_append_drop]; exact py)
          rw [ta] at h1
          unfold byN at h1 ⊢
          rw [List.flatMap_append, List.length_append] at h1
          have h2 : ([n].flatMap fun n => (rowsOf rs n).map fun m => (n, m)).length = r.2.length := by simp [e2]
          rw [h2] at h1
          have h3 : (r.2.take k).length ≤ r.2.length := by rw [List.length_take]; omega
          omega
        refine ⟨rfl, ?_⟩
        refine ⟨_, rfl, p, CW, dx, _, _, rfl, s12 _ _ w1, WT.cl, WT.nH, rfl, _, rfl, d, _, rfl, (by have := DGet.k (k := Sum.inr n) (s12 _ _ w2); rw [ha1] at this; exact this), a, rfl, ⟨_, SqL.of (s12 _ _ ha2)⟩, lc_any (K := K) (a := a) (xs := r.2.map V.int) (fun k H'' => Same H1 H'' ∧ ∃ xs, H'' D = some (.lst xs) ∧ PrsR H'' xs (byN rs (ys.take i) ++ (r.2.take k).map fun m => (n, m))) ⟨s2, xs, x1, by simpa using x2⟩ (fun k H'' _ c => SqL.of ((s1.trans c.1) _ _ ha2)) ?_ ?_⟩
        · rintro k y H'' hy ⟨s3, xs', y1, y2⟩
          rw [List.getElem?_map] at hy
          cases ek : r.2[k]? with
          | none => rw [ek] at hy; cases hy
          | some m =>
            rw [ek] at hy
            obtain rfl := Option.some.inj hy
            refine ⟨rfl, ?_⟩
            refine ⟨_, rfl, _, rfl, by show 2 ≤ sizeLine; decide, fun t ht => ?_⟩
            have tD : t ≠ D := by intro z; subst z; rw [y1] at ht; cases ht
            have lx : xs'.length ≤ 1000 := by rw [y2.length, List.length_append, List.length_map]; exact bl k
            refine ⟨xs', by rw [upd_ne tD.symm]; exact y1, small1000 lx, (s3.new ht).chg hD, xs' ++ [.ref t], upd_same, ?_⟩
            have tk : r.2.take (k + 1) = r.2.take k ++ [m] := by rw [List.take_add_one, ek]; rfl
            rw [tk, List.map_append, ← List.append_assoc]
            refine PrsR.snoc ⟨t, rfl, by rw [upd_ne tD, upd_same]⟩ (y2.mono fun u zs hu => ?_)
            rw [upd_ne (ne_of hu y1 (by intro z; cases z)), upd_ne (ne_of_none hu ht)]; exact hu
        · rintro H'' ⟨s3, xs', y1, y2⟩
          rw [List.length_map, List.take_length] at y2
          refine ⟨s3, xs', y1, ?_⟩
          rw [ta]
          unfold byN at y2 ⊢
          rw [List.flatMap_append]
          have h2 : ([n].flatMap fun n => (rowsOf rs n).map fun m => (n, m)) = r.2.map fun m => (n, m) := by simp [e2]
          rw [h2]
          exact y2
    · rintro H' ⟨s2, xs, x1, x2⟩
      rw [List.length_map, List.take_length, byN_eq wo py up] at x2
      exact q D xs H' (s1.trans s2) x1 (by
        cases z : H D with
        | none => rfl
        | some o => rw [s1 _ _ z] at hD; cases hD) x2
/-! ### the law's pairs -/
def spPairs (K : Fg) : Sp := fun vs H Q _ => ∃ (N : Addr → Prop) (d : Addr) (kvs : List (Key × V)) (rs : Rs), vs = [.ref d] ∧ H d = some (.dK kvs) ∧ Rows N H kvs rs ∧ (rs.map (·.1)).Nodup ∧ (flat rs).length ≤ 1000 ∧
  ∀ l xs H', Same H H' → H' l = some (.lst xs) → H l = none → PrsR H' xs (prS (flat rs)) → Q (.ref l) H'
end
end Pl

namespace Pl
open PySem L2 PySem.Spec PyProof.Rows
mutual
/-- x is the data d, its lists and tuples tracked -/
inductive Dt (H : Hp) : V → PyData → Prop
  | non : Dt H .non .none
  | bl (b : Bool) : Dt H (.bl b) (.bool b)
  | int (i : Int) : Dt H (.int i) (.int i)
  | str (x : Str) : Dt H (.str x) (.str x)
  | lst {a : Addr} {xs : List V} {ds : List PyData} : H a = some (.lst xs) → DtAll H xs ds → Dt H (.ref a) (.list ds)
  | tup {a : Addr} {xs : List V} {ds : List PyData} : H a = some (.tup xs) → DtAll H xs ds → Dt H (.ref a) (.tuple ds)
inductive DtAll (H : Hp) : List V → List PyData → Prop
  | nil : DtAll H [] []
  | cons {x : V} {xs : List V} {d : PyData} {ds : List PyData} : Dt H x d → DtAll H xs ds → DtAll H (x :: xs) (d :: ds)
end
theorem DtAll.length {H : Hp} : ∀ {xs : List V} {ds : List PyData}, DtAll H xs ds → xs.length = ds.length
  | _, _, .nil => rfl
  | _, _, .cons _ t => by rw [List.length_cons, List.length_cons, DtAll.length t]
theorem DtAll.at {H : Hp} : ∀ {xs : List V} {ds : List PyData} {i : Nat}, DtAll H xs ds → i < ds.length → ∃ x d, xs[i]? = some x ∧ ds[i]? = some d ∧ Dt H x d
  | _, _, i, .nil, h => by simp at h
  | _, _, 0, .cons r _, _ => ⟨_, _, rfl, rfl, r⟩
  | _, _, i + 1, .cons _ t, h => by
    obtain ⟨x, d, h1, h2, r⟩ := DtAll.at (i := i) t (by simpa using h)
    exact ⟨x, d, by simpa using h1, by simpa using h2, r⟩
theorem DtAll.ints {H : Hp} : ∀ {ns : List Int}, DtAll H (ns.map V.int) (ns.map PyData.int)
  | [] => .nil
  | n :: ns => .cons (.int n) DtAll.ints
/-- not too deep, not too long -/
def fits : Nat → PyData → Prop
  | 0, .list _ => False
  | 0, .tuple _ => False
  | n + 1, .list ds => ds.length ≤ 1000 ∧ ∀ d ∈ ds, fits n d
  | n + 1, .tuple ds => ds.length ≤ 1000 ∧ ∀ d ∈ ds, fits n d
  | _, .dict _ => False
  | _, _ => True
section
variable {P : Program} {w : World} {K : Fg} {mg : Str → Option Value} {base : Heap} {CT CN CS CW : Addr}
theorem kt {K : Fg} {a b : String} {r : Bool} (h : kitB a b = some r) : PySem.W.kitOne K (.type a) (.type b) = some r := h
/-- the same data twice: True -/
def spSame (n : Nat) : Sp := fun vs H Q _ => ∃ x y d, vs = [x, y] ∧ Dt H x d ∧ Dt H y d ∧ fits n d ∧ Q (.bl true) H
end
end Pl

namespace Pl
open PySem L2 PySem.Spec PyProof.Rows
noncomputable instance : DecidableEq Tm := fun t u => Classical.propDecidable (t = u)
section
variable {P : Program} {w : World} {K : Fg} {mg : Str → Option Value} {base : Heap} {A : CA} {ks : Kd → Bool}
/-! ### what a term tells of itself -/
def ownV : Tm → List V
  | .now => [.str "now"]
  | .shift _ c => [.str "shift", .int c]
  | .look z _ wy lim => [.str "look", .str z, .str wy, limV lim]
  | .either _ _ => [.str "either"]
  | .later _ _ => [.str "later"]
  | .earlier _ _ => [.str "earlier"]
def limD : Option Int → PyData
  | none => .none
  | some i => .int i
def ownD : Tm → List PyData
  | .now => [.str "now"]
  | .shift _ c => [.str "shift", .int c]
  | .look z _ wy lim => [.str "look", .str z, .str wy, limD lim]
  | .either _ _ => [.str "either"]
  | .later _ _ => [.str "later"]
  | .earlier _ _ => [.str "earlier"]
def ownEq : Tm → Tm → Bool
  | .now, .now => true
  | .shift _ c, .shift _ c' => decide (c = c')
  | .look z _ wy lim, .look z' _ wy' lim' => decide (z = z') && (decide (wy = wy') && decide (lim = lim'))
  | .either _ _, .either _ _ => true
  | .later _ _, .later _ _ => true
  | .earlier _ _, .earlier _ _ => true
  | _, _ => false
def Tm.kz : Tm → List Tm
  | .now => []
  | .shift m _ => [m]
  | .look _ m _ _ => [m]
  | .either a b => [a, b]
  | .later a b => [a, b]
  | .earlier a b => [a, b]
theorem eq_kz (t u : Tm) : decide (t = u) = (ownEq t u && decide (t.kz = u.kz)) := by
  rw [Bool.eq_iff_iff]
  cases t <;> cases u <;> simp [ownEq, Tm.kz] <;> (first | exact and_comm | (constructor <;> (intro h; simp_all)))
theorem kz_len {t u : Tm} (h : ownEq t u = true) : t.kz.length = u.kz.length := by
  cases t <;> cases u <;> first | rfl | cases h
theorem eqv_str (x y : Str) : PyData.eqv (.str x) (.str y) = decide (x = y) := by
  rw [Bool.eq_iff_iff]; simp [PyData.eqv]
theorem eqv_int (x y : Int) : PyData.eqv (.int x) (.int y) = decide (x = y) := by
  rw [Bool.eq_iff_iff]; simp [PyData.eqv]
theorem eqv_lim (x y : Option Int) : PyData.eqv (limD x) (limD y) = decide (x = y) := by
  rw [Bool.eq_iff_iff]
  cases x <;> cases y <;> simp [limD, PyData.eqv]
theorem ownD_eqv (t u : Tm) : PyData.eqv (.tuple (ownD t)) (.tuple (ownD u)) = ownEq t u := by
  have e1 : ∀ xs ys, PyData.eqv (.tuple xs) (.tuple ys) = PyData.eqvAll xs ys := fun xs ys => by simp [PyData.eqv]
  have e2 : ∀ x y xs ys, PyData.eqvAll (x :: xs) (y :: ys) = (PyData.eqv x y && PyData.eqvAll xs ys) := fun x y xs ys => by simp [PyData.eqvAll]
  have e3 : PyData.eqvAll [] [] = true := by simp [PyData.eqvAll]
  have e4 : ∀ y ys, PyData.eqvAll [] (y :: ys) = false := fun y ys => by simp [PyData.eqvAll]
  have e5 : ∀ y ys, PyData.eqvAll (y :: ys) [] = false := fun y ys => by simp [PyData.eqvAll]
  rw [e1]
  cases t <;> cases u <;> simp only [ownD, e2, e3, e4, e5, eqv_str, eqv_int, eqv_lim, ownEq, Bool.and_true, Bool.and_false, Bool.false_and] <;> first | rfl | decide +kernel | simp

theorem ownD_dp {H : Hp} {t : Tm} {p : Addr} (h : H p = some (.tup (ownV t))) : Dp K H (.ref p) (.tuple (ownD t)) := by
  have hl : ∀ lim : Option Int, Dp K H (limV lim) (limD lim) := fun lim => by cases lim with
    | none => exact .non
    | some i => exact .int i
  refine .tup (SqT.of h) ?_
  cases t with
  | now => exact .cons (.str _) .nil
  | shift m c => exact .cons (.str _) (.cons (.int _) .nil)
  | look z m wy lim => exact .cons (.str _) (.cons (.str _) (.cons (.str _) (.cons (hl lim) .nil)))
  | either a b => exact .cons (.str _) .nil
  | later a b => exact .cons (.str _) .nil
  | earlier a b => exact .cons (.str _) .nil
theorem ways_ok {wy : Str} (h : wy ∈ ways) : PyData.strOk wy = true := by
  have e : ∀ x ∈ ways, PyData.strOk x = true := by decide +kernel
  exact e wy h
theorem gname_ok {z : Str} (g : GName z) : PyData.strOk z = true := by
  unfold PyData.strOk
  rw [← Array.all_toList, List.all_eq_true]
  intro c hc
  have e : ∀ c ∈ (Str.ofString "abcdefghijklmnopqrstuvwxyz").cps.toList, decide (c < 0x110000) = true := by decide +kernel
  exact e c (g.all c hc)
theorem ownD_shaped {t : Tm} (g : Good ks t) : SeqAt.shaped (.tuple (ownD t)) = true := by
  have c : ∀ ds : List PyData, PyData.canLayAll0 ds = true → PyData.depthAll ds ≤ 60 → SeqAt.shaped (.tuple ds) = true := fun ds h1 h2 => by
    unfold SeqAt.shaped
    have e1 : PyData.canLay0 (.tuple ds) = true := by simpa [PyData.canLay0] using h1
    have e2 : PyData.depth (.tuple ds) ≤ 64 := by simp [PyData.depth]; omega
    rw [e1, decide_eq_true e2]; rfl
  refine c _ ?_ ?_
  · cases t with
    | look z m wy lim =>
      have k1 := gname_ok g.2.2.1
      have k2 := ways_ok g.2.2.2.1
      have k3 : PyData.strOk "look" = true := by decide +kernel
      cases lim <;> simp [ownD, limD, PyData.canLayAll0, PyData.canLay0, k1, k2, k3]
    | now => have k3 : PyData.strOk "now" = true := (by decide +kernel); simp [ownD, PyData.canLayAll0, PyData.canLay0, k3]
    | shift m c => have k3 : PyData.strOk "shift" = true := (by decide +kernel); simp [ownD, PyData.canLayAll0, PyData.canLay0, k3]
    | either a b => have k3 : PyData.strOk "either" = true := (by decide +kernel); simp [ownD, PyData.canLayAll0, PyData.canLay0, k3]
    | later a b => have k3 : PyData.strOk "later" = true := (by decide +kernel); simp [ownD, PyData.canLayAll0, PyData.canLay0, k3]
    | earlier a b => have k3 : PyData.strOk "earlier" = true := (by decide +kernel); simp [ownD, PyData.canLayAll0, PyData.canLay0, k3]
  · cases t with
    | look z m wy lim => cases lim <;> simp [ownD, limD, PyData.depthAll, PyData.depth]
    | _ => simp [ownD, PyData.depthAll, PyData.depth]
def spOwn (A : CA) (k : Kd) : Sp := fun vs H Q _ => ∃ a t, vs = [.ref a] ∧ TermAt A H t a ∧ t.kd = k ∧ ∀ p H', Same H H' → H p = none → H' p = some (.tup (ownV t)) → Q (.ref p) H'
theorem ok_Now_own (D : ∃ f fd, Fun K "own_values" "Now.own_values" s_Now_own_values f fd ∧ Meth K (A.cls .now) "own_values" f ∧ Binds K fd p_Now_own_values []) (TT : TTx K mg A ks) (hk0 : ks .now = true) : CalI P w K mg base CX0 (A.cls .now) "own_values" 1 (spOwn A .now) := by
  obtain ⟨f, fd, F, m1, hb⟩ := D
  have KS := TT.at_ _ hk0
  refine ⟨f, fd, _, F.ok sc_Now_own_values (fun vs H Q E h => ?_) (fun cdv A' outer s H vs Q E hr h => ?_), m1, KS.cl.cl, hb⟩
  · obtain ⟨a, t, rfl, _⟩ := h; rfl
  · obtain ⟨a, t, rfl, ha, ek, q⟩ := h
    refine ⟨_, (pss_one (ps_ret (pe_tup (pa_cons pe_str pa_nil)))), ?_⟩
    cases t with
    | now =>
      obtain ⟨dx, ch, h1, h2⟩ := ha
      exact ⟨by show 1 ≤ sizeLine; decide, fun p hp => q p _ ((Same.refl H).new hp) hp upd_same⟩
    | _ => cases ek
theorem ok_Shift_own (D : ∃ f fd, Fun K "own_values" "Shift.own_values" s_Shift_own_values f fd ∧ Meth K (A.cls .shift) "own_values" f ∧ Binds K fd p_Shift_own_values []) (TT : TTx K mg A ks) (hk0 : ks .shift = true) : CalI P w K mg base CX0 (A.cls .shift) "own_values" 1 (spOwn A .shift) := by
  obtain ⟨f, fd, F, m1, hb⟩ := D
  have KS := TT.at_ _ hk0
  refine ⟨f, fd, _, F.ok sc_Shift_own_values (fun vs H Q E h => ?_) (fun cdv A' outer s H vs Q E hr h => ?_), m1, KS.cl.cl, hb⟩
  · obtain ⟨a, t, rfl, _⟩ := h; rfl
  · obtain ⟨a, t, rfl, ha, ek, q⟩ := h
    refine ⟨_, (pss_one (ps_ret (pe_tup (pa_cons pe_str (pa_cons (pe_fld (pv 0) rfl) pa_nil))))), ?_⟩
    cases t with
    | shift m c =>
      obtain ⟨dx, ch, ma, h1, h2, h3⟩ := ha
      exact ⟨_, rfl, a, _, dx, _, _, rfl, h1, KS.cl.cl, KS.no _ (by decide +kernel), sh_amt, by show 2 ≤ sizeLine; decide, fun p hp => q p _ ((Same.refl H).new hp) hp upd_same⟩
    | _ => cases ek
theorem ok_Look_own (D : ∃ f fd, Fun K "own_values" "Look.own_values" s_Look_own_values f fd ∧ Meth K (A.cls .look) "own_values" f ∧ Binds K fd p_Look_own_values []) (TT : TTx K mg A ks) (hk0 : ks .look = true) : CalI P w K mg base CX0 (A.cls .look) "own_values" 1 (spOwn A .look) := by
  obtain ⟨f, fd, F, m1, hb⟩ := D
  have KS := TT.at_ _ hk0
  refine ⟨f, fd, _, F.ok sc_Look_own_values (fun vs H Q E h => ?_) (fun cdv A' outer s H vs Q E hr h => ?_), m1, KS.cl.cl, hb⟩
  · obtain ⟨a, t, rfl, _⟩ := h; rfl
  · obtain ⟨a, t, rfl, ha, ek, q⟩ := h
    refine ⟨_, (pss_one (ps_ret (pe_tup (pa_cons pe_str (pa_cons (pe_fld (pv 0) rfl) (pa_cons (pe_fld (pv 0) rfl) (pa_cons (pe_fld (pv 0) rfl) pa_nil))))))), ?_⟩
    cases t with
    | look z m wy lim =>
      obtain ⟨dx, ch, ma, h1, h2, h3⟩ := ha
      exact ⟨_, rfl, a, _, dx, _, _, rfl, h1, KS.cl.cl, KS.no _ (by decide +kernel), lk_str, _, rfl, a, _, dx, _, _, rfl, h1, KS.cl.cl, KS.no _ (by decide +kernel), lk_way, _, rfl, a, _, dx, _, _, rfl, h1, KS.cl.cl, KS.no _ (by decide +kernel), lk_lim, by show 4 ≤ sizeLine; decide, fun p hp => q p _ ((Same.refl H).new hp) hp upd_same⟩
    | _ => cases ek
theorem ok_Either_own (D : ∃ f fd, Fun K "own_values" "Either.own_values" s_Either_own_values f fd ∧ Meth K (A.cls .either) "own_values" f ∧ Binds K fd p_Either_own_values []) (TT : TTx K mg A ks) (hk0 : ks .either = true) : CalI P w K mg base CX0 (A.cls .either) "own_values" 1 (spOwn A .either) := by
  obtain ⟨f, fd, F, m1, hb⟩ := D
  have KS := TT.at_ _ hk0
  refine ⟨f, fd, _, F.ok sc_Either_own_values (fun vs H Q E h => ?_) (fun cdv A' outer s H vs Q E hr h => ?_), m1, KS.cl.cl, hb⟩
  · obtain ⟨a, t, rfl, _⟩ := h; rfl
  · obtain ⟨a, t, rfl, ha, ek, q⟩ := h
    refine ⟨_, (pss_one (ps_ret (pe_tup (pa_cons pe_str pa_nil)))), ?_⟩
    cases t with
    | either x y =>
      obtain ⟨dx, ch, xa, ya, h1, h2, h3, h4⟩ := ha
      exact ⟨by show 1 ≤ sizeLine; decide, fun p hp => q p _ ((Same.refl H).new hp) hp upd_same⟩
    | _ => cases ek
theorem ok_Later_own (D : ∃ f fd, Fun K "own_values" "Later.own_values" s_Later_own_values f fd ∧ Meth K (A.cls .later) "own_values" f ∧ Binds K fd p_Later_own_values []) (TT : TTx K mg A ks) (hk0 : ks .later = true) : CalI P w K mg base CX0 (A.cls .later) "own_values" 1 (spOwn A .later) := by
  obtain ⟨f, fd, F, m1, hb⟩ := D
  have KS := TT.at_ _ hk0
  refine ⟨f, fd, _, F.ok sc_Later_own_values (fun vs H Q E h => ?_) (fun cdv A' outer s H vs Q E hr h => ?_), m1, KS.cl.cl, hb⟩
  · obtain ⟨a, t, rfl, _⟩ := h; rfl
  · obtain ⟨a, t, rfl, ha, ek, q⟩ := h
    refine ⟨_, (pss_one (ps_ret (pe_tup (pa_cons pe_str pa_nil)))), ?_⟩
    cases t with
    | later x y =>
      obtain ⟨dx, ch, xa, ya, h1, h2, h3, h4⟩ := ha
      exact ⟨by show 1 ≤ sizeLine; decide, fun p hp => q p _ ((Same.refl H).new hp) hp upd_same⟩
    | _ => cases ek
theorem ok_Earlier_own (D : ∃ f fd, Fun K "own_values" "Earlier.own_values" s_Earlier_own_values f fd ∧ Meth K (A.cls .earlier) "own_values" f ∧ Binds K fd p_Earlier_own_values []) (TT : TTx K mg A ks) (hk0 : ks .earlier = true) : CalI P w K mg base CX0 (A.cls .earlier) "own_values" 1 (spOwn A .earlier) := by
  obtain ⟨f, fd, F, m1, hb⟩ := D
  have KS := TT.at_ _ hk0
  refine ⟨f, fd, _, F.ok sc_Earlier_own_values (fun vs H Q E h => ?_) (fun cdv A' outer s H vs Q E hr h => ?_), m1, KS.cl.cl, hb⟩
  · obtain ⟨a, t, rfl, _⟩ := h; rfl
  · obtain ⟨a, t, rfl, ha, ek, q⟩ := h
    refine ⟨_, (pss_one (ps_ret (pe_tup (pa_cons pe_str pa_nil)))), ?_⟩
    cases t with
    | earlier x y =>
      obtain ⟨dx, ch, xa, ya, h1, h2, h3, h4⟩ := ha
      exact ⟨by show 1 ≤ sizeLine; decide, fun p hp => q p _ ((Same.refl H).new hp) hp upd_same⟩
    | _ => cases ek
/-! ### one place, one term -/
def KInj (A : CA) (ks : Kd → Bool) : Prop := ∀ k k', ks k = true → ks k' = true → A.cls k = A.cls k' → k = k'
theorem TermAt.kz {H : Hp} {t : Tm} {a : Addr} (x : TermAt A H t a) : ∃ dx ch os cs, H a = some (.ins (A.cls t.kd) dx (os ++ allF ch t.sz)) ∧ os.map (·.1) = t.kd.own ∧ H ch = some (.tup (cs.map V.ref)) ∧ Paired (fun u c => TermAt A H u c) t.kz cs := by
  cases t with
  | now => obtain ⟨dx, ch, h1, h2⟩ := x; exact ⟨dx, ch, [], [], h1, rfl, h2, .nil⟩
  | shift m c => obtain ⟨dx, ch, ma, h1, h2, h3⟩ := x; exact ⟨dx, ch, _, [ma], h1, rfl, h2, .cons h3 .nil⟩
  | look z m wy lim => obtain ⟨dx, ch, ma, h1, h2, h3⟩ := x; exact ⟨dx, ch, _, [ma], h1, rfl, h2, .cons h3 .nil⟩
  | either p q => obtain ⟨dx, ch, xa, ya, h1, h2, h3, h4⟩ := x; exact ⟨dx, ch, _, [xa, ya], h1, rfl, h2, .cons h3 (.cons h4 .nil)⟩
  | later p q => obtain ⟨dx, ch, xa, ya, h1, h2, h3, h4⟩ := x; exact ⟨dx, ch, _, [xa, ya], h1, rfl, h2, .cons h3 (.cons h4 .nil)⟩
  | earlier p q => obtain ⟨dx, ch, xa, ya, h1, h2, h3, h4⟩ := x; exact ⟨dx, ch, _, [xa, ya], h1, rfl, h2, .cons h3 (.cons h4 .nil)⟩
theorem lim_inj {x y : Option Int} (h : limV x = limV y) : x = y := by
  cases x with
  | none => cases y with
    | none => rfl
    | some j => cases h
  | some i => cases y with
    | none => cases h
    | some j => injection h with h; rw [h]
theorem TermAt.uniq {H : Hp} (hI : KInj A ks) : ∀ {t u : Tm} {a : Addr}, Good ks t → Good ks u → TermAt A H t a → TermAt A H u a → t = u := by
  intro t
  induction t with
  | now =>
    intro u a g g' ⟨dx, ch, h1, _⟩ y
    obtain ⟨dx', ch', os', e1, _⟩ := y.hd
    rw [h1] at e1; injection e1 with e1; injection e1 with e1
    have e := hI _ _ g.k g'.k e1
    cases u <;> first | rfl | cases e
  | shift m c ih =>
    intro u a g g' ⟨dx, ch, ma, h1, _, h3⟩ y
    obtain ⟨dx', ch', os', e1, _⟩ := y.hd
    rw [h1] at e1; injection e1 with e1; injection e1 with e1
    have e := hI _ _ g.k g'.k e1
    cases u with
    | shift m' c' =>
      obtain ⟨dx, ch, ma', k1, _, k3⟩ := y
      rw [h1] at k1
      injection k1 with z; injection z with _ _ z
      injection z with z1 z; injection z with z2 z
      injection z1 with _ z1; injection z1 with z1; injection z2 with _ z2; injection z2 with z2
      subst z1; subst z2
      rw [ih g.2.1 g'.2.1 h3 k3]
    | _ => cases e
  | look z m wy lim ih =>
    intro u a g g' ⟨dx, ch, ma, h1, _, h3⟩ y
    obtain ⟨dx', ch', os', e1, _⟩ := y.hd
    rw [h1] at e1; injection e1 with e1; injection e1 with e1
    have e := hI _ _ g.k g'.k e1
    cases u with
    | look z' m' wy' lim' =>
      obtain ⟨dx, ch, ma', k1, _, k3⟩ := y
      rw [h1] at k1
      injection k1 with zz; injection zz with _ _ zz
      injection zz with z1 zz; injection zz with z2 zz; injection zz with z3 zz; injection zz with z4 zz
      injection z1 with _ z1; injection z1 with z1; injection z2 with _ z2; injection z2 with z2; injection z3 with _ z3; injection z3 with z3; injection z4 with _ z4
      have z4 := lim_inj z4
      subst z1; subst z2; subst z3; subst z4
      rw [ih g.2.1 g'.2.1 h3 k3]
    | _ => cases e
  | either p q i1 i2 =>
    intro u a g g' ⟨dx, ch, xa, ya, h1, _, h3, h4⟩ y
    obtain ⟨dx', ch', os', e1, _⟩ := y.hd
    rw [h1] at e1; injection e1 with e1; injection e1 with e1
    have e := hI _ _ g.k g'.k e1
    cases u with
    | either p' q' =>
      obtain ⟨dx, ch, xa', ya', k1, _, k3, k4⟩ := y
      rw [h1] at k1
      injection k1 with z; injection z with _ _ z
      injection z with z1 z; injection z with z2 z
      injection z1 with _ z1; injection z1 with z1; injection z2 with _ z2; injection z2 with z2
      subst z1; subst z2
      rw [i1 g.2.1 g'.2.1 h3 k3, i2 g.2.2 g'.2.2 h4 k4]
    | _ => cases e
  | later p q i1 i2 =>
    intro u a g g' ⟨dx, ch, xa, ya, h1, _, h3, h4⟩ y
    obtain ⟨dx', ch', os', e1, _⟩ := y.hd
    rw [h1] at e1; injection e1 with e1; injection e1 with e1
    have e := hI _ _ g.k g'.k e1
    cases u with
    | later p' q' =>
      obtain ⟨dx, ch, xa', ya', k1, _, k3, k4⟩ := y
      rw [h1] at k1
      injection k1 with z; injection z with _ _ z
      injection z with z1 z; injection z with z2 z
      injection z1 with _ z1; injection z1 with z1; injection z2 with _ z2; injection z2 with z2
      subst z1; subst z2
      rw [i1 g.2.1 g'.2.1 h3 k3, i2 g.2.2 g'.2.2 h4 k4]
    | _ => cases e
  | earlier p q i1 i2 =>
    intro u a g g' ⟨dx, ch, xa, ya, h1, _, h3, h4⟩ y
    obtain ⟨dx', ch', os', e1, _⟩ := y.hd
    rw [h1] at e1; injection e1 with e1; injection e1 with e1
    have e := hI _ _ g.k g'.k e1
    cases u with
    | earlier p' q' =>
      obtain ⟨dx, ch, xa', ya', k1, _, k3, k4⟩ := y
      rw [h1] at k1
      injection k1 with z; injection z with _ _ z
      injection z with z1 z; injection z with z2 z
      injection z1 with _ z1; injection z1 with z1; injection z2 with _ z2; injection z2 with z2
      subst z1; subst z2
      rw [i1 g.2.1 g'.2.1 h3 k3, i2 g.2.2 g'.2.2 h4 k4]
    | _ => cases e
theorem kz_good {t : Tm} (g : Good ks t) : ∀ u ∈ t.kz, Good ks u := by
  cases t with
  | now => intro u h; cases h
  | shift m c => intro u h; rw [List.mem_singleton.mp h]; exact g.2.1
  | look z m wy lim => intro u h; rw [List.mem_singleton.mp h]; exact g.2.1
  | either x y => intro u h; simp [Tm.kz] at h; rcases h with rfl | rfl; exact g.2.1; exact g.2.2
  | later x y => intro u h; simp [Tm.kz] at h; rcases h with rfl | rfl; exact g.2.1; exact g.2.2
  | earlier x y => intro u h; simp [Tm.kz] at h; rcases h with rfl | rfl; exact g.2.1; exact g.2.2
theorem kz_d {t : Tm} : ∀ u ∈ t.kz, u.sz.d < t.sz.d := by
  cases t with
  | now => intro u h; cases h
  | shift m c => intro u h; rw [List.mem_singleton.mp h]; show m.sz.d < (szOf 0 0 [m.sz]).d; rw [szOf1_d]; omega
  | look z m wy lim => intro u h; rw [List.mem_singleton.mp h]; show m.sz.d < (szOf 1 1 [m.sz]).d; rw [szOf1_d]; omega
  | either x y => intro u h; simp [Tm.kz] at h; show u.sz.d < (szOf 0 0 [x.sz, y.sz]).d; rw [szOf2_d]; rcases h with rfl | rfl <;> omega
  | later x y => intro u h; simp [Tm.kz] at h; show u.sz.d < (szOf 0 1 [x.sz, y.sz]).d; rw [szOf2_d]; rcases h with rfl | rfl <;> omega
  | earlier x y => intro u h; simp [Tm.kz] at h; show u.sz.d < (szOf 0 1 [x.sz, y.sz]).d; rw [szOf2_d]; rcases h with rfl | rfl <;> omega
/-! ### == of two terms -/
def spEqT (A : CA) (ks : Kd → Bool) (d : Nat) : Sp := fun vs H Q _ => ∃ a b t u, vs = [.ref a, .ref b] ∧ TermAt A H t a ∧ TermAt A H u b ∧ Good ks t ∧ Good ks u ∧ t.sz.d ≤ (d : Int) ∧ ∀ H', Same H H' → Q (.bl (decide (t = u))) H'
def EqS (A : CA) (ks : Kd → Bool) (d : Nat) (C C' : Addr) (sp : Sp) : Prop := (∃ k, ks k = true ∧ C = A.cls k) ∧ (∃ k, ks k = true ∧ C' = A.cls k) ∧ sp = spEqT A ks d
def OwnS (A : CA) (ks : Kd → Bool) (C : Addr) (sp : Sp) : Prop := ∃ k, ks k = true ∧ C = A.cls k ∧ sp = spOwn A k
theorem tEqs_tm (hI : KInj A ks) {d : Nat} {Kb : Bool → Hp → Prop} : ∀ {ts us : List Tm} {ps qs : List Addr} {H : Hp}, Paired (fun u c => TermAt A H u c) ts ps → Paired (fun u c => TermAt A H u c) us qs → ts.length = us.length → (∀ t ∈ ts, Good ks t ∧ t.sz.d ≤ (d : Int)) → (∀ u ∈ us, Good ks u) → (∀ H', Same H H' → Kb (decide (ts = us)) H') →
    tEqs (EqS A ks d) E0 (ps.zip qs) H Kb
  | [], [], _, _, H, .nil, .nil, _, _, _, q => q H (Same.refl H)
  | [], _ :: _, _, _, _, _, _, l, _, _, _ => by simp at l
  | _ :: _, [], _, _, _, _, _, l, _, _, _ => by simp at l
  | t :: ts, u :: us, p :: ps, r :: qs, H, .cons hp p1, .cons hr p2, l, g, g', q => by
    have gt := g t List.mem_cons_self
    have gu := g' u List.mem_cons_self
    have go : ∀ H1, Same H H1 → t = u → tEqs (EqS A ks d) E0 (ps.zip qs) H1 Kb := fun H1 s1 e => by
      refine tEqs_tm hI (L2.Paired.mapP p1 fun _ _ x => TermAt.same x s1) (L2.Paired.mapP p2 fun _ _ x => TermAt.same x s1) (by simpa using l) (fun t h => g t (List.mem_cons_of_mem _ h)) (fun u h => g' u (List.mem_cons_of_mem _ h)) fun H' s' => ?_
      have := q H' (s1.trans s')
      subst e
      simpa using this
    refine ⟨fun e => ?_, fun ne => ?_⟩
    · subst e
      exact go H (Same.refl H) (hp.uniq hI gt.1 gu hr)
    · obtain ⟨dx, ch, os, h1, _⟩ := hp.hd
      obtain ⟨dy, ch', os', h2, _⟩ := hr.hd
      refine ⟨_, dx, _, _, dy, _, _, h1, h2, ⟨⟨_, gt.1.k, rfl⟩, ⟨_, gu.k, rfl⟩, rfl⟩, p, r, t, u, rfl, hp, hr, gt.1, gu, gt.2, fun H1 s1 => ⟨_, rfl, fun e => go H1 s1 (of_decide_eq_true e), fun e => ?_⟩⟩
      have := q H1 s1
      have ne : ¬ (t :: ts = u :: us) := fun z => by injection z with z; exact absurd e (by rw [decide_eq_true z]; decide)
      rw [decide_eq_false ne] at this
      exact this
theorem ok_Term_eq (D : ∃ f fd, Fun K "__eq__" "Term.__eq__" s_Term___eq__ f fd ∧ (∀ k, ks k = true → Meth K (A.cls k) "__eq__" f) ∧ Binds K fd p_Term___eq__ []) (T : Tx K mg) (TT : TTx K mg A ks) (hI : KInj A ks) (nF : ∀ k k', ks k = true → ks k' = true → PySem.W.notFirst K (A.cls k) (.ref (A.cls k')) = true) (c_own : ∀ C sp, OwnS A ks C sp → CalI P w K mg base CX0 C "own_values" 1 sp) :
    ∀ (d : Nat) (C C' : Addr) (sp : Sp), EqS A ks d C C' sp → CalI P w K mg base CX0 C "__eq__" (2 * d + 3) sp ∧ PySem.W.notFirst K C (.ref C') = true := by
  intro d
  induction d with
  | zero =>
    rintro C C' sp ⟨⟨k, hk, rfl⟩, ⟨k', hk', rfl⟩, rfl⟩
    obtain ⟨f, fd, F, m1, hb⟩ := D
    refine ⟨⟨f, fd, _, F.ok sc_Term___eq__ (fun vs H Q E h => ?_) (fun cdv A' outer s H vs Q E hr h => ?_), m1 k hk, (TT.at_ _ hk).cl.cl, hb⟩, nF _ _ hk hk'⟩
    · obtain ⟨a, b, t, u, rfl, _⟩ := h; rfl
    · obtain ⟨a, b, t, u, rfl, _, _, _, _, h0, _⟩ := h
      have := t.d_pos
      exact absurd h0 (by omega)
  | succ d ih =>
    rintro C C' sp ⟨⟨k, hk, rfl⟩, ⟨k', hk', rfl⟩, rfl⟩
    obtain ⟨f, fd, F, m1, hb⟩ := D
    refine ⟨⟨f, fd, _, F.ok sc_Term___eq__ (fun vs H Q E h => ?_) (fun cdv A' outer s H vs Q E hr h => ?_), m1 k hk, (TT.at_ _ hk).cl.cl, hb⟩, nF _ _ hk hk'⟩
    · obtain ⟨a, b, t, u, rfl, _⟩ := h; rfl
    · obtain ⟨a, b, t, u, rfl, ha, hb', gt, gu, hd, q⟩ := h
      have g_Term := TT.gT
      have KT := TT.at_ _ gt.k
      have KU := TT.at_ _ gu.k
      refine ⟨_, (pss_cons (ps_if (pt_not (pt_val (pc_isi T (pa_cons (pv 1) (pa_cons (pe_glob rfl g_Term rel_r) pa_nil)))))
        (pss_one (ps_ret pe_bl))
        pss_nil)
      (pss_one (ps_ret (pe_and (pe_cmpR (op_eqD hr.units) (pmsx0 c_own hr (by omega) pass0 (pv 0)) (pmsx0 c_own hr (by omega) pass0 (pv 1)) (nomark _)) (pe_one (pe_cmpR (op_eqT ih hr (by omega) pass0) (pe_fld (pv 0) rfl) (pe_fld (pv 1) rfl) (nomark _))))))), ?_⟩
      obtain ⟨dy, chb, ob, b1, b2⟩ := hb'.hd
      refine ⟨_, rfl, _, _, _, _, true, rfl, .own _, KU.isi.ty KU.cl.cl b1, KU.kT, _, rfl, iteF ?_⟩
      obtain ⟨dxa, fsa, ha1, ha2⟩ := head_no ha (m := "own_values") (by decide +kernel) (by decide +kernel)
      refine ⟨_, rfl, a, _, dxa, _, _, rfl, ha1, ⟨_, gt.k, rfl, rfl⟩, ha2, a, t, rfl, ha, rfl, fun p H1 s1 hp0 hp => ?_⟩
      obtain ⟨dxb, fsb, hb1, hb2⟩ := head_no (hb'.same s1) (m := "own_values") (by decide +kernel) (by decide +kernel)
      refine ⟨_, rfl, b, _, dxb, _, _, rfl, hb1, ⟨_, gu.k, rfl, rfl⟩, hb2, b, u, rfl, hb'.same s1, rfl, fun r H2 s2 hr0 hr2 => ?_⟩
      have s12 := s1.trans s2
      have q0 := q
      have q := q H2 s12
      refine ⟨_, _, ownD_dp (s2 _ _ hp), ownD_dp hr2, ownD_shaped gt, ownD_shaped gu, _, rfl, ?_⟩
      rw [ownD_eqv]
      rw [eq_kz] at q
      cases eo : ownEq t u with
      | false => rw [eo] at q; exact iteF q
      | true =>
        rw [eo] at q
        refine iteT ?_
        obtain ⟨dx2, ch2, os2, cs2, x1, x2, x3, x4⟩ := (ha.same s12).kz
        obtain ⟨dy2, ci2, ot2, ct2, y1, y2, y3, y4⟩ := (hb'.same s12).kz
        refine ⟨_, rfl, a, _, dx2, _, _, rfl, x1, KT.cl.cl, KT.cl.nCh, f_all x2 (kN_no (by decide +kernel)) (i := 0) rfl (by decide +kernel), _, rfl, b, _, dy2, _, _, rfl, y1, KU.cl.cl, KU.cl.nCh, f_all y2 (kN_no (by decide +kernel)) (i := 0) rfl (by decide +kernel), ?_⟩
        have ll := kz_len eo
        refine ⟨ch2, ci2, cs2, ct2, rfl, rfl, SqT.of x3, SqT.of y3, tEqs_tm hI x4 y4 ll (fun v hv => ⟨kz_good gt v hv, by have := kz_d v hv; omega⟩) (kz_good gu) fun H' s' => ?_⟩
        have l1 := Paired.length x4
        have l2 := Paired.length y4
        rw [decide_eq_true (show cs2.length = ct2.length by omega)]
        have := q0 H' (s12.trans s')
        rw [eq_kz, eo, Bool.true_and] at this
        rw [Bool.and_true]
        exact this
end
end Pl

namespace Pl
open PySem L2 PySem.Spec PyProof.Rows
theorem szOf1_c {lo co : Int} {z : Sz} : (szOf lo co [z]).c = co + z.c := by show co + (z.c + 0) = _; omega
theorem nms_shd {t : Tm} {c : Int} : (t.shd c).nms = t.nms := by
  by_cases hk : t.kd = .shift
  · cases t with
    | shift m a =>
      show (if c = 0 then Tm.shift m a else if a + c = 0 then m else .shift m (a + c)).nms = m.nms
      split
      · rfl
      · split <;> rfl
    | _ => cases hk
  · rw [shd_ns hk]
    split <;> rfl
theorem szOf2_c {lo co : Int} {y z : Sz} : (szOf lo co [y, z]).c = co + (y.c + z.c) := by show co + (y.c + (z.c + 0)) = _; omega
theorem shd_c {t : Tm} {c : Int} : (t.shd c).sz.c ≤ t.sz.c := by
  have sh : ∀ (m : Tm) (c : Int), (Tm.shift m c).sz.c = m.sz.c := fun m c => by show (szOf 0 0 [m.sz]).c = _; rw [szOf1_c]; omega
  by_cases hk : t.kd = .shift
  · cases t with
    | shift m a =>
      have e1 := sh m a
      show (if c = 0 then Tm.shift m a else if a + c = 0 then m else .shift m (a + c)).sz.c ≤ _
      split
      · omega
      · split
        · omega
        · have := sh m (a + c); omega
    | _ => cases hk
  · rw [shd_ns hk]
    split
    · omega
    · have := sh t c; omega
section
variable {P : Program} {w : World} {K : Fg} {mg : Str → Option Value} {base : Heap} {A : CA} {ks : Kd → Bool} {CW : Addr}
def spTreeD (ks : Kd → Bool) (n : Nat) : Sp := fun vs H Q _ => ∃ (b c p : Addr) (ns : List Str) (L J : Int), vs = [.ref b, .ref p, .int L, .int J] ∧ Box H b c ∧ Nb b c p ∧ H p = some (.lst (ns.map V.str)) ∧ 0 < ns.length ∧ ns.length ≤ 100 ∧ (∀ z ∈ ns, GName z) ∧ 0 ≤ L ∧ 0 ≤ J ∧ L ≤ 100 ∧ J ≤ 100 ∧ L + J < (n : Int) ∧
  ∀ a t H', Box H' b c → Kp b c H H' → TreeAt H' t a → Good ks t → t.sz.d ≤ L + J + 2 → t.sz.p ≤ L + 3 * J + 2 → t.sz.l ≤ L → t.sz.c ≤ L + J → (∀ z ∈ t.nms, z ∈ ns) → Q (.ref a) H'
theorem ok__law_treeD (D : Df K mg "_law_tree" "_law_tree" s__law_tree p__law_tree) (T : Tx K mg) (hk : ∀ k, ks k = true) (c__law_pick : Cal P w K mg base CX0 "_law_pick" 1 spPick) (c__law_number : Cal P w K mg base CX0 "_law_number" 2 spNum) (c__law_limit : Cal P w K mg base CX0 "_law_limit" 3 spLim0) (c__law_shift : Cal P w K mg base CX0 "_law_shift" 1 (spShift ks)) : ∀ n, Cal P w K mg base CX0 "_law_tree" (n + 5) (spTreeD ks n) := by
  intro n
  induction n with
  | zero =>
    refine D.cal fun f fd F => F.ok sc__law_tree (fun vs H Q E h => ?_) (fun cdv A' outer s H vs Q E hr h => ?_)
    · obtain ⟨b, c, p, ns, L, J, rfl, _⟩ := h; rfl
    · obtain ⟨b, c, p, ns, L, J, rfl, B, np, hp, n0, n1, gn, l0, j0, l1, j1, lt, q⟩ := h
      exact absurd lt (by omega)
  | succ n c__law_tree =>
    refine D.cal fun f fd F => F.ok sc__law_tree (fun vs H Q E h => ?_) (fun cdv A' outer s H vs Q E hr h => ?_)
    · obtain ⟨b, c, p, ns, L, J, rfl, _⟩ := h; rfl
    · obtain ⟨b, c, p, ns, L, J, rfl, B, np, hp, n0, n1, gn, l0, j0, l1, j1, lt, q⟩ := h
      have v1 : 1 ≤ n + 5 := by omega
      have v2 : 2 ≤ n + 5 := by omega
      have v3 : 3 ≤ n + 5 := by omega
      have v5 : n + 5 ≤ n + 5 := Nat.le_refl _
      refine ⟨_, (pss_cons (ps_set (i := 4) sc__law_tree.nd rfl (Or.inl rfl) (pc c__law_pick hr (by omega) (pa_cons (pv 0) (pa_cons pe_int pa_nil))))
      (C8.pss_cut (ps_if (PW.pt (pw_and (pt_cmpR op_gt (pv 3) pe_int (nomark _)) (pw_and1 (pt_cmpR op_lt (pv 4) pe_int (nomark _)))))
        (pss_cons (ps_set (i := 5) sc__law_tree.nd rfl (Or.inl rfl) (pc c__law_pick hr (by omega) (pa_cons (pv 0) (pa_cons (pe_op op_add (pv 2) pe_int) pa_nil))))
        (pss_cons (ps_set (i := 6) sc__law_tree.nd rfl (Or.inl rfl) (pc c__law_pick hr (by omega) (pa_cons (pv 0) (pa_cons (pv 3) pa_nil))))
        (pss_cons (ps_set (i := 7) sc__law_tree.nd rfl (Or.inl rfl) (pc c__law_tree hr (by omega) (pa_cons (pv 0) (pa_cons (pv 1) (pa_cons (pv 5) (pa_cons (pv 6) pa_nil))))))
        (pss_cons (ps_set (i := 8) sc__law_tree.nd rfl (Or.inl rfl) (pc c__law_tree hr (by omega) (pa_cons (pv 0) (pa_cons (pv 1) (pa_cons (pe_op op_sub (pv 2) (pv 5)) (pa_cons (pe_op op_sub (pe_op op_sub (pv 3) pe_int) (pv 6)) pa_nil))))))
        (pss_one (ps_ret (pe_tup (pa_cons (pe_ix ix_list (pe_lst (pa_cons pe_str (pa_cons pe_str (pa_cons pe_str pa_nil)))) (pv 4) (fun _ _ => rfl)) (pa_cons (pv 7) (pa_cons (pv 8) pa_nil))))))))))
        pss_nil)
      (C8.pss_cut (ps_if (PW.pt (pw_and (pt_cmpR op_gt (pv 3) pe_int (nomark _)) (pw_and1 (pt_cmpR op_eq (pv 4) pe_int (nomark _)))))
        (pss_cons (ps_set (i := 9) sc__law_tree.nd rfl (Or.inl rfl) (pc c__law_tree hr (by omega) (pa_cons (pv 0) (pa_cons (pv 1) (pa_cons (pv 2) (pa_cons (pe_op op_sub (pv 3) pe_int) pa_nil))))))
        (pss_one (ps_ret (pc c__law_shift hr (by omega) (pa_cons (pv 9) (pa_cons (pc c__law_number hr (by omega) (pa_cons (pv 0) pa_nil)) pa_nil))))))
        pss_nil)
      (pss_cons (ps_if (pt_cmpR op_gt (pv 2) pe_int (nomark _))
        (pss_cons (ps_set (i := 10) sc__law_tree.nd rfl (Or.inl rfl) (pe_ix ix_list (pv 1) (pc c__law_pick hr (by omega) (pa_cons (pv 0) (pa_cons (pc_len T (pa_cons (pv 1) pa_nil)) pa_nil))) (fun _ _ => rfl)))
        (pss_cons (ps_set (i := 11) sc__law_tree.nd rfl (Or.inl rfl) (pe_ix ix_list (pe_lst (pa_cons pe_str (pa_cons pe_str (pa_cons pe_str (pa_cons pe_str pa_nil))))) (pc c__law_pick hr (by omega) (pa_cons (pv 0) (pa_cons pe_int pa_nil))) (fun _ _ => rfl)))
        (pss_cons (ps_set (i := 12) sc__law_tree.nd rfl (Or.inl rfl) (pc c__law_limit hr (by omega) (pa_cons (pv 0) pa_nil)))
        (pss_one (ps_ret (pe_tup (pa_cons pe_str (pa_cons (pv 10) (pa_cons (pv 11) (pa_cons (pv 12) (pa_cons (pc c__law_tree hr (by omega) (pa_cons (pv 0) (pa_cons (pv 1) (pa_cons (pe_op op_sub (pv 2) pe_int) (pa_cons (pv 3) pa_nil))))) pa_nil)))))))))))
        pss_nil)
      (pss_cons (ps_if (pt_cmpR op_eq (pe_op op_mod (pv 4) pe_int) pe_int (nomark _))
        (pss_one (ps_ret (pe_tup (pa_cons pe_str pa_nil))))
        pss_nil)
      (pss_one (ps_ret (pc c__law_shift hr (by omega) (pa_cons (pe_tup (pa_cons pe_str pa_nil)) (pa_cons (pc c__law_number hr (by omega) (pa_cons (pv 0) pa_nil)) pa_nil)))))))))), ?_⟩
      refine ⟨_, rfl, b, c, 8, rfl, B, by decide, by decide, fun kd H1 kd0 kd8 B1 k1 => ?_⟩
      have hp1 := k1 p _ np.1 np.2 hp
      refine ⟨fun σ H' => H' = H1 ∧ σ = [some (.ref b), some (.ref p), some (.int L), some (.int J), some (.int kd), none, none, none, none, none, none, none, none], ?_, ?_⟩
      · refine ⟨_, rfl, _, _, rfl, rfl, _, rfl, ite2 (fun z1 => ?_) (fun z1 => ?_)⟩
        · have j1' : 0 < J := by simpa using z1
          refine ⟨_, rfl, _, _, rfl, rfl, _, rfl, ite2 (fun z2 => ?_) (fun z2 => ⟨rfl, rfl⟩)⟩
          -- a join
          have kd3 : kd < 3 := by simpa using z2
          refine ⟨_, rfl, _, rfl, _, _, rfl, rfl, b, c, L + 1, rfl, B1, by omega, by omega, fun lf H2 lf0 lf1 B2 k2 => ?_⟩
          refine ⟨_, rfl, _, rfl, b, c, J, rfl, B2, by omega, by omega, fun nr H3 nr0 nr1 B3 k3 => ?_⟩
          have k13 := (k1.trans k2).trans k3
          have hp3 := k13 p _ np.1 np.2 hp
          refine ⟨_, rfl, _, rfl, _, rfl, _, rfl, b, c, p, ns, lf, nr, rfl, B3, np, hp3, n0, n1, gn, lf0, nr0, by omega, by omega, by omega, fun xa x H4 B4 k4 hx gx dx px lx cx mx => ?_⟩
          have hp4 := k4 p _ np.1 np.2 hp3
          refine ⟨_, rfl, _, rfl, _, rfl, _, rfl, _, _, rfl, rfl, _, rfl, _, _, rfl, rfl, _, rfl, _, _, rfl, rfl, b, c, p, ns, L - lf, J - 1 - nr, rfl, B4, np, hp4, n0, n1, gn, by omega, by omega, by omega, by omega, by omega, fun ya y H5 B5 k5 hy gy dy py ly cy my => ?_⟩
          have hx5 := hx.kt (Kt.kp B4 k5)
          have k15 := (k13.trans k4).trans k5
          refine ⟨by show 3 ≤ sizeLine; decide, fun tl htl => ?_⟩
          have s6 := (Same.refl H5).new (o := .lst [.str "either", .str "later", .str "earlier"]) htl
          have kcases : kd = 0 ∨ kd = 1 ∨ kd = 2 := by omega
          have d2 : ∀ lo co, (szOf lo co [x.sz, y.sz]).d ≤ L + J + 2 := fun lo co => by rw [szOf2_d]; omega
          have p2 : ∀ lo co, (szOf lo co [x.sz, y.sz]).p ≤ L + 3 * J + 2 := fun lo co => by rw [szOf2_p]; omega
          have c2 : ∀ co : Int, co ≤ 1 → (szOf 0 co [x.sz, y.sz]).c ≤ L + J := fun co h => by rw [szOf2_c]; omega
          have l2 : ∀ co, (szOf 0 co [x.sz, y.sz]).l ≤ L := fun co => by rw [szOf2_l]; omega
          rcases kcases with rfl | rfl | rfl
          · refine ⟨_, rfl, tl, _, 0, .str "either", rfl, rfl, SqL.of upd_same, rfl, _, rfl, _, rfl, by show 3 ≤ sizeLine; decide, fun pt hpt => ?_⟩
            have s7 := s6.new (o := .tup [.str "either", .ref xa, .ref ya]) hpt
            exact q pt (.either x y) _ (B5.same s7) (k15.trans (Kp.of s7)) ⟨xa, ya, upd_same, hx5.same s7, hy.same s7⟩ ⟨hk _, gx, gy⟩ (d2 0 0) (p2 0 0) (l2 0) (c2 0 (by decide)) (fun z h => (List.mem_append.mp h).elim (mx z) (my z))
          · refine ⟨_, rfl, tl, _, 1, .str "later", rfl, rfl, SqL.of upd_same, rfl, _, rfl, _, rfl, by show 3 ≤ sizeLine; decide, fun pt hpt => ?_⟩
            have s7 := s6.new (o := .tup [.str "later", .ref xa, .ref ya]) hpt
            exact q pt (.later x y) _ (B5.same s7) (k15.trans (Kp.of s7)) ⟨xa, ya, upd_same, hx5.same s7, hy.same s7⟩ ⟨hk _, gx, gy⟩ (d2 0 1) (p2 0 1) (l2 1) (c2 1 (by decide)) (fun z h => (List.mem_append.mp h).elim (mx z) (my z))
          · refine ⟨_, rfl, tl, _, 2, .str "earlier", rfl, rfl, SqL.of upd_same, rfl, _, rfl, _, rfl, by show 3 ≤ sizeLine; decide, fun pt hpt => ?_⟩
            have s7 := s6.new (o := .tup [.str "earlier", .ref xa, .ref ya]) hpt
            exact q pt (.earlier x y) _ (B5.same s7) (k15.trans (Kp.of s7)) ⟨xa, ya, upd_same, hx5.same s7, hy.same s7⟩ ⟨hk _, gx, gy⟩ (d2 0 1) (p2 0 1) (l2 1) (c2 1 (by decide)) (fun z h => (List.mem_append.mp h).elim (mx z) (my z))
        · exact ⟨rfl, rfl⟩
      · rintro σ H1' ⟨rfl, rfl⟩
        refine ⟨fun σ H' => H' = H1' ∧ σ = [some (.ref b), some (.ref p), some (.int L), some (.int J), some (.int kd), none, none, none, none, none, none, none, none], ?_, ?_⟩
        · refine ⟨_, rfl, _, _, rfl, rfl, _, rfl, ite2 (fun z1 => ?_) (fun z1 => ⟨rfl, rfl⟩)⟩
          have j1' : 0 < J := by simpa using z1
          refine ⟨_, rfl, rfl, _, rfl, ite2 (fun z2 => ?_) (fun z2 => ⟨rfl, rfl⟩)⟩
          refine ⟨_, rfl, _, rfl, _, rfl, _, rfl, _, _, rfl, rfl, b, c, p, ns, L, J - 1, rfl, B1, np, hp1, n0, n1, gn, l0, by omega, l1, by omega, by omega, fun xa x H4 B4 k4 hx gx dx px lx cx mx => ?_⟩
          refine ⟨_, rfl, _, rfl, b, c, rfl, B4, fun am H5 B5 k5 => ?_⟩
          have hx5 := hx.kt (Kt.kp B4 k5)
          refine ⟨xa, am, x, rfl, hx5, gx, fun pt H6 s6 ht => ?_⟩
          have sh := shd_d (t := x) (c := am)
          have shc := shd_c (t := x) (c := am)
          exact q pt _ _ (B5.same s6) (((k1.trans k4).trans k5).trans (Kp.of s6)) ht (Good.shd (hk _) gx) (by omega) (by omega) (by omega) (by omega) (fun z h => mx z (by rw [nms_shd] at h; exact h))
        · rintro σ H1'' ⟨rfl, rfl⟩
          refine ⟨_, rfl, _, _, rfl, rfl, _, rfl, ite2 (fun z1 => ?_) (fun z1 => ?_)⟩
          · -- a look
            have L1 : 0 < L := by simpa using z1
            refine ⟨_, rfl, _, rfl, _, rfl, _, _, rfl, .inl ⟨_, SqL.of hp1, rfl⟩, b, c, _, rfl, B1, by rw [List.length_map]; omega, by rw [List.length_map]; omega, fun ni H2 ni0 ni1 B2 k2 => ?_⟩
            rw [List.length_map] at ni1
            obtain ⟨z, hz, hzn⟩ := strs_at ni0 ni1
            refine ⟨_, _, _, _, rfl, rfl, SqL.of (k2 p _ np.1 np.2 hp1), hz, ?_⟩
            refine ⟨by show 4 ≤ sizeLine; decide, fun wl hwl => ?_⟩
            have nwl := B2.nb hwl
            have kw : Kp b c H2 (upd H2 wl (.lst (ways.map V.str))) := (Kp.refl).new hwl
            refine ⟨_, rfl, b, c, 4, rfl, B2.new hwl, by decide, by decide, fun r H4 r0 r1 B4 k4 => ?_⟩
            obtain ⟨wy, hwy, hww⟩ := ways_at r0 r1
            refine ⟨_, _, _, _, rfl, rfl, SqL.of (k4 wl _ nwl.1 nwl.2 upd_same), hwy, ?_⟩
            have k24 := kw.trans k4
            refine ⟨_, rfl, b, c, rfl, B4, fun lim H5 hlim B5 k5 => ?_⟩
            have k15 := ((k1.trans k2).trans k24).trans k5
            have hp5 := k15 p _ np.1 np.2 hp
            refine ⟨_, rfl, _, rfl, _, rfl, _, rfl, _, rfl, _, rfl, _, _, rfl, rfl, _, rfl, b, c, p, ns, L - 1, J, rfl, B5, np, hp5, n0, n1, gn, by omega, j0, by omega, j1, by omega, fun xa x H6 B6 k6 hx gx dx px lx cx mx => ?_⟩
            refine ⟨by show 5 ≤ sizeLine; decide, fun pt hpt => ?_⟩
            have s7 := (Same.refl H6).new (o := .tup [.str "look", .str z, .str wy, limV lim, .ref xa]) hpt
            refine q pt (.look z x wy lim) _ (B6.same s7) ((k15.trans k6).trans (Kp.of s7)) ⟨xa, upd_same, hx.same s7⟩ ⟨hk _, gx, gn z hzn, hww, hlim⟩ ?_ ?_ ?_ ?_ (fun z' h => (List.mem_cons.mp h).elim (fun e => e ▸ hzn) (mx z'))
            · show (szOf 1 1 [x.sz]).d ≤ _; rw [szOf1_d]; omega
            · show (szOf 1 1 [x.sz]).p ≤ _; rw [szOf1_p]; omega
            · show (szOf 1 1 [x.sz]).l ≤ _; rw [szOf1_l]; omega
            · show (szOf 1 1 [x.sz]).c ≤ _; rw [szOf1_c]; omega
          · -- the asked moment
            refine ⟨_, rfl, _, _, rfl, rfl, by show (0 : Int) < 2; decide, rfl, _, rfl, ite2 (fun z2 => ?_) (fun z2 => ?_)⟩
            · refine ⟨by show 1 ≤ sizeLine; decide, fun pt hpt => ?_⟩
              have s7 := (Same.refl H1'').new (o := .tup [.str "now"]) hpt
              exact q pt .now _ (B1.same s7) (k1.trans (Kp.of s7)) upd_same (hk _) (by show (1 : Int) ≤ _; omega) (by show (1 : Int) ≤ _; omega) (by show (0 : Int) ≤ _; omega) (by show (0 : Int) ≤ _; omega) (fun z h => by cases h)
            · refine ⟨by show 1 ≤ sizeLine; decide, fun pt hpt => ?_⟩
              have s7 := (Same.refl H1'').new (o := .tup [.str "now"]) hpt
              refine ⟨_, rfl, b, c, rfl, B1.same s7, fun am H5 B5 k5 => ?_⟩
              have h5 : TreeAt H5 .now pt := (Kt.kp (B1.same s7) k5).2 _ _ upd_same
              refine ⟨pt, am, .now, rfl, h5, hk _, fun pt2 H6 s6 ht => ?_⟩
              have d1 : (Tm.now.shd am).sz.d ≤ 2 ∧ (Tm.now.shd am).sz.p ≤ 2 ∧ (Tm.now.shd am).sz.l ≤ 0 := shd_d (t := .now) (c := am)
              have c1 : (Tm.now.shd am).sz.c ≤ 0 := shd_c (t := .now) (c := am)
              exact q pt2 _ _ (B5.same s6) ((k1.trans (Kp.of s7)).trans (k5.trans (Kp.of s6))) ht (Good.shd (hk _) (hk _)) (by omega) (by omega) (by omega) (by omega) (fun z h => by rw [nms_shd] at h; cases h)
end
end Pl

namespace Pl
open PySem L2 PySem.Spec PyProof.Rows
/-! ### trees whose numbers are bounded -/
def Bd (B : Int) : Tm → Prop
  | .now => True
  | .shift m c => -B ≤ c ∧ c ≤ B ∧ Bd B m
  | .look _ m _ lim => (∀ i, lim = some i → i ≤ B) ∧ Bd B m
  | .either x y => Bd B x ∧ Bd B y
  | .later x y => Bd B x ∧ Bd B y
  | .earlier x y => Bd B x ∧ Bd B y
theorem Bd.mono {B C : Int} (h : B ≤ C) : ∀ {t : Tm}, Bd B t → Bd C t
  | .now, _ => trivial
  | .shift m c, ⟨a, b, x⟩ => ⟨by omega, by omega, Bd.mono h x⟩
  | .look z m wy lim, ⟨a, x⟩ => ⟨fun i e => Int.le_trans (a i e) h, Bd.mono h x⟩
  | .either x y, ⟨a, b⟩ => ⟨Bd.mono h a, Bd.mono h b⟩
  | .later x y, ⟨a, b⟩ => ⟨Bd.mono h a, Bd.mono h b⟩
  | .earlier x y, ⟨a, b⟩ => ⟨Bd.mono h a, Bd.mono h b⟩
theorem Bd.shd {B C c : Int} {t : Tm} (h : Bd B t) (b0 : 0 ≤ B) (c0 : 0 ≤ C) (h0 : -C ≤ c) (h1 : c ≤ C) : Bd (B + C) (t.shd c) := by
  by_cases hk : t.kd = .shift
  · cases t with
    | shift m a =>
      obtain ⟨x, y, r⟩ := h
      show Bd (B + C) (if c = 0 then Tm.shift m a else if a + c = 0 then m else .shift m (a + c))
      split
      · exact ⟨by omega, by omega, r.mono (by omega)⟩
      · split
        · exact r.mono (by omega)
        · exact ⟨by omega, by omega, r.mono (by omega)⟩
    | _ => cases hk
  · rw [shd_ns hk]
    split
    · exact h.mono (by omega)
    · exact ⟨by omega, by omega, h.mono (by omega)⟩
theorem big0 {x y : Int} (h : 0 ≤ x) (h2 : 0 ≤ y) : -100000000000000000000000000000000000000000 ≤ (x - 100000000) * 10 ^ (32 : Int).toNat + y := by
  have e : (10 : Int) ^ (32 : Int).toNat = 100000000000000000000000000000000 := by decide +kernel
  rw [e]; omega
theorem big1 {x y : Int} (h : x < 200000001) (h2 : y < 100000000) : (x - 100000000) * 10 ^ (32 : Int).toNat + y ≤ 100000000000000000000000000000000000000000 := by
  have e : (10 : Int) ^ (32 : Int).toNat = 100000000000000000000000000000000 := by decide +kernel
  rw [e]; omega
section
variable {P : Program} {w : World} {K : Fg} {mg : Str → Option Value} {base : Heap} {A : CA} {ks : Kd → Bool} {CW : Addr}
def spNumB : Sp := fun vs H Q _ => ∃ b c, vs = [.ref b] ∧ Box H b c ∧ ∀ (r : Int) H', -100000000000000000000000000000000000000000 ≤ r → r ≤ 100000000000000000000000000000000000000000 → Box H' b c → Kp b c H H' → Q (.int r) H'
def spLimB : Sp := fun vs H Q _ => ∃ b c, vs = [.ref b] ∧ Box H b c ∧ ∀ (lim : Option Int) H', (∀ i, lim = some i → 0 ≤ i) → (∀ i, lim = some i → i ≤ 100000000000000000000000000000000000000000) → Box H' b c → Kp b c H H' → Q (limV lim) H'
theorem ok__law_numberB (D : Df K mg "_law_number" "_law_number" s__law_number p__law_number) (c__law_pick : Cal P w K mg base CX0 "_law_pick" 1 spPick) : Cal P w K mg base CX0 "_law_number" 2 spNumB := by
  refine D.cal fun f fd F => F.ok sc__law_number (fun vs H Q E h => ?_) (fun cdv A outer s H vs Q E hr h => ?_)
  · obtain ⟨b, c, rfl, _⟩ := h; rfl
  · obtain ⟨b, c, rfl, B, q⟩ := h
    refine ⟨_, (pss_cons (ps_set (i := 1) sc__law_number.nd rfl (Or.inl rfl) (pc c__law_pick hr (by decide) (pa_cons (pv 0) (pa_cons pe_int pa_nil))))
      (pss_cons (ps_if (pt_cmpR op_lt (pv 1) pe_int (nomark _))
        (pss_one (ps_ret (pe_op op_sub (pc c__law_pick hr (by decide) (pa_cons (pv 0) (pa_cons pe_int pa_nil))) pe_int)))
        pss_nil)
      (pss_cons (ps_if (pt_cmpR op_eq (pv 1) pe_int (nomark _))
        (pss_one (ps_ret (pe_op op_sub (pc c__law_pick hr (by decide) (pa_cons (pv 0) (pa_cons pe_int pa_nil))) pe_int)))
        pss_nil)
      (pss_cons (ps_if (pt_cmpR op_eq (pv 1) pe_int (nomark _))
        (pss_one (ps_ret (pe_op op_sub (pc c__law_pick hr (by decide) (pa_cons (pv 0) (pa_cons pe_int pa_nil))) pe_int)))
        pss_nil)
      (pss_one (ps_ret (pe_op op_add (pe_op op_mul (pe_op op_sub (pc c__law_pick hr (by decide) (pa_cons (pv 0) (pa_cons pe_int pa_nil))) pe_int) (pe_op op_pow pe_int pe_int)) (pc c__law_pick hr (by decide) (pa_cons (pv 0) (pa_cons pe_int pa_nil)))))))))), ?_⟩
    refine ⟨_, rfl, b, c, 8, rfl, B, by decide, by decide, fun r H1 _ _ B1 k1 => ?_⟩
    refine ⟨_, rfl, _, _, rfl, rfl, _, rfl, ite2 (fun z => ?_) (fun z => ?_)⟩
    · exact ⟨_, rfl, b, c, 9, rfl, B1, by decide, by decide, fun r2 H2 w0 w1 B2 k2 => ⟨_, _, rfl, rfl, q _ _ (by omega) (by omega) B2 (k1.trans k2)⟩⟩
    refine ⟨_, rfl, rfl, _, rfl, ite2 (fun z => ?_) (fun z => ?_)⟩
    · exact ⟨_, rfl, b, c, 41, rfl, B1, by decide, by decide, fun r2 H2 w0 w1 B2 k2 => ⟨_, _, rfl, rfl, q _ _ (by omega) (by omega) B2 (k1.trans k2)⟩⟩
    refine ⟨_, rfl, rfl, _, rfl, ite2 (fun z => ?_) (fun z => ?_)⟩
    · exact ⟨_, rfl, b, c, 2000001, rfl, B1, by decide, by decide, fun r2 H2 w0 w1 B2 k2 => ⟨_, _, rfl, rfl, q _ _ (by omega) (by omega) B2 (k1.trans k2)⟩⟩
    refine ⟨_, rfl, b, c, 200000001, rfl, B1, by decide, by decide, fun r2 H2 y0 y1 B2 k2 => ⟨_, _, rfl, rfl, _, _, rfl, rfl, (by show (0 : Int) ≤ 32 ∧ (32 : Int) ≤ 1000000 ∧ Int.natAbs 10 < 2 ^ 64; decide), _, _, rfl, rfl, .inl ⟨by omega, by omega⟩, ?_⟩⟩
    exact ⟨_, rfl, b, c, 100000000, rfl, B2, by decide, by decide, fun r3 H3 w0 w1 B3 k3 => ⟨_, _, rfl, rfl, q _ _ (big0 y0 w0) (big1 y1 w1) B3 ((k1.trans k2).trans k3)⟩⟩
theorem ok__law_limitB (D : Df K mg "_law_limit" "_law_limit" s__law_limit p__law_limit) (hA : mg "abs" = none) (c__law_pick : Cal P w K mg base CX0 "_law_pick" 1 spPick) (c__law_number : Cal P w K mg base CX0 "_law_number" 2 spNumB) : Cal P w K mg base CX0 "_law_limit" 3 spLimB := by
  refine D.cal fun f fd F => F.ok sc__law_limit (fun vs H Q E h => ?_) (fun cdv A' outer s H vs Q E hr h => ?_)
  · obtain ⟨b, c, rfl, _⟩ := h; rfl
  · obtain ⟨b, c, rfl, B, q⟩ := h
    refine ⟨_, (pss_cons (ps_set (i := 1) sc__law_limit.nd rfl (Or.inl rfl) (pc c__law_pick hr (by decide) (pa_cons (pv 0) (pa_cons pe_int pa_nil))))
      (pss_cons (ps_if (pt_cmpR op_lt (pv 1) pe_int (nomark _))
        (pss_one (ps_ret pe_non))
        pss_nil)
      (pss_cons (ps_if (pt_cmpR op_lt (pv 1) pe_int (nomark _))
        (pss_one (ps_ret (pc c__law_pick hr (by decide) (pa_cons (pv 0) (pa_cons pe_int pa_nil)))))
        pss_nil)
      (pss_one (ps_ret (pc_abs hA (pa_cons (pc c__law_number hr (by decide) (pa_cons (pv 0) pa_nil)) pa_nil))))))), ?_⟩
    refine ⟨_, rfl, b, c, 5, rfl, B, by decide, by decide, fun r H1 r0 _ B1 k1 => ?_⟩
    refine ⟨_, rfl, _, _, rfl, rfl, _, rfl, ite2 (fun z => ?_) (fun z => ?_)⟩
    · exact q none _ (fun i h => by cases h) (fun i h => by cases h) B1 k1
    · refine ⟨_, rfl, _, _, rfl, rfl, _, rfl, ite2 (fun z => ?_) (fun z => ?_)⟩
      · refine ⟨_, rfl, b, c, 7, rfl, B1, by decide, by decide, fun r2 H2 r20 r21 B2 k2 => ?_⟩
        exact q (some r2) _ (fun i h => by cases h; exact r20) (fun i h => by cases h; omega) B2 (k1.trans k2)
      · refine ⟨_, rfl, b, c, rfl, B1, fun r2 H2 w0 w1 B2 k2 => ⟨_, rfl, ?_⟩⟩
        refine q (some (if r2 < 0 then -r2 else r2)) _ (fun i h => ?_) (fun i h => ?_) B2 (k1.trans k2)
        · cases h
          split <;> omega
        · cases h
          split <;> omega
def spTreeB (ks : Kd → Bool) (n : Nat) : Sp := fun vs H Q _ => ∃ (b c p : Addr) (ns : List Str) (L J : Int), vs = [.ref b, .ref p, .int L, .int J] ∧ Box H b c ∧ Nb b c p ∧ H p = some (.lst (ns.map V.str)) ∧ 0 < ns.length ∧ ns.length ≤ 100 ∧ (∀ z ∈ ns, GName z) ∧ 0 ≤ L ∧ 0 ≤ J ∧ L ≤ 100 ∧ J ≤ 100 ∧ L + J < (n : Int) ∧
  ∀ a t H', Box H' b c → Kp b c H H' → TreeAt H' t a → Good ks t → t.sz.d ≤ L + J + 2 → t.sz.p ≤ L + 3 * J + 2 → t.sz.l ≤ L → t.sz.c ≤ L + J → (∀ z ∈ t.nms, z ∈ ns) → Bd (100000000000000000000000000000000000000000 * (J + 1)) t → Q (.ref a) H'
theorem ok__law_treeB (D : Df K mg "_law_tree" "_law_tree" s__law_tree p__law_tree) (T : Tx K mg) (hk : ∀ k, ks k = true) (c__law_pick : Cal P w K mg base CX0 "_law_pick" 1 spPick) (c__law_number : Cal P w K mg base CX0 "_law_number" 2 spNumB) (c__law_limit : Cal P w K mg base CX0 "_law_limit" 3 spLimB) (c__law_shift : Cal P w K mg base CX0 "_law_shift" 1 (spShift ks)) : ∀ n, Cal P w K mg base CX0 "_law_tree" (n + 5) (spTreeB ks n) := by
  intro n
  induction n with
  | zero =>
    refine D.cal fun f fd F => F.ok sc__law_tree (fun vs H Q E h => ?_) (fun cdv A' outer s H vs Q E hr h => ?_)
    · obtain ⟨b, c, p, ns, L, J, rfl, _⟩ := h; rfl
    · obtain ⟨b, c, p, ns, L, J, rfl, B, np, hp, n0, n1, gn, l0, j0, l1, j1, lt, q⟩ := h
      exact absurd lt (by omega)
  | succ n c__law_tree =>
    refine D.cal fun f fd F => F.ok sc__law_tree (fun vs H Q E h => ?_) (fun cdv A' outer s H vs Q E hr h => ?_)
    · obtain ⟨b, c, p, ns, L, J, rfl, _⟩ := h; rfl
    · obtain ⟨b, c, p, ns, L, J, rfl, B, np, hp, n0, n1, gn, l0, j0, l1, j1, lt, q⟩ := h
      have v1 : 1 ≤ n + 5 := by omega
      have v2 : 2 ≤ n + 5 := by omega
      have v3 : 3 ≤ n + 5 := by omega
      have v5 : n + 5 ≤ n + 5 := Nat.le_refl _
      refine ⟨_, (pss_cons (ps_set (i := 4) sc__law_tree.nd rfl (Or.inl rfl) (pc c__law_pick hr (by omega) (pa_cons (pv 0) (pa_cons pe_int pa_nil))))
      (C8.pss_cut (ps_if (PW.pt (pw_and (pt_cmpR op_gt (pv 3) pe_int (nomark _)) (pw_and1 (pt_cmpR op_lt (pv 4) pe_int (nomark _)))))
        (pss_cons (ps_set (i := 5) sc__law_tree.nd rfl (Or.inl rfl) (pc c__law_pick hr (by omega) (pa_cons (pv 0) (pa_cons (pe_op op_add (pv 2) pe_int) pa_nil))))
        (pss_cons (ps_set (i := 6) sc__law_tree.nd rfl (Or.inl rfl) (pc c__law_pick hr (by omega) (pa_cons (pv 0) (pa_cons (pv 3) pa_nil))))
        (pss_cons (ps_set (i := 7) sc__law_tree.nd rfl (Or.inl rfl) (pc c__law_tree hr (by omega) (pa_cons (pv 0) (pa_cons (pv 1) (pa_cons (pv 5) (pa_cons (pv 6) pa_nil))))))
        (pss_cons (ps_set (i := 8) sc__law_tree.nd rfl (Or.inl rfl) (pc c__law_tree hr (by omega) (pa_cons (pv 0) (pa_cons (pv 1) (pa_cons (pe_op op_sub (pv 2) (pv 5)) (pa_cons (pe_op op_sub (pe_op op_sub (pv 3) pe_int) (pv 6)) pa_nil))))))
        (pss_one (ps_ret (pe_tup (pa_cons (pe_ix ix_list (pe_lst (pa_cons pe_str (pa_cons pe_str (pa_cons pe_str pa_nil)))) (pv 4) (fun _ _ => rfl)) (pa_cons (pv 7) (pa_cons (pv 8) pa_nil))))))))))
        pss_nil)
      (C8.pss_cut (ps_if (PW.pt (pw_and (pt_cmpR op_gt (pv 3) pe_int (nomark _)) (pw_and1 (pt_cmpR op_eq (pv 4) pe_int (nomark _)))))
        (pss_cons (ps_set (i := 9) sc__law_tree.nd rfl (Or.inl rfl) (pc c__law_tree hr (by omega) (pa_cons (pv 0) (pa_cons (pv 1) (pa_cons (pv 2) (pa_cons (pe_op op_sub (pv 3) pe_int) pa_nil))))))
        (pss_one (ps_ret (pc c__law_shift hr (by omega) (pa_cons (pv 9) (pa_cons (pc c__law_number hr (by omega) (pa_cons (pv 0) pa_nil)) pa_nil))))))
        pss_nil)
      (pss_cons (ps_if (pt_cmpR op_gt (pv 2) pe_int (nomark _))
        (pss_cons (ps_set (i := 10) sc__law_tree.nd rfl (Or.inl rfl) (pe_ix ix_list (pv 1) (pc c__law_pick hr (by omega) (pa_cons (pv 0) (pa_cons (pc_len T (pa_cons (pv 1) pa_nil)) pa_nil))) (fun _ _ => rfl)))
        (pss_cons (ps_set (i := 11) sc__law_tree.nd rfl (Or.inl rfl) (pe_ix ix_list (pe_lst (pa_cons pe_str (pa_cons pe_str (pa_cons pe_str (pa_cons pe_str pa_nil))))) (pc c__law_pick hr (by omega) (pa_cons (pv 0) (pa_cons pe_int pa_nil))) (fun _ _ => rfl)))
        (pss_cons (ps_set (i := 12) sc__law_tree.nd rfl (Or.inl rfl) (pc c__law_limit hr (by omega) (pa_cons (pv 0) pa_nil)))
        (pss_one (ps_ret (pe_tup (pa_cons pe_str (pa_cons (pv 10) (pa_cons (pv 11) (pa_cons (pv 12) (pa_cons (pc c__law_tree hr (by omega) (pa_cons (pv 0) (pa_cons (pv 1) (pa_cons (pe_op op_sub (pv 2) pe_int) (pa_cons (pv 3) pa_nil))))) pa_nil)))))))))))
        pss_nil)
      (pss_cons (ps_if (pt_cmpR op_eq (pe_op op_mod (pv 4) pe_int) pe_int (nomark _))
        (pss_one (ps_ret (pe_tup (pa_cons pe_str pa_nil))))
        pss_nil)
      (pss_one (ps_ret (pc c__law_shift hr (by omega) (pa_cons (pe_tup (pa_cons pe_str pa_nil)) (pa_cons (pc c__law_number hr (by omega) (pa_cons (pv 0) pa_nil)) pa_nil)))))))))), ?_⟩
      refine ⟨_, rfl, b, c, 8, rfl, B, by decide, by decide, fun kd H1 kd0 kd8 B1 k1 => ?_⟩
      have hp1 := k1 p _ np.1 np.2 hp
      refine ⟨fun σ H' => H' = H1 ∧ σ = [some (.ref b), some (.ref p), some (.int L), some (.int J), some (.int kd), none, none, none, none, none, none, none, none], ?_, ?_⟩
      · refine ⟨_, rfl, _, _, rfl, rfl, _, rfl, ite2 (fun z1 => ?_) (fun z1 => ?_)⟩
        · have j1' : 0 < J := by simpa using z1
          refine ⟨_, rfl, _, _, rfl, rfl, _, rfl, ite2 (fun z2 => ?_) (fun z2 => ⟨rfl, rfl⟩)⟩
          -- a join
          have kd3 : kd < 3 := by simpa using z2
          refine ⟨_, rfl, _, rfl, _, _, rfl, rfl, b, c, L + 1, rfl, B1, by omega, by omega, fun lf H2 lf0 lf1 B2 k2 => ?_⟩
          refine ⟨_, rfl, _, rfl, b, c, J, rfl, B2, by omega, by omega, fun nr H3 nr0 nr1 B3 k3 => ?_⟩
          have k13 := (k1.trans k2).trans k3
          have hp3 := k13 p _ np.1 np.2 hp
          refine ⟨_, rfl, _, rfl, _, rfl, _, rfl, b, c, p, ns, lf, nr, rfl, B3, np, hp3, n0, n1, gn, lf0, nr0, by omega, by omega, by omega, fun xa x H4 B4 k4 hx gx dx px lx cx mx bx => ?_⟩
          have hp4 := k4 p _ np.1 np.2 hp3
          refine ⟨_, rfl, _, rfl, _, rfl, _, rfl, _, _, rfl, rfl, _, rfl, _, _, rfl, rfl, _, rfl, _, _, rfl, rfl, b, c, p, ns, L - lf, J - 1 - nr, rfl, B4, np, hp4, n0, n1, gn, by omega, by omega, by omega, by omega, by omega, fun ya y H5 B5 k5 hy gy dy py ly cy my by' => ?_⟩
          have hx5 := hx.kt (Kt.kp B4 k5)
          have k15 := (k13.trans k4).trans k5
          refine ⟨by show 3 ≤ sizeLine; decide, fun tl htl => ?_⟩
          have s6 := (Same.refl H5).new (o := .lst [.str "either", .str "later", .str "earlier"]) htl
          have kcases : kd = 0 ∨ kd = 1 ∨ kd = 2 := by omega
          have d2 : ∀ lo co, (szOf lo co [x.sz, y.sz]).d ≤ L + J + 2 := fun lo co => by rw [szOf2_d]; omega
          have p2 : ∀ lo co, (szOf lo co [x.sz, y.sz]).p ≤ L + 3 * J + 2 := fun lo co => by rw [szOf2_p]; omega
          have c2 : ∀ co : Int, co ≤ 1 → (szOf 0 co [x.sz, y.sz]).c ≤ L + J := fun co h => by rw [szOf2_c]; omega
          have l2 : ∀ co, (szOf 0 co [x.sz, y.sz]).l ≤ L := fun co => by rw [szOf2_l]; omega
          rcases kcases with rfl | rfl | rfl
          · refine ⟨_, rfl, tl, _, 0, .str "either", rfl, rfl, SqL.of upd_same, rfl, _, rfl, _, rfl, by show 3 ≤ sizeLine; decide, fun pt hpt => ?_⟩
            have s7 := s6.new (o := .tup [.str "either", .ref xa, .ref ya]) hpt
            exact q pt (.either x y) _ (B5.same s7) (k15.trans (Kp.of s7)) ⟨xa, ya, upd_same, hx5.same s7, hy.same s7⟩ ⟨hk _, gx, gy⟩ (d2 0 0) (p2 0 0) (l2 0) (c2 0 (by decide)) (fun z h => (List.mem_append.mp h).elim (mx z) (my z)) ⟨bx.mono (by omega), by'.mono (by omega)⟩
          · refine ⟨_, rfl, tl, _, 1, .str "later", rfl, rfl, SqL.of upd_same, rfl, _, rfl, _, rfl, by show 3 ≤ sizeLine; decide, fun pt hpt => ?_⟩
            have s7 := s6.new (o := .tup [.str "later", .ref xa, .ref ya]) hpt
            exact q pt (.later x y) _ (B5.same s7) (k15.trans (Kp.of s7)) ⟨xa, ya, upd_same, hx5.same s7, hy.same s7⟩ ⟨hk _, gx, gy⟩ (d2 0 1) (p2 0 1) (l2 1) (c2 1 (by decide)) (fun z h => (List.mem_append.mp h).elim (mx z) (my z)) ⟨bx.mono (by omega), by'.mono (by omega)⟩
          · refine ⟨_, rfl, tl, _, 2, .str "earlier", rfl, rfl, SqL.of upd_same, rfl, _, rfl, _, rfl, by show 3 ≤ sizeLine; decide, fun pt hpt => ?_⟩
            have s7 := s6.new (o := .tup [.str "earlier", .ref xa, .ref ya]) hpt
            exact q pt (.earlier x y) _ (B5.same s7) (k15.trans (Kp.of s7)) ⟨xa, ya, upd_same, hx5.same s7, hy.same s7⟩ ⟨hk _, gx, gy⟩ (d2 0 1) (p2 0 1) (l2 1) (c2 1 (by decide)) (fun z h => (List.mem_append.mp h).elim (mx z) (my z)) ⟨bx.mono (by omega), by'.mono (by omega)⟩
        · exact ⟨rfl, rfl⟩
      · rintro σ H1' ⟨rfl, rfl⟩
        refine ⟨fun σ H' => H' = H1' ∧ σ = [some (.ref b), some (.ref p), some (.int L), some (.int J), some (.int kd), none, none, none, none, none, none, none, none], ?_, ?_⟩
        · refine ⟨_, rfl, _, _, rfl, rfl, _, rfl, ite2 (fun z1 => ?_) (fun z1 => ⟨rfl, rfl⟩)⟩
          have j1' : 0 < J := by simpa using z1
          refine ⟨_, rfl, rfl, _, rfl, ite2 (fun z2 => ?_) (fun z2 => ⟨rfl, rfl⟩)⟩
          refine ⟨_, rfl, _, rfl, _, rfl, _, rfl, _, _, rfl, rfl, b, c, p, ns, L, J - 1, rfl, B1, np, hp1, n0, n1, gn, l0, by omega, l1, by omega, by omega, fun xa x H4 B4 k4 hx gx dx px lx cx mx bx => ?_⟩
          refine ⟨_, rfl, _, rfl, b, c, rfl, B4, fun am H5 am0 am1 B5 k5 => ?_⟩
          have hx5 := hx.kt (Kt.kp B4 k5)
          refine ⟨xa, am, x, rfl, hx5, gx, fun pt H6 s6 ht => ?_⟩
          have sh := shd_d (t := x) (c := am)
          have shc := shd_c (t := x) (c := am)
          exact q pt _ _ (B5.same s6) (((k1.trans k4).trans k5).trans (Kp.of s6)) ht (Good.shd (hk _) gx) (by omega) (by omega) (by omega) (by omega) (fun z h => mx z (by rw [nms_shd] at h; exact h)) ((bx.shd (C := 100000000000000000000000000000000000000000) (by omega) (by decide) am0 am1).mono (by omega))
        · rintro σ H1'' ⟨rfl, rfl⟩
          refine ⟨_, rfl, _, _, rfl, rfl, _, rfl, ite2 (fun z1 => ?_) (fun z1 => ?_)⟩
          · -- a look
            have L1 : 0 < L := by simpa using z1
            refine ⟨_, rfl, _, rfl, _, rfl, _, _, rfl, .inl ⟨_, SqL.of hp1, rfl⟩, b, c, _, rfl, B1, by rw [List.length_map]; omega, by rw [List.length_map]; omega, fun ni H2 ni0 ni1 B2 k2 => ?_⟩
            rw [List.length_map] at ni1
            obtain ⟨z, hz, hzn⟩ := strs_at ni0 ni1
            refine ⟨_, _, _, _, rfl, rfl, SqL.of (k2 p _ np.1 np.2 hp1), hz, ?_⟩
            refine ⟨by show 4 ≤ sizeLine; decide, fun wl hwl => ?_⟩
            have nwl := B2.nb hwl
            have kw : Kp b c H2 (upd H2 wl (.lst (ways.map V.str))) := (Kp.refl).new hwl
            refine ⟨_, rfl, b, c, 4, rfl, B2.new hwl, by decide, by decide, fun r H4 r0 r1 B4 k4 => ?_⟩
            obtain ⟨wy, hwy, hww⟩ := ways_at r0 r1
            refine ⟨_, _, _, _, rfl, rfl, SqL.of (k4 wl _ nwl.1 nwl.2 upd_same), hwy, ?_⟩
            have k24 := kw.trans k4
            refine ⟨_, rfl, b, c, rfl, B4, fun lim H5 hlim hlmx B5 k5 => ?_⟩
            have k15 := ((k1.trans k2).trans k24).trans k5
            have hp5 := k15 p _ np.1 np.2 hp
            refine ⟨_, rfl, _, rfl, _, rfl, _, rfl, _, rfl, _, rfl, _, _, rfl, rfl, _, rfl, b, c, p, ns, L - 1, J, rfl, B5, np, hp5, n0, n1, gn, by omega, j0, by omega, j1, by omega, fun xa x H6 B6 k6 hx gx dx px lx cx mx bx => ?_⟩
            refine ⟨by show 5 ≤ sizeLine; decide, fun pt hpt => ?_⟩
            have s7 := (Same.refl H6).new (o := .tup [.str "look", .str z, .str wy, limV lim, .ref xa]) hpt
            refine q pt (.look z x wy lim) _ (B6.same s7) ((k15.trans k6).trans (Kp.of s7)) ⟨xa, upd_same, hx.same s7⟩ ⟨hk _, gx, gn z hzn, hww, hlim⟩ ?_ ?_ ?_ ?_ (fun z' h => (List.mem_cons.mp h).elim (fun e => e ▸ hzn) (mx z')) ⟨fun i h => by have := hlmx i h; omega, bx.mono (by omega)⟩
            · show (szOf 1 1 [x.sz]).d ≤ _; rw [szOf1_d]; omega
            · show (szOf 1 1 [x.sz]).p ≤ _; rw [szOf1_p]; omega
            · show (szOf 1 1 [x.sz]).l ≤ _; rw [szOf1_l]; omega
            · show (szOf 1 1 [x.sz]).c ≤ _; rw [szOf1_c]; omega
          · -- the asked moment
            refine ⟨_, rfl, _, _, rfl, rfl, by show (0 : Int) < 2; decide, rfl, _, rfl, ite2 (fun z2 => ?_) (fun z2 => ?_)⟩
            · refine ⟨by show 1 ≤ sizeLine; decide, fun pt hpt => ?_⟩
              have s7 := (Same.refl H1'').new (o := .tup [.str "now"]) hpt
              exact q pt .now _ (B1.same s7) (k1.trans (Kp.of s7)) upd_same (hk _) (by show (1 : Int) ≤ _; omega) (by show (1 : Int) ≤ _; omega) (by show (0 : Int) ≤ _; omega) (by show (0 : Int) ≤ _; omega) (fun z h => by cases h) trivial
            · refine ⟨by show 1 ≤ sizeLine; decide, fun pt hpt => ?_⟩
              have s7 := (Same.refl H1'').new (o := .tup [.str "now"]) hpt
              refine ⟨_, rfl, b, c, rfl, B1.same s7, fun am H5 am0 am1 B5 k5 => ?_⟩
              have h5 : TreeAt H5 .now pt := (Kt.kp (B1.same s7) k5).2 _ _ upd_same
              refine ⟨pt, am, .now, rfl, h5, hk _, fun pt2 H6 s6 ht => ?_⟩
              have d1 : (Tm.now.shd am).sz.d ≤ 2 ∧ (Tm.now.shd am).sz.p ≤ 2 ∧ (Tm.now.shd am).sz.l ≤ 0 := shd_d (t := .now) (c := am)
              have c1 : (Tm.now.shd am).sz.c ≤ 0 := shd_c (t := .now) (c := am)
              exact q pt2 _ _ (B5.same s6) ((k1.trans (Kp.of s7)).trans (k5.trans (Kp.of s6))) ht (Good.shd (hk _) (hk _)) (by omega) (by omega) (by omega) (by omega) (fun z h => by rw [nms_shd] at h; cases h) ((Bd.shd (B := 0) (C := 100000000000000000000000000000000000000000) (t := .now) trivial (by decide) (by decide) am0 am1).mono (by omega))
end
end Pl

namespace Pl
open PySem L2 PySem.Spec PyProof.Rows
/-! ### a term's text -/
theorem cat_as (a b c : Str) : a ++ b ++ c = a ++ (b ++ c) := by
  show (⟨(a.cps ++ b.cps) ++ c.cps⟩ : Str) = ⟨a.cps ++ (b.cps ++ c.cps)⟩
  rw [Array.append_assoc]
theorem cat_e (a : Str) : Str.empty ++ a = a := by
  show (⟨#[] ++ a.cps⟩ : Str) = a
  rw [Array.empty_append]
theorem cat_r (a : Str) : a ++ (Str.ofString "") = a := by
  show (⟨a.cps ++ (Str.ofString "").cps⟩ : Str) = a
  have e : (Str.ofString "").cps = #[] := by decide +kernel
  rw [e, Array.append_empty]
theorem cat_len (u v : Str) : (u ++ v).length = u.length + v.length := by show (u.cps ++ v.cps).size = _; rw [Array.size_append]; rfl
def numS (i : Int) : Str := Str.ofString (toString i)
theorem numS_len {i : Int} (h0 : 0 ≤ i) (h : i < 10 ^ 60) : (numS i).length ≤ 60 := toString_length_le h0 (by decide) h
def farS : Option Int → Str
  | none => ""
  | some i => " within " ++ numS i
def wordS (wy : Str) : Str := if wy ∈ (["at", "before"] : List Str) then "last" else "next"
def wr : Tm → Str
  | .now => "now"
  | .shift m c => "(" ++ wr m ++ " " ++ (if 0 < c then "+" else "-" : Str) ++ " " ++ numS (if c < 0 then -c else c) ++ ")"
  | .look z m wy lim => wordS wy ++ " " ++ z ++ farS lim ++ " " ++ wy ++ " " ++ wr m
  | .either x y => "(" ++ wr x ++ " or " ++ wr y ++ ")"
  | .later x y => "later" ++ "(" ++ wr x ++ ", " ++ wr y ++ ")"
  | .earlier x y => "earlier" ++ "(" ++ wr x ++ ", " ++ wr y ++ ")"
theorem lits : (Str.ofString "(").length = 1 ∧ (Str.ofString ")").length = 1 ∧ (Str.ofString " ").length = 1 ∧ (Str.ofString "+").length = 1 ∧ (Str.ofString "-").length = 1 ∧ (Str.ofString " or ").length = 4 ∧ (Str.ofString ", ").length = 2 ∧ (Str.ofString "later").length = 5 ∧ (Str.ofString "earlier").length = 7 ∧ (Str.ofString "now").length = 3 ∧ (Str.ofString " within ").length = 8 ∧ (Str.ofString "").length = 0 := by decide +kernel
theorem word_len {wy : Str} : (wordS wy).length = 4 := by
  unfold wordS
  split <;> decide +kernel
theorem way_len {wy : Str} (h : wy ∈ ways) : wy.length ≤ 6 := by
  have e : ∀ z ∈ ways, z.length ≤ 6 := by decide +kernel
  exact e _ h
theorem far_len {lim : Option Int} (h0 : ∀ i, lim = some i → 0 ≤ i) (h : ∀ i, lim = some i → i < 10 ^ 60) : (farS lim).length ≤ 68 := by
  obtain ⟨_, _, _, _, _, _, _, _, _, _, l8, l0⟩ := lits
  cases lim with
  | none => show (Str.ofString "").length ≤ _; omega
  | some i =>
    have := numS_len (h0 i rfl) (h i rfl)
    show (Str.ofString " within " ++ numS i).length ≤ _
    rw [cat_len]; omega
theorem wr_len {ks : Kd → Bool} : ∀ {t : Tm}, Good ks t → Bd (10 ^ 60 - 1) t → ((wr t).length : Int) ≤ 150 * t.sz.p
  | .now, _, _ => by
    have := lits
    show ((Str.ofString "now").length : Int) ≤ 150 * 1
    omega
  | .shift m c, g, b => by
    obtain ⟨l1, l2, l3, l4, l5, _⟩ := lits
    have ih := wr_len g.2.1 b.2.2
    have e : (Tm.shift m c).sz.p = 1 + m.sz.p := szOf1_p (lo := 0) (co := 0)
    have b1 := b.1
    have b2 := b.2.1
    have hn : (numS (if c < 0 then -c else c)).length ≤ 60 := numS_len (by split <;> omega) (by split <;> omega)
    have hs : (if 0 < c then (Str.ofString "+") else (Str.ofString "-")).length = 1 := by split <;> assumption
    show (((Str.ofString "(") ++ wr m ++ (Str.ofString " ") ++ (if 0 < c then (Str.ofString "+") else (Str.ofString "-")) ++ (Str.ofString " ") ++ numS (if c < 0 then -c else c) ++ (Str.ofString ")")).length : Int) ≤ _
    rw [e, cat_len, cat_len, cat_len, cat_len, cat_len, cat_len, hs]
    omega
  | .look z m wy lim, g, b => by
    obtain ⟨l1, l2, l3, l4, l5, _⟩ := lits
    have ih := wr_len g.2.1 b.2
    have e : (Tm.look z m wy lim).sz.p = 1 + m.sz.p := szOf1_p (lo := 1) (co := 1)
    have hf := far_len g.2.2.2.2 (fun i h => by have := b.1 i h; omega)
    have hz := g.2.2.1.hi
    have hw := way_len g.2.2.2.1
    have hd := word_len (wy := wy)
    show ((wordS wy ++ (Str.ofString " ") ++ z ++ farS lim ++ (Str.ofString " ") ++ wy ++ (Str.ofString " ") ++ wr m).length : Int) ≤ _
    rw [e, cat_len, cat_len, cat_len, cat_len, cat_len, cat_len, cat_len]
    omega
  | .either x y, g, b => by
    obtain ⟨l1, l2, l3, l4, l5, l6, l7, l8, l9, _⟩ := lits
    have ix := wr_len g.2.1 b.1
    have iy := wr_len g.2.2 b.2
    have e : (Tm.either x y).sz.p = 1 + (x.sz.p + y.sz.p) := szOf2_p (lo := 0) (co := 0)
    show (((Str.ofString "(") ++ wr x ++ (Str.ofString " or ") ++ wr y ++ (Str.ofString ")")).length : Int) ≤ _
    rw [e, cat_len, cat_len, cat_len, cat_len]
    omega
  | .later x y, g, b => by
    obtain ⟨l1, l2, l3, l4, l5, l6, l7, l8, l9, _⟩ := lits
    have ix := wr_len g.2.1 b.1
    have iy := wr_len g.2.2 b.2
    have e : (Tm.later x y).sz.p = 1 + (x.sz.p + y.sz.p) := szOf2_p (lo := 0) (co := 1)
    show (((Str.ofString "later") ++ (Str.ofString "(") ++ wr x ++ (Str.ofString ", ") ++ wr y ++ (Str.ofString ")")).length : Int) ≤ _
    rw [e, cat_len, cat_len, cat_len, cat_len, cat_len]
    omega
  | .earlier x y, g, b => by
    obtain ⟨l1, l2, l3, l4, l5, l6, l7, l8, l9, _⟩ := lits
    have ix := wr_len g.2.1 b.1
    have iy := wr_len g.2.2 b.2
    have e : (Tm.earlier x y).sz.p = 1 + (x.sz.p + y.sz.p) := szOf2_p (lo := 0) (co := 1)
    show (((Str.ofString "earlier") ++ (Str.ofString "(") ++ wr x ++ (Str.ofString ", ") ++ wr y ++ (Str.ofString ")")).length : Int) ≤ _
    rw [e, cat_len, cat_len, cat_len, cat_len, cat_len]
    omega
theorem sml {n : Nat} (h : n ≤ 10000) : n ≤ sizeLine := Nat.le_trans h (by decide)
section
variable {P : Program} {w : World} {K : Fg} {mg : Str → Option Value} {base : Heap} {A : CA} {ks : Kd → Bool} {CW : Addr}
def spWNum : Sp := fun vs H Q _ => ∃ i : Int, vs = [.int i] ∧ 0 ≤ i ∧ i < 10 ^ 60 ∧ Q (.str (numS i)) H
theorem log_small {i : Int} (h0 : 0 ≤ i) (h : i < 10 ^ 60) : i.natAbs.log2 < 1920 := by
  have e : i.natAbs < 2 ^ 1920 := Nat.lt_of_lt_of_le (m := 10 ^ 60) (by omega) (by decide +kernel)
  by_cases z : i.natAbs = 0
  · rw [z]; decide
  · exact (Nat.log2_lt z).mpr e
section
variable {X : Cx} {p pos : Pos} {e : Expr} {es : List Expr} {t : TA}
theorem pc_strc (T : Tx X.K X.mg) (ha : PA X (e :: es) t) (hg : Gl X "str" := by rfl) (he : starEach (e :: es) X.env = (false, eval e X.env) :: starEach es X.env := by rfl) (hpl : (backTo pos (starEach es X.env)).any (·.1) = false := by rfl) :
    PE X (.Call (.Name "str" p) (e :: es) [] pos) (tCB (fun xs H Q => ∃ i, xs = [.int i] ∧ i.natAbs.log2 < 1920 ∧ Q (.str (numS i)) H) t) := pe_callTy call_str_int hg T.str (by decide +kernel) ha (he := he) (hpl := hpl)
end
theorem ok_written_number (D : Df K mg "written_number" "written_number" s_written_number p_written_number) (T : Tx K mg) (gB : ∃ t, mg "BEYOND_DIGITS" = some (.int (10 ^ 60) t)) : Cal P w K mg base CX0 "written_number" 1 spWNum := by
  refine D.cal fun f fd F => F.ok sc_written_number (fun vs H Q E h => ?_) (fun cdv A' outer s H vs Q E hr h => ?_)
  · obtain ⟨i, rfl, _⟩ := h; rfl
  · obtain ⟨i, rfl, h0, h1, q⟩ := h
    obtain ⟨tB, g_BEYOND_DIGITS⟩ := gB
    refine ⟨_, (pss_cons (ps_if (pt_cmpR op_ge (pv 0) (pe_glob rfl g_BEYOND_DIGITS rel_i) (nomark _))
        (pss_one ps_never)
        pss_nil)
      (pss_one (ps_ret (pc_strc T (pa_cons (pv 0) pa_nil))))), ?_⟩
    refine ⟨_, rfl, _, _, rfl, rfl, _, rfl, ?_⟩
    rw [decide_eq_false (by omega : ¬ ((10 : Int) ^ 60 ≤ i))]
    exact iteF ⟨_, rfl, i, rfl, log_small h0 h1, q⟩
def spWrt (A : CA) (ks : Kd → Bool) (n : Nat) : Sp := fun vs H Q _ => ∃ a t, vs = [.ref a] ∧ TermAt A H t a ∧ Good ks t ∧ Bd (10 ^ 60 - 1) t ∧ t.sz.d < (n : Int) ∧ t.sz.p ≤ 40 ∧ Q (.str (wr t)) H
theorem ok_written (D : Df K mg "written" "written" s_written p_written) (T : Tx K mg) (TT : TTx K mg A ks) (hk : ∀ k, ks k = true) (hA : mg "abs" = none) (kk : ∀ k k', PySem.W.kitOne K (.ref (A.cls k)) (.ref (A.cls k')) = some (decide (k = k'))) (g_Now : mg "Now" = some (.ref (A.cls .now))) (g_Shift : mg "Shift" = some (.ref (A.cls .shift))) (g_Look : mg "Look" = some (.ref (A.cls .look))) (g_Either : mg "Either" = some (.ref (A.cls .either))) (g_Later : mg "Later" = some (.ref (A.cls .later))) (gB : ∃ a, mg "BACKWARD" = some (.ref a) ∧ TupK K a ["at", "before"]) (gL : ∃ t, mg "LIMITED" = some (.str (Str.ofString "within ") t)) (c_written_number : Cal P w K mg base CX0 "written_number" 1 spWNum) : ∀ n, Cal P w K mg base CX0 "written" (n + 3) (spWrt A ks n) := by
  intro n
  induction n with
  | zero =>
    refine D.cal fun f fd F => F.ok sc_written (fun vs H Q E h => ?_) (fun cdv A' outer s H vs Q E hr h => ?_)
    · obtain ⟨a, t, rfl, _⟩ := h; rfl
    · obtain ⟨a, t, rfl, _, _, _, lt, _⟩ := h
      exact absurd lt (by have := t.d_pos; omega)
  | succ n c_written =>
    refine D.cal fun f fd F => F.ok sc_written (fun vs H Q E h => ?_) (fun cdv A' outer s H vs Q E hr h => ?_)
    · obtain ⟨a, t, rfl, _⟩ := h; rfl
    · obtain ⟨a, t, rfl, ht, gd, bd, lt, pt, q⟩ := h
      obtain ⟨aB, g_BACKWARD, tB⟩ := gB
      obtain ⟨tL, g_LIMITED⟩ := gL
      refine ⟨_, (pss_cons (ps_if (pt_val (pc_isi T (pa_cons (pv 0) (pa_cons (pe_glob rfl g_Now rel_r) pa_nil))))
        (pss_one (ps_ret pe_str))
        pss_nil)
      (pss_cons (ps_if (pt_val (pc_isi T (pa_cons (pv 0) (pa_cons (pe_glob rfl g_Shift rel_r) pa_nil))))
        (pss_cons (ps_set (i := 1) sc_written.nd rfl (Or.inl rfl) (pe_ifExp (pt_cmpR op_gt (pe_fld (pv 0) rfl) pe_int (nomark _)) pe_str pe_str))
        (pss_one (ps_ret (pe_joined (.cons pe_str (.cons (pe_fmt (pc c_written hr (by omega) (pa_cons (pe_fld (pv 0) rfl) pa_nil))) (.cons pe_str (.cons (pe_fmt (pv 1)) (.cons pe_str (.cons (pe_fmt (pc c_written_number hr (by omega) (pa_cons (pc_abs hA (pa_cons (pe_fld (pv 0) rfl) pa_nil)) pa_nil))) (.cons pe_str .nil)))))))))))
        pss_nil)
      (pss_cons (ps_if (pt_val (pc_isi T (pa_cons (pv 0) (pa_cons (pe_glob rfl g_Look rel_r) pa_nil))))
        (pss_cons (ps_set (i := 2) sc_written.nd rfl (Or.inl rfl) (pe_ifExp (pt_cmpR op_in_seq (pe_fld (pv 0) rfl) (pe_glob rfl g_BACKWARD rel_r) (by rfl)) pe_str pe_str))
        (pss_cons (ps_set (i := 3) sc_written.nd rfl (Or.inl rfl) (pe_ifExp (pt_cmpR op_isN (pe_fld (pv 0) rfl) pe_non (nomark _)) pe_str (pe_joined (.cons pe_str (.cons (pe_fmt (pe_glob rfl g_LIMITED rel_s)) (.cons (pe_fmt (pc c_written_number hr (by omega) (pa_cons (pe_fld (pv 0) rfl) pa_nil))) .nil))))))
        (pss_one (ps_ret (pe_joined (.cons (pe_fmt (pv 2)) (.cons pe_str (.cons (pe_fmt (pe_fld (pv 0) rfl)) (.cons (pe_fmt (pv 3)) (.cons pe_str (.cons (pe_fmt (pe_fld (pv 0) rfl)) (.cons pe_str (.cons (pe_fmt (pc c_written hr (by omega) (pa_cons (pe_fld (pv 0) rfl) pa_nil))) .nil)))))))))))))
        pss_nil)
      (pss_cons (ps_set (i := 4) sc_written.nd rfl (Or.inl rfl) (pc c_written hr (by omega) (pa_cons (pe_fld (pv 0) rfl) pa_nil)))
      (pss_cons (ps_set (i := 5) sc_written.nd rfl (Or.inl rfl) (pc c_written hr (by omega) (pa_cons (pe_fld (pv 0) rfl) pa_nil)))
      (pss_cons (ps_if (pt_val (pc_isi T (pa_cons (pv 0) (pa_cons (pe_glob rfl g_Either rel_r) pa_nil))))
        (pss_one (ps_ret (pe_joined (.cons pe_str (.cons (pe_fmt (pv 4)) (.cons pe_str (.cons (pe_fmt (pv 5)) (.cons pe_str .nil))))))))
        pss_nil)
      (pss_cons (ps_set (i := 2) sc_written.nd rfl (Or.inl rfl) (pe_ifExp (pt_val (pc_isi T (pa_cons (pv 0) (pa_cons (pe_glob rfl g_Later rel_r) pa_nil)))) pe_str pe_str))
      (pss_one (ps_ret (pe_joined (.cons (pe_fmt (pv 2)) (.cons pe_str (.cons (pe_fmt (pv 4)) (.cons pe_str (.cons (pe_fmt (pv 5)) (.cons pe_str .nil)))))))))))))))), ?_⟩
      have wl := wr_len gd bd
      obtain ⟨l1, l2, l3, l4, l5, l6, l7, l8, l9, l10, l11, l12⟩ := lits
      have l0 : Str.empty.length = 0 := rfl
      cases t with
      | now =>
        obtain ⟨dx, ch, h1, _⟩ := id ht
        have KX := TT.at_ .now (hk _)
        exact ⟨_, rfl, _, _, _, _, true, rfl, .own _, KX.isi.ty KX.cl.cl h1, (kk .now .now).trans (by rfl), _, rfl, iteT q⟩
      | shift m c =>
        obtain ⟨dx, ch, ma, h1, h2, h3⟩ := id ht
        have KX := TT.at_ .shift (hk _)
        have e : (Tm.shift m c).sz.p = 1 + m.sz.p := szOf1_p (lo := 0) (co := 0)
        have ed : (Tm.shift m c).sz.d = 1 + m.sz.d := szOf1_d (lo := 0) (co := 0)
        have wm := wr_len gd.2.1 bd.2.2
        have b1 := bd.1
        have b2 := bd.2.1
        have hn : (numS (if c < 0 then -c else c)).length ≤ 60 := numS_len (by split <;> omega) (by split <;> omega)
        refine ⟨_, rfl, _, _, _, _, false, rfl, .own _, KX.isi.ty KX.cl.cl h1, (kk .shift .now).trans (by rfl), _, rfl, iteF ?_⟩
        refine ⟨_, rfl, _, _, _, _, true, rfl, .own _, KX.isi.ty KX.cl.cl h1, (kk .shift .shift).trans (by rfl), _, rfl, iteT ?_⟩
        refine ⟨_, rfl, a, _, dx, _, _, rfl, h1, KX.cl.cl, KX.no _ (by decide +kernel), sh_amt, _, _, rfl, rfl, _, rfl, ite2 (fun z => ?_) (fun z => ?_)⟩
        · have es : (if 0 < c then (Str.ofString "+") else (Str.ofString "-")) = Str.ofString "+" := if_pos (by simpa using z)
          refine ⟨_, rfl, (sml (by simp only [cat_len]; omega)), _, rfl, a, _, dx, _, _, rfl, h1, KX.cl.cl, KX.no _ (by decide +kernel), sh_mom, ma, m, rfl, h3, gd.2.1, bd.2.2, by omega, by omega, .inl ⟨_, rfl, sml (by omega), _, rfl, (sml (by simp only [cat_len]; omega)), _, rfl, (sml (by simp only [cat_len]; omega)), _, rfl, .inl ⟨_, rfl, sml (by omega), _, rfl, (sml (by simp only [cat_len]; omega)), _, rfl, (sml (by simp only [cat_len]; omega)), ?_⟩⟩⟩
          refine ⟨_, rfl, a, _, dx, _, _, rfl, h1, KX.cl.cl, KX.no _ (by decide +kernel), sh_amt, _, rfl, _, rfl, by split <;> omega, by split <;> omega, .inl ⟨_, rfl, sml (by omega), _, rfl, (sml (by simp only [cat_len]; omega)), _, rfl, (sml (by simp only [cat_len]; omega)), ?_⟩⟩
          have et : wr (.shift m c) = Str.ofString "(" ++ wr m ++ Str.ofString " " ++ Str.ofString "+" ++ Str.ofString " " ++ numS (if c < 0 then -c else c) ++ Str.ofString ")" := by rw [← es]; rfl
          rw [et] at q
          rw [cat_e]
          exact q
        · have es : (if 0 < c then (Str.ofString "+") else (Str.ofString "-")) = Str.ofString "-" := if_neg (by simpa using z)
          refine ⟨_, rfl, (sml (by simp only [cat_len]; omega)), _, rfl, a, _, dx, _, _, rfl, h1, KX.cl.cl, KX.no _ (by decide +kernel), sh_mom, ma, m, rfl, h3, gd.2.1, bd.2.2, by omega, by omega, .inl ⟨_, rfl, sml (by omega), _, rfl, (sml (by simp only [cat_len]; omega)), _, rfl, (sml (by simp only [cat_len]; omega)), _, rfl, .inl ⟨_, rfl, sml (by omega), _, rfl, (sml (by simp only [cat_len]; omega)), _, rfl, (sml (by simp only [cat_len]; omega)), ?_⟩⟩⟩
          refine ⟨_, rfl, a, _, dx, _, _, rfl, h1, KX.cl.cl, KX.no _ (by decide +kernel), sh_amt, _, rfl, _, rfl, by split <;> omega, by split <;> omega, .inl ⟨_, rfl, sml (by omega), _, rfl, (sml (by simp only [cat_len]; omega)), _, rfl, (sml (by simp only [cat_len]; omega)), ?_⟩⟩
          have et : wr (.shift m c) = Str.ofString "(" ++ wr m ++ Str.ofString " " ++ Str.ofString "-" ++ Str.ofString " " ++ numS (if c < 0 then -c else c) ++ Str.ofString ")" := by rw [← es]; rfl
          rw [et] at q
          rw [cat_e]
          exact q
      | look z m wy lim =>
        obtain ⟨dx, ch, ma, h1, h2, h3⟩ := id ht
        have KX := TT.at_ .look (hk _)
        have e : (Tm.look z m wy lim).sz.p = 1 + m.sz.p := szOf1_p (lo := 1) (co := 1)
        have ed : (Tm.look z m wy lim).sz.d = 1 + m.sz.d := szOf1_d (lo := 1) (co := 1)
        have wm := wr_len gd.2.1 bd.2
        have hz := gd.2.2.1.hi
        have hw := way_len gd.2.2.2.1
        have hf := far_len gd.2.2.2.2 (fun i h => by have := bd.1 i h; omega)
        have hd := word_len (wy := wy)
        have bk : (if wy ∈ ([Str.ofString "at", Str.ofString "before"] : List Str) then Str.ofString "last" else Str.ofString "next") = wordS wy := rfl
        have wsp : Str.ofString " " ++ Str.ofString "within " = Str.ofString " within " := by decide +kernel
        have lw : (Str.ofString "within ").length = 7 := by decide +kernel
        refine ⟨_, rfl, _, _, _, _, false, rfl, .own _, KX.isi.ty KX.cl.cl h1, (kk .look .now).trans (by rfl), _, rfl, iteF ?_⟩
        refine ⟨_, rfl, _, _, _, _, false, rfl, .own _, KX.isi.ty KX.cl.cl h1, (kk .look .shift).trans (by rfl), _, rfl, iteF ?_⟩
        refine ⟨_, rfl, _, _, _, _, true, rfl, .own _, KX.isi.ty KX.cl.cl h1, (kk .look .look).trans (by rfl), _, rfl, iteT ?_⟩
        refine ⟨_, rfl, a, _, dx, _, _, rfl, h1, KX.cl.cl, KX.no _ (by decide +kernel), lk_way, aB, _, rfl, .inr (tB.sq _), rfl, flat_str, _, rfl, ?_⟩
        rw [inV_str]
        refine ite2 (fun zb => ?_) (fun zb => ?_)
        · rw [show wordS wy = Str.ofString "last" from if_pos (of_decide_eq_true zb)] at hd
          have et : wr (.look z m wy lim) = Str.ofString "last" ++ Str.ofString " " ++ z ++ farS lim ++ Str.ofString " " ++ wy ++ Str.ofString " " ++ wr m := by rw [← show wordS wy = Str.ofString "last" from if_pos (of_decide_eq_true zb)]; rfl
          rw [et] at q
          cases lim with
          | none =>
            refine ⟨_, rfl, a, _, dx, _, _, rfl, h1, KX.cl.cl, KX.no _ (by decide +kernel), lk_lim, rfl, _, rfl, ite_t (decide_eq_true rfl) ?_⟩
            refine ⟨_, rfl, .inl ⟨_, rfl, sml (by omega), _, rfl, (sml (by simp only [cat_len]; omega)), _, rfl, (sml (by simp only [cat_len]; omega)), _, rfl, a, _, dx, _, _, rfl, h1, KX.cl.cl, KX.no _ (by decide +kernel), lk_str, .inl ⟨_, rfl, sml (by omega), _, rfl, (sml (by simp only [cat_len]; omega)), _, rfl, .inl ⟨_, rfl, sml (by omega), _, rfl, (sml (by simp only [cat_len]; omega)), _, rfl, (sml (by simp only [cat_len]; omega)), _, rfl, a, _, dx, _, _, rfl, h1, KX.cl.cl, KX.no _ (by decide +kernel), lk_way, .inl ⟨_, rfl, sml (by omega), _, rfl, (sml (by simp only [cat_len]; omega)), _, rfl, (sml (by simp only [cat_len]; omega)), ?_⟩⟩⟩⟩⟩
            refine ⟨_, rfl, a, _, dx, _, _, rfl, h1, KX.cl.cl, KX.no _ (by decide +kernel), lk_mom, ma, m, rfl, h3, gd.2.1, bd.2, by omega, by omega, .inl ⟨_, rfl, sml (by omega), _, rfl, (sml (by simp only [cat_len]; omega)), ?_⟩⟩
            rw [cat_e]
            exact q
          | some i =>
            have i0 := gd.2.2.2.2 i rfl
            have i1 := bd.1 i rfl
            have hn : (numS i).length ≤ 60 := numS_len i0 (by omega)
            have hfe : farS (some i) = Str.ofString " within " ++ numS i := rfl
            refine ⟨_, rfl, a, _, dx, _, _, rfl, h1, KX.cl.cl, KX.no _ (by decide +kernel), lk_lim, rfl, _, rfl, ite_f (decide_eq_false (fun z => by cases z)) ?_⟩
            refine ⟨_, rfl, (sml (by simp only [cat_len]; omega)), .inl ⟨_, rfl, sml (by omega), _, rfl, (sml (by simp only [cat_len]; omega)), _, rfl, a, _, dx, _, _, rfl, h1, KX.cl.cl, KX.no _ (by decide +kernel), lk_lim, i, rfl, i0, by omega, .inl ⟨_, rfl, sml (by omega), _, rfl, (sml (by simp only [cat_len]; omega)), ?_⟩⟩⟩
            rw [cat_e, wsp]
            rw [hfe] at hf q
            rw [cat_len] at hf
            refine ⟨_, rfl, .inl ⟨_, rfl, sml (by omega), _, rfl, (sml (by simp only [cat_len]; omega)), _, rfl, (sml (by simp only [cat_len]; omega)), _, rfl, a, _, dx, _, _, rfl, h1, KX.cl.cl, KX.no _ (by decide +kernel), lk_str, .inl ⟨_, rfl, sml (by omega), _, rfl, (sml (by simp only [cat_len]; omega)), _, rfl, .inl ⟨_, rfl, sml (by simp only [cat_len]; omega), _, rfl, (sml (by simp only [cat_len]; omega)), _, rfl, (sml (by simp only [cat_len]; omega)), _, rfl, a, _, dx, _, _, rfl, h1, KX.cl.cl, KX.no _ (by decide +kernel), lk_way, .inl ⟨_, rfl, sml (by omega), _, rfl, (sml (by simp only [cat_len]; omega)), _, rfl, (sml (by simp only [cat_len]; omega)), ?_⟩⟩⟩⟩⟩
            refine ⟨_, rfl, a, _, dx, _, _, rfl, h1, KX.cl.cl, KX.no _ (by decide +kernel), lk_mom, ma, m, rfl, h3, gd.2.1, bd.2, by omega, by omega, .inl ⟨_, rfl, sml (by omega), _, rfl, (sml (by simp only [cat_len]; omega)), ?_⟩⟩
            rw [cat_e]
            exact q
        · rw [show wordS wy = Str.ofString "next" from if_neg (fun y => zb (decide_eq_true y))] at hd
          have et : wr (.look z m wy lim) = Str.ofString "next" ++ Str.ofString " " ++ z ++ farS lim ++ Str.ofString " " ++ wy ++ Str.ofString " " ++ wr m := by rw [← show wordS wy = Str.ofString "next" from if_neg (fun y => zb (decide_eq_true y))]; rfl
          rw [et] at q
          cases lim with
          | none =>
            refine ⟨_, rfl, a, _, dx, _, _, rfl, h1, KX.cl.cl, KX.no _ (by decide +kernel), lk_lim, rfl, _, rfl, ite_t (decide_eq_true rfl) ?_⟩
            refine ⟨_, rfl, .inl ⟨_, rfl, sml (by omega), _, rfl, (sml (by simp only [cat_len]; omega)), _, rfl, (sml (by simp only [cat_len]; omega)), _, rfl, a, _, dx, _, _, rfl, h1, KX.cl.cl, KX.no _ (by decide +kernel), lk_str, .inl ⟨_, rfl, sml (by omega), _, rfl, (sml (by simp only [cat_len]; omega)), _, rfl, .inl ⟨_, rfl, sml (by omega), _, rfl, (sml (by simp only [cat_len]; omega)), _, rfl, (sml (by simp only [cat_len]; omega)), _, rfl, a, _, dx, _, _, rfl, h1, KX.cl.cl, KX.no _ (by decide +kernel), lk_way, .inl ⟨_, rfl, sml (by omega), _, rfl, (sml (by simp only [cat_len]; omega)), _, rfl, (sml (by simp only [cat_len]; omega)), ?_⟩⟩⟩⟩⟩
            refine ⟨_, rfl, a, _, dx, _, _, rfl, h1, KX.cl.cl, KX.no _ (by decide +kernel), lk_mom, ma, m, rfl, h3, gd.2.1, bd.2, by omega, by omega, .inl ⟨_, rfl, sml (by omega), _, rfl, (sml (by simp only [cat_len]; omega)), ?_⟩⟩
            rw [cat_e]
            exact q
          | some i =>
            have i0 := gd.2.2.2.2 i rfl
            have i1 := bd.1 i rfl
            have hn : (numS i).length ≤ 60 := numS_len i0 (by omega)
            have hfe : farS (some i) = Str.ofString " within " ++ numS i := rfl
            refine ⟨_, rfl, a, _, dx, _, _, rfl, h1, KX.cl.cl, KX.no _ (by decide +kernel), lk_lim, rfl, _, rfl, ite_f (decide_eq_false (fun z => by cases z)) ?_⟩
            refine ⟨_, rfl, (sml (by simp only [cat_len]; omega)), .inl ⟨_, rfl, sml (by omega), _, rfl, (sml (by simp only [cat_len]; omega)), _, rfl, a, _, dx, _, _, rfl, h1, KX.cl.cl, KX.no _ (by decide +kernel), lk_lim, i, rfl, i0, by omega, .inl ⟨_, rfl, sml (by omega), _, rfl, (sml (by simp only [cat_len]; omega)), ?_⟩⟩⟩
            rw [cat_e, wsp]
            rw [hfe] at hf q
            rw [cat_len] at hf
            refine ⟨_, rfl, .inl ⟨_, rfl, sml (by omega), _, rfl, (sml (by simp only [cat_len]; omega)), _, rfl, (sml (by simp only [cat_len]; omega)), _, rfl, a, _, dx, _, _, rfl, h1, KX.cl.cl, KX.no _ (by decide +kernel), lk_str, .inl ⟨_, rfl, sml (by omega), _, rfl, (sml (by simp only [cat_len]; omega)), _, rfl, .inl ⟨_, rfl, sml (by simp only [cat_len]; omega), _, rfl, (sml (by simp only [cat_len]; omega)), _, rfl, (sml (by simp only [cat_len]; omega)), _, rfl, a, _, dx, _, _, rfl, h1, KX.cl.cl, KX.no _ (by decide +kernel), lk_way, .inl ⟨_, rfl, sml (by omega), _, rfl, (sml (by simp only [cat_len]; omega)), _, rfl, (sml (by simp only [cat_len]; omega)), ?_⟩⟩⟩⟩⟩
            refine ⟨_, rfl, a, _, dx, _, _, rfl, h1, KX.cl.cl, KX.no _ (by decide +kernel), lk_mom, ma, m, rfl, h3, gd.2.1, bd.2, by omega, by omega, .inl ⟨_, rfl, sml (by omega), _, rfl, (sml (by simp only [cat_len]; omega)), ?_⟩⟩
            rw [cat_e]
            exact q
      | either x y =>
        obtain ⟨dx, ch, xa, ya, h1, h2, h3, h4⟩ := id ht
        have KX := TT.at_ .either (hk _)
        have e : (Tm.either x y).sz.p = 1 + (x.sz.p + y.sz.p) := szOf2_p (lo := 0) (co := 0)
        have ed : x.sz.d < (Tm.either x y).sz.d ∧ y.sz.d < (Tm.either x y).sz.d := by
          have : (Tm.either x y).sz.d = _ := szOf2_d (lo := 0) (co := 0)
          omega
        have wx := wr_len gd.2.1 bd.1
        have wy := wr_len gd.2.2 bd.2
        have px := x.p_pos
        have py := y.p_pos
        refine ⟨_, rfl, _, _, _, _, false, rfl, .own _, KX.isi.ty KX.cl.cl h1, (kk .either .now).trans (by rfl), _, rfl, iteF ?_⟩
        refine ⟨_, rfl, _, _, _, _, false, rfl, .own _, KX.isi.ty KX.cl.cl h1, (kk .either .shift).trans (by rfl), _, rfl, iteF ?_⟩
        refine ⟨_, rfl, _, _, _, _, false, rfl, .own _, KX.isi.ty KX.cl.cl h1, (kk .either .look).trans (by rfl), _, rfl, iteF ?_⟩
        refine ⟨_, rfl, a, _, dx, _, _, rfl, h1, KX.cl.cl, KX.no _ (by decide +kernel), bi_fst, xa, x, rfl, h3, gd.2.1, bd.1, by omega, by omega, ?_⟩
        refine ⟨_, rfl, a, _, dx, _, _, rfl, h1, KX.cl.cl, KX.no _ (by decide +kernel), bi_snd, ya, y, rfl, h4, gd.2.2, bd.2, by omega, by omega, ?_⟩
        refine ⟨_, rfl, _, _, _, _, true, rfl, .own _, KX.isi.ty KX.cl.cl h1, (kk .either .either).trans (by rfl), _, rfl, iteT ?_⟩
        refine ⟨_, rfl, (sml (by simp only [cat_len]; omega)), _, rfl, .inl ⟨_, rfl, sml (by omega), _, rfl, (sml (by simp only [cat_len]; omega)), _, rfl, (sml (by simp only [cat_len]; omega)), _, rfl, .inl ⟨_, rfl, sml (by omega), _, rfl, (sml (by simp only [cat_len]; omega)), _, rfl, (sml (by simp only [cat_len]; omega)), ?_⟩⟩⟩
        rw [cat_e]
        exact q
      | later x y =>
        obtain ⟨dx, ch, xa, ya, h1, h2, h3, h4⟩ := id ht
        have KX := TT.at_ .later (hk _)
        have e : (Tm.later x y).sz.p = 1 + (x.sz.p + y.sz.p) := szOf2_p (lo := 0) (co := 1)
        have ed : x.sz.d < (Tm.later x y).sz.d ∧ y.sz.d < (Tm.later x y).sz.d := by
          have : (Tm.later x y).sz.d = _ := szOf2_d (lo := 0) (co := 1)
          omega
        have wx := wr_len gd.2.1 bd.1
        have wy := wr_len gd.2.2 bd.2
        have px := x.p_pos
        have py := y.p_pos
        refine ⟨_, rfl, _, _, _, _, false, rfl, .own _, KX.isi.ty KX.cl.cl h1, (kk .later .now).trans (by rfl), _, rfl, iteF ?_⟩
        refine ⟨_, rfl, _, _, _, _, false, rfl, .own _, KX.isi.ty KX.cl.cl h1, (kk .later .shift).trans (by rfl), _, rfl, iteF ?_⟩
        refine ⟨_, rfl, _, _, _, _, false, rfl, .own _, KX.isi.ty KX.cl.cl h1, (kk .later .look).trans (by rfl), _, rfl, iteF ?_⟩
        refine ⟨_, rfl, a, _, dx, _, _, rfl, h1, KX.cl.cl, KX.no _ (by decide +kernel), bi_fst, xa, x, rfl, h3, gd.2.1, bd.1, by omega, by omega, ?_⟩
        refine ⟨_, rfl, a, _, dx, _, _, rfl, h1, KX.cl.cl, KX.no _ (by decide +kernel), bi_snd, ya, y, rfl, h4, gd.2.2, bd.2, by omega, by omega, ?_⟩
        refine ⟨_, rfl, _, _, _, _, false, rfl, .own _, KX.isi.ty KX.cl.cl h1, (kk .later .either).trans (by rfl), _, rfl, iteF ?_⟩
        refine ⟨_, rfl, _, _, _, _, true, rfl, .own _, KX.isi.ty KX.cl.cl h1, (kk .later .later).trans (by rfl), _, rfl, iteT ?_⟩
        refine ⟨_, rfl, .inl ⟨_, rfl, sml (by omega), _, rfl, (sml (by simp only [cat_len]; omega)), _, rfl, (sml (by simp only [cat_len]; omega)), _, rfl, .inl ⟨_, rfl, sml (by omega), _, rfl, (sml (by simp only [cat_len]; omega)), _, rfl, (sml (by simp only [cat_len]; omega)), _, rfl, .inl ⟨_, rfl, sml (by omega), _, rfl, (sml (by simp only [cat_len]; omega)), _, rfl, (sml (by simp only [cat_len]; omega)), ?_⟩⟩⟩⟩
        rw [cat_e]
        exact q
      | earlier x y =>
        obtain ⟨dx, ch, xa, ya, h1, h2, h3, h4⟩ := id ht
        have KX := TT.at_ .earlier (hk _)
        have e : (Tm.earlier x y).sz.p = 1 + (x.sz.p + y.sz.p) := szOf2_p (lo := 0) (co := 1)
        have ed : x.sz.d < (Tm.earlier x y).sz.d ∧ y.sz.d < (Tm.earlier x y).sz.d := by
          have : (Tm.earlier x y).sz.d = _ := szOf2_d (lo := 0) (co := 1)
          omega
        have wx := wr_len gd.2.1 bd.1
        have wy := wr_len gd.2.2 bd.2
        have px := x.p_pos
        have py := y.p_pos
        refine ⟨_, rfl, _, _, _, _, false, rfl, .own _, KX.isi.ty KX.cl.cl h1, (kk .earlier .now).trans (by rfl), _, rfl, iteF ?_⟩
        refine ⟨_, rfl, _, _, _, _, false, rfl, .own _, KX.isi.ty KX.cl.cl h1, (kk .earlier .shift).trans (by rfl), _, rfl, iteF ?_⟩
        refine ⟨_, rfl, _, _, _, _, false, rfl, .own _, KX.isi.ty KX.cl.cl h1, (kk .earlier .look).trans (by rfl), _, rfl, iteF ?_⟩
        refine ⟨_, rfl, a, _, dx, _, _, rfl, h1, KX.cl.cl, KX.no _ (by decide +kernel), bi_fst, xa, x, rfl, h3, gd.2.1, bd.1, by omega, by omega, ?_⟩
        refine ⟨_, rfl, a, _, dx, _, _, rfl, h1, KX.cl.cl, KX.no _ (by decide +kernel), bi_snd, ya, y, rfl, h4, gd.2.2, bd.2, by omega, by omega, ?_⟩
        refine ⟨_, rfl, _, _, _, _, false, rfl, .own _, KX.isi.ty KX.cl.cl h1, (kk .earlier .either).trans (by rfl), _, rfl, iteF ?_⟩
        refine ⟨_, rfl, _, _, _, _, false, rfl, .own _, KX.isi.ty KX.cl.cl h1, (kk .earlier .later).trans (by rfl), _, rfl, iteF ?_⟩
        refine ⟨_, rfl, .inl ⟨_, rfl, sml (by omega), _, rfl, (sml (by simp only [cat_len]; omega)), _, rfl, (sml (by simp only [cat_len]; omega)), _, rfl, .inl ⟨_, rfl, sml (by omega), _, rfl, (sml (by simp only [cat_len]; omega)), _, rfl, (sml (by simp only [cat_len]; omega)), _, rfl, .inl ⟨_, rfl, sml (by omega), _, rfl, (sml (by simp only [cat_len]; omega)), _, rfl, (sml (by simp only [cat_len]; omega)), ?_⟩⟩⟩⟩
        rw [cat_e]
        exact q
def spSpel (A : CA) (ks : Kd → Bool) (n : Nat) : Sp := spWrt A ks n
theorem ok_spelled (D : Df K mg "spelled" "spelled" s_spelled p_spelled) {n k : Nat} (hn : k ≤ n) (h1 : 1 ≤ n) (c_check_term : Cal P w K mg base CX0 "check_term" 1 (spChkT A ks)) (c_written : Cal P w K mg base CX0 "written" k (spWrt A ks 13)) : Cal P w K mg base CX0 "spelled" (n + 1) (spWrt A ks 13) := by
  refine D.cal fun f fd F => F.ok sc_spelled (fun vs H Q E h => ?_) (fun cdv A' outer s H vs Q E hr h => ?_)
  · obtain ⟨a, t, rfl, _⟩ := h; rfl
  · obtain ⟨a, t, rfl, ht, g, r⟩ := h
    refine ⟨_, (pss_cons (ps_expr (pc c_check_term hr (by omega) (pa_cons (pv 0) pa_nil)))
      (pss_one (ps_ret (pc c_written hr (by omega) (pa_cons (pv 0) pa_nil))))), ?_⟩
    exact ⟨_, rfl, a, t, rfl, ht, g.k, _, rfl, a, t, rfl, ht, g, r⟩
def spWrL (ks : Kd → Bool) (n : Nat) : Sp := fun vs H Q _ => ∃ a t, vs = [.ref a] ∧ TreeAt H t a ∧ Good ks t ∧ Bd (10 ^ 60 - 1) t ∧ t.sz.d < (n : Int) ∧ t.sz.p ≤ 40 ∧ Q (.str (wr t)) H
theorem ok__law_written (D : Df K mg "_law_written" "_law_written" s__law_written p__law_written) (T : Tx K mg) (hA : mg "abs" = none) : ∀ n, Cal P w K mg base CX0 "_law_written" (n + 1) (spWrL ks n) := by
  intro n
  induction n with
  | zero =>
    refine D.cal fun f fd F => F.ok sc__law_written (fun vs H Q E h => ?_) (fun cdv A' outer s H vs Q E hr h => ?_)
    · obtain ⟨a, t, rfl, _⟩ := h; rfl
    · obtain ⟨a, t, rfl, _, _, _, lt, _⟩ := h
      exact absurd lt (by have := t.d_pos; omega)
  | succ n c__law_written =>
    refine D.cal fun f fd F => F.ok sc__law_written (fun vs H Q E h => ?_) (fun cdv A' outer s H vs Q E hr h => ?_)
    · obtain ⟨a, t, rfl, _⟩ := h; rfl
    · obtain ⟨a, t, rfl, ht, gd, bd, lt, pt, q⟩ := h
      refine ⟨_, (pss_cons (ps_if (pt_cmpR op_eq (pe_ix ix_tup (pv 0) pe_int (fun _ _ => rfl)) pe_str (nomark _))
        (pss_one (ps_ret pe_str))
        pss_nil)
      (pss_cons (ps_if (pt_cmpR op_eq (pe_ix ix_tup (pv 0) pe_int (fun _ _ => rfl)) pe_str (nomark _))
        (pss_cons (ps_set (i := 1) sc__law_written.nd rfl (Or.inl rfl) (pe_ifExp (pt_cmpR op_ge (pe_ix ix_tup (pv 0) pe_int (fun _ _ => rfl)) pe_int (nomark _)) pe_str pe_str))
        (pss_one (ps_ret (pe_op op_add_str (pe_op op_add_str (pe_op op_add_str (pe_op op_add_str pe_str (pc c__law_written hr (by omega) (pa_cons (pe_ix ix_tup (pv 0) pe_int (fun _ _ => rfl)) pa_nil))) (pv 1)) (pc_strc T (pa_cons (pc_abs hA (pa_cons (pe_ix ix_tup (pv 0) pe_int (fun _ _ => rfl)) pa_nil)) pa_nil))) pe_str))))
        pss_nil)
      (pss_cons (ps_if (pt_cmpR op_eq (pe_ix ix_tup (pv 0) pe_int (fun _ _ => rfl)) pe_str (nomark _))
        (pss_cons (ps_set (i := 2) sc__law_written.nd rfl (Or.inl rfl) pe_str)
        (C8.pss_cut (ps_if (PW.pt (pw_or (pt_cmpR op_eq (pe_ix ix_tup (pv 0) pe_int (fun _ _ => rfl)) pe_str (nomark _)) (pw_or1 (pt_cmpR op_eq (pe_ix ix_tup (pv 0) pe_int (fun _ _ => rfl)) pe_str (nomark _)))))
          (pss_one (ps_set (i := 2) sc__law_written.nd rfl (Or.inl rfl) pe_str))
          pss_nil)
        (pss_cons (ps_set (i := 3) sc__law_written.nd rfl (Or.inl rfl) (pe_ifExp (pt_cmpR op_isN (pe_ix ix_tup (pv 0) pe_int (fun _ _ => rfl)) pe_non (nomark _)) pe_str (pe_op op_add_str pe_str (pc_strc T (pa_cons (pe_ix ix_tup (pv 0) pe_int (fun _ _ => rfl)) pa_nil)))))
        (pss_cons (ps_set (i := 2) sc__law_written.nd rfl (Or.inl rfl) (pe_op op_add_str (pe_op op_add_str (pe_op op_add_str (pv 2) (pe_ix ix_tup (pv 0) pe_int (fun _ _ => rfl))) (pv 3)) pe_str))
        (pss_one (ps_ret (pe_op op_add_str (pe_op op_add_str (pe_op op_add_str (pv 2) (pe_ix ix_tup (pv 0) pe_int (fun _ _ => rfl))) pe_str) (pc c__law_written hr (by omega) (pa_cons (pe_ix ix_tup (pv 0) pe_int (fun _ _ => rfl)) pa_nil)))))))))
        pss_nil)
      (pss_cons (ps_set (i := 4) sc__law_written.nd rfl (Or.inl rfl) (pc c__law_written hr (by omega) (pa_cons (pe_ix ix_tup (pv 0) pe_int (fun _ _ => rfl)) pa_nil)))
      (pss_cons (ps_set (i := 5) sc__law_written.nd rfl (Or.inl rfl) (pc c__law_written hr (by omega) (pa_cons (pe_ix ix_tup (pv 0) pe_int (fun _ _ => rfl)) pa_nil)))
      (pss_cons (ps_if (pt_cmpR op_eq (pe_ix ix_tup (pv 0) pe_int (fun _ _ => rfl)) pe_str (nomark _))
        (pss_one (ps_ret (pe_op op_add_str (pe_op op_add_str (pe_op op_add_str (pe_op op_add_str pe_str (pv 4)) pe_str) (pv 5)) pe_str)))
        pss_nil)
      (pss_one (ps_ret (pe_op op_add_str (pe_op op_add_str (pe_op op_add_str (pe_op op_add_str (pe_op op_add_str (pe_ix ix_tup (pv 0) pe_int (fun _ _ => rfl)) pe_str) (pv 4)) pe_str) (pv 5)) pe_str))))))))), ?_⟩
      have wl := wr_len gd bd
      obtain ⟨l1, l2, l3, l4, l5, l6, l7, l8, l9, l10, l11, l12⟩ := lits
      have no : ∀ {x y : Kd}, x ≠ y → decide (V.str x.tag = V.str y.tag) = false := fun h => decide_eq_false fun z => by injection z with z; exact tag_ne h z
      cases t with
      | now =>
        have h1 : H a = some (.tup [.str Kd.now.tag]) := ht
        exact ⟨_, rfl, a, _, 0, .str Kd.now.tag, rfl, rfl, SqT.of h1, rfl, rfl, _, rfl, ite_t (decide_eq_true rfl) q⟩
      | shift m c =>
        obtain ⟨ma, h1, hm⟩ := id ht
        have h1 : H a = some (.tup [.str Kd.shift.tag, .int c, .ref ma]) := h1
        have e : (Tm.shift m c).sz.p = 1 + m.sz.p := szOf1_p (lo := 0) (co := 0)
        have ed : (Tm.shift m c).sz.d = 1 + m.sz.d := szOf1_d (lo := 0) (co := 0)
        have wm := wr_len gd.2.1 bd.2.2
        have b1 := bd.1
        have b2 := bd.2.1
        have c0 := gd.2.2.1
        have hn : (numS (if c < 0 then -c else c)).length ≤ 60 := numS_len (by split <;> omega) (by split <;> omega)
        have lp : (Str.ofString " + ").length = 3 := by decide +kernel
        have lm : (Str.ofString " - ").length = 3 := by decide +kernel
        refine ⟨_, rfl, a, _, 0, .str Kd.shift.tag, rfl, rfl, SqT.of h1, rfl, rfl, _, rfl, ite_f (no (x := .shift) (y := .now) (by decide)) ?_⟩
        refine ⟨_, rfl, a, _, 0, .str Kd.shift.tag, rfl, rfl, SqT.of h1, rfl, rfl, _, rfl, ite_t (decide_eq_true rfl) ?_⟩
        refine ⟨_, rfl, a, _, 1, .int c, rfl, rfl, SqT.of h1, rfl, _, _, rfl, rfl, _, rfl, ite2 (fun z => ?_) (fun z => ?_)⟩
        · have es : (if 0 < c then (Str.ofString "+") else (Str.ofString "-")) = Str.ofString "+" := if_pos (by have := of_decide_eq_true z; omega)
          have sx : Str.ofString " + " = Str.ofString " " ++ Str.ofString "+" ++ Str.ofString " " := by decide +kernel
          refine ⟨_, rfl, a, _, 2, .ref ma, rfl, rfl, SqT.of h1, rfl, ma, m, rfl, hm, gd.2.1, bd.2.2, by omega, by omega, _, _, rfl, rfl, sml (by omega), _, rfl, _, _, rfl, rfl, sml (by (try simp only [cat_len]); omega), _, rfl, a, _, 1, .int c, rfl, rfl, SqT.of h1, rfl, _, rfl, _, rfl, log_small (by split <;> omega) (by split <;> omega), _, _, rfl, rfl, sml (by (try simp only [cat_len]); omega), _, _, rfl, rfl, sml (by (try simp only [cat_len]); omega), ?_⟩
          have et : wr (.shift m c) = Str.ofString "(" ++ wr m ++ Str.ofString " " ++ Str.ofString "+" ++ Str.ofString " " ++ numS (if c < 0 then -c else c) ++ Str.ofString ")" := by rw [← es]; rfl
          rw [et] at q
          rw [sx]
          simp only [cat_as] at q ⊢
          exact q
        · have es : (if 0 < c then (Str.ofString "+") else (Str.ofString "-")) = Str.ofString "-" := if_neg (fun y => z (decide_eq_true (by omega : (0 : Int) ≤ c)))
          have sx : Str.ofString " - " = Str.ofString " " ++ Str.ofString "-" ++ Str.ofString " " := by decide +kernel
          refine ⟨_, rfl, a, _, 2, .ref ma, rfl, rfl, SqT.of h1, rfl, ma, m, rfl, hm, gd.2.1, bd.2.2, by omega, by omega, _, _, rfl, rfl, sml (by omega), _, rfl, _, _, rfl, rfl, sml (by (try simp only [cat_len]); omega), _, rfl, a, _, 1, .int c, rfl, rfl, SqT.of h1, rfl, _, rfl, _, rfl, log_small (by split <;> omega) (by split <;> omega), _, _, rfl, rfl, sml (by (try simp only [cat_len]); omega), _, _, rfl, rfl, sml (by (try simp only [cat_len]); omega), ?_⟩
          have et : wr (.shift m c) = Str.ofString "(" ++ wr m ++ Str.ofString " " ++ Str.ofString "-" ++ Str.ofString " " ++ numS (if c < 0 then -c else c) ++ Str.ofString ")" := by rw [← es]; rfl
          rw [et] at q
          rw [sx]
          simp only [cat_as] at q ⊢
          exact q
      | look z m wy lim =>
        obtain ⟨ma, h1, hm⟩ := id ht
        have h1 : H a = some (.tup [.str Kd.look.tag, .str z, .str wy, limV lim, .ref ma]) := h1
        have e : (Tm.look z m wy lim).sz.p = 1 + m.sz.p := szOf1_p (lo := 1) (co := 1)
        have ed : (Tm.look z m wy lim).sz.d = 1 + m.sz.d := szOf1_d (lo := 1) (co := 1)
        have wm := wr_len gd.2.1 bd.2
        have hz := gd.2.2.1.hi
        have hw := way_len gd.2.2.2.1
        have hf := far_len gd.2.2.2.2 (fun i h => by have := bd.1 i h; omega)
        have hd := word_len (wy := wy)
        have w1 : Str.ofString "last " = Str.ofString "last" ++ Str.ofString " " := by decide +kernel
        have w2 : Str.ofString "next " = Str.ofString "next" ++ Str.ofString " " := by decide +kernel
        refine ⟨_, rfl, a, _, 0, .str Kd.look.tag, rfl, rfl, SqT.of h1, rfl, rfl, _, rfl, ite_f (no (x := .look) (y := .now) (by decide)) ?_⟩
        refine ⟨_, rfl, a, _, 0, .str Kd.look.tag, rfl, rfl, SqT.of h1, rfl, rfl, _, rfl, ite_f (no (x := .look) (y := .shift) (by decide)) ?_⟩
        refine ⟨_, rfl, a, _, 0, .str Kd.look.tag, rfl, rfl, SqT.of h1, rfl, rfl, _, rfl, ite_t (decide_eq_true rfl) ?_⟩
        refine ⟨fun σ G => G = H ∧ σ = [some (.ref a), none, some (.str (wordS wy ++ Str.ofString " ")), none, none, none], ?_, ?_⟩
        · refine ⟨_, rfl, a, _, 2, .str wy, rfl, rfl, SqT.of h1, rfl, rfl, _, rfl, ite2 (fun za => ?_) (fun za => ?_)⟩
          · have e1 : wy = Str.ofString "at" := by have h := of_decide_eq_true za; injection h
            subst e1
            refine iteT ⟨rfl, ?_⟩
            show [some (V.ref a), none, some (V.str (Str.ofString "last ")), none, none, none] = _
            rw [w1]; rfl
          · refine ⟨_, rfl, a, _, 2, .str wy, rfl, rfl, SqT.of h1, rfl, rfl, _, rfl, ite2 (fun zb => ?_) (fun zb => ?_)⟩
            · have e1 : wy = Str.ofString "before" := by have h := of_decide_eq_true zb; injection h
              subst e1
              refine ⟨rfl, ?_⟩
              show [some (V.ref a), none, some (V.str (Str.ofString "last ")), none, none, none] = _
              rw [w1]; rfl
            · have nb : ¬ wy ∈ ([Str.ofString "at", Str.ofString "before"] : List Str) := fun h => by
                simp only [List.mem_cons, List.not_mem_nil, or_false] at h
                rcases h with h | h
                · exact za (decide_eq_true (congrArg V.str h))
                · exact zb (decide_eq_true (congrArg V.str h))
              refine ⟨rfl, ?_⟩
              have ew : wordS wy = Str.ofString "next" := if_neg nb
              show [some (V.ref a), none, some (V.str (Str.ofString "next ")), none, none, none] = _
              rw [w2, ew]
        · rintro σ G ⟨rfl, rfl⟩
          cases lim with
          | none =>
            refine ⟨_, rfl, a, _, 3, .non, rfl, rfl, SqT.of h1, rfl, rfl, _, rfl, ite_t (decide_eq_true rfl) ?_⟩
            refine ⟨_, rfl, _, rfl, a, _, 1, .str z, rfl, rfl, SqT.of h1, rfl, _, _, rfl, rfl, sml (by (try simp only [cat_len]); omega), _, rfl, _, _, rfl, rfl, sml (by (try simp only [cat_len]); omega), _, _, rfl, rfl, sml (by (try simp only [cat_len]); omega), ?_⟩
            exact ⟨_, rfl, _, rfl, a, _, 2, .str wy, rfl, rfl, SqT.of h1, rfl, _, _, rfl, rfl, sml (by (try simp only [cat_len]); omega), _, _, rfl, rfl, sml (by (try simp only [cat_len]); omega), _, rfl, a, _, 4, .ref ma, rfl, rfl, SqT.of h1, rfl, ma, m, rfl, hm, gd.2.1, bd.2, by omega, by omega, _, _, rfl, rfl, sml (by (try simp only [cat_len]); omega), q⟩
          | some i =>
            have i0 := gd.2.2.2.2 i rfl
            have i1 := bd.1 i rfl
            have hn : (numS i).length ≤ 60 := numS_len i0 (by omega)
            have hfe : farS (some i) = Str.ofString " within " ++ numS i := rfl
            rw [hfe, cat_len] at hf
            refine ⟨_, rfl, a, _, 3, .int i, rfl, rfl, SqT.of h1, rfl, rfl, _, rfl, ite_f (decide_eq_false (fun z => by cases z)) ?_⟩
            refine ⟨_, rfl, a, _, 3, .int i, rfl, rfl, SqT.of h1, rfl, i, rfl, log_small i0 (by omega), _, _, rfl, rfl, sml (by (try simp only [cat_len]); omega), ?_⟩
            refine ⟨_, rfl, _, rfl, a, _, 1, .str z, rfl, rfl, SqT.of h1, rfl, _, _, rfl, rfl, sml (by (try simp only [cat_len]); omega), _, rfl, _, _, rfl, rfl, sml (by (try simp only [cat_len]); omega), _, _, rfl, rfl, sml (by (try simp only [cat_len]); omega), ?_⟩
            exact ⟨_, rfl, _, rfl, a, _, 2, .str wy, rfl, rfl, SqT.of h1, rfl, _, _, rfl, rfl, sml (by (try simp only [cat_len]); omega), _, _, rfl, rfl, sml (by (try simp only [cat_len]); omega), _, rfl, a, _, 4, .ref ma, rfl, rfl, SqT.of h1, rfl, ma, m, rfl, hm, gd.2.1, bd.2, by omega, by omega, _, _, rfl, rfl, sml (by (try simp only [cat_len]); omega), q⟩
      | either x y =>
        obtain ⟨xa, ya, h1, h3, h4⟩ := id ht
        have h1 : H a = some (.tup [.str Kd.either.tag, .ref xa, .ref ya]) := h1
        have e : (Tm.either x y).sz.p = 1 + (x.sz.p + y.sz.p) := szOf2_p (lo := 0) (co := 0)
        have ed : x.sz.d < (Tm.either x y).sz.d ∧ y.sz.d < (Tm.either x y).sz.d := by
          have : (Tm.either x y).sz.d = _ := szOf2_d (lo := 0) (co := 0)
          omega
        have wx := wr_len gd.2.1 bd.1
        have wy := wr_len gd.2.2 bd.2
        have px := x.p_pos
        have py := y.p_pos
        have lt1 : Kd.later.tag.length = 5 ∧ Kd.earlier.tag.length = 7 := by decide +kernel
        refine ⟨_, rfl, a, _, 0, .str Kd.either.tag, rfl, rfl, SqT.of h1, rfl, rfl, _, rfl, ite_f (no (x := .either) (y := .now) (by decide)) ?_⟩
        refine ⟨_, rfl, a, _, 0, .str Kd.either.tag, rfl, rfl, SqT.of h1, rfl, rfl, _, rfl, ite_f (no (x := .either) (y := .shift) (by decide)) ?_⟩
        refine ⟨_, rfl, a, _, 0, .str Kd.either.tag, rfl, rfl, SqT.of h1, rfl, rfl, _, rfl, ite_f (no (x := .either) (y := .look) (by decide)) ?_⟩
        refine ⟨_, rfl, a, _, 1, .ref xa, rfl, rfl, SqT.of h1, rfl, xa, x, rfl, h3, gd.2.1, bd.1, by omega, by omega, ?_⟩
        refine ⟨_, rfl, a, _, 2, .ref ya, rfl, rfl, SqT.of h1, rfl, ya, y, rfl, h4, gd.2.2, bd.2, by omega, by omega, ?_⟩
        refine ⟨_, rfl, a, _, 0, .str Kd.either.tag, rfl, rfl, SqT.of h1, rfl, rfl, _, rfl, ite_t (decide_eq_true rfl) ?_⟩
        exact ⟨_, rfl, _, _, rfl, rfl, sml (by (try simp only [cat_len]); omega), _, _, rfl, rfl, sml (by (try simp only [cat_len]); omega), _, rfl, _, _, rfl, rfl, sml (by (try simp only [cat_len]); omega), _, _, rfl, rfl, sml (by (try simp only [cat_len]); omega), q⟩
      | later x y =>
        obtain ⟨xa, ya, h1, h3, h4⟩ := id ht
        have h1 : H a = some (.tup [.str Kd.later.tag, .ref xa, .ref ya]) := h1
        have e : (Tm.later x y).sz.p = 1 + (x.sz.p + y.sz.p) := szOf2_p (lo := 0) (co := 1)
        have ed : x.sz.d < (Tm.later x y).sz.d ∧ y.sz.d < (Tm.later x y).sz.d := by
          have : (Tm.later x y).sz.d = _ := szOf2_d (lo := 0) (co := 1)
          omega
        have wx := wr_len gd.2.1 bd.1
        have wy := wr_len gd.2.2 bd.2
        have px := x.p_pos
        have py := y.p_pos
        have lt1 : Kd.later.tag.length = 5 ∧ Kd.earlier.tag.length = 7 := by decide +kernel
        refine ⟨_, rfl, a, _, 0, .str Kd.later.tag, rfl, rfl, SqT.of h1, rfl, rfl, _, rfl, ite_f (no (x := .later) (y := .now) (by decide)) ?_⟩
        refine ⟨_, rfl, a, _, 0, .str Kd.later.tag, rfl, rfl, SqT.of h1, rfl, rfl, _, rfl, ite_f (no (x := .later) (y := .shift) (by decide)) ?_⟩
        refine ⟨_, rfl, a, _, 0, .str Kd.later.tag, rfl, rfl, SqT.of h1, rfl, rfl, _, rfl, ite_f (no (x := .later) (y := .look) (by decide)) ?_⟩
        refine ⟨_, rfl, a, _, 1, .ref xa, rfl, rfl, SqT.of h1, rfl, xa, x, rfl, h3, gd.2.1, bd.1, by omega, by omega, ?_⟩
        refine ⟨_, rfl, a, _, 2, .ref ya, rfl, rfl, SqT.of h1, rfl, ya, y, rfl, h4, gd.2.2, bd.2, by omega, by omega, ?_⟩
        refine ⟨_, rfl, a, _, 0, .str Kd.later.tag, rfl, rfl, SqT.of h1, rfl, rfl, _, rfl, ite_f (no (x := .later) (y := .either) (by decide)) ?_⟩
        exact ⟨_, rfl, a, _, 0, .str Kd.later.tag, rfl, rfl, SqT.of h1, rfl, _, _, rfl, rfl, sml (by (try simp only [cat_len]); omega), _, rfl, _, _, rfl, rfl, sml (by (try simp only [cat_len]); omega), _, _, rfl, rfl, sml (by (try simp only [cat_len]); omega), _, rfl, _, _, rfl, rfl, sml (by (try simp only [cat_len]); omega), _, _, rfl, rfl, sml (by (try simp only [cat_len]); omega), q⟩
      | earlier x y =>
        obtain ⟨xa, ya, h1, h3, h4⟩ := id ht
        have h1 : H a = some (.tup [.str Kd.earlier.tag, .ref xa, .ref ya]) := h1
        have e : (Tm.earlier x y).sz.p = 1 + (x.sz.p + y.sz.p) := szOf2_p (lo := 0) (co := 1)
        have ed : x.sz.d < (Tm.earlier x y).sz.d ∧ y.sz.d < (Tm.earlier x y).sz.d := by
          have : (Tm.earlier x y).sz.d = _ := szOf2_d (lo := 0) (co := 1)
          omega
        have wx := wr_len gd.2.1 bd.1
        have wy := wr_len gd.2.2 bd.2
        have px := x.p_pos
        have py := y.p_pos
        have lt1 : Kd.later.tag.length = 5 ∧ Kd.earlier.tag.length = 7 := by decide +kernel
        refine ⟨_, rfl, a, _, 0, .str Kd.earlier.tag, rfl, rfl, SqT.of h1, rfl, rfl, _, rfl, ite_f (no (x := .earlier) (y := .now) (by decide)) ?_⟩
        refine ⟨_, rfl, a, _, 0, .str Kd.earlier.tag, rfl, rfl, SqT.of h1, rfl, rfl, _, rfl, ite_f (no (x := .earlier) (y := .shift) (by decide)) ?_⟩
        refine ⟨_, rfl, a, _, 0, .str Kd.earlier.tag, rfl, rfl, SqT.of h1, rfl, rfl, _, rfl, ite_f (no (x := .earlier) (y := .look) (by decide)) ?_⟩
        refine ⟨_, rfl, a, _, 1, .ref xa, rfl, rfl, SqT.of h1, rfl, xa, x, rfl, h3, gd.2.1, bd.1, by omega, by omega, ?_⟩
        refine ⟨_, rfl, a, _, 2, .ref ya, rfl, rfl, SqT.of h1, rfl, ya, y, rfl, h4, gd.2.2, bd.2, by omega, by omega, ?_⟩
        refine ⟨_, rfl, a, _, 0, .str Kd.earlier.tag, rfl, rfl, SqT.of h1, rfl, rfl, _, rfl, ite_f (no (x := .earlier) (y := .either) (by decide)) ?_⟩
        exact ⟨_, rfl, a, _, 0, .str Kd.earlier.tag, rfl, rfl, SqT.of h1, rfl, _, _, rfl, rfl, sml (by (try simp only [cat_len]); omega), _, rfl, _, _, rfl, rfl, sml (by (try simp only [cat_len]); omega), _, _, rfl, rfl, sml (by (try simp only [cat_len]); omega), _, rfl, _, _, rfl, rfl, sml (by (try simp only [cat_len]); omega), _, _, rfl, rfl, sml (by (try simp only [cat_len]); omega), q⟩
end
end Pl

namespace Pl
open PySem L2 PySem.Spec PyProof.Rows
/-! ### a text read: what words begin it -/
/-- as many signs as two texts share at their beginnings -/
def cpl : List Nat → List Nat → Nat
  | a :: t, b :: w => if a = b then cpl t w + 1 else 0
  | _, _ => 0
theorem cpl_le : ∀ (t w : List Nat), cpl t w ≤ w.length
  | [], w => by unfold cpl; exact Nat.zero_le _
  | a :: t, [] => by unfold cpl; exact Nat.zero_le _
  | a :: t, b :: w => by
    unfold cpl
    have := cpl_le t w
    split
    · simp only [List.length_cons]; omega
    · exact Nat.zero_le _
/-- all of w begins what follows -/
theorem cpl_app : ∀ (w r : List Nat), cpl (w ++ r) w = w.length
  | [], r => by cases r <;> rfl
  | a :: w, r => by
    show cpl (a :: (w ++ r)) (a :: w) = _
    unfold cpl
    rw [if_pos rfl, cpl_app w r]; rfl
theorem cpl_full : ∀ {t w : List Nat}, cpl t w = w.length → ∃ r, t = w ++ r
  | t, [], _ => ⟨t, rfl⟩
  | [], b :: w, h => by unfold cpl at h; cases h
  | a :: t, b :: w, h => by
    unfold cpl at h
    split at h
    · rename_i e
      obtain ⟨r, e2⟩ := cpl_full (t := t) (w := w) (by simpa using h)
      exact ⟨r, by rw [e, e2]; rfl⟩
    · cases h
/-- the k-th step -/
theorem cpl_step : ∀ {t w : List Nat} {k : Nat}, k ≤ cpl t w → k < w.length → (k < cpl t w ↔ t[k]? = w[k]?)
  | [], w, k, h, l => by
    have e : cpl [] w = 0 := by unfold cpl; rfl
    rw [e] at h ⊢
    rw [List.getElem?_eq_getElem l]
    simp
  | a :: t, [], k, h, l => absurd l (Nat.not_lt_zero _)
  | a :: t, b :: w, 0, h, l => by
    unfold cpl
    split
    · rename_i e; simp [e]
    · rename_i e; simp [e]
  | a :: t, b :: w, k + 1, h, l => by
    have e : cpl (a :: t) (b :: w) = if a = b then cpl t w + 1 else 0 := by rw [cpl]
    rw [e] at h ⊢
    split at h
    · rename_i ab
      rw [if_pos ab]
      have := cpl_step (t := t) (w := w) (k := k) (by omega) (by simpa using l)
      rw [List.getElem?_cons_succ, List.getElem?_cons_succ, ← this]
      omega
    · omega
/-- a text begins with a sign at a place -/
theorem sw3_one {t : Str} {c p : Nat} : Txt.startswith3 t ⟨#[c]⟩ (p : Int) = decide (t.cps.toList[p]? = some c) := by
  have e : PySem.fromIndex t.length (p : Int) = p := by unfold PySem.fromIndex; omega
  unfold Txt.startswith3
  rw [e]
  have hl : t.length = t.cps.toList.length := (Array.length_toList).symm
  by_cases h : p < t.cps.toList.length
  · have h1 : decide (p + (⟨#[c]⟩ : Str).length ≤ t.length) = true := decide_eq_true (by show p + 1 ≤ _; omega)
    rw [h1, Bool.true_and, List.getElem?_eq_getElem h]
    have e2 : t.cps.extract p (p + 1) = #[t.cps.toList[p]] := by
      apply Array.toList_inj.mp
      rw [Array.toList_extract]
      show (t.cps.toList.drop p).take (p + 1 - p) = [t.cps.toList[p]]
      rw [List.drop_eq_getElem_cons h, show p + 1 - p = 1 from by omega]
      rfl
    show (t.cps.extract p (p + 1) == #[c]) = _
    rw [e2]
    by_cases q : t.cps.toList[p] = c
    · rw [q, decide_eq_true rfl]; exact beq_self_eq_true _
    · rw [decide_eq_false (fun z => q (Option.some.inj z))]
      exact beq_eq_false_iff_ne.mpr fun z => q (by
        have := congrArg Array.toList z
        exact (List.cons.inj this).1)
  · have h1 : decide (p + (⟨#[c]⟩ : Str).length ≤ t.length) = false := decide_eq_false (by show ¬ (p + 1 ≤ _); omega)
    rw [h1, Bool.false_and, List.getElem?_eq_none (by omega), decide_eq_false (fun z => by cases z)]
theorem atN {α : Type} {xs : List α} {k : Nat} (h : k < xs.length) : atI xs (k : Int) = some xs[k] := by
  have e : ixN xs.length (k : Int) = some k := by
    unfold ixN
    rw [if_pos (by omega), if_pos (by omega)]; rfl
  unfold atI
  rw [e]
  exact List.getElem?_eq_getElem h
/-- a slot's number -/
def slN (σ : L2.St) (i : Nat) : Nat := match σ[i]? with | some (some (V.int k)) => k.toNat | _ => 0
section
variable {P : Program} {w : World} {K : Fg} {mg : Str → Option Value} {base : Heap} {A : CA} {ks : Kd → Bool} {CW : Addr}
def spCmn : Sp := fun vs H Q _ => ∃ (t w : Str) (p : Nat), vs = [.str t, .int p, .str w] ∧ w.length ≤ 100 ∧ t.length ≤ 100000 ∧ Q (.int (cpl (t.cps.toList.drop p) w.cps.toList)) H
theorem ok_common_length (D : Df K mg "common_length" "common_length" s_common_length p_common_length) (T : Tx K mg) : Cal P w K mg base CX0 "common_length" 1 spCmn := by
  refine D.cal fun f fd F => F.ok sc_common_length (fun vs H Q E h => ?_) (fun cdv A' outer s H vs Q E hr h => ?_)
  · obtain ⟨t, w, p, rfl, _⟩ := h; rfl
  · obtain ⟨t, w, p, rfl, hw, ht, q⟩ := h
    refine ⟨_, (pss_cons (ps_set (i := 3) sc_common_length.nd rfl (Or.inl rfl) pe_int)
      (pss_cons (ps_while PassesOwn.never (PW.pt (pw_and (pt_cmpR op_lt (pv 3) (pc_len T (pa_cons (pv 2) pa_nil)) (nomark _)) (pw_and1 (pt_val (pe_bm PySem.F.plainAttrs_str PySem.F.slot_str_startswith PySem.F.type_str_startswith mt_startswith3 (pv 0) (pa_cons (pe_ix ix_str (pv 2) (pv 3) (fun _ _ => rfl)) (pa_cons (pe_op op_add (pv 1) (pv 3)) pa_nil)))))))
        (pss_one (ps_set (i := 3) sc_common_length.nd rfl (Or.inl rfl) (pe_op op_add (pv 3) pe_int))))
      (pss_one (ps_ret (pv 3))))), ?_⟩
    refine while_by (fun σ G => G = H ∧ ∃ k : Nat, σ = [some (.str t), some (.int p), some (.str w), some (.int k)] ∧ k ≤ cpl (t.cps.toList.drop p) w.cps.toList) (fun σ _ => w.length - slN σ 3) ⟨rfl, 0, rfl, Nat.zero_le _⟩ ?_ ?_
    · rintro σ G ⟨rfl, k, rfl, hk⟩
      have cl := cpl_le (t.cps.toList.drop p) w.cps.toList
      have hwl : w.length = w.cps.toList.length := (Array.length_toList).symm
      refine ⟨_, rfl, _, rfl, _, w.length, rfl, ⟨Nat.le_trans hw (by decide), rfl⟩, ?_⟩
      by_cases z1 : k < w.length
      · refine ⟨_, _, rfl, rfl, _, rfl, ?_⟩
        rw [decide_eq_true (by omega : (k : Int) < (w.length : Int))]
        refine iteT ?_
        have hg : w.cps.toList[k]? = some w.cps.toList[k] := List.getElem?_eq_getElem (by omega)
        refine ⟨_, rfl, rfl, _, rfl, _, rfl, w, k, w.cps.toList[k], rfl, rfl, Nat.le_trans hw (by decide), ?_, _, rfl, _, rfl, _, _, rfl, rfl, t, ⟨#[w.cps.toList[k]]⟩, ((p + k : Nat) : Int), rfl, rfl, ?_⟩
        · exact atN (by omega)
        · have ed : (t.cps.toList.drop p)[k]? = t.cps.toList[p + k]? := by rw [List.getElem?_drop]
          have st := cpl_step (t := t.cps.toList.drop p) (w := w.cps.toList) hk (by omega)
          rw [ed, hg] at st
          refine ⟨_, rfl, ?_⟩
          rw [sw3_one]
          by_cases z2 : t.cps.toList[p + k]? = some w.cps.toList[k]
          · rw [decide_eq_true z2]
            refine iteT ?_
            refine ⟨_, rfl, _, _, rfl, rfl, ⟨rfl, k + 1, rfl, st.mpr z2⟩, ?_⟩
            show w.length - (k + 1) < w.length - k
            omega
          · rw [decide_eq_false z2]
            refine iteF ⟨_, rfl, ?_⟩
            have e : cpl (t.cps.toList.drop p) w.cps.toList = k := by
              have := Nat.le_of_not_lt (fun y => z2 (st.mp y))
              omega
            rw [e] at q
            exact q
      · refine ⟨_, _, rfl, rfl, _, rfl, ?_⟩
        rw [decide_eq_false (by omega : ¬ (k : Int) < (w.length : Int))]
        refine iteF ⟨_, rfl, ?_⟩
        have e : cpl (t.cps.toList.drop p) w.cps.toList = k := by omega
        rw [e] at q
        exact q
    · intro σ G Q1 Q2 hq h
      obtain ⟨v3, e3, v2, e2, x, n, ex, ln, i, j, ei, ej, k, ek, h⟩ := h
      refine ⟨v3, e3, v2, e2, x, n, ex, ln, i, j, ei, ej, k, ek, ?_⟩
      by_cases kt : k = true
      · rw [if_pos kt] at h ⊢
        obtain ⟨v0, e0, ty, u2, f2, u3, f3, zz, i2, cc, g1, g2, g3, g4, u1, f1, u4, f4, i5, j5, g5, g6, a6, b6, i6, g7, g8, c9, g9, h9⟩ := h
        exact ⟨v0, e0, ty, u2, f2, u3, f3, zz, i2, cc, g1, g2, g3, g4, u1, f1, u4, f4, i5, j5, g5, g6, a6, b6, i6, g7, g8, c9, g9, hq _ _ h9⟩
      · rw [if_neg kt] at h ⊢
        exact hq _ _ h
/-- a reader: its text, its place, the parts and looks read so far -/
def rdF (t : Str) (p n l : Int) : List (Str × V) := [("text", .str t), ("place", .int p), ("parts", .int n), ("looks", .int l)]
def RdAt (CR : Addr) (H : Hp) (r : Addr) (t : Str) (p n l : Int) : Prop := ∃ dx, H r = some (.ins CR dx (rdF t p n l))
/-- the first word that begins what is left -/
def Begins (t : Str) (p : Nat) (wl : List Str) (wd : Str) : Prop := ∃ i : Nat, wl[i]? = some wd ∧ cpl (t.cps.toList.drop p) wd.cps.toList = wd.length ∧ ∀ (j : Nat) (z : Str), j < i → wl[j]? = some z → cpl (t.cps.toList.drop p) z.cps.toList ≠ z.length
def spWord (K : Fg) (CR : Addr) : Sp := fun vs H Q _ => ∃ (r ws : Addr) (t wd : Str) (p : Nat) (n l : Int) (wl : List Str), vs = [.ref r, .ref ws] ∧ RdAt CR H r t p n l ∧ SqT K H ws (wl.map V.str) ∧ (∀ z ∈ wl, z.length ≤ 100) ∧ t.length ≤ 100000 ∧ Begins t p wl wd ∧ ∀ dx, H r = some (.ins CR dx (rdF t p n l)) → Q (.str wd) (upd H r (.ins CR dx (rdF t (p + wd.length) n l)))
theorem ok_Reader_read_word {CR : Addr} (D : ∃ f fd, Fun K "read_word" "Reader.read_word" s_Reader_read_word f fd ∧ Meth K CR "read_word" f ∧ Binds K fd p_Reader_read_word []) (T : Tx K mg) (c : Cls K CR) (n1 : NoAttr K CR "text") (n2 : NoAttr K CR "place") (c_common_length : Cal P w K mg base CX0 "common_length" 1 spCmn) : CalI P w K mg base CX0 CR "read_word" 2 (spWord K CR) := by
  obtain ⟨f, fd, F, m1, hb⟩ := D
  refine ⟨f, fd, _, F.ok sc_Reader_read_word (fun vs H Q E h => ?_) (fun cdv A' outer s H vs Q E hr h => ?_), m1, c, hb⟩
  · obtain ⟨r, ws, t, wd, p, n, l, wl, rfl, _⟩ := h; rfl
  · obtain ⟨r, ws, t, wd, p, n, l, wl, rfl, ⟨dx, hrd⟩, hws, wz, tz, ⟨i0, hi, hfull, hno⟩, q⟩ := h
    refine ⟨_, (pss_cons (ps_set (i := 2) sc_Reader_read_word.nd rfl (Or.inl rfl) pe_int)
      (pss_cons (ps_for PassesOwn.never rfl (pi_tup (pv 1)) (pg_name (i := 3) sc_Reader_read_word.nd rfl (Or.inl rfl))
        (pss_cons (ps_set (i := 4) sc_Reader_read_word.nd rfl (Or.inl rfl) (pc c_common_length hr (by decide) (pa_cons (pe_fld (pv 0) rfl) (pa_cons (pe_fld (pv 0) rfl) (pa_cons (pv 3) pa_nil)))))
        (pss_cons (ps_if (pt_cmpR op_eq (pv 4) (pc_len T (pa_cons (pv 3) pa_nil)) (nomark _))
          (pss_cons (ps_fld (pv 0) (pe_op op_add (pe_fld (pv 0) rfl) (pv 4)) rfl)
          (pss_one (ps_ret (pv 3))))
          pss_nil)
        (pss_one (ps_set (i := 2) sc_Reader_read_word.nd rfl (Or.inl rfl) (pc_max2 rfl T (pa_cons (pv 2) (pa_cons (pv 4) pa_nil))))))))
      (pss_one ps_never))), ?_⟩
    refine ⟨_, rfl, ws, rfl, ⟨_, hws⟩, for_tup (K := K) (a := ws) (xs := wl.map V.str) (fun j σ G => G = H ∧ j ≤ i0 ∧ ∃ (lg : Int) (x3 x4 : Option V), σ = [some (.ref r), some (.ref ws), some (.int lg), x3, x4]) ⟨rfl, Nat.zero_le _, 0, none, none, rfl⟩ ?_ ?_ ?_⟩
    · rintro j σ G _ ⟨rfl, _⟩
      exact hws
    · rintro j v σ G hx ⟨rfl, ji, lg, x3, x4, rfl⟩
      rw [List.getElem?_map] at hx
      cases e : wl[j]? with
      | none => rw [e] at hx; cases hx
      | some z =>
        rw [e] at hx
        obtain rfl := Option.some.inj hx
        have lz := wz z (List.mem_of_getElem? e)
        refine ⟨_, rfl, r, _, dx, _, _, rfl, hrd, c, n1, rfl, _, rfl, r, _, dx, _, _, rfl, hrd, c, n2, rfl, _, rfl, t, z, p, rfl, lz, tz, ?_⟩
        refine ⟨_, rfl, _, rfl, _, z.length, rfl, ⟨Nat.le_trans lz (by decide), rfl⟩, rfl, _, rfl, ?_⟩
        by_cases ej : j = i0
        · subst ej
          rw [hi] at e
          obtain rfl := Option.some.inj e
          refine ite_t (by rw [hfull]; exact decide_eq_true rfl) ?_
          refine ⟨_, rfl, r, _, dx, _, _, rfl, hrd, c, n2, rfl, _, rfl, _, _, rfl, rfl, _, rfl, r, CR, dx, _, rfl, hrd, c, n2, by show 4 < 1000; decide, ?_⟩
          have ep : putF "place" (V.int ((p : Int) + (cpl (t.cps.toList.drop p) wd.cps.toList : Nat))) (rdF t p n l) = rdF t (p + wd.length) n l := by rw [hfull]; rfl
          refine ⟨_, rfl, ?_⟩
          have q2 := q dx hrd
          rw [← ep] at q2
          exact q2
        · have hn := hno j z (by omega) e
          refine ite_f (decide_eq_false fun y => hn (by injection y with y; exact Int.ofNat.inj y)) ?_
          refine ⟨_, rfl, _, rfl, _, _, rfl, ?_⟩
          exact ⟨rfl, by omega, _, _, _, rfl⟩
    · rintro σ G ⟨rfl, ji, lg, x3, x4, rfl⟩
      rw [List.length_map] at ji
      have := (List.getElem?_eq_some_iff.mp hi).1
      omega
theorem sIx_at {n d k : Nat} : HT.sIx n d (some (k : Int)) = min k n := by
  show (if (k : Int) < 0 then ((k : Int) + (n : Int)).toNat else min ((k : Int)).toNat n) = _
  rw [if_neg (by omega)]; rfl
def spRowOf (CR : Addr) : Sp := fun vs H Q _ => ∃ (r : Addr) (t ls : Str) (p : Nat) (n l : Int) (m : Nat) (run rest : List Nat), vs = [.ref r, .str ls, .int m] ∧ RdAt CR H r t p n l ∧ t.length ≤ 100000 ∧ m ≤ 100 ∧ t.cps.toList.drop p = run ++ rest ∧ run ≠ [] ∧ (∀ c ∈ run, c ∈ ls.cps.toList) ∧ run.length ≤ m ∧ (run.length < m → ∀ c, rest.head? = some c → c ∉ ls.cps.toList) ∧
  ∀ dx, H r = some (.ins CR dx (rdF t p n l)) → Q (.str ⟨run.toArray⟩) (upd H r (.ins CR dx (rdF t (p + run.length) n l)))
theorem ok_Reader_read_row_of {CR : Addr} (D : ∃ f fd, Fun K "read_row_of" "Reader.read_row_of" s_Reader_read_row_of f fd ∧ Meth K CR "read_row_of" f ∧ Binds K fd p_Reader_read_row_of []) (T : Tx K mg) (c : Cls K CR) (n1 : NoAttr K CR "text") (n2 : NoAttr K CR "place") : CalI P w K mg base CX0 CR "read_row_of" 2 (spRowOf CR) := by
  obtain ⟨f, fd, F, m1, hb⟩ := D
  refine ⟨f, fd, _, F.ok sc_Reader_read_row_of (fun vs H Q E h => ?_) (fun cdv A' outer s H vs Q E hr h => ?_), m1, c, hb⟩
  · obtain ⟨r, t, ls, p, n, l, m, run, rest, rfl, _⟩ := h; rfl
  · obtain ⟨r, t, ls, p, n, l, m, run, rest, rfl, ⟨dx, hrd⟩, tz, mz, hsp, rne, hall, rm, stop, q⟩ := h
    refine ⟨_, (pss_cons (ps_set (i := 3) sc_Reader_read_row_of.nd rfl (Or.inl rfl) pe_str)
      (C8.pss_cut (ps_for PassesOwn.never rfl (pi_str (pe_slice sl_str (pe_fld (pv 0) rfl) (po_some (pe_fld (pv 0) rfl)) (po_some (pe_op op_add (pe_fld (pv 0) rfl) (pv 2))))) (pg_name (i := 4) sc_Reader_read_row_of.nd rfl (Or.inl rfl))
        (pss_cons (ps_if (pt_cmpR op_notIn_sign (pv 4) (pv 1) (by rfl))
          (pss_one ps_break)
          pss_nil)
        (pss_one (ps_set (i := 3) sc_Reader_read_row_of.nd rfl (Or.inl rfl) (pe_op op_add_str (pv 3) (pv 4))))))
      (pss_cons (ps_if (pt_not (pt_truth (pv 3) (by intro _; rfl)))
        (pss_one ps_never)
        pss_nil)
      (pss_cons (ps_fld (pv 0) (pe_op op_add (pe_fld (pv 0) rfl) (pc_len T (pa_cons (pv 3) pa_nil))) rfl)
      (pss_one (ps_ret (pv 3))))))), ?_⟩
    have pl : p < t.cps.toList.length := by
      have := congrArg List.length hsp
      rw [List.length_drop, List.length_append] at this
      have : run.length ≠ 0 := fun z => rne (List.length_eq_zero_iff.mp z)
      omega
    have hl : t.length = t.cps.toList.length := (Array.length_toList).symm
    have zl : (cutS t (some (p : Int)) (some ((p : Int) + (m : Int)))).cps.toList = (run ++ rest).take m := by
      have e1 : HT.sIx t.length 0 (some (p : Int)) = p := by
        rw [sIx_at]; omega
      have e2 : HT.sIx t.length t.length (some ((p : Int) + (m : Int))) = min (p + m) t.length := by
        show HT.sIx t.length t.length (some ((p + m : Nat) : Int)) = _
        rw [sIx_at]
      show ((t.cps.toList.drop (HT.sIx t.length 0 (some (p : Int)))).take (HT.sIx t.length t.length (some ((p : Int) + (m : Int))) - HT.sIx t.length 0 (some (p : Int)))) = _
      rw [e1, e2, hsp]
      by_cases h : p + m ≤ t.length
      · rw [show min (p + m) t.length - p = m from by omega]
      · have hlen : (run ++ rest).length ≤ t.length - p := by rw [← hsp, List.length_drop]; omega
        rw [List.take_of_length_le (by omega), List.take_of_length_le (by omega)]
    refine ⟨fun σ G => G = H ∧ ∃ x4 : Option V, σ = [some (.ref r), some (.str ls), some (.int m), some (.str ⟨run.toArray⟩), x4], ?_, ?_⟩
    · refine ⟨_, rfl, r, _, dx, _, _, rfl, hrd, c, n1, rfl, _, rfl, r, _, dx, _, _, rfl, hrd, c, n2, rfl, (p : Int), rfl, _, rfl, r, _, dx, _, _, rfl, hrd, c, n2, rfl, _, rfl, _, _, rfl, rfl, (p : Int) + (m : Int), rfl, t, rfl, Nat.le_trans tz (by decide), _, rfl, ?_⟩
      have zc : (cutS t (some (p : Int)) (some ((p : Int) + (m : Int)))).cps.size = ((run ++ rest).take m).length := by rw [← zl, Array.length_toList]
      refine for_it (walk_str (z := cutS t (some (p : Int)) (some ((p : Int) + (m : Int))))) (fun i σ G => G = H ∧ i ≤ run.length ∧ ∃ x4 : Option V, σ = [some (.ref r), some (.str ls), some (.int m), some (.str ⟨(run.take i).toArray⟩), x4]) ⟨rfl, Nat.zero_le _, none, rfl⟩ (fun _ _ _ _ _ => trivial) ?_ ?_
      · rintro i v σ G G' hlt ⟨rfl, ir, x4, rfl⟩ ⟨rfl, cc, hc, rfl⟩
        have hc2 : ((run ++ rest).take m)[i]? = some cc := by rw [← zl, Array.getElem?_toList]; exact hc
        rw [zc, List.length_take] at hlt
        rw [List.getElem?_take_of_lt (by omega)] at hc2
        refine ⟨_, rfl, _, rfl, cc, ls, rfl, rfl, _, rfl, ?_⟩
        by_cases il : i < run.length
        · rw [List.getElem?_append_left il] at hc2
          have hin := hall cc (List.mem_of_getElem? hc2)
          rw [decide_eq_true hin]
          refine iteF ?_
          have lt1 : (⟨(run.take i).toArray⟩ : Str).length ≤ 100 := by show ((run.take i).toArray).size ≤ 100; rw [List.size_toArray, List.length_take]; omega
          refine ⟨_, rfl, _, rfl, _, _, rfl, rfl, Nat.le_trans (m := 101) (by show _ + 1 ≤ 101; omega) (by decide), rfl, by omega, some (V.str ⟨#[cc]⟩), ?_⟩
          have ee : (⟨(run.take i).toArray⟩ : Str) ++ ⟨#[cc]⟩ = ⟨(run.take (i + 1)).toArray⟩ := by
            show (⟨(run.take i).toArray ++ #[cc]⟩ : Str) = _
            rw [List.take_add_one, hc2]
            congr 1
            simp
          show [some (V.ref r), some (V.str ls), some (V.int ↑m), some (V.str (⟨(run.take i).toArray⟩ ++ ⟨#[cc]⟩)), some (V.str ⟨#[cc]⟩)] = _
          rw [ee]
        · have ei : i = run.length := by omega
          subst ei
          rw [List.getElem?_append_right (Nat.le_refl _), Nat.sub_self] at hc2
          have hno := stop (by omega) cc (by rw [List.head?_eq_getElem?]; exact hc2)
          rw [decide_eq_false hno]
          refine iteT ⟨rfl, some (V.str ⟨#[cc]⟩), ?_⟩
          rw [List.take_length]; rfl
      · rintro σ G ⟨rfl, ir, x4, rfl⟩
        refine ⟨rfl, x4, ?_⟩
        rw [zc, List.length_take, List.length_append, List.take_of_length_le (by omega)]
    · rintro σ G ⟨rfl, x4, rfl⟩
      have r1 : run.length ≠ 0 := fun z => rne (List.length_eq_zero_iff.mp z)
      have lr : (⟨run.toArray⟩ : Str).length = run.length := List.size_toArray
      have lz : (⟨run.toArray⟩ : Str).length ≤ sizeLine := Nat.le_trans (m := 100) (by rw [lr]; omega) (by decide)
      refine ⟨_, rfl, true, ⟨lz, by rw [lr]; exact (bne_iff_ne.mpr (by omega)).symm⟩, iteF ?_⟩
      refine ⟨_, rfl, r, _, dx, _, _, rfl, hrd, c, n2, rfl, _, rfl, _, _, rfl, ⟨lz, rfl⟩, _, _, rfl, rfl, _, rfl, r, CR, dx, _, rfl, hrd, c, n2, by show 4 < 1000; decide, ?_⟩
      have ep : putF "place" (V.int ((p : Int) + ((⟨run.toArray⟩ : Str).length : Nat))) (rdF t p n l) = rdF t (p + run.length) n l := by rw [lr]; rfl
      refine ⟨_, rfl, ?_⟩
      have q2 := q dx hrd
      rw [← ep] at q2
      exact q2
section
variable {X : Cx} {p pos : Pos} {e : Expr} {es : List Expr} {t : TA}
theorem pc_intS (T : Tx X.K X.mg) (ha : PA X (e :: es) t) (hg : Gl X "int" := by rfl) (he : starEach (e :: es) X.env = (false, eval e X.env) :: starEach es X.env := by rfl) (hpl : (backTo pos (starEach es X.env)).any (·.1) = false := by rfl) :
    PE X (.Call (.Name "int" p) (e :: es) [] pos) (tCB (fun xs H Q => ∃ a n, xs = [.str a] ∧ PySem.intText? a = some n ∧ a.length ≤ 640 ∧ Q (.int n) H) t) := pe_callTy call_int_str hg T.int (by decide +kernel) ha (he := he) (hpl := hpl)
end
theorem numL_head : ∀ (n : Nat), 0 < n → ∀ c, (TL.numL n).head? = some c → c ≠ 48
  | n, h0, c, hc => by
    by_cases h : n < 10
    · rw [TL.numL_lt h] at hc
      have := Option.some.inj hc
      omega
    · rw [TL.numL_step (by omega)] at hc
      have ne := TL.numL_ne (n / 10)
      cases e : TL.numL (n / 10) with
      | nil => exact absurd e ne
      | cons a r =>
        rw [e] at hc
        have ih := numL_head (n / 10) (by omega) c
        rw [e] at ih
        exact ih hc
def dgs : Str := "0123456789"
theorem dgs_in {c : Nat} (h : 48 ≤ c ∧ c ≤ 57) : c ∈ dgs.cps.toList := by
  have e : ∀ k ∈ List.range 10, (48 + k) ∈ dgs.cps.toList := by decide +kernel
  have := e (c - 48) (List.mem_range.mpr (by omega))
  rwa [show 48 + (c - 48) = c from by omega] at this
theorem dgs_out {c : Nat} (h : c ∈ dgs.cps.toList) : 48 ≤ c ∧ c ≤ 57 := by
  have e : ∀ c ∈ dgs.cps.toList, 48 ≤ c ∧ c ≤ 57 := by decide +kernel
  exact e c h
def spNumR (CR : Addr) : Sp := fun vs H Q _ => ∃ (r : Addr) (t : Str) (p : Nat) (n l : Int) (i : Nat) (rest : List Nat), vs = [.ref r] ∧ RdAt CR H r t p n l ∧ t.length ≤ 100000 ∧ t.cps.toList.drop p = TL.numL i ++ rest ∧ i < 10 ^ 60 ∧ (∀ c, rest.head? = some c → ¬ (48 ≤ c ∧ c ≤ 57)) ∧
  ∀ dx, H r = some (.ins CR dx (rdF t p n l)) → Q (.int i) (upd H r (.ins CR dx (rdF t (p + (TL.numL i).length) n l)))
theorem ok_Reader_read_number {CR : Addr} (D : ∃ f fd, Fun K "read_number" "Reader.read_number" s_Reader_read_number f fd ∧ Meth K CR "read_number" f ∧ Binds K fd p_Reader_read_number []) (T : Tx K mg) (c : Cls K CR) (n1 : NoAttr K CR "text") (n2 : NoAttr K CR "place") (gD : ∃ t, mg "DIGITS" = some (.str dgs t)) (gM : ∃ t, mg "MOST_DIGITS" = some (.int 60 t)) (c_row : ∀ C sp, (C = CR ∧ sp = spRowOf CR) → CalI P w K mg base CX0 C "read_row_of" 2 sp) : CalI P w K mg base CX0 CR "read_number" 4 (spNumR CR) := by
  obtain ⟨f, fd, F, m1, hb⟩ := D
  refine ⟨f, fd, _, F.ok sc_Reader_read_number (fun vs H Q E h => ?_) (fun cdv A' outer s H vs Q E hr h => ?_), m1, c, hb⟩
  · obtain ⟨r, t, p, n, l, i, rest, rfl, _⟩ := h; rfl
  · obtain ⟨r, t, p, n, l, i, rest, rfl, ⟨dx, hrd⟩, tz, hsp, hi, hno, q⟩ := h
    obtain ⟨tD, g_DIGITS⟩ := gD
    obtain ⟨tM, g_MOST_DIGITS⟩ := gM
    refine ⟨_, (pss_cons (ps_if (pt_val (pe_bm PySem.F.plainAttrs_str PySem.F.slot_str_startswith PySem.F.type_str_startswith mt_startswith3 (pe_fld (pv 0) rfl) (pa_cons pe_str (pa_cons (pe_fld (pv 0) rfl) pa_nil))))
        (pss_cons (ps_fld (pv 0) (pe_op op_add (pe_fld (pv 0) rfl) pe_int) rfl)
        (pss_one (ps_ret pe_int)))
        pss_nil)
      (pss_one (ps_ret (pc_intS T (pa_cons (pmsx c_row hr (by decide) pass0 (pv 0) (pa_cons (pe_glob rfl g_DIGITS rel_s) (pa_cons (pe_glob rfl g_MOST_DIGITS rel_i) pa_nil))) pa_nil))))), ?_⟩
    have e0 : Str.ofString "0" = ⟨#[48]⟩ := by decide +kernel
    have e48 : t.cps.toList[p]? = (TL.numL i ++ rest)[0]? := by rw [← hsp, List.getElem?_drop]; rfl
    refine ⟨_, rfl, r, _, dx, _, _, rfl, hrd, c, n1, rfl, rfl, _, rfl, r, _, dx, _, _, rfl, hrd, c, n2, rfl, t, Str.ofString "0", (p : Int), rfl, rfl, _, rfl, ?_⟩
    rw [e0, sw3_one, e48]
    by_cases i0 : i = 0
    · subst i0
      have en : TL.numL 0 = [48] := TL.numL_lt (by decide)
      rw [en] at q ⊢
      have ed : decide (([48] ++ rest)[0]? = some 48) = true := decide_eq_true rfl
      rw [ed]
      refine iteT ?_
      refine ⟨_, rfl, r, _, dx, _, _, rfl, hrd, c, n2, rfl, _, _, rfl, rfl, _, rfl, r, CR, dx, _, rfl, hrd, c, n2, by show 4 < 1000; decide, ?_⟩
      exact q dx hrd
    · have ne := TL.numL_ne i
      have hd : ¬ ((TL.numL i ++ rest)[0]? = some 48) := fun z => by
        cases e : TL.numL i with
        | nil => exact ne e
        | cons a r0 =>
          rw [e] at z
          have z1 : a = 48 := Option.some.inj z
          exact numL_head i (by omega) a (by rw [e]; rfl) z1
      rw [decide_eq_false hd]
      refine iteF ?_
      have es : (⟨(TL.numL i).toArray⟩ : Str) = Str.ofString (toString (i : Int)) := TL.ext_tl (by rw [TL.tl_num])
      have ln := TL.numL_len (n := i) (k := 60) (by decide) hi
      refine ⟨_, rfl, r, CR, dx, _, _, rfl, hrd, ⟨rfl, rfl⟩, rfl, r, t, dgs, p, n, l, 60, TL.numL i, rest, rfl, ⟨dx, hrd⟩, tz, by decide, hsp, ne, fun c hc => dgs_in (TL.numL_digits i c hc), ln, fun _ c hc hin => hno c hc (dgs_out hin), fun dx2 h2 => ?_⟩
      refine ⟨_, (i : Int), rfl, by rw [es]; exact TL.int_num (by omega), by show ((TL.numL i).toArray).size ≤ 640; rw [List.size_toArray]; omega, ?_⟩
      exact q dx2 h2
end
end Pl

namespace Pl
open PySem L2 PySem.Spec PyProof.Rows
/-! ### texts of terms: a grammar -/
def cs (x : Str) : List Nat := x.cps.toList
theorem cs_cat (x y : Str) : cs (x ++ y) = cs x ++ cs y := TL.tl_append x y
theorem cs_num {i : Nat} : cs (numS (i : Int)) = TL.numL i := TL.tl_num i
/-- the text x reads as the term t: so many parts, looks, so deep -/
inductive Rd : List Nat → Tm → Nat → Nat → Nat → Prop
  | now : Rd (cs "now") .now 1 0 1
  | plus {x : List Nat} {t : Tm} {k l d i : Nat} : Rd x t k l d → i < 10 ^ 60 → Rd (cs "(" ++ x ++ cs " + " ++ TL.numL i ++ cs ")") (t.shd i) (k + 1) l (d + 1)
  | minus {x : List Nat} {t : Tm} {k l d i : Nat} : Rd x t k l d → i < 10 ^ 60 → Rd (cs "(" ++ x ++ cs " - " ++ TL.numL i ++ cs ")") (t.shd (-(i : Int))) (k + 1) l (d + 1)
  | either {x y : List Nat} {a b : Tm} {k l d k2 l2 d2 : Nat} : Rd x a k l d → Rd y b k2 l2 d2 → Rd (cs "(" ++ x ++ cs " or " ++ y ++ cs ")") (.either a b) (1 + k + k2) (l + l2) (1 + max d d2)
  | later {x y : List Nat} {a b : Tm} {k l d k2 l2 d2 : Nat} : Rd x a k l d → Rd y b k2 l2 d2 → Rd (cs "later(" ++ x ++ cs ", " ++ y ++ cs ")") (.later a b) (1 + k + k2) (l + l2) (1 + max d d2)
  | earlier {x y : List Nat} {a b : Tm} {k l d k2 l2 d2 : Nat} : Rd x a k l d → Rd y b k2 l2 d2 → Rd (cs "earlier(" ++ x ++ cs ", " ++ y ++ cs ")") (.earlier a b) (1 + k + k2) (l + l2) (1 + max d d2)
  | look {x : List Nat} {t : Tm} {k l d : Nat} {z wy : Str} {lim : Option Int} : Rd x t k l d → GName z → wy ∈ ways → (∀ i, lim = some i → 0 ≤ i) → (∀ i, lim = some i → i < 10 ^ 60) → Rd (cs (wordS wy) ++ cs " " ++ cs z ++ cs (farS lim) ++ cs " " ++ cs wy ++ cs " " ++ x) (.look z t wy lim) (k + 1) (l + 1) (d + 1)
/-- a term's own text reads as the term -/
theorem rd_wr {ks : Kd → Bool} : ∀ {t : Tm}, Good ks t → Bd (10 ^ 60 - 1) t → ∃ k l d : Nat, Rd (cs (wr t)) t k l d ∧ (k : Int) = t.sz.p ∧ (l : Int) = t.sz.l ∧ (d : Int) = t.sz.d
  | .now, _, _ => ⟨1, 0, 1, .now, rfl, rfl, rfl⟩
  | .shift m c, g, b => by
    obtain ⟨k, l, d, r, e1, e2, e3⟩ := rd_wr g.2.1 b.2.2
    have p1 : (Tm.shift m c).sz.p = 1 + m.sz.p := szOf1_p (lo := 0) (co := 0)
    have p2 : (Tm.shift m c).sz.d = 1 + m.sz.d := szOf1_d (lo := 0) (co := 0)
    have p3 : (Tm.shift m c).sz.l = 0 + m.sz.l := szOf1_l (lo := 0) (co := 0)
    have c0 := g.2.2.1
    have b1 := b.1
    have b2 := b.2.1
    refine ⟨k + 1, l, d + 1, ?_, by omega, by omega, by omega⟩
    by_cases h : 0 < c
    · obtain ⟨i, rfl⟩ := Int.eq_ofNat_of_zero_le (by omega : 0 ≤ c)
      have hi : i < 10 ^ 60 := by omega
      have r2 := Rd.plus r hi
      have es : m.shd (i : Int) = .shift m i := by rw [shd_ns g.2.2.2, if_neg c0]
      rw [es] at r2
      have et : cs (wr (.shift m (i : Int))) = cs "(" ++ cs (wr m) ++ cs " + " ++ TL.numL i ++ cs ")" := by
        have e0 : wr (.shift m (i : Int)) = Str.ofString "(" ++ wr m ++ Str.ofString " " ++ Str.ofString "+" ++ Str.ofString " " ++ numS (i : Int) ++ Str.ofString ")" := by
          show Str.ofString "(" ++ wr m ++ Str.ofString " " ++ (if 0 < (i : Int) then (Str.ofString "+") else (Str.ofString "-")) ++ Str.ofString " " ++ numS (if (i : Int) < 0 then -(i : Int) else i) ++ Str.ofString ")" = _
          rw [if_pos h, if_neg (by omega)]
        have e4 : cs (Str.ofString " + ") = cs (Str.ofString " ") ++ cs (Str.ofString "+") ++ cs (Str.ofString " ") := by decide +kernel
        rw [e0, e4]
        simp only [cs_cat, cs_num, List.append_assoc]
      rw [et]; exact r2
    · obtain ⟨i, hi0⟩ := Int.eq_ofNat_of_zero_le (by omega : 0 ≤ -c)
      have hc : c = -(i : Int) := by omega
      subst hc
      have hi : i < 10 ^ 60 := by omega
      have r2 := Rd.minus r hi
      have es : m.shd (-(i : Int)) = .shift m (-(i : Int)) := by rw [shd_ns g.2.2.2, if_neg c0]
      rw [es] at r2
      have et : cs (wr (.shift m (-(i : Int)))) = cs "(" ++ cs (wr m) ++ cs " - " ++ TL.numL i ++ cs ")" := by
        have e0 : wr (.shift m (-(i : Int))) = Str.ofString "(" ++ wr m ++ Str.ofString " " ++ Str.ofString "-" ++ Str.ofString " " ++ numS (i : Int) ++ Str.ofString ")" := by
          show Str.ofString "(" ++ wr m ++ Str.ofString " " ++ (if 0 < (-(i : Int)) then (Str.ofString "+") else (Str.ofString "-")) ++ Str.ofString " " ++ numS (if (-(i : Int)) < 0 then -(-(i : Int)) else (-(i : Int))) ++ Str.ofString ")" = _
          rw [if_neg h, if_pos (by omega), Int.neg_neg]
        have e4 : cs (Str.ofString " - ") = cs (Str.ofString " ") ++ cs (Str.ofString "-") ++ cs (Str.ofString " ") := by decide +kernel
        rw [e0, e4]
        simp only [cs_cat, cs_num, List.append_assoc]
      rw [et]; exact r2
  | .look z m wy lim, g, b => by
    obtain ⟨k, l, d, r, e1, e2, e3⟩ := rd_wr g.2.1 b.2
    have p1 : (Tm.look z m wy lim).sz.p = 1 + m.sz.p := szOf1_p (lo := 1) (co := 1)
    have p2 : (Tm.look z m wy lim).sz.d = 1 + m.sz.d := szOf1_d (lo := 1) (co := 1)
    have p3 : (Tm.look z m wy lim).sz.l = 1 + m.sz.l := szOf1_l (lo := 1) (co := 1)
    refine ⟨k + 1, l + 1, d + 1, ?_, by omega, by omega, by omega⟩
    have r2 := Rd.look r g.2.2.1 g.2.2.2.1 g.2.2.2.2 (fun i h => by have := b.1 i h; omega)
    have et : cs (wr (.look z m wy lim)) = cs (wordS wy) ++ cs " " ++ cs z ++ cs (farS lim) ++ cs " " ++ cs wy ++ cs " " ++ cs (wr m) := by
      show cs (wordS wy ++ Str.ofString " " ++ z ++ farS lim ++ Str.ofString " " ++ wy ++ Str.ofString " " ++ wr m) = _
      simp only [cs_cat]
    rw [et]; exact r2
  | .either x y, g, b => by
    obtain ⟨k, l, d, r, e1, e2, e3⟩ := rd_wr g.2.1 b.1
    obtain ⟨k2, l2, d2, r2, f1, f2, f3⟩ := rd_wr g.2.2 b.2
    have p1 : (Tm.either x y).sz.p = 1 + (x.sz.p + y.sz.p) := szOf2_p (lo := 0) (co := 0)
    have p2 : (Tm.either x y).sz.d = _ := szOf2_d (lo := 0) (co := 0)
    have p3 : (Tm.either x y).sz.l = 0 + (x.sz.l + y.sz.l) := szOf2_l (lo := 0) (co := 0)
    have et : cs (wr (.either x y)) = cs "(" ++ cs (wr x) ++ cs " or " ++ cs (wr y) ++ cs ")" := by
      show cs (Str.ofString "(" ++ wr x ++ Str.ofString " or " ++ wr y ++ Str.ofString ")") = _
      simp only [cs_cat]
    refine ⟨1 + k + k2, l + l2, 1 + max d d2, ?_, by omega, by omega, by omega⟩
    rw [et]; exact .either r r2
  | .later x y, g, b => by
    obtain ⟨k, l, d, r, e1, e2, e3⟩ := rd_wr g.2.1 b.1
    obtain ⟨k2, l2, d2, r2, f1, f2, f3⟩ := rd_wr g.2.2 b.2
    have p1 : (Tm.later x y).sz.p = 1 + (x.sz.p + y.sz.p) := szOf2_p (lo := 0) (co := 1)
    have p2 : (Tm.later x y).sz.d = _ := szOf2_d (lo := 0) (co := 1)
    have p3 : (Tm.later x y).sz.l = 0 + (x.sz.l + y.sz.l) := szOf2_l (lo := 0) (co := 1)
    have et : cs (wr (.later x y)) = cs "later(" ++ cs (wr x) ++ cs ", " ++ cs (wr y) ++ cs ")" := by
      have e4 : cs (Str.ofString "later(") = cs (Str.ofString "later") ++ cs (Str.ofString "(") := by decide +kernel
      show cs (Str.ofString "later" ++ Str.ofString "(" ++ wr x ++ Str.ofString ", " ++ wr y ++ Str.ofString ")") = _
      rw [e4]
      simp only [cs_cat]
    refine ⟨1 + k + k2, l + l2, 1 + max d d2, ?_, by omega, by omega, by omega⟩
    rw [et]; exact .later r r2
  | .earlier x y, g, b => by
    obtain ⟨k, l, d, r, e1, e2, e3⟩ := rd_wr g.2.1 b.1
    obtain ⟨k2, l2, d2, r2, f1, f2, f3⟩ := rd_wr g.2.2 b.2
    have p1 : (Tm.earlier x y).sz.p = 1 + (x.sz.p + y.sz.p) := szOf2_p (lo := 0) (co := 1)
    have p2 : (Tm.earlier x y).sz.d = _ := szOf2_d (lo := 0) (co := 1)
    have p3 : (Tm.earlier x y).sz.l = 0 + (x.sz.l + y.sz.l) := szOf2_l (lo := 0) (co := 1)
    have et : cs (wr (.earlier x y)) = cs "earlier(" ++ cs (wr x) ++ cs ", " ++ cs (wr y) ++ cs ")" := by
      have e4 : cs (Str.ofString "earlier(") = cs (Str.ofString "earlier") ++ cs (Str.ofString "(") := by decide +kernel
      show cs (Str.ofString "earlier" ++ Str.ofString "(" ++ wr x ++ Str.ofString ", " ++ wr y ++ Str.ofString ")") = _
      rw [e4]
      simp only [cs_cat]
    refine ⟨1 + k + k2, l + l2, 1 + max d d2, ?_, by omega, by omega, by omega⟩
    rw [et]; exact .earlier r r2
theorem rd_good {ks : Kd → Bool} (hk : ∀ k, ks k = true) : ∀ {x : List Nat} {t : Tm} {k l d : Nat}, Rd x t k l d → Good ks t := by
  intro x t k l d r
  induction r with
  | now => exact hk _
  | plus _ _ ih => exact ih.shd (hk _)
  | minus _ _ ih => exact ih.shd (hk _)
  | either _ _ i1 i2 => exact ⟨hk _, i1, i2⟩
  | later _ _ i1 i2 => exact ⟨hk _, i1, i2⟩
  | earlier _ _ i1 i2 => exact ⟨hk _, i1, i2⟩
  | look _ gz hw h0 _ ih => exact ⟨hk _, ih, gz, hw, h0⟩
theorem rd_sz : ∀ {x : List Nat} {t : Tm} {k l d : Nat}, Rd x t k l d → t.sz.d ≤ d ∧ t.sz.p ≤ k ∧ t.sz.l ≤ l := by
  intro x t k l d r
  induction r with
  | now => exact ⟨Int.le_refl _, Int.le_refl _, Int.le_refl _⟩
  | @plus x t k l d i _ _ ih =>
    have h := shd_d (t := t) (c := (i : Int))
    omega
  | @minus x t k l d i _ _ ih =>
    have h := shd_d (t := t) (c := -(i : Int))
    omega
  | @either x y a b k l d k2 l2 d2 _ _ i1 i2 =>
    have p1 : (Tm.either a b).sz.p = 1 + (a.sz.p + b.sz.p) := szOf2_p (lo := 0) (co := 0)
    have p2 : (Tm.either a b).sz.d = _ := szOf2_d (lo := 0) (co := 0)
    have p3 : (Tm.either a b).sz.l = 0 + (a.sz.l + b.sz.l) := szOf2_l (lo := 0) (co := 0)
    omega
  | @later x y a b k l d k2 l2 d2 _ _ i1 i2 =>
    have p1 : (Tm.later a b).sz.p = 1 + (a.sz.p + b.sz.p) := szOf2_p (lo := 0) (co := 1)
    have p2 : (Tm.later a b).sz.d = _ := szOf2_d (lo := 0) (co := 1)
    have p3 : (Tm.later a b).sz.l = 0 + (a.sz.l + b.sz.l) := szOf2_l (lo := 0) (co := 1)
    omega
  | @earlier x y a b k l d k2 l2 d2 _ _ i1 i2 =>
    have p1 : (Tm.earlier a b).sz.p = 1 + (a.sz.p + b.sz.p) := szOf2_p (lo := 0) (co := 1)
    have p2 : (Tm.earlier a b).sz.d = _ := szOf2_d (lo := 0) (co := 1)
    have p3 : (Tm.earlier a b).sz.l = 0 + (a.sz.l + b.sz.l) := szOf2_l (lo := 0) (co := 1)
    omega
  | @look x t k l d z wy lim _ _ _ _ _ ih =>
    have p1 : (Tm.look z t wy lim).sz.p = 1 + t.sz.p := szOf1_p (lo := 1) (co := 1)
    have p2 : (Tm.look z t wy lim).sz.d = 1 + t.sz.d := szOf1_d (lo := 1) (co := 1)
    have p3 : (Tm.look z t wy lim).sz.l = 1 + t.sz.l := szOf1_l (lo := 1) (co := 1)
    omega
end Pl

namespace Pl
open PySem L2 PySem.Spec PyProof.Rows
/-! ### the reader -/
def KtA (A : CA) (H H' : Hp) : Prop := (∀ (a : Addr) (k : Kd) (dx : Addr) fs, H a = some (.ins (A.cls k) dx fs) → H' a = some (.ins (A.cls k) dx fs)) ∧ ∀ (a : Addr) xs, H a = some (.tup xs) → H' a = some (.tup xs)
theorem TermAt.kta {A : CA} {H H' : Hp} (k : KtA A H H') : ∀ {t : Tm} {a : Addr}, TermAt A H t a → TermAt A H' t a
  | .now, _, ⟨dx, ch, h1, h2⟩ => ⟨dx, ch, k.1 _ _ _ _ h1, k.2 _ _ h2⟩
  | .shift _ _, _, ⟨dx, ch, ma, h1, h2, h3⟩ => ⟨dx, ch, ma, k.1 _ _ _ _ h1, k.2 _ _ h2, TermAt.kta k h3⟩
  | .look _ _ _ _, _, ⟨dx, ch, ma, h1, h2, h3⟩ => ⟨dx, ch, ma, k.1 _ _ _ _ h1, k.2 _ _ h2, TermAt.kta k h3⟩
  | .either _ _, _, ⟨dx, ch, xa, ya, h1, h2, h3, h4⟩ => ⟨dx, ch, xa, ya, k.1 _ _ _ _ h1, k.2 _ _ h2, TermAt.kta k h3, TermAt.kta k h4⟩
  | .later _ _, _, ⟨dx, ch, xa, ya, h1, h2, h3, h4⟩ => ⟨dx, ch, xa, ya, k.1 _ _ _ _ h1, k.2 _ _ h2, TermAt.kta k h3, TermAt.kta k h4⟩
  | .earlier _ _, _, ⟨dx, ch, xa, ya, h1, h2, h3, h4⟩ => ⟨dx, ch, xa, ya, k.1 _ _ _ _ h1, k.2 _ _ h2, TermAt.kta k h3, TermAt.kta k h4⟩
/-- all but the reader stays -/
def KB (r : Addr) (H H' : Hp) : Prop := ∀ a o, a ≠ r → H a = some o → H' a = some o
theorem KB.refl {r : Addr} {H : Hp} : KB r H H := fun _ _ _ h => h
theorem KB.trans {r : Addr} {H H1 H2 : Hp} (a : KB r H H1) (b : KB r H1 H2) : KB r H H2 := fun x o n h => b x o n (a x o n h)
theorem KB.upd {r : Addr} {H : Hp} {u : HO} : KB r H (upd H r u) := fun a o n h => (upd_ne n).trans h
theorem KB.of {r : Addr} {H H' : Hp} (s : Same H H') : KB r H H' := fun a o _ h => s a o h
theorem KB.kta {A : CA} {CR r dx : Addr} {H H' : Hp} {fs : List (Str × V)} (hC : ∀ k, A.cls k ≠ CR) (h : H r = some (.ins CR dx fs)) (b : KB r H H') : KtA A H H' := by
  refine ⟨fun a k dy gs e => b a _ (fun z => ?_) e, fun a xs e => b a _ (ne_of e h (by intro z; cases z)) e⟩
  subst z; rw [h] at e; cases e; exact hC k rfl
section
variable {P : Program} {w : World} {K : Fg} {mg : Str → Option Value} {base : Heap} {A : CA} {ks : Kd → Bool} {CW CR : Addr}
/-- a term read: what the text holds there, what the reader is afterwards -/
def spRT (A : CA) (CR : Addr) (D : Nat) : Sp := fun vs H Q _ => ∃ (r : Addr) (txt : Str) (p n l ins : Nat) (x rest : List Nat) (t : Tm) (k lk d : Nat), vs = [.ref r, .int ins] ∧ RdAt CR H r txt p n l ∧ txt.length ≤ 100000 ∧ txt.cps.toList.drop p = x ++ rest ∧ Rd x t k lk d ∧ d ≤ D ∧ ins + d ≤ 12 ∧ n + k ≤ 40 ∧ l + lk ≤ 12 ∧
  ∀ a H', KB r H H' → RdAt CR H' r txt ((p + x.length : Nat)) ((n + k : Nat)) ((l + lk : Nat)) → TermAt A H' t a → Q (.ref a) H'
def RS (A : CA) (CR : Addr) (D : Nat) (C : Addr) (sp : Sp) : Prop := C = CR ∧ sp = spRT A CR D
/-- what follows '(' -/
inductive RJ : List Nat → Tm → Nat → Nat → Nat → Prop
  | plus {x : List Nat} {t : Tm} {k l d i : Nat} : Rd x t k l d → i < 10 ^ 60 → RJ (x ++ cs " + " ++ TL.numL i ++ cs ")") (t.shd i) k l d
  | minus {x : List Nat} {t : Tm} {k l d i : Nat} : Rd x t k l d → i < 10 ^ 60 → RJ (x ++ cs " - " ++ TL.numL i ++ cs ")") (t.shd (-(i : Int))) k l d
  | either {x y : List Nat} {a b : Tm} {k l d k2 l2 d2 : Nat} : Rd x a k l d → Rd y b k2 l2 d2 → RJ (x ++ cs " or " ++ y ++ cs ")") (.either a b) (k + k2) (l + l2) (max d d2)
/-- '(' is read: a + n, a - n, a or b -/
def spRJ (A : CA) (CR : Addr) (D : Nat) : Sp := fun vs H Q _ => ∃ (r : Addr) (txt : Str) (p n l ins : Nat) (x rest : List Nat) (t : Tm) (k lk d : Nat), vs = [.ref r, .int ins] ∧ RdAt CR H r txt p n l ∧ txt.length ≤ 100000 ∧ txt.cps.toList.drop p = x ++ rest ∧ RJ x t k lk d ∧ d ≤ D ∧ 1 ≤ n ∧ ins + d < 12 ∧ n + k ≤ 40 ∧ l + lk ≤ 12 ∧
  ∀ a H', KB r H H' → RdAt CR H' r txt ((p + x.length : Nat)) ((n + k : Nat)) ((l + lk : Nat)) → TermAt A H' t a → Q (.ref a) H'
theorem ok_Reader_read_joined {D L : Nat} (D0 : ∃ f fd, Fun K "read_joined" "Reader.read_joined" s_Reader_read_joined f fd ∧ Meth K CR "read_joined" f ∧ Binds K fd p_Reader_read_joined []) (T : Tx K mg) (TT : TTx K mg A ks) (hk : ∀ k, ks k = true) (hC : ∀ k, A.cls k ≠ CR) (c : Cls K CR) (gJ : ∃ a, mg "JOINTS" = some (.ref a) ∧ TupK K a [" + ", " - ", " or "]) (hL : 8 ≤ L)
    (c_term : ∀ C sp, RS A CR D C sp → CalI P w K mg base CX0 C "read_term" L sp) (c_word : ∀ C sp, (C = CR ∧ sp = spWord K CR) → CalI P w K mg base CX0 C "read_word" 2 sp) (c_num : ∀ C sp, (C = CR ∧ sp = spNumR CR) → CalI P w K mg base CX0 C "read_number" 4 sp)
    (c_add : ∀ C sp, (∃ k, ks k = true ∧ C = A.cls k) ∧ sp = spSh A ks → CalI P w K mg base CX0 C "__add__" 6 sp ∧ OpTx K C .Add) (c_sub : ∀ C sp, (∃ k, ks k = true ∧ C = A.cls k) ∧ sp = spSub A ks → CalI P w K mg base CX0 C "__sub__" 6 sp ∧ OpTx K C .Sub)
    (c_or : ∀ C C' sp, BinS A ks (spM_either A ks) C C' sp → CalI P w K mg base CX0 C "__or__" 4 sp ∧ OpO K C .BitOr ∧ OpO K C' .BitOr ∧ (C ≠ C' → PySem.W.subIn K (.ref C') (.ref C) = some false)) :
    CalI P w K mg base CX0 CR "read_joined" (L + 1) (spRJ A CR D) := by
  obtain ⟨f, fd, F, m1, hb⟩ := D0
  refine ⟨f, fd, _, F.ok sc_Reader_read_joined (fun vs H Q E h => ?_) (fun cdv A' outer s H vs Q E hr h => ?_), m1, c, hb⟩
  · obtain ⟨r, txt, p, n, l, ins, x, rest, t, k, lk, d, rfl, _⟩ := h; rfl
  · obtain ⟨r, txt, p, n, l, ins, x, rest, t, k, lk, d, rfl, hrd, tz, hsp, rd, dD, n1, d12, n40, l12, q⟩ := h
    obtain ⟨aJ, g_JOINTS, tJ⟩ := gJ
    refine ⟨_, (pss_cons (ps_set (i := 2) sc_Reader_read_joined.nd rfl (Or.inl rfl) (pmsx c_term hr (by omega) pass0 (pv 0) (pa_cons (pe_op op_add (pv 1) pe_int) pa_nil)))
      (pss_cons (ps_set (i := 3) sc_Reader_read_joined.nd rfl (Or.inl rfl) (pmsx c_word hr (by omega) pass0 (pv 0) (pa_cons (pe_glob rfl g_JOINTS rel_r) pa_nil)))
      (pss_cons (ps_if (pt_cmpR op_eq (pv 3) pe_str (nomark _))
        (pss_one (ps_set (i := 4) sc_Reader_read_joined.nd rfl (Or.inl rfl) (pe_op (op_ownO c_or hr (by omega) pass0) (pv 2) (pmsx c_term hr (by omega) pass0 (pv 0) (pa_cons (pe_op op_add (pv 1) pe_int) pa_nil)))))
        (pss_cons (ps_set (i := 5) sc_Reader_read_joined.nd rfl (Or.inl rfl) (pmsx0 c_num hr (by omega) pass0 (pv 0)))
        (pss_one (ps_set (i := 4) sc_Reader_read_joined.nd rfl (Or.inl rfl) (pe_ifExp (pt_cmpR op_eq (pv 3) pe_str (nomark _)) (pe_op (op_ownI c_add hr (by omega) pass0) (pv 2) (pv 5)) (pe_op (op_ownI c_sub hr (by omega) pass0) (pv 2) (pv 5)))))))
      (pss_cons (ps_expr (pmsx c_word hr (by omega) pass0 (pv 0) (pa_cons (pe_tup (pa_cons pe_str pa_nil)) pa_nil)))
      (pss_one (ps_ret (pv 4))))))), ?_⟩
    have dr : ∀ {u v : List Nat} {m : Nat}, txt.cps.toList.drop m = u ++ v → txt.cps.toList.drop (m + u.length) = v := fun {u v m} h => by
      rw [← List.drop_drop, h, List.drop_left]
    cases rd with
    | @plus x t k lk d i rd hi =>
      rw [List.append_assoc, List.append_assoc, List.append_assoc] at hsp
      refine ⟨_, rfl, r, CR, _, _, _, rfl, hrd.choose_spec, ⟨rfl, rfl⟩, rfl, _, rfl, _, _, rfl, rfl, r, txt, p, n, l, ins + 1, x, _, t, k, lk, d, rfl, hrd, tz, hsp, rd, dD, by omega, n40, l12, fun a H1 kb1 hr1 ht => ?_⟩
      have hs1 := dr hsp
      obtain ⟨dx1, h1⟩ := hr1
      have wz : ∀ z ∈ ([Str.ofString " + ", Str.ofString " - ", Str.ofString " or "] : List Str), z.length ≤ 100 := by decide +kernel
      have lp : (Str.ofString " + ").length = 3 := by decide +kernel
      have lc : (cs (Str.ofString " + ")).length = 3 := by decide +kernel
      refine ⟨_, rfl, r, CR, dx1, _, _, rfl, h1, ⟨rfl, rfl⟩, rfl, r, aJ, txt, " + ", p + x.length, _, _, [" + ", " - ", " or "], rfl, ⟨dx1, h1⟩, tJ.sq _, wz, tz, ⟨0, rfl, ?_, fun j z h => absurd h (Nat.not_lt_zero _)⟩, fun dx2 h2 => ?_⟩
      · rw [hs1]; exact cpl_app _ _
      have kb2 := kb1.trans (KB.upd (H := H1) (u := .ins CR dx2 (rdF txt (((p + x.length : Nat) : Int) + ((Str.ofString " + ").length : Int)) ((n + k : Nat)) ((l + lk : Nat)))))
      have h3 : (upd H1 r (.ins CR dx2 (rdF txt (((p + x.length : Nat) : Int) + ((Str.ofString " + ").length : Int)) ((n + k : Nat)) ((l + lk : Nat))))) r = some (.ins CR dx2 (rdF txt ((p + x.length + 3 : Nat)) ((n + k : Nat)) ((l + lk : Nat)))) := by
        rw [upd_same, lp]; rfl
      have t2 := ht.kta (KB.kta hC h1 (KB.upd (u := .ins CR dx2 (rdF txt (((p + x.length : Nat) : Int) + ((Str.ofString " + ").length : Int)) ((n + k : Nat)) ((l + lk : Nat))))))
      generalize upd H1 r (.ins CR dx2 (rdF txt (((p + x.length : Nat) : Int) + ((Str.ofString " + ").length : Int)) ((n + k : Nat)) ((l + lk : Nat)))) = H2 at kb2 h3 t2 ⊢
      have hs2 := dr hs1
      rw [lc] at hs2
      refine ⟨_, rfl, rfl, _, rfl, ite_f (decide_eq_false (fun z => by injection z with z; exact absurd z (by decide +kernel))) ?_⟩
      have p41 : ∀ c0, (cs (Str.ofString ")") ++ rest).head? = some c0 → ¬ (48 ≤ c0 ∧ c0 ≤ 57) := fun c0 h => by
        have e : cs (Str.ofString ")") = [41] := by decide +kernel
        rw [e] at h
        have := Option.some.inj h
        omega
      refine ⟨_, rfl, r, CR, dx2, _, _, rfl, h3, ⟨rfl, rfl⟩, rfl, r, txt, p + x.length + 3, _, _, i, _, rfl, ⟨dx2, h3⟩, tz, hs2, hi, p41, fun dx3 h4 => ?_⟩
      have kb3 := kb2.trans (KB.upd (H := H2) (u := .ins CR dx3 (rdF txt (((p + x.length + 3 : Nat) : Int) + ((TL.numL i).length : Int)) ((n + k : Nat)) ((l + lk : Nat)))))
      have h5 : (upd H2 r (.ins CR dx3 (rdF txt (((p + x.length + 3 : Nat) : Int) + ((TL.numL i).length : Int)) ((n + k : Nat)) ((l + lk : Nat))))) r = some (.ins CR dx3 (rdF txt ((p + x.length + 3 + (TL.numL i).length : Nat)) ((n + k : Nat)) ((l + lk : Nat)))) := by
        rw [upd_same]; rfl
      have t3 := t2.kta (KB.kta hC h3 (KB.upd (u := .ins CR dx3 (rdF txt (((p + x.length + 3 : Nat) : Int) + ((TL.numL i).length : Int)) ((n + k : Nat)) ((l + lk : Nat))))))
      generalize upd H2 r (.ins CR dx3 (rdF txt (((p + x.length + 3 : Nat) : Int) + ((TL.numL i).length : Int)) ((n + k : Nat)) ((l + lk : Nat)))) = H3 at kb3 h5 t3 ⊢
      have hs3 := dr hs2
      have g := rd_good hk rd
      have sz := rd_sz rd
      have sd := shd_d (t := t) (c := (i : Int))
      have ft : Fit (t.shd (i : Int)).sz := ⟨by omega, by omega, by omega⟩
      obtain ⟨dxt, ch, os, g1, _⟩ := t3.hd
      refine ⟨_, rfl, rfl, _, rfl, ite_t (decide_eq_true rfl) ?_⟩
      refine ⟨_, rfl, _, rfl, a, _, dxt, _, (i : Int), _, rfl, rfl, g1, ⟨⟨t.kd, g.k, rfl⟩, rfl⟩, a, (i : Int), t, rfl, t3, g, ft, fun pt H4 s4 tp => ?_⟩
      refine ⟨_, rfl, r, CR, dx3, _, _, rfl, s4 _ _ h5, ⟨rfl, rfl⟩, rfl, by show 1 ≤ sizeLine; decide, fun tw htw => ?_⟩
      have s5 : Same H4 (upd H4 tw (.tup [.str ")"])) := (Same.refl _).new htw
      have e5 : (upd H4 tw (.tup [.str ")"])) tw = some (.tup ([Str.ofString ")"].map V.str)) := upd_same
      generalize upd H4 tw (.tup [.str ")"]) = H5 at s5 e5 ⊢
      have lcp : (Str.ofString ")").length = 1 := by decide +kernel
      have lcp2 : (cs (Str.ofString ")")).length = 1 := by decide +kernel
      have h6 := s5 _ _ (s4 _ _ h5)
      refine ⟨r, tw, txt, ")", p + x.length + 3 + (TL.numL i).length, _, _, [")"], rfl, ⟨dx3, h6⟩, SqT.of e5, by decide +kernel, tz, ⟨0, rfl, ?_, fun j z h => absurd h (Nat.not_lt_zero _)⟩, fun dx4 h7 => ?_⟩
      · rw [hs3]; exact cpl_app _ _
      have kb4 := ((kb3.trans (KB.of s4)).trans (KB.of s5)).trans (KB.upd (H := H5) (u := .ins CR dx4 (rdF txt (((p + x.length + 3 + (TL.numL i).length : Nat) : Int) + ((Str.ofString ")").length : Int)) ((n + k : Nat)) ((l + lk : Nat)))))
      have ln : (x ++ cs " + " ++ TL.numL i ++ cs ")").length = x.length + 3 + (TL.numL i).length + 1 := by
        rw [List.length_append, List.length_append, List.length_append, lc, lcp2]
      refine ⟨_, rfl, q pt _ kb4 ⟨dx4, ?_⟩ ((tp.same s5).kta (KB.kta hC h6 KB.upd))⟩
      have en : (((p + x.length + 3 + (TL.numL i).length : Nat) : Int) + ((1 : Nat) : Int)) = ((p + (x.length + 3 + (TL.numL i).length + 1) : Nat) : Int) := by omega
      rw [upd_same, lcp, ln, en]
    | @minus x t k lk d i rd hi =>
      rw [List.append_assoc, List.append_assoc, List.append_assoc] at hsp
      refine ⟨_, rfl, r, CR, _, _, _, rfl, hrd.choose_spec, ⟨rfl, rfl⟩, rfl, _, rfl, _, _, rfl, rfl, r, txt, p, n, l, ins + 1, x, _, t, k, lk, d, rfl, hrd, tz, hsp, rd, dD, by omega, n40, l12, fun a H1 kb1 hr1 ht => ?_⟩
      have hs1 := dr hsp
      obtain ⟨dx1, h1⟩ := hr1
      have wz : ∀ z ∈ ([Str.ofString " + ", Str.ofString " - ", Str.ofString " or "] : List Str), z.length ≤ 100 := by decide +kernel
      have lp : (Str.ofString " - ").length = 3 := by decide +kernel
      have lc : (cs (Str.ofString " - ")).length = 3 := by decide +kernel
      refine ⟨_, rfl, r, CR, dx1, _, _, rfl, h1, ⟨rfl, rfl⟩, rfl, r, aJ, txt, " - ", p + x.length, _, _, [" + ", " - ", " or "], rfl, ⟨dx1, h1⟩, tJ.sq _, wz, tz, ⟨1, rfl, ?_, fun j z h hz => ?_⟩, fun dx2 h2 => ?_⟩
      · rw [hs1]; exact cpl_app _ _
      · have j0 : j = 0 := by omega
        subst j0
        obtain rfl := Option.some.inj hz
        rw [hs1]
        have ea : cs (Str.ofString " - ") = [32, 45, 32] := by decide +kernel
        have eb : (Str.ofString " + ").cps.toList = [32, 43, 32] := by decide +kernel
        have ec : (Str.ofString " + ").length = 3 := by decide +kernel
        rw [ea, eb, ec]
        show cpl (32 :: 45 :: 32 :: _) [32, 43, 32] ≠ 3
        simp [cpl]
      have kb2 := kb1.trans (KB.upd (H := H1) (u := .ins CR dx2 (rdF txt (((p + x.length : Nat) : Int) + ((Str.ofString " - ").length : Int)) ((n + k : Nat)) ((l + lk : Nat)))))
      have h3 : (upd H1 r (.ins CR dx2 (rdF txt (((p + x.length : Nat) : Int) + ((Str.ofString " - ").length : Int)) ((n + k : Nat)) ((l + lk : Nat))))) r = some (.ins CR dx2 (rdF txt ((p + x.length + 3 : Nat)) ((n + k : Nat)) ((l + lk : Nat)))) := by
        rw [upd_same, lp]; rfl
      have t2 := ht.kta (KB.kta hC h1 (KB.upd (u := .ins CR dx2 (rdF txt (((p + x.length : Nat) : Int) + ((Str.ofString " - ").length : Int)) ((n + k : Nat)) ((l + lk : Nat))))))
      generalize upd H1 r (.ins CR dx2 (rdF txt (((p + x.length : Nat) : Int) + ((Str.ofString " - ").length : Int)) ((n + k : Nat)) ((l + lk : Nat)))) = H2 at kb2 h3 t2 ⊢
      have hs2 := dr hs1
      rw [lc] at hs2
      refine ⟨_, rfl, rfl, _, rfl, ite_f (decide_eq_false (fun z => by injection z with z; exact absurd z (by decide +kernel))) ?_⟩
      have p41 : ∀ c0, (cs (Str.ofString ")") ++ rest).head? = some c0 → ¬ (48 ≤ c0 ∧ c0 ≤ 57) := fun c0 h => by
        have e : cs (Str.ofString ")") = [41] := by decide +kernel
        rw [e] at h
        have := Option.some.inj h
        omega
      refine ⟨_, rfl, r, CR, dx2, _, _, rfl, h3, ⟨rfl, rfl⟩, rfl, r, txt, p + x.length + 3, _, _, i, _, rfl, ⟨dx2, h3⟩, tz, hs2, hi, p41, fun dx3 h4 => ?_⟩
      have kb3 := kb2.trans (KB.upd (H := H2) (u := .ins CR dx3 (rdF txt (((p + x.length + 3 : Nat) : Int) + ((TL.numL i).length : Int)) ((n + k : Nat)) ((l + lk : Nat)))))
      have h5 : (upd H2 r (.ins CR dx3 (rdF txt (((p + x.length + 3 : Nat) : Int) + ((TL.numL i).length : Int)) ((n + k : Nat)) ((l + lk : Nat))))) r = some (.ins CR dx3 (rdF txt ((p + x.length + 3 + (TL.numL i).length : Nat)) ((n + k : Nat)) ((l + lk : Nat)))) := by
        rw [upd_same]; rfl
      have t3 := t2.kta (KB.kta hC h3 (KB.upd (u := .ins CR dx3 (rdF txt (((p + x.length + 3 : Nat) : Int) + ((TL.numL i).length : Int)) ((n + k : Nat)) ((l + lk : Nat))))))
      generalize upd H2 r (.ins CR dx3 (rdF txt (((p + x.length + 3 : Nat) : Int) + ((TL.numL i).length : Int)) ((n + k : Nat)) ((l + lk : Nat)))) = H3 at kb3 h5 t3 ⊢
      have hs3 := dr hs2
      have g := rd_good hk rd
      have sz := rd_sz rd
      have sd := shd_d (t := t) (c := -(i : Int))
      have ft : Fit (t.shd (-(i : Int))).sz := ⟨by omega, by omega, by omega⟩
      obtain ⟨dxt, ch, os, g1, _⟩ := t3.hd
      refine ⟨_, rfl, rfl, _, rfl, ite_f (decide_eq_false (fun z => by injection z with z; exact absurd z (by decide +kernel))) ?_⟩
      refine ⟨_, rfl, _, rfl, a, _, dxt, _, (i : Int), _, rfl, rfl, g1, ⟨⟨t.kd, g.k, rfl⟩, rfl⟩, a, (i : Int), t, rfl, t3, g, ft, fun pt H4 s4 tp => ?_⟩
      refine ⟨_, rfl, r, CR, dx3, _, _, rfl, s4 _ _ h5, ⟨rfl, rfl⟩, rfl, by show 1 ≤ sizeLine; decide, fun tw htw => ?_⟩
      have s5 : Same H4 (upd H4 tw (.tup [.str ")"])) := (Same.refl _).new htw
      have e5 : (upd H4 tw (.tup [.str ")"])) tw = some (.tup ([Str.ofString ")"].map V.str)) := upd_same
      generalize upd H4 tw (.tup [.str ")"]) = H5 at s5 e5 ⊢
      have lcp : (Str.ofString ")").length = 1 := by decide +kernel
      have lcp2 : (cs (Str.ofString ")")).length = 1 := by decide +kernel
      have h6 := s5 _ _ (s4 _ _ h5)
      refine ⟨r, tw, txt, ")", p + x.length + 3 + (TL.numL i).length, _, _, [")"], rfl, ⟨dx3, h6⟩, SqT.of e5, by decide +kernel, tz, ⟨0, rfl, ?_, fun j z h => absurd h (Nat.not_lt_zero _)⟩, fun dx4 h7 => ?_⟩
      · rw [hs3]; exact cpl_app _ _
      have kb4 := ((kb3.trans (KB.of s4)).trans (KB.of s5)).trans (KB.upd (H := H5) (u := .ins CR dx4 (rdF txt (((p + x.length + 3 + (TL.numL i).length : Nat) : Int) + ((Str.ofString ")").length : Int)) ((n + k : Nat)) ((l + lk : Nat)))))
      have ln : (x ++ cs " - " ++ TL.numL i ++ cs ")").length = x.length + 3 + (TL.numL i).length + 1 := by
        rw [List.length_append, List.length_append, List.length_append, lc, lcp2]
      refine ⟨_, rfl, q pt _ kb4 ⟨dx4, ?_⟩ ((tp.same s5).kta (KB.kta hC h6 KB.upd))⟩
      have en : (((p + x.length + 3 + (TL.numL i).length : Nat) : Int) + ((1 : Nat) : Int)) = ((p + (x.length + 3 + (TL.numL i).length + 1) : Nat) : Int) := by omega
      rw [upd_same, lcp, ln, en]
    | @either x y ta tb k lk d k2 l2 d2 ra rb =>
      rw [List.append_assoc, List.append_assoc, List.append_assoc] at hsp
      refine ⟨_, rfl, r, CR, _, _, _, rfl, hrd.choose_spec, ⟨rfl, rfl⟩, rfl, _, rfl, _, _, rfl, rfl, r, txt, p, n, l, ins + 1, x, _, ta, k, lk, d, rfl, hrd, tz, hsp, ra, by omega, by omega, by omega, by omega, fun a H1 kb1 hr1 ht => ?_⟩
      have hs1 := dr hsp
      obtain ⟨dx1, h1⟩ := hr1
      have wz : ∀ z ∈ ([Str.ofString " + ", Str.ofString " - ", Str.ofString " or "] : List Str), z.length ≤ 100 := by decide +kernel
      have lp : (Str.ofString " or ").length = 4 := by decide +kernel
      have lc : (cs (Str.ofString " or ")).length = 4 := by decide +kernel
      refine ⟨_, rfl, r, CR, dx1, _, _, rfl, h1, ⟨rfl, rfl⟩, rfl, r, aJ, txt, " or ", p + x.length, _, _, [" + ", " - ", " or "], rfl, ⟨dx1, h1⟩, tJ.sq _, wz, tz, ⟨2, rfl, ?_, fun j z h hz => ?_⟩, fun dx2 h2 => ?_⟩
      · rw [hs1]; exact cpl_app _ _
      · rw [hs1]
        have ea : cs (Str.ofString " or ") = [32, 111, 114, 32] := by decide +kernel
        have eb : (Str.ofString " + ").cps.toList = [32, 43, 32] := by decide +kernel
        have ec : (Str.ofString " + ").length = 3 := by decide +kernel
        have eb2 : (Str.ofString " - ").cps.toList = [32, 45, 32] := by decide +kernel
        have ec2 : (Str.ofString " - ").length = 3 := by decide +kernel
        have j01 : j = 0 ∨ j = 1 := by omega
        rcases j01 with rfl | rfl
        · obtain rfl := Option.some.inj hz
          rw [ea, eb, ec]
          show cpl (32 :: 111 :: _) [32, 43, 32] ≠ 3
          simp [cpl]
        · obtain rfl := Option.some.inj hz
          rw [ea, eb2, ec2]
          show cpl (32 :: 111 :: _) [32, 45, 32] ≠ 3
          simp [cpl]
      have kb2 := kb1.trans (KB.upd (H := H1) (u := .ins CR dx2 (rdF txt (((p + x.length : Nat) : Int) + ((Str.ofString " or ").length : Int)) ((n + k : Nat)) ((l + lk : Nat)))))
      have h3 : (upd H1 r (.ins CR dx2 (rdF txt (((p + x.length : Nat) : Int) + ((Str.ofString " or ").length : Int)) ((n + k : Nat)) ((l + lk : Nat))))) r = some (.ins CR dx2 (rdF txt ((p + x.length + 4 : Nat)) ((n + k : Nat)) ((l + lk : Nat)))) := by
        rw [upd_same, lp]; rfl
      have t2 := ht.kta (KB.kta hC h1 (KB.upd (u := .ins CR dx2 (rdF txt (((p + x.length : Nat) : Int) + ((Str.ofString " or ").length : Int)) ((n + k : Nat)) ((l + lk : Nat))))))
      generalize upd H1 r (.ins CR dx2 (rdF txt (((p + x.length : Nat) : Int) + ((Str.ofString " or ").length : Int)) ((n + k : Nat)) ((l + lk : Nat)))) = H2 at kb2 h3 t2 ⊢
      have hs2 := dr hs1
      rw [lc] at hs2
      refine ⟨_, rfl, rfl, _, rfl, ite_t (decide_eq_true rfl) ?_⟩
      refine ⟨_, rfl, _, rfl, r, CR, dx2, _, _, rfl, h3, ⟨rfl, rfl⟩, rfl, _, rfl, _, _, rfl, rfl, r, txt, p + x.length + 4, n + k, l + lk, ins + 1, y, _, tb, k2, l2, d2, rfl, ⟨dx2, h3⟩, tz, hs2, rb, by omega, by omega, by omega, by omega, fun b H3 kb3a hr3 t3b => ?_⟩
      have kb3 := kb2.trans kb3a
      have t3 := t2.kta (KB.kta hC h3 kb3a)
      obtain ⟨dx3, h5⟩ := hr3
      have hs3 := dr hs2
      have ga := rd_good hk ra
      have gb := rd_good hk rb
      have sza := rd_sz ra
      have szb := rd_sz rb
      have ft : Fit (Tm.sz (.either ta tb)) := by
        have p1 : (Tm.either ta tb).sz.p = 1 + (ta.sz.p + tb.sz.p) := szOf2_p (lo := 0) (co := 0)
        have p2 : (Tm.either ta tb).sz.d = _ := szOf2_d (lo := 0) (co := 0)
        have p3 : (Tm.either ta tb).sz.l = 0 + (ta.sz.l + tb.sz.l) := szOf2_l (lo := 0) (co := 0)
        exact ⟨by omega, by omega, by omega⟩
      obtain ⟨dxa, c1, o1, e1, _⟩ := t3.hd
      obtain ⟨dxb, c2, o2, e2, _⟩ := t3b.hd
      refine ⟨a, _, dxa, _, b, _, dxb, _, _, rfl, e1, rfl, e2, ⟨⟨ta.kd, ga.k, rfl⟩, ⟨tb.kd, gb.k, rfl⟩, rfl⟩, a, b, ta, tb, rfl, t3, t3b, ga.k, gb.k, ft, fun pt H4 s4 tp => ?_⟩
      refine ⟨_, rfl, r, CR, dx3, _, _, rfl, s4 _ _ h5, ⟨rfl, rfl⟩, rfl, by show 1 ≤ sizeLine; decide, fun tw htw => ?_⟩
      have s5 : Same H4 (upd H4 tw (.tup [.str ")"])) := (Same.refl _).new htw
      have e5 : (upd H4 tw (.tup [.str ")"])) tw = some (.tup ([Str.ofString ")"].map V.str)) := upd_same
      generalize upd H4 tw (.tup [.str ")"]) = H5 at s5 e5 ⊢
      have lcp : (Str.ofString ")").length = 1 := by decide +kernel
      have lcp2 : (cs (Str.ofString ")")).length = 1 := by decide +kernel
      have h6 := s5 _ _ (s4 _ _ h5)
      refine ⟨r, tw, txt, ")", p + x.length + 4 + y.length, _, _, [")"], rfl, ⟨dx3, h6⟩, SqT.of e5, by decide +kernel, tz, ⟨0, rfl, ?_, fun j z h => absurd h (Nat.not_lt_zero _)⟩, fun dx4 h7 => ?_⟩
      · rw [hs3]; exact cpl_app _ _
      have kb4 := ((kb3.trans (KB.of s4)).trans (KB.of s5)).trans (KB.upd (H := H5) (u := .ins CR dx4 (rdF txt (((p + x.length + 4 + y.length : Nat) : Int) + ((Str.ofString ")").length : Int)) ((n + k + k2 : Nat)) ((l + lk + l2 : Nat)))))
      have ln : (x ++ cs " or " ++ y ++ cs ")").length = x.length + 4 + y.length + 1 := by
        rw [List.length_append, List.length_append, List.length_append, lc, lcp2]
      refine ⟨_, rfl, q pt _ kb4 ⟨dx4, ?_⟩ ((tp.same s5).kta (KB.kta hC h6 KB.upd))⟩
      have en : (((p + x.length + 4 + y.length : Nat) : Int) + ((1 : Nat) : Int)) = ((p + (x.length + 4 + y.length + 1) : Nat) : Int) := by omega
      rw [upd_same, lcp, ln, en, Nat.add_assoc n k k2, Nat.add_assoc l lk l2]
/-- 'later(' or 'earlier(' is read -/
def spRO (A : CA) (CR : Addr) (D : Nat) : Sp := fun vs H Q _ => ∃ (r : Addr) (txt : Str) (lt : Bool) (p n l ins : Nat) (x y rest : List Nat) (ta tb : Tm) (k lk d k2 l2 d2 : Nat), vs = [.ref r, .str (if lt then "later(" else "earlier("), .int ins] ∧ RdAt CR H r txt p n l ∧ txt.length ≤ 100000 ∧ txt.cps.toList.drop p = x ++ cs ", " ++ y ++ cs ")" ++ rest ∧ Rd x ta k lk d ∧ Rd y tb k2 l2 d2 ∧ max d d2 ≤ D ∧ 1 ≤ n ∧ ins + max d d2 < 12 ∧ n + k + k2 ≤ 40 ∧ l + lk + l2 ≤ 12 ∧
  ∀ a H', KB r H H' → RdAt CR H' r txt ((p + (x.length + 2 + y.length + 1) : Nat)) ((n + k + k2 : Nat)) ((l + lk + l2 : Nat)) → TermAt A H' (if lt then .later ta tb else .earlier ta tb) a → Q (.ref a) H'
theorem ok_Reader_read_ordered {D L : Nat} (D0 : ∃ f fd, Fun K "read_ordered" "Reader.read_ordered" s_Reader_read_ordered f fd ∧ Meth K CR "read_ordered" f ∧ Binds K fd p_Reader_read_ordered []) (T : Tx K mg) (TT : TTx K mg A ks) (hk : ∀ k, ks k = true) (hC : ∀ k, A.cls k ≠ CR) (c : Cls K CR) (hL : 8 ≤ L)
    (c_term : ∀ C sp, RS A CR D C sp → CalI P w K mg base CX0 C "read_term" L sp) (c_word : ∀ C sp, (C = CR ∧ sp = spWord K CR) → CalI P w K mg base CX0 C "read_word" 2 sp)
    (c_later : ∀ C sp, (∃ k, ks k = true ∧ C = A.cls k) ∧ sp = spM_later A ks → CalI P w K mg base CX0 C "later" 4 sp) (c_earlier : ∀ C sp, (∃ k, ks k = true ∧ C = A.cls k) ∧ sp = spM_earlier A ks → CalI P w K mg base CX0 C "earlier" 4 sp) :
    CalI P w K mg base CX0 CR "read_ordered" (L + 1) (spRO A CR D) := by
  obtain ⟨f, fd, F, m1, hb⟩ := D0
  refine ⟨f, fd, _, F.ok sc_Reader_read_ordered (fun vs H Q E h => ?_) (fun cdv A' outer s H vs Q E hr h => ?_), m1, c, hb⟩
  · obtain ⟨r, txt, lt, p, n, l, ins, x, y, rest, ta, tb, k, lk, d, k2, l2, d2, rfl, _⟩ := h; rfl
  · obtain ⟨r, txt, lt, p, n, l, ins, x, y, rest, ta, tb, k, lk, d, k2, l2, d2, rfl, hrd, tz, hsp, ra, rb, dD, n1, d12, n40, l12, q⟩ := h
    refine ⟨_, (pss_cons (ps_set (i := 3) sc_Reader_read_ordered.nd rfl (Or.inl rfl) (pmsx c_term hr (by omega) pass0 (pv 0) (pa_cons (pe_op op_add (pv 2) pe_int) pa_nil)))
      (pss_cons (ps_expr (pmsx c_word hr (by omega) pass0 (pv 0) (pa_cons (pe_tup (pa_cons pe_str pa_nil)) pa_nil)))
      (pss_cons (ps_set (i := 4) sc_Reader_read_ordered.nd rfl (Or.inl rfl) (pmsx c_term hr (by omega) pass0 (pv 0) (pa_cons (pe_op op_add (pv 2) pe_int) pa_nil)))
      (pss_cons (ps_expr (pmsx c_word hr (by omega) pass0 (pv 0) (pa_cons (pe_tup (pa_cons pe_str pa_nil)) pa_nil)))
      (pss_one (ps_ret (pe_ifExp (pt_cmpR op_eq (pv 1) pe_str (nomark _)) (pmsx c_later hr (by omega) pass0 (pv 3) (pa_cons (pv 4) pa_nil)) (pmsx c_earlier hr (by omega) pass0 (pv 3) (pa_cons (pv 4) pa_nil))))))))), ?_⟩
    have dr : ∀ {u v : List Nat} {m : Nat}, txt.cps.toList.drop m = u ++ v → txt.cps.toList.drop (m + u.length) = v := fun {u v m} h => by
      rw [← List.drop_drop, h, List.drop_left]
    rw [List.append_assoc, List.append_assoc, List.append_assoc] at hsp
    refine ⟨_, rfl, r, CR, _, _, _, rfl, hrd.choose_spec, ⟨rfl, rfl⟩, rfl, _, rfl, _, _, rfl, rfl, r, txt, p, n, l, ins + 1, x, _, ta, k, lk, d, rfl, hrd, tz, hsp, ra, by omega, by omega, by omega, by omega, fun a H1 kb1 hr1 ht => ?_⟩
    have hs1 := dr hsp
    obtain ⟨dx1, h1⟩ := hr1
    have lp : (Str.ofString ", ").length = 2 := by decide +kernel
    have lc : (cs (Str.ofString ", ")).length = 2 := by decide +kernel
    refine ⟨_, rfl, r, CR, dx1, _, _, rfl, h1, ⟨rfl, rfl⟩, rfl, by show 1 ≤ sizeLine; decide, fun tc htc => ?_⟩
    have sc0 : Same H1 (upd H1 tc (.tup [.str ", "])) := (Same.refl _).new htc
    have ec0 : (upd H1 tc (.tup [.str ", "])) tc = some (.tup ([Str.ofString ", "].map V.str)) := upd_same
    have kb1 := kb1.trans (KB.of sc0)
    have h1 := sc0 _ _ h1
    have ht := ht.same sc0
    generalize upd H1 tc (.tup [.str ", "]) = H1 at kb1 h1 ht ec0 ⊢
    refine ⟨r, tc, txt, ", ", p + x.length, _, _, [", "], rfl, ⟨dx1, h1⟩, SqT.of ec0, by decide +kernel, tz, ⟨0, rfl, ?_, fun j z h => absurd h (Nat.not_lt_zero _)⟩, fun dx2 h2 => ?_⟩
    · rw [hs1]; exact cpl_app _ _
    have kb2 := kb1.trans (KB.upd (H := H1) (u := .ins CR dx2 (rdF txt (((p + x.length : Nat) : Int) + ((Str.ofString ", ").length : Int)) ((n + k : Nat)) ((l + lk : Nat)))))
    have h3 : (upd H1 r (.ins CR dx2 (rdF txt (((p + x.length : Nat) : Int) + ((Str.ofString ", ").length : Int)) ((n + k : Nat)) ((l + lk : Nat))))) r = some (.ins CR dx2 (rdF txt ((p + x.length + 2 : Nat)) ((n + k : Nat)) ((l + lk : Nat)))) := by
      rw [upd_same, lp]; rfl
    have t2 := ht.kta (KB.kta hC h1 (KB.upd (u := .ins CR dx2 (rdF txt (((p + x.length : Nat) : Int) + ((Str.ofString ", ").length : Int)) ((n + k : Nat)) ((l + lk : Nat))))))
    generalize upd H1 r (.ins CR dx2 (rdF txt (((p + x.length : Nat) : Int) + ((Str.ofString ", ").length : Int)) ((n + k : Nat)) ((l + lk : Nat)))) = H2 at kb2 h3 t2 ⊢
    have hs2 := dr hs1
    rw [lc] at hs2
    refine ⟨_, rfl, r, CR, dx2, _, _, rfl, h3, ⟨rfl, rfl⟩, rfl, _, rfl, _, _, rfl, rfl, r, txt, p + x.length + 2, n + k, l + lk, ins + 1, y, _, tb, k2, l2, d2, rfl, ⟨dx2, h3⟩, tz, hs2, rb, by omega, by omega, by omega, by omega, fun b H3 kb3a hr3 t3b => ?_⟩
    have kb3 := kb2.trans kb3a
    have t3 := t2.kta (KB.kta hC h3 kb3a)
    obtain ⟨dx3, h5⟩ := hr3
    have hs3 := dr hs2
    have ga := rd_good hk ra
    have gb := rd_good hk rb
    have sza := rd_sz ra
    have szb := rd_sz rb
    refine ⟨_, rfl, r, CR, dx3, _, _, rfl, h5, ⟨rfl, rfl⟩, rfl, by show 1 ≤ sizeLine; decide, fun tw htw => ?_⟩
    have s5 : Same H3 (upd H3 tw (.tup [.str ")"])) := (Same.refl _).new htw
    have e5 : (upd H3 tw (.tup [.str ")"])) tw = some (.tup ([Str.ofString ")"].map V.str)) := upd_same
    generalize upd H3 tw (.tup [.str ")"]) = H5 at s5 e5 ⊢
    have lcp : (Str.ofString ")").length = 1 := by decide +kernel
    have lcp2 : (cs (Str.ofString ")")).length = 1 := by decide +kernel
    have h6 := s5 _ _ h5
    refine ⟨r, tw, txt, ")", p + x.length + 2 + y.length, _, _, [")"], rfl, ⟨dx3, h6⟩, SqT.of e5, by decide +kernel, tz, ⟨0, rfl, ?_, fun j z h => absurd h (Nat.not_lt_zero _)⟩, fun dx4 h7 => ?_⟩
    · rw [hs3]; exact cpl_app _ _
    have kb4 := (kb3.trans (KB.of s5)).trans (KB.upd (H := H5) (u := .ins CR dx4 (rdF txt (((p + x.length + 2 + y.length : Nat) : Int) + ((Str.ofString ")").length : Int)) ((n + k + k2 : Nat)) ((l + lk + l2 : Nat)))))
    have en : (((p + x.length + 2 + y.length : Nat) : Int) + ((1 : Nat) : Int)) = ((p + (x.length + 2 + y.length + 1) : Nat) : Int) := by omega
    have kk := KB.kta hC h6 (KB.upd (H := H5) (u := .ins CR dx4 (rdF txt (((p + x.length + 2 + y.length : Nat) : Int) + ((Str.ofString ")").length : Int)) ((n + k + k2 : Nat)) ((l + lk + l2 : Nat)))))
    have t4 := ((t3.kta (KB.kta hC h5 (KB.of s5))).kta kk)
    have t4b := ((t3b.kta (KB.kta hC h5 (KB.of s5))).kta kk)
    have h8 : (upd H5 r (.ins CR dx4 (rdF txt (((p + x.length + 2 + y.length : Nat) : Int) + ((Str.ofString ")").length : Int)) ((n + k + k2 : Nat)) ((l + lk + l2 : Nat))))) r = some (.ins CR dx4 (rdF txt ((p + (x.length + 2 + y.length + 1) : Nat)) ((n + k + k2 : Nat)) ((l + lk + l2 : Nat)))) := by
      rw [upd_same, lcp, en]
    generalize upd H5 r (.ins CR dx4 (rdF txt (((p + x.length + 2 + y.length : Nat) : Int) + ((Str.ofString ")").length : Int)) ((n + k + k2 : Nat)) ((l + lk + l2 : Nat)))) = H6 at kb4 kk t4 t4b h8 ⊢
    cases lt with
    | true =>
      have ft : Fit (Tm.sz (.later ta tb)) := by
        have p1 : (Tm.later ta tb).sz.p = 1 + (ta.sz.p + tb.sz.p) := szOf2_p (lo := 0) (co := 1)
        have p2 : (Tm.later ta tb).sz.d = _ := szOf2_d (lo := 0) (co := 1)
        have p3 : (Tm.later ta tb).sz.l = 0 + (ta.sz.l + tb.sz.l) := szOf2_l (lo := 0) (co := 1)
        exact ⟨by omega, by omega, by omega⟩
      obtain ⟨dxa, fa, g1, g2⟩ := head_no t4 (m := "later") (by decide +kernel) (by decide +kernel)
      refine ⟨_, rfl, rfl, _, rfl, ite_t (decide_eq_true rfl) ?_⟩
      exact ⟨_, rfl, a, _, dxa, _, _, rfl, g1, ⟨⟨_, ga.k, rfl⟩, rfl⟩, g2, _, rfl, a, b, ta, tb, rfl, t4, t4b, ga.k, gb.k, ft, fun pt H7 s7 tp => q pt H7 (kb4.trans (KB.of s7)) ⟨dx4, s7 _ _ h8⟩ tp⟩
    | false =>
      have ft : Fit (Tm.sz (.earlier ta tb)) := by
        have p1 : (Tm.earlier ta tb).sz.p = 1 + (ta.sz.p + tb.sz.p) := szOf2_p (lo := 0) (co := 1)
        have p2 : (Tm.earlier ta tb).sz.d = _ := szOf2_d (lo := 0) (co := 1)
        have p3 : (Tm.earlier ta tb).sz.l = 0 + (ta.sz.l + tb.sz.l) := szOf2_l (lo := 0) (co := 1)
        exact ⟨by omega, by omega, by omega⟩
      obtain ⟨dxa, fa, g1, g2⟩ := head_no t4 (m := "earlier") (by decide +kernel) (by decide +kernel)
      refine ⟨_, rfl, rfl, _, rfl, ite_f (decide_eq_false (fun z => by injection z with z; exact absurd z (by decide +kernel))) ?_⟩
      exact ⟨_, rfl, a, _, dxa, _, _, rfl, g1, ⟨⟨_, ga.k, rfl⟩, rfl⟩, g2, _, rfl, a, b, ta, tb, rfl, t4, t4b, ga.k, gb.k, ft, fun pt H7 s7 tp => q pt H7 (kb4.trans (KB.of s7)) ⟨dx4, s7 _ _ h8⟩ tp⟩
end
end Pl

namespace Pl
open PySem L2 PySem.Spec PyProof.Rows

/-- the first of the words that begins these signs -/
def BeginsL (l : List Nat) (wl : List Str) (wd : Str) : Prop := ∃ i : Nat, wl[i]? = some wd ∧ cpl l wd.cps.toList = wd.length ∧ ∀ (j : Nat) (z : Str), j < i → wl[j]? = some z → cpl l z.cps.toList ≠ z.length
theorem BeginsL.at_ {t wd : Str} {p : Nat} {l : List Nat} {wl : List Str} (e : t.cps.toList.drop p = l) (h : BeginsL l wl wd) : Begins t p wl wd := by unfold Begins; rw [e]; exact h
theorem bl_0 {wd : Str} {wl : List Str} {r : List Nat} : BeginsL (cs wd ++ r) (wd :: wl) wd := ⟨0, rfl, (cpl_app _ _).trans Array.length_toList, fun j z h => absurd h (Nat.not_lt_zero _)⟩
theorem bl_s {z wd : Str} {wl : List Str} {l : List Nat} (n : cpl l (cs z) ≠ z.length) (h : BeginsL l wl wd) : BeginsL l (z :: wl) wd := by
  obtain ⟨i, h1, h2, h3⟩ := h
  refine ⟨i + 1, h1, h2, fun j y hj hy => ?_⟩
  cases j with
  | zero => obtain rfl := Option.some.inj hy; exact n
  | succ j => exact h3 j y (by omega) hy
theorem cpl_ext : ∀ {a w r : List Nat}, cpl a w < a.length → cpl (a ++ r) w = cpl a w
  | [], w, r, h => absurd h (Nat.not_lt_zero _)
  | x :: a, [], r, h => by unfold cpl; rfl
  | x :: a, b :: w, r, h => by
    show cpl (x :: (a ++ r)) (b :: w) = _
    unfold cpl at h ⊢
    split at h
    · rename_i e
      rw [if_pos e, if_pos e, cpl_ext (a := a) (w := w) (by simpa using h)]
    · rename_i e
      rw [if_neg e, if_neg e]
def apart (x z : Str) : Bool := decide (cpl (cs x) (cs z) < (cs x).length) && decide (cpl (cs x) (cs z) ≠ z.length)
theorem bl_ne {x z wd : Str} {wl : List Str} {r : List Nat} (h : apart x z = true) (b : BeginsL (cs x ++ r) wl wd) : BeginsL (cs x ++ r) (z :: wl) wd := by
  unfold apart at h
  rw [Bool.and_eq_true, decide_eq_true_eq, decide_eq_true_eq] at h
  exact bl_s (by rw [cpl_ext h.1]; exact h.2) b
theorem way_wd {wy w1 w2 : Str} (h : (wy = "at" ∨ wy = "before") ∧ w1 = "at " ∧ w2 = "before " ∨ (wy = "since" ∨ wy = "after") ∧ w1 = "since " ∧ w2 = "after ") :
    ∃ wd : Str, cs wd = cs wy ++ cs " " ∧ Txt.strip wd = wy ∧ wy ∈ ways ∧ wd ≠ "within " ∧ wd.length = wy.length + 1 ∧ wd.length ≤ 100 ∧ ∀ r, BeginsL (cs wd ++ r) ["within ", w1, w2] wd ∧ BeginsL (cs wd ++ r) [w1, w2] wd := by
  rcases h with ⟨rfl | rfl, rfl, rfl⟩ | ⟨rfl | rfl, rfl, rfl⟩
  · exact ⟨"at ", by decide +kernel, by decide +kernel, by decide +kernel, by decide +kernel, by decide +kernel, by decide +kernel, fun r => ⟨bl_ne (by decide +kernel) bl_0, bl_0⟩⟩
  · exact ⟨"before ", by decide +kernel, by decide +kernel, by decide +kernel, by decide +kernel, by decide +kernel, by decide +kernel, fun r => ⟨bl_ne (by decide +kernel) (bl_ne (by decide +kernel) bl_0), bl_ne (by decide +kernel) bl_0⟩⟩
  · exact ⟨"since ", by decide +kernel, by decide +kernel, by decide +kernel, by decide +kernel, by decide +kernel, by decide +kernel, fun r => ⟨bl_ne (by decide +kernel) bl_0, bl_0⟩⟩
  · exact ⟨"after ", by decide +kernel, by decide +kernel, by decide +kernel, by decide +kernel, by decide +kernel, by decide +kernel, fun r => ⟨bl_ne (by decide +kernel) (bl_ne (by decide +kernel) bl_0), bl_ne (by decide +kernel) bl_0⟩⟩
theorem SqT.kb {K : Fg} {r wa CR dx : Addr} {H H' : Hp} {fs : List (Str × V)} {xs : List V} (h : H r = some (.ins CR dx fs)) (k : KB r H H') (s : SqT K H wa xs) : SqT K H' wa xs := by
  rcases s with (s | ⟨o, s⟩) | s
  · exact .inl (.inl (k _ _ (ne_of s h (by intro z; cases z)) s))
  · exact .inl (.inr ⟨o, k _ _ (ne_of s h (by intro z; cases z)) s⟩)
  · exact .inr s
section
variable {P : Program} {w : World} {K : Fg} {mg : Str → Option Value} {base : Heap} {A : CA} {ks : Kd → Bool} {CW CR : Addr}
/-- 'last ' or 'next ' is read: what follows -/
def spRL (A : CA) (CR : Addr) (K : Fg) (D : Nat) : Sp := fun vs H Q _ => ∃ (r wa : Addr) (txt z wy : Str) (lim : Option Int) (w1 w2 : Str) (p n l ins : Nat) (x rest : List Nat) (t : Tm) (k lk d : Nat), vs = [.ref r, .ref wa, .int ins] ∧ RdAt CR H r txt p n l ∧ SqT K H wa [.str w1, .str w2] ∧ txt.length ≤ 100000 ∧ txt.cps.toList.drop p = cs z ++ cs (farS lim) ++ cs " " ++ cs wy ++ cs " " ++ x ++ rest ∧ GName z ∧ ((wy = "at" ∨ wy = "before") ∧ w1 = "at " ∧ w2 = "before " ∨ (wy = "since" ∨ wy = "after") ∧ w1 = "since " ∧ w2 = "after ") ∧ (∀ i, lim = some i → 0 ≤ i) ∧ (∀ i, lim = some i → i < 10 ^ 60) ∧ Rd x t k lk d ∧ d ≤ D ∧ 1 ≤ n ∧ ins + d < 12 ∧ n + k ≤ 40 ∧ l + 1 + lk ≤ 12 ∧
  ∀ a H', KB r H H' → RdAt CR H' r txt ((p + ((cs z).length + (cs (farS lim)).length + 1 + wy.length + 1 + x.length) : Nat)) ((n + k : Nat)) ((l + 1 + lk : Nat)) → TermAt A H' (.look z t wy lim) a → Q (.ref a) H'
theorem ok_Reader_read_look {D L : Nat} (D0 : ∃ f fd, Fun K "read_look" "Reader.read_look" s_Reader_read_look f fd ∧ Meth K CR "read_look" f ∧ Binds K fd p_Reader_read_look []) (T : Tx K mg) (TT : TTx K mg A ks) (hk : ∀ k, ks k = true) (hC : ∀ k, A.cls k ≠ CR) (c : Cls K CR) (n3 : NoAttr K CR "looks") (hL : 8 ≤ L) (gS : ∃ t, mg "MOST_LOOKS" = some (.int 12 t)) (gA : ∃ t, mg "LETTERS" = some (.str (Str.ofString "abcdefghijklmnopqrstuvwxyz") t)) (gM : ∃ t, mg "MOST_LETTERS" = some (.int 12 t)) (gL : ∃ t, mg "LIMITED" = some (.str (Str.ofString "within ") t))
    (c_term : ∀ C sp, RS A CR D C sp → CalI P w K mg base CX0 C "read_term" L sp) (c_word : ∀ C sp, (C = CR ∧ sp = spWord K CR) → CalI P w K mg base CX0 C "read_word" 2 sp) (c_num : ∀ C sp, (C = CR ∧ sp = spNumR CR) → CalI P w K mg base CX0 C "read_number" 4 sp) (c_row : ∀ C sp, (C = CR ∧ sp = spRowOf CR) → CalI P w K mg base CX0 C "read_row_of" 2 sp) (c_Look : CalKM P w K mg base CX0 "Look" (A.cls .look) 3 ["within"] 5 (spLInit A ks)) :
    CalI P w K mg base CX0 CR "read_look" (L + 1) (spRL A CR K D) := by
  obtain ⟨f, fd, F, m1, hb⟩ := D0
  refine ⟨f, fd, _, F.ok sc_Reader_read_look (fun vs H Q E h => ?_) (fun cdv A' outer s H vs Q E hr h => ?_), m1, c, hb⟩
  · obtain ⟨r, wa, txt, z, wy, lim, w1, w2, p, n, l, ins, x, rest, t, k, lk, d, rfl, _⟩ := h; rfl
  · obtain ⟨r, wa, txt, z, wy, lim, w1, w2, p, n, l, ins, x, rest, t, k, lk, d, rfl, hrd, hw, tz, hsp, gz, hwy, h0, h60, rd, dD, n1, d12, n40, l12, q⟩ := h
    obtain ⟨tS, g_MOST_LOOKS⟩ := gS
    obtain ⟨tA, g_LETTERS⟩ := gA
    obtain ⟨tM, g_MOST_LETTERS⟩ := gM
    obtain ⟨tL, g_LIMITED⟩ := gL
    refine ⟨_, (pss_cons (ps_fld (pv 0) (pe_op op_add (pe_fld (pv 0) rfl) pe_int) rfl)
      (pss_cons (ps_if (pt_cmpR op_gt (pe_fld (pv 0) rfl) (pe_glob rfl g_MOST_LOOKS rel_i) (nomark _))
        (pss_one ps_never)
        pss_nil)
      (pss_cons (ps_set (i := 3) sc_Reader_read_look.nd rfl (Or.inl rfl) (pmsx c_row hr (by omega) pass0 (pv 0) (pa_cons (pe_glob rfl g_LETTERS rel_s) (pa_cons (pe_glob rfl g_MOST_LETTERS rel_i) pa_nil))))
      (pss_cons (ps_expr (pmsx c_word hr (by omega) pass0 (pv 0) (pa_cons (pe_tup (pa_cons pe_str pa_nil)) pa_nil)))
      (pss_cons (ps_set (i := 4) sc_Reader_read_look.nd rfl (Or.inl rfl) pe_non)
      (pss_cons (ps_set (i := 5) sc_Reader_read_look.nd rfl (Or.inl rfl) (pmsx c_word hr (by omega) pass0 (pv 0) (pa_cons (pe_tup (pa_cons (pe_glob rfl g_LIMITED rel_s) (StX.pa_star (pv 1) pa_nil))) pa_nil)))
      (C8.pss_cut (ps_if (pt_cmpR op_eq (pv 5) (pe_glob rfl g_LIMITED rel_s) (nomark _))
        (pss_cons (ps_set (i := 4) sc_Reader_read_look.nd rfl (Or.inl rfl) (pmsx0 c_num hr (by omega) pass0 (pv 0)))
        (pss_cons (ps_expr (pmsx c_word hr (by omega) pass0 (pv 0) (pa_cons (pe_tup (pa_cons pe_str pa_nil)) pa_nil)))
        (pss_one (ps_set (i := 5) sc_Reader_read_look.nd rfl (Or.inl rfl) (pmsx c_word hr (by omega) pass0 (pv 0) (pa_cons (pv 1) pa_nil))))))
        pss_nil)
      (pss_one (ps_ret (pmkK c_Look hr (by omega) pass0 (pa_cons (pv 3) (pa_cons (pmsx c_term hr (by omega) pass0 (pv 0) (pa_cons (pe_op op_add (pv 2) pe_int) pa_nil)) (pa_cons (pe_strip (pv 5)) pa_nil))) (pk_cons (pv 4) pk_nil))))))))))), ?_⟩

    have dr : ∀ {u v : List Nat} {m : Nat}, txt.cps.toList.drop m = u ++ v → txt.cps.toList.drop (m + u.length) = v := fun {u v m} h => by
      rw [← List.drop_drop, h, List.drop_left]
    simp only [List.append_assoc] at hsp
    obtain ⟨wd, cwd, swd, hyw, nwd, lwd, lwd2, bwd⟩ := way_wd hwy
    obtain ⟨dx, hrd⟩ := hrd
    have lc1 : (cs (Str.ofString " ")).length = 1 := by decide +kernel
    have l1 : (Str.ofString " ").length = 1 := by decide +kernel
    have c1 : cs (Str.ofString " ") = [32] := by decide +kernel
    refine ⟨_, rfl, r, _, dx, _, _, rfl, hrd, c, n3, rfl, _, _, rfl, rfl, _, rfl, r, CR, dx, _, rfl, hrd, c, n3, by show 4 < 1000; decide, ?_⟩
    have kb1 := KB.upd (H := H) (r := r) (u := .ins CR dx (rdF txt p n ((l + 1 : Nat))))
    have h1 : (upd H r (.ins CR dx (rdF txt p n ((l + 1 : Nat))))) r = some (.ins CR dx (rdF txt p n ((l + 1 : Nat)))) := upd_same
    have sw1 := SqT.kb hrd kb1 hw
    have ep : putF "looks" (V.int ((l : Int) + 1)) (rdF txt p n l) = rdF txt p n ((l + 1 : Nat)) := rfl
    rw [ep]
    generalize upd H r (.ins CR dx (rdF txt p n ((l + 1 : Nat)))) = H1 at kb1 h1 sw1 ⊢
    refine ⟨_, rfl, r, _, dx, _, _, rfl, h1, c, n3, rfl, _, _, rfl, rfl, _, rfl, ite_f (decide_eq_false (by omega)) ?_⟩
    refine ⟨_, rfl, r, CR, dx, _, _, rfl, h1, ⟨rfl, rfl⟩, rfl, r, txt, _, p, _, _, 12, cs z, _, rfl, ⟨dx, h1⟩, tz, by decide, hsp, ?_, gz.all, gz.hi, ?_, fun dx2 h2 => ?_⟩
    · intro e
      have := gz.lo
      have q : z.length = (cs z).length := (Array.length_toList).symm
      rw [e] at q
      have : z.length = 0 := q
      omega
    · intro _ ch hc
      have e : ch = 32 := by
        cases lim with
        | none =>
          have e0 : cs (farS none) = [] := rfl
          rw [e0, c1] at hc
          exact (Option.some.inj hc).symm
        | some i =>
          have e0 : cs (farS (some i)) = cs (Str.ofString " within ") ++ cs (numS i) := cs_cat _ _
          have e1 : cs (Str.ofString " within ") = [32, 119, 105, 116, 104, 105, 110, 32] := by decide +kernel
          rw [e0, e1] at hc
          exact (Option.some.inj hc).symm
      subst e
      decide +kernel
    have ez : (⟨(cs z).toArray⟩ : Str) = z := by
      show (⟨z.cps.toList.toArray⟩ : Str) = z
      rw [Array.toArray_toList]
    rw [ez]
    have zl : z.length = (cs z).length := (Array.length_toList).symm
    have hs1 := dr hsp
    have kb2 := kb1.trans (KB.upd (H := H1) (u := .ins CR dx2 (rdF txt ((p : Int) + ((cs z).length : Nat)) n ((l + 1 : Nat)))))
    have sw2 := SqT.kb hrd kb2 hw
    have h3 : (upd H1 r (.ins CR dx2 (rdF txt ((p : Int) + ((cs z).length : Nat)) n ((l + 1 : Nat))))) r = some (.ins CR dx2 (rdF txt ((p + (cs z).length : Nat)) n ((l + 1 : Nat)))) := by
      rw [upd_same]; rfl
    generalize upd H1 r (.ins CR dx2 (rdF txt ((p : Int) + ((cs z).length : Nat)) n ((l + 1 : Nat)))) = H2 at kb2 sw2 h3 ⊢
    clear kb1 h1 sw1 h2
    refine ⟨_, rfl, r, CR, dx2, _, _, rfl, h3, ⟨rfl, rfl⟩, rfl, by show 1 ≤ sizeLine; decide, fun tw htw => ?_⟩
    have kb3 := kb2.trans (KB.of ((Same.refl H2).new (o := .tup [.str " "]) htw))
    have sw3 := SqT.kb hrd kb3 hw
    have e3 : (upd H2 tw (.tup [.str " "])) tw = some (.tup ([Str.ofString " "].map V.str)) := upd_same
    have h4 : (upd H2 tw (.tup [.str " "])) r = _ := (upd_ne (ne_of_none h3 htw)).trans h3
    generalize upd H2 tw (.tup [.str " "]) = H3 at kb3 sw3 e3 h4 ⊢
    have step1 : ∀ (G : Hp) (dxg : Addr) (L0 : List Nat), KB r H G → G r = some (.ins CR dxg (rdF txt ((p + ((cs z).length + 1) : Nat)) n ((l + 1 : Nat)))) → txt.cps.toList.drop (p + ((cs z).length + 1)) = L0 → (∃ wf, BeginsL L0 ["within ", w1, w2] wf) → True := fun _ _ _ _ _ _ _ => trivial
    have beg : ∃ L0 wf, cs (farS lim) ++ (cs (Str.ofString " ") ++ (cs wy ++ (cs (Str.ofString " ") ++ (x ++ rest)))) = cs (Str.ofString " ") ++ (cs wf ++ L0) ∧ BeginsL (cs wf ++ L0) ["within ", w1, w2] wf ∧ wf.length ≤ 100 ∧ (lim = none → wf = wd ∧ L0 = x ++ rest) ∧ (∀ i, lim = some i → wf = "within " ∧ L0 = cs (numS i) ++ (cs (Str.ofString " ") ++ (cs wd ++ (x ++ rest)))) := by
      cases lim with
      | none => exact ⟨x ++ rest, wd, by show [] ++ _ = _; rw [cwd, List.append_assoc]; rfl, (bwd _).1, lwd2, fun _ => ⟨rfl, rfl⟩, fun i e => by cases e⟩
      | some i =>
        refine ⟨_, "within ", ?_, bl_0, by decide +kernel, (fun e => by cases e), fun j e => by obtain rfl := Option.some.inj e; exact ⟨rfl, rfl⟩⟩
        have e0 : cs (farS (some i)) = cs (Str.ofString " within ") ++ cs (numS i) := cs_cat _ _
        have e1 : cs (Str.ofString " within ") = cs (Str.ofString " ") ++ cs (Str.ofString "within ") := by decide +kernel
        rw [e0, e1, cwd]
        simp only [List.append_assoc]
    obtain ⟨L0, wf, eL, bL, lwf, cn, csm⟩ := beg
    rw [eL] at hs1
    refine ⟨r, tw, txt, " ", p + (cs z).length, _, _, [" "], rfl, ⟨dx2, h4⟩, SqT.of e3, by decide +kernel, tz, BeginsL.at_ hs1 bl_0, fun dx4 h5 => ?_⟩
    have hs2 := dr hs1
    rw [lc1] at hs2
    have kb4 := kb3.trans (KB.upd (H := H3) (u := .ins CR dx4 (rdF txt (((p + (cs z).length : Nat) : Int) + ((Str.ofString " ").length : Int)) n ((l + 1 : Nat)))))
    have sw4 := SqT.kb hrd kb4 hw
    have h6 : (upd H3 r (.ins CR dx4 (rdF txt (((p + (cs z).length : Nat) : Int) + ((Str.ofString " ").length : Int)) n ((l + 1 : Nat))))) r = some (.ins CR dx4 (rdF txt ((p + (cs z).length + 1 : Nat)) n ((l + 1 : Nat)))) := by
      rw [upd_same, l1]; rfl
    generalize upd H3 r (.ins CR dx4 (rdF txt (((p + (cs z).length : Nat) : Int) + ((Str.ofString " ").length : Int)) n ((l + 1 : Nat)))) = H4 at kb4 sw4 h6 ⊢
    clear kb2 kb3 sw2 sw3 h3 h4 h5 e3 step1
    refine ⟨_, rfl, r, CR, dx4, _, _, rfl, h6, ⟨rfl, rfl⟩, rfl, _, rfl, wa, _, rfl, .inl sw4, by show 3 ≤ sizeLine; decide, fun tw htw => ?_⟩
    have kb5 := kb4.trans (KB.of ((Same.refl H4).new (o := .tup [.str "within ", .str w1, .str w2]) htw))
    have sw5 := SqT.kb hrd kb5 hw
    have e5 : (upd H4 tw (.tup [.str "within ", .str w1, .str w2])) tw = some (.tup ([Str.ofString "within ", w1, w2].map V.str)) := upd_same
    have h7 : (upd H4 tw (.tup [.str "within ", .str w1, .str w2])) r = _ := (upd_ne (ne_of_none h6 htw)).trans h6
    generalize hG : upd H4 tw (HO.tup _) = H5
    have hG2 : upd H4 tw (.tup [.str "within ", .str w1, .str w2]) = H5 := hG
    rw [hG2] at kb5 sw5 e5 h7
    clear hG hG2
    have wz : ∀ y ∈ ([Str.ofString "within ", w1, w2] : List Str), y.length ≤ 100 := by
      rcases hwy with ⟨_, rfl, rfl⟩ | ⟨_, rfl, rfl⟩ <;> decide +kernel
    refine ⟨r, tw, txt, wf, p + (cs z).length + 1, _, _, ["within ", w1, w2], rfl, ⟨dx4, h7⟩, SqT.of e5, wz, tz, BeginsL.at_ hs2 bL, fun dx5 h8 => ?_⟩
    have hs3 := dr hs2
    have kb6 := kb5.trans (KB.upd (H := H5) (u := .ins CR dx5 (rdF txt (((p + (cs z).length + 1 : Nat) : Int) + (wf.length : Int)) n ((l + 1 : Nat)))))
    have sw6 := SqT.kb hrd kb6 hw
    have lf : wf.length = (cs wf).length := (Array.length_toList).symm
    have h9 : (upd H5 r (.ins CR dx5 (rdF txt (((p + (cs z).length + 1 : Nat) : Int) + (wf.length : Int)) n ((l + 1 : Nat))))) r = some (.ins CR dx5 (rdF txt ((p + (cs z).length + 1 + (cs wf).length : Nat)) n ((l + 1 : Nat)))) := by
      rw [upd_same, lf]; rfl
    generalize upd H5 r (.ins CR dx5 (rdF txt (((p + (cs z).length + 1 : Nat) : Int) + (wf.length : Int)) n ((l + 1 : Nat)))) = H6 at kb6 sw6 h9 ⊢
    clear kb4 sw4 h6 kb5 sw5 e5 h7 h8
    have lwd3 : wd.length = (cs wd).length := (Array.length_toList).symm
    refine ⟨fun σ G => ∃ (dxg : Addr) (qq : Nat), σ = [some (.ref r), some (.ref wa), some (.int ins), some (.str z), some (limV lim), some (.str wd)] ∧ KB r H G ∧ G r = some (.ins CR dxg (rdF txt (qq : Nat) n ((l + 1 : Nat)))) ∧ txt.cps.toList.drop qq = x ++ rest ∧ qq = p + ((cs z).length + (cs (farS lim)).length + 1 + wy.length + 1), ?_, ?_⟩
    · cases lim with
      | none =>
        obtain ⟨rfl, rfl⟩ := cn rfl
        refine ⟨_, rfl, rfl, _, rfl, ite_f (decide_eq_false (fun z => by injection z with z; exact nwd z)) ?_⟩
        exact ⟨dx5, _, rfl, kb6, h9, hs3, by have e0 : (cs (farS none)).length = 0 := rfl; omega⟩
      | some i =>
        obtain ⟨rfl, rfl⟩ := csm i rfl
        refine ⟨_, rfl, rfl, _, rfl, ite_t (decide_eq_true rfl) ?_⟩
        obtain ⟨m, rfl⟩ := Int.eq_ofNat_of_zero_le (h0 i rfl)
        have hm : m < 10 ^ 60 := by have := h60 _ rfl; omega
        have e0 : cs (numS ((m : Nat) : Int)) = TL.numL m := cs_num
        rw [e0] at hs3
        have p32 : ∀ c0, (cs (Str.ofString " ") ++ (cs wd ++ (x ++ rest))).head? = some c0 → ¬ (48 ≤ c0 ∧ c0 ≤ 57) := fun c0 h => by
          rw [c1] at h
          have := Option.some.inj h
          omega
        refine ⟨_, rfl, r, CR, dx5, _, _, rfl, h9, ⟨rfl, rfl⟩, rfl, r, txt, _, _, _, m, _, rfl, ⟨dx5, h9⟩, tz, hs3, hm, p32, fun dx6 h10 => ?_⟩
        have hs4 := dr hs3
        generalize hP : p + (cs z).length + 1 + (cs (Str.ofString "within ")).length = P0 at *
        have kb7 := kb6.trans (KB.upd (H := H6) (u := .ins CR dx6 (rdF txt ((P0 : Int) + ((TL.numL m).length : Int)) n ((l + 1 : Nat)))))
        have sw7 := SqT.kb hrd kb7 hw
        have h11 : (upd H6 r (.ins CR dx6 (rdF txt ((P0 : Int) + ((TL.numL m).length : Int)) n ((l + 1 : Nat))))) r = some (.ins CR dx6 (rdF txt ((P0 + (TL.numL m).length : Nat)) n ((l + 1 : Nat)))) := by
          rw [upd_same]; rfl
        generalize upd H6 r (.ins CR dx6 (rdF txt ((P0 : Int) + ((TL.numL m).length : Int)) n ((l + 1 : Nat)))) = H7 at kb7 sw7 h11 ⊢
        refine ⟨_, rfl, r, CR, dx6, _, _, rfl, h11, ⟨rfl, rfl⟩, rfl, by show 1 ≤ sizeLine; decide, fun ty hty => ?_⟩
        have kb8 := kb7.trans (KB.of ((Same.refl H7).new (o := .tup [.str " "]) hty))
        have sw8 := SqT.kb hrd kb8 hw
        have e8 : (upd H7 ty (.tup [.str " "])) ty = some (.tup ([Str.ofString " "].map V.str)) := upd_same
        have h12 : (upd H7 ty (.tup [.str " "])) r = _ := (upd_ne (ne_of_none h11 hty)).trans h11
        generalize upd H7 ty (.tup [.str " "]) = H8 at kb8 sw8 e8 h12 ⊢
        refine ⟨r, ty, txt, " ", P0 + (TL.numL m).length, _, _, [" "], rfl, ⟨dx6, h12⟩, SqT.of e8, by decide +kernel, tz, BeginsL.at_ hs4 bl_0, fun dx7 h13 => ?_⟩
        have hs5 := dr hs4
        rw [lc1] at hs5
        have kb9 := kb8.trans (KB.upd (H := H8) (u := .ins CR dx7 (rdF txt (((P0 + (TL.numL m).length : Nat) : Int) + ((Str.ofString " ").length : Int)) n ((l + 1 : Nat)))))
        have sw9 := SqT.kb hrd kb9 hw
        have h14 : (upd H8 r (.ins CR dx7 (rdF txt (((P0 + (TL.numL m).length : Nat) : Int) + ((Str.ofString " ").length : Int)) n ((l + 1 : Nat))))) r = some (.ins CR dx7 (rdF txt ((P0 + (TL.numL m).length + 1 : Nat)) n ((l + 1 : Nat)))) := by
          rw [upd_same, l1]; rfl
        generalize upd H8 r (.ins CR dx7 (rdF txt (((P0 + (TL.numL m).length : Nat) : Int) + ((Str.ofString " ").length : Int)) n ((l + 1 : Nat)))) = H9 at kb9 sw9 h14 ⊢
        refine ⟨_, rfl, r, CR, dx7, _, _, rfl, h14, ⟨rfl, rfl⟩, rfl, _, rfl, r, wa, txt, wd, P0 + (TL.numL m).length + 1, _, _, [w1, w2], rfl, ⟨dx7, h14⟩, sw9, fun y hy => wz y (List.mem_cons_of_mem _ hy), tz, BeginsL.at_ hs5 (bwd _).2, fun dx8 h15 => ?_⟩
        refine ⟨dx8, P0 + (TL.numL m).length + 1 + (cs wd).length, rfl, kb9.trans KB.upd, ?_, dr hs5, ?_⟩
        · rw [upd_same, lwd3]; rfl
        · have ef : (cs (farS (some ((m : Nat) : Int)))).length = (cs (Str.ofString " within ")).length + (TL.numL m).length := by
            show (cs (Str.ofString " within " ++ numS ((m : Nat) : Int))).length = _
            rw [cs_cat, e0, List.length_append]
          have q1 : (cs (Str.ofString " within ")).length = 8 := by decide +kernel
          have q2 : (cs (Str.ofString "within ")).length = 7 := by decide +kernel
          omega
    · rintro σ G ⟨dxg, qq, rfl, kbG, hG, hsG, rfl⟩
      refine ⟨_, rfl, _, rfl, r, CR, dxg, _, _, rfl, hG, ⟨rfl, rfl⟩, rfl, _, rfl, _, _, rfl, rfl, r, txt, _, n, l + 1, ins + 1, x, rest, t, k, lk, d, rfl, ⟨dxg, hG⟩, tz, hsG, rd, dD, by omega, n40, by omega, fun a H10 kb10 hr10 ht => ?_⟩
      refine ⟨_, rfl, ⟨wd, rfl⟩, wd, rfl, rfl, Nat.le_trans lwd2 (sz (by decide)), ?_⟩
      rw [swd]
      refine ⟨_, rfl, rfl, rfl, fun px dxp hx hdx nx => ?_⟩
      obtain ⟨dx10, h10⟩ := hr10
      have sU : Same H10 (upd (upd H10 dxp (.own px)) px (.ins (A.cls .look) dxp [])) := ((Same.refl H10).new hdx).new (by rw [upd_ne nx.symm]; exact hx)
      have g := rd_good hk rd
      have szr := rd_sz rd
      have ft : Fit (Tm.sz (.look z t wy lim)) := by
        have p1 : (Tm.look z t wy lim).sz.p = 1 + t.sz.p := szOf1_p (lo := 1) (co := 1)
        have p2 : (Tm.look z t wy lim).sz.d = 1 + t.sz.d := szOf1_d (lo := 1) (co := 1)
        have p3 : (Tm.look z t wy lim).sz.l = 1 + t.sz.l := szOf1_l (lo := 1) (co := 1)
        exact ⟨by omega, by omega, by omega⟩
      refine ⟨px, dxp, a, z, wy, lim, t, rfl, upd_same, ht.same sU, g.k, gz, hyw, h0, ft, fun H11 k11 tl => ⟨rfl, ?_⟩⟩
      have nr : r ≠ px := ne_of_none h10 hx
      have s11 : ∀ b o, H10 b = some o → H11 b = some o := fun b o e => k11 b o (sU b o e) (ne_of_none e hx)
      refine q px H11 ((kbG.trans kb10).trans fun b o nb e => s11 b o e) ⟨dx10, ?_⟩ tl
      have en : p + ((cs z).length + (cs (farS lim)).length + 1 + wy.length + 1 + x.length) = p + ((cs z).length + (cs (farS lim)).length + 1 + wy.length + 1) + x.length := by omega
      rw [en]
      exact s11 _ _ h10
end
end Pl

namespace Pl
open PySem L2 PySem.Spec PyProof.Rows
/-- how a text that reads as a term begins -/
inductive RdH : Tm → Nat → Nat → Nat → Str → List Nat → Prop
  | now : RdH .now 1 0 1 "now" []
  | joined {y : List Nat} {t : Tm} {k l d : Nat} : RJ y t k l d → RdH t (k + 1) l (d + 1) "(" y
  | ordered {x y : List Nat} {a b : Tm} {k l d k2 l2 d2 : Nat} (lt : Bool) : Rd x a k l d → Rd y b k2 l2 d2 → RdH (if lt then .later a b else .earlier a b) (1 + k + k2) (l + l2) (1 + max d d2) (if lt then "later(" else "earlier(") (x ++ cs ", " ++ y ++ cs ")")
  | look {x : List Nat} {t : Tm} {k l d : Nat} {z wy : Str} {lim : Option Int} (bk : Bool) : Rd x t k l d → GName z → ((wy = "at" ∨ wy = "before") ∧ bk = true ∨ (wy = "since" ∨ wy = "after") ∧ bk = false) → (∀ i, lim = some i → 0 ≤ i) → (∀ i, lim = some i → i < 10 ^ 60) → RdH (.look z t wy lim) (k + 1) (l + 1) (d + 1) (if bk then "last " else "next ") (cs z ++ cs (farS lim) ++ cs " " ++ cs wy ++ cs " " ++ x)
theorem rd_head {x : List Nat} {t : Tm} {k l d : Nat} (r : Rd x t k l d) : ∃ w y, x = cs w ++ y ∧ RdH t k l d w y := by
  cases r with
  | now => exact ⟨"now", [], (List.append_nil _).symm, .now⟩
  | @plus x t k l d i r hi => exact ⟨"(", x ++ cs " + " ++ TL.numL i ++ cs ")", by simp only [List.append_assoc], .joined (.plus r hi)⟩
  | @minus x t k l d i r hi => exact ⟨"(", x ++ cs " - " ++ TL.numL i ++ cs ")", by simp only [List.append_assoc], .joined (.minus r hi)⟩
  | @either x y a b k l d k2 l2 d2 r r2 => exact ⟨"(", x ++ cs " or " ++ y ++ cs ")", by simp only [List.append_assoc], by
      rw [show 1 + k + k2 = (k + k2) + 1 from by omega, show 1 + max d d2 = max d d2 + 1 from by omega]
      exact .joined (.either r r2)⟩
  | @later x y a b k l d k2 l2 d2 r r2 => exact ⟨"later(", x ++ cs ", " ++ y ++ cs ")", by simp only [List.append_assoc], .ordered true r r2⟩
  | @earlier x y a b k l d k2 l2 d2 r r2 => exact ⟨"earlier(", x ++ cs ", " ++ y ++ cs ")", by simp only [List.append_assoc], .ordered false r r2⟩
  | @look x t k l d z wy lim r gz hw h0 h60 =>
    have e1 : cs (Str.ofString "last") ++ cs (Str.ofString " ") = cs (Str.ofString "last ") := by decide +kernel
    have e2 : cs (Str.ofString "next") ++ cs (Str.ofString " ") = cs (Str.ofString "next ") := by decide +kernel
    have hw2 : (wy = "at" ∨ wy = "before") ∨ (wy = "since" ∨ wy = "after") := by
      have hw : wy ∈ (["at", "before", "since", "after"] : List Str) := hw
      simp only [List.mem_cons, List.not_mem_nil, or_false] at hw
      rcases hw with h | h | h | h
      · exact .inl (.inl h)
      · exact .inl (.inr h)
      · exact .inr (.inl h)
      · exact .inr (.inr h)
    rcases hw2 with h | h
    · refine ⟨"last ", cs z ++ cs (farS lim) ++ cs " " ++ cs wy ++ cs " " ++ x, ?_, .look true r gz (.inl ⟨h, rfl⟩) h0 h60⟩
      have ew : wordS wy = "last" := by rcases h with rfl | rfl <;> decide +kernel
      rw [ew, e1]
      simp only [List.append_assoc]
    · refine ⟨"next ", cs z ++ cs (farS lim) ++ cs " " ++ cs wy ++ cs " " ++ x, ?_, .look false r gz (.inr ⟨h, rfl⟩) h0 h60⟩
      have ew : wordS wy = "next" := by rcases h with rfl | rfl <;> decide +kernel
      rw [ew, e2]
      simp only [List.append_assoc]
def beginnings : List Str := ["now", "(", "last ", "next ", "later(", "earlier("]
theorem rd_begin {t : Tm} {k l d : Nat} {w : Str} {y rest : List Nat} (h : RdH t k l d w y) : BeginsL (cs w ++ (y ++ rest)) beginnings w ∧ w.length ≤ 100 := by
  cases h with
  | now => exact ⟨bl_0, by decide +kernel⟩
  | joined _ => exact ⟨bl_ne (by decide +kernel) bl_0, by decide +kernel⟩
  | ordered lt _ _ => cases lt with
    | true => exact ⟨bl_ne (by decide +kernel) (bl_ne (by decide +kernel) (bl_ne (by decide +kernel) (bl_ne (by decide +kernel) bl_0))), by decide +kernel⟩
    | false => exact ⟨bl_ne (by decide +kernel) (bl_ne (by decide +kernel) (bl_ne (by decide +kernel) (bl_ne (by decide +kernel) (bl_ne (by decide +kernel) bl_0)))), by decide +kernel⟩
  | look bk _ _ _ _ _ => cases bk with
    | true => exact ⟨bl_ne (by decide +kernel) (bl_ne (by decide +kernel) bl_0), by decide +kernel⟩
    | false => exact ⟨bl_ne (by decide +kernel) (bl_ne (by decide +kernel) (bl_ne (by decide +kernel) bl_0)), by decide +kernel⟩
section
variable {P : Program} {w : World} {K : Fg} {mg : Str → Option Value} {base : Heap} {A : CA} {ks : Kd → Bool} {CW CR : Addr}
theorem ok_Reader_read_term {D L : Nat} (D0 : ∃ f fd, Fun K "read_term" "Reader.read_term" s_Reader_read_term f fd ∧ Meth K CR "read_term" f ∧ Binds K fd p_Reader_read_term []) (T : Tx K mg) (hk : ∀ k, ks k = true) (c : Cls K CR) (n3 : NoAttr K CR "parts") (hL : 8 ≤ L)
    (gD : ∃ t, mg "MOST_DEPTH" = some (.int 12 t)) (gP : ∃ t, mg "MOST_PARTS" = some (.int 40 t)) (gB : ∃ a, mg "BEGINNINGS" = some (.ref a) ∧ TupK K a beginnings) (gK : ∃ a, mg "WAYS_BACK" = some (.ref a) ∧ TupK K a ["at ", "before "]) (gA : ∃ a, mg "WAYS_AHEAD" = some (.ref a) ∧ TupK K a ["since ", "after "])
    (c_word : ∀ C sp, (C = CR ∧ sp = spWord K CR) → CalI P w K mg base CX0 C "read_word" 2 sp) (c_Now : CalM P w K mg base CX0 "Now" (A.cls .now) 2 (spNInit A))
    (c_joined : ∀ C sp, (C = CR ∧ sp = spRJ A CR D) → CalI P w K mg base CX0 C "read_joined" L sp) (c_ord : ∀ C sp, (C = CR ∧ sp = spRO A CR D) → CalI P w K mg base CX0 C "read_ordered" L sp) (c_look : ∀ C sp, (C = CR ∧ sp = spRL A CR K D) → CalI P w K mg base CX0 C "read_look" L sp) :
    CalI P w K mg base CX0 CR "read_term" (L + 1) (spRT A CR (D + 1)) := by
  obtain ⟨f, fd, F, m1, hb⟩ := D0
  refine ⟨f, fd, _, F.ok sc_Reader_read_term (fun vs H Q E h => ?_) (fun cdv A' outer s H vs Q E hr h => ?_), m1, c, hb⟩
  · obtain ⟨r, txt, p, n, l, ins, x, rest, t, k, lk, d, rfl, _⟩ := h; rfl
  · obtain ⟨r, txt, p, n, l, ins, x, rest, t, k, lk, d, rfl, ⟨dx, hrd⟩, tz, hsp, rd, dD, d12, n40, l12, q⟩ := h
    obtain ⟨tD, g_MOST_DEPTH⟩ := gD
    obtain ⟨tP, g_MOST_PARTS⟩ := gP
    obtain ⟨aB, g_BEGINNINGS, hB⟩ := gB
    obtain ⟨aK, g_WAYS_BACK, hK⟩ := gK
    obtain ⟨aA, g_WAYS_AHEAD, hA⟩ := gA
    refine ⟨_, (pss_cons (ps_if (PW.pt (pw_or (pt_cmpR op_ge (pv 1) (pe_glob rfl g_MOST_DEPTH rel_i) (nomark _)) (pw_or1 (pt_cmpR op_ge (pe_fld (pv 0) rfl) (pe_glob rfl g_MOST_PARTS rel_i) (nomark _)))))
        (pss_one ps_never)
        pss_nil)
      (pss_cons (ps_fld (pv 0) (pe_op op_add (pe_fld (pv 0) rfl) pe_int) rfl)
      (pss_cons (ps_set (i := 2) sc_Reader_read_term.nd rfl (Or.inl rfl) (pmsx c_word hr (by omega) pass0 (pv 0) (pa_cons (pe_glob rfl g_BEGINNINGS rel_r) pa_nil)))
      (pss_cons (ps_if (pt_cmpR op_eq (pv 2) pe_str (nomark _))
        (pss_one (ps_ret (pmk0 c_Now hr (by omega))))
        pss_nil)
      (pss_cons (ps_if (pt_cmpR op_eq (pv 2) pe_str (nomark _))
        (pss_one (ps_ret (pmsx c_joined hr (by omega) pass0 (pv 0) (pa_cons (pv 1) pa_nil))))
        pss_nil)
      (pss_cons (ps_if (pt_cmpR op_eq (pv 2) pe_str (nomark _))
        (pss_one (ps_ret (pmsx c_look hr (by omega) pass0 (pv 0) (pa_cons (pe_glob rfl g_WAYS_BACK rel_r) (pa_cons (pv 1) pa_nil)))))
        pss_nil)
      (pss_cons (ps_if (pt_cmpR op_eq (pv 2) pe_str (nomark _))
        (pss_one (ps_ret (pmsx c_look hr (by omega) pass0 (pv 0) (pa_cons (pe_glob rfl g_WAYS_AHEAD rel_r) (pa_cons (pv 1) pa_nil)))))
        pss_nil)
      (pss_one (ps_ret (pmsx c_ord hr (by omega) pass0 (pv 0) (pa_cons (pv 2) (pa_cons (pv 1) pa_nil)))))))))))), ?_⟩
    have dr : ∀ {u v : List Nat} {m : Nat}, txt.cps.toList.drop m = u ++ v → txt.cps.toList.drop (m + u.length) = v := fun {u v m} h => by
      rw [← List.drop_drop, h, List.drop_left]
    have kd1 : 1 ≤ d ∧ 1 ≤ k := by
      cases rd <;> omega
    obtain ⟨wd, y, ex, rh⟩ := rd_head rd
    obtain ⟨bw, lw⟩ := rd_begin (rest := rest) rh
    clear rd
    subst ex
    rw [List.append_assoc] at hsp
    have lwd : wd.length = (cs wd).length := (Array.length_toList).symm
    have q : ∀ (a : Addr) (H' : Hp), KB r H H' → RdAt CR H' r txt ((p + (cs wd).length + y.length : Nat)) ((n + k : Nat)) ((l + lk : Nat)) → TermAt A H' t a → Q (.ref a) H' := fun a H' h1 h2 h3 => q a H' h1 (by rw [List.length_append, ← Nat.add_assoc]; exact h2) h3
    refine ⟨_, rfl, _, _, rfl, rfl, _, rfl, ite_f (decide_eq_false (by omega)) ?_⟩
    refine ⟨_, rfl, r, _, dx, _, _, rfl, hrd, c, n3, rfl, _, _, rfl, rfl, _, rfl, ite_f (decide_eq_false (by omega)) ?_⟩
    refine ⟨_, rfl, r, _, dx, _, _, rfl, hrd, c, n3, rfl, _, _, rfl, rfl, _, rfl, r, CR, dx, _, rfl, hrd, c, n3, by show 4 < 1000; decide, ?_⟩
    have kb1 := KB.upd (H := H) (r := r) (u := .ins CR dx (rdF txt p ((n + 1 : Nat)) l))
    have h1 : (upd H r (.ins CR dx (rdF txt p ((n + 1 : Nat)) l))) r = some (.ins CR dx (rdF txt p ((n + 1 : Nat)) l)) := upd_same
    have ep : putF "parts" (V.int ((n : Int) + 1)) (rdF txt p n l) = rdF txt p ((n + 1 : Nat)) l := rfl
    rw [ep]
    generalize upd H r (.ins CR dx (rdF txt p ((n + 1 : Nat)) l)) = H1 at kb1 h1 ⊢
    refine ⟨_, rfl, r, CR, dx, _, _, rfl, h1, ⟨rfl, rfl⟩, rfl, r, aB, txt, wd, p, _, _, beginnings, rfl, ⟨dx, h1⟩, hB.sq _, by decide +kernel, tz, BeginsL.at_ hsp bw, fun dx2 h2 => ?_⟩
    have hs2 := dr hsp
    have kb2 := kb1.trans (KB.upd (H := H1) (u := .ins CR dx2 (rdF txt ((p : Int) + (wd.length : Int)) ((n + 1 : Nat)) l)))
    have h3 : (upd H1 r (.ins CR dx2 (rdF txt ((p : Int) + (wd.length : Int)) ((n + 1 : Nat)) l))) r = some (.ins CR dx2 (rdF txt ((p + (cs wd).length : Nat)) ((n + 1 : Nat)) l)) := by
      rw [upd_same, lwd]; rfl
    generalize upd H1 r (.ins CR dx2 (rdF txt ((p : Int) + (wd.length : Int)) ((n + 1 : Nat)) l)) = H2 at kb2 h3 ⊢
    have nq : ∀ {a b : Str}, a ≠ b → (decide (V.str a = V.str b)) = false := fun h => decide_eq_false fun z => by injection z with z; exact h z
    cases rh with
    | now =>
      refine ⟨_, rfl, rfl, _, rfl, ite_t (decide_eq_true rfl) ?_⟩
      refine fun px dxp hx hdx nx => ?_
      have sU : Same H2 (upd (upd H2 dxp (.own px)) px (.ins (A.cls .now) dxp [])) := ((Same.refl H2).new hdx).new (by rw [upd_ne nx.symm]; exact hx)
      refine ⟨px, dxp, rfl, upd_same, fun H3 k3 tn => ⟨rfl, ?_⟩⟩
      have s3 : ∀ b o, H2 b = some o → H3 b = some o := fun b o e => k3 b o (sU b o e) (ne_of_none e hx)
      exact q px H3 (kb2.trans fun b o nb e => s3 b o e) ⟨dx2, s3 _ _ h3⟩ tn
    | joined rj =>
      refine ⟨_, rfl, rfl, _, rfl, ite_f (nq (by decide +kernel)) ?_⟩
      refine ⟨_, rfl, rfl, _, rfl, ite_t (decide_eq_true rfl) ?_⟩
      refine ⟨_, rfl, r, CR, dx2, _, _, rfl, h3, ⟨rfl, rfl⟩, rfl, _, rfl, r, txt, _, n + 1, l, ins, y, rest, t, _, _, _, rfl, ⟨dx2, h3⟩, tz, hs2, rj, by omega, by omega, by omega, by omega, by omega, fun a H3 kb3 hr3 ht => q a H3 (kb2.trans kb3) ?_ ht⟩
      have en : ∀ k, n + (k + 1) = n + 1 + k := fun k => by omega
      rw [en]
      exact hr3
    | @ordered x' y' ta tb k l' d k2 l2 d2 lt ra rb =>
      refine ⟨_, rfl, rfl, _, rfl, ite_f (nq (by cases lt <;> decide +kernel)) ?_⟩
      refine ⟨_, rfl, rfl, _, rfl, ite_f (nq (by cases lt <;> decide +kernel)) ?_⟩
      refine ⟨_, rfl, rfl, _, rfl, ite_f (nq (by cases lt <;> decide +kernel)) ?_⟩
      refine ⟨_, rfl, rfl, _, rfl, ite_f (nq (by cases lt <;> decide +kernel)) ?_⟩
      refine ⟨_, rfl, r, CR, dx2, _, _, rfl, h3, ⟨rfl, rfl⟩, rfl, _, rfl, _, rfl, r, txt, lt, _, n + 1, l, ins, x', y', rest, ta, tb, k, l', d, k2, l2, d2, rfl, ⟨dx2, h3⟩, tz, hs2, ra, rb, by omega, by omega, by omega, by omega, by omega, fun a H3 kb3 hr3 ht => q a H3 (kb2.trans kb3) ?_ ht⟩
      have lc : (cs (Str.ofString ", ")).length = 2 := by decide +kernel
      have lp : (cs (Str.ofString ")")).length = 1 := by decide +kernel
      have en : n + (1 + k + k2) = n + 1 + k + k2 := by omega
      have el : l + (l' + l2) = l + l' + l2 := by omega
      have ey : (x' ++ cs (Str.ofString ", ") ++ y' ++ cs (Str.ofString ")")).length = x'.length + 2 + y'.length + 1 := by
        simp only [List.length_append, lc, lp]
      rw [en, el, ey]
      exact hr3
    | @look x' t' k l' d z wy lim bk r' gz hwy h0 h60 =>
      refine ⟨_, rfl, rfl, _, rfl, ite_f (nq (by cases bk <;> decide +kernel)) ?_⟩
      refine ⟨_, rfl, rfl, _, rfl, ite_f (nq (by cases bk <;> decide +kernel)) ?_⟩
      have lc : (cs (Str.ofString " ")).length = 1 := by decide +kernel
      have lwy : wy.length = (cs wy).length := (Array.length_toList).symm
      have en : n + (k + 1) = n + 1 + k := by omega
      have el : l + (l' + 1) = l + 1 + l' := by omega
      have ey : (cs z ++ cs (farS lim) ++ cs (Str.ofString " ") ++ cs wy ++ cs (Str.ofString " ") ++ x').length = (cs z).length + (cs (farS lim)).length + 1 + wy.length + 1 + x'.length := by
        simp only [List.length_append, lc, lwy]
      rw [en, el, ey] at q
      rcases hwy with ⟨hwy, rfl⟩ | ⟨hwy, rfl⟩
      · refine ⟨_, rfl, rfl, _, rfl, ite_t (decide_eq_true rfl) ?_⟩
        exact ⟨_, rfl, r, CR, dx2, _, _, rfl, h3, ⟨rfl, rfl⟩, rfl, _, rfl, r, aK, txt, z, wy, lim, "at ", "before ", _, n + 1, l, ins, x', rest, t', k, l', d, rfl, ⟨dx2, h3⟩, hK.sq _, tz, hs2, gz, .inl ⟨hwy, rfl, rfl⟩, h0, h60, r', by omega, by omega, by omega, by omega, by omega, fun a H3 kb3 hr3 ht => q a H3 (kb2.trans kb3) hr3 ht⟩
      · refine ⟨_, rfl, rfl, _, rfl, ite_f (nq (by decide +kernel)) ?_⟩
        refine ⟨_, rfl, rfl, _, rfl, ite_t (decide_eq_true rfl) ?_⟩
        exact ⟨_, rfl, r, CR, dx2, _, _, rfl, h3, ⟨rfl, rfl⟩, rfl, _, rfl, r, aA, txt, z, wy, lim, "since ", "after ", _, n + 1, l, ins, x', rest, t', k, l', d, rfl, ⟨dx2, h3⟩, hA.sq _, tz, hs2, gz, .inr ⟨hwy, rfl, rfl⟩, h0, h60, r', by omega, by omega, by omega, by omega, by omega, fun a H3 kb3 hr3 ht => q a H3 (kb2.trans kb3) hr3 ht⟩
end
end Pl

namespace Pl
open PySem L2 PySem.Spec PyProof.Rows
/-! ### parse, where the text is right -/
structure RdTx (K : Fg) (mg : Str → Option Value) (CR : Addr) : Prop where
  c : Cls K CR
  n1 : NoAttr K CR "text"
  n2 : NoAttr K CR "place"
  n3 : NoAttr K CR "parts"
  n4 : NoAttr K CR "looks"
section
variable {P : Program} {w : World} {K : Fg} {mg : Str → Option Value} {base : Heap} {A : CA} {ks : Kd → Bool} {CW CR : Addr}
def spRdI (CR : Addr) : Sp := fun vs H Q _ => ∃ (r : Addr) (t : Str), vs = [.ref r, .str t] ∧ ∃ dx, H r = some (.ins CR dx []) ∧ Q .non (upd H r (.ins CR dx (rdF t 0 0 0)))
theorem ok_Reader_init (D : DfI K mg "Reader" "Reader.__init__" CR s_Reader___init__ p_Reader___init__) (R : RdTx K mg CR) : CalM P w K mg base CX0 "Reader" CR 2 (spRdI CR) := by
  refine D.cal sc_Reader___init__ (fun vs H Q E h => ?_) (fun f cdv A outer s H vs Q E hr h => ?_)
  · obtain ⟨r, t, rfl, _⟩ := h; rfl
  · obtain ⟨r, t, rfl, dx, hp, q⟩ := h
    refine ⟨_, (pss_cons (ps_fld (pv 0) (pv 1) rfl)
      (pss_cons (ps_fld (pv 0) pe_int rfl)
      (pss_cons (ps_fld (pv 0) pe_int rfl)
      (pss_one (ps_fld (pv 0) pe_int rfl))))), ?_⟩
    refine ⟨_, rfl, _, rfl, r, CR, dx, [], rfl, hp, R.c, R.n1, by show 0 < 1000; decide, ?_⟩
    refine ⟨_, rfl, r, CR, dx, _, rfl, upd_same, R.c, R.n2, by show 1 < 1000; decide, ?_⟩
    rw [upd_upd]
    refine ⟨_, rfl, r, CR, dx, _, rfl, upd_same, R.c, R.n3, by show 2 < 1000; decide, ?_⟩
    rw [upd_upd]
    refine ⟨_, rfl, r, CR, dx, _, rfl, upd_same, R.c, R.n4, by show 3 < 1000; decide, ?_⟩
    rw [upd_upd]
    exact q
theorem ok_read_term {D : Nat} (Dt : ∃ f fd, Fun K "read_term" "Reader.read_term" s_Reader_read_term f fd ∧ Meth K CR "read_term" f ∧ Binds K fd p_Reader_read_term []) (Dj : ∃ f fd, Fun K "read_joined" "Reader.read_joined" s_Reader_read_joined f fd ∧ Meth K CR "read_joined" f ∧ Binds K fd p_Reader_read_joined [])
    (Do : ∃ f fd, Fun K "read_ordered" "Reader.read_ordered" s_Reader_read_ordered f fd ∧ Meth K CR "read_ordered" f ∧ Binds K fd p_Reader_read_ordered []) (Dl : ∃ f fd, Fun K "read_look" "Reader.read_look" s_Reader_read_look f fd ∧ Meth K CR "read_look" f ∧ Binds K fd p_Reader_read_look [])
    (T : Tx K mg) (TT : TTx K mg A ks) (hk : ∀ k, ks k = true) (hC : ∀ k, A.cls k ≠ CR) (R : RdTx K mg CR) (gJ : ∃ a, mg "JOINTS" = some (.ref a) ∧ TupK K a [" + ", " - ", " or "]) (gS : ∃ t, mg "MOST_LOOKS" = some (.int 12 t)) (gA : ∃ t, mg "LETTERS" = some (.str (Str.ofString "abcdefghijklmnopqrstuvwxyz") t)) (gM : ∃ t, mg "MOST_LETTERS" = some (.int 12 t)) (gL : ∃ t, mg "LIMITED" = some (.str (Str.ofString "within ") t))
    (gD : ∃ t, mg "MOST_DEPTH" = some (.int 12 t)) (gP : ∃ t, mg "MOST_PARTS" = some (.int 40 t)) (gB : ∃ a, mg "BEGINNINGS" = some (.ref a) ∧ TupK K a beginnings) (gWB : ∃ a, mg "WAYS_BACK" = some (.ref a) ∧ TupK K a ["at ", "before "]) (gWA : ∃ a, mg "WAYS_AHEAD" = some (.ref a) ∧ TupK K a ["since ", "after "])
    (c_word : CalI P w K mg base CX0 CR "read_word" 2 (spWord K CR)) (c_num : CalI P w K mg base CX0 CR "read_number" 4 (spNumR CR)) (c_row : CalI P w K mg base CX0 CR "read_row_of" 2 (spRowOf CR))
    (c_add : ∀ C sp, (∃ k, ks k = true ∧ C = A.cls k) ∧ sp = spSh A ks → CalI P w K mg base CX0 C "__add__" 6 sp ∧ OpTx K C .Add) (c_sub : ∀ C sp, (∃ k, ks k = true ∧ C = A.cls k) ∧ sp = spSub A ks → CalI P w K mg base CX0 C "__sub__" 6 sp ∧ OpTx K C .Sub)
    (c_or : ∀ C C' sp, BinS A ks (spM_either A ks) C C' sp → CalI P w K mg base CX0 C "__or__" 4 sp ∧ OpO K C .BitOr ∧ OpO K C' .BitOr ∧ (C ≠ C' → PySem.W.subIn K (.ref C') (.ref C) = some false))
    (c_later : ∀ C sp, (∃ k, ks k = true ∧ C = A.cls k) ∧ sp = spM_later A ks → CalI P w K mg base CX0 C "later" 4 sp) (c_earlier : ∀ C sp, (∃ k, ks k = true ∧ C = A.cls k) ∧ sp = spM_earlier A ks → CalI P w K mg base CX0 C "earlier" 4 sp)
    (c_Now : CalM P w K mg base CX0 "Now" (A.cls .now) 2 (spNInit A)) (c_Look : CalKM P w K mg base CX0 "Look" (A.cls .look) 3 ["within"] 5 (spLInit A ks)) :
    CalI P w K mg base CX0 CR "read_term" (2 * D + 8) (spRT A CR D) := by
  have one : ∀ {m : Str} {k : Nat} {sp0 : Sp}, CalI P w K mg base CX0 CR m k sp0 → ∀ C sp, (C = CR ∧ sp = sp0) → CalI P w K mg base CX0 C m k sp := fun h C sp e => by obtain ⟨rfl, rfl⟩ := e; exact h
  induction D with
  | zero =>
    obtain ⟨f, fd, F, m1, hb⟩ := Dt
    refine ⟨f, fd, _, F.ok (k := 7) sc_Reader_read_term (fun vs H Q E h => ?_) (fun cdv A' outer s H vs Q E hr h => ?_), m1, R.c, hb⟩
    · obtain ⟨r, txt, p, n, l, ins, x, rest, t, k, lk, d, rfl, _⟩ := h; rfl
    · obtain ⟨r, txt, p, n, l, ins, x, rest, t, k, lk, d, rfl, _, _, _, rd, dD, _⟩ := h
      exfalso
      cases rd <;> omega
  | succ D ih =>
    have c_j := ok_Reader_read_joined Dj T TT hk hC R.c gJ (by omega) (one ih) (one c_word) (one c_num) c_add c_sub c_or
    have c_o := ok_Reader_read_ordered Do T TT hk hC R.c (by omega) (one ih) (one c_word) c_later c_earlier
    have c_l := ok_Reader_read_look Dl T TT hk hC R.c R.n4 (by omega) gS gA gM gL (one ih) (one c_word) (one c_num) (one c_row) c_Look
    have q := ok_Reader_read_term Dt T hk R.c R.n3 (by omega) gD gP gB gWB gWA (one c_word) c_Now (one c_j) (one c_o) (one c_l)
    exact q
def spREnd (CR : Addr) : Sp := fun vs H Q _ => ∃ (r : Addr) (t : Str) (p : Nat) (n l : Int), vs = [.ref r] ∧ RdAt CR H r t p n l ∧ p = t.length ∧ t.length ≤ 100000 ∧ Q .non H
theorem ok_Reader_read_end (D : ∃ f fd, Fun K "read_end" "Reader.read_end" s_Reader_read_end f fd ∧ Meth K CR "read_end" f ∧ Binds K fd p_Reader_read_end []) (T : Tx K mg) (R : RdTx K mg CR) : CalI P w K mg base CX0 CR "read_end" 1 (spREnd CR) := by
  obtain ⟨f, fd, F, m1, hb⟩ := D
  refine ⟨f, fd, _, F.ok sc_Reader_read_end (fun vs H Q E h => ?_) (fun cdv A' outer s H vs Q E hr h => ?_), m1, R.c, hb⟩
  · obtain ⟨r, t, p, n, l, rfl, _⟩ := h; rfl
  · obtain ⟨r, t, p, n, l, rfl, ⟨dx, hrd⟩, ep, tz, q⟩ := h
    refine ⟨_, (pss_one (ps_if (pt_cmpR op_lt (pe_fld (pv 0) rfl) (pc_len T (pa_cons (pe_fld (pv 0) rfl) pa_nil)) (nomark _))
        (pss_one ps_never)
        pss_nil)), ?_⟩
    refine ⟨_, rfl, r, _, dx, _, _, rfl, hrd, R.c, R.n2, rfl, _, rfl, r, _, dx, _, _, rfl, hrd, R.c, R.n1, rfl, _, t.length, rfl, ⟨Nat.le_trans tz (by decide), rfl⟩, _, _, rfl, rfl, _, rfl, ite_f (decide_eq_false (by omega)) ?_⟩
    exact q
def spParse (A : CA) : Sp := fun vs H Q _ => ∃ (txt : Str) (t : Tm) (k lk d : Nat), vs = [.str txt] ∧ txt.length ≤ 100000 ∧ Rd (cs txt) t k lk d ∧ d ≤ 12 ∧ k ≤ 40 ∧ lk ≤ 12 ∧ ∀ a H', Same H H' → TermAt A H' t a → Q (.ref a) H'
theorem ok_parse (D : Df K mg "parse" "parse" s_parse p_parse) (c_Reader : CalM P w K mg base CX0 "Reader" CR 2 (spRdI CR)) (c_term : ∀ C sp, (C = CR ∧ sp = spRT A CR 12) → CalI P w K mg base CX0 C "read_term" 32 sp) (c_end : ∀ C sp, (C = CR ∧ sp = spREnd CR) → CalI P w K mg base CX0 C "read_end" 1 sp) : Cal P w K mg base CX0 "parse" 33 (spParse A) := by
  refine D.cal fun f fd F => F.ok sc_parse (fun vs H Q E h => ?_) (fun cdv A' outer s H vs Q E hr h => ?_)
  · obtain ⟨txt, t, k, lk, d, rfl, _⟩ := h; rfl
  · obtain ⟨txt, t, k, lk, d, rfl, tz, rd, d12, k40, l12, q⟩ := h
    refine ⟨_, (pss_cons (ps_set (i := 1) sc_parse.nd rfl (Or.inl rfl) (pmk c_Reader hr (by decide) (pa_cons (pv 0) pa_nil)))
      (pss_cons (ps_set (i := 2) sc_parse.nd rfl (Or.inl rfl) (pmsx c_term hr (by decide) pass0 (pv 1) (pa_cons pe_int pa_nil)))
      (pss_cons (ps_expr (pmsx0 c_end hr (by decide) pass0 (pv 1)))
      (pss_one (ps_ret (pv 2)))))), ?_⟩
    refine ⟨_, rfl, fun r dx hx hdx nx => ⟨r, txt, rfl, dx, upd_same, rfl, ?_⟩⟩
    have sU : Same H (upd (upd (upd H dx (.own r)) r (.ins CR dx [])) r (.ins CR dx (rdF txt 0 0 0))) := by
      rw [upd_upd]
      exact ((Same.refl H).new hdx).new (by rw [upd_ne nx.symm]; exact hx)
    have hr0 : (upd (upd (upd H dx (.own r)) r (.ins CR dx [])) r (.ins CR dx (rdF txt 0 0 0))) r = some (.ins CR dx (rdF txt ((0 : Nat)) ((0 : Nat)) ((0 : Nat)))) := upd_same
    generalize upd (upd (upd H dx (.own r)) r (.ins CR dx [])) r (.ins CR dx (rdF txt 0 0 0)) = H1 at sU hr0 ⊢
    have hs : txt.cps.toList.drop 0 = cs txt ++ [] := (List.append_nil _).symm
    refine ⟨_, rfl, r, CR, dx, _, _, rfl, hr0, ⟨rfl, rfl⟩, rfl, r, txt, 0, 0, 0, 0, cs txt, [], t, k, lk, d, rfl, ⟨dx, hr0⟩, tz, hs, rd, d12, by omega, by omega, by omega, fun a H2 kb hr2 ht => ?_⟩
    obtain ⟨dx2, h2⟩ := hr2
    have tl : txt.length = (cs txt).length := (Array.length_toList).symm
    refine ⟨_, rfl, r, CR, dx2, _, _, rfl, h2, ⟨rfl, rfl⟩, rfl, r, txt, _, _, _, rfl, ⟨dx2, h2⟩, by omega, tz, ?_⟩
    exact ⟨_, rfl, q a H2 (fun b o e => kb b o (ne_of_none e hx) (sU b o e)) ht⟩
end
end Pl

namespace Pl
open PySem L2 PySem.Spec PyProof.Rows
/-! ### loose texts: shifts of shifts -/
theorem shd_shd_ns {t : Tm} (ns : t.kd ≠ .shift) (a b : Int) : (t.shd a).shd b = t.shd (a + b) := by
  rw [shd_ns (c := a) ns]
  by_cases h1 : a = 0
  · subst h1
    rw [if_pos rfl, Int.zero_add]
  · rw [if_neg h1, shd_ns (c := a + b) ns]
    show (if b = 0 then Tm.shift t a else if a + b = 0 then t else .shift t (a + b)) = _
    by_cases h3 : b = 0
    · subst h3
      rw [if_pos rfl, Int.add_zero, if_neg h1]
    · rw [if_neg h3]
theorem shd_shd {ks : Kd → Bool} {t : Tm} (g : Good ks t) (a b : Int) : (t.shd a).shd b = t.shd (a + b) := by
  cases t with
  | shift m c =>
    have c0 : c ≠ 0 := g.2.2.1
    have ns : m.kd ≠ .shift := g.2.2.2
    show (if a = 0 then Tm.shift m c else if c + a = 0 then m else .shift m (c + a)).shd b = if a + b = 0 then Tm.shift m c else if c + (a + b) = 0 then m else .shift m (c + (a + b))
    by_cases h1 : a = 0
    · subst h1
      rw [if_pos rfl, Int.zero_add]; rfl
    · rw [if_neg h1]
      by_cases h2 : c + a = 0
      · rw [if_pos h2, shd_ns ns]
        by_cases h3 : b = 0
        · subst h3
          rw [if_pos rfl, if_neg (by omega), if_pos (by omega)]
        · rw [if_neg h3]
          by_cases h4 : a + b = 0
          · rw [if_pos h4, show b = c from by omega]
          · rw [if_neg h4, if_neg (by omega), show c + (a + b) = b from by omega]
      · rw [if_neg h2]
        show (if b = 0 then Tm.shift m (c + a) else if c + a + b = 0 then m else .shift m (c + a + b)) = _
        by_cases h3 : b = 0
        · subst h3
          rw [if_pos rfl, if_neg (by omega), if_neg (by omega), Int.add_zero]
        · rw [if_neg h3]
          by_cases h4 : a + b = 0
          · rw [if_pos h4, if_neg (by omega), show c + a + b = c from by omega]
          · rw [if_neg h4]
            by_cases h5 : c + a + b = 0
            · rw [if_pos h5, if_pos (by omega)]
            · rw [if_neg h5, if_neg (by omega), show c + (a + b) = c + a + b from by omega]
  | now => exact shd_shd_ns (by intro z; cases z) a b
  | look _ _ _ _ => exact shd_shd_ns (by intro z; cases z) a b
  | either _ _ => exact shd_shd_ns (by intro z; cases z) a b
  | later _ _ => exact shd_shd_ns (by intro z; cases z) a b
  | earlier _ _ => exact shd_shd_ns (by intro z; cases z) a b
theorem shd_0 {t : Tm} : t.shd 0 = t := by cases t <;> rfl
section
variable {P : Program} {w : World} {K : Fg} {mg : Str → Option Value} {base : Heap} {A : CA} {ks : Kd → Bool} {CW CR : Addr}
def lzB : Int := 10000000000000000000000000000000000000004
def spLoose (ks : Kd → Bool) : Sp := fun vs H Q _ => ∃ (b c : Addr) (txt : Str) (tot : Int) (t : Tm) (k l d : Nat), vs = [.ref b, .str txt, .int tot] ∧ Box H b c ∧ txt.length ≤ 9000 ∧ Good ks t ∧ Rd (cs txt) t k l d ∧
  ∀ (a : Addr) (H' : Hp) (txt' : Str) (s : Int) (j : Nat), Box H' b c → Kp b c H H' → H a = none → H' a = some (.lst [.str txt', .int (tot + s)]) → Rd (cs txt') (t.shd s) (k + j) l (d + j) → j ≤ 3 → -(3 * lzB) ≤ s → s ≤ 3 * lzB → txt'.length ≤ txt.length + 300 → Q (.ref a) H'
theorem ok__law_loose_text (D : Df K mg "_law_loose_text" "_law_loose_text" s__law_loose_text p__law_loose_text) (T : Tx K mg) (hk : ∀ k, ks k = true) (c__law_pick : Cal P w K mg base CX0 "_law_pick" 1 spPick) : Cal P w K mg base CX0 "_law_loose_text" 2 (spLoose ks) := by
  refine D.cal fun f fd F => F.ok sc__law_loose_text (fun vs H Q E h => ?_) (fun cdv A' outer s H vs Q E hr h => ?_)
  · obtain ⟨b, c, txt, tot, t, k, l, d, rfl, _⟩ := h; rfl
  · obtain ⟨b, c, txt, tot, t, k, l, d, rfl, B, tz, gd, rd, q⟩ := h
    refine ⟨_, (pss_cons (ps_for PassesOwn.never rfl (pi_range1 rfl T.range (pa_cons (pc c__law_pick hr (by decide) (pa_cons (pv 0) (pa_cons pe_int pa_nil))) pa_nil)) (pg_name (i := 3) sc__law_loose_text.nd rfl (Or.inl rfl))
        (pss_cons (ps_set (i := 4) sc__law_loose_text.nd rfl (Or.inl rfl) (pe_op op_add (pe_op op_mul (pc c__law_pick hr (by decide) (pa_cons (pv 0) (pa_cons pe_int pa_nil))) (pc c__law_pick hr (by decide) (pa_cons (pv 0) (pa_cons pe_int pa_nil)))) (pe_op op_mul (pc c__law_pick hr (by decide) (pa_cons (pv 0) (pa_cons pe_int pa_nil))) (pe_op op_pow pe_int pe_int))))
        (pss_one (ps_if (pt_cmpR op_eq (pc c__law_pick hr (by decide) (pa_cons (pv 0) (pa_cons pe_int pa_nil))) pe_int (nomark _))
          (pss_cons (ps_set (i := 1) sc__law_loose_text.nd rfl (Or.inl rfl) (pe_op op_add_str (pe_op op_add_str (pe_op op_add_str (pe_op op_add_str pe_str (pv 1)) pe_str) (pc_strc T (pa_cons (pv 4) pa_nil))) pe_str))
          (pss_one (ps_set (i := 2) sc__law_loose_text.nd rfl (Or.inl rfl) (pe_op op_add (pv 2) (pv 4)))))
          (pss_cons (ps_set (i := 1) sc__law_loose_text.nd rfl (Or.inl rfl) (pe_op op_add_str (pe_op op_add_str (pe_op op_add_str (pe_op op_add_str pe_str (pv 1)) pe_str) (pc_strc T (pa_cons (pv 4) pa_nil))) pe_str))
          (pss_one (ps_set (i := 2) sc__law_loose_text.nd rfl (Or.inl rfl) (pe_op op_sub (pv 2) (pv 4)))))))))
      (pss_one (ps_ret (pe_lst (pa_cons (pv 1) (pa_cons (pv 2) pa_nil)))))), ?_⟩
    refine ⟨_, rfl, b, c, 4, rfl, B, by decide, by decide, fun r H1 r0 r1 B1 k1 => ?_⟩
    refine ⟨_, rfl, (range_ok r0 (by omega)).1, (range_ok r0 (by omega)).2, for_range (lo := 0) (n := r.toNat) (fun j σ G => ∃ (txt' : Str) (s : Int) (x3 x4 : Option V), σ = [some (.ref b), some (.str txt'), some (.int (tot + s)), x3, x4] ∧ Box G b c ∧ Kp b c H G ∧ Rd (cs txt') (t.shd s) (k + j) l (d + j) ∧ -(j * lzB) ≤ s ∧ s ≤ j * lzB ∧ txt'.length ≤ txt.length + j * 100) ⟨txt, 0, none, none, by rw [Int.add_zero]; rfl, B1, k1, by rw [shd_0]; exact rd, by omega, by omega, by omega⟩ ?_ ?_⟩
    · rintro j σ G hj ⟨txt', s, x3, x4, rfl, BG, kG, rdG, s1, s2, lG⟩
      refine ⟨_, rfl, b, c, 5, rfl, BG, by decide, by decide, fun u G1 u0 u1 B1 k1 => ?_⟩
      refine ⟨_, rfl, b, c, 2, rfl, B1, by decide, by decide, fun v G2 v0 v1 B2 k2 => ?_⟩
      refine ⟨_, _, rfl, rfl, .inl ⟨by omega, by omega⟩, ?_⟩
      refine ⟨_, rfl, b, c, 2, rfl, B2, by decide, by decide, fun v2 G3 w0 w1 B3 k3 => ?_⟩
      refine ⟨_, _, rfl, rfl, (by show (0 : Int) ≤ 40 ∧ (40 : Int) ≤ 1000000 ∧ Int.natAbs 10 < 2 ^ 64; decide), _, _, rfl, rfl, .inl ⟨by omega, by omega⟩, _, _, rfl, rfl, ?_⟩
      have am : ∃ m : Nat, (u * v + v2 * 10 ^ (40 : Int).toNat : Int) = m ∧ (m : Int) ≤ lzB := by
        have e1 : (10 : Int) ^ (40 : Int).toNat = 10000000000000000000000000000000000000000 := by decide +kernel
        rw [e1]
        have hv : v = 0 ∨ v = 1 := by omega
        have hw : v2 = 0 ∨ v2 = 1 := by omega
        unfold lzB
        rcases hv with rfl | rfl <;> rcases hw with rfl | rfl
        · exact ⟨0, by omega, by omega⟩
        · exact ⟨10000000000000000000000000000000000000000, by omega, by omega⟩
        · exact ⟨u.toNat, by omega, by omega⟩
        · exact ⟨(u + 10000000000000000000000000000000000000000).toNat, by omega, by omega⟩
      obtain ⟨m, em, mb⟩ := am
      show gName 4 (V.int (u * v + v2 * 10 ^ (40 : Int).toNat)) _ G3 _
      rw [em]
      clear em
      have k03 := kG.trans (k1.trans (k2.trans k3))
      have m60 : m < 10 ^ 60 := by
        have e1 : (10 : Nat) ^ 60 = 1000000000000000000000000000000000000000000000000000000000000 := by decide +kernel
        rw [e1]; unfold lzB at mb; omega
      have ln : (numS (m : Int)).length ≤ 60 := numS_len (by omega) (by
        have e1 : (10 : Int) ^ 60 = 1000000000000000000000000000000000000000000000000000000000000 := by decide +kernel
        rw [e1]; unfold lzB at mb; omega)
      have l1 : (Str.ofString "(").length = 1 := by decide +kernel
      have l2 : (Str.ofString ")").length = 1 := by decide +kernel
      have l3 : (Str.ofString " + ").length = 3 := by decide +kernel
      have l4 : (Str.ofString " - ").length = 3 := by decide +kernel
      have jr : (j : Int) ≤ 3 := by omega
      have lg : ((m : Int)).natAbs.log2 < 1920 := log_small (by omega) (by
        have e1 : (10 : Int) ^ 60 = 1000000000000000000000000000000000000000000000000000000000000 := by decide +kernel
        rw [e1]; unfold lzB at mb; omega)
      refine ⟨_, rfl, b, c, 2, rfl, B3, by decide, by decide, fun v4 G4 y0 y1 B4 k4 => ?_⟩
      refine ⟨rfl, _, rfl, ite2 (fun z => ?_) (fun z => ?_)⟩
      · refine ⟨_, rfl, _, _, rfl, rfl, sml (by omega), _, _, rfl, rfl, sml (by (try simp only [cat_len]); omega), _, rfl, _, rfl, lg, _, _, rfl, rfl, sml (by (try simp only [cat_len]); omega), _, _, rfl, rfl, sml (by (try simp only [cat_len]); omega), ?_⟩
        refine ⟨_, rfl, _, rfl, _, _, rfl, rfl, ?_⟩
        have et : cs (Str.ofString "(" ++ txt' ++ Str.ofString " + " ++ numS (m : Int) ++ Str.ofString ")") = cs "(" ++ cs txt' ++ cs " + " ++ TL.numL m ++ cs ")" := by
          simp only [cs_cat, cs_num]
        refine ⟨_, s + m, some (.int ((0 : Int) + j)), some (.int m), by rw [← Int.add_assoc]; rfl, B4, k03.trans k4, ?_, ?_, ?_, ?_⟩
        · rw [et]
          have r2 := Rd.plus rdG m60
          rw [shd_shd gd] at r2
          exact r2
        · unfold lzB at *; rw [Int.natCast_add] ; omega
        · unfold lzB at *; rw [Int.natCast_add]; omega
        · simp only [cat_len]; omega
      · refine ⟨_, rfl, _, _, rfl, rfl, sml (by omega), _, _, rfl, rfl, sml (by (try simp only [cat_len]); omega), _, rfl, _, rfl, lg, _, _, rfl, rfl, sml (by (try simp only [cat_len]); omega), _, _, rfl, rfl, sml (by (try simp only [cat_len]); omega), ?_⟩
        refine ⟨_, rfl, _, rfl, _, _, rfl, rfl, ?_⟩
        have et : cs (Str.ofString "(" ++ txt' ++ Str.ofString " - " ++ numS (m : Int) ++ Str.ofString ")") = cs "(" ++ cs txt' ++ cs " - " ++ TL.numL m ++ cs ")" := by
          simp only [cs_cat, cs_num]
        refine ⟨_, s - m, some (.int ((0 : Int) + j)), some (.int m), by rw [← Int.add_sub_assoc]; rfl, B4, k03.trans k4, ?_, ?_, ?_, ?_⟩
        · rw [et]
          have r2 := Rd.minus rdG m60
          rw [shd_shd gd] at r2
          exact r2
        · unfold lzB at *; rw [Int.natCast_add] ; omega
        · unfold lzB at *; rw [Int.natCast_add]; omega
        · simp only [cat_len]; omega
    · rintro σ G ⟨txt', s, x3, x4, rfl, BG, kG, rdG, s1, s2, lG⟩
      refine ⟨_, rfl, _, rfl, by show 2 ≤ sizeLine; decide, fun a ha => ?_⟩
      have r3 : r.toNat ≤ 3 := by omega
      refine q a _ txt' s r.toNat (BG.new ha) (kG.new ha) ?_ upd_same rdG r3 ?_ ?_ ?_
      · cases e : H a with
        | none => rfl
        | some o => exact absurd (kG a o (BG.nb ha).1 (BG.nb ha).2 e) (by rw [ha]; intro z; cases z)
      · unfold lzB at *; omega
      · unfold lzB at *; omega
      · omega
end
end Pl

namespace Pl
open PySem L2 PySem.Spec PyProof.Rows
theorem str_no {x y : Str} (h : x ≠ y) : decide (V.str x = V.str y) = false := decide_eq_false fun z => by injection z with z; exact h z
theorem str_yes {x : Str} : decide (V.str x = V.str x) = true := decide_eq_true rfl
def fitR (l : List Int) (wy : Str) (m : Int) : List Int := l.filter fun x => sideB wy x m
theorem fit_none {l : List Int} {wy : Str} {m : Int} (hw : wy ∈ ways) (h : fitR l wy m = []) : lkRow (srt l) wy m = none := by
  refine IsRow.uniq (lkRow_is (srt_up l) hw) (o' := none) fun x hx => ?_
  have := List.filter_eq_nil_iff.mp h x ((srt_perm l).mem_iff.mp hx)
  simpa using this
theorem fit_some {l : List Int} {wy : Str} {m r : Int} (hw : wy ∈ ways) (h : r ∈ fitR l wy m) (k : ∀ y ∈ fitR l wy m, if back wy then y ≤ r else r ≤ y) : lkRow (srt l) wy m = some r := by
  obtain ⟨h1, h2⟩ := List.mem_filter.mp h
  exact IsRow.uniq (lkRow_is (srt_up l) hw) (o' := some r) ⟨(srt_perm l).mem_iff.mpr h1, h2, fun x hx hs => k x (List.mem_filter.mpr ⟨(srt_perm l).mem_iff.mp hx, hs⟩)⟩
section
variable {P : Program} {w : World} {K : Fg} {mg : Str → Option Value} {base : Heap} {A : CA} {ks : Kd → Bool} {CW : Addr}
def spFnd (K : Fg) : Sp := fun vs H Q _ => ∃ (a : Addr) (l : List Int) (m : Int) (wy : Str) (lim : Option Int), vs = [.ref a, .int m, .str wy, limV lim] ∧ SqL K H a (l.map V.int) ∧ l.length ≤ 1000 ∧ wy ∈ ways ∧
  ∀ H', Same H H' → Q (limV ((lkRow (srt l) wy m).bind fun r => if inLim lim r m then some r else none)) H'
theorem ok__law_found (D : Df K mg "_law_found" "_law_found" s__law_found p__law_found) (T : Tx K mg) (hA : mg "abs" = none) : Cal P w K mg base CX0 "_law_found" 1 (spFnd K) := by
  refine D.cal fun f fd F => F.ok sc__law_found (fun vs H Q E h => ?_) (fun cdv A' outer s H vs Q E hr h => ?_)
  · obtain ⟨a, l, m, wy, lim, rfl, _⟩ := h; rfl
  · obtain ⟨a, l, m, wy, lim, rfl, hs, hl, hw, q⟩ := h
    have nab : (Str.ofString "before") ≠ (Str.ofString "at") := by decide +kernel
    have nsa : (Str.ofString "since") ≠ (Str.ofString "at") := by decide +kernel
    have nsb : (Str.ofString "since") ≠ (Str.ofString "before") := by decide +kernel
    have nfa : (Str.ofString "after") ≠ (Str.ofString "at") := by decide +kernel
    have nfb : (Str.ofString "after") ≠ (Str.ofString "before") := by decide +kernel
    have nfs : (Str.ofString "after") ≠ (Str.ofString "since") := by decide +kernel
    refine ⟨_, (pss_cons (ps_setLc (own := [("_law_row", 4)]) (i := 5) rfl sc__law_found.nd rfl rfl (sw_true rfl rfl rfl (by decide +kernel)) (pi_list (pv 0)) (blkOk_by (N := n__law_found) (sc := defScope s__law_found) (by decide +kernel)) (fun _ _ _ _ _ => (pg_name (i := 4) sc__law_found.nd rfl (Or.inl rfl))) (fun _ _ _ _ _ => (by exact (pts_one (pt_cmpR op_lt (pv 4) (pv 1) (nomark _))))) (fun _ _ _ _ _ => (by exact (pv 4))))
      (C8.pss_cut (ps_if (pt_cmpR op_eq (pv 2) pe_str (nomark _))
        (pss_one (ps_setLc (own := [("_law_row", 4)]) (i := 5) rfl sc__law_found.nd rfl rfl (sw_true rfl rfl rfl (by decide +kernel)) (pi_list (pv 0)) (blkOk_by (N := n__law_found) (sc := defScope s__law_found) (by decide +kernel)) (fun _ _ _ _ _ => (pg_name (i := 4) sc__law_found.nd rfl (Or.inl rfl))) (fun _ _ _ _ _ => (by exact (pts_one (pt_cmpR op_le (pv 4) (pv 1) (nomark _))))) (fun _ _ _ _ _ => (by exact (pv 4)))))
        pss_nil)
      (C8.pss_cut (ps_if (pt_cmpR op_eq (pv 2) pe_str (nomark _))
        (pss_one (ps_setLc (own := [("_law_row", 4)]) (i := 5) rfl sc__law_found.nd rfl rfl (sw_true rfl rfl rfl (by decide +kernel)) (pi_list (pv 0)) (blkOk_by (N := n__law_found) (sc := defScope s__law_found) (by decide +kernel)) (fun _ _ _ _ _ => (pg_name (i := 4) sc__law_found.nd rfl (Or.inl rfl))) (fun _ _ _ _ _ => (by exact (pts_one (pt_cmpR op_ge (pv 4) (pv 1) (nomark _))))) (fun _ _ _ _ _ => (by exact (pv 4)))))
        pss_nil)
      (C8.pss_cut (ps_if (pt_cmpR op_eq (pv 2) pe_str (nomark _))
        (pss_one (ps_setLc (own := [("_law_row", 4)]) (i := 5) rfl sc__law_found.nd rfl rfl (sw_true rfl rfl rfl (by decide +kernel)) (pi_list (pv 0)) (blkOk_by (N := n__law_found) (sc := defScope s__law_found) (by decide +kernel)) (fun _ _ _ _ _ => (pg_name (i := 4) sc__law_found.nd rfl (Or.inl rfl))) (fun _ _ _ _ _ => (by exact (pts_one (pt_cmpR op_gt (pv 4) (pv 1) (nomark _))))) (fun _ _ _ _ _ => (by exact (pv 4)))))
        pss_nil)
      (pss_cons (ps_if (pt_cmpR op_eq (pc_len T (pa_cons (pv 5) pa_nil)) pe_int (nomark _))
        (pss_one (ps_ret pe_non))
        pss_nil)
      (pss_cons (ps_set (i := 4) sc__law_found.nd rfl (Or.inl rfl) (pc_maxl (K := K) rfl T (pa_cons (pv 5) pa_nil)))
      (C8.pss_cut (ps_if (PW.pt (pw_or (pt_cmpR op_eq (pv 2) pe_str (nomark _)) (pw_or1 (pt_cmpR op_eq (pv 2) pe_str (nomark _)))))
        (pss_one (ps_set (i := 4) sc__law_found.nd rfl (Or.inl rfl) (pc_minl (K := K) rfl T (pa_cons (pv 5) pa_nil))))
        pss_nil)
      (pss_cons (ps_if (PW.pt (pw_and (pt_cmpR op_notN (pv 3) pe_non (nomark _)) (pw_and1 (pt_cmpR op_gt (pc_abs hA (pa_cons (pe_op op_sub (pv 4) (pv 1)) pa_nil)) (pv 3) (nomark _)))))
        (pss_one (ps_ret pe_non))
        pss_nil)
      (pss_one (ps_ret (pv 4))))))))))), ?_⟩
    have cases4 : wy = "at" ∨ wy = "before" ∨ wy = "since" ∨ wy = "after" := by simpa [ways] using hw
    have seq : ∀ {H'}, Same H H' → SqL K H' a (l.map V.int) := fun s => by
      rcases hs with (h | ⟨o, h⟩) | h
      · exact .inl (.inl (s _ _ h))
      · exact .inl (.inr ⟨o, s _ _ h⟩)
      · exact .inr h
    refine ⟨_, rfl, a, rfl, ⟨_, hs⟩, fun D1 hD1 => lc_filt (f := fun x => decide (x < m)) hD1 hs hl (fun x hx H' R s' hR' => ⟨_, rfl, _, rfl, _, _, rfl, rfl, _, rfl, hR'⟩) (fun H1 s1 d1 => ?_) (fun _ => rfl) (fun _ => rfl)⟩
    refine ⟨fun σ H' => Same H H' ∧ ∃ p v, σ = [some (.ref a), some (.int m), some (.str wy), some (limV lim), v, some (.ref p)] ∧ H' p = some (.lst ((if wy = "at" then l.filter (fun x => decide (x ≤ m)) else l.filter fun x => decide (x < m)).map V.int)), ?_, ?_⟩
    · by_cases h : wy = "at"
      · subst h
        refine ⟨_, rfl, rfl, _, rfl, ite_t str_yes ?_⟩
        refine ⟨_, rfl, a, rfl, ⟨_, seq s1⟩, fun D2 hD2 => lc_filt (f := fun x => decide (x ≤ m)) hD2 (seq s1) hl (fun x hx H' R s' hR' => ⟨_, rfl, _, rfl, _, _, rfl, rfl, _, rfl, hR'⟩) (fun H2 s2 d2 => ⟨s1.trans s2, D2, _, rfl, by rw [if_pos rfl]; exact d2⟩) (fun _ => rfl) (fun _ => rfl)⟩
      · exact ⟨_, rfl, rfl, _, rfl, ite_f (str_no h) ⟨s1, D1, _, rfl, by rw [if_neg h]; exact d1⟩⟩
    rintro σ H1' ⟨s1, p1, v1, rfl, d1⟩
    refine ⟨fun σ H' => Same H H' ∧ ∃ p v, σ = [some (.ref a), some (.int m), some (.str wy), some (limV lim), v, some (.ref p)] ∧ H' p = some (.lst ((if wy = "since" then l.filter (fun x => decide (x ≥ m)) else if wy = "at" then l.filter (fun x => decide (x ≤ m)) else l.filter fun x => decide (x < m)).map V.int)), ?_, ?_⟩
    · by_cases h : wy = "since"
      · subst h
        refine ⟨_, rfl, rfl, _, rfl, ite_t str_yes ?_⟩
        refine ⟨_, rfl, a, rfl, ⟨_, seq s1⟩, fun D2 hD2 => lc_filt (f := fun x => decide (x ≥ m)) hD2 (seq s1) hl (fun x hx H' R s' hR' => ⟨_, rfl, _, rfl, _, _, rfl, rfl, _, rfl, hR'⟩) (fun H2 s2 d2 => ⟨s1.trans s2, D2, _, rfl, by rw [if_pos rfl]; exact d2⟩) (fun _ => rfl) (fun _ => rfl)⟩
      · exact ⟨_, rfl, rfl, _, rfl, ite_f (str_no h) ⟨s1, p1, _, rfl, by rw [if_neg h]; exact d1⟩⟩
    rintro σ H1' ⟨s1, p1, v1, rfl, d1⟩
    refine ⟨fun σ H' => Same H H' ∧ ∃ p v, σ = [some (.ref a), some (.int m), some (.str wy), some (limV lim), v, some (.ref p)] ∧ H' p = some (.lst ((fitR l wy m).map V.int)), ?_, ?_⟩
    · by_cases h : wy = "after"
      · subst h
        refine ⟨_, rfl, rfl, _, rfl, ite_t str_yes ?_⟩
        refine ⟨_, rfl, a, rfl, ⟨_, seq s1⟩, fun D2 hD2 => lc_filt (f := fun x => decide (x > m)) hD2 (seq s1) hl (fun x hx H' R s' hR' => ⟨_, rfl, _, rfl, _, _, rfl, rfl, _, rfl, hR'⟩) (fun H2 s2 d2 => ⟨s1.trans s2, D2, _, rfl, ?_⟩) (fun _ => rfl) (fun _ => rfl)⟩
        rw [d2]
        unfold fitR sideB
        simp [nfa, nfb, nfs]
      · refine ⟨_, rfl, rfl, _, rfl, ite_f (str_no h) ⟨s1, p1, _, rfl, ?_⟩⟩
        rw [d1]
        unfold fitR sideB
        rcases cases4 with rfl | rfl | rfl | rfl
        · simp [nsa.symm]
        · simp [nab, nsb.symm]
        · simp [nsa, nsb]
        · exact absurd rfl h
    · rintro σ H2 ⟨s2, p, v, rfl, hp⟩
      have q := fun H' (s : Same H2 H') => q H' (s2.trans s)
      refine ⟨_, rfl, _, _, rfl, .inl ⟨_, SqL.of hp, rfl⟩, rfl, _, rfl, ?_⟩
      cases ef : fitR l wy m with
      | nil =>
        rw [fit_none hw ef] at q
        exact iteT (q _ (Same.refl _))
      | cons x0 r0 =>
        refine ite_f (decide_eq_false fun z => by injection z with z; rw [List.length_map, List.length_cons] at z; omega) ?_
        have ne : 0 < (fitR l wy m).length := by rw [ef]; exact Nat.succ_pos _
        refine ⟨_, rfl, p, _, rfl, SqL.of hp, ne, fun M hM hle => ?_⟩
        refine ⟨fun σ H' => H' = H2 ∧ ∃ r, σ = [some (.ref a), some (.int m), some (.str wy), some (limV lim), some (.int r), some (.ref p)] ∧ lkRow (srt l) wy m = some r, ?_, ?_⟩
        · rcases cases4 with rfl | rfl | rfl | rfl
          · refine ⟨_, rfl, rfl, _, rfl, ite_f (str_no nsa.symm) ⟨_, rfl, rfl, _, rfl, ite_f (str_no nfa.symm) ⟨rfl, M, rfl, fit_some hw hM fun y hy => ?_⟩⟩⟩
            rw [if_pos (by decide +kernel)]; exact hle y hy
          · refine ⟨_, rfl, rfl, _, rfl, ite_f (str_no nsb.symm) ⟨_, rfl, rfl, _, rfl, ite_f (str_no nfb.symm) ⟨rfl, M, rfl, fit_some hw hM fun y hy => ?_⟩⟩⟩
            rw [if_pos (by decide +kernel)]; exact hle y hy
          · refine ⟨_, rfl, rfl, _, rfl, ite_t str_yes ⟨_, rfl, p, _, rfl, SqL.of hp, ne, fun N hN hge => ⟨rfl, N, rfl, fit_some hw hN fun y hy => ?_⟩⟩⟩
            rw [if_neg (by decide +kernel)]; exact hge y hy
          · refine ⟨_, rfl, rfl, _, rfl, ite_f (str_no nfs) ⟨_, rfl, rfl, _, rfl, ite_t str_yes ⟨_, rfl, p, _, rfl, SqL.of hp, ne, fun N hN hge => ⟨rfl, N, rfl, fit_some hw hN fun y hy => ?_⟩⟩⟩⟩
            rw [if_neg (by decide +kernel)]; exact hge y hy
        · rintro σ H3 ⟨rfl, r, rfl, er⟩
          rw [er] at q
          have q : Q (limV (if inLim lim r m then some r else none)) H3 := q _ (Same.refl _)
          cases lim with
          | none => exact ⟨_, rfl, rfl, _, rfl, iteF ⟨_, rfl, q⟩⟩
          | some i =>
            refine ⟨_, rfl, rfl, _, rfl, iteT ?_⟩
            refine ⟨_, rfl, _, rfl, _, _, rfl, rfl, _, rfl, _, rfl, _, _, rfl, rfl, _, rfl, ?_⟩
            by_cases hi : (if r - m < 0 then -(r - m) else r - m) ≤ i
            · have e2 : inLim (some i) r m = true := decide_eq_true hi
              rw [if_pos e2] at q
              exact ite_f (decide_eq_false (by omega)) ⟨_, rfl, q⟩
            · have e2 : ¬ inLim (some i) r m = true := by
                intro z; exact hi (of_decide_eq_true z)
              rw [if_neg e2] at q
              exact ite_t (decide_eq_true (by omega)) q
def spTl (ks : Kd → Bool) (n : Nat) : Sp := fun vs H Q _ => ∃ (N : Addr → Prop) (a d : Addr) (t : Tm) (kvs : List (Key × V)) (rs : Rs) (nw : Int), vs = [.ref a, .ref d, .int nw] ∧ TreeAt H t a ∧ Good ks t ∧ t.sz.d < (n : Int) ∧ H d = some (.dK kvs) ∧ Rows N H kvs rs ∧ (rs.map (·.1)).Nodup ∧ (∀ r ∈ rs, r.2.length ≤ 1000) ∧
  ∀ H', Same H H' → Q (limV (t.ans (srs rs) nw)) H'
theorem rows_no {rs : Rs} {z : Str} (h : z ∉ rs.map (·.1)) : rowsOf (srs rs) z = [] := by
  unfold rowsOf; rw [look_no fun m => h (srs_names _ m)]; rfl
theorem ok__law_told (D : Df K mg "_law_told" "_law_told" s__law_told p__law_told) (T : Tx K mg) (c__law_found : Cal P w K mg base CX0 "_law_found" 1 (spFnd K)) : ∀ n, Cal P w K mg base CX0 "_law_told" (n + 2) (spTl ks n) := by
  intro n
  induction n with
  | zero =>
    refine D.cal fun f fd F => F.ok sc__law_told (fun vs H Q E h => ?_) (fun cdv A' outer s H vs Q E hr h => ?_)
    · obtain ⟨N, a, d, t, kvs, rs, nw, rfl, _⟩ := h; rfl
    · obtain ⟨N, a, d, t, kvs, rs, nw, rfl, ht, g, hd, _⟩ := h
      have := t.d_pos
      exact absurd hd (by omega)
  | succ n c__law_told =>
    refine D.cal fun f fd F => F.ok sc__law_told (fun vs H Q E h => ?_) (fun cdv A' outer s H vs Q E hr h => ?_)
    · obtain ⟨N, a, d, t, kvs, rs, nw, rfl, _⟩ := h; rfl
    · obtain ⟨N, a, d, t, kvs, rs, nw, rfl, ht, g, hd, hdk, hR, nd, hlen, q⟩ := h
      have hu := hu_of hr
      refine ⟨_, (pss_cons (ps_if (pt_cmpR op_eq (pe_ix ix_tup (pv 0) pe_int (fun _ _ => rfl)) pe_str (nomark _))
        (pss_one (ps_ret (pv 2)))
        pss_nil)
      (pss_cons (ps_if (pt_cmpR op_eq (pe_ix ix_tup (pv 0) pe_int (fun _ _ => rfl)) pe_str (nomark _))
        (pss_cons (ps_set (i := 3) sc__law_told.nd rfl (Or.inl rfl) (pc c__law_told hr (by omega) (pa_cons (pe_ix ix_tup (pv 0) pe_int (fun _ _ => rfl)) (pa_cons (pv 1) (pa_cons (pv 2) pa_nil)))))
        (pss_cons (ps_if (pt_cmpR op_isN (pv 3) pe_non (nomark _))
          (pss_one (ps_ret pe_non))
          pss_nil)
        (pss_one (ps_ret (pe_op op_add (pv 3) (pe_ix ix_tup (pv 0) pe_int (fun _ _ => rfl)))))))
        pss_nil)
      (pss_cons (ps_if (pt_cmpR op_eq (pe_ix ix_tup (pv 0) pe_int (fun _ _ => rfl)) pe_str (nomark _))
        (pss_cons (ps_set (i := 4) sc__law_told.nd rfl (Or.inl rfl) (pc c__law_told hr (by omega) (pa_cons (pe_ix ix_tup (pv 0) pe_int (fun _ _ => rfl)) (pa_cons (pv 1) (pa_cons (pv 2) pa_nil)))))
        (pss_cons (ps_if (pt_cmpR op_isN (pv 4) pe_non (nomark _))
          (pss_one (ps_ret pe_non))
          pss_nil)
        (pss_one (ps_ret (pc c__law_found hr (by omega) (pa_cons (pe_dget2 hu (pv 1) (pe_ix ix_tup (pv 0) pe_int (fun _ _ => rfl)) (pe_lst pa_nil) ⟨rfl, rfl, rfl, rfl⟩) (pa_cons (pv 4) (pa_cons (pe_ix ix_tup (pv 0) pe_int (fun _ _ => rfl)) (pa_cons (pe_ix ix_tup (pv 0) pe_int (fun _ _ => rfl)) pa_nil)))))))))
        pss_nil)
      (pss_cons (ps_set (i := 5) sc__law_told.nd rfl (Or.inl rfl) (pc c__law_told hr (by omega) (pa_cons (pe_ix ix_tup (pv 0) pe_int (fun _ _ => rfl)) (pa_cons (pv 1) (pa_cons (pv 2) pa_nil)))))
      (pss_cons (ps_set (i := 6) sc__law_told.nd rfl (Or.inl rfl) (pc c__law_told hr (by omega) (pa_cons (pe_ix ix_tup (pv 0) pe_int (fun _ _ => rfl)) (pa_cons (pv 1) (pa_cons (pv 2) pa_nil)))))
      (pss_cons (ps_if (pt_cmpR op_eq (pe_ix ix_tup (pv 0) pe_int (fun _ _ => rfl)) pe_str (nomark _))
        (pss_cons (ps_if (pt_cmpR op_isN (pv 5) pe_non (nomark _))
          (pss_one (ps_ret (pv 6)))
          pss_nil)
        (pss_one (ps_ret (pv 5))))
        pss_nil)
      (pss_cons (ps_if (PW.pt (pw_or (pt_cmpR op_isN (pv 5) pe_non (nomark _)) (pw_or1 (pt_cmpR op_isN (pv 6) pe_non (nomark _)))))
        (pss_one (ps_ret pe_non))
        pss_nil)
      (pss_cons (ps_if (pt_cmpR op_eq (pe_ix ix_tup (pv 0) pe_int (fun _ _ => rfl)) pe_str (nomark _))
        (pss_one (ps_ret (pc_max2 rfl T (pa_cons (pv 5) (pa_cons (pv 6) pa_nil)))))
        pss_nil)
      (pss_one (ps_ret (pc_min2 rfl T (pa_cons (pv 5) (pa_cons (pv 6) pa_nil))))))))))))), ?_⟩
      have no : ∀ {x y : Kd}, x ≠ y → decide (V.str x.tag = V.str y.tag) = false := fun h => decide_eq_false fun z => by injection z with z; exact tag_ne h z
      have yes : ∀ {x : Kd}, decide (V.str x.tag = V.str x.tag) = true := decide_eq_true rfl
      cases t with
      | now => exact ⟨_, rfl, a, _, 0, .str Kd.now.tag, rfl, rfl, SqT.of ht, rfl, rfl, _, rfl, ite_t (yes (x := .now)) ⟨_, rfl, q _ (Same.refl _)⟩⟩
      | shift m c =>
        obtain ⟨ma, h1, h2⟩ := ht
        have hd1 : 1 + m.sz.d < ((n + 1 : Nat) : Int) := by have : (szOf 0 0 [m.sz]).d < ((n + 1 : Nat) : Int) := hd; rw [szOf1_d] at this; exact this
        refine ⟨_, rfl, a, _, 0, .str Kd.shift.tag, rfl, rfl, SqT.of h1, rfl, rfl, _, rfl, ite_f (no (x := .shift) (y := .now) (by decide)) ?_⟩
        refine ⟨_, rfl, a, _, 0, .str Kd.shift.tag, rfl, rfl, SqT.of h1, rfl, rfl, _, rfl, ite_t (yes (x := .shift)) ?_⟩
        refine ⟨_, rfl, a, _, 2, _, rfl, rfl, SqT.of h1, rfl, _, rfl, _, rfl, N, ma, d, m, kvs, rs, nw, rfl, h2, g.2.1, by omega, hdk, hR, nd, hlen, fun H1 s1 => ?_⟩
        have q : Q (limV ((m.ans (srs rs) nw).map (· + c))) H1 := q _ s1
        cases e : m.ans (srs rs) nw with
        | none => rw [e] at q; exact ⟨_, rfl, rfl, _, rfl, iteT q⟩
        | some i =>
          rw [e] at q
          exact ⟨_, rfl, rfl, _, rfl, iteF ⟨_, rfl, _, rfl, a, _, 1, _, rfl, rfl, SqT.of (s1 _ _ h1), rfl, _, _, rfl, rfl, q⟩⟩
      | look z m wy lim =>
        obtain ⟨ma, h1, h2⟩ := ht
        have hd1 : 1 + m.sz.d < ((n + 1 : Nat) : Int) := by have : (szOf 1 1 [m.sz]).d < ((n + 1 : Nat) : Int) := hd; rw [szOf1_d] at this; exact this
        refine ⟨_, rfl, a, _, 0, .str Kd.look.tag, rfl, rfl, SqT.of h1, rfl, rfl, _, rfl, ite_f (no (x := .look) (y := .now) (by decide)) ?_⟩
        refine ⟨_, rfl, a, _, 0, .str Kd.look.tag, rfl, rfl, SqT.of h1, rfl, rfl, _, rfl, ite_f (no (x := .look) (y := .shift) (by decide)) ?_⟩
        refine ⟨_, rfl, a, _, 0, .str Kd.look.tag, rfl, rfl, SqT.of h1, rfl, rfl, _, rfl, ite_t (yes (x := .look)) ?_⟩
        refine ⟨_, rfl, a, _, 4, _, rfl, rfl, SqT.of h1, rfl, _, rfl, _, rfl, N, ma, d, m, kvs, rs, nw, rfl, h2, g.2.1, by omega, hdk, hR, nd, hlen, fun H1 s1 => ?_⟩
        have q : ∀ H', Same H1 H' → Q (limV ((m.ans (srs rs) nw).bind fun x => (lkRow (rowsOf (srs rs) z) wy x).bind fun r => if inLim lim r x then some r else none)) H' := fun H' s => q H' (s1.trans s)
        cases e : m.ans (srs rs) nw with
        | none => rw [e] at q; exact ⟨_, rfl, rfl, _, rfl, iteT (q _ (Same.refl _))⟩
        | some x =>
          rw [e] at q
          have q : ∀ H', Same H1 H' → Q (limV ((lkRow (rowsOf (srs rs) z) wy x).bind fun r => if inLim lim r x then some r else none)) H' := q
          refine ⟨_, rfl, rfl, _, rfl, iteF ?_⟩
          refine ⟨_, rfl, d, rfl, .inl ⟨kvs, .inl (s1 _ _ hdk)⟩, _, rfl, a, _, 1, _, rfl, rfl, SqT.of (s1 _ _ h1), rfl, by show 0 ≤ sizeLine; decide, fun e he => ?_⟩
          have s2 : Same H1 (upd H1 e (.lst [])) := (Same.refl H1).new he
          have s12 := s1.trans s2
          refine ⟨_, DGet.k (k := Sum.inr z) (s12 _ _ hdk), ?_⟩
          by_cases hz : z ∈ rs.map (·.1)
          · obtain ⟨r, hr1, e1⟩ := List.mem_map.mp hz
            obtain ⟨i, hi⟩ := List.mem_iff_getElem?.mp hr1
            have hi' : rs[i]? = some (z, r.2) := by rw [hi, ← e1]
            obtain ⟨al, ha1, na, ha2, _⟩ := hR.val nd hi'
            rw [rows_srs nd hi'] at q
            refine ⟨_, rfl, _, rfl, a, _, 2, _, rfl, rfl, SqT.of (s12 _ _ h1), rfl, _, rfl, a, _, 3, _, rfl, rfl, SqT.of (s12 _ _ h1), rfl, al, r.2, x, wy, lim, by rw [ha1]; rfl, SqL.of (s12 _ _ ha2), hlen r hr1, g.2.2.2.1, fun H3 s3 => q _ (s2.trans s3)⟩
          · rw [rows_no hz] at q
            refine ⟨_, rfl, _, rfl, a, _, 2, _, rfl, rfl, SqT.of (s12 _ _ h1), rfl, _, rfl, a, _, 3, _, rfl, rfl, SqT.of (s12 _ _ h1), rfl, e, [], x, wy, lim, by rw [hR.none hz]; rfl, SqL.of upd_same, Nat.zero_le _, g.2.2.2.1, fun H3 s3 => ?_⟩
            have e0 : srt ([] : List Int) = [] := List.length_eq_zero_iff.mp (srt_len [])
            rw [e0]
            exact q _ (s2.trans s3)
      | either x y =>
        obtain ⟨xa, ya, h1, h2, h3⟩ := ht
        have hd1 : 1 + max x.sz.d y.sz.d < ((n + 1 : Nat) : Int) := hd
        refine ⟨_, rfl, a, _, 0, .str Kd.either.tag, rfl, rfl, SqT.of h1, rfl, rfl, _, rfl, ite_f (no (x := .either) (y := .now) (by decide)) ?_⟩
        refine ⟨_, rfl, a, _, 0, .str Kd.either.tag, rfl, rfl, SqT.of h1, rfl, rfl, _, rfl, ite_f (no (x := .either) (y := .shift) (by decide)) ?_⟩
        refine ⟨_, rfl, a, _, 0, .str Kd.either.tag, rfl, rfl, SqT.of h1, rfl, rfl, _, rfl, ite_f (no (x := .either) (y := .look) (by decide)) ?_⟩
        refine ⟨_, rfl, a, _, 1, _, rfl, rfl, SqT.of h1, rfl, _, rfl, _, rfl, N, xa, d, x, kvs, rs, nw, rfl, h2, g.2.1, by omega, hdk, hR, nd, hlen, fun H1 s1 => ?_⟩
        refine ⟨_, rfl, a, _, 2, _, rfl, rfl, SqT.of (s1 _ _ h1), rfl, _, rfl, _, rfl, N, ya, d, y, kvs, rs, nw, rfl, h3.same s1, g.2.2, by omega, s1 _ _ hdk, hR.same s1, nd, hlen, fun H2 s2 => ?_⟩
        have s12 := s1.trans s2
        refine ⟨_, rfl, a, _, 0, .str Kd.either.tag, rfl, rfl, SqT.of (s12 _ _ h1), rfl, rfl, _, rfl, ite_t (yes (x := .either)) ?_⟩
        have q : Q (limV (match x.ans (srs rs) nw with
          | some r => some r
          | none => y.ans (srs rs) nw)) H2 := q _ s12
        cases e : x.ans (srs rs) nw with
        | none => rw [e] at q; exact ⟨_, rfl, rfl, _, rfl, iteT ⟨_, rfl, q⟩⟩
        | some i => rw [e] at q; exact ⟨_, rfl, rfl, _, rfl, iteF ⟨_, rfl, q⟩⟩
      | later x y =>
        obtain ⟨xa, ya, h1, h2, h3⟩ := ht
        have hd1 : 1 + max x.sz.d y.sz.d < ((n + 1 : Nat) : Int) := hd
        refine ⟨_, rfl, a, _, 0, .str Kd.later.tag, rfl, rfl, SqT.of h1, rfl, rfl, _, rfl, ite_f (no (x := .later) (y := .now) (by decide)) ?_⟩
        refine ⟨_, rfl, a, _, 0, .str Kd.later.tag, rfl, rfl, SqT.of h1, rfl, rfl, _, rfl, ite_f (no (x := .later) (y := .shift) (by decide)) ?_⟩
        refine ⟨_, rfl, a, _, 0, .str Kd.later.tag, rfl, rfl, SqT.of h1, rfl, rfl, _, rfl, ite_f (no (x := .later) (y := .look) (by decide)) ?_⟩
        refine ⟨_, rfl, a, _, 1, _, rfl, rfl, SqT.of h1, rfl, _, rfl, _, rfl, N, xa, d, x, kvs, rs, nw, rfl, h2, g.2.1, by omega, hdk, hR, nd, hlen, fun H1 s1 => ?_⟩
        refine ⟨_, rfl, a, _, 2, _, rfl, rfl, SqT.of (s1 _ _ h1), rfl, _, rfl, _, rfl, N, ya, d, y, kvs, rs, nw, rfl, h3.same s1, g.2.2, by omega, s1 _ _ hdk, hR.same s1, nd, hlen, fun H2 s2 => ?_⟩
        have s12 := s1.trans s2
        have h12 := s12 _ _ h1
        refine ⟨_, rfl, a, _, 0, .str Kd.later.tag, rfl, rfl, SqT.of h12, rfl, rfl, _, rfl, ite_f (no (x := .later) (y := .either) (by decide)) ?_⟩
        have q : Q (limV ((x.ans (srs rs) nw).bind fun x => (y.ans (srs rs) nw).bind fun y => some (if y > x then y else x))) H2 := q _ s12
        cases e : x.ans (srs rs) nw with
        | none => rw [e] at q; exact ⟨_, rfl, rfl, _, rfl, iteT q⟩
        | some i =>
          rw [e] at q
          cases e2 : y.ans (srs rs) nw with
          | none => rw [e2] at q; exact ⟨_, rfl, rfl, _, rfl, iteF ⟨_, rfl, rfl, _, rfl, iteT q⟩⟩
          | some j =>
            rw [e2] at q
            refine ⟨_, rfl, rfl, _, rfl, iteF ⟨_, rfl, rfl, _, rfl, iteF ?_⟩⟩
            exact ⟨_, rfl, a, _, 0, .str Kd.later.tag, rfl, rfl, SqT.of h12, rfl, rfl, _, rfl, ite_t (yes (x := .later)) ⟨_, rfl, _, rfl, _, _, rfl, q⟩⟩
      | earlier x y =>
        obtain ⟨xa, ya, h1, h2, h3⟩ := ht
        have hd1 : 1 + max x.sz.d y.sz.d < ((n + 1 : Nat) : Int) := hd
        refine ⟨_, rfl, a, _, 0, .str Kd.earlier.tag, rfl, rfl, SqT.of h1, rfl, rfl, _, rfl, ite_f (no (x := .earlier) (y := .now) (by decide)) ?_⟩
        refine ⟨_, rfl, a, _, 0, .str Kd.earlier.tag, rfl, rfl, SqT.of h1, rfl, rfl, _, rfl, ite_f (no (x := .earlier) (y := .shift) (by decide)) ?_⟩
        refine ⟨_, rfl, a, _, 0, .str Kd.earlier.tag, rfl, rfl, SqT.of h1, rfl, rfl, _, rfl, ite_f (no (x := .earlier) (y := .look) (by decide)) ?_⟩
        refine ⟨_, rfl, a, _, 1, _, rfl, rfl, SqT.of h1, rfl, _, rfl, _, rfl, N, xa, d, x, kvs, rs, nw, rfl, h2, g.2.1, by omega, hdk, hR, nd, hlen, fun H1 s1 => ?_⟩
        refine ⟨_, rfl, a, _, 2, _, rfl, rfl, SqT.of (s1 _ _ h1), rfl, _, rfl, _, rfl, N, ya, d, y, kvs, rs, nw, rfl, h3.same s1, g.2.2, by omega, s1 _ _ hdk, hR.same s1, nd, hlen, fun H2 s2 => ?_⟩
        have s12 := s1.trans s2
        have h12 := s12 _ _ h1
        refine ⟨_, rfl, a, _, 0, .str Kd.earlier.tag, rfl, rfl, SqT.of h12, rfl, rfl, _, rfl, ite_f (no (x := .earlier) (y := .either) (by decide)) ?_⟩
        have q : Q (limV ((x.ans (srs rs) nw).bind fun x => (y.ans (srs rs) nw).bind fun y => some (if y < x then y else x))) H2 := q _ s12
        cases e : x.ans (srs rs) nw with
        | none => rw [e] at q; exact ⟨_, rfl, rfl, _, rfl, iteT q⟩
        | some i =>
          rw [e] at q
          cases e2 : y.ans (srs rs) nw with
          | none => rw [e2] at q; exact ⟨_, rfl, rfl, _, rfl, iteF ⟨_, rfl, rfl, _, rfl, iteT q⟩⟩
          | some j =>
            rw [e2] at q
            refine ⟨_, rfl, rfl, _, rfl, iteF ⟨_, rfl, rfl, _, rfl, iteF ?_⟩⟩
            exact ⟨_, rfl, a, _, 0, .str Kd.earlier.tag, rfl, rfl, SqT.of h12, rfl, rfl, _, rfl, ite_f (no (x := .earlier) (y := .later) (by decide)) ⟨_, rfl, _, rfl, _, _, rfl, q⟩⟩
end
end Pl

namespace Pl
open PySem L2 PySem.Spec PyProof.Rows
section
variable {P : Program} {w : World} {K : Fg} {mg : Str → Option Value} {base : Heap} {A : CA} {ks : Kd → Bool} {CW : Addr}
def spLaw (K : Fg) : Sp := fun vs H Q _ => ∃ (a : Addr) (ns : List Int), vs = [.ref a] ∧ SqL K H a (ns.map V.int) ∧ ns.length ≤ 63 ∧ ∀ H', Q (.bl true) H'
def EqO (A : CA) (ks : Kd → Bool) (d : Nat) (C : Addr) (t : Value) (sp : Sp) : Prop := (∃ k, ks k = true ∧ C = A.cls k) ∧ (∃ k, ks k = true ∧ t = .ref (A.cls k)) ∧ sp = spEqT A ks d
theorem ne_self {d : Nat} {G : Hp} {a1 a2 : Addr} {y : Tm} {Q : VK} (h1 : TermAt A G y a1) (h2 : TermAt A G y a2) (g : Good ks y) (hd : y.sz.d ≤ (d : Int)) (q : ∀ H', Same G H' → Q (.bl false) H') : rOwnNeY (EqO A ks d) E0 (.ref a1) (.ref a2) G Q := by
  obtain ⟨dy1, ch1, os1, hd1, _⟩ := h1.hd
  obtain ⟨dy2, ch2, os2, hd2, _⟩ := h2.hd
  exact ⟨a1, _, dy1, _, _, _, rfl, hd1, .ins hd2, ⟨⟨_, g.k, rfl⟩, ⟨_, g.k, rfl⟩, rfl⟩, a1, a2, y, y, rfl, h1, h2, g, g, hd, fun H' s => ⟨_, rfl, by rw [decide_eq_true rfl]; exact q H' s⟩⟩
theorem shd_bd {B C D : Int} {t : Tm} {c : Int} (b : Bd B t) (h : B ≤ D) (h1 : -C ≤ c) (h2 : c ≤ C) (h3 : B + C ≤ D) (c0 : 0 ≤ C) (b0 : 0 ≤ B) : Bd D (t.shd c) := by
  cases t with
  | shift m a =>
    show Bd D (if c = 0 then Tm.shift m a else if a + c = 0 then m else .shift m (a + c))
    have b1 := b.1
    have b2 := b.2.1
    have b3 := b.2.2
    split
    · exact ⟨by omega, by omega, b3.mono h⟩
    · split
      · exact b3.mono h
      · exact ⟨by omega, by omega, b3.mono h⟩
  | now => show Bd D (if c = 0 then Tm.now else .shift .now c); split; exact b.mono h; exact ⟨by omega, by omega, b.mono h⟩
  | look z m wy lim => show Bd D (if c = 0 then Tm.look z m wy lim else .shift (.look z m wy lim) c); split; exact b.mono h; exact ⟨by omega, by omega, b.mono h⟩
  | either x y => show Bd D (if c = 0 then Tm.either x y else .shift (.either x y) c); split; exact b.mono h; exact ⟨by omega, by omega, b.mono h⟩
  | later x y => show Bd D (if c = 0 then Tm.later x y else .shift (.later x y) c); split; exact b.mono h; exact ⟨by omega, by omega, b.mono h⟩
  | earlier x y => show Bd D (if c = 0 then Tm.earlier x y else .shift (.earlier x y) c); split; exact b.mono h; exact ⟨by omega, by omega, b.mono h⟩
theorem ok_law (T : Tx K mg) (TT : TTx K mg A ks) (hk : ∀ k, ks k = true)
    (c__law_open : Cal P w K mg base CX0 "_law_open" 1 (spOpen K)) (c__law_pick : Cal P w K mg base CX0 "_law_pick" 1 spPick) (c__law_number : Cal P w K mg base CX0 "_law_number" 2 spNum) (c__law_names : Cal P w K mg base CX0 "_law_names" 2 spNames) (c__law_tree : Cal P w K mg base CX0 "_law_tree" 14 (spTreeB ks 9)) (c__law_term : Cal P w K mg base CX0 "_law_term" 21 (spTerm A ks 13)) (c__law_shift : Cal P w K mg base CX0 "_law_shift" 1 (spShift ks))
    (c__law_written : Cal P w K mg base CX0 "_law_written" 14 (spWrL ks 13)) (c_spelled : Cal P w K mg base CX0 "spelled" 17 (spWrt A ks 13)) (c_parse : Cal P w K mg base CX0 "parse" 33 (spParse A)) (c__law_loose_text : Cal P w K mg base CX0 "_law_loose_text" 2 (spLoose ks)) (c__law_rows : Cal P w K mg base CX0 "_law_rows" 4 (spRows K)) (c__law_world : Cal P w K mg base CX0 "_law_world" 6 (spWorld CW))
    (c__law_told : Cal P w K mg base CX0 "_law_told" 15 (spTl ks 13)) (c_told : Cal P w K mg base CX0 "told" 30 (spTold A ks CW)) (c__law_answer : Cal P w K mg base CX0 "_law_answer" 2 spAnsw)
    (c_eq : ∀ C t sp, EqO A ks 12 C t sp → CalI P w K mg base CX0 C "__eq__" 27 sp ∧ PySem.W.notFirst K C t = true ∧ NeO K C) :
    ∀ f fd, Fun K "law" "law" s_law f fd → FnOk P w K mg base CX0 35 f fd p_law (spLaw K) := by
  refine fun f fd F => F.ok sc_law (fun vs H Q E h => ?_) (fun cdv A' outer s H vs Q E hr h => ?_)
  · obtain ⟨a, ns, rfl, _⟩ := h; rfl
  · obtain ⟨a, ns, rfl, hs, hn, q⟩ := h
    have g_Term := TT.gT
    refine ⟨_, (pss_cons (ps_set (i := 1) sc_law.nd rfl (Or.inl rfl) (pc c__law_open hr (by decide) (pa_cons (pv 0) pa_nil)))
      (pss_cons (ps_set (i := 2) sc_law.nd rfl (Or.inl rfl) (pc c__law_names hr (by decide) (pa_cons (pv 1) (pa_cons pe_int pa_nil))))
      (pss_cons (ps_set (i := 3) sc_law.nd rfl (Or.inl rfl) (pc c__law_tree hr (by decide) (pa_cons (pv 1) (pa_cons (pv 2) (pa_cons (pc c__law_pick hr (by decide) (pa_cons (pv 1) (pa_cons pe_int pa_nil))) (pa_cons (pc c__law_pick hr (by decide) (pa_cons (pv 1) (pa_cons pe_int pa_nil))) pa_nil))))))
      (pss_cons (ps_set (i := 4) sc_law.nd rfl (Or.inl rfl) (pc c__law_term hr (by decide) (pa_cons (pv 3) pa_nil)))
      (pss_cons (ps_set (i := 5) sc_law.nd rfl (Or.inl rfl) (pc c_spelled hr (by decide) (pa_cons (pv 4) pa_nil)))
      (pss_cons (ps_set (i := 6) sc_law.nd rfl (Or.inl rfl) (pc c_parse hr (by decide) (pa_cons (pv 5) pa_nil)))
      (pss_cons (ps_if (PW.pt (pw_or (pt_not (pt_val (pc_isi T (pa_cons (pv 6) (pa_cons (pe_glob rfl g_Term rel_r) pa_nil))))) (pw_or (pt_cmpR (op_neY c_eq hr (by decide) pass0) (pv 6) (pv 4) (nomark _)) (pw_or (pt_cmpR op_ne (pc c_spelled hr (by decide) (pa_cons (pv 6) pa_nil)) (pv 5) (nomark _)) (pw_or1 (pt_cmpR (op_neY c_eq hr (by decide) pass0) (pc c_parse hr (by decide) (pa_cons (pc c_spelled hr (by decide) (pa_cons (pv 6) pa_nil)) pa_nil)) (pv 4) (nomark _)))))))
        (pss_one (ps_ret pe_bl))
        pss_nil)
      (C8.pss_cut (ps_set (i := 7) sc_law.nd rfl (Or.inl rfl) (pc c__law_tree hr (by decide) (pa_cons (pv 1) (pa_cons (pv 2) (pa_cons pe_int (pa_cons pe_int pa_nil))))))
      (pss_cons (ps_set (i := 8) sc_law.nd rfl (Or.inl rfl) (pc c__law_loose_text hr (by decide) (pa_cons (pv 1) (pa_cons (pc c__law_written hr (by decide) (pa_cons (pv 7) pa_nil)) (pa_cons pe_int pa_nil)))))
      (pss_cons (ps_set (i := 9) sc_law.nd rfl (Or.inl rfl) (pc c__law_loose_text hr (by decide) (pa_cons (pv 1) (pa_cons (pe_op op_add_str (pe_op op_add_str pe_str (pe_ix ix_list (pv 8) pe_int (fun _ _ => rfl))) pe_str) (pa_cons pe_int pa_nil)))))
      (pss_cons (ps_set (i := 10) sc_law.nd rfl (Or.inl rfl) (pc c__law_shift hr (by decide) (pa_cons (pv 7) (pa_cons (pe_ix ix_list (pv 8) pe_int (fun _ _ => rfl)) pa_nil))))
      (pss_cons (ps_set (i := 11) sc_law.nd rfl (Or.inl rfl) (pc c__law_shift hr (by decide) (pa_cons (pe_tup (pa_cons pe_str (pa_cons (pv 10) (pa_cons (pe_tup (pa_cons pe_str pa_nil)) pa_nil)))) (pa_cons (pe_ix ix_list (pv 9) pe_int (fun _ _ => rfl)) pa_nil))))
      (pss_cons (ps_set (i := 12) sc_law.nd rfl (Or.inl rfl) (pc c_parse hr (by decide) (pa_cons (pe_ix ix_list (pv 9) pe_int (fun _ _ => rfl)) pa_nil)))
      (C8.pss_cut (ps_if (PW.pt (pw_or (pt_cmpR (op_neY c_eq hr (by decide) pass0) (pv 12) (pc c__law_term hr (by decide) (pa_cons (pv 11) pa_nil)) (nomark _)) (pw_or1 (pt_cmpR op_ne (pc c_spelled hr (by decide) (pa_cons (pv 12) pa_nil)) (pc c__law_written hr (by decide) (pa_cons (pv 11) pa_nil)) (nomark _)))))
        (pss_one (ps_ret pe_bl))
        pss_nil)
      (pss_cons (ps_set (i := 13) sc_law.nd rfl (Or.inl rfl) (pc c__law_rows hr (by decide) (pa_cons (pv 1) (pa_cons (pv 2) (pa_cons pe_int pa_nil)))))
      (pss_cons (ps_for PassesOwn.never rfl (pi_range1 rfl T.range (pa_cons pe_int pa_nil)) (pg_name (i := 14) sc_law.nd rfl (Or.inl rfl))
        (pss_cons (ps_set (i := 15) sc_law.nd rfl (Or.inl rfl) (pc c__law_number hr (by decide) (pa_cons (pv 1) pa_nil)))
        (pss_cons (ps_if (pt_not (pt_val (pc c__law_answer hr (by decide) (pa_cons (pc c_told hr (by decide) (pa_cons (pv 12) (pa_cons (pc c__law_world hr (by decide) (pa_cons (pv 13) pa_nil)) (pa_cons (pv 15) pa_nil)))) (pa_cons (pc c__law_told hr (by decide) (pa_cons (pv 11) (pa_cons (pv 13) (pa_cons (pv 15) pa_nil)))) pa_nil)))))
          (pss_one (ps_ret pe_bl))
          pss_nil)
        (pss_one (ps_if (pt_not (pt_val (pc c__law_answer hr (by decide) (pa_cons (pc c_told hr (by decide) (pa_cons (pv 6) (pa_cons (pc c__law_world hr (by decide) (pa_cons (pv 13) pa_nil)) (pa_cons (pv 15) pa_nil)))) (pa_cons (pc c__law_told hr (by decide) (pa_cons (pv 3) (pa_cons (pv 13) (pa_cons (pv 15) pa_nil)))) pa_nil)))))
          (pss_one (ps_ret pe_bl))
          pss_nil)))))
      (pss_one (ps_ret pe_bl)))))))))))))))))), ?_⟩
    refine ⟨_, rfl, a, ns, rfl, hs, hn, fun b c H1 s1 nb nc B1 => ?_⟩
    refine ⟨_, rfl, b, c, 2, rfl, B1, by decide, by decide, fun p zs H2 B2 k2 hp0 hp nd zl gz => ?_⟩
    have np := B1.nb hp0
    refine ⟨_, rfl, _, rfl, _, rfl, b, c, 5, rfl, B2, by decide, by decide, fun L H3 L0 L5 B3 k3 => ?_⟩
    refine ⟨_, rfl, b, c, 5, rfl, B3, by decide, by decide, fun J H4 J0 J5 B4 k4 => ?_⟩
    have hp4 := k4 _ _ np.1 np.2 (k3 _ _ np.1 np.2 hp)
    refine ⟨b, c, p, zs, L, J, rfl, B4, np, hp4, by omega, by omega, gz, L0, J0, by omega, by omega, by omega, fun ta t H5 B5 k5 ht g dt pt lt ct mt bt => ?_⟩
    have hp5 := k5 _ _ np.1 np.2 hp4
    have fx : Fit t.sz := ⟨by omega, by omega, by omega⟩
    have e60 : (10 : Int) ^ 60 = 1000000000000000000000000000000000000000000000000000000000000 := by decide +kernel
    have bd : Bd (10 ^ 60 - 1) t := bt.mono (by rw [e60]; omega)
    refine ⟨_, rfl, ta, t, rfl, ht, g, by omega, fx, fun xa H6 s6 tx => ?_⟩
    refine ⟨_, rfl, xa, t, rfl, tx, g, bd, by omega, by omega, ?_⟩
    obtain ⟨k, lk, d, rd, ek, el, ed⟩ := rd_wr g bd
    have wl := wr_len g bd
    refine ⟨_, rfl, wr t, t, k, lk, d, rfl, by omega, rd, by omega, by omega, by omega, fun xb H7 s7 tb => ?_⟩
    have tx7 := tx.same s7
    have hd12 : t.sz.d ≤ (12 : Nat) := by show _ ≤ (12 : Int); omega
    have KU := TT.at_ _ g.k
    obtain ⟨dy, chy, osy, hy1, _⟩ := tb.hd
    refine ⟨_, rfl, _, _, _, _, true, rfl, .own _, KU.isi.ty KU.cl.cl hy1, KU.kT, _, rfl, iteF ?_⟩
    refine ⟨_, rfl, _, rfl, ne_self tb tx7 g hd12 fun H8 s8 => ⟨_, rfl, iteF ?_⟩⟩
    have tb8 := tb.same s8
    have tx8 := tx7.same s8
    refine ⟨_, rfl, xb, t, rfl, tb8, g, bd, by omega, by omega, _, rfl, rfl, _, rfl, ite_f (by rw [decide_eq_true rfl]; rfl) ?_⟩
    refine ⟨_, rfl, xb, t, rfl, tb8, g, bd, by omega, by omega, wr t, t, k, lk, d, rfl, by omega, rd, by omega, by omega, by omega, fun xc H9 s9 tc => ⟨_, rfl, ne_self tc (tx8.same s9) g hd12 fun H10 s10 => ⟨_, rfl, iteF ?_⟩⟩⟩
    have s510 : Same H5 H10 := s6.trans (s7.trans (s8.trans (s9.trans s10)))
    have B10 := B5.same s510
    have hp10 := s510 _ _ hp5
    have ht10 := ht.same s510
    have tb10 := (tb8.same s9).same s10
    clear tx tx7 tx8 tb tb8 tc s6 s7 s8 s9 s10 s510 hy1 ht hp5 B5 k5 hp4 B4 k4 B3 k3 hp k2 B2 s1 B1
    refine ⟨fun σ G => ∃ (am : Addr) (sm : Tm), σ = [some (.ref a), some (.ref b), some (.ref p), some (.ref ta), some (.ref xa), some (.str (wr t)), some (.ref xb), some (.ref am), none, none, none, none, none, none, none, none] ∧ Box G b c ∧ Kp b c H10 G ∧ TreeAt G sm am ∧ Good ks sm ∧ sm.sz.d ≤ 4 ∧ sm.sz.p ≤ 6 ∧ sm.sz.l ≤ 1 ∧ Bd 200000000000000000000000000000000000000000 sm, ?_, ?_⟩
    · refine ⟨_, rfl, _, rfl, b, c, p, zs, 1, 1, rfl, B10, np, hp10, by omega, by omega, gz, by decide, by decide, by decide, by decide, by decide, fun am sm G BG kG hm gm dm pm lm _ _ bm => ?_⟩
      exact ⟨am, sm, rfl, BG, kG, hm, gm, dm, by omega, lm, bm.mono (by omega)⟩
    · rintro σ G ⟨am, sm, rfl, BG, kG, hm, gm, dm, pm, lm, bm⟩
      have bm2 : Bd (10 ^ 60 - 1) sm := bm.mono (by rw [e60]; omega)
      obtain ⟨k1, l1, d1, rd1, ek1, el1, ed1⟩ := rd_wr gm bm2
      have wl1 := wr_len gm bm2
      refine ⟨_, rfl, _, rfl, am, sm, rfl, hm, gm, bm2, by omega, by omega, b, c, wr sm, 0, sm, k1, l1, d1, rfl, BG, by omega, gm, rd1, fun lo G1 tx1 s1 j1 B1 q1 lo0 hlo rdx1 j1b s1a s1b len1 => ?_⟩
      have nlo := BG.nb lo0
      have hm1 := hm.kt (Kt.kp BG q1)
      have lz1 : (Str.ofString "later(").length = 6 := by decide +kernel
      have lz2 : (Str.ofString ", now)").length = 6 := by decide +kernel
      have gi : Good ks (sm.shd s1) := gm.shd (hk _)
      have g2 : Good ks (.later (sm.shd s1) .now) := ⟨hk _, gi, hk _⟩
      have et : cs (Str.ofString "later(" ++ tx1 ++ Str.ofString ", now)") = cs "later(" ++ cs tx1 ++ cs ", " ++ cs "now" ++ cs ")" := by
        have e0 : cs (Str.ofString ", now)") = cs (Str.ofString ", ") ++ cs (Str.ofString "now") ++ cs (Str.ofString ")") := by decide +kernel
        rw [cs_cat, cs_cat, e0]
        simp only [List.append_assoc]
      have rdl := Rd.later rdx1 Rd.now
      rw [← et] at rdl
      refine ⟨_, rfl, _, rfl, lo, _, 0, .str tx1, rfl, rfl, SqL.of hlo, rfl, _, _, rfl, rfl, sml (by omega), _, _, rfl, rfl, sml (by simp only [cat_len]; omega), b, c, _, 0, _, _, _, _, rfl, B1, by simp only [cat_len]; omega, g2, rdl, fun lp G2 tx2 s2 j2 B2 q2 lp0 hlp rdx2 j2b s2a s2b len2 => ?_⟩
      have nlp := B1.nb lp0
      have hlo2 := q2 _ _ nlo.1 nlo.2 hlo
      have hm2 := hm1.kt (Kt.kp B1 q2)
      refine ⟨_, rfl, _, rfl, lo, _, 1, .int (0 + s1), rfl, rfl, SqL.of hlo2, rfl, am, _, sm, rfl, hm2, gm, fun ia G3 u3 hi => ?_⟩
      rw [Int.zero_add] at hi
      have hlp3 := u3 _ _ hlp
      refine ⟨_, rfl, by show 1 ≤ sizeLine; decide, fun tn htn => ?_⟩
      refine ⟨by show 3 ≤ sizeLine; decide, fun tl htl => ?_⟩
      have u4 : Same G3 (upd G3 tn (.tup [.str "now"])) := (Same.refl _).new htn
      have u5 : Same G3 (upd (upd G3 tn (.tup [.str "now"])) tl (.tup [.str "later", .ref ia, .ref tn])) := u4.new htl
      have ht2 : TreeAt (upd (upd G3 tn (.tup [.str "now"])) tl (.tup [.str "later", .ref ia, .ref tn])) (.later (sm.shd s1) .now) tl := ⟨ia, tn, upd_same, hi.same u5, by
        show (upd (upd G3 tn (.tup [.str "now"])) tl (.tup [.str "later", .ref ia, .ref tn])) tn = some (.tup [.str Kd.now.tag])
        have ntl : tn ≠ tl := ne_of_none (upd_same (H := G3) (a := tn) (o := .tup [.str "now"])) htl
        rw [upd_ne ntl]; exact upd_same⟩
      refine ⟨_, rfl, lp, _, 1, .int (0 + s2), rfl, rfl, SqL.of (u5 _ _ hlp3), rfl, tl, _, _, rfl, ht2, g2, fun da G6 u6 hd => ?_⟩
      rw [Int.zero_add] at hd
      have u36 := u5.trans u6
      have gd : Good ks ((Tm.later (sm.shd s1) .now).shd s2) := g2.shd (hk _)
      have bi : Bd (10 ^ 50) (sm.shd s1) := shd_bd bm (C := 3 * lzB) (by decide +kernel) (by omega) (by omega) (by unfold lzB; decide +kernel) (by unfold lzB; decide) (by decide)
      have bdu : Bd (10 ^ 60 - 1) ((Tm.later (sm.shd s1) .now).shd s2) := shd_bd (B := 10 ^ 50) ⟨bi, trivial⟩ (C := 3 * lzB) (by decide +kernel) (by omega) (by omega) (by unfold lzB; decide +kernel) (by unfold lzB; decide) (by decide)
      have szi := shd_d (t := sm) (c := s1)
      have szd := shd_d (t := Tm.later (sm.shd s1) .now) (c := s2)
      have p1 : (Tm.later (sm.shd s1) .now).sz.p = 1 + ((sm.shd s1).sz.p + Tm.now.sz.p) := szOf2_p (lo := 0) (co := 1)
      have p2 : (Tm.later (sm.shd s1) .now).sz.d = _ := szOf2_d (lo := 0) (co := 1)
      have p3 : (Tm.later (sm.shd s1) .now).sz.l = 0 + ((sm.shd s1).sz.l + Tm.now.sz.l) := szOf2_l (lo := 0) (co := 1)
      have q1' : Tm.now.sz.p = 1 := rfl
      have q2' : Tm.now.sz.d = 1 := rfl
      have q3' : Tm.now.sz.l = 0 := rfl
      have dd : ((Tm.later (sm.shd s1) .now).shd s2).sz.d ≤ 8 := by omega
      have dp : ((Tm.later (sm.shd s1) .now).shd s2).sz.p ≤ 20 := by omega
      have dl : ((Tm.later (sm.shd s1) .now).shd s2).sz.l ≤ 4 := by omega
      generalize hDu : (Tm.later (sm.shd s1) .now).shd s2 = du at hd gd bdu dd dp dl rdx2
      simp only [cat_len] at len2
      refine ⟨_, rfl, lp, _, 0, .str tx2, rfl, rfl, SqL.of (u36 _ _ hlp3), rfl, tx2, du, _, _, _, rfl, by omega, rdx2, by omega, by omega, by omega, fun fa G7 u7 tf => ?_⟩
      have u37 := u36.trans u7
      have hd7 := hd.same u7
      have d12 : du.sz.d ≤ (12 : Nat) := by show _ ≤ (12 : Int); omega
      refine ⟨fun σ G => Same G7 G ∧ σ = [some (.ref a), some (.ref b), some (.ref p), some (.ref ta), some (.ref xa), some (.str (wr t)), some (.ref xb), some (.ref am), some (.ref lo), some (.ref lp), some (.ref ia), some (.ref da), some (.ref fa), none, none, none], ?_, ?_⟩
      · refine ⟨_, rfl, _, rfl, da, du, rfl, hd7, gd, by omega, ⟨by omega, by omega, by omega⟩, fun ya G8 u8 ty => ne_self (tf.same u8) ty gd d12 fun G9 u9 => ⟨_, rfl, iteF ?_⟩⟩
        have u79 := u8.trans u9
        refine ⟨_, rfl, fa, du, rfl, tf.same u79, gd, bdu, by omega, by omega, _, rfl, da, du, rfl, hd7.same u79, gd, bdu, by omega, by omega, rfl, _, rfl, ite_f (by rw [decide_eq_true rfl]; rfl) ?_⟩
        exact ⟨u79, rfl⟩
      · rintro σ G ⟨uG, rfl⟩
        have B7 : Box G b c := (B2.same u3).same (u37.trans uG)
        have q07 : Kp b c H10 G := ((kG.trans q1).trans q2).trans (Kp.of (u3.trans (u37.trans uG)))
        have hpG := q07 _ _ np.1 np.2 hp10
        have htG := ht10.kt (Kt.kp B10 q07)
        have tbG := tb10.kt (Kt.kp B10 q07)
        have tfG := tf.same uG
        have hdG := hd7.same uG
        clear tf hd7 hd u37 u36 u5 u4 ht2 hlp3 hi u3 hm2 hlo2 q2 q1 kG uG B2 B1 hlp hlo hm hm1 u6 u7 tb10 ht10 hp10
        refine ⟨_, rfl, _, rfl, b, c, p, zs, 4, rfl, B7, SqL.of hpG, nd, by omega, by decide, by decide, fun dr kvs rs H8 B8 k8 hd0 hdk hR en ok hf => ?_⟩
        have ndb := B7.nb hd0
        have rl : rs.length = zs.length := by have := congrArg List.length en; rw [List.length_map] at this; omega
        have gn : ∀ r ∈ rs, GName r.1 := fun r hr => gz _ (by rw [← en]; exact List.mem_map.mpr ⟨r, hr, rfl⟩)
        have l6 : ∀ r ∈ rs, r.2.length ≤ 4 := fun r hr => (ok.each r hr).2
        have ht8 := htG.kt (Kt.kp B7 k8)
        have tb8 := tbG.kt (Kt.kp B7 k8)
        have tf8 := tfG.kt (Kt.kp B7 k8)
        have hd8 := hdG.kt (Kt.kp B7 k8)
        have wo := wok_srs ok (by decide)
        have gl : ∀ r ∈ rs, GName r.1 ∧ r.2.Nodup ∧ r.2.length < 64 := fun r hr => ⟨gn r hr, (ok.each r hr).1, Nat.lt_of_le_of_lt (ok.each r hr).2 (by decide)⟩
        have sm' : ((srs rs).map fun r => (r.2.length : Int)).sum ≤ 300 := Int.le_trans (srs_sum l6) (by omega)
        refine ⟨_, rfl, by decide, by decide, for_range (lo := 0) (n := (3 : Int).toNat) (fun j σ G => ∃ (x14 x15 : Option V), σ = [some (.ref a), some (.ref b), some (.ref p), some (.ref ta), some (.ref xa), some (.str (wr t)), some (.ref xb), some (.ref am), some (.ref lo), some (.ref lp), some (.ref ia), some (.ref da), some (.ref fa), some (.ref dr), x14, x15] ∧ Box G b c ∧ Kp b c H8 G) ⟨none, none, rfl, B8, Kp.refl⟩ ?_ ?_⟩
        · rintro j σ G hj ⟨x14, x15, rfl, BG, kG⟩
          refine ⟨_, rfl, b, c, rfl, BG, fun nw G1 B1 k1' => ?_⟩
          have k81 := kG.trans k1'
          have hdk1 := k81 _ _ ndb.1 ndb.2 hdk
          have hR1 := hR.kp k81
          have kt1 : Kt H8 G1 := Kt.kp B8 k81
          refine ⟨_, rfl, _, rfl, Nb b c, dr, kvs, rs, rfl, hdk1, hR1, ok.nd, by omega, gl, sm', fun a ha => B1.nb ha, fun wd G2 hwd s2' W2 => ?_⟩
          refine ⟨_, rfl, Nb b c, fa, wd, nw, du, srs rs, rfl, (tf8.kt kt1).same s2', gd, d12, W2, wo, fun G3 s3' => ?_⟩
          have s13 := s2'.trans s3'
          refine ⟨_, rfl, _, rfl, _, rfl, Nb b c, da, dr, du, kvs, rs, nw, rfl, (hd8.kt kt1).same s13, gd, by omega, s13 _ _ hdk1, hR1.same s13, ok.nd, fun r hr => Nat.le_trans (l6 r hr) (by decide), fun G4 s4' => ?_⟩
          refine ⟨_, rfl, _, rfl, iteF ?_⟩
          have s14 := s13.trans s4'
          have B4' := B1.same s14
          have hdk4 := s14 _ _ hdk1
          have hR4 := hR1.same s14
          refine ⟨_, rfl, _, rfl, Nb b c, dr, kvs, rs, rfl, hdk4, hR4, ok.nd, by omega, gl, sm', fun a ha => B4'.nb ha, fun wd2 G5 hwd2 s5' W5 => ?_⟩
          refine ⟨_, rfl, Nb b c, xb, wd2, nw, t, srs rs, rfl, ((tb8.kt kt1).same s14).same s5', g, by omega, W5, wo, fun G6 s6' => ?_⟩
          have s46 := s5'.trans s6'
          refine ⟨_, rfl, _, rfl, _, rfl, Nb b c, ta, dr, t, kvs, rs, nw, rfl, ((ht8.kt kt1).same s14).same s46, g, by omega, s46 _ _ hdk4, hR4.same s46, ok.nd, fun r hr => Nat.le_trans (l6 r hr) (by decide), fun G7 s7' => ?_⟩
          refine ⟨_, rfl, _, rfl, iteF ?_⟩
          have s47 := s46.trans s7'
          exact ⟨_, _, rfl, B4'.same s47, k81.trans (Kp.of (s14.trans s47))⟩
        · rintro σ G ⟨x14, x15, rfl, BG, kG⟩
          exact q _
end
end Pl

namespace Pl
open PySem L2 PySem.Spec PyProof.Rows
section
variable {P : Program} {w : World} {K : Fg} {mg : Str → Option Value} {h : Heap} {f : Addr}
theorem facts (X : K.In h) (G : h.Ns mainGlobals mg) (hfa : mg ("law" : Str) = some (.ref f)) (c : He.SaysD fa fn K) (cx : (fx.all fun f => f.ok K) = true) :
    ∃ fd : FuncData, (∀ (s : Shared) (v : Value), BindsTo s fd ⟨[v], []⟩ [(Str.ofString "_law_script", v)]) ∧ ∀ base : Heap, K.In base → base.Ns mainGlobals mg → FnOk P w K mg base CX0 35 f fd p_law (spLaw K) := by
  have T : Tx K mg := ⟨(He.free_ok X G (c.fact 57 (f := .free (Str.ofString "isinstance")) rfl)), (He.free_ok X G (c.fact 58 (f := .free (Str.ofString "int")) rfl)), (He.free_ok X G (c.fact 59 (f := .free (Str.ofString "bool")) rfl)), (He.free_ok X G (c.fact 60 (f := .free (Str.ofString "str")) rfl)), (He.free_ok X G (c.fact 61 (f := .free (Str.ofString "list")) rfl)), (He.free_ok X G (c.fact 62 (f := .free (Str.ofString "tuple")) rfl)), (He.free_ok X G (c.fact 63 (f := .free (Str.ofString "len")) rfl)), (He.free_ok X G (c.fact 64 (f := .free (Str.ofString "range")) rfl)), (He.free_ok X G (c.fact 65 (f := .free (Str.ofString "set")) rfl)), (He.free_ok X G (c.fact 66 (f := .free (Str.ofString "sorted")) rfl)), (He.free_ok X G (c.fact 67 (f := .free (Str.ofString "max")) rfl)), (He.free_ok X G (c.fact 68 (f := .free (Str.ofString "min")) rfl)), (He.free_ok X G (c.fact 69 (f := .free (Str.ofString "sum")) rfl)), (He.free_ok X G (c.fact 70 (f := .free (Str.ofString "all")) rfl)), (He.free_ok X G (c.fact 71 (f := .free (Str.ofString "dict")) rfl))⟩
  have WT : WTx K mg (He.ga K (Str.ofString "World")) := ⟨(He.cls_ok (c.fact 89 (f := .cls (Str.ofString "World")) rfl)), (He.noat_ok (c.fact 133 (f := .noat (Str.ofString "World") (Str.ofString "held")) rfl)), (He.glo_ok X G (c.fact 42 (f := .glo (Str.ofString "World")) rfl))⟩
  have KNow : KTx K (caK K) .now := ⟨⟨(He.cls_ok (c.fact 83 (f := .cls (Str.ofString "Now")) rfl)), (He.noat_ok (c.fact 91 (f := .noat (Str.ofString "Now") (Str.ofString "children")) rfl)), (He.noat_ok (c.fact 92 (f := .noat (Str.ofString "Now") (Str.ofString "depth")) rfl)), (He.noat_ok (c.fact 93 (f := .noat (Str.ofString "Now") (Str.ofString "parts")) rfl)), (He.noat_ok (c.fact 94 (f := .noat (Str.ofString "Now") (Str.ofString "looks")) rfl)), (He.noat_ok (c.fact 95 (f := .noat (Str.ofString "Now") (Str.ofString "choices")) rfl))⟩, isi_ok (fx_at cx 0 (f := .isi (Str.ofString "Now")) rfl), kit_ok (fx_at cx 7 (f := .kit (Str.ofString "Now") (Str.ofString "Term") true) rfl), fun f hf => by cases hf⟩
  have KShift : KTx K (caK K) .shift := ⟨⟨(He.cls_ok (c.fact 84 (f := .cls (Str.ofString "Shift")) rfl)), (He.noat_ok (c.fact 96 (f := .noat (Str.ofString "Shift") (Str.ofString "children")) rfl)), (He.noat_ok (c.fact 97 (f := .noat (Str.ofString "Shift") (Str.ofString "depth")) rfl)), (He.noat_ok (c.fact 98 (f := .noat (Str.ofString "Shift") (Str.ofString "parts")) rfl)), (He.noat_ok (c.fact 99 (f := .noat (Str.ofString "Shift") (Str.ofString "looks")) rfl)), (He.noat_ok (c.fact 100 (f := .noat (Str.ofString "Shift") (Str.ofString "choices")) rfl))⟩, isi_ok (fx_at cx 1 (f := .isi (Str.ofString "Shift")) rfl), kit_ok (fx_at cx 8 (f := .kit (Str.ofString "Shift") (Str.ofString "Term") true) rfl), fun f hf => by
      simp only [Kd.own, List.mem_cons, List.not_mem_nil, or_false] at hf
      rcases hf with rfl | rfl
      · exact (He.noat_ok (c.fact 101 (f := .noat (Str.ofString "Shift") (Str.ofString "moment")) rfl))
      · exact (He.noat_ok (c.fact 102 (f := .noat (Str.ofString "Shift") (Str.ofString "amount")) rfl))⟩
  have KLook : KTx K (caK K) .look := ⟨⟨(He.cls_ok (c.fact 85 (f := .cls (Str.ofString "Look")) rfl)), (He.noat_ok (c.fact 103 (f := .noat (Str.ofString "Look") (Str.ofString "children")) rfl)), (He.noat_ok (c.fact 104 (f := .noat (Str.ofString "Look") (Str.ofString "depth")) rfl)), (He.noat_ok (c.fact 105 (f := .noat (Str.ofString "Look") (Str.ofString "parts")) rfl)), (He.noat_ok (c.fact 106 (f := .noat (Str.ofString "Look") (Str.ofString "looks")) rfl)), (He.noat_ok (c.fact 107 (f := .noat (Str.ofString "Look") (Str.ofString "choices")) rfl))⟩, isi_ok (fx_at cx 2 (f := .isi (Str.ofString "Look")) rfl), kit_ok (fx_at cx 9 (f := .kit (Str.ofString "Look") (Str.ofString "Term") true) rfl), fun f hf => by
      simp only [Kd.own, List.mem_cons, List.not_mem_nil, or_false] at hf
      rcases hf with rfl | rfl | rfl | rfl
      · exact (He.noat_ok (c.fact 108 (f := .noat (Str.ofString "Look") (Str.ofString "stream")) rfl))
      · exact (He.noat_ok (c.fact 109 (f := .noat (Str.ofString "Look") (Str.ofString "moment")) rfl))
      · exact (He.noat_ok (c.fact 110 (f := .noat (Str.ofString "Look") (Str.ofString "way")) rfl))
      · exact (He.noat_ok (c.fact 111 (f := .noat (Str.ofString "Look") (Str.ofString "within")) rfl))⟩
  have KEither : KTx K (caK K) .either := ⟨⟨(He.cls_ok (c.fact 86 (f := .cls (Str.ofString "Either")) rfl)), (He.noat_ok (c.fact 112 (f := .noat (Str.ofString "Either") (Str.ofString "children")) rfl)), (He.noat_ok (c.fact 113 (f := .noat (Str.ofString "Either") (Str.ofString "depth")) rfl)), (He.noat_ok (c.fact 114 (f := .noat (Str.ofString "Either") (Str.ofString "parts")) rfl)), (He.noat_ok (c.fact 115 (f := .noat (Str.ofString "Either") (Str.ofString "looks")) rfl)), (He.noat_ok (c.fact 116 (f := .noat (Str.ofString "Either") (Str.ofString "choices")) rfl))⟩, isi_ok (fx_at cx 3 (f := .isi (Str.ofString "Either")) rfl), kit_ok (fx_at cx 10 (f := .kit (Str.ofString "Either") (Str.ofString "Term") true) rfl), fun f hf => by
      simp only [Kd.own, List.mem_cons, List.not_mem_nil, or_false] at hf
      rcases hf with rfl | rfl
      · exact (He.noat_ok (c.fact 117 (f := .noat (Str.ofString "Either") (Str.ofString "first")) rfl))
      · exact (He.noat_ok (c.fact 118 (f := .noat (Str.ofString "Either") (Str.ofString "second")) rfl))⟩
  have KLater : KTx K (caK K) .later := ⟨⟨(He.cls_ok (c.fact 87 (f := .cls (Str.ofString "Later")) rfl)), (He.noat_ok (c.fact 119 (f := .noat (Str.ofString "Later") (Str.ofString "children")) rfl)), (He.noat_ok (c.fact 120 (f := .noat (Str.ofString "Later") (Str.ofString "depth")) rfl)), (He.noat_ok (c.fact 121 (f := .noat (Str.ofString "Later") (Str.ofString "parts")) rfl)), (He.noat_ok (c.fact 122 (f := .noat (Str.ofString "Later") (Str.ofString "looks")) rfl)), (He.noat_ok (c.fact 123 (f := .noat (Str.ofString "Later") (Str.ofString "choices")) rfl))⟩, isi_ok (fx_at cx 4 (f := .isi (Str.ofString "Later")) rfl), kit_ok (fx_at cx 11 (f := .kit (Str.ofString "Later") (Str.ofString "Term") true) rfl), fun f hf => by
      simp only [Kd.own, List.mem_cons, List.not_mem_nil, or_false] at hf
      rcases hf with rfl | rfl
      · exact (He.noat_ok (c.fact 124 (f := .noat (Str.ofString "Later") (Str.ofString "first")) rfl))
      · exact (He.noat_ok (c.fact 125 (f := .noat (Str.ofString "Later") (Str.ofString "second")) rfl))⟩
  have KEarlier : KTx K (caK K) .earlier := ⟨⟨(He.cls_ok (c.fact 88 (f := .cls (Str.ofString "Earlier")) rfl)), (He.noat_ok (c.fact 126 (f := .noat (Str.ofString "Earlier") (Str.ofString "children")) rfl)), (He.noat_ok (c.fact 127 (f := .noat (Str.ofString "Earlier") (Str.ofString "depth")) rfl)), (He.noat_ok (c.fact 128 (f := .noat (Str.ofString "Earlier") (Str.ofString "parts")) rfl)), (He.noat_ok (c.fact 129 (f := .noat (Str.ofString "Earlier") (Str.ofString "looks")) rfl)), (He.noat_ok (c.fact 130 (f := .noat (Str.ofString "Earlier") (Str.ofString "choices")) rfl))⟩, isi_ok (fx_at cx 5 (f := .isi (Str.ofString "Earlier")) rfl), kit_ok (fx_at cx 12 (f := .kit (Str.ofString "Earlier") (Str.ofString "Term") true) rfl), fun f hf => by
      simp only [Kd.own, List.mem_cons, List.not_mem_nil, or_false] at hf
      rcases hf with rfl | rfl
      · exact (He.noat_ok (c.fact 131 (f := .noat (Str.ofString "Earlier") (Str.ofString "first")) rfl))
      · exact (He.noat_ok (c.fact 132 (f := .noat (Str.ofString "Earlier") (Str.ofString "second")) rfl))⟩
  have TA : ∀ k, ksK k = true → KTx K (caK K) k := fun k hk => by
    cases k with
    | now => exact KNow
    | shift => exact KShift
    | look => exact KLook
    | either => exact KEither
    | later => exact KLater
    | earlier => exact KEarlier
  have TS : ∀ k, ksK k = true → PySem.W.kitOne K (.ref ((caK K).cls k)) (.ref ((caK K).cls .shift)) = some (decide (k = .shift)) := fun k hk => by
    cases k with
    | now => exact kit_ok (fx_at cx 13 (f := .kit (Str.ofString "Now") (Str.ofString "Shift") false) rfl)
    | shift => exact kit_ok (fx_at cx 14 (f := .kit (Str.ofString "Shift") (Str.ofString "Shift") true) rfl)
    | look => exact kit_ok (fx_at cx 15 (f := .kit (Str.ofString "Look") (Str.ofString "Shift") false) rfl)
    | either => exact kit_ok (fx_at cx 16 (f := .kit (Str.ofString "Either") (Str.ofString "Shift") false) rfl)
    | later => exact kit_ok (fx_at cx 17 (f := .kit (Str.ofString "Later") (Str.ofString "Shift") false) rfl)
    | earlier => exact kit_ok (fx_at cx 18 (f := .kit (Str.ofString "Earlier") (Str.ofString "Shift") false) rfl)
  have TT : TTx K mg (caK K) ksK := ⟨TA, TS, (He.glo_ok X G (c.fact 43 (f := .glo (Str.ofString "Term")) rfl)), rfl, rfl⟩
  have M_add : ∀ k, ksK k = true → Meth K ((caK K).cls k) (Str.ofString "__add__") (He.ma K (He.ga K (Str.ofString "Now")) (Str.ofString "__add__")) := fun k hk => by
    cases k with
    | now => exact (He.meth_ok (c.fact 138 (f := .meth (Str.ofString "Now") (Str.ofString "__add__")) rfl))
    | shift => exact mtn_ok (fx_at cx 33 (f := .mtn (Str.ofString "Shift") (Str.ofString "Now") (Str.ofString "__add__")) rfl) (He.meth_ok (c.fact 138 (f := .meth (Str.ofString "Now") (Str.ofString "__add__")) rfl))
    | look => exact mtn_ok (fx_at cx 39 (f := .mtn (Str.ofString "Look") (Str.ofString "Now") (Str.ofString "__add__")) rfl) (He.meth_ok (c.fact 138 (f := .meth (Str.ofString "Now") (Str.ofString "__add__")) rfl))
    | either => exact mtn_ok (fx_at cx 45 (f := .mtn (Str.ofString "Either") (Str.ofString "Now") (Str.ofString "__add__")) rfl) (He.meth_ok (c.fact 138 (f := .meth (Str.ofString "Now") (Str.ofString "__add__")) rfl))
    | later => exact mtn_ok (fx_at cx 51 (f := .mtn (Str.ofString "Later") (Str.ofString "Now") (Str.ofString "__add__")) rfl) (He.meth_ok (c.fact 138 (f := .meth (Str.ofString "Now") (Str.ofString "__add__")) rfl))
    | earlier => exact mtn_ok (fx_at cx 57 (f := .mtn (Str.ofString "Earlier") (Str.ofString "Now") (Str.ofString "__add__")) rfl) (He.meth_ok (c.fact 138 (f := .meth (Str.ofString "Now") (Str.ofString "__add__")) rfl))
  have M_sub : ∀ k, ksK k = true → Meth K ((caK K).cls k) (Str.ofString "__sub__") (He.ma K (He.ga K (Str.ofString "Now")) (Str.ofString "__sub__")) := fun k hk => by
    cases k with
    | now => exact (He.meth_ok (c.fact 139 (f := .meth (Str.ofString "Now") (Str.ofString "__sub__")) rfl))
    | shift => exact mtn_ok (fx_at cx 34 (f := .mtn (Str.ofString "Shift") (Str.ofString "Now") (Str.ofString "__sub__")) rfl) (He.meth_ok (c.fact 139 (f := .meth (Str.ofString "Now") (Str.ofString "__sub__")) rfl))
    | look => exact mtn_ok (fx_at cx 40 (f := .mtn (Str.ofString "Look") (Str.ofString "Now") (Str.ofString "__sub__")) rfl) (He.meth_ok (c.fact 139 (f := .meth (Str.ofString "Now") (Str.ofString "__sub__")) rfl))
    | either => exact mtn_ok (fx_at cx 46 (f := .mtn (Str.ofString "Either") (Str.ofString "Now") (Str.ofString "__sub__")) rfl) (He.meth_ok (c.fact 139 (f := .meth (Str.ofString "Now") (Str.ofString "__sub__")) rfl))
    | later => exact mtn_ok (fx_at cx 52 (f := .mtn (Str.ofString "Later") (Str.ofString "Now") (Str.ofString "__sub__")) rfl) (He.meth_ok (c.fact 139 (f := .meth (Str.ofString "Now") (Str.ofString "__sub__")) rfl))
    | earlier => exact mtn_ok (fx_at cx 58 (f := .mtn (Str.ofString "Earlier") (Str.ofString "Now") (Str.ofString "__sub__")) rfl) (He.meth_ok (c.fact 139 (f := .meth (Str.ofString "Now") (Str.ofString "__sub__")) rfl))
  have M_or : ∀ k, ksK k = true → Meth K ((caK K).cls k) (Str.ofString "__or__") (He.ma K (He.ga K (Str.ofString "Now")) (Str.ofString "__or__")) := fun k hk => by
    cases k with
    | now => exact (He.meth_ok (c.fact 140 (f := .meth (Str.ofString "Now") (Str.ofString "__or__")) rfl))
    | shift => exact mtn_ok (fx_at cx 35 (f := .mtn (Str.ofString "Shift") (Str.ofString "Now") (Str.ofString "__or__")) rfl) (He.meth_ok (c.fact 140 (f := .meth (Str.ofString "Now") (Str.ofString "__or__")) rfl))
    | look => exact mtn_ok (fx_at cx 41 (f := .mtn (Str.ofString "Look") (Str.ofString "Now") (Str.ofString "__or__")) rfl) (He.meth_ok (c.fact 140 (f := .meth (Str.ofString "Now") (Str.ofString "__or__")) rfl))
    | either => exact mtn_ok (fx_at cx 47 (f := .mtn (Str.ofString "Either") (Str.ofString "Now") (Str.ofString "__or__")) rfl) (He.meth_ok (c.fact 140 (f := .meth (Str.ofString "Now") (Str.ofString "__or__")) rfl))
    | later => exact mtn_ok (fx_at cx 53 (f := .mtn (Str.ofString "Later") (Str.ofString "Now") (Str.ofString "__or__")) rfl) (He.meth_ok (c.fact 140 (f := .meth (Str.ofString "Now") (Str.ofString "__or__")) rfl))
    | earlier => exact mtn_ok (fx_at cx 59 (f := .mtn (Str.ofString "Earlier") (Str.ofString "Now") (Str.ofString "__or__")) rfl) (He.meth_ok (c.fact 140 (f := .meth (Str.ofString "Now") (Str.ofString "__or__")) rfl))
  have M_later : ∀ k, ksK k = true → Meth K ((caK K).cls k) (Str.ofString "later") (He.ma K (He.ga K (Str.ofString "Now")) (Str.ofString "later")) := fun k hk => by
    cases k with
    | now => exact (He.meth_ok (c.fact 141 (f := .meth (Str.ofString "Now") (Str.ofString "later")) rfl))
    | shift => exact mtn_ok (fx_at cx 36 (f := .mtn (Str.ofString "Shift") (Str.ofString "Now") (Str.ofString "later")) rfl) (He.meth_ok (c.fact 141 (f := .meth (Str.ofString "Now") (Str.ofString "later")) rfl))
    | look => exact mtn_ok (fx_at cx 42 (f := .mtn (Str.ofString "Look") (Str.ofString "Now") (Str.ofString "later")) rfl) (He.meth_ok (c.fact 141 (f := .meth (Str.ofString "Now") (Str.ofString "later")) rfl))
    | either => exact mtn_ok (fx_at cx 48 (f := .mtn (Str.ofString "Either") (Str.ofString "Now") (Str.ofString "later")) rfl) (He.meth_ok (c.fact 141 (f := .meth (Str.ofString "Now") (Str.ofString "later")) rfl))
    | later => exact mtn_ok (fx_at cx 54 (f := .mtn (Str.ofString "Later") (Str.ofString "Now") (Str.ofString "later")) rfl) (He.meth_ok (c.fact 141 (f := .meth (Str.ofString "Now") (Str.ofString "later")) rfl))
    | earlier => exact mtn_ok (fx_at cx 60 (f := .mtn (Str.ofString "Earlier") (Str.ofString "Now") (Str.ofString "later")) rfl) (He.meth_ok (c.fact 141 (f := .meth (Str.ofString "Now") (Str.ofString "later")) rfl))
  have M_earlier : ∀ k, ksK k = true → Meth K ((caK K).cls k) (Str.ofString "earlier") (He.ma K (He.ga K (Str.ofString "Now")) (Str.ofString "earlier")) := fun k hk => by
    cases k with
    | now => exact (He.meth_ok (c.fact 142 (f := .meth (Str.ofString "Now") (Str.ofString "earlier")) rfl))
    | shift => exact mtn_ok (fx_at cx 37 (f := .mtn (Str.ofString "Shift") (Str.ofString "Now") (Str.ofString "earlier")) rfl) (He.meth_ok (c.fact 142 (f := .meth (Str.ofString "Now") (Str.ofString "earlier")) rfl))
    | look => exact mtn_ok (fx_at cx 43 (f := .mtn (Str.ofString "Look") (Str.ofString "Now") (Str.ofString "earlier")) rfl) (He.meth_ok (c.fact 142 (f := .meth (Str.ofString "Now") (Str.ofString "earlier")) rfl))
    | either => exact mtn_ok (fx_at cx 49 (f := .mtn (Str.ofString "Either") (Str.ofString "Now") (Str.ofString "earlier")) rfl) (He.meth_ok (c.fact 142 (f := .meth (Str.ofString "Now") (Str.ofString "earlier")) rfl))
    | later => exact mtn_ok (fx_at cx 55 (f := .mtn (Str.ofString "Later") (Str.ofString "Now") (Str.ofString "earlier")) rfl) (He.meth_ok (c.fact 142 (f := .meth (Str.ofString "Now") (Str.ofString "earlier")) rfl))
    | earlier => exact mtn_ok (fx_at cx 61 (f := .mtn (Str.ofString "Earlier") (Str.ofString "Now") (Str.ofString "earlier")) rfl) (He.meth_ok (c.fact 142 (f := .meth (Str.ofString "Now") (Str.ofString "earlier")) rfl))
  have M_eq : ∀ k, ksK k = true → Meth K ((caK K).cls k) (Str.ofString "__eq__") (He.ma K (He.ga K (Str.ofString "Now")) (Str.ofString "__eq__")) := fun k hk => by
    cases k with
    | now => exact (He.meth_ok (c.fact 143 (f := .meth (Str.ofString "Now") (Str.ofString "__eq__")) rfl))
    | shift => exact mtn_ok (fx_at cx 38 (f := .mtn (Str.ofString "Shift") (Str.ofString "Now") (Str.ofString "__eq__")) rfl) (He.meth_ok (c.fact 143 (f := .meth (Str.ofString "Now") (Str.ofString "__eq__")) rfl))
    | look => exact mtn_ok (fx_at cx 44 (f := .mtn (Str.ofString "Look") (Str.ofString "Now") (Str.ofString "__eq__")) rfl) (He.meth_ok (c.fact 143 (f := .meth (Str.ofString "Now") (Str.ofString "__eq__")) rfl))
    | either => exact mtn_ok (fx_at cx 50 (f := .mtn (Str.ofString "Either") (Str.ofString "Now") (Str.ofString "__eq__")) rfl) (He.meth_ok (c.fact 143 (f := .meth (Str.ofString "Now") (Str.ofString "__eq__")) rfl))
    | later => exact mtn_ok (fx_at cx 56 (f := .mtn (Str.ofString "Later") (Str.ofString "Now") (Str.ofString "__eq__")) rfl) (He.meth_ok (c.fact 143 (f := .meth (Str.ofString "Now") (Str.ofString "__eq__")) rfl))
    | earlier => exact mtn_ok (fx_at cx 62 (f := .mtn (Str.ofString "Earlier") (Str.ofString "Now") (Str.ofString "__eq__")) rfl) (He.meth_ok (c.fact 143 (f := .meth (Str.ofString "Now") (Str.ofString "__eq__")) rfl))
  have O_add : ∀ k, ksK k = true → OpTx K ((caK K).cls k) .Add := fun k hk => by
    cases k with
    | now => exact opi_ok (fx_at cx 21 (f := .opi (Str.ofString "Now") (Str.ofString "__add__") (Str.ofString "__radd__")) rfl) (by decide +kernel) (by decide +kernel)
    | shift => exact opi_ok (fx_at cx 23 (f := .opi (Str.ofString "Shift") (Str.ofString "__add__") (Str.ofString "__radd__")) rfl) (by decide +kernel) (by decide +kernel)
    | look => exact opi_ok (fx_at cx 25 (f := .opi (Str.ofString "Look") (Str.ofString "__add__") (Str.ofString "__radd__")) rfl) (by decide +kernel) (by decide +kernel)
    | either => exact opi_ok (fx_at cx 27 (f := .opi (Str.ofString "Either") (Str.ofString "__add__") (Str.ofString "__radd__")) rfl) (by decide +kernel) (by decide +kernel)
    | later => exact opi_ok (fx_at cx 29 (f := .opi (Str.ofString "Later") (Str.ofString "__add__") (Str.ofString "__radd__")) rfl) (by decide +kernel) (by decide +kernel)
    | earlier => exact opi_ok (fx_at cx 31 (f := .opi (Str.ofString "Earlier") (Str.ofString "__add__") (Str.ofString "__radd__")) rfl) (by decide +kernel) (by decide +kernel)
  have O_sub : ∀ k, ksK k = true → OpTx K ((caK K).cls k) .Sub := fun k hk => by
    cases k with
    | now => exact opi_ok (fx_at cx 22 (f := .opi (Str.ofString "Now") (Str.ofString "__sub__") (Str.ofString "__rsub__")) rfl) (by decide +kernel) (by decide +kernel)
    | shift => exact opi_ok (fx_at cx 24 (f := .opi (Str.ofString "Shift") (Str.ofString "__sub__") (Str.ofString "__rsub__")) rfl) (by decide +kernel) (by decide +kernel)
    | look => exact opi_ok (fx_at cx 26 (f := .opi (Str.ofString "Look") (Str.ofString "__sub__") (Str.ofString "__rsub__")) rfl) (by decide +kernel) (by decide +kernel)
    | either => exact opi_ok (fx_at cx 28 (f := .opi (Str.ofString "Either") (Str.ofString "__sub__") (Str.ofString "__rsub__")) rfl) (by decide +kernel) (by decide +kernel)
    | later => exact opi_ok (fx_at cx 30 (f := .opi (Str.ofString "Later") (Str.ofString "__sub__") (Str.ofString "__rsub__")) rfl) (by decide +kernel) (by decide +kernel)
    | earlier => exact opi_ok (fx_at cx 32 (f := .opi (Str.ofString "Earlier") (Str.ofString "__sub__") (Str.ofString "__rsub__")) rfl) (by decide +kernel) (by decide +kernel)
  obtain ⟨fL, fdL, FL, hmL, bL⟩ := (df_of (st := s_law) (ps := p_law) (dvs := []) (He.glo_ok X G (c.fact 41 (f := .glo (Str.ofString "law")) rfl)) (c.def_ 41 (d := d41) rfl) (fun _ _ _ _ _ _ us hl => match us, hl with | [_], _ => rfl))
  have e := hfa.symm.trans hmL
  cases e
  refine ⟨fdL, fun s v => ?_, fun base hKb hGb => ?_⟩
  · obtain ⟨fdD, FD⟩ := c.def_ 41 (d := d41) rfl
    obtain ⟨oc, od, kV, doc, pm, an, cdv, ct, osl, e1, lk1, _⟩ := FL.ex
    subst e1
    exact .of_eq rfl
  have a_int := ok_is_integer (P := P) (w := w) (base := base) (df_of (st := s_is_integer) (ps := p_is_integer) (dvs := []) (He.glo_ok X G (c.fact 0 (f := .glo (Str.ofString "is_integer")) rfl)) (c.def_ 0 (d := d0) rfl) (fun _ _ _ _ _ _ us hl => match us, hl with | [_], _ => rfl)) T
  have a_chm := ok_check_moment (df_of (st := s_check_moment) (ps := p_check_moment) (dvs := []) (He.glo_ok X G (c.fact 4 (f := .glo (Str.ofString "check_moment")) rfl)) (c.def_ 4 (d := d4) rfl) (fun _ _ _ _ _ _ us hl => match us, hl with | [_], _ => rfl)) a_int T
  have a_open := ok__law_open (P := P) (w := w) (base := base) (df_of (st := s__law_open) (ps := p__law_open) (dvs := []) (He.glo_ok X G (c.fact 23 (f := .glo (Str.ofString "_law_open")) rfl)) (c.def_ 23 (d := d23) rfl) (fun _ _ _ _ _ _ us hl => match us, hl with | [_], _ => rfl)) T
  have a_pick := ok__law_pick (P := P) (w := w) (base := base) (df_of (st := s__law_pick) (ps := p__law_pick) (dvs := []) (He.glo_ok X G (c.fact 24 (f := .glo (Str.ofString "_law_pick")) rfl)) (c.def_ 24 (d := d24) rfl) (fun _ _ _ _ _ _ us hl => match us, hl with | [_, _], _ => rfl)) T
  have a_num := ok__law_number (df_of (st := s__law_number) (ps := p__law_number) (dvs := []) (He.glo_ok X G (c.fact 25 (f := .glo (Str.ofString "_law_number")) rfl)) (c.def_ 25 (d := d25) rfl) (fun _ _ _ _ _ _ us hl => match us, hl with | [_], _ => rfl)) a_pick
  have a_moms := ok__law_moments (df_of (st := s__law_moments) (ps := p__law_moments) (dvs := []) (He.glo_ok X G (c.fact 33 (f := .glo (Str.ofString "_law_moments")) rfl)) (c.def_ 33 (d := d33) rfl) (fun _ _ _ _ _ _ us hl => match us, hl with | [_, _], _ => rfl)) T a_pick a_num
  have a_rows := ok__law_rows (df_of (st := s__law_rows) (ps := p__law_rows) (dvs := []) (He.glo_ok X G (c.fact 34 (f := .glo (Str.ofString "_law_rows")) rfl)) (c.def_ 34 (d := d34) rfl) (fun _ _ _ _ _ _ us hl => match us, hl with | [_, _, _], _ => rfl)) a_moms
  have a_copy := ok__law_copy (P := P) (w := w) (base := base) (df_of (st := s__law_copy) (ps := p__law_copy) (dvs := []) (He.glo_ok X G (c.fact 35 (f := .glo (Str.ofString "_law_copy")) rfl)) (c.def_ 35 (d := d35) rfl) (fun _ _ _ _ _ _ us hl => match us, hl with | [_], _ => rfl)) T
  have a_name := ok_is_name (P := P) (w := w) (base := base) (df_of (st := s_is_name) (ps := p_is_name) (dvs := []) (He.glo_ok X G (c.fact 2 (f := .glo (Str.ofString "is_name")) rfl)) (c.def_ 2 (d := d2) rfl) (fun _ _ _ _ _ _ us hl => match us, hl with | [_], _ => rfl)) T (He.str_ok X G (c.fact 80 (f := .str (Str.ofString "LETTERS") (Str.ofString "abcdefghijklmnopqrstuvwxyz")) rfl)) (He.int_ok X G (c.fact 73 (f := .int (Str.ofString "MOST_LETTERS") 12) rfl))
  have a_chn := ok_check_name (df_of (st := s_check_name) (ps := p_check_name) (dvs := []) (He.glo_ok X G (c.fact 3 (f := .glo (Str.ofString "check_name")) rfl)) (c.def_ 3 (d := d3) rfl) (fun _ _ _ _ _ _ us hl => match us, hl with | [_], _ => rfl)) a_name
  have a_isl := ok_is_list_of_moments (df_of (st := s_is_list_of_moments) (ps := p_is_list_of_moments) (dvs := []) (He.glo_ok X G (c.fact 11 (f := .glo (Str.ofString "is_list_of_moments")) rfl)) (c.def_ 11 (d := d11) rfl) (fun _ _ _ _ _ _ us hl => match us, hl with | [_], _ => rfl)) T a_int
  have a_chk := ok_checked_rows (df_of (st := s_checked_rows) (ps := p_checked_rows) (dvs := []) (He.glo_ok X G (c.fact 12 (f := .glo (Str.ofString "checked_rows")) rfl)) (c.def_ 12 (d := d12) rfl) (fun _ _ _ _ _ _ us hl => match us, hl with | [_], _ => rfl)) T a_chn a_isl
  have a_lim := ok_limited (P := P) (w := w) (base := base) (df_of (st := s_limited) (ps := p_limited) (dvs := []) (He.glo_ok X G (c.fact 13 (f := .glo (Str.ofString "limited")) rfl)) (c.def_ 13 (d := d13) rfl) (fun _ _ _ _ _ _ us hl => match us, hl with | [_], _ => rfl)) T (He.int_ok X G (c.fact 74 (f := .int (Str.ofString "MOST_ROWS") 300) rfl))
  have a_W := ok_World_init (dfi_of1 (st := s_World___init__) (ps := p_World___init__) (He.glo_ok X G (c.fact 42 (f := .glo (Str.ofString "World")) rfl)) (He.mkr_ok (c.fact 165 (f := .mkr (Str.ofString "World")) rfl)) (c.def_ 42 (d := d42) rfl) (fun _ _ _ _ _ _ _ us its hl hi => match us, its, hl, hi with | [_, _], [_], _, _ => ⟨_, rfl, rfl⟩)) WT a_chk a_lim
  have a_world := ok__law_world (df_of (st := s__law_world) (ps := p__law_world) (dvs := []) (He.glo_ok X G (c.fact 36 (f := .glo (Str.ofString "_law_world")) rfl)) (c.def_ 36 (d := d36) rfl) (fun _ _ _ _ _ _ us hl => match us, hl with | [_], _ => rfl)) a_W a_copy
  obtain ⟨fdT, FT, bT⟩ := fm_of (x := (Str.ofString "Term")) (st := s_Term___init__) (ps := p_Term___init__) (c.def_ 44 (d := d44) rfl) (fun _ _ _ _ _ _ us hl => match us, hl with | [_, _, _, _], _ => rfl)
  have a_TI := ok_Term_init (P := P) (w := w) (base := base) ⟨_, _, FT, cfn_ok (fx_at cx 20 (f := .cfn (Str.ofString "Term") (Str.ofString "__init__")) rfl), bT⟩ T (He.int_ok X G (c.fact 75 (f := .int (Str.ofString "MOST_DEPTH") 12) rfl)) (He.int_ok X G (c.fact 76 (f := .int (Str.ofString "MOST_PARTS") 40) rfl)) (He.int_ok X G (c.fact 77 (f := .int (Str.ofString "MOST_LOOKS") 12) rfl))
  have a_Now := ok_Now_init (dfi_of (st := s_Now___init__) (ps := p_Now___init__) (He.glo_ok X G (c.fact 44 (f := .glo (Str.ofString "Now")) rfl)) (He.mkr_ok (c.fact 167 (f := .mkr (Str.ofString "Now")) rfl)) (c.def_ 54 (d := d54) rfl) (fun _ _ _ _ _ _ us hl => match us, hl with | [_], _ => rfl)) TT a_TI
  have a_Shift := ok_Shift_init (dfi_of (st := s_Shift___init__) (ps := p_Shift___init__) (He.glo_ok X G (c.fact 45 (f := .glo (Str.ofString "Shift")) rfl)) (He.mkr_ok (c.fact 168 (f := .mkr (Str.ofString "Shift")) rfl)) (c.def_ 55 (d := d55) rfl) (fun _ _ _ _ _ _ us hl => match us, hl with | [_, _, _], _ => rfl)) TT a_TI
  have a_sh1 := ok_shifted1 (df_of (st := s_shifted) (ps := p_shifted) (dvs := []) (He.glo_ok X G (c.fact 16 (f := .glo (Str.ofString "shifted")) rfl)) (c.def_ 16 (d := d16) rfl) (fun _ _ _ _ _ _ us hl => match us, hl with | [_, _], _ => rfl)) T TT (He.glo_ok X G (c.fact 45 (f := .glo (Str.ofString "Shift")) rfl)) a_Shift
  have a_sh := ok_shifted (df_of (st := s_shifted) (ps := p_shifted) (dvs := []) (He.glo_ok X G (c.fact 16 (f := .glo (Str.ofString "shifted")) rfl)) (c.def_ 16 (d := d16) rfl) (fun _ _ _ _ _ _ us hl => match us, hl with | [_, _], _ => rfl)) T TT (He.glo_ok X G (c.fact 45 (f := .glo (Str.ofString "Shift")) rfl)) a_Shift a_sh1
  obtain ⟨fdA, FA, bA⟩ := fm_of (x := (Str.ofString "Now")) (st := s_Term___add__) (ps := p_Term___add__) (c.def_ 60 (d := d60) rfl) (fun _ _ _ _ _ _ us hl => match us, hl with | [_, _], _ => rfl)
  have a_add := ok_Term_add ⟨_, _, FA, M_add, bA⟩ TT a_chm a_sh
  obtain ⟨fdB, FB, bB⟩ := fm_of (x := (Str.ofString "Now")) (st := s_Term___sub__) (ps := p_Term___sub__) (c.def_ 61 (d := d61) rfl) (fun _ _ _ _ _ _ us hl => match us, hl with | [_, _], _ => rfl)
  have a_sub := ok_Term_sub ⟨_, _, FB, M_sub, bB⟩ TT a_chm a_sh
  have a_ct := ok_check_term (P := P) (w := w) (base := base) (df_of (st := s_check_term) (ps := p_check_term) (dvs := []) (He.glo_ok X G (c.fact 15 (f := .glo (Str.ofString "check_term")) rfl)) (c.def_ 15 (d := d15) rfl) (fun _ _ _ _ _ _ us hl => match us, hl with | [_], _ => rfl)) T TT
  have a_cw := ok_check_world (P := P) (w := w) (base := base) (df_of (st := s_check_world) (ps := p_check_world) (dvs := []) (He.glo_ok X G (c.fact 10 (f := .glo (Str.ofString "check_world")) rfl)) (c.def_ 10 (d := d10) rfl) (fun _ _ _ _ _ _ us hl => match us, hl with | [_], _ => rfl)) T WT (isi_ok (fx_at cx 6 (f := .isi (Str.ofString "World")) rfl)) (kit_ok (fx_at cx 19 (f := .kit (Str.ofString "World") (Str.ofString "World") true) rfl))
  have a_cnt := ok_is_count (df_of (st := s_is_count) (ps := p_is_count) (dvs := []) (He.glo_ok X G (c.fact 1 (f := .glo (Str.ofString "is_count")) rfl)) (c.def_ 1 (d := d1) rfl) (fun _ _ _ _ _ _ us hl => match us, hl with | [_], _ => rfl)) a_int
  have a_cb0 := ok_check_bound (df_of (st := s_check_bound) (ps := p_check_bound) (dvs := []) (He.glo_ok X G (c.fact 5 (f := .glo (Str.ofString "check_bound")) rfl)) (c.def_ 5 (d := d5) rfl) (fun _ _ _ _ _ _ us hl => match us, hl with | [_], _ => rfl)) a_cnt
  have a_cl := ok_check_limit (df_of (st := s_check_limit) (ps := p_check_limit) (dvs := []) (He.glo_ok X G (c.fact 6 (f := .glo (Str.ofString "check_limit")) rfl)) (c.def_ 6 (d := d6) rfl) (fun _ _ _ _ _ _ us hl => match us, hl with | [_], _ => rfl)) a_cb0
  have a_cb := ok_count_before (P := P) (w := w) (base := base) (df_of (st := s_count_before) (ps := p_count_before) (dvs := []) (He.glo_ok X G (c.fact 7 (f := .glo (Str.ofString "count_before")) rfl)) (c.def_ 7 (d := d7) rfl) (fun _ _ _ _ _ _ us hl => match us, hl with | [_, _], _ => rfl)) T
  have a_rf := ok_row_found (df_of (st := s_row_found) (ps := p_row_found) (dvs := []) (He.glo_ok X G (c.fact 8 (f := .glo (Str.ofString "row_found")) rfl)) (c.def_ 8 (d := d8) rfl) (fun _ _ _ _ _ _ us hl => match us, hl with | [_, _, _], _ => rfl)) T a_cb
  have a_rw := ok_row_within (df_of (st := s_row_within) (ps := p_row_within) (dvs := []) (He.glo_ok X G (c.fact 9 (f := .glo (Str.ofString "row_within")) rfl)) (c.def_ 9 (d := d9) rfl) (fun _ _ _ _ _ _ us hl => match us, hl with | [_, _, _, _], _ => rfl)) (He.free_ok X G (c.fact 72 (f := .free (Str.ofString "abs")) rfl)) a_rf
  obtain ⟨fdG, FG, bG⟩ := fm_of (x := (Str.ofString "World")) (st := s_World___getitem__) (ps := p_World___getitem__) (c.def_ 43 (d := d43) rfl) (fun _ _ _ _ _ _ us hl => match us, hl with | [_, _], _ => rfl)
  have a_get := ok_World_get ⟨_, _, FG, (He.meth_ok (c.fact 150 (f := .meth (Str.ofString "World") (Str.ofString "__getitem__")) rfl)), bG⟩ T WT a_chn
  have c_get : ∀ C sp, GetS (He.ga K (Str.ofString "World")) C sp → CalI P w K mg base CX0 C "__getitem__" 3 sp ∧ ∀ g, Meth K C "__getitem__" g → PySem.W.fnIn K g = true := by
    rintro C sp ⟨rfl, rfl⟩
    refine ⟨a_get, fun g hg => ?_⟩
    have e := hg.at_.symm.trans ((He.meth_ok (c.fact 150 (f := .meth (Str.ofString "World") (Str.ofString "__getitem__")) rfl))).at_
    cases e
    exact (fx_at cx 63 (f := .fni (Str.ofString "World") (Str.ofString "__getitem__")) rfl)
  obtain ⟨fdK, gK, FK, bK⟩ := kinit_of (st := s_Look___init__) (ps := p_Look___init__) (n := 4) (ks := [(Str.ofString "within")]) (c.def_ 56 (d := d56) rfl) (by intro z; cases z) (fun _ _ _ _ _ _ us ws h1 h2 => match us, ws, h1, h2 with | [_, _, _, _], [_], _, _ => rfl)
  have a_Look := ok_Look_init ⟨_, fdK, gK, FK, (He.glo_ok X G (c.fact 46 (f := .glo (Str.ofString "Look")) rfl)), (He.mkr_ok (c.fact 169 (f := .mkr (Str.ofString "Look")) rfl)), bK⟩ T TT rfl ⟨_, (He.glo_ok X G (c.fact 56 (f := .glo (Str.ofString "WAYS")) rfl)), tup_ok (fx_at cx 143 (f := .tup (Str.ofString "WAYS") [(Str.ofString "at"), (Str.ofString "before"), (Str.ofString "since"), (Str.ofString "after")]) rfl)⟩ a_chn a_ct a_cl a_TI
  obtain ⟨fdaNow, FaNow, baNow⟩ := fm_of (x := (Str.ofString "Now")) (st := s_Now_answer) (ps := p_Now_answer) (c.def_ 66 (d := d66) rfl) (fun _ _ _ _ _ _ us hl => match us, hl with | [_, _, _], _ => rfl)
  obtain ⟨fdaShift, FaShift, baShift⟩ := fm_of (x := (Str.ofString "Shift")) (st := s_Shift_answer) (ps := p_Shift_answer) (c.def_ 67 (d := d67) rfl) (fun _ _ _ _ _ _ us hl => match us, hl with | [_, _, _], _ => rfl)
  obtain ⟨fdaLook, FaLook, baLook⟩ := fm_of (x := (Str.ofString "Look")) (st := s_Look_answer) (ps := p_Look_answer) (c.def_ 68 (d := d68) rfl) (fun _ _ _ _ _ _ us hl => match us, hl with | [_, _, _], _ => rfl)
  obtain ⟨fdaEither, FaEither, baEither⟩ := fm_of (x := (Str.ofString "Either")) (st := s_Either_answer) (ps := p_Either_answer) (c.def_ 69 (d := d69) rfl) (fun _ _ _ _ _ _ us hl => match us, hl with | [_, _, _], _ => rfl)
  obtain ⟨fdaLater, FaLater, baLater⟩ := fm_of (x := (Str.ofString "Later")) (st := s_Later_answer) (ps := p_Later_answer) (c.def_ 70 (d := d70) rfl) (fun _ _ _ _ _ _ us hl => match us, hl with | [_, _, _], _ => rfl)
  obtain ⟨fdaEarlier, FaEarlier, baEarlier⟩ := fm_of (x := (Str.ofString "Earlier")) (st := s_Earlier_answer) (ps := p_Earlier_answer) (c.def_ 71 (d := d71) rfl) (fun _ _ _ _ _ _ us hl => match us, hl with | [_, _, _], _ => rfl)
  have a_to := ans_all (P := P) (w := w) (K := K) (mg := mg) (base := base) (A := caK K) (ks := ksK) (CW := (He.ga K (Str.ofString "World"))) (fun d k to hk => by
    cases k with
    | now => exact ok_Now_answer ⟨_, _, FaNow, (He.meth_ok (c.fact 144 (f := .meth (Str.ofString "Now") (Str.ofString "answer")) rfl)), baNow⟩ TT d
    | shift => exact ok_Shift_answer ⟨_, _, FaShift, (He.meth_ok (c.fact 145 (f := .meth (Str.ofString "Shift") (Str.ofString "answer")) rfl)), baShift⟩ TT to
    | look => exact ok_Look_answer ⟨_, _, FaLook, (He.meth_ok (c.fact 146 (f := .meth (Str.ofString "Look") (Str.ofString "answer")) rfl)), baLook⟩ T TT rfl c_get a_rw to
    | either => exact ok_Either_answer ⟨_, _, FaEither, (He.meth_ok (c.fact 147 (f := .meth (Str.ofString "Either") (Str.ofString "answer")) rfl)), baEither⟩ TT rfl to
    | later => exact ok_Later_answer ⟨_, _, FaLater, (He.meth_ok (c.fact 148 (f := .meth (Str.ofString "Later") (Str.ofString "answer")) rfl)), baLater⟩ T TT rfl (ok_both_answers (df_of (st := s_both_answers) (ps := p_both_answers) (dvs := []) (He.glo_ok X G (c.fact 17 (f := .glo (Str.ofString "both_answers")) rfl)) (c.def_ 17 (d := d17) rfl) (fun _ _ _ _ _ _ us hl => match us, hl with | [_, _, _], _ => rfl)) TT to)
    | earlier => exact ok_Earlier_answer ⟨_, _, FaEarlier, (He.meth_ok (c.fact 149 (f := .meth (Str.ofString "Earlier") (Str.ofString "answer")) rfl)), baEarlier⟩ T TT rfl (ok_both_answers (df_of (st := s_both_answers) (ps := p_both_answers) (dvs := []) (He.glo_ok X G (c.fact 17 (f := .glo (Str.ofString "both_answers")) rfl)) (c.def_ 17 (d := d17) rfl) (fun _ _ _ _ _ _ us hl => match us, hl with | [_, _, _], _ => rfl)) TT to)
)
  have a_told := ok_told (df_of (st := s_told) (ps := p_told) (dvs := []) (He.glo_ok X G (c.fact 14 (f := .glo (Str.ofString "told")) rfl)) (c.def_ 14 (d := d14) rfl) (fun _ _ _ _ _ _ us hl => match us, hl with | [_, _, _], _ => rfl)) TT a_ct a_cw a_chm (a_to 13)
  have a_lim0 := ok__law_limit (df_of (st := s__law_limit) (ps := p__law_limit) (dvs := []) (He.glo_ok X G (c.fact 26 (f := .glo (Str.ofString "_law_limit")) rfl)) (c.def_ 26 (d := d26) rfl) (fun _ _ _ _ _ _ us hl => match us, hl with | [_], _ => rfl)) (He.free_ok X G (c.fact 72 (f := .free (Str.ofString "abs")) rfl)) a_pick a_num
  have a_nms := ok__law_names (df_of (st := s__law_names) (ps := p__law_names) (dvs := []) (He.glo_ok X G (c.fact 27 (f := .glo (Str.ofString "_law_names")) rfl)) (c.def_ 27 (d := d27) rfl) (fun _ _ _ _ _ _ us hl => match us, hl with | [_, _], _ => rfl)) T a_pick
  have a_Either := ok_Either_init (dfi_of (st := s_Either___init__) (ps := p_Either___init__) (He.glo_ok X G (c.fact 47 (f := .glo (Str.ofString "Either")) rfl)) (He.mkr_ok (c.fact 170 (f := .mkr (Str.ofString "Either")) rfl)) (c.def_ 57 (d := d57) rfl) (fun _ _ _ _ _ _ us hl => match us, hl with | [_, _, _], _ => rfl)) TT rfl a_TI
  obtain ⟨fdmor, Fmor, bmor⟩ := fm_of (x := (Str.ofString "Now")) (st := s_Term___or__) (ps := p_Term___or__) (c.def_ 62 (d := d62) rfl) (fun _ _ _ _ _ _ us hl => match us, hl with | [_, _], _ => rfl)
  have a_or := ok_Term_either ⟨_, _, Fmor, M_or, bmor⟩ TT (He.glo_ok X G (c.fact 47 (f := .glo (Str.ofString "Either")) rfl)) a_ct a_Either
  have a_Later := ok_Later_init (dfi_of (st := s_Later___init__) (ps := p_Later___init__) (He.glo_ok X G (c.fact 48 (f := .glo (Str.ofString "Later")) rfl)) (He.mkr_ok (c.fact 171 (f := .mkr (Str.ofString "Later")) rfl)) (c.def_ 58 (d := d58) rfl) (fun _ _ _ _ _ _ us hl => match us, hl with | [_, _, _], _ => rfl)) TT rfl a_TI
  obtain ⟨fdmlater, Fmlater, bmlater⟩ := fm_of (x := (Str.ofString "Now")) (st := s_Term_later) (ps := p_Term_later) (c.def_ 63 (d := d63) rfl) (fun _ _ _ _ _ _ us hl => match us, hl with | [_, _], _ => rfl)
  have a_later := ok_Term_later ⟨_, _, Fmlater, M_later, bmlater⟩ TT (He.glo_ok X G (c.fact 48 (f := .glo (Str.ofString "Later")) rfl)) a_ct a_Later
  have a_Earlier := ok_Earlier_init (dfi_of (st := s_Earlier___init__) (ps := p_Earlier___init__) (He.glo_ok X G (c.fact 49 (f := .glo (Str.ofString "Earlier")) rfl)) (He.mkr_ok (c.fact 172 (f := .mkr (Str.ofString "Earlier")) rfl)) (c.def_ 59 (d := d59) rfl) (fun _ _ _ _ _ _ us hl => match us, hl with | [_, _, _], _ => rfl)) TT rfl a_TI
  obtain ⟨fdmearlier, Fmearlier, bmearlier⟩ := fm_of (x := (Str.ofString "Now")) (st := s_Term_earlier) (ps := p_Term_earlier) (c.def_ 64 (d := d64) rfl) (fun _ _ _ _ _ _ us hl => match us, hl with | [_, _], _ => rfl)
  have a_earlier := ok_Term_earlier ⟨_, _, Fmearlier, M_earlier, bmearlier⟩ TT (He.glo_ok X G (c.fact 49 (f := .glo (Str.ofString "Earlier")) rfl)) a_ct a_Earlier
  have O_or : ∀ k, ksK k = true → OpO K ((caK K).cls k) .BitOr := fun k hk => by
    cases k with
    | now => exact opo_ok (fx_at cx 107 (f := .opo (Str.ofString "Now") (Str.ofString "__or__") (Str.ofString "__ror__")) rfl) (by decide +kernel) (by decide +kernel)
    | shift => exact opo_ok (fx_at cx 108 (f := .opo (Str.ofString "Shift") (Str.ofString "__or__") (Str.ofString "__ror__")) rfl) (by decide +kernel) (by decide +kernel)
    | look => exact opo_ok (fx_at cx 109 (f := .opo (Str.ofString "Look") (Str.ofString "__or__") (Str.ofString "__ror__")) rfl) (by decide +kernel) (by decide +kernel)
    | either => exact opo_ok (fx_at cx 110 (f := .opo (Str.ofString "Either") (Str.ofString "__or__") (Str.ofString "__ror__")) rfl) (by decide +kernel) (by decide +kernel)
    | later => exact opo_ok (fx_at cx 111 (f := .opo (Str.ofString "Later") (Str.ofString "__or__") (Str.ofString "__ror__")) rfl) (by decide +kernel) (by decide +kernel)
    | earlier => exact opo_ok (fx_at cx 112 (f := .opo (Str.ofString "Earlier") (Str.ofString "__or__") (Str.ofString "__ror__")) rfl) (by decide +kernel) (by decide +kernel)
  have S_or : ∀ k k' : Kd, (caK K).cls k ≠ (caK K).cls k' → PySem.W.subIn K (.ref ((caK K).cls k')) (.ref ((caK K).cls k)) = some false := fun k k' ne => by
    cases k <;> cases k'
    · exact absurd rfl ne
    · exact sub_ok (fx_at cx 113 (f := .sub (Str.ofString "Shift") (Str.ofString "Now")) rfl)
    · exact sub_ok (fx_at cx 114 (f := .sub (Str.ofString "Look") (Str.ofString "Now")) rfl)
    · exact sub_ok (fx_at cx 115 (f := .sub (Str.ofString "Either") (Str.ofString "Now")) rfl)
    · exact sub_ok (fx_at cx 116 (f := .sub (Str.ofString "Later") (Str.ofString "Now")) rfl)
    · exact sub_ok (fx_at cx 117 (f := .sub (Str.ofString "Earlier") (Str.ofString "Now")) rfl)
    · exact sub_ok (fx_at cx 118 (f := .sub (Str.ofString "Now") (Str.ofString "Shift")) rfl)
    · exact absurd rfl ne
    · exact sub_ok (fx_at cx 119 (f := .sub (Str.ofString "Look") (Str.ofString "Shift")) rfl)
    · exact sub_ok (fx_at cx 120 (f := .sub (Str.ofString "Either") (Str.ofString "Shift")) rfl)
    · exact sub_ok (fx_at cx 121 (f := .sub (Str.ofString "Later") (Str.ofString "Shift")) rfl)
    · exact sub_ok (fx_at cx 122 (f := .sub (Str.ofString "Earlier") (Str.ofString "Shift")) rfl)
    · exact sub_ok (fx_at cx 123 (f := .sub (Str.ofString "Now") (Str.ofString "Look")) rfl)
    · exact sub_ok (fx_at cx 124 (f := .sub (Str.ofString "Shift") (Str.ofString "Look")) rfl)
    · exact absurd rfl ne
    · exact sub_ok (fx_at cx 125 (f := .sub (Str.ofString "Either") (Str.ofString "Look")) rfl)
    · exact sub_ok (fx_at cx 126 (f := .sub (Str.ofString "Later") (Str.ofString "Look")) rfl)
    · exact sub_ok (fx_at cx 127 (f := .sub (Str.ofString "Earlier") (Str.ofString "Look")) rfl)
    · exact sub_ok (fx_at cx 128 (f := .sub (Str.ofString "Now") (Str.ofString "Either")) rfl)
    · exact sub_ok (fx_at cx 129 (f := .sub (Str.ofString "Shift") (Str.ofString "Either")) rfl)
    · exact sub_ok (fx_at cx 130 (f := .sub (Str.ofString "Look") (Str.ofString "Either")) rfl)
    · exact absurd rfl ne
    · exact sub_ok (fx_at cx 131 (f := .sub (Str.ofString "Later") (Str.ofString "Either")) rfl)
    · exact sub_ok (fx_at cx 132 (f := .sub (Str.ofString "Earlier") (Str.ofString "Either")) rfl)
    · exact sub_ok (fx_at cx 133 (f := .sub (Str.ofString "Now") (Str.ofString "Later")) rfl)
    · exact sub_ok (fx_at cx 134 (f := .sub (Str.ofString "Shift") (Str.ofString "Later")) rfl)
    · exact sub_ok (fx_at cx 135 (f := .sub (Str.ofString "Look") (Str.ofString "Later")) rfl)
    · exact sub_ok (fx_at cx 136 (f := .sub (Str.ofString "Either") (Str.ofString "Later")) rfl)
    · exact absurd rfl ne
    · exact sub_ok (fx_at cx 137 (f := .sub (Str.ofString "Earlier") (Str.ofString "Later")) rfl)
    · exact sub_ok (fx_at cx 138 (f := .sub (Str.ofString "Now") (Str.ofString "Earlier")) rfl)
    · exact sub_ok (fx_at cx 139 (f := .sub (Str.ofString "Shift") (Str.ofString "Earlier")) rfl)
    · exact sub_ok (fx_at cx 140 (f := .sub (Str.ofString "Look") (Str.ofString "Earlier")) rfl)
    · exact sub_ok (fx_at cx 141 (f := .sub (Str.ofString "Either") (Str.ofString "Earlier")) rfl)
    · exact sub_ok (fx_at cx 142 (f := .sub (Str.ofString "Later") (Str.ofString "Earlier")) rfl)
    · exact absurd rfl ne
  have c_or : ∀ C C' sp, BinS (caK K) ksK (spM_either (caK K) ksK) C C' sp → CalI P w K mg base CX0 C "__or__" 4 sp ∧ OpO K C .BitOr ∧ OpO K C' .BitOr ∧ (C ≠ C' → PySem.W.subIn K (.ref C') (.ref C) = some false) := by
    rintro C C' sp ⟨⟨k, hk, rfl⟩, ⟨k', hk', rfl⟩, rfl⟩
    exact ⟨a_or _ _ ⟨⟨k, hk, rfl⟩, rfl⟩, O_or k hk, O_or k' hk', S_or k k'⟩
  have c_add : ∀ C sp, (∃ k, ksK k = true ∧ C = (caK K).cls k) ∧ sp = spSh (caK K) ksK → CalI P w K mg base CX0 C "__add__" 6 sp ∧ OpTx K C .Add := by
    rintro C sp ⟨⟨k, hk, rfl⟩, rfl⟩
    exact ⟨a_add _ _ ⟨⟨k, hk, rfl⟩, rfl⟩, O_add k hk⟩
  have a_lsh := ok__law_shift (P := P) (w := w) (base := base) (ks := ksK) (df_of (st := s__law_shift) (ps := p__law_shift) (dvs := []) (He.glo_ok X G (c.fact 28 (f := .glo (Str.ofString "_law_shift")) rfl)) (c.def_ 28 (d := d28) rfl) (fun _ _ _ _ _ _ us hl => match us, hl with | [_, _], _ => rfl))
  have a_tree := ok__law_tree (df_of (st := s__law_tree) (ps := p__law_tree) (dvs := []) (He.glo_ok X G (c.fact 29 (f := .glo (Str.ofString "_law_tree")) rfl)) (c.def_ 29 (d := d29) rfl) (fun _ _ _ _ _ _ us hl => match us, hl with | [_, _, _, _], _ => rfl)) T (fun k => by cases k <;> rfl) a_pick a_num a_lim0 a_lsh
  have a_term := ok__law_term (df_of (st := s__law_term) (ps := p__law_term) (dvs := []) (He.glo_ok X G (c.fact 30 (f := .glo (Str.ofString "_law_term")) rfl)) (c.def_ 30 (d := d30) rfl) (fun _ _ _ _ _ _ us hl => match us, hl with | [_], _ => rfl)) TT rfl a_Now a_Look c_add c_or a_later a_earlier
  obtain ⟨fdeqm, Feqm, beqm⟩ := fm_of (x := (Str.ofString "Now")) (st := s_Term___eq__) (ps := p_Term___eq__) (c.def_ 65 (d := d65) rfl) (fun _ _ _ _ _ _ us hl => match us, hl with | [_, _], _ => rfl)
  obtain ⟨fdowNow, FowNow, bowNow⟩ := fm_of (x := (Str.ofString "Now")) (st := s_Now_own_values) (ps := p_Now_own_values) (c.def_ 72 (d := d72) rfl) (fun _ _ _ _ _ _ us hl => match us, hl with | [_], _ => rfl)
  obtain ⟨fdowShift, FowShift, bowShift⟩ := fm_of (x := (Str.ofString "Shift")) (st := s_Shift_own_values) (ps := p_Shift_own_values) (c.def_ 73 (d := d73) rfl) (fun _ _ _ _ _ _ us hl => match us, hl with | [_], _ => rfl)
  obtain ⟨fdowLook, FowLook, bowLook⟩ := fm_of (x := (Str.ofString "Look")) (st := s_Look_own_values) (ps := p_Look_own_values) (c.def_ 74 (d := d74) rfl) (fun _ _ _ _ _ _ us hl => match us, hl with | [_], _ => rfl)
  obtain ⟨fdowEither, FowEither, bowEither⟩ := fm_of (x := (Str.ofString "Either")) (st := s_Either_own_values) (ps := p_Either_own_values) (c.def_ 75 (d := d75) rfl) (fun _ _ _ _ _ _ us hl => match us, hl with | [_], _ => rfl)
  obtain ⟨fdowLater, FowLater, bowLater⟩ := fm_of (x := (Str.ofString "Later")) (st := s_Later_own_values) (ps := p_Later_own_values) (c.def_ 76 (d := d76) rfl) (fun _ _ _ _ _ _ us hl => match us, hl with | [_], _ => rfl)
  obtain ⟨fdowEarlier, FowEarlier, bowEarlier⟩ := fm_of (x := (Str.ofString "Earlier")) (st := s_Earlier_own_values) (ps := p_Earlier_own_values) (c.def_ 77 (d := d77) rfl) (fun _ _ _ _ _ _ us hl => match us, hl with | [_], _ => rfl)
  obtain ⟨fdrdread_term, Frdread_term, brdread_term⟩ := fm_of (x := (Str.ofString "Reader")) (st := s_Reader_read_term) (ps := p_Reader_read_term) (c.def_ 46 (d := d46) rfl) (fun _ _ _ _ _ _ us hl => match us, hl with | [_, _], _ => rfl)
  obtain ⟨fdrdread_joined, Frdread_joined, brdread_joined⟩ := fm_of (x := (Str.ofString "Reader")) (st := s_Reader_read_joined) (ps := p_Reader_read_joined) (c.def_ 47 (d := d47) rfl) (fun _ _ _ _ _ _ us hl => match us, hl with | [_, _], _ => rfl)
  obtain ⟨fdrdread_ordered, Frdread_ordered, brdread_ordered⟩ := fm_of (x := (Str.ofString "Reader")) (st := s_Reader_read_ordered) (ps := p_Reader_read_ordered) (c.def_ 48 (d := d48) rfl) (fun _ _ _ _ _ _ us hl => match us, hl with | [_, _, _], _ => rfl)
  obtain ⟨fdrdread_look, Frdread_look, brdread_look⟩ := fm_of (x := (Str.ofString "Reader")) (st := s_Reader_read_look) (ps := p_Reader_read_look) (c.def_ 49 (d := d49) rfl) (fun _ _ _ _ _ _ us hl => match us, hl with | [_, _, _], _ => rfl)
  obtain ⟨fdrdread_number, Frdread_number, brdread_number⟩ := fm_of (x := (Str.ofString "Reader")) (st := s_Reader_read_number) (ps := p_Reader_read_number) (c.def_ 50 (d := d50) rfl) (fun _ _ _ _ _ _ us hl => match us, hl with | [_], _ => rfl)
  obtain ⟨fdrdread_row_of, Frdread_row_of, brdread_row_of⟩ := fm_of (x := (Str.ofString "Reader")) (st := s_Reader_read_row_of) (ps := p_Reader_read_row_of) (c.def_ 51 (d := d51) rfl) (fun _ _ _ _ _ _ us hl => match us, hl with | [_, _, _], _ => rfl)
  obtain ⟨fdrdread_word, Frdread_word, brdread_word⟩ := fm_of (x := (Str.ofString "Reader")) (st := s_Reader_read_word) (ps := p_Reader_read_word) (c.def_ 52 (d := d52) rfl) (fun _ _ _ _ _ _ us hl => match us, hl with | [_, _], _ => rfl)
  obtain ⟨fdrdread_end, Frdread_end, brdread_end⟩ := fm_of (x := (Str.ofString "Reader")) (st := s_Reader_read_end) (ps := p_Reader_read_end) (c.def_ 53 (d := d53) rfl) (fun _ _ _ _ _ _ us hl => match us, hl with | [_], _ => rfl)
  have a_li := ok__law_is_integer (P := P) (w := w) (base := base) (df_of (st := s__law_is_integer) (ps := p__law_is_integer) (dvs := []) (He.glo_ok X G (c.fact 37 (f := .glo (Str.ofString "_law_is_integer")) rfl)) (c.def_ 37 (d := d37) rfl) (fun _ _ _ _ _ _ us hl => match us, hl with | [_], _ => rfl)) T
  have a_ans := ok__law_answer (df_of (st := s__law_answer) (ps := p__law_answer) (dvs := []) (He.glo_ok X G (c.fact 38 (f := .glo (Str.ofString "_law_answer")) rfl)) (c.def_ 38 (d := d38) rfl) (fun _ _ _ _ _ _ us hl => match us, hl with | [_, _], _ => rfl)) a_li
  have a_fnd := ok__law_found (P := P) (w := w) (base := base) (df_of (st := s__law_found) (ps := p__law_found) (dvs := []) (He.glo_ok X G (c.fact 31 (f := .glo (Str.ofString "_law_found")) rfl)) (c.def_ 31 (d := d31) rfl) (fun _ _ _ _ _ _ us hl => match us, hl with | [_, _, _, _], _ => rfl)) T (He.free_ok X G (c.fact 72 (f := .free (Str.ofString "abs")) rfl))
  have a_tl := ok__law_told (ks := ksK) (df_of (st := s__law_told) (ps := p__law_told) (dvs := []) (He.glo_ok X G (c.fact 32 (f := .glo (Str.ofString "_law_told")) rfl)) (c.def_ 32 (d := d32) rfl) (fun _ _ _ _ _ _ us hl => match us, hl with | [_, _, _], _ => rfl)) T a_fnd
  have a_numB := ok__law_numberB (df_of (st := s__law_number) (ps := p__law_number) (dvs := []) (He.glo_ok X G (c.fact 25 (f := .glo (Str.ofString "_law_number")) rfl)) (c.def_ 25 (d := d25) rfl) (fun _ _ _ _ _ _ us hl => match us, hl with | [_], _ => rfl)) a_pick
  have a_limB := ok__law_limitB (df_of (st := s__law_limit) (ps := p__law_limit) (dvs := []) (He.glo_ok X G (c.fact 26 (f := .glo (Str.ofString "_law_limit")) rfl)) (c.def_ 26 (d := d26) rfl) (fun _ _ _ _ _ _ us hl => match us, hl with | [_], _ => rfl)) (He.free_ok X G (c.fact 72 (f := .free (Str.ofString "abs")) rfl)) a_pick a_numB
  have a_trB := ok__law_treeB (ks := ksK) (df_of (st := s__law_tree) (ps := p__law_tree) (dvs := []) (He.glo_ok X G (c.fact 29 (f := .glo (Str.ofString "_law_tree")) rfl)) (c.def_ 29 (d := d29) rfl) (fun _ _ _ _ _ _ us hl => match us, hl with | [_, _, _, _], _ => rfl)) T (fun k => by cases k <;> rfl) a_pick a_numB a_limB a_lsh
  have kk : ∀ k k', PySem.W.kitOne K (.ref ((caK K).cls k)) (.ref ((caK K).cls k')) = some (decide (k = k')) := fun k k' => by
    cases k <;> cases k'
    · exact kit_ok (fx_at cx 77 (f := .kit (Str.ofString "Now") (Str.ofString "Now") true) rfl)
    · exact kit_ok (fx_at cx 13 (f := .kit (Str.ofString "Now") (Str.ofString "Shift") false) rfl)
    · exact kit_ok (fx_at cx 78 (f := .kit (Str.ofString "Now") (Str.ofString "Look") false) rfl)
    · exact kit_ok (fx_at cx 79 (f := .kit (Str.ofString "Now") (Str.ofString "Either") false) rfl)
    · exact kit_ok (fx_at cx 80 (f := .kit (Str.ofString "Now") (Str.ofString "Later") false) rfl)
    · exact kit_ok (fx_at cx 81 (f := .kit (Str.ofString "Now") (Str.ofString "Earlier") false) rfl)
    · exact kit_ok (fx_at cx 82 (f := .kit (Str.ofString "Shift") (Str.ofString "Now") false) rfl)
    · exact kit_ok (fx_at cx 14 (f := .kit (Str.ofString "Shift") (Str.ofString "Shift") true) rfl)
    · exact kit_ok (fx_at cx 83 (f := .kit (Str.ofString "Shift") (Str.ofString "Look") false) rfl)
    · exact kit_ok (fx_at cx 84 (f := .kit (Str.ofString "Shift") (Str.ofString "Either") false) rfl)
    · exact kit_ok (fx_at cx 85 (f := .kit (Str.ofString "Shift") (Str.ofString "Later") false) rfl)
    · exact kit_ok (fx_at cx 86 (f := .kit (Str.ofString "Shift") (Str.ofString "Earlier") false) rfl)
    · exact kit_ok (fx_at cx 87 (f := .kit (Str.ofString "Look") (Str.ofString "Now") false) rfl)
    · exact kit_ok (fx_at cx 15 (f := .kit (Str.ofString "Look") (Str.ofString "Shift") false) rfl)
    · exact kit_ok (fx_at cx 88 (f := .kit (Str.ofString "Look") (Str.ofString "Look") true) rfl)
    · exact kit_ok (fx_at cx 89 (f := .kit (Str.ofString "Look") (Str.ofString "Either") false) rfl)
    · exact kit_ok (fx_at cx 90 (f := .kit (Str.ofString "Look") (Str.ofString "Later") false) rfl)
    · exact kit_ok (fx_at cx 91 (f := .kit (Str.ofString "Look") (Str.ofString "Earlier") false) rfl)
    · exact kit_ok (fx_at cx 92 (f := .kit (Str.ofString "Either") (Str.ofString "Now") false) rfl)
    · exact kit_ok (fx_at cx 16 (f := .kit (Str.ofString "Either") (Str.ofString "Shift") false) rfl)
    · exact kit_ok (fx_at cx 93 (f := .kit (Str.ofString "Either") (Str.ofString "Look") false) rfl)
    · exact kit_ok (fx_at cx 94 (f := .kit (Str.ofString "Either") (Str.ofString "Either") true) rfl)
    · exact kit_ok (fx_at cx 95 (f := .kit (Str.ofString "Either") (Str.ofString "Later") false) rfl)
    · exact kit_ok (fx_at cx 96 (f := .kit (Str.ofString "Either") (Str.ofString "Earlier") false) rfl)
    · exact kit_ok (fx_at cx 97 (f := .kit (Str.ofString "Later") (Str.ofString "Now") false) rfl)
    · exact kit_ok (fx_at cx 17 (f := .kit (Str.ofString "Later") (Str.ofString "Shift") false) rfl)
    · exact kit_ok (fx_at cx 98 (f := .kit (Str.ofString "Later") (Str.ofString "Look") false) rfl)
    · exact kit_ok (fx_at cx 99 (f := .kit (Str.ofString "Later") (Str.ofString "Either") false) rfl)
    · exact kit_ok (fx_at cx 100 (f := .kit (Str.ofString "Later") (Str.ofString "Later") true) rfl)
    · exact kit_ok (fx_at cx 101 (f := .kit (Str.ofString "Later") (Str.ofString "Earlier") false) rfl)
    · exact kit_ok (fx_at cx 102 (f := .kit (Str.ofString "Earlier") (Str.ofString "Now") false) rfl)
    · exact kit_ok (fx_at cx 18 (f := .kit (Str.ofString "Earlier") (Str.ofString "Shift") false) rfl)
    · exact kit_ok (fx_at cx 103 (f := .kit (Str.ofString "Earlier") (Str.ofString "Look") false) rfl)
    · exact kit_ok (fx_at cx 104 (f := .kit (Str.ofString "Earlier") (Str.ofString "Either") false) rfl)
    · exact kit_ok (fx_at cx 105 (f := .kit (Str.ofString "Earlier") (Str.ofString "Later") false) rfl)
    · exact kit_ok (fx_at cx 106 (f := .kit (Str.ofString "Earlier") (Str.ofString "Earlier") true) rfl)
  have gB : ∃ t, mg "BEYOND_DIGITS" = some (.int (10 ^ 60) t) := by
    rw [show (10 : Int) ^ 60 = 1000000000000000000000000000000000000000000000000000000000000 from by decide +kernel]
    exact (He.int_ok X G (c.fact 78 (f := .int (Str.ofString "BEYOND_DIGITS") 1000000000000000000000000000000000000000000000000000000000000) rfl))
  have a_wn := ok_written_number (P := P) (w := w) (base := base) (df_of (st := s_written_number) (ps := p_written_number) (dvs := []) (He.glo_ok X G (c.fact 20 (f := .glo (Str.ofString "written_number")) rfl)) (c.def_ 20 (d := d20) rfl) (fun _ _ _ _ _ _ us hl => match us, hl with | [_], _ => rfl)) T gB
  have a_wr := ok_written (df_of (st := s_written) (ps := p_written) (dvs := []) (He.glo_ok X G (c.fact 19 (f := .glo (Str.ofString "written")) rfl)) (c.def_ 19 (d := d19) rfl) (fun _ _ _ _ _ _ us hl => match us, hl with | [_], _ => rfl)) T TT (fun k => by cases k <;> rfl) (He.free_ok X G (c.fact 72 (f := .free (Str.ofString "abs")) rfl)) kk (He.glo_ok X G (c.fact 44 (f := .glo (Str.ofString "Now")) rfl)) (He.glo_ok X G (c.fact 45 (f := .glo (Str.ofString "Shift")) rfl)) (He.glo_ok X G (c.fact 46 (f := .glo (Str.ofString "Look")) rfl)) (He.glo_ok X G (c.fact 47 (f := .glo (Str.ofString "Either")) rfl)) (He.glo_ok X G (c.fact 48 (f := .glo (Str.ofString "Later")) rfl)) ⟨_, (He.glo_ok X G (c.fact 50 (f := .glo (Str.ofString "BACKWARD")) rfl)), tup_ok (fx_at cx 144 (f := .tup (Str.ofString "BACKWARD") [(Str.ofString "at"), (Str.ofString "before")]) rfl)⟩ (He.str_ok X G (c.fact 81 (f := .str (Str.ofString "LIMITED") (Str.ofString "within ")) rfl)) a_wn
  have a_sp := ok_spelled (n := 16) (df_of (st := s_spelled) (ps := p_spelled) (dvs := []) (He.glo_ok X G (c.fact 18 (f := .glo (Str.ofString "spelled")) rfl)) (c.def_ 18 (d := d18) rfl) (fun _ _ _ _ _ _ us hl => match us, hl with | [_], _ => rfl)) (Nat.le_refl _) (by decide) a_ct (a_wr 13)
  have a_wL := ok__law_written (P := P) (w := w) (base := base) (ks := ksK) (df_of (st := s__law_written) (ps := p__law_written) (dvs := []) (He.glo_ok X G (c.fact 39 (f := .glo (Str.ofString "_law_written")) rfl)) (c.def_ 39 (d := d39) rfl) (fun _ _ _ _ _ _ us hl => match us, hl with | [_], _ => rfl)) T (He.free_ok X G (c.fact 72 (f := .free (Str.ofString "abs")) rfl))
  have n7 : [He.ga K "Now", He.ga K "Shift", He.ga K "Look", He.ga K "Either", He.ga K "Later", He.ga K "Earlier", He.ga K "Reader"].Nodup := of_decide_eq_true (fx_at cx 64 (f := .ask (fun K => decide ([He.ga K "Now", He.ga K "Shift", He.ga K "Look", He.ga K "Either", He.ga K "Later", He.ga K "Earlier", He.ga K "Reader"].Nodup))) rfl)
  have n7' := n7
  simp only [List.nodup_cons, List.mem_cons, List.not_mem_nil, or_false, not_or, List.nodup_nil, not_false_eq_true, and_true] at n7'
  obtain ⟨⟨n1, n2, n3, n4, n5, r1⟩, ⟨n6, n7, n8, n9, r2⟩, ⟨n10, n11, n12, r3⟩, ⟨n13, n14, r4⟩, ⟨n15, r5⟩, r6⟩ := n7'
  have hI : KInj (caK K) ksK := fun k k' _ _ h => by
    cases k <;> cases k' <;> first | rfl | (exact absurd h (by assumption)) | (exact absurd h.symm (by assumption))
  have hC : ∀ k, (caK K).cls k ≠ (He.ga K (Str.ofString "Reader")) := fun k => by
    cases k <;> assumption
  have c_own : ∀ C sp, OwnS (caK K) ksK C sp → CalI P w K mg base CX0 C "own_values" 1 sp := by
    rintro C sp ⟨k, hk, rfl, rfl⟩
    cases k with
    | now => exact ok_Now_own ⟨_, _, FowNow, (He.meth_ok (c.fact 159 (f := .meth (Str.ofString "Now") (Str.ofString "own_values")) rfl)), bowNow⟩ TT rfl
    | shift => exact ok_Shift_own ⟨_, _, FowShift, (He.meth_ok (c.fact 160 (f := .meth (Str.ofString "Shift") (Str.ofString "own_values")) rfl)), bowShift⟩ TT rfl
    | look => exact ok_Look_own ⟨_, _, FowLook, (He.meth_ok (c.fact 161 (f := .meth (Str.ofString "Look") (Str.ofString "own_values")) rfl)), bowLook⟩ TT rfl
    | either => exact ok_Either_own ⟨_, _, FowEither, (He.meth_ok (c.fact 162 (f := .meth (Str.ofString "Either") (Str.ofString "own_values")) rfl)), bowEither⟩ TT rfl
    | later => exact ok_Later_own ⟨_, _, FowLater, (He.meth_ok (c.fact 163 (f := .meth (Str.ofString "Later") (Str.ofString "own_values")) rfl)), bowLater⟩ TT rfl
    | earlier => exact ok_Earlier_own ⟨_, _, FowEarlier, (He.meth_ok (c.fact 164 (f := .meth (Str.ofString "Earlier") (Str.ofString "own_values")) rfl)), bowEarlier⟩ TT rfl
  have nFT : ∀ k k', ksK k = true → ksK k' = true → PySem.W.notFirst K ((caK K).cls k) (.ref ((caK K).cls k')) = true := fun k k' _ _ => by
    cases k with
    | now =>
      have h : (PySem.W.notFirst K (He.ga K "Now") (.ref (He.ga K "Now")) && PySem.W.notFirst K (He.ga K "Now") (.ref (He.ga K "Shift")) && PySem.W.notFirst K (He.ga K "Now") (.ref (He.ga K "Look")) && PySem.W.notFirst K (He.ga K "Now") (.ref (He.ga K "Either")) && PySem.W.notFirst K (He.ga K "Now") (.ref (He.ga K "Later")) && PySem.W.notFirst K (He.ga K "Now") (.ref (He.ga K "Earlier"))) = true := (fx_at cx 65 (f := .ask (fun K => PySem.W.notFirst K (He.ga K "Now") (.ref (He.ga K "Now")) && PySem.W.notFirst K (He.ga K "Now") (.ref (He.ga K "Shift")) && PySem.W.notFirst K (He.ga K "Now") (.ref (He.ga K "Look")) && PySem.W.notFirst K (He.ga K "Now") (.ref (He.ga K "Either")) && PySem.W.notFirst K (He.ga K "Now") (.ref (He.ga K "Later")) && PySem.W.notFirst K (He.ga K "Now") (.ref (He.ga K "Earlier")))) rfl)
      simp only [Bool.and_eq_true] at h
      obtain ⟨⟨⟨⟨⟨z1, z2⟩, z3⟩, z4⟩, z5⟩, z6⟩ := h
      cases k' <;> assumption
    | shift =>
      have h : (PySem.W.notFirst K (He.ga K "Shift") (.ref (He.ga K "Now")) && PySem.W.notFirst K (He.ga K "Shift") (.ref (He.ga K "Shift")) && PySem.W.notFirst K (He.ga K "Shift") (.ref (He.ga K "Look")) && PySem.W.notFirst K (He.ga K "Shift") (.ref (He.ga K "Either")) && PySem.W.notFirst K (He.ga K "Shift") (.ref (He.ga K "Later")) && PySem.W.notFirst K (He.ga K "Shift") (.ref (He.ga K "Earlier"))) = true := (fx_at cx 66 (f := .ask (fun K => PySem.W.notFirst K (He.ga K "Shift") (.ref (He.ga K "Now")) && PySem.W.notFirst K (He.ga K "Shift") (.ref (He.ga K "Shift")) && PySem.W.notFirst K (He.ga K "Shift") (.ref (He.ga K "Look")) && PySem.W.notFirst K (He.ga K "Shift") (.ref (He.ga K "Either")) && PySem.W.notFirst K (He.ga K "Shift") (.ref (He.ga K "Later")) && PySem.W.notFirst K (He.ga K "Shift") (.ref (He.ga K "Earlier")))) rfl)
      simp only [Bool.and_eq_true] at h
      obtain ⟨⟨⟨⟨⟨z1, z2⟩, z3⟩, z4⟩, z5⟩, z6⟩ := h
      cases k' <;> assumption
    | look =>
      have h : (PySem.W.notFirst K (He.ga K "Look") (.ref (He.ga K "Now")) && PySem.W.notFirst K (He.ga K "Look") (.ref (He.ga K "Shift")) && PySem.W.notFirst K (He.ga K "Look") (.ref (He.ga K "Look")) && PySem.W.notFirst K (He.ga K "Look") (.ref (He.ga K "Either")) && PySem.W.notFirst K (He.ga K "Look") (.ref (He.ga K "Later")) && PySem.W.notFirst K (He.ga K "Look") (.ref (He.ga K "Earlier"))) = true := (fx_at cx 67 (f := .ask (fun K => PySem.W.notFirst K (He.ga K "Look") (.ref (He.ga K "Now")) && PySem.W.notFirst K (He.ga K "Look") (.ref (He.ga K "Shift")) && PySem.W.notFirst K (He.ga K "Look") (.ref (He.ga K "Look")) && PySem.W.notFirst K (He.ga K "Look") (.ref (He.ga K "Either")) && PySem.W.notFirst K (He.ga K "Look") (.ref (He.ga K "Later")) && PySem.W.notFirst K (He.ga K "Look") (.ref (He.ga K "Earlier")))) rfl)
      simp only [Bool.and_eq_true] at h
      obtain ⟨⟨⟨⟨⟨z1, z2⟩, z3⟩, z4⟩, z5⟩, z6⟩ := h
      cases k' <;> assumption
    | either =>
      have h : (PySem.W.notFirst K (He.ga K "Either") (.ref (He.ga K "Now")) && PySem.W.notFirst K (He.ga K "Either") (.ref (He.ga K "Shift")) && PySem.W.notFirst K (He.ga K "Either") (.ref (He.ga K "Look")) && PySem.W.notFirst K (He.ga K "Either") (.ref (He.ga K "Either")) && PySem.W.notFirst K (He.ga K "Either") (.ref (He.ga K "Later")) && PySem.W.notFirst K (He.ga K "Either") (.ref (He.ga K "Earlier"))) = true := (fx_at cx 68 (f := .ask (fun K => PySem.W.notFirst K (He.ga K "Either") (.ref (He.ga K "Now")) && PySem.W.notFirst K (He.ga K "Either") (.ref (He.ga K "Shift")) && PySem.W.notFirst K (He.ga K "Either") (.ref (He.ga K "Look")) && PySem.W.notFirst K (He.ga K "Either") (.ref (He.ga K "Either")) && PySem.W.notFirst K (He.ga K "Either") (.ref (He.ga K "Later")) && PySem.W.notFirst K (He.ga K "Either") (.ref (He.ga K "Earlier")))) rfl)
      simp only [Bool.and_eq_true] at h
      obtain ⟨⟨⟨⟨⟨z1, z2⟩, z3⟩, z4⟩, z5⟩, z6⟩ := h
      cases k' <;> assumption
    | later =>
      have h : (PySem.W.notFirst K (He.ga K "Later") (.ref (He.ga K "Now")) && PySem.W.notFirst K (He.ga K "Later") (.ref (He.ga K "Shift")) && PySem.W.notFirst K (He.ga K "Later") (.ref (He.ga K "Look")) && PySem.W.notFirst K (He.ga K "Later") (.ref (He.ga K "Either")) && PySem.W.notFirst K (He.ga K "Later") (.ref (He.ga K "Later")) && PySem.W.notFirst K (He.ga K "Later") (.ref (He.ga K "Earlier"))) = true := (fx_at cx 69 (f := .ask (fun K => PySem.W.notFirst K (He.ga K "Later") (.ref (He.ga K "Now")) && PySem.W.notFirst K (He.ga K "Later") (.ref (He.ga K "Shift")) && PySem.W.notFirst K (He.ga K "Later") (.ref (He.ga K "Look")) && PySem.W.notFirst K (He.ga K "Later") (.ref (He.ga K "Either")) && PySem.W.notFirst K (He.ga K "Later") (.ref (He.ga K "Later")) && PySem.W.notFirst K (He.ga K "Later") (.ref (He.ga K "Earlier")))) rfl)
      simp only [Bool.and_eq_true] at h
      obtain ⟨⟨⟨⟨⟨z1, z2⟩, z3⟩, z4⟩, z5⟩, z6⟩ := h
      cases k' <;> assumption
    | earlier =>
      have h : (PySem.W.notFirst K (He.ga K "Earlier") (.ref (He.ga K "Now")) && PySem.W.notFirst K (He.ga K "Earlier") (.ref (He.ga K "Shift")) && PySem.W.notFirst K (He.ga K "Earlier") (.ref (He.ga K "Look")) && PySem.W.notFirst K (He.ga K "Earlier") (.ref (He.ga K "Either")) && PySem.W.notFirst K (He.ga K "Earlier") (.ref (He.ga K "Later")) && PySem.W.notFirst K (He.ga K "Earlier") (.ref (He.ga K "Earlier"))) = true := (fx_at cx 70 (f := .ask (fun K => PySem.W.notFirst K (He.ga K "Earlier") (.ref (He.ga K "Now")) && PySem.W.notFirst K (He.ga K "Earlier") (.ref (He.ga K "Shift")) && PySem.W.notFirst K (He.ga K "Earlier") (.ref (He.ga K "Look")) && PySem.W.notFirst K (He.ga K "Earlier") (.ref (He.ga K "Either")) && PySem.W.notFirst K (He.ga K "Earlier") (.ref (He.ga K "Later")) && PySem.W.notFirst K (He.ga K "Earlier") (.ref (He.ga K "Earlier")))) rfl)
      simp only [Bool.and_eq_true] at h
      obtain ⟨⟨⟨⟨⟨z1, z2⟩, z3⟩, z4⟩, z5⟩, z6⟩ := h
      cases k' <;> assumption
  have nE : ∀ k, ksK k = true → NeO K ((caK K).cls k) := fun k hk => by
    cases k with
    | now => exact ⟨of_decide_eq_true (He.ba (fx_at cx 71 (f := .neo (Str.ofString "Now")) rfl)).1, of_decide_eq_true (He.ba (fx_at cx 71 (f := .neo (Str.ofString "Now")) rfl)).2⟩
    | shift => exact ⟨of_decide_eq_true (He.ba (fx_at cx 72 (f := .neo (Str.ofString "Shift")) rfl)).1, of_decide_eq_true (He.ba (fx_at cx 72 (f := .neo (Str.ofString "Shift")) rfl)).2⟩
    | look => exact ⟨of_decide_eq_true (He.ba (fx_at cx 73 (f := .neo (Str.ofString "Look")) rfl)).1, of_decide_eq_true (He.ba (fx_at cx 73 (f := .neo (Str.ofString "Look")) rfl)).2⟩
    | either => exact ⟨of_decide_eq_true (He.ba (fx_at cx 74 (f := .neo (Str.ofString "Either")) rfl)).1, of_decide_eq_true (He.ba (fx_at cx 74 (f := .neo (Str.ofString "Either")) rfl)).2⟩
    | later => exact ⟨of_decide_eq_true (He.ba (fx_at cx 75 (f := .neo (Str.ofString "Later")) rfl)).1, of_decide_eq_true (He.ba (fx_at cx 75 (f := .neo (Str.ofString "Later")) rfl)).2⟩
    | earlier => exact ⟨of_decide_eq_true (He.ba (fx_at cx 76 (f := .neo (Str.ofString "Earlier")) rfl)).1, of_decide_eq_true (He.ba (fx_at cx 76 (f := .neo (Str.ofString "Earlier")) rfl)).2⟩
  have a_eqT := ok_Term_eq ⟨_, _, Feqm, M_eq, beqm⟩ T TT hI nFT c_own
  have c_eq : ∀ C t sp, EqO (caK K) ksK 12 C t sp → CalI P w K mg base CX0 C "__eq__" 27 sp ∧ PySem.W.notFirst K C t = true ∧ NeO K C := by
    rintro C t sp ⟨⟨k, hk, rfl⟩, ⟨k', hk', rfl⟩, rfl⟩
    exact ⟨(a_eqT 12 _ _ _ ⟨⟨k, hk, rfl⟩, ⟨k', hk', rfl⟩, rfl⟩).1, nFT k k' hk hk', nE k hk⟩
  have c_sub : ∀ C sp, (∃ k, ksK k = true ∧ C = (caK K).cls k) ∧ sp = spSub (caK K) ksK → CalI P w K mg base CX0 C "__sub__" 6 sp ∧ OpTx K C .Sub := by
    rintro C sp ⟨⟨k, hk, rfl⟩, rfl⟩
    exact ⟨a_sub _ _ ⟨⟨k, hk, rfl⟩, rfl⟩, O_sub k hk⟩
  have RT : RdTx K mg (He.ga K (Str.ofString "Reader")) := ⟨(He.cls_ok (c.fact 90 (f := .cls (Str.ofString "Reader")) rfl)), (He.noat_ok (c.fact 134 (f := .noat (Str.ofString "Reader") (Str.ofString "text")) rfl)), (He.noat_ok (c.fact 135 (f := .noat (Str.ofString "Reader") (Str.ofString "place")) rfl)), (He.noat_ok (c.fact 136 (f := .noat (Str.ofString "Reader") (Str.ofString "parts")) rfl)), (He.noat_ok (c.fact 137 (f := .noat (Str.ofString "Reader") (Str.ofString "looks")) rfl))⟩
  have one : ∀ {m : Str} {k : Nat} {sp0 : Sp}, CalI P w K mg base CX0 (He.ga K (Str.ofString "Reader")) m k sp0 → ∀ C sp, (C = (He.ga K (Str.ofString "Reader")) ∧ sp = sp0) → CalI P w K mg base CX0 C m k sp := fun h C sp e => by obtain ⟨rfl, rfl⟩ := e; exact h
  have a_cl0 := ok_common_length (P := P) (w := w) (base := base) (df_of (st := s_common_length) (ps := p_common_length) (dvs := []) (He.glo_ok X G (c.fact 22 (f := .glo (Str.ofString "common_length")) rfl)) (c.def_ 22 (d := d22) rfl) (fun _ _ _ _ _ _ us hl => match us, hl with | [_, _, _], _ => rfl)) T
  have a_rw0 := ok_Reader_read_word ⟨_, _, Frdread_word, (He.meth_ok (c.fact 157 (f := .meth (Str.ofString "Reader") (Str.ofString "read_word")) rfl)), brdread_word⟩ T RT.c RT.n1 RT.n2 a_cl0
  have a_ro0 := ok_Reader_read_row_of (P := P) (w := w) (base := base) ⟨_, _, Frdread_row_of, (He.meth_ok (c.fact 156 (f := .meth (Str.ofString "Reader") (Str.ofString "read_row_of")) rfl)), brdread_row_of⟩ T RT.c RT.n1 RT.n2
  have a_rn0 := ok_Reader_read_number ⟨_, _, Frdread_number, (He.meth_ok (c.fact 155 (f := .meth (Str.ofString "Reader") (Str.ofString "read_number")) rfl)), brdread_number⟩ T RT.c RT.n1 RT.n2 (He.str_ok X G (c.fact 82 (f := .str (Str.ofString "DIGITS") (Str.ofString "0123456789")) rfl)) (He.int_ok X G (c.fact 79 (f := .int (Str.ofString "MOST_DIGITS") 60) rfl)) (one a_ro0)
  have a_rt := ok_read_term (D := 12) ⟨_, _, Frdread_term, (He.meth_ok (c.fact 151 (f := .meth (Str.ofString "Reader") (Str.ofString "read_term")) rfl)), brdread_term⟩ ⟨_, _, Frdread_joined, (He.meth_ok (c.fact 152 (f := .meth (Str.ofString "Reader") (Str.ofString "read_joined")) rfl)), brdread_joined⟩ ⟨_, _, Frdread_ordered, (He.meth_ok (c.fact 153 (f := .meth (Str.ofString "Reader") (Str.ofString "read_ordered")) rfl)), brdread_ordered⟩ ⟨_, _, Frdread_look, (He.meth_ok (c.fact 154 (f := .meth (Str.ofString "Reader") (Str.ofString "read_look")) rfl)), brdread_look⟩ T TT (fun k => by cases k <;> rfl) hC RT ⟨_, (He.glo_ok X G (c.fact 51 (f := .glo (Str.ofString "JOINTS")) rfl)), tup_ok (fx_at cx 145 (f := .tup (Str.ofString "JOINTS") [(Str.ofString " + "), (Str.ofString " - "), (Str.ofString " or ")]) rfl)⟩ (He.int_ok X G (c.fact 77 (f := .int (Str.ofString "MOST_LOOKS") 12) rfl)) (He.str_ok X G (c.fact 80 (f := .str (Str.ofString "LETTERS") (Str.ofString "abcdefghijklmnopqrstuvwxyz")) rfl)) (He.int_ok X G (c.fact 73 (f := .int (Str.ofString "MOST_LETTERS") 12) rfl)) (He.str_ok X G (c.fact 81 (f := .str (Str.ofString "LIMITED") (Str.ofString "within ")) rfl)) (He.int_ok X G (c.fact 75 (f := .int (Str.ofString "MOST_DEPTH") 12) rfl)) (He.int_ok X G (c.fact 76 (f := .int (Str.ofString "MOST_PARTS") 40) rfl)) ⟨_, (He.glo_ok X G (c.fact 52 (f := .glo (Str.ofString "BEGINNINGS")) rfl)), tup_ok (fx_at cx 146 (f := .tup (Str.ofString "BEGINNINGS") [(Str.ofString "now"), (Str.ofString "("), (Str.ofString "last "), (Str.ofString "next "), (Str.ofString "later("), (Str.ofString "earlier(")]) rfl)⟩ ⟨_, (He.glo_ok X G (c.fact 53 (f := .glo (Str.ofString "WAYS_BACK")) rfl)), tup_ok (fx_at cx 147 (f := .tup (Str.ofString "WAYS_BACK") [(Str.ofString "at "), (Str.ofString "before ")]) rfl)⟩ ⟨_, (He.glo_ok X G (c.fact 54 (f := .glo (Str.ofString "WAYS_AHEAD")) rfl)), tup_ok (fx_at cx 148 (f := .tup (Str.ofString "WAYS_AHEAD") [(Str.ofString "since "), (Str.ofString "after ")]) rfl)⟩ a_rw0 a_rn0 a_ro0 c_add c_sub c_or a_later a_earlier a_Now a_Look
  have a_re := ok_Reader_read_end (P := P) (w := w) (base := base) ⟨_, _, Frdread_end, (He.meth_ok (c.fact 158 (f := .meth (Str.ofString "Reader") (Str.ofString "read_end")) rfl)), brdread_end⟩ T RT
  have a_Rd := ok_Reader_init (P := P) (w := w) (base := base) (dfi_of (st := s_Reader___init__) (ps := p_Reader___init__) (He.glo_ok X G (c.fact 55 (f := .glo (Str.ofString "Reader")) rfl)) (He.mkr_ok (c.fact 166 (f := .mkr (Str.ofString "Reader")) rfl)) (c.def_ 45 (d := d45) rfl) (fun _ _ _ _ _ _ us hl => match us, hl with | [_, _], _ => rfl)) RT
  have a_pa := ok_parse (df_of (st := s_parse) (ps := p_parse) (dvs := []) (He.glo_ok X G (c.fact 21 (f := .glo (Str.ofString "parse")) rfl)) (c.def_ 21 (d := d21) rfl) (fun _ _ _ _ _ _ us hl => match us, hl with | [_], _ => rfl)) a_Rd (one a_rt) (one a_re)
  have a_lo := ok__law_loose_text (ks := ksK) (df_of (st := s__law_loose_text) (ps := p__law_loose_text) (dvs := []) (He.glo_ok X G (c.fact 40 (f := .glo (Str.ofString "_law_loose_text")) rfl)) (c.def_ 40 (d := d40) rfl) (fun _ _ _ _ _ _ us hl => match us, hl with | [_, _, _], _ => rfl)) T (fun k => by cases k <;> rfl) a_pick
  exact ok_law T TT (fun k => by cases k <;> rfl) a_open a_pick a_num a_nms (a_trB 9) (a_term 13) a_lsh (a_wL 13) a_sp a_pa a_lo a_rows a_world (a_tl 13) a_told a_ans c_eq _ _ FL
end
end Pl
open PySem PySem.W PySem.Calls PyProof.Rows
set_option maxRecDepth 100000 in
set_option maxHeartbeats 0 in
theorem PySem.Challenge.cw_pastlooks_k26_whole_texts_read_back_holds : PySem.Challenge.rw_pastlooks_k26_whole_texts_read_back.Holds := by
  w_on; o_law
  refine HandSHeadRun.head_any (r := OpenLaw.row PySem.Challenge.rw_pastlooks_k26_whole_texts_read_back) (q := view (OpenLaw.row PySem.Challenge.rw_pastlooks_k26_whole_texts_read_back).prog [86]) (H := Pl.hk) (ob := Pl.ob) (M := 12000) (loose := Pl.names) (d := HandSHeadRun.topDef (OpenLaw.row PySem.Challenge.rw_pastlooks_k26_whole_texts_read_back).prog 86) (kwd := []) Pl.ob_eq
    (by kernel_rfl) (fun s => by kernel_rfl) Pl.run (by kernel_rfl) (by kernel_rfl) (by kernel_rfl) (by rfl) (by first | assumption | decide +kernel) (by decide +kernel) ⟨rfl, rfl, rfl, rfl, rfl, by decide +kernel⟩ ?hw ?hc
  case hw => w_witness2
  case hc =>
    refine L2.walk_ofE (l := PySem.Challenge.rw_pastlooks_k26_whole_texts_read_back) (n := 63) (k := 35) (x := Str.ofString "_law_script") (CX := L2.CX0) rfl (by decide) (by kernel_rfl) ⟨rfl, by decide, by decide⟩ ?F (fun _ _ _ _ z => z)
    intro w mg fa h Y G hmg0
    obtain ⟨K, KX, c, cx⟩ := Y
    have hmg : mg (PySem.Str.ofString "law") = some (.ref fa) := by
      have e : (HandSHeadRun.topDef (OpenLaw.row PySem.Challenge.rw_pastlooks_k26_whole_texts_read_back).prog 86).name = PySem.Str.ofString "law" := by kernel_rfl
      rw [← e]
      exact hmg0
    obtain ⟨fd, hb, hF⟩ := Pl.facts (P := (PySem.Challenge.rw_pastlooks_k26_whole_texts_read_back).prog) (w := w) KX G hmg c cx
    exact ⟨K, fd, Pl.spLaw K, KX, hb, fun H a ns hl _ hS => ⟨a, ns, rfl, hS, hl, fun _ => rfl⟩, hF⟩
#print axioms PySem.Challenge.cw_pastlooks_k26_whole_texts_read_back_holds
