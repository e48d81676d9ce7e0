import PyProof.Rows.All
import Wide.All
import OpenK.AllK
import Wide.FinOn
import HandS.ForMost
import HandS.Flow
import HandS.IsInst
import HandS.Zip
import HandS.SortInts
import HandS.Defaults
import HandS.Conv
import HandS.Strs
import HandS.MakeKwOnly
import PyProof.ReprRoads
import HandS.SetFor
import HandS.SortKw
import KE.DataMinMax
import KE.KDictPairs
import PyProof.ReprLen
import HandS.Walk
import PyProof.ReprBulk
import PySem.Challenge.RW_lesserhall_k02_what_rules_tell
set_option Elab.async false
set_option linter.all false
set_option maxRecDepth 100000
namespace Lh
open PySem PySem.Spec PyProof.Rows L2

/-! ### heaps -/
/-- all that was tracked is as it was, but for the box -/
def Ext (bx : Addr) (H H' : Hp) : Prop := ∀ a o, a ≠ bx → H a = some o → H' a = some o
theorem Ext.refl {bx : Addr} (H : Hp) : Ext bx H H := fun _ _ _ h => h
theorem Ext.trans {bx : Addr} {H H1 H2 : Hp} (a : Ext bx H H1) (b : Ext bx H1 H2) : Ext bx H H2 := fun x o n h => b x o n (a x o n h)
theorem Ext.of {bx : Addr} {H H' : Hp} (a : Same H H') : Ext bx H H' := fun x o _ h => a x o h
theorem Ext.new {bx : Addr} {H H' : Hp} {p : Addr} {o : HO} (e : Ext bx H H') (h : H p = none) : Ext bx H (upd H' p o) := fun x u n hx => by
  rw [upd_ne (ne_of_none hx h)]
  exact e x u n hx
theorem Ext.box {bx : Addr} {H H' : Hp} {o : HO} (e : Ext bx H H') : Ext bx H (upd H' bx o) := fun x u n hx => by
  rw [upd_ne n]
  exact e x u n hx
theorem Ext.free {bx : Addr} {H H' : Hp} (e : Ext bx H H') {l : Addr} (n : l ≠ bx) (h : H' l = Option.none) : H l = Option.none := by
  cases q : H l with
  | none => rfl
  | some o =>
    rw [e l o n q] at h
    cases h
theorem same_upd {H : Hp} {p : Addr} {o : HO} (h : H p = none) : Same H (upd H p o) := fun b x e => by
  rw [upd_ne (ne_of_none e h)]
  exact e
theorem same_mut {H H' : Hp} {p : Addr} {o : HO} (e : Same H H') (h : H p = none) : Same H (upd H' p o) := fun a u ha => by
  rw [upd_ne (ne_of_none ha h)]
  exact e a u ha

/-- the box: three ints, the last a count -/
def Box (bx : Addr) (c : Int) (H : Hp) : Prop := ∃ a b n : Int, H bx = some (.lst [.int a, .int b, .int n]) ∧ 0 ≤ a ∧ 0 ≤ b ∧ b < 2 ^ 62 ∧ 0 ≤ n ∧ n ≤ c
theorem Box.has {bx : Addr} {c : Int} {H : Hp} (h : Box bx c H) : ∃ o, H bx = some o := by
  obtain ⟨a, b, n, h, _⟩ := h
  exact ⟨_, h⟩
theorem Box.ne {bx : Addr} {c : Int} {H : Hp} (h : Box bx c H) {p : Addr} (n : H p = none) : p ≠ bx := by
  obtain ⟨o, h⟩ := h.has
  exact (ne_of_none h n).symm
theorem Box.neT {bx : Addr} {c : Int} {H : Hp} (h : Box bx c H) {p : Addr} {xs : List V} (n : H p = some (.tup xs)) : p ≠ bx := by
  obtain ⟨a, b, n', h, _⟩ := h
  exact ne_of n h (by intro z; cases z)
theorem Box.mono {bx : Addr} {c d : Int} {H : Hp} (h : Box bx c H) (e : c ≤ d) : Box bx d H := by
  obtain ⟨a, b, n, h, h1, h2, h3, h4, h5⟩ := h
  exact ⟨a, b, n, h, h1, h2, h3, h4, by omega⟩
theorem Box.same {bx : Addr} {c : Int} {H H' : Hp} (h : Box bx c H) (e : Same H H') : Box bx c H' := by
  obtain ⟨a, b, n, h, r⟩ := h
  exact ⟨a, b, n, e _ _ h, r⟩
theorem Box.new {bx : Addr} {c : Int} {H : Hp} (h : Box bx c H) {p : Addr} {o : HO} (n : H p = none) : Box bx c (upd H p o) := h.same (same_upd n)
theorem Box.at {bx : Addr} {c : Int} {H : Hp} (h : Box bx c H) {p : Addr} {o : HO} (n : p ≠ bx) : Box bx c (upd H p o) := by
  obtain ⟨a, b, m, h, r⟩ := h
  exact ⟨a, b, m, by rw [upd_ne n.symm]; exact h, r⟩

/-- a tuple, one whose object is known to bear no names among them -/
def TupAt (H : Hp) (a : Addr) (xs : List V) : Prop := H a = some (.tup xs) ∨ ∃ o : Obj, o.dict = none ∧ H a = some (.frz o (.tup xs))
theorem TupAt.sq {K : PySem.W.Frag} {H : Hp} {a : Addr} {xs : List V} (h : TupAt H a xs) : SqT K H a xs := by
  rcases h with h | ⟨o, _, h⟩
  · exact .inl (.inl h)
  · exact .inl (.inr ⟨o, h⟩)
theorem TupAt.ext {bx : Addr} {H H' : Hp} {a : Addr} {xs : List V} (e : Ext bx H H') (n : a ≠ bx) (h : TupAt H a xs) : TupAt H' a xs := by
  rcases h with h | ⟨o, d, h⟩
  · exact .inl (e _ _ n h)
  · exact .inr ⟨o, d, e _ _ n h⟩
theorem TupAt.ty {K : PySem.W.Frag} {H : Hp} {a : Addr} {xs : List V} (h : TupAt H a xs) : TyX K H (.ref a) (.type "tuple") := by
  rcases h with h | ⟨o, d, h⟩
  · exact .base (.tup h)
  · exact .fTuple h
/-! data in the heap, the box not among it -/
mutual
inductive Rp (bx : Addr) (H : Hp) : V → PyData → Prop
  | non : Rp bx H .non .none
  | bl (b : Bool) : Rp bx H (.bl b) (.bool b)
  | int (i : Int) : Rp bx H (.int i) (.int i)
  | str (x : Str) : Rp bx H (.str x) (.str x)
  | lst {a : Addr} {xs : List V} {ds : List PyData} : H a = some (.lst xs) → a ≠ bx → RpAll bx H xs ds → Rp bx H (.ref a) (.list ds)
  | tup {a : Addr} {xs : List V} {ds : List PyData} : TupAt H a xs → a ≠ bx → RpAll bx H xs ds → Rp bx H (.ref a) (.tuple ds)
inductive RpAll (bx : Addr) (H : Hp) : List V → List PyData → Prop
  | nil : RpAll bx H [] []
  | cons {v : V} {vs : List V} {d : PyData} {ds : List PyData} : Rp bx H v d → RpAll bx H vs ds → RpAll bx H (v :: vs) (d :: ds)
end
mutual
theorem Rp.ext {bx : Addr} {H H' : Hp} (e : Ext bx H H') : ∀ {v : V} {d : PyData}, Rp bx H v d → Rp bx H' v d
  | _, _, .non => .non
  | _, _, .bl b => .bl b
  | _, _, .int i => .int i
  | _, _, .str x => .str x
  | _, _, .lst h n r => .lst (e _ _ n h) n (RpAll.ext e r)
  | _, _, .tup h n r => .tup (h.ext e n) n (RpAll.ext e r)
theorem RpAll.ext {bx : Addr} {H H' : Hp} (e : Ext bx H H') : ∀ {vs : List V} {ds : List PyData}, RpAll bx H vs ds → RpAll bx H' vs ds
  | _, _, .nil => .nil
  | _, _, .cons h r => .cons (Rp.ext e h) (RpAll.ext e r)
end
mutual
theorem Rp.dp {bx : Addr} {K : PySem.W.Frag} {H : Hp} : ∀ {v : V} {d : PyData}, Rp bx H v d → Dp K H v d
  | _, _, .non => .non
  | _, _, .bl b => .bl b
  | _, _, .int i => .int i
  | _, _, .str x => .str x
  | _, _, .lst h n r => .lst (.inl (.inl h)) (RpAll.dp r)
  | _, _, .tup h n r => .tup h.sq (RpAll.dp r)
theorem RpAll.dp {bx : Addr} {K : PySem.W.Frag} {H : Hp} : ∀ {vs : List V} {ds : List PyData}, RpAll bx H vs ds → DpAll K H vs ds
  | _, _, .nil => .nil
  | _, _, .cons h r => .cons (Rp.dp h) (RpAll.dp r)
end
theorem RpAll.length {bx : Addr} {H : Hp} : ∀ {vs : List V} {ds : List PyData}, RpAll bx H vs ds → vs.length = ds.length
  | _, _, .nil => rfl
  | _, _, .cons _ r => by rw [List.length_cons, List.length_cons, r.length]
theorem RpAll.get {bx : Addr} {H : Hp} : ∀ {vs : List V} {ds : List PyData} {i : Nat} {d : PyData}, RpAll bx H vs ds → ds[i]? = some d → ∃ v, vs[i]? = some v ∧ Rp bx H v d
  | _, _, _, _, .nil, e => by simp at e
  | _, _, 0, _, .cons r _, e => by simp at e; subst e; exact ⟨_, rfl, r⟩
  | _, _, i + 1, d, .cons _ t, e => by
    obtain ⟨u, h1, h2⟩ := RpAll.get (i := i) (d := d) t (by simpa using e)
    exact ⟨u, by simpa using h1, h2⟩
theorem RpAll.append {bx : Addr} {H : Hp} : ∀ {vs ws : List V} {ds es : List PyData}, RpAll bx H vs ds → RpAll bx H ws es → RpAll bx H (vs ++ ws) (ds ++ es)
  | _, _, _, _, .nil, s => s
  | _, _, _, _, .cons r t, s => .cons r (RpAll.append t s)
theorem RpAll.ints {bx : Addr} {H : Hp} : ∀ (ns : List Int), RpAll bx H (ns.map V.int) (ns.map PyData.int)
  | [] => .nil
  | n :: r => .cons (.int n) (RpAll.ints r)
theorem RpAll.ofInts {bx : Addr} {H : Hp} : ∀ {ns : List Int} {vs : List V}, RpAll bx H vs (ns.map PyData.int) → vs = ns.map V.int
  | [], _, .nil => rfl
  | n :: r, _, .cons (.int _) t => by rw [RpAll.ofInts t]; rfl
end Lh

namespace Lh
open PySem PySem.Spec PyProof.Rows L2

/-! ### defs that want to know that no repr is under way around them -/
structure FnG (P : Program) (w : World) (K : PySem.W.Frag) (mg : Str → Option Value) (base : Heap) (k : Nat) (f : Addr) (fd : FuncData) (ps : List Str) (sp : Sp) : Prop where
  len : ∀ vs H Q E, sp vs H Q E → vs.length = ps.length
  run : ∀ (B : Around) (out : List Env) (t : Shared) (H : Hp) (args : Args) (us : List Value) (vs : List V) (Q : VK) (E : XK), Room k B → B.guards = some [] →
    Env0 P w K mg base B out t H → BindsTo t fd args (ps.zip us) → Vals vs us → sp vs H Q E → codeAny (model P w) B (.call (.ref f) args) (CR CX0 out P w H t Q E) t
section
variable {P : Program} {w : World} {K : PySem.W.Frag} {mg : Str → Option Value} {base : Heap}
theorem okG {x qual : Str} {st : Stmt} {f : Addr} {fd : FuncData} {N ps : List Str} {k : Nat} {sp : Sp} (F : Fun K x qual st f fd) (S : FnScope N ps (defScope st)) (len : ∀ vs H Q E, sp vs H Q E → vs.length = ps.length)
    (body : ∀ (cd : Value) (B : Around) (out : List Env) (t : Shared) (H : Hp) (vs : List V) (Q : VK) (E : XK), Room k (B.deeper (envOfC qual (defScope st) t.heap.objs.size f cd)) →
      (B.deeper (envOfC qual (defScope st) t.heap.objs.size f cd)).guards = some [] → sp vs H Q E →
      ∃ r, PSs (cxOf CX0 P w K mg base N qual (defScope st) f cd B out t H E).nox (defBody st) r ∧ r { nx := fun _ H' => Q .non H', rt := Q } (start N vs) H) : FnG P w K mg base (k + 1) f fd ps sp := by
  obtain ⟨oc, od, kV, doc, pm, an, cd, ct, osl, rfl, lk, hcd⟩ := F.ex
  refine ⟨len, fun B out t H args us vs Q E hr hG e0 hb r hsp => ?_⟩
  have hl := len _ _ _ _ hsp
  have kx : K.In t.heap := e0.mod.kin.keeps fun b o e => (e0.bs b o e).1
  have li : t.heap.NoLimit := e0.mod.nolimit.keeps fun b o e => (e0.bs b o e).1
  have kind : ∀ y ∈ ps.zip us, (defScope st).names.lookup y.1 = some .local ∨ ((defScope st).names.lookup y.1 = some .cell ∧ ((cellsFrom (t.heap.objs.size + 1) (defScope st).names []).lookup y.1).isSome = true) := by
    rintro ⟨n, v⟩ hy
    rcases S.par n (List.of_mem_zip hy).1 with q | q
    · exact .inl q
    · exact .inr ⟨q, PySem.W.cellsFrom_some _ _ _ (.inl q)⟩
  refine codeAny_call_function hr.depth (kx _ _ lk) rfl S.co S.gen rfl (PySem.W.codeRec_of kx hcd) (hb _ _ _ _ ?_)
  refine wpAny_newFunctionEnv_cells S.kind kind fun env he t1 x => ?_
  subst he
  refine ⟨li.keeps x.toInCall.keep, codeAny_func ?_⟩
  obtain ⟨rd, h0, hq⟩ := body cd B out t H vs Q E (hr.deeper _) hG hsp
  have hrd := h0.nox
  have I : Inv (cxOf CX0 P w K mg base N qual (defScope st) f cd B out t H E) [] (start N vs) H t1 := inv_start S hr.hd e0 hl r x
  refine wpAny_mono (hrd.run [] t1 (start N vs) H _ I hq) (fun fl t' hs => ?_) fun e t' hs => hs
  have fin : ∀ {σ' : L2.St} {H' : Hp} {v : V} {u : Value}, Inv (cxOf CX0 P w K mg base N qual (defScope st) f cd B out t H E) [] σ' H' t' → RelV v u → Q v H' → CE out P w H t Q u t' := by
    intro σ' H' v u J rv q
    exact ⟨v, H', J.os, J.bare, J.base, J.hok, rv, q⟩
  cases fl with
  | ret u =>
    obtain ⟨v, σ', H', J, rv, q⟩ := hs
    exact fin J rv q
  | next =>
    obtain ⟨σ', H', J, q⟩ := hs
    exact fin (v := V.non) (u := Value.none) J rfl q
  | brk => obtain ⟨_, _, _, q⟩ := hs; exact False.elim q
  | cont => obtain ⟨_, _, _, q⟩ := hs; exact False.elim q
end
section
variable {X : Cx} {k n : Nat} {f : Addr} {fd : FuncData} {ps ks : List Str} {sp : Sp} {x : Str} {p pos : Pos} {e : Expr} {es : List Expr} {kws : List Keyword} {t tk : TA} {g : List Value → List Value → List Value} {gV : List V → List V → List V}
theorem pe_callG (F : FnG X.prog X.w X.K X.mg X.base k f fd ps sp) (hr : Room k X.A) (hG : X.A.guards = some []) (hg : Gl X x) (hm : X.mg x = some (.ref f)) (hk : PySem.W.keepIn X.K (.ref f) = true) (hb : Binds X.K fd ps [])
    (ha : PA X (e :: es) t) (hdb : (x == ("__debug__" : Str)) = false := by decide) (he : starEach (e :: es) X.env = (false, eval e X.env) :: starEach es X.env := by rfl) (hpl : (backTo pos (starEach es X.env)).any (·.1) = false := by rfl) :
    PE X (.Call (.Name x p) (e :: es) [] pos) (tCall sp [] E0 t) := by
  refine ⟨fun pins s σ H Q I h => ?_⟩
  refine wpAny_Call_Name_kw (ld_glob I hg hm ?_ hdb)
  refine PySem.W.callWith_K (h₀ := X.base) I.ok.mod.kin hk (thn (ha.run pos pins s σ H _ I h) fun us s1 ⟨vs, H1, I1, r, q⟩ => ⟨I1.kIn, ?_⟩) he hpl
  have r2 : Vals (vs ++ []) (us ++ []) := r.append .nil
  have hl : (us ++ []).length = ps.length := by rw [← r2.length]; exact F.len _ _ _ _ q
  refine wpAny_call (codeAny_mono (F.run X.A X.stack s1 H1 ⟨us, []⟩ (us ++ []) (vs ++ []) Q E0 hr hG I1.env0 (hb s1 us I1.kIn hl) r2 q) fun r s' hq => ?_)
  cases r with
  | error e => exact False.elim hq
  | ok fl =>
    cases fl with
    | ret u => exact I1.after hq
    | next => exact False.elim hq
    | brk => exact False.elim hq
    | cont => exact False.elim hq
/-- f(k = v, ..): keywords alone -/
theorem pe_callN0 (F : FnOk X.prog X.w X.K X.mg X.base CX0 k f fd ps sp) (hr : Room k X.A) (hg : Gl X x) (hm : X.mg x = some (.ref f)) (hk : PySem.W.keepIn X.K (.ref f) = true) (hb : KBn X.K fd ps 0 ks g gV)
    (hkw : PK X kws tk) (hall : (backToKw pos (keywordEach kws X.env)).all (·.1.isSome) = true := by rfl) (hks : (backToKw pos (keywordEach kws X.env)).filterMap (·.1) = ks := by rfl)
    (hdb : (x == ("__debug__" : Str)) = false := by decide)
    (hpl : ((backTo pos (starEach [] X.env)).any (·.1) || (backToKw pos (keywordEach kws X.env)).any (·.1.isNone)) = false := by rfl) :
    PE X (.Call (.Name x p) [] kws pos) (tCallN 0 ks.length sp gV E0 tNil tk) := by
  refine ⟨fun pins s σ H Q I h => ?_⟩
  refine wpAny_Call_Name_kw (ld_glob I hg hm ?_ hdb)
  refine PySem.W.callWith_KW0 (h₀ := X.base) I.ok.mod.kin hk hall ?_ hpl
  refine thn (hkw.run pos pins s σ H _ I h) fun ws s2 ⟨zs, H2, I2, rz, l1, l2, q2⟩ => ⟨I2.kIn, ?_⟩
  rw [hks]
  exact run_fnN (us := []) (vs := []) F hr hb pass0 I2 .nil rz rfl l2 q2
end
/-- values put in another order -/
def permV {α : Type} (js : List Nat) (xs : List α) : List α := js.filterMap fun j => xs[j]?
theorem permV_rel (js : List Nat) : ∀ {vs : List V} {us : List Value}, Vals vs us → Vals (permV js vs) (permV js us) := by
  intro vs us r
  induction js with
  | nil => exact .nil
  | cons j js ih =>
    unfold permV
    rw [List.filterMap_cons, List.filterMap_cons]
    cases e : vs[j]? with
    | none =>
      rw [r.none_of e]
      exact ih
    | some v =>
      obtain ⟨u, e1, e2⟩ := r.get e
      rw [e1]
      exact .cons e2 ih

/-! ### the law's call -/
theorem law_callG {P : Program} {w : World} {K : PySem.W.Frag} {mg mb : Str → Option Value} {k : Nat} {fa a : Addr} {fd : FuncData} {x : Str} {sp : Sp} {t : Shared} {vs : List Value} {ns : List Int}
    (kx : K.In t.heap) (hns : t.heap.Ns mainGlobals mg) (hb : t.heap.Ns builtinsNs mb) (hbb : ∀ x : Str, x ≠ "__name__" → mb x = bootBuiltins x) (li : t.heap.NoLimit) (hg : t.gens = #[])
    (ha : t.heap.get? a = some { cls := .type "list", data := .seq vs.toArray }) (hi : IntsAre vs ns) (hl : ns.length ≤ sizeLine) (hr : Room k callerA)
    (F : ∀ base : Heap, K.In base → base.Ns mainGlobals mg → FnG P w K mg base k fa fd [x] sp) (bd : ∀ (s : Shared) (u : Value), BindsTo s fd ⟨[u], []⟩ [(x, u)])
    (hsp : ∀ H : Hp, Only H → SqL K H a (ns.map V.int) → sp [.ref a] H (fun v _ => v = .bl true) fun _ _ _ => False) :
    codeAny (model P w) callerA (.call (.ref fa) ⟨[.ref a], []⟩) (fun r t' => r = .ok (.ret (.bool true)) ∧ OldK t.heap t'.heap ∧ t'.os = t.os ∧ AllBare t'.gens) t := by
  have rv := vals_ints hi
  have lenV := hi.length
  have core : ∀ H : Hp, Only H → SqL K H a (ns.map V.int) → HOk P w H t.heap → (∀ b, H b ≠ none → b = a) → (H a ≠ none → K.lookup a = none) →
      codeAny (model P w) callerA (.call (.ref fa) ⟨[.ref a], []⟩) (fun r t' => r = .ok (.ret (.bool true)) ∧ OldK t.heap t'.heap ∧ t'.os = t.os ∧ AllBare t'.gens) t := by
    intro H hO hS ok hA hK
    have bo : ∀ {b : Addr} {o : Obj}, t.heap.get? b = some o → H b = none → (hidT t.heap H).get? b = some o := fun e n => hidT_get e n
    have nd : ∀ {b : Addr} {o : Obj} {es : Array DictEntry} {ep : Nat}, t.heap.get? b = some o → o.data = .dict es ep → H b = none := by
      intro b o es ep e d
      cases q : H b with
      | none => rfl
      | some u =>
        have e' : b = a := hA b (by rw [q]; simp)
        subst e'
        rw [ha] at e; cases e
        have d2 : Data.seq vs.toArray _ = Data.dict es ep := d
        cases d2
    have nk : ∀ {b : Addr} {m : Str → Option Value}, t.heap.Ns b m → (hidT t.heap H).Ns b m := by
      rintro b m ⟨o, es, ep, e, d, r⟩
      exact ⟨o, es, ep, bo e (nd e d), d, r⟩
    have kb : K.In (hidT t.heap H) := by
      intro b o e
      refine bo (kx b o e) ?_
      cases q : H b with
      | none => rfl
      | some u =>
        have e' : b = a := hA b (by rw [q]; simp)
        subst e'
        rw [hK (by rw [q]; simp)] at e; cases e
    have hM : Mod K mg (hidT t.heap H) := by
      obtain ⟨mc, h1, h2⟩ := li
      exact ⟨kb, nk hns, ⟨mb, nk hb, hbb⟩, ⟨mc, nk h1, h2⟩⟩
    have e0 : Env0 P w K mg (hidT t.heap H) callerA [] t H := by
      refine ⟨rfl, hM, fun b o e => of_hidT e, Nat.le_of_eq (hidT_size _ _), trivial, ?_, ok, .of_eq hg⟩
      intro b hb
      exact absurd (show b ∈ ([] : List Addr) from hb) (by simp)
    refine codeAny_mono ((F _ kb (nk hns)).run callerA [] t H ⟨[.ref a], []⟩ [.ref a] [.ref a] _ _ hr rfl e0 (bd t (.ref a)) (.cons rfl .nil) (hsp H hO hS)) ?_
    intro r t' h
    cases r with
    | error e => exact False.elim h
    | ok fl =>
      cases fl with
      | next => exact False.elim h
      | brk => exact False.elim h
      | cont => exact False.elim h
      | ret u =>
        obtain ⟨v, H', os, bare, un, ok', r', q⟩ := h
        have q2 : v = .bl true := q
        subst q2
        obtain rfl : u = Value.bool true := r'
        refine ⟨rfl, OldK.of_keep fun b o e => ?_, os, bare⟩
        cases q : H b with
        | none =>
          refine un.keep b o e q ?_ (by simp)
          intro z
          exact absurd (show b ∈ ([] : List Addr) from z) (by simp)
        | some u =>
          rcases hO b with z | ⟨ob, xs, z⟩
          · rw [q] at z; cases z
          · have z2 := un.frzs b ob _ z
            obtain ⟨e1, _⟩ := ok b _ z
            obtain ⟨e2, _⟩ := ok' b _ z2
            rw [e] at e1; cases e1
            exact e2
  cases hk : K.lookup a with
  | some o =>
    have e := kx a o hk
    rw [ha] at e
    cases e
    refine core (fun _ => none) (fun _ => .inl rfl) (.inr ⟨_, vs.toArray, _, hk, rfl, rfl, rfl, by rw [List.size_toArray, lenV]; exact hl, by simpa using rv⟩) ?_ (fun b z => absurd rfl z) fun z => absurd rfl z
    intro b u z
    have z2 : (none : Option HO) = some u := z
    cases z2
  | none =>
    refine core (fun b => if b = a then some (.frz { cls := .type "list", data := .seq vs.toArray } (.lst (ns.map V.int))) else none) (fun b => ?_) (.inl (.inr ⟨_, if_pos rfl⟩)) (fun b u z => ?_) (fun b z => ?_) fun _ => hk
    · by_cases hb : b = a
      · exact .inr ⟨_, _, if_pos hb⟩
      · exact .inl (if_neg hb)
    · by_cases hb : b = a
      · have z2 := (if_pos hb).symm.trans z
        cases z2
        subst hb
        exact ⟨ha, by rw [List.length_map]; exact hl, vs, _, rv, ha⟩
      · have z2 := (if_neg hb).symm.trans z
        cases z2
    · by_cases hb : b = a
      · exact hb
      · exact absurd (if_neg hb) z
theorem walk_G {l : PySem.W.OpenLaw} {n k : Nat} {q : Program} {loose : List Str} {XP : (Str → Option Value) → Heap → Prop} {YP : World → Heap → Prop} {d : DefRec} {K : Params → PySem.W.Frag} {sp : World → Sp} {x : Str}
    (hn : l.most = some n) (hn2 : n ≤ sizeLine) (hdf : d.params.defaults = []) (hr : Room k callerA)
    (hY : ∀ (w : World) (h : Heap), YP w h → (K w.params).In h)
    (F : ∀ (w : World) (mg : Str → Option Value) (fa : Addr) (h : Heap), (K w.params).In h → h.Ns mainGlobals mg → mg d.name = some (.ref fa) →
      ∃ fd : FuncData, (∀ (s : Shared) (u : Value), BindsTo s fd ⟨[u], []⟩ [(x, u)]) ∧
        ∀ base : Heap, (K w.params).In base → base.Ns mainGlobals mg → FnG l.prog w (K w.params) mg base k fa fd [x] (sp w))
    (hsp : ∀ (w : World) (H : Hp) (a : Addr) (ns : List Int), ns.length ≤ n → Only H → SqL (K w.params) H a (ns.map V.int) → sp w [.ref a] H (fun v _ => v = .bl true) fun _ _ _ => False) :
    PySem.W.WalkO q loose XP YP l.row.toRowW d [] (fun f vs => PySem.call f vs) := by
  refine Att.attach_call hn hdf ?_
  intro w s₀ t mg mb fa o pm cd doc a vs ns G Y ho hd hcd hmg hobj hints hlen hg
  obtain ⟨fd, hb, hF⟩ := F w mg fa _ (hY w _ Y) G.T.g hmg
  exact law_callG (hY w _ Y) G.T.g G.T.b G.T.builtins G.T.nolimit hg hobj hints (Nat.le_trans hlen hn2) hr hF hb (fun H hO hS => hsp w H a ns hlen hO hS)
end Lh

namespace Lh
open PySem PySem.Spec PyProof.Rows L2
/-! ### set(numbers), numbers a list -/
/-- a set as it is first laid -/
abbrev bareSet (w : World) : Obj := { cls := .type "set", dict := none, data := .set #[] 0 (.fresh 0 0 (!w.params.followText "set-order")) }
/-- the set at the heap's end holds just ns, all else is kept -/
def Filled (w : World) (s t : Shared) (ns : List Int) : Prop := ∃ (g : Heap) (tk c : Nat), t = { s with heap := g, toks := tk } ∧ SetR w g s.heap.objs.size (fun j => decide (j ∈ ns)) c ∧ c ≤ ns.length ∧ ∀ b o, s.heap.get? b = some o → g.get? b = some o
theorem ints_at : ∀ {us : List Value} {ns : List Int}, IntsAre us ns → us.length = ns.length ∧ ∀ (i : Nat) (v : Value), us[i]? = some v → ∃ k t, ns[i]? = some k ∧ v = .int k t
  | _, _, .nil => ⟨rfl, fun i v e => absurd e (by simp)⟩
  | _, _, .cons n t r => by
    obtain ⟨h1, h2⟩ := ints_at r
    refine ⟨congrArg (· + 1) h1, fun i v e => ?_⟩
    cases i with
    | zero => exact ⟨n, t, rfl, (Option.some.inj e).symm⟩
    | succ i => exact h2 i v e
section
variable {P : Program} {w : World} {A : Around} {E : Value → Shared → Prop} {s : Shared} {l : Addr} {items : Array Value} {ns : List Int}
set_option maxHeartbeats 3200000 in
theorem set_init (hh : A.handled = none) (hl : s.heap.IsList l items) (hi : IntsAre items.toList ns) (hb : ns.length + 1 < scanBound) :
    codeAny (model P w) A (.call (.builtin "set.__init__") ⟨[.ref s.heap.objs.size, .ref l], []⟩) (wants (fun r t => r = .none ∧ Filled w s t ns) E) { s with heap := s.heap.push (bareSet w) } := by
  obtain ⟨hsz, hat⟩ := ints_at hi
  rw [Array.length_toList] at hsz
  have top : (s.heap.push (bareSet w)).get? s.heap.objs.size = some (bareSet w) := Heap.get?_push_size _ rfl
  refine codeAny_call_builtin F.called_set.init.plain F.entry_set_init (check_set_init_1 ⟨_, top, rfl⟩ ?_)
  have hl0 := hl
  obtain ⟨⟨k, dc, da, sl⟩, ho, ek, n, ed⟩ := hl
  dsimp only at ek ed
  subst ek ed
  have lt := Heap.lt_size ho
  have ho2 : (s.heap.push (bareSet w)).get? l = _ := Heap.get?_push_of_some _ ho
  have f1 := F.sub_list_set
  have f2 := F.sub_list_frozenset
  have f3 : (Value.type "list" == Value.type "dict") = false := by decide
  unfold Builtin.«set.__init__»
  unfold noKeywords
  unfold Builtin.Frozenset.updateFrom
  generalize ei : pyIter = it
  wp_walk
  subst ei
  have sz : (s.heap.push (bareSet w)).objs.size = s.heap.objs.size + 1 := Heap.size_push ..
  refine wpAny_pyIter_list (hl0.push _) (wpAny_bind (wpAny_runValue ?_))
  have wk := fun (B : Around) (hB : B.handled = none) => (Walks.list (prog := P) (w := w) (A := B) hB (s.heap.push (bareSet w)).objs.size l (by rw [sz]; exact Nat.ne_of_lt (Nat.lt_succ_of_lt lt)) items).toS
  refine set_update_ints (wk _ (by simp [hh])) s.heap.objs.size (by rw [sz]; exact fun z => (List.mem_cons.mp z).elim (Nat.ne_of_lt (Nat.lt_succ_self _)) fun z => Nat.ne_of_gt lt (List.mem_singleton.mp z)) ns hsz hb (fun i v e => hat i v (by rw [Array.getElem?_toList]; exact e)) items.size 0 _ (by omega) (Nat.zero_le _) ⟨⟨_, Heap.get?_push_size _ rfl, rfl, rfl⟩, (hl0.push _).push _⟩ ⟨0, Nat.le_refl 0, setR_new_at (Heap.get?_push_of_some _ top)⟩ ?_
  rintro ⟨g, g2, d2, tk, o2⟩ c mv hc R
  cases (show g2 = s.gens from mv.gens)
  cases (show d2 = s.drawn from mv.drawn)
  cases (show o2 = s.os from mv.os)
  refine wpAny_pure (show wpAny _ _ (ret Value.none) _ _ _ from wpAny_pure ⟨rfl, g, tk, c, rfl, R, by omega, fun b o e => ?_⟩)
  have lb := Heap.lt_size e
  exact mv.heap b o (by rw [sz]; exact fun z => (List.mem_cons.mp z).elim (Nat.ne_of_lt lb) fun z => Nat.ne_of_lt (Nat.lt_succ_of_lt lb) (List.mem_singleton.mp z)) (Heap.get?_push_of_some _ (Heap.get?_push_of_some _ e))
set_option maxHeartbeats 3200000 in
theorem set_of_list (ns : List Int) {Q : Value → Shared → Prop} (hh : A.handled = none) (hl : s.heap.IsList l items) (hi : IntsAre items.toList ns) (hb : ns.length + 1 < scanBound) (q : ∀ t, Filled w s t ns → Q (.ref s.heap.objs.size) t) :
    wpAny (model P w) A (call (.type "set") [.ref l]) Q E s := by
  have c1 := F.called_set.made
  have c2 := F.called_set.sub
  have c3 := F.called_set.notType
  have c4 := F.called_set.canCreate
  have c5 := F.typeCall_set_1 (.ref l)
  have c6 := F.called_set.init.lookup
  have c7 := F.called_set.init.bind (.ref s.heap.objs.size)
  obtain ⟨m1, m2, c8⟩ := F.called_set.mro
  refine wpAny_call (codeAny_of_tree (show wpAny _ _ (callAny (.type "set") _) _ _ _ from wpAny_pure ⟨Code.quiet_builtin _ (by decide +kernel), codeAny_builtin F.entry_type_call ?_⟩))
  rw [Around.under_plain (weight_type_call_type "set" [.ref l] []) rfl]
  repeat any_goals first | assumption | wp_step
  refine codeAny_mono (code_set_led1 (.ref l) (E := E) (Q₁ := fun x t => x = .ref s.heap.objs.size ∧ t = { s with heap := s.heap.push (bareSet w) }) ⟨rfl, rfl⟩) ?_
  rintro (e | fl) t ht
  · exact ht
  cases fl with
  | next => exact ht.elim
  | brk => exact ht.elim
  | cont => exact ht.elim
  | ret x =>
    obtain ⟨rfl, rfl⟩ := ht
    have ty : Shared.TypeIs { s with heap := s.heap.push (bareSet w) } (.ref s.heap.objs.size) "set" := ⟨_, Heap.get?_push_size _ rfl, rfl⟩
    repeat any_goals first | assumption | wp_step
    refine codeAny_mono (set_init (E := E) (by simp [hh]) hl hi hb) ?_
    rintro (e | fl) t2 ht2
    · exact ht2
    cases fl with
    | next => exact ht2.elim
    | brk => exact ht2.elim
    | cont => exact ht2.elim
    | ret y =>
      obtain ⟨rfl, f⟩ := ht2
      repeat any_goals first | assumption | wp_step
      exact q _ f
end
end Lh

namespace Lh
open PySem PySem.Spec PyProof.Rows L2
section
variable {X : Cx}
/-- repr of data -/
def rRepr (K : PySem.W.Frag) : List V → Hp → VK → Prop := fun xs H Q => ∃ (a : Addr) (d : PyData), xs = [.ref a] ∧ Dp K H (.ref a) d ∧ d.showable = true ∧ d.hasDict = false ∧ d.depth ≤ 60 ∧ d.shown.length ≤ sizeLine ∧ Q (.str d.shown) H
theorem call_reprD (hG : X.A.guards = some []) (hu : X.A.units + 64 < cLine) : CallR X (.builtin "repr") (rRepr X.K) := by
  intro pins s σ H xs us Q I r h
  obtain ⟨a, d, rfl, hd, h1, h2, h3, h4, q⟩ := h
  have e := Vals.ref1 r
  subst e
  obtain ⟨as, rd⟩ := Dp.reads I d (.ref a) (.ref a) hd rfl
  exact repr_of_reads' rd h1 (fun z => by rw [h2] at z; cases z) hG (by omega) (fun b o e => e) (fun h' u tk hk => ⟨.str d.shown, H, I.kept hk, ⟨u, rfl⟩, q⟩) h4
/-- max(numbers, default=d) of a list of ints -/
def rMaxD (K : PySem.W.Frag) : List V → List V → Hp → VK → Prop := fun xs zs H Q => ∃ (a : Addr) (ns : List Int) (d : Int), xs = [.ref a] ∧ zs = [.int d] ∧ SqL K H a (ns.map V.int) ∧
  ∀ m, (ns = [] → m = d) → (ns ≠ [] → m ∈ ns ∧ ∀ y ∈ ns, y ≤ m) → Q (.int m) H
theorem foldl_max (ns : List Int) : ∀ n : Int, (ns.foldl max n = n ∨ ns.foldl max n ∈ ns) ∧ n ≤ ns.foldl max n ∧ ∀ y ∈ ns, y ≤ ns.foldl max n := by
  induction ns with
  | nil => intro n; exact ⟨.inl rfl, Int.le_refl _, fun y h => absurd h (by simp)⟩
  | cons m r ih =>
    intro n
    obtain ⟨h1, h2, h3⟩ := ih (max n m)
    rw [List.foldl_cons]
    refine ⟨?_, by omega, fun y hy => ?_⟩
    · rcases h1 with h1 | h1
      · by_cases c : n ≤ m
        · right; rw [h1]; rw [Int.max_eq_right c]; exact List.mem_cons_self
        · left; rw [h1]; omega
      · right; exact List.mem_cons_of_mem _ h1
    · rcases List.mem_cons.mp hy with rfl | hy
      · omega
      · exact h3 y hy
theorem cr_maxD (hc : X.calm = true) (hu : X.A.units + 64 < cLine) : CallRK X (.builtin "max") [Str.ofString "default"] (rMaxD X.K) := by
  intro pins s σ H xs zs us ws Q I r rz h
  obtain ⟨a, ns, d, rfl, rfl, hs, q⟩ := h
  obtain ⟨its, rv, hl, _⟩ := I.list hs
  rw [Vals.ref1 r]
  cases rz with
  | cons rd rt =>
    cases rt
    obtain ⟨td, rfl⟩ := rd
    obtain ⟨as, ra⟩ := Dp.readsAll I (ns.map PyData.int) _ its (RpAll.dp (bx := 0) (RpAll.ints ns)) rv
    have dpt : ∀ l : List Int, PyData.depthAll (l.map PyData.int) = 0 := fun l => by
      induction l with
      | nil => rfl
      | cons x r ih => rw [List.map_cons]; show max 0 (PyData.depthAll (r.map PyData.int)) = 0; rw [ih]; rfl
    refine PySem.W.max_list_default (I.ok.hd hc) hl.isList (vs := its.toArray) (xs := ns.map PyData.int) (by simpa using ra) ⟨fun x hx y hy => ?_, fun x hx => ?_⟩ (by rw [dpt]; omega) (fun e h' tk hk => ?_) (fun y ys i v h' tk bs e hv rd hk => ?_)
    · obtain ⟨i, _, rfl⟩ := List.mem_map.mp hx
      obtain ⟨j, _, rfl⟩ := List.mem_map.mp hy
      rfl
    · obtain ⟨i, _, rfl⟩ := List.mem_map.mp hx
      intro z; cases z
    · have e0 : ns = [] := List.map_eq_nil_iff.mp e
      exact ⟨.int d, H, I.kept hk, ⟨_, rfl⟩, q d (fun _ => rfl) (fun z => absurd e0 z)⟩
    · cases ns with
      | nil => cases e
      | cons n r =>
        rw [List.map_cons] at e
        cases e
        rw [PySem.W.maxD_ints] at rd
        cases rd
        obtain ⟨h1, h2, h3⟩ := foldl_max r n
        refine ⟨.int (r.foldl max n), H, I.kept hk, ⟨_, rfl⟩, q _ (fun z => by cases z) (fun _ => ⟨?_, fun y hy => ?_⟩)⟩
        · rcases h1 with h1 | h1
          · rw [h1]; exact List.mem_cons_self
          · exact List.mem_cons_of_mem _ h1
        · rcases List.mem_cons.mp hy with rfl | hy
          · exact h2
          · exact h3 y hy
/-- set(numbers) of a list of ints -/
def rSetL (K : PySem.W.Frag) (w : World) : List V → Hp → VK → Prop := fun xs H Q => ∃ (a : Addr) (ns : List Int), xs = [.ref a] ∧ SqL K H a (ns.map V.int) ∧ ns.length ≤ 1000 ∧
  ∀ (p : Addr) (c : Nat) (ks : List Int), H p = none → ks.Nodup → ks.length = c → c ≤ ns.length → (∀ k, k ∈ ks ↔ k ∈ ns) → Q (.ref p) (upd H p (SetO w p (fun j => decide (j ∈ ns)) c))
theorem cr_setL (hc : X.calm = true) : CallR X (.type "set") (rSetL X.K X.w) := by
  intro pins s σ H xs us Q I r h
  obtain ⟨a, ns, rfl, hs, hl, q⟩ := h
  obtain ⟨its, rv, pl, _⟩ := I.list hs
  rw [Vals.ref1 r]
  refine set_of_list ns (I.ok.hd hc) pl.isList (by simpa using RZ.intsAre_vals rv) (by unfold scanBound; omega) ?_
  rintro t ⟨h', tk, c, rfl, R, hle, hk⟩
  have R' := R
  obtain ⟨o, es, ep, t, ho, _, _, _, nd, hm, _, _, hn, _⟩ := R'
  refine ⟨.ref s.heap.objs.size, upd H s.heap.objs.size (SetO X.w s.heap.objs.size (fun j => decide (j ∈ ns)) c), I.laid (t' := tk) hk (Nat.le_refl _) (setO_new R), rfl, ?_⟩
  refine q _ c (es.toList.map keyOf) (I.hok.fresh (Nat.le_refl _)) nd (by rw [List.length_map, Array.length_toList]; exact hn) hle fun k => ?_
  rw [← hm k]
  exact decide_eq_true_iff
/-- len of such a set -/
def rLenSet (w : World) : List V → Hp → VK → Prop := fun xs H Q => ∃ (a : Addr) (S : Int → Bool) (c : Nat), xs = [.ref a] ∧ H a = some (SetO w a S c) ∧ c ≤ 1000 ∧ Q (.int (c : Int)) H
theorem cr_lenSet : CallR X (.builtin "len") (rLenSet X.w) := by
  intro pins s σ H xs us Q I r h
  obtain ⟨a, S, c, rfl, ha, hl, q⟩ := h
  rw [Vals.ref1 r]
  obtain ⟨o, es, ep, t, ho, hx, hd, _, _, _, _, hf, hn, _⟩ := setO_get I ha
  refine call_len_set ho hx hd hf (by rw [hn]; omega) ⟨.int (c : Int), H, I.tok _, ⟨_, by rw [hn]⟩, q⟩
/-- tuple(numbers) of a list: a new tuple, whose object bears no names -/
theorem call_tupleF : CallR X (.type "tuple") (fun xs H Q => ∃ p ys, xs = [.ref p] ∧ SqL X.K H p ys ∧ ∀ l (o : Obj), H l = none → o.dict = none → Q (.ref l) (upd H l (.frz o (.tup ys)))) := by
  intro pins s σ H xs us Q I r h
  obtain ⟨p, ys, rfl, hq, q⟩ := h
  rw [Vals.ref1 r]
  obtain ⟨its, rv, pl, hz⟩ := I.list hq
  have hlen := rv.length
  refine call_tuple_list pl.isList (fun h' kp => ?_) (by simp only [List.size_toArray]; omega)
  have J : Inv X pins σ H { s with heap := h' } := I.kept (t' := s.toks) kp
  have J2 := J.laid (t' := s.toks) (o := .frz { cls := .type "tuple", data := .seq its.toArray } (.tup ys)) (h' := h'.push { cls := .type "tuple", data := .seq its.toArray })
    (fun b o e => Heap.get?_push_of_some _ e) (Nat.le_refl _) ⟨Heap.get?_push_size _ rfl, hz, its, rv, IsTup.new _ _⟩
  exact ⟨.ref h'.objs.size, _, J2, rfl, q _ _ (J.hok.fresh (Nat.le_refl _)) rfl⟩
/-- dict(pairs) of such a tuple of pairs -/
theorem call_dictT (hc : X.calm = true) : CallR X (.type "dict") (fun xs H Q => ∃ (a : Addr) (o : Obj) (ps : List Addr) (kvs : List (Key × V)), xs = [.ref a] ∧ o.dict = none ∧ H a = some (.frz o (.tup (ps.map V.ref))) ∧ Paired (fun p kv => SqT X.K H p [kV kv.1, kv.2]) ps kvs ∧
    ∀ p, H p = none → Q (.ref p) (upd H p (.dK (mergeK [] kvs)))) := by
  intro pins s σ H xs us Q I r h
  obtain ⟨a, o, ps, kvs, rfl, hod, ha, hp, q⟩ := h
  rw [Vals.ref1 r]
  obtain ⟨hget, hz, its, rv, o', ho', hcls, n, hdat⟩ := I.hok a _ ha
  rw [hget] at ho'
  cases ho'
  have ei := refs_at rv
  subst ei
  rw [List.length_map] at hz
  obtain ⟨prs, rel, hl, hpr⟩ := pairs_of I hp
  have ch : ∀ j : Fin prs.length, ∃ u b, ps[j.val]? = some b ∧ IsTup s.heap b #[u, prs[j].2] ∧ keyIs prs[j].1 u = true := fun j => by
    obtain ⟨b, u, e1, e2, e3⟩ := hpr j.val prs[j] (List.getElem?_eq_getElem j.isLt)
    exact ⟨u, b, e1, e2, e3⟩
  let us : Fin prs.length → Value := fun j => Classical.choose (ch j)
  have hus : ∀ j, ∃ b, ps[j.val]? = some b ∧ IsTup s.heap b #[us j, prs[j].2] ∧ keyIs prs[j].1 (us j) = true := fun j => Classical.choose_spec (ch j)
  let qs : List (Value × Value) := List.ofFn fun j : Fin prs.length => (us j, prs[j].2)
  have qlen : qs.length = prs.length := List.length_ofFn
  have qat : ∀ i k v, qs[i]? = some (k, v) → ∃ h : i < prs.length, k = us ⟨i, h⟩ ∧ v = prs[i].2 := fun i k v e => by
    have hi : i < prs.length := by
      have := (List.getElem?_eq_some_iff.mp e).1
      rw [qlen] at this
      exact this
    refine ⟨hi, ?_⟩
    rw [List.getElem?_ofFn, dif_pos hi] at e
    cases e
    exact ⟨rfl, rfl⟩
  refine PySem.call_dict_pairs (knd := mixKind X.prog X.w) (kvs := prs) (PairArg.tuple (prog := X.prog) (w := X.w) a (ps.map Value.ref).toArray (fun j => ps.getD j 0) qs) (I.ok.hd hc) ⟨⟨o, n, hget, hcls, hod, hdat⟩, ?_, fun j k v e => ?_⟩ ⟨qlen.symm, fun i k v e => ?_⟩ (by rw [qlen, hl]; exact hz) (fun h' tk hd' hk => ?_)
  · rw [qlen, hl]; simp
  · obtain ⟨hj, rfl, rfl⟩ := qat j k v e
    obtain ⟨b, e1, e2, _⟩ := hus ⟨j, hj⟩
    have eb : ps.getD j 0 = b := by rw [List.getD_eq_getElem?_getD, e1]; rfl
    dsimp only
    rw [eb]
    refine ⟨?_, .inl e2⟩
    simp only [List.getElem?_toArray, List.getElem?_map]
    rw [e1]; rfl
  · obtain ⟨hj, rfl, rfl⟩ := qat i k v e
    obtain ⟨b, e1, e2, e3⟩ := hus ⟨i, hj⟩
    exact ⟨prs[i].1, List.getElem?_eq_getElem hj, e3⟩
  · have hm : (s.heap.objs.size == sysModules) = false := beq_eq_false_iff_ne.mpr (Nat.ne_of_gt I.big)
    have hlen : (mergeK [] kvs).length ≤ sizeLine := by
      refine Nat.le_trans (length_mergeK kvs []) ?_
      rw [List.length_nil, Nat.zero_add, rel.length, hl]
      exact hz
    exact ⟨.ref s.heap.objs.size, upd H s.heap.objs.size (.dK (mergeK [] kvs)), I.laid (t' := tk) (fun b o e => hk b o (by simp) e) (Nat.le_refl _) (show ObjOk X.prog X.w _ _ _ (.dK (mergeK [] kvs)) from ⟨hlen, hm, merged [] prs, KV.merge rel .nil, hd'⟩), rfl, q _ (I.hok.fresh (Nat.le_refl _))⟩
end
end Lh

namespace Lh
open PySem PySem.Spec PyProof.Rows L2
def topS (i : Nat) : Stmt := PySem.Challenge.pw_lesserhall_k02_what_rules_tell.main.body.getD i (.Pass ⟨0, 0, 0, 0⟩)
abbrev s_seen_by : Stmt := topS 1
abbrev n_seen_by : List Str := ["rule", "word", "person", "weight"]
theorem sc_seen_by : FnScope n_seen_by ["rule"] (defScope s_seen_by) := ⟨rfl, rfl, rfl, by decide +kernel, rfl, by decide +kernel, by decide +kernel⟩
abbrev s_told_of : Stmt := topS 2
abbrev n_told_of : List Str := ["rule", "lot", "word", "numbers", "person", "number"]
theorem sc_told_of : FnScope n_told_of ["rule", "lot"] (defScope s_told_of) := ⟨rfl, rfl, rfl, by decide +kernel, rfl, by decide +kernel, by decide +kernel⟩
abbrev s_weighed : Stmt := topS 3
abbrev n_weighed : List Str := ["rule", "lot", "weights", "person", "number"]
theorem sc_weighed : FnScope n_weighed ["rule", "lot"] (defScope s_weighed) := ⟨rfl, rfl, rfl, by decide +kernel, rfl, by decide +kernel, by decide +kernel⟩
abbrev s_least_free : Stmt := topS 4
abbrev n_least_free : List Str := ["numbers", "least"]
theorem sc_least_free : FnScope n_least_free ["numbers"] (defScope s_least_free) := ⟨rfl, rfl, rfl, by decide +kernel, rfl, by decide +kernel, by decide +kernel⟩
abbrev s_most_of : Stmt := topS 5
abbrev n_most_of : List Str := ["rule", "word"]
theorem sc_most_of : FnScope n_most_of ["rule"] (defScope s_most_of) := ⟨rfl, rfl, rfl, by decide +kernel, rfl, by decide +kernel, by decide +kernel⟩
abbrev s_most_weighed : Stmt := topS 6
abbrev n_most_weighed : List Str := ["rule", "person", "weight"]
theorem sc_most_weighed : FnScope n_most_weighed ["rule"] (defScope s_most_weighed) := ⟨rfl, rfl, rfl, by decide +kernel, rfl, by decide +kernel, by decide +kernel⟩
abbrev s_dip : Stmt := topS 8
abbrev n_dip : List Str := ["_law_script", "_law_k", "_law_cell"]
theorem sc_dip : FnScope n_dip ["_law_script", "_law_k"] (defScope s_dip) := ⟨rfl, rfl, rfl, by decide +kernel, rfl, by decide +kernel, by decide +kernel⟩
abbrev s_take : Stmt := topS 9
abbrev n_take : List Str := ["_law_box", "_law_many", "_law_found", "_law_once", "_law_pair"]
theorem sc_take : FnScope n_take ["_law_box", "_law_many"] (defScope s_take) := ⟨rfl, rfl, rfl, by decide +kernel, rfl, by decide +kernel, by decide +kernel⟩
abbrev s_folded : Stmt := topS 10
abbrev n_folded : List Str := ["_law_script", "_law_many", "_law_cells", "_law_k", "_law_cell"]
theorem sc_folded : FnScope n_folded ["_law_script", "_law_many"] (defScope s_folded) := ⟨rfl, rfl, rfl, by decide +kernel, rfl, by decide +kernel, by decide +kernel⟩
abbrev s_same : Stmt := topS 11
abbrev n_same : List Str := ["_law_found", "_law_due", "_law_one", "_law_two"]
theorem sc_same : FnScope n_same ["_law_found", "_law_due"] (defScope s_same) := ⟨rfl, rfl, rfl, by decide +kernel, rfl, by decide +kernel, by decide +kernel⟩
abbrev s_some : Stmt := topS 12
abbrev n_some : List Str := ["_law_box", "_law_pool", "_law_odds", "_law_one"]
theorem sc_some : FnScope n_some ["_law_box", "_law_pool", "_law_odds"] (defScope s_some) := ⟨rfl, rfl, rfl, by decide +kernel, rfl, by decide +kernel, by decide +kernel⟩
abbrev s_sum_rule : Stmt := topS 13
abbrev n_sum_rule : List Str := ["_law_box", "_law_seen_here", "_law_far", "_law_own", "_law_ties", "_law_one"]
theorem sc_sum_rule : FnScope n_sum_rule ["_law_box", "_law_seen_here", "_law_far"] (defScope s_sum_rule) := ⟨rfl, rfl, rfl, by decide +kernel, rfl, by decide +kernel, by decide +kernel⟩
abbrev s_rule : Stmt := topS 14
abbrev n_rule : List Str := ["_law_box", "_law_many", "_law_pool", "_law_far", "_law_seen_here", "_law_way"]
theorem sc_rule : FnScope n_rule ["_law_box", "_law_many", "_law_pool", "_law_far"] (defScope s_rule) := ⟨rfl, rfl, rfl, by decide +kernel, rfl, by decide +kernel, by decide +kernel⟩
abbrev s_seen : Stmt := topS 15
abbrev n_seen : List Str := ["_law_own_rule", "_law_one"]
theorem sc_seen : FnScope n_seen ["_law_own_rule"] (defScope s_seen) := ⟨rfl, rfl, rfl, by decide +kernel, rfl, by decide +kernel, by decide +kernel⟩
abbrev s_tells : Stmt := topS 16
abbrev n_tells : List Str := ["_law_own_rule", "_law_bunch", "_law_word", "_law_numbers", "_law_other", "_law_number", "_law_k", "_law_weights", "_law_there", "_law_total"]
theorem sc_tells : FnScope n_tells ["_law_own_rule", "_law_bunch"] (defScope s_tells) := ⟨rfl, rfl, rfl, by decide +kernel, rfl, by decide +kernel, by decide +kernel⟩
abbrev s_most : Stmt := topS 17
abbrev n_most : List Str := ["_law_own_rule", "_law_seen_here", "_law_other", "_law_weight", "_law_k"]
theorem sc_most : FnScope n_most ["_law_own_rule"] (defScope s_most) := ⟨rfl, rfl, rfl, by decide +kernel, rfl, by decide +kernel, by decide +kernel⟩
abbrev s_right : Stmt := topS 18
abbrev n_right : List Str := ["_law_box", "_law_turn", "_law_many", "_law_own_rule", "_law_seen_here", "_law_other", "_law_weight", "_law_far", "_law_bunch", "_law_kept", "_law_due", "_law_told", "_law_most_here"]
theorem sc_right : FnScope n_right ["_law_box"] (defScope s_right) := ⟨rfl, rfl, rfl, by decide +kernel, rfl, by decide +kernel, by decide +kernel⟩
abbrev s_law : Stmt := topS 19
abbrev n_law : List Str := ["_law_script", "_law_cells", "_law_k"]
theorem sc_law : FnScope n_law ["_law_script"] (defScope s_law) := ⟨rfl, rfl, rfl, by decide +kernel, rfl, by decide +kernel, by decide +kernel⟩
structure Txt (K : PySem.W.Frag) (mg : Str → Option Value) where
  f_seen_by : Addr
  fd_seen_by : FuncData
  F_seen_by : Fun K "seen_by" "seen_by" s_seen_by f_seen_by fd_seen_by
  g_seen_by : mg "seen_by" = some (.ref f_seen_by)
  b_seen_by : Binds K fd_seen_by ["rule"] []
  kb_seen_by : KBn K fd_seen_by ["rule"] 0 ["rule"] (fun _ ws => permV [0] ws) (fun _ zs => permV [0] zs)
  f_told_of : Addr
  fd_told_of : FuncData
  F_told_of : Fun K "told_of" "told_of" s_told_of f_told_of fd_told_of
  g_told_of : mg "told_of" = some (.ref f_told_of)
  b_told_of : Binds K fd_told_of ["rule", "lot"] []
  kb_told_of : KBn K fd_told_of ["rule", "lot"] 0 ["lot", "rule"] (fun _ ws => permV [1, 0] ws) (fun _ zs => permV [1, 0] zs)
  f_weighed : Addr
  fd_weighed : FuncData
  F_weighed : Fun K "weighed" "weighed" s_weighed f_weighed fd_weighed
  g_weighed : mg "weighed" = some (.ref f_weighed)
  b_weighed : Binds K fd_weighed ["rule", "lot"] []
  f_least_free : Addr
  fd_least_free : FuncData
  F_least_free : Fun K "least_free" "least_free" s_least_free f_least_free fd_least_free
  g_least_free : mg "least_free" = some (.ref f_least_free)
  b_least_free : Binds K fd_least_free ["numbers"] []
  f_most_of : Addr
  fd_most_of : FuncData
  F_most_of : Fun K "most_of" "most_of" s_most_of f_most_of fd_most_of
  g_most_of : mg "most_of" = some (.ref f_most_of)
  b_most_of : Binds K fd_most_of ["rule"] []
  kb_most_of : KBn K fd_most_of ["rule"] 0 ["rule"] (fun _ ws => permV [0] ws) (fun _ zs => permV [0] zs)
  f_most_weighed : Addr
  fd_most_weighed : FuncData
  F_most_weighed : Fun K "most_weighed" "most_weighed" s_most_weighed f_most_weighed fd_most_weighed
  g_most_weighed : mg "most_weighed" = some (.ref f_most_weighed)
  b_most_weighed : Binds K fd_most_weighed ["rule"] []
  f_dip : Addr
  fd_dip : FuncData
  F_dip : Fun K "_law_dip" "_law_dip" s_dip f_dip fd_dip
  g_dip : mg "_law_dip" = some (.ref f_dip)
  b_dip : Binds K fd_dip ["_law_script", "_law_k"] []
  f_take : Addr
  fd_take : FuncData
  F_take : Fun K "_law_take" "_law_take" s_take f_take fd_take
  g_take : mg "_law_take" = some (.ref f_take)
  b_take : Binds K fd_take ["_law_box", "_law_many"] []
  f_folded : Addr
  fd_folded : FuncData
  F_folded : Fun K "_law_folded" "_law_folded" s_folded f_folded fd_folded
  g_folded : mg "_law_folded" = some (.ref f_folded)
  b_folded : Binds K fd_folded ["_law_script", "_law_many"] []
  f_same : Addr
  fd_same : FuncData
  F_same : Fun K "_law_same" "_law_same" s_same f_same fd_same
  g_same : mg "_law_same" = some (.ref f_same)
  b_same : Binds K fd_same ["_law_found", "_law_due"] []
  f_some : Addr
  fd_some : FuncData
  F_some : Fun K "_law_some" "_law_some" s_some f_some fd_some
  g_some : mg "_law_some" = some (.ref f_some)
  b_some : Binds K fd_some ["_law_box", "_law_pool", "_law_odds"] []
  f_sum_rule : Addr
  fd_sum_rule : FuncData
  F_sum_rule : Fun K "_law_sum_rule" "_law_sum_rule" s_sum_rule f_sum_rule fd_sum_rule
  g_sum_rule : mg "_law_sum_rule" = some (.ref f_sum_rule)
  b_sum_rule : Binds K fd_sum_rule ["_law_box", "_law_seen_here", "_law_far"] []
  f_rule : Addr
  fd_rule : FuncData
  F_rule : Fun K "_law_rule" "_law_rule" s_rule f_rule fd_rule
  g_rule : mg "_law_rule" = some (.ref f_rule)
  b_rule : Binds K fd_rule ["_law_box", "_law_many", "_law_pool", "_law_far"] []
  f_seen : Addr
  fd_seen : FuncData
  F_seen : Fun K "_law_seen" "_law_seen" s_seen f_seen fd_seen
  g_seen : mg "_law_seen" = some (.ref f_seen)
  b_seen : Binds K fd_seen ["_law_own_rule"] []
  f_tells : Addr
  fd_tells : FuncData
  F_tells : Fun K "_law_tells" "_law_tells" s_tells f_tells fd_tells
  g_tells : mg "_law_tells" = some (.ref f_tells)
  b_tells : Binds K fd_tells ["_law_own_rule", "_law_bunch"] []
  f_most : Addr
  fd_most : FuncData
  F_most : Fun K "_law_most" "_law_most" s_most f_most fd_most
  g_most : mg "_law_most" = some (.ref f_most)
  b_most : Binds K fd_most ["_law_own_rule"] []
  f_right : Addr
  fd_right : FuncData
  F_right : Fun K "_law_right" "_law_right" s_right f_right fd_right
  g_right : mg "_law_right" = some (.ref f_right)
  b_right : Binds K fd_right ["_law_box"] []
  f_law : Addr
  fd_law : FuncData
  F_law : Fun K "law" "law" s_law f_law fd_law
  g_law : mg "law" = some (.ref f_law)
  b_law : Binds K fd_law ["_law_script"] []
  m_abs : mg "abs" = none
  m_all : mg "all" = none
  m_bool : mg "bool" = none
  m_dict : mg "dict" = none
  m_enumerate : mg "enumerate" = none
  m_int : mg "int" = none
  m_isinstance : mg "isinstance" = none
  m_len : mg "len" = none
  m_list : mg "list" = none
  m_max : mg "max" = none
  m_min : mg "min" = none
  m_range : mg "range" = none
  m_repr : mg "repr" = none
  m_set : mg "set" = none
  m_sorted : mg "sorted" = none
  m_str : mg "str" = none
  m_sum : mg "sum" = none
  m_tuple : mg "tuple" = none
  m_zip : mg "zip" = none
end Lh

namespace Lh
open PySem PySem.Spec PyProof.Rows L2
section
variable {P : Program} {w : World} {K : PySem.W.Frag} {mg : Str → Option Value} {base : Heap}
/-- what an expression comes to, then what follows -/
theorem use {te : TE} {σ : L2.St} {H : Hp} {Q : VK} (R : V → Hp → Prop) (h : ∀ Q' : VK, (∀ v H', R v H' → Q' v H') → te σ H Q') (hq : ∀ v H', R v H' → Q v H') : te σ H Q := h Q hq
/-! ### the draws -/
def spTake : Sp := fun vs H Q _ => ∃ (bx : Addr) (c m : Int), vs = [.ref bx, .int m] ∧ 0 < m ∧ m ≤ 1000000 ∧ c ≤ 1000000000 ∧ Box bx c H ∧
  ∀ (r : Int) (H' : Hp), 0 ≤ r → r < m → Ext bx H H' → Box bx (c + 1) H' → Q (.int r) H'
theorem ok_take (T : Txt K mg) : FnOk P w K mg base CX0 1 T.f_take T.fd_take ["_law_box", "_law_many"] spTake := by
  refine T.F_take.ok sc_take (fun vs H Q E h => ?_) (fun cdv A outer s H vs Q E hr h => ?_)
  · obtain ⟨bx, c, m, rfl, _⟩ := h
    rfl
  · obtain ⟨bx, c, m, rfl, m0, m1, c1, ⟨a, b, n, hb, a0, b0, b1, n0, n1⟩, q⟩ := h
    refine ⟨_, (pss_cons (ps_if (pt_cmpR op_gt (pe_ix ix_list (pv 0) pe_int (fun _ _ => rfl)) pe_int (nomark _))
        (pss_cons (ps_set (i := 2) sc_take.nd rfl (.inl rfl) (pe_op op_mod (pe_ix ix_list (pv 0) pe_int (fun _ _ => rfl)) (pv 1)))
        (pss_cons (ps_asg (pe_op op_fdiv (pe_ix ix_list (pv 0) pe_int (fun _ _ => rfl)) (pv 1)) (pg_sub (pv 0) pe_int set_list))
        (pss_one (ps_ret (pv 2)))))
        pss_nil)
      (pss_cons (ps_asg (pe_op op_add (pe_ix ix_list (pv 0) pe_int (fun _ _ => rfl)) pe_int) (pg_sub (pv 0) pe_int set_list))
      (pss_cons (ps_set (i := 3) sc_take.nd rfl (.inl rfl) (pe_op op_mod (pe_op op_pow (pe_op op_add (pe_ix ix_list (pv 0) pe_int (fun _ _ => rfl)) (pe_op op_mul pe_int (pe_ix ix_list (pv 0) pe_int (fun _ _ => rfl)))) pe_int) pe_int))
      (pss_cons (ps_set (i := 4) sc_take.nd rfl (.inl rfl) (pe_op op_mod (pe_op op_mul (pe_op op_add (pe_op op_add (pv 3) (pe_ix ix_list (pv 0) pe_int (fun _ _ => rfl))) (pe_op op_fdiv (pe_ix ix_list (pv 0) pe_int (fun _ _ => rfl)) pe_int)) (pe_op op_add (pe_op op_add (pe_op op_mod (pv 3) pe_int) pe_int) (pe_ix ix_list (pv 0) pe_int (fun _ _ => rfl)))) pe_int))
      (pss_one (ps_ret (pe_op op_mod (pe_op op_fdiv (pe_op op_mod (pe_op op_add (pe_op op_mul (pv 4) pe_int) (pv 3)) pe_int) pe_int) (pv 1)))))))), ?_⟩
    have i0 : ∀ x y z : V, atI [x, y, z] 0 = some x := fun _ _ _ => rfl
    have i1 : ∀ x y z : V, atI [x, y, z] 1 = some y := fun _ _ _ => rfl
    have i2 : ∀ x y z : V, atI [x, y, z] 2 = some z := fun _ _ _ => rfl
    have hS : SqL K H bx [.int a, .int b, .int n] := .inl (.inl hb)
    refine ⟨.ref bx, rfl, bx, _, 0, _, rfl, rfl, hS, i0 _ _ _, a, 0, rfl, rfl, _, rfl, ite2 (fun e => ?_) (fun e => ?_)⟩
    · refine ⟨.ref bx, rfl, bx, _, 0, _, rfl, rfl, hS, i0 _ _ _, .int m, rfl, a, m, rfl, rfl, m0, ?_⟩
      refine ⟨.ref bx, rfl, bx, _, 0, _, rfl, rfl, hS, i0 _ _ _, .int m, rfl, a, m, rfl, rfl, ⟨m0, by omega⟩, ?_⟩
      refine ⟨.ref bx, rfl, bx, _, 0, 0, rfl, rfl, hb, rfl, ?_⟩
      refine ⟨.int (a % m), rfl, q _ _ (Int.emod_nonneg _ (by omega)) (Int.emod_lt_of_pos _ m0) (Ext.refl _).box ⟨a / m, b, n, upd_same, Int.ediv_nonneg a0 (by omega), b0, b1, n0, by omega⟩⟩
    · have n2 : n + 1 ≤ 1000000001 := by omega
      refine ⟨.ref bx, rfl, bx, _, 2, _, rfl, rfl, hS, i2 _ _ _, n, 1, rfl, rfl, .ref bx, rfl, bx, _, 2, 2, rfl, rfl, hb, rfl, ?_⟩
      generalize hH1 : upd H bx (.lst (List.set [V.int a, .int b, .int n] 2 (.int (n + 1)))) = H1
      have hb1 : H1 bx = some (.lst [.int a, .int b, .int (n + 1)]) := by rw [← hH1]; exact upd_same
      have hS1 : SqL K H1 bx [.int a, .int b, .int (n + 1)] := .inl (.inl hb1)
      have bB : Box bx (c + 1) H1 := ⟨a, b, n + 1, hb1, a0, b0, b1, by omega, by omega⟩
      have eE : Ext bx H H1 := by rw [← hH1]; exact (Ext.refl _).box
      refine ⟨.ref bx, rfl, bx, _, 1, _, rfl, rfl, hS1, i1 _ _ _, .ref bx, rfl, bx, _, 2, _, rfl, rfl, hS1, i2 _ _ _, 39373, n + 1, rfl, rfl, .inl ⟨by decide, by decide⟩, b, _, rfl, rfl, _, 5, rfl, rfl, ⟨by decide, by decide, ?_⟩, _, 2147483647, rfl, rfl, by show (0 : Int) < 2147483647; decide, ?_⟩
      · omega
      dsimp only
      generalize hx : (b + 39373 * (n + 1)) ^ (5 : Int).toNat % 2147483647 = x
      have x0 : 0 ≤ x := by rw [← hx]; exact Int.emod_nonneg _ (by decide)
      have x1 : x < 2147483647 := by rw [← hx]; exact Int.emod_lt_of_pos _ (by decide)
      have d0 : 0 ≤ b / 1000003 := Int.ediv_nonneg b0 (by decide)
      have d1 : b / 1000003 ≤ b := Int.ediv_le_self _ b0
      have e0 : 0 ≤ x % 40009 := Int.emod_nonneg _ (by decide)
      have e1 : x % 40009 < 40009 := Int.emod_lt_of_pos _ (by decide)
      refine ⟨.int x, rfl, .ref bx, rfl, bx, _, 2, _, rfl, rfl, hS1, i2 _ _ _, x, n + 1, rfl, rfl, .ref bx, rfl, bx, _, 1, _, rfl, rfl, hS1, i1 _ _ _, b, 1000003, rfl, rfl, ⟨by decide, by decide⟩, _, _, rfl, rfl,
        .int x, rfl, x, 40009, rfl, rfl, by show (0 : Int) < 40009; decide, _, 7, rfl, rfl, .ref bx, rfl, bx, _, 2, _, rfl, rfl, hS1, i2 _ _ _, _, n + 1, rfl, rfl, _, _, rfl, rfl, .inr ⟨?_, ?_⟩, _, 2147483629, rfl, rfl, by show (0 : Int) < 2147483629; decide, ?_⟩
      · omega
      · omega
      dsimp only
      generalize hy : (x + (n + 1) + b / 1000003) * (x % 40009 + 7 + (n + 1)) % 2147483629 = y
      have y0 : 0 ≤ y := by rw [← hy]; exact Int.emod_nonneg _ (by decide)
      have y1 : y < 2147483629 := by rw [← hy]; exact Int.emod_lt_of_pos _ (by decide)
      refine ⟨.int y, rfl, y, 48271, rfl, rfl, .inr ⟨by decide, by decide⟩, .int x, rfl, _, x, rfl, rfl, _, 2147483587, rfl, rfl, by show (0 : Int) < 2147483587; decide, _, 64, rfl, rfl, ⟨by decide, by decide⟩, .int m, rfl, _, m, rfl, rfl, m0, ?_⟩
      exact q _ _ (Int.emod_nonneg _ (by omega)) (Int.emod_lt_of_pos _ m0) eE bB
def spDip (K : PySem.W.Frag) : Sp := fun vs H Q _ => ∃ (a : Addr) (ns : List Int) (k : Nat), vs = [.ref a, .int k] ∧ SqL K H a (ns.map V.int) ∧ k ≤ 1000 ∧
  ∀ (bx : Addr) (H' : Hp), Same H H' → H bx = none → Box bx 0 H' → Q (.ref bx) H'
theorem ok_dip (T : Txt K mg) : FnOk P w K mg base CX0 1 T.f_dip T.fd_dip ["_law_script", "_law_k"] (spDip K) := by
  refine T.F_dip.ok sc_dip (fun vs H Q E h => ?_) (fun cdv A outer s H vs Q E hr h => ?_)
  · obtain ⟨a, ns, k, rfl, _⟩ := h
    rfl
  · obtain ⟨a, ns, k, rfl, hS, hk, q⟩ := h
    refine ⟨_, (pss_cons (ps_set (i := 2) sc_dip.nd rfl (.inl rfl) (pe_ifExp (pt_cmpR op_lt (pv 1) (pe_callB call_len_seq (by rfl) T.m_len (by decide +kernel) (pa_cons (pv 0) pa_nil)) (nomark _)) (pe_ix ix_list (pv 0) (pv 1) (fun _ _ => rfl)) pe_int))
      (pss_one (ps_ret (pe_lst (pa_cons (pe_op op_mul (pe_callB call_abs (by rfl) T.m_abs (by decide +kernel) (pa_cons (pv 2) pa_nil)) (pe_callTy call_int1 (by rfl) T.m_int (by decide +kernel) (pa_cons (pe_cmpR op_ge (pe_callB call_abs (by rfl) T.m_abs (by decide +kernel) (pa_cons (pv 2) pa_nil)) (pe_op op_pow pe_int pe_int) (nomark _)) pa_nil))) (pa_cons (pe_op op_add (pe_op op_add (pe_op op_mod (pv 2) pe_int) (pe_op op_mul pe_int (pv 1))) pe_int) (pa_cons pe_int pa_nil))))))), ?_⟩
    show tIf _ _ _ _ _ _
    refine use (fun v H' => ∃ x : Int, v = .int x ∧ H' = H) (fun Q' hQ => ?_) ?_
    · refine ⟨.int k, rfl, .ref a, rfl, a, _, rfl, .inl hS, k, _, rfl, rfl, _, rfl, ite2 (fun e => ?_) (fun e => ?_)⟩
      · have hk2 : k < ns.length := by
          have := of_decide_eq_true e
          rw [List.length_map] at this
          omega
        exact ⟨.ref a, rfl, .int k, rfl, a, _, k, .int ns[k], rfl, rfl, hS, atI_nat (by rw [List.getElem?_map, List.getElem?_eq_getElem hk2]; rfl), hQ _ _ ⟨_, rfl, rfl⟩⟩
      · exact hQ _ _ ⟨0, rfl, rfl⟩
    · rintro v H' ⟨x, rfl, rfl⟩
      have m0 : 0 ≤ x % 2305843009213693951 := Int.emod_nonneg _ (by decide)
      have m1 : x % 2305843009213693951 < 2305843009213693951 := Int.emod_lt_of_pos _ (by decide)
      refine ⟨.int x, rfl, x, rfl, .int x, rfl, x, rfl, 10, 18, rfl, rfl, ⟨by decide, by decide, by decide⟩, _, _, rfl, rfl, .inr ⟨_, rfl, ?_⟩⟩
      have bnd : ∀ b : Bool, (0 : Int) ≤ (if b then 1 else 0) ∧ (if b then (1 : Int) else 0) ≤ 1 := fun b => by cases b <;> decide
      refine ⟨_, _, rfl, rfl, .inr ⟨Int.lt_of_lt_of_le (by decide) (bnd _).1, Int.lt_of_le_of_lt (bnd _).2 (by decide)⟩, .int x, rfl, x, 2305843009213693951, rfl, rfl, by show (0 : Int) < 2305843009213693951; decide, .int k, rfl, 39373, k, rfl, rfl, .inl ⟨by decide, by decide⟩, _, _, rfl, rfl, _, 17, rfl, rfl, by show 3 ≤ sizeLine; decide, fun p hp => ?_⟩
      refine q p _ (same_upd hp) hp ⟨_, _, 0, upd_same, ?_, ?_, ?_, by decide, by decide⟩
      · refine Int.mul_nonneg ?_ (bnd _).1
        split <;> omega
      · show 0 ≤ x % 2305843009213693951 + 39373 * (k : Int) + 17
        omega
      · show x % 2305843009213693951 + 39373 * (k : Int) + 17 < 2 ^ 62
        omega
end
end Lh

namespace Lh
open PySem PySem.Spec PyProof.Rows L2
def cutI {α : Type} (xs : List α) (lo hi : Option Int) : List α := (xs.drop (HT.sIx xs.length 0 lo)).take (HT.sIx xs.length xs.length hi - HT.sIx xs.length 0 lo)
theorem cut_map {α : Type} (f : α → V) (xs : List α) (lo hi : Option Int) : cutV (xs.map f) lo hi = (cutI xs lo hi).map f := by
  unfold cutV cutI
  rw [List.length_map, List.map_take, List.map_drop]
theorem cutI_head {α : Type} (xs : List α) : (cutI xs none (some 3)).length = min 3 xs.length := by
  unfold cutI
  rw [HT.sIx_none, show HT.sIx xs.length xs.length (some 3) = min 3 xs.length from HT.sIx_nat xs.length _ 3, List.length_take, List.length_drop]
  omega
theorem cutI_tail {α : Type} (xs : List α) (h : xs.length ≤ 3) : (cutI xs (some 3) (some 63)).length = 0 := by
  unfold cutI
  rw [show HT.sIx xs.length 0 (some 3) = min 3 xs.length from HT.sIx_nat xs.length _ 3, List.length_take, List.length_drop]
  omega
section
variable {P : Program} {w : World} {K : PySem.W.Frag} {mg : Str → Option Value} {base : Heap}
def spFolded (K : PySem.W.Frag) : Sp := fun vs H Q _ => ∃ (a : Addr) (ns : List Int), vs = [.ref a, .int 3] ∧ SqL K H a (ns.map V.int) ∧ ns.length ≤ 63 ∧
  ∀ (p : Addr) (ms : List Int) (H' : Hp), Same H H' → H p = none → H' p = some (.lst (ms.map V.int)) → ms.length ≤ 3 → Q (.ref p) H'
theorem ok_folded (T : Txt K mg) : FnOk P w K mg base CX0 1 T.f_folded T.fd_folded ["_law_script", "_law_many"] (spFolded K) := by
  refine T.F_folded.ok sc_folded (fun vs H Q E h => ?_) (fun cdv A outer s H vs Q E hr h => ?_)
  · obtain ⟨a, ns, rfl, _⟩ := h
    rfl
  · obtain ⟨a, ns, rfl, hS, hl, q⟩ := h
    refine ⟨_, (pss_cons (ps_set (i := 2) sc_folded.nd rfl (.inl rfl) (pe_callTy call_list_of (by rfl) T.m_list (by decide +kernel) (pa_cons (pe_slice sl_list (pv 0) po_none (po_some (pv 1))) pa_nil)))
      (pss_cons (ps_for PassesOwn.never rfl (pi_enum (by rfl) T.m_enumerate (pa_cons (pe_slice sl_list (pv 0) (po_some (pv 1)) (po_some pe_int)) pa_nil)) (pg_tup rfl (pgs_cons (pg_name (i := 3) sc_folded.nd rfl (.inl rfl)) (pgs_cons (pg_name (i := 4) sc_folded.nd rfl (.inl rfl)) pgs_nil)))
        (pss_one (ps_asg (pe_op op_add (pe_ix ix_list (pv 2) (pe_op op_mod (pv 3) (pv 1)) (fun _ _ => rfl)) (pe_op op_mul (pv 4) (pe_op op_add (pv 3) pe_int))) (pg_sub (pv 2) (pe_op op_mod (pv 3) (pv 1)) set_list))))
      (pss_one (ps_ret (pv 2))))), ?_⟩
    -- the cells
    refine ⟨.ref a, rfl, .int 3, rfl, 3, rfl, a, _, rfl, hS, fun c nc => ?_⟩
    have s1 := same_upd (o := .lst (cutV (ns.map V.int) none (some 3))) nc
    refine ⟨c, _, rfl, .inl (.inl (.inl upd_same)), fun l nl => ?_⟩
    have s2 := s1.trans (same_upd (o := .lst (cutV (ns.map V.int) none (some 3))) nl)
    have nlH : H l = none := s1.free nl
    -- the rest of the script
    refine ⟨.ref a, rfl, .int 3, rfl, 3, rfl, 63, rfl, a, _, rfl, s2.seq hS, fun d nd => ?_⟩
    have s3 := s2.trans (same_upd (o := .lst (cutV (ns.map V.int) (some 3) (some 63))) nd)
    have nld : l ≠ d := ne_of_none upd_same nd
    refine ⟨d, _, rfl, .inl (.inl upd_same), ?_⟩
    rw [cut_map V.int, cut_map V.int] at *
    refine for_it (walk_enum (xs := (cutI ns (some 3) (some 63)).map V.int)) (fun i σ H3 => ∃ (y3 y4 : Option V) (ms : List Int), σ = [some (.ref a), some (.int 3), some (.ref l), y3, y4] ∧ Same H H3 ∧ H3 d = some (.lst ((cutI ns (some 3) (some 63)).map V.int)) ∧ H3 l = some (.lst (ms.map V.int)) ∧ ms.length = min 3 ns.length) ?_ ?_ ?_ ?_
    · refine ⟨none, none, cutI ns none (some 3), rfl, s3, upd_same, ?_, cutI_head ns⟩
      rw [upd_ne nld, upd_same]
    · rintro i σ H3 _ ⟨y3, y4, ms, rfl, _, hd, _⟩
      exact .inl (.inl hd)
    · rintro i x σ H3 H4 hi ⟨y3, y4, ms, rfl, sm, hd, hl3, hm⟩ ⟨t, x1, x2, rfl, nt, rfl, e1, e2⟩
      rw [List.length_map] at hi
      have e1' : V.int (i : Nat) = x1 := Option.some.inj e1
      subst e1'
      have e2' : x2 = .int (cutI ns (some 3) (some 63))[i] := by
        have : ((cutI ns (some 3) (some 63)).map V.int)[i]? = some x2 := e2
        rw [List.getElem?_map, List.getElem?_eq_getElem hi] at this
        exact (Option.some.inj this).symm
      subst e2'
      have h3 : ms.length = 3 := by
        by_cases hc : ns.length ≤ 3
        · rw [cutI_tail ns hc] at hi; omega
        · omega
      have nlt : l ≠ t := ne_of_none hl3 nt
      have hl4 : (upd H3 t (.tup [.int (i : Nat), .int (cutI ns (some 3) (some 63))[i]])) l = some (.lst (ms.map V.int)) := by rw [upd_ne nlt]; exact hl3
      have hlt : ((i : Int) % 3).toNat < ms.length := by omega
      refine ⟨t, _, rfl, .inl (.inl upd_same), rfl, _, _, rfl, _, _, rfl, rfl, ?_⟩
      refine ⟨.ref l, rfl, .int i, rfl, .int 3, rfl, i, 3, rfl, rfl, by show (0 : Int) < 3; decide, l, _, _, .int ms[((i : Int) % 3).toNat], rfl, rfl, .inl (.inl hl4), ?_, ?_⟩
      · refine at_of (j := ((i : Int) % 3).toNat) (by omega) ?_
        rw [List.getElem?_map, List.getElem?_eq_getElem hlt]; rfl
      refine ⟨_, rfl, .int i, rfl, i, 2, rfl, rfl, _, _, rfl, rfl, .inr ⟨by omega, ?_⟩, _, _, rfl, rfl, .ref l, rfl, .int i, rfl, .int 3, rfl, i, 3, rfl, rfl, by show (0 : Int) < 3; decide, l, _, _, ((i : Int) % 3).toNat, rfl, rfl, hl4, ?_, ?_⟩
      · have : (cutI ns (some 3) (some 63)).length ≤ ns.length := by
          unfold cutI; rw [List.length_take, List.length_drop]; omega
        omega
      · show ixN (ms.map V.int).length ((i : Int) % 3) = some _
        unfold ixN
        rw [List.length_map, if_pos (by omega), if_pos (by omega)]
      · refine ⟨_, _, ms.set ((i : Int) % 3).toNat (ms[((i : Int) % 3).toNat] + (cutI ns (some 3) (some 63))[i] * ((i : Int) + 2)), rfl, ?_, ?_, ?_, ?_⟩
        · exact fun b o e => by
            rw [upd_ne (ne_of_none e nlH), upd_ne (ne_of_none (sm b o e) nt)]
            exact sm b o e
        · rw [upd_ne nld.symm, upd_ne (ne_of_none hd nt)]
          exact hd
        · rw [upd_same, List.map_set]
        · rw [List.length_set]; exact hm
    · rintro σ H3 ⟨y3, y4, ms, rfl, sm, hd, hl3, hm⟩
      exact ⟨.ref l, rfl, q l ms H3 sm nlH hl3 (by omega)⟩
end
end Lh

namespace Lh
open PySem PySem.Spec PyProof.Rows L2
/-- data of at most n levels, no level longer than 1000 -/
def okD : Nat → PyData → Prop
  | _, .none => True
  | _, .bool _ => True
  | _, .int _ => True
  | _, .str _ => True
  | n + 1, .list ds => ds.length ≤ 1000 ∧ ∀ d ∈ ds, okD n d
  | n + 1, .tuple ds => ds.length ≤ 1000 ∧ ∀ d ∈ ds, okD n d
  | _, _ => False
def tyD : PyData → String
  | .none => "NoneType"
  | .bool _ => "bool"
  | .int _ => "int"
  | .str _ => "str"
  | .list _ => "list"
  | .tuple _ => "tuple"
  | .dict _ => "dict"
theorem Rp.ty {bx : Addr} {K : PySem.W.Frag} {H : Hp} {v : V} {d : PyData} (h : Rp bx H v d) : TyX K H v (.type (tyD d)) := by
  cases h with
  | non => exact .base .non
  | bl b => exact .base (.bl b)
  | int i => exact .base (.int i)
  | str x => exact .base (.str x)
  | lst h _ _ => exact .base (.lst h)
  | tup h _ _ => exact h.ty
theorem iteP {A B : Prop} {c : Bool} (h : c = true) (a : A) : if c = true then A else B := by rw [if_pos h]; exact a
theorem iteN {A B : Prop} {c : Bool} (h : c = false) (b : B) : if c = true then A else B := by rw [h, if_neg Bool.false_ne_true]; exact b
theorem yes {σ : L2.St} {H : Hp} {Q : Bool → Hp → Prop} (h : Q true H) : tYes σ H Q := h
theorem blT {Q : VK} {c : Bool} {H : Hp} (h : c = true) (q : Q (.bl true) H) : Q (.bl c) H := by rw [h]; exact q
/-- isinstance(name, T) -/
theorem rd_isi {K : PySem.W.Frag} {σ : L2.St} {H : Hp} {Q : VK} {i : Nat} {x : V} {T c : String} {b : Bool} (hs : σ[i]? = some (some x)) (ty : TyX K H x (.type T)) (h : kitB T c = some b) (q : Q (.bl b) H) :
    tCB (rIsi K) (tCons (tVar i) (tCons (tC (.ty c)) tNil)) σ H Q := ⟨x, hs, x, .ty c, .type T, .type c, b, rfl, .ty c, ty, kit_ty h, q⟩
/-- isinstance(name, (T, U)) -/
theorem rd_isi2 {K : PySem.W.Frag} {σ : L2.St} {H : Hp} {Q : VK} {i : Nat} {x : V} {T c e : String} {b b2 : Bool} (hs : σ[i]? = some (some x)) (ty : TyX K H x (.type T)) (h : kitB T c = some b) (h2 : kitB T e = some b2)
    (q : ∀ p, H p = none → Q (.bl (b || b2)) (upd H p (.tup [.ty c, .ty e]))) (ty2 : ∀ p, H p = none → TyX K (upd H p (.tup [.ty c, .ty e])) x (.type T)) :
    tCB (rIsiT K) (tCons (tVar i) (tCons (tTup (tCons (tC (.ty c)) (tCons (tC (.ty e)) tNil))) tNil)) σ H Q :=
  ⟨x, hs, by show 2 ≤ sizeLine; decide, fun p hp => ⟨x, p, _, .type T, [.type c, .type e], b || b2, rfl, upd_same, .cons (.ty c) (.cons (.ty e) .nil), ty2 p hp, kitAny_cons (kit_ty h) (fun z => kitAny_cons (kit_ty h2) (fun z2 => by rw [z, z2]; rfl) (fun z2 => by rw [z2, Bool.or_true])) (fun z => by rw [z, Bool.true_or]), q p hp⟩⟩
theorem walk_zipT {K : PySem.W.Frag} {a b : Addr} {xs ys : List V} {n : Nat} (h1 : xs.length = n) (h2 : ys.length = n) : Walk (RZ.ItzT K a b) n (fun H => SqT K H a xs ∧ SqT K H b ys) (YPair (fun i => xs[i]?) (fun i => ys[i]?)) := by
  refine ⟨fun i _ hi q => ⟨xs, ys, xs[i], ys[i], q.1, q.2, by simp [h1, hi], by simp [h2, hi]⟩, fun _ q => ⟨xs, ys, q.1, q.2, .inl (by omega)⟩, ?_⟩
  rintro i H v H' _ q ⟨T, x, z, h1, h2, h3, h4, h5⟩
  exact ⟨T, x, z, h1, h2, h3, h4 xs q.1, h5 ys q.2⟩
section
variable {P : Program} {w : World} {K : PySem.W.Frag} {mg : Str → Option Value} {base : Heap}
def spSame : Nat → Sp
  | 0 => fun _ _ _ _ => False
  | n + 1 => fun vs H Q _ => ∃ (bx : Addr) (v u : V) (d : PyData), vs = [v, u] ∧ Rp bx H v d ∧ Rp bx H u d ∧ okD n d ∧ ∀ H', Same H H' → Q (.bl true) H'
theorem ok_same (T : Txt K mg) : ∀ n, FnOk P w K mg base CX0 n T.f_same T.fd_same ["_law_found", "_law_due"] (spSame n)
  | 0 => ⟨fun _ _ _ _ h => h.elim, fun _ _ _ _ _ _ _ _ _ _ _ _ _ h => h.elim⟩
  | n + 1 => by
    have G_same : FnOk P w K mg base CX0 n T.f_same T.fd_same ["_law_found", "_law_due"] (spSame n) := ok_same T n
    refine T.F_same.ok sc_same (fun vs H Q E h => ?_) (fun cdv A outer s H vs Q E hr h => ?_)
    · obtain ⟨bx, v, u, d, rfl, _⟩ := h
      rfl
    · obtain ⟨bx, v, u, d, rfl, hv, hu, hd, q⟩ := h
      refine ⟨_, (pss_cons (ps_if (pt_val (pe_callB call_isiT (by rfl) T.m_isinstance (by decide +kernel) (pa_cons (pv 1) (pa_cons (pe_tup (pa_cons (pe_bltn (v := .ty "list") (by rfl) T.m_list (by decide +kernel) rfl) (pa_cons (pe_bltn (v := .ty "tuple") (by rfl) T.m_tuple (by decide +kernel) rfl) pa_nil))) pa_nil))))
        (pss_cons (ps_if (PW.pt (pw_or (pt_cmpR op_ne (pe_callB call_isi (by rfl) T.m_isinstance (by decide +kernel) (pa_cons (pv 0) (pa_cons (pe_bltn (v := .ty "list") (by rfl) T.m_list (by decide +kernel) rfl) pa_nil))) (pe_callB call_isi (by rfl) T.m_isinstance (by decide +kernel) (pa_cons (pv 1) (pa_cons (pe_bltn (v := .ty "list") (by rfl) T.m_list (by decide +kernel) rfl) pa_nil))) (nomark _)) (pw_or1 (pt_cmpR op_ne (pe_callB call_isi (by rfl) T.m_isinstance (by decide +kernel) (pa_cons (pv 0) (pa_cons (pe_bltn (v := .ty "tuple") (by rfl) T.m_tuple (by decide +kernel) rfl) pa_nil))) (pe_callB call_isi (by rfl) T.m_isinstance (by decide +kernel) (pa_cons (pv 1) (pa_cons (pe_bltn (v := .ty "tuple") (by rfl) T.m_tuple (by decide +kernel) rfl) pa_nil))) (nomark _)))))
          (pss_one (ps_ret pe_bl))
          pss_nil)
        (pss_one (ps_ret (pe_and (pe_cmpR op_eq (pe_callB call_len_seq (by rfl) T.m_len (by decide +kernel) (pa_cons (pv 0) pa_nil)) (pe_callB call_len_seq (by rfl) T.m_len (by decide +kernel) (pa_cons (pv 1) pa_nil)) (nomark _)) (pe_one (pe_callB (cr_all rfl) (by rfl) T.m_all (by decide +kernel) (pa_cons (pe_lc (own := [("_law_one", 2), ("_law_two", 3)]) (g := gTup K 2 (gCons (gName 2) (gCons (gName 3) gNil))) (by rfl) sc_same.nd (RZ.pi_zipA (by rfl) T.m_zip (pa_cons (pv 0) (pa_cons (pv 1) pa_nil))) (blkOk_by (own := [("_law_one", 2), ("_law_two", 3)]) (N := n_same) (sc := defScope s_same) (by decide +kernel)) (fun _ _ _ _ _ => (pg_tup rfl (pgs_cons (pg_name (i := 2) sc_same.nd rfl (.inl rfl) (.inr rfl)) (pgs_cons (pg_name (i := 3) sc_same.nd rfl (.inl rfl) (.inr rfl)) pgs_nil)))) (fun _ _ _ _ _ => pts_nil) (fun _ _ _ _ _ => (pe_call G_same hr (by rfl) T.g_same T.F_same.kp T.b_same .nil pass0 (pa_cons (pv 2) (pa_cons (pv 3) pa_nil))))) pa_nil)))))))
        pss_nil)
      (pss_cons (ps_if (PW.pt (pw_or (pt_cmpR op_isN (pv 1) pe_non (nomark _)) (pw_or1 (pt_cmpR op_isN (pv 0) pe_non (nomark _)))))
        (pss_one (ps_ret (pe_and (pe_cmpR op_isN (pv 1) pe_non (nomark _)) (pe_one (pe_cmpR op_isN (pv 0) pe_non (nomark _))))))
        pss_nil)
      (pss_cons (ps_if (PW.pt (pw_or (pt_val (pe_callB call_isi (by rfl) T.m_isinstance (by decide +kernel) (pa_cons (pv 1) (pa_cons (pe_bltn (v := .ty "bool") (by rfl) T.m_bool (by decide +kernel) rfl) pa_nil)))) (pw_or1 (pt_val (pe_callB call_isi (by rfl) T.m_isinstance (by decide +kernel) (pa_cons (pv 1) (pa_cons (pe_bltn (v := .ty "str") (by rfl) T.m_str (by decide +kernel) rfl) pa_nil)))))))
        (pss_one (ps_ret (pe_and (pe_cmpR op_eq (pe_callB call_isi (by rfl) T.m_isinstance (by decide +kernel) (pa_cons (pv 0) (pa_cons (pe_bltn (v := .ty "bool") (by rfl) T.m_bool (by decide +kernel) rfl) pa_nil))) (pe_callB call_isi (by rfl) T.m_isinstance (by decide +kernel) (pa_cons (pv 1) (pa_cons (pe_bltn (v := .ty "bool") (by rfl) T.m_bool (by decide +kernel) rfl) pa_nil))) (nomark _)) (pe_one (pe_cmpR op_eq (pv 0) (pv 1) (nomark _))))))
        pss_nil)
      (pss_one (ps_ret (pe_and (pe_callB call_isi (by rfl) T.m_isinstance (by decide +kernel) (pa_cons (pv 0) (pa_cons (pe_bltn (v := .ty "int") (by rfl) T.m_int (by decide +kernel) rfl) pa_nil))) (pe_and (pe_not (pe_callB call_isi (by rfl) T.m_isinstance (by decide +kernel) (pa_cons (pv 0) (pa_cons (pe_bltn (v := .ty "bool") (by rfl) T.m_bool (by decide +kernel) rfl) pa_nil)))) (pe_one (pe_cmpR op_eq (pv 0) (pv 1) (nomark _)))))))))), ?_⟩
      have ty : ∀ {H' : Hp} {x : V}, Same H H' → Rp bx H x d → TyX K H' x (.type (tyD d)) := fun s h => (h.ext (Ext.of s)).ty
      have sz : ∀ {m : Nat}, m ≤ 1000 → m < sizeLine := fun h => small1000 h
      cases d with
      | none =>
        cases hv
        cases hu
        refine rd_isi2 (x := .non) (T := "NoneType") rfl (.base .non) (by decide +kernel : kitB "NoneType" "list" = some false) (by decide +kernel : kitB "NoneType" "tuple" = some false) (fun p hp => ?_) (fun p hp => .base .non)
        refine ⟨_, rfl, iteN rfl ?_⟩
        refine ⟨.non, rfl, rfl, _, rfl, iteP (decide_eq_true rfl) (iteP rfl ?_)⟩
        refine ⟨.non, rfl, rfl, _, rfl, iteP (decide_eq_true rfl) ?_⟩
        exact ⟨.non, rfl, rfl, blT (decide_eq_true rfl) (q _ (same_upd hp))⟩
      | bool b =>
        cases hv
        cases hu
        refine rd_isi2 (x := .bl b) (T := "bool") rfl (.base (.bl b)) (by decide +kernel : kitB "bool" "list" = some false) (by decide +kernel : kitB "bool" "tuple" = some false) (fun p hp => ?_) (fun p hp => .base (.bl b))
        refine ⟨_, rfl, iteN rfl ?_⟩
        refine ⟨.bl b, rfl, rfl, _, rfl, iteN (decide_eq_false (by intro z; cases z)) ⟨.bl b, rfl, rfl, _, rfl, iteN (decide_eq_false (by intro z; cases z)) ?_⟩⟩
        refine rd_isi (x := .bl b) (T := "bool") rfl (.base (.bl b)) (by decide +kernel : kitB "bool" "bool" = some true) ⟨_, rfl, iteP rfl (iteP rfl ?_)⟩
        refine rd_isi (x := .bl b) (T := "bool") rfl (.base (.bl b)) (by decide +kernel : kitB "bool" "bool" = some true) ?_
        refine rd_isi (x := .bl b) (T := "bool") rfl (.base (.bl b)) (by decide +kernel : kitB "bool" "bool" = some true) ⟨rfl, _, rfl, iteP (decide_eq_true rfl) ?_⟩
        exact ⟨.bl b, rfl, .bl b, rfl, rfl, blT (decide_eq_true rfl) (q _ (same_upd hp))⟩
      | int i =>
        cases hv
        cases hu
        refine rd_isi2 (x := .int i) (T := "int") rfl (.base (.int i)) (by decide +kernel : kitB "int" "list" = some false) (by decide +kernel : kitB "int" "tuple" = some false) (fun p hp => ?_) (fun p hp => .base (.int i))
        refine ⟨_, rfl, iteN rfl ?_⟩
        refine ⟨.int i, rfl, rfl, _, rfl, iteN (decide_eq_false (by intro z; cases z)) ⟨.int i, rfl, rfl, _, rfl, iteN (decide_eq_false (by intro z; cases z)) ?_⟩⟩
        refine rd_isi (x := .int i) (T := "int") rfl (.base (.int i)) (by decide +kernel : kitB "int" "bool" = some false) ⟨_, rfl, iteN rfl ?_⟩
        refine rd_isi (x := .int i) (T := "int") rfl (.base (.int i)) (by decide +kernel : kitB "int" "str" = some false) ⟨_, rfl, iteN rfl ?_⟩
        refine rd_isi (x := .int i) (T := "int") rfl (.base (.int i)) (by decide +kernel : kitB "int" "int" = some true) ⟨_, rfl, iteP rfl ?_⟩
        refine rd_isi (x := .int i) (T := "int") rfl (.base (.int i)) (by decide +kernel : kitB "int" "bool" = some false) ⟨_, rfl, _, rfl, iteP rfl ?_⟩
        exact ⟨.int i, rfl, .int i, rfl, rfl, blT (decide_eq_true rfl) (q _ (same_upd hp))⟩
      | str x =>
        cases hv
        cases hu
        refine rd_isi2 (x := .str x) (T := "str") rfl (.base (.str x)) (by decide +kernel : kitB "str" "list" = some false) (by decide +kernel : kitB "str" "tuple" = some false) (fun p hp => ?_) (fun p hp => .base (.str x))
        refine ⟨_, rfl, iteN rfl ?_⟩
        refine ⟨.str x, rfl, rfl, _, rfl, iteN (decide_eq_false (by intro z; cases z)) ⟨.str x, rfl, rfl, _, rfl, iteN (decide_eq_false (by intro z; cases z)) ?_⟩⟩
        refine rd_isi (x := .str x) (T := "str") rfl (.base (.str x)) (by decide +kernel : kitB "str" "bool" = some false) ⟨_, rfl, iteN rfl ?_⟩
        refine rd_isi (x := .str x) (T := "str") rfl (.base (.str x)) (by decide +kernel : kitB "str" "str" = some true) ⟨_, rfl, iteP rfl ?_⟩
        refine rd_isi (x := .str x) (T := "str") rfl (.base (.str x)) (by decide +kernel : kitB "str" "bool" = some false) ?_
        refine rd_isi (x := .str x) (T := "str") rfl (.base (.str x)) (by decide +kernel : kitB "str" "bool" = some false) ⟨rfl, _, rfl, iteP (decide_eq_true rfl) ?_⟩
        exact ⟨.str x, rfl, .str x, rfl, rfl, blT (decide_eq_true rfl) (q _ (same_upd hp))⟩
      | list ds =>
        cases n with
        | zero => exact hd.elim
        | succ n =>
        obtain ⟨hlen, hds⟩ := hd
        refine rd_isi2 (x := u) (T := "list") rfl hu.ty (by decide +kernel : kitB "list" "list" = some true) (by decide +kernel : kitB "list" "tuple" = some false) (fun p hp => ?_) (fun p hp => ty (same_upd hp) hu)
        have s1 := same_upd (o := .tup [.ty "list", .ty "tuple"]) hp
        refine ⟨_, rfl, iteP rfl ?_⟩
        refine rd_isi (x := v) (T := "list") rfl (ty s1 hv) (by decide +kernel : kitB "list" "list" = some true) ?_
        refine rd_isi (x := u) (T := "list") rfl (ty s1 hu) (by decide +kernel : kitB "list" "list" = some true) ⟨rfl, _, rfl, iteN rfl ?_⟩
        refine rd_isi (x := v) (T := "list") rfl (ty s1 hv) (by decide +kernel : kitB "list" "tuple" = some false) ?_
        refine rd_isi (x := u) (T := "list") rfl (ty s1 hu) (by decide +kernel : kitB "list" "tuple" = some false) ⟨rfl, _, rfl, iteN rfl ?_⟩
        have hv1 := hv.ext (Ext.of s1)
        have hu1 := hu.ext (Ext.of s1)
        generalize hH1 : upd H p (.tup [.ty "list", .ty "tuple"]) = H1 at *
        cases hv1 with
        | @lst a xs _ ha na rx =>
        cases hu1 with
        | @lst b ys _ hb nb ry =>
        have ex : xs.length = ds.length := rx.length
        have ey : ys.length = ds.length := ry.length
        refine ⟨.ref a, rfl, a, _, rfl, .inl (.inl (.inl ha)), .ref b, rfl, b, _, rfl, .inl (.inl (.inl hb)), rfl, _, rfl, iteP (decide_eq_true (by rw [ex, ey])) ?_⟩
        refine ⟨.ref a, rfl, .ref b, rfl, a, b, xs, ys, rfl, .inl ⟨.inl (.inl ha), .inl (.inl hb), fun D hD => ?_⟩⟩
        refine lc_it (walk_zip (xs := xs) (ys := ys) (n := ds.length) (by rw [ex, ey, Nat.min_self])) (fun i H3 => Same H1 H3 ∧ H3 D = some (.lst (List.replicate i (.bl true)))) ⟨same_upd hD, upd_same⟩ ?_ ?_ ?_
        · rintro i H3 _ ⟨sm, _⟩
          exact ⟨.inl (.inl (sm _ _ ha)), .inl (.inl (sm _ _ hb))⟩
        · rintro i x H3 H4 hi ⟨sm, hD3⟩ ⟨t, x1, x2, rfl, nt, rfl, e1, e2⟩
          have sT := same_upd (o := .tup [x1, x2]) nt
          refine ⟨t, _, rfl, .inl (.inl upd_same), rfl, _, _, rfl, _, _, rfl, rfl, rfl, yes (iteT ?_)⟩
          obtain ⟨z1, f1, r1⟩ := rx.get (List.getElem?_eq_getElem hi)
          obtain ⟨z2, f2, r2⟩ := ry.get (List.getElem?_eq_getElem hi)
          have g1 : x1 = z1 := Option.some.inj (e1.symm.trans f1)
          have g2 : x2 = z2 := Option.some.inj (e2.symm.trans f2)
          subst g1 g2
          refine ⟨x1, rfl, x2, rfl, bx, x1, x2, ds[i], rfl, r1.ext (Ext.of (sm.trans sT)), r2.ext (Ext.of (sm.trans sT)), hds _ (List.getElem_mem hi), fun H5 s5 => ?_⟩
          refine ⟨_, s5 _ _ (sT _ _ hD3), by rw [List.length_replicate]; exact sz (by omega), same_mut (sm.trans (sT.trans s5)) hD, ?_⟩
          rw [upd_same, List.replicate_succ']
        · rintro H3 ⟨sm, hD3⟩
          refine ⟨D, List.replicate ds.length true, rfl, .inl (.inl (by rw [hD3, List.map_replicate])), blT ?_ (q _ (s1.trans sm))⟩
          rw [List.all_eq_true]
          intro z hz
          rw [List.eq_of_mem_replicate hz]
          rfl
      | tuple ds =>
        cases n with
        | zero => exact hd.elim
        | succ n =>
        obtain ⟨hlen, hds⟩ := hd
        refine rd_isi2 (x := u) (T := "tuple") rfl hu.ty (by decide +kernel : kitB "tuple" "list" = some false) (by decide +kernel : kitB "tuple" "tuple" = some true) (fun p hp => ?_) (fun p hp => ty (same_upd hp) hu)
        have s1 := same_upd (o := .tup [.ty "list", .ty "tuple"]) hp
        refine ⟨_, rfl, iteP rfl ?_⟩
        refine rd_isi (x := v) (T := "tuple") rfl (ty s1 hv) (by decide +kernel : kitB "tuple" "list" = some false) ?_
        refine rd_isi (x := u) (T := "tuple") rfl (ty s1 hu) (by decide +kernel : kitB "tuple" "list" = some false) ⟨rfl, _, rfl, iteN rfl ?_⟩
        refine rd_isi (x := v) (T := "tuple") rfl (ty s1 hv) (by decide +kernel : kitB "tuple" "tuple" = some true) ?_
        refine rd_isi (x := u) (T := "tuple") rfl (ty s1 hu) (by decide +kernel : kitB "tuple" "tuple" = some true) ⟨rfl, _, rfl, iteN rfl ?_⟩
        have hv1 := hv.ext (Ext.of s1)
        have hu1 := hu.ext (Ext.of s1)
        generalize hH1 : upd H p (.tup [.ty "list", .ty "tuple"]) = H1 at *
        cases hv1 with
        | @tup a xs _ ha na rx =>
        cases hu1 with
        | @tup b ys _ hb nb ry =>
        have ex : xs.length = ds.length := rx.length
        have ey : ys.length = ds.length := ry.length
        refine ⟨.ref a, rfl, a, _, rfl, .inr ha.sq, .ref b, rfl, b, _, rfl, .inr hb.sq, rfl, _, rfl, iteP (decide_eq_true (by rw [ex, ey])) ?_⟩
        refine ⟨.ref a, rfl, .ref b, rfl, a, b, xs, ys, rfl, .inr ⟨ha.sq, hb.sq, fun D hD => ?_⟩⟩
        refine lc_it (walk_zipT (xs := xs) (ys := ys) (n := ds.length) ex ey) (fun i H3 => Same H1 H3 ∧ H3 D = some (.lst (List.replicate i (.bl true)))) ⟨same_upd hD, upd_same⟩ ?_ ?_ ?_
        · rintro i H3 _ ⟨sm, _⟩
          exact ⟨(ha.ext (Ext.of (bx := bx) sm) na).sq, (hb.ext (Ext.of (bx := bx) sm) nb).sq⟩
        · rintro i x H3 H4 hi ⟨sm, hD3⟩ ⟨t, x1, x2, rfl, nt, rfl, e1, e2⟩
          have sT := same_upd (o := .tup [x1, x2]) nt
          refine ⟨t, _, rfl, .inl (.inl upd_same), rfl, _, _, rfl, _, _, rfl, rfl, rfl, yes (iteT ?_)⟩
          obtain ⟨z1, f1, r1⟩ := rx.get (List.getElem?_eq_getElem hi)
          obtain ⟨z2, f2, r2⟩ := ry.get (List.getElem?_eq_getElem hi)
          have g1 : x1 = z1 := Option.some.inj (e1.symm.trans f1)
          have g2 : x2 = z2 := Option.some.inj (e2.symm.trans f2)
          subst g1 g2
          refine ⟨x1, rfl, x2, rfl, bx, x1, x2, ds[i], rfl, r1.ext (Ext.of (sm.trans sT)), r2.ext (Ext.of (sm.trans sT)), hds _ (List.getElem_mem hi), fun H5 s5 => ?_⟩
          refine ⟨_, s5 _ _ (sT _ _ hD3), by rw [List.length_replicate]; exact sz (by omega), same_mut (sm.trans (sT.trans s5)) hD, ?_⟩
          rw [upd_same, List.replicate_succ']
        · rintro H3 ⟨sm, hD3⟩
          refine ⟨D, List.replicate ds.length true, rfl, .inl (.inl (by rw [hD3, List.map_replicate])), blT ?_ (q _ (s1.trans sm))⟩
          rw [List.all_eq_true]
          intro z hz
          rw [List.eq_of_mem_replicate hz]
          rfl
      | dict kvs => cases hv
end
end Lh

namespace Lh
open PySem PySem.Spec PyProof.Rows L2
/-! ### rules -/
inductive Rule where
  | held (n : Int)
  | sum (own : Int) (ties : List (Int × Int))
  | cap (own : Int) (ties : List (Int × Int)) (most : Int)
  | kinds (own : Int) (seen : List Int)
  | next (seen : List Int)
  | free (seen : List Int)
/-- tuples stay -/
structure Keep (H H' : Hp) : Prop where
  tup : ∀ a xs, H a = some (.tup xs) → H' a = some (.tup xs)
  frz : ∀ a o u, H a = some (.frz o u) → H' a = some (.frz o u)
theorem Keep.refl (H : Hp) : Keep H H := ⟨fun _ _ h => h, fun _ _ _ h => h⟩
theorem Keep.trans {H H1 H2 : Hp} (a : Keep H H1) (b : Keep H1 H2) : Keep H H2 := ⟨fun x y h => b.tup x y (a.tup x y h), fun x y z h => b.frz x y z (a.frz x y z h)⟩
theorem Keep.same {H H' : Hp} (e : Same H H') : Keep H H' := ⟨fun a xs h => e a _ h, fun a o u h => e a _ h⟩
theorem Keep.ext {bx : Addr} {c : Int} {H H' : Hp} (e : Ext bx H H') (b : Box bx c H) : Keep H H' := by
  obtain ⟨x, y, z, hb, _⟩ := b
  exact ⟨fun a xs h => e a _ (ne_of h hb (by intro z; cases z)) h, fun a o u h => e a _ (ne_of h hb (by intro z; cases z)) h⟩
theorem TupAt.keep {H H' : Hp} {a : Addr} {xs : List V} (k : Keep H H') (h : TupAt H a xs) : TupAt H' a xs := by
  rcases h with h | ⟨o, d, h⟩
  · exact .inl (k.tup _ _ h)
  · exact .inr ⟨o, d, k.frz _ _ _ h⟩
def PairAtH (H : Hp) (p : Addr) (q : Int × Int) : Prop := H p = some (.tup [.int q.1, .int q.2])
def TiesAt (H : Hp) (t : Addr) (ties : List (Int × Int)) : Prop := ∃ (o : Obj) (ps : List Addr), o.dict = none ∧ H t = some (.frz o (.tup (ps.map V.ref))) ∧ Paired (PairAtH H) ps ties
def SeenAt (H : Hp) (t : Addr) (seen : List Int) : Prop := ∃ o : Obj, o.dict = none ∧ H t = some (.frz o (.tup (seen.map V.int)))
def RuleAt (H : Hp) (v : V) : Rule → Prop
  | .held n => ∃ a, v = .ref a ∧ H a = some (.tup [.str "held", .int n])
  | .sum own ties => ∃ a t, v = .ref a ∧ H a = some (.tup [.str "sum", .int own, .ref t]) ∧ TiesAt H t ties
  | .cap own ties most => ∃ a t, v = .ref a ∧ H a = some (.tup [.str "cap", .int own, .ref t, .int most]) ∧ TiesAt H t ties
  | .kinds own seen => ∃ a t, v = .ref a ∧ H a = some (.tup [.str "kinds", .int own, .ref t]) ∧ SeenAt H t seen
  | .next seen => ∃ a t, v = .ref a ∧ H a = some (.tup [.str "next", .ref t]) ∧ SeenAt H t seen
  | .free seen => ∃ a t, v = .ref a ∧ H a = some (.tup [.str "free", .ref t]) ∧ SeenAt H t seen
theorem pairs_keep {H H' : Hp} (k : Keep H H') : ∀ {ps : List Addr} {ties : List (Int × Int)}, Paired (PairAtH H) ps ties → Paired (PairAtH H') ps ties
  | _, _, .nil => .nil
  | _, _, .cons h r => .cons (k.tup _ _ h) (pairs_keep k r)
theorem TiesAt.keep {H H' : Hp} {t : Addr} {ties : List (Int × Int)} (k : Keep H H') (h : TiesAt H t ties) : TiesAt H' t ties := by
  obtain ⟨o, ps, h1, h2, h3⟩ := h
  exact ⟨o, ps, h1, k.frz _ _ _ h2, pairs_keep k h3⟩
theorem SeenAt.keep {H H' : Hp} {t : Addr} {seen : List Int} (k : Keep H H') (h : SeenAt H t seen) : SeenAt H' t seen := by
  obtain ⟨o, h1, h2⟩ := h
  exact ⟨o, h1, k.frz _ _ _ h2⟩
theorem RuleAt.keep {H H' : Hp} {v : V} (k : Keep H H') : ∀ {r : Rule}, RuleAt H v r → RuleAt H' v r
  | .held n, ⟨a, e, h⟩ => ⟨a, e, k.tup _ _ h⟩
  | .sum _ _, ⟨a, t, e, h, q⟩ => ⟨a, t, e, k.tup _ _ h, q.keep k⟩
  | .cap _ _ _, ⟨a, t, e, h, q⟩ => ⟨a, t, e, k.tup _ _ h, q.keep k⟩
  | .kinds _ _, ⟨a, t, e, h, q⟩ => ⟨a, t, e, k.tup _ _ h, q.keep k⟩
  | .next _, ⟨a, t, e, h, q⟩ => ⟨a, t, e, k.tup _ _ h, q.keep k⟩
  | .free _, ⟨a, t, e, h, q⟩ => ⟨a, t, e, k.tup _ _ h, q.keep k⟩
def smallI (i : Int) : Prop := 0 ≤ i ∧ i ≤ 1000000
/-- rising persons below many -/
def Rising (many : Int) (ns : List Int) : Prop := ns.Pairwise (· < ·) ∧ ∀ n ∈ ns, 0 ≤ n ∧ n < many
def Rule.Wf (many : Int) : Rule → Prop
  | .held n => smallI n
  | .sum own ties => smallI own ∧ Rising many (ties.map (·.1)) ∧ ∀ q ∈ ties, 1 ≤ q.2 ∧ q.2 ≤ 1000000
  | .cap own ties most => smallI own ∧ Rising many (ties.map (·.1)) ∧ (∀ q ∈ ties, 1 ≤ q.2 ∧ q.2 ≤ 1000000) ∧ smallI most
  | .kinds own seen => smallI own ∧ Rising many seen
  | .next seen => Rising many seen
  | .free seen => Rising many seen
def Rule.persons : Rule → List Int
  | .held _ => []
  | .sum _ ties => ties.map (·.1)
  | .cap _ ties _ => ties.map (·.1)
  | .kinds _ seen => seen
  | .next seen => seen
  | .free seen => seen
theorem Rising.sub {many : Int} {ns ms : List Int} (s : ms.Sublist ns) (h : Rising many ns) : Rising many ms := ⟨h.1.sublist s, fun n hn => h.2 n (s.subset hn)⟩
/-- an item of a written list -/
theorem pick {xs : List V} {i : Int} (h0 : 0 ≤ i) (h1 : i < xs.length) : ∃ v, v ∈ xs ∧ atI xs i = some v := by
  have hj : i.toNat < xs.length := by omega
  exact ⟨xs[i.toNat], List.getElem_mem hj, at_of (by omega) (List.getElem?_eq_getElem hj)⟩
section
variable {P : Program} {w : World} {K : PySem.W.Frag} {mg : Str → Option Value} {base : Heap}
def spSome : Sp := fun vs H Q _ => ∃ (bx p : Addr) (c m : Int) (ns : List Int), vs = [.ref bx, .ref p, .int m] ∧ 0 < m ∧ m ≤ 1000000 ∧ c + ns.length ≤ 1000000000 ∧ ns.length ≤ 1000 ∧ Box bx c H ∧ H p = some (.lst (ns.map V.int)) ∧ p ≠ bx ∧
  ∀ (q : Addr) (ms : List Int) (H' : Hp), Ext bx H H' → Box bx (c + ns.length) H' → H q = none → H' q = some (.lst (ms.map V.int)) → ms.Sublist ns → Q (.ref q) H'
theorem ok_some (T : Txt K mg) : FnOk P w K mg base CX0 2 T.f_some T.fd_some ["_law_box", "_law_pool", "_law_odds"] spSome := by
  have G_take := ok_take (P := P) (w := w) (base := base) T
  refine T.F_some.ok sc_some (fun vs H Q E h => ?_) (fun cdv A outer s H vs Q E hr h => ?_)
  · obtain ⟨bx, p, c, m, ns, rfl, _⟩ := h
    rfl
  · obtain ⟨bx, p, c, m, ns, rfl, m0, m1, c1, hl, hB, hp, np, q⟩ := h
    refine ⟨_, (pss_one (ps_ret (pe_lc (own := [("_law_one", 3)]) (g := gName 3) (by rfl) sc_some.nd (pi_list (pv 1)) (blkOk_by (own := [("_law_one", 3)]) (N := n_some) (sc := defScope s_some) (by decide +kernel)) (fun _ _ _ _ _ => (pg_name (i := 3) sc_some.nd rfl (.inl rfl) (.inr rfl))) (fun _ _ _ _ _ => (pts_one (pt_cmpR op_eq (pe_call G_take (hr.mono (by decide)) (by rfl) T.g_take T.F_take.kp T.b_take .nil pass0 (pa_cons (pv 0) (pa_cons (pv 2) pa_nil))) pe_int (nomark _)))) (fun _ _ _ _ _ => (pv 3))))), ?_⟩
    refine ⟨.ref p, rfl, p, rfl, ⟨_, .inl (.inl hp)⟩, fun D hD => ?_⟩
    have nD : D ≠ bx := hB.ne hD
    refine lc_it (walk_list (xs := ns.map V.int)) (fun i H3 => ∃ ms : List Int, Ext bx H H3 ∧ Box bx (c + i) H3 ∧ H3 D = some (.lst (ms.map V.int)) ∧ ms.Sublist (ns.take i)) ⟨[], (Ext.refl _).new hD, by simpa using hB.new hD, upd_same, List.nil_sublist _⟩ ?_ ?_ ?_
    · rintro i H3 _ ⟨ms, e, _⟩
      exact .inl (.inl (e _ _ np hp))
    · rintro i x H3 H4 hi ⟨ms, e, hb, hD3, sub⟩ ⟨rfl, hx⟩
      rw [List.length_map] at hi
      rw [List.getElem?_map, List.getElem?_eq_getElem hi] at hx
      have ex : x = .int ns[i] := (Option.some.inj hx).symm
      subst ex
      have tk : ns.take (i + 1) = ns.take i ++ [ns[i]] := by rw [List.take_add_one, List.getElem?_eq_getElem hi]; rfl
      have ml : ms.length ≤ i := Nat.le_trans sub.length_le (by rw [List.length_take]; omega)
      refine ⟨rfl, ?_⟩
      refine ⟨.ref bx, rfl, .int m, rfl, bx, c + i, m, rfl, m0, m1, by omega, hb, fun r H5 r0 r1 e5 b5 => ?_⟩
      have hD5 := e5 _ _ nD hD3
      have b6 : Box bx (c + (i + 1 : Nat)) H5 := b5.mono (by omega)
      refine ⟨rfl, _, rfl, ite2 (fun z => ?_) (fun z => ?_)⟩
      · refine ⟨.int ns[i], rfl, _, hD5, by rw [List.length_map]; exact small1000 (by omega), ms ++ [ns[i]], (e.trans e5).new hD, b6.at nD, ?_, ?_⟩
        · rw [upd_same, List.map_append]; rfl
        · rw [tk]; exact sub.append (List.Sublist.refl _)
      · refine ⟨ms, e.trans e5, b6, hD5, ?_⟩
        rw [tk]; exact sub.trans (List.sublist_append_left _ _)
    · rintro H3 ⟨ms, e, hb, hD3, sub⟩
      rw [List.length_map] at hb sub
      rw [List.take_length] at sub
      exact q D ms H3 e hb hD hD3 sub
end
end Lh

namespace Lh
open PySem PySem.Spec PyProof.Rows L2
section
variable {P : Program} {w : World} {K : PySem.W.Frag} {mg : Str → Option Value} {base : Heap}
theorem Paired.snoc {α β : Type} {R : α → β → Prop} {x : α} {y : β} (r : R x y) : ∀ {xs : List α} {ys : List β}, Paired R xs ys → Paired R (xs ++ [x]) (ys ++ [y])
  | _, _, .nil => .cons r .nil
  | _, _, .cons h t => .cons h (Paired.snoc r t)
def spSumRule : Sp := fun vs H Q _ => ∃ (bx p : Addr) (c far many : Int) (ns : List Int), vs = [.ref bx, .ref p, .int far] ∧ 0 < far ∧ far ≤ 999999 ∧ c + 2 * ns.length + 4 ≤ 1000000000 ∧ ns.length ≤ 1000 ∧ Box bx c H ∧ H p = some (.lst (ns.map V.int)) ∧ p ≠ bx ∧ Rising many ns ∧
  ∀ (v : V) (r : Rule) (H' : Hp), Ext bx H H' → Box bx (c + 2 * ns.length + 4) H' → RuleAt H' v r → r.Wf many → r.persons = ns → Q v H'
theorem ok_sum_rule (T : Txt K mg) : FnOk P w K mg base CX0 2 T.f_sum_rule T.fd_sum_rule ["_law_box", "_law_seen_here", "_law_far"] spSumRule := by
  have G_take := ok_take (P := P) (w := w) (base := base) T
  refine T.F_sum_rule.ok sc_sum_rule (fun vs H Q E h => ?_) (fun cdv A outer s H vs Q E hr h => ?_)
  · obtain ⟨bx, p, c, far, many, ns, rfl, _⟩ := h
    rfl
  · obtain ⟨bx, p, c, far, many, ns, rfl, f0, f1, c1, hl, hB, hp, np, rs, q⟩ := h
    refine ⟨_, (pss_cons (ps_set (i := 3) sc_sum_rule.nd rfl (.inl rfl) (pe_ix ix_list (pe_lst (pa_cons pe_int (pa_cons pe_int (pa_cons pe_int (pa_cons (pe_call G_take (hr.mono (by decide)) (by rfl) T.g_take T.F_take.kp T.b_take .nil pass0 (pa_cons (pv 0) (pa_cons pe_int pa_nil))) pa_nil))))) (pe_call G_take (hr.mono (by decide)) (by rfl) T.g_take T.F_take.kp T.b_take .nil pass0 (pa_cons (pv 0) (pa_cons pe_int pa_nil))) (fun _ _ => rfl)))
      (pss_cons (ps_set (i := 4) sc_sum_rule.nd rfl (.inl rfl) (pe_callTy call_tupleF (by rfl) T.m_tuple (by decide +kernel) (pa_cons (pe_lc (own := [("_law_one", 5)]) (g := gName 5) (by rfl) sc_sum_rule.nd (pi_list (pv 1)) (blkOk_by (own := [("_law_one", 5)]) (N := n_sum_rule) (sc := defScope s_sum_rule) (by decide +kernel)) (fun _ _ _ _ _ => (pg_name (i := 5) sc_sum_rule.nd rfl (.inl rfl) (.inr rfl))) (fun _ _ _ _ _ => pts_nil) (fun _ _ _ _ _ => (pe_tup (pa_cons (pv 5) (pa_cons (pe_ix (r := rIxL K) ix_list (pe_lst (pa_cons pe_int (pa_cons pe_int (pa_cons pe_int (pa_cons (pe_op op_add pe_int (pe_call G_take (hr.mono (by decide)) (by rfl) T.g_take T.F_take.kp T.b_take .nil pass0 (pa_cons (pv 0) (pa_cons (pv 2) pa_nil)))) pa_nil))))) (pe_call G_take (hr.mono (by decide)) (by rfl) T.g_take T.F_take.kp T.b_take .nil pass0 (pa_cons (pv 0) (pa_cons pe_int pa_nil))) (fun _ _ => rfl)) pa_nil))))) pa_nil)))
      (pss_one (ps_ret (pe_ifExp (pt_cmpR op_gt (pe_call G_take (hr.mono (by decide)) (by rfl) T.g_take T.F_take.kp T.b_take .nil pass0 (pa_cons (pv 0) (pa_cons pe_int pa_nil))) pe_int (nomark _)) (pe_tup (pa_cons pe_str (pa_cons (pv 3) (pa_cons (pv 4) pa_nil)))) (pe_tup (pa_cons pe_str (pa_cons (pv 3) (pa_cons (pv 4) (pa_cons (pe_call G_take (hr.mono (by decide)) (by rfl) T.g_take T.F_take.kp T.b_take .nil pass0 (pa_cons (pv 0) (pa_cons pe_int pa_nil))) pa_nil)))))))))), ?_⟩
    -- the own number
    refine ⟨.ref bx, rfl, bx, c, 4, rfl, by decide, by decide, by omega, hB, fun r1 H1 r10 r11 e1 b1 => ⟨by show 4 ≤ sizeLine; decide, fun l hl1 => ?_⟩⟩
    have nl : l ≠ bx := b1.ne hl1
    refine ⟨.ref bx, rfl, bx, c + 1, 4, rfl, by decide, by decide, by omega, b1.new hl1, fun r2 H2 r20 r21 e2 b2 => ?_⟩
    obtain ⟨v0, m0, a0⟩ := pick (xs := [V.int 0, .int 0, .int 1, .int r1]) r20 (by simpa using r21)
    have hl2 : H2 l = some (.lst [V.int 0, .int 0, .int 1, .int r1]) := e2 _ _ nl upd_same
    refine ⟨l, _, r2, v0, rfl, rfl, .inl (.inl hl2), a0, ?_⟩
    obtain ⟨own, rfl, o1⟩ : ∃ own : Int, v0 = .int own ∧ smallI own := by
      simp only [List.mem_cons, List.not_mem_nil, or_false] at m0
      rcases m0 with rfl | rfl | rfl | rfl
      · exact ⟨0, rfl, by decide, by decide⟩
      · exact ⟨0, rfl, by decide, by decide⟩
      · exact ⟨1, rfl, by decide, by decide⟩
      · exact ⟨r1, rfl, r10, by omega⟩
    have eX : Ext bx H H2 := (e1.trans ((Ext.refl _).new hl1)).trans e2
    have hp2 := eX _ _ np hp
    -- the ties
    refine ⟨.ref p, rfl, p, rfl, ⟨_, .inl (.inl hp2)⟩, fun D hD => ?_⟩
    have nD : D ≠ bx := b2.ne hD
    refine lc_it (walk_list (xs := ns.map V.int)) (fun i H3 => ∃ (ps : List Addr) (ties : List (Int × Int)), Ext bx H2 H3 ∧ Box bx (c + 2 + 2 * i) H3 ∧ H3 D = some (.lst (ps.map V.ref)) ∧ Paired (PairAtH H3) ps ties ∧ ties.map (·.1) = ns.take i ∧ ∀ q ∈ ties, 1 ≤ q.2 ∧ q.2 ≤ 1000000)
      ⟨[], [], (Ext.refl _).new hD, (b2.new hD).mono (by omega), upd_same, .nil, rfl, fun q h => absurd h (by simp)⟩ ?_ ?_ ?_
    · rintro i H3 _ ⟨ps, ties, e, _⟩
      exact .inl (.inl (e _ _ np hp2))
    · rintro i x H3 H4 hi ⟨ps, ties, e, hb, hD3, pr, tf, tw⟩ ⟨rfl, hx⟩
      rw [List.length_map] at hi
      rw [List.getElem?_map, List.getElem?_eq_getElem hi] at hx
      have ex : x = .int ns[i] := (Option.some.inj hx).symm
      subst ex
      have tk : ns.take (i + 1) = ns.take i ++ [ns[i]] := by rw [List.take_add_one, List.getElem?_eq_getElem hi]; rfl
      have pl : ps.length = i := by
        have h1 : ps.length = ties.length := pr.length
        have h2 := congrArg List.length tf
        rw [List.length_map, List.length_take] at h2
        omega
      refine ⟨rfl, yes (iteT ?_)⟩
      refine ⟨.int ns[i], rfl, .ref bx, rfl, .int far, rfl, bx, c + 2 + 2 * i, far, rfl, f0, by omega, by omega, hb, fun r5 H5 r50 r51 e5 b5 => ⟨1, r5, rfl, rfl, by show 4 ≤ sizeLine; decide, fun l5 hl5 => ?_⟩⟩
      have nl5 : l5 ≠ bx := b5.ne hl5
      refine ⟨.ref bx, rfl, bx, c + 2 + 2 * i + 1, 4, rfl, by decide, by decide, by omega, b5.new hl5, fun r6 H6 r60 r61 e6 b6 => ?_⟩
      obtain ⟨v6, m6, a6⟩ := pick (xs := [V.int 1, .int 1, .int 2, .int (1 + r5)]) r60 (by simpa using r61)
      have hl6 : H6 l5 = some (.lst [V.int 1, .int 1, .int 2, .int (1 + r5)]) := e6 _ _ nl5 upd_same
      obtain ⟨wt, rfl, w1⟩ : ∃ wt : Int, v6 = .int wt ∧ 1 ≤ wt ∧ wt ≤ 1000000 := by
        simp only [List.mem_cons, List.not_mem_nil, or_false] at m6
        rcases m6 with rfl | rfl | rfl | rfl
        · exact ⟨1, rfl, by decide, by decide⟩
        · exact ⟨1, rfl, by decide, by decide⟩
        · exact ⟨2, rfl, by decide, by decide⟩
        · exact ⟨1 + r5, rfl, by omega, by omega⟩
      refine ⟨l5, _, r6, _, rfl, rfl, .inl (.inl hl6), a6, by show 2 ≤ sizeLine; decide, fun t ht => ?_⟩
      have k36 : Keep H4 H6 := (Keep.ext e5 hb).trans ((Keep.same (same_upd hl5)).trans (Keep.ext e6 (b5.new hl5)))
      have e36 : Ext bx H4 H6 := (e5.trans ((Ext.refl _).new hl5)).trans e6
      have hD6 := e36 _ _ nD hD3
      refine ⟨_, by rw [upd_ne (ne_of_none hD6 ht)]; exact hD6, by rw [List.length_map]; exact small1000 (by omega), ps ++ [t], ties ++ [(ns[i], wt)], ?_, ?_, ?_, ?_, ?_, ?_⟩
      · exact ((e.trans e36).trans ((Ext.refl _).new ht)).new hD
      · exact ((b6.new ht).at nD).mono (by omega)
      · rw [upd_same, List.map_append]; rfl
      · have ntD : t ≠ D := (ne_of_none hD6 ht).symm
        have kT : Keep H6 (upd (upd H6 t (.tup [.int ns[i], .int wt])) D (.lst (ps.map V.ref ++ [.ref t]))) := by
          refine ⟨fun a xs h => ?_, fun a o u h => ?_⟩
          · rw [upd_ne (ne_of h hD6 (by intro z; cases z)), upd_ne (ne_of_none h ht)]; exact h
          · rw [upd_ne (ne_of h hD6 (by intro z; cases z)), upd_ne (ne_of_none h ht)]; exact h
        refine Paired.snoc ?_ (pairs_keep (k36.trans kT) pr)
        show upd (upd H6 t _) D _ t = _
        rw [upd_ne ntD, upd_same]
      · rw [List.map_append, tf, tk]; rfl
      · intro q hq
        rcases List.mem_append.mp hq with hq | hq
        · exact tw q hq
        · rw [List.mem_singleton.mp hq]; exact w1
    · rintro H3 ⟨ps, ties, e, hb, hD3, pr, tf, tw⟩
      rw [List.length_map] at hb tf
      rw [List.take_length] at tf
      refine ⟨D, _, rfl, .inl (.inl hD3), fun t o nt od => ?_⟩
      have nt2 : t ≠ bx := hb.ne nt
      have b4 := hb.new (o := .frz o (.tup (ps.map V.ref))) nt
      -- sum or cap
      refine ⟨.ref bx, rfl, bx, _, 4, rfl, by decide, by decide, ?_, b4, fun r5 H5 r50 r51 e5 b5 => ?_⟩
      · omega
      have k5 := Keep.ext e5 b4
      have tA : TiesAt H5 t ties := ⟨o, ps, od, k5.frz _ _ _ upd_same, pairs_keep ((Keep.same (same_upd nt)).trans k5) pr⟩
      have eA : Ext bx H H5 := ((eX.trans e).trans ((Ext.refl _).new nt)).trans e5
      refine ⟨_, 0, rfl, rfl, _, rfl, ite2 (fun z => ?_) (fun z => ?_)⟩
      · refine ⟨.int own, rfl, .ref t, rfl, by show 3 ≤ sizeLine; decide, fun a ha => ?_⟩
        refine q (.ref a) (.sum own ties) _ (eA.trans ((Ext.refl _).new ha)) ((b5.new ha).mono (by omega)) ⟨a, t, rfl, upd_same, tA.keep (Keep.same (same_upd ha))⟩ ⟨o1, by rw [tf]; exact rs, tw⟩ tf
      · refine ⟨.int own, rfl, .ref t, rfl, .ref bx, rfl, bx, _, 6, rfl, by decide, by decide, ?_, b5, fun r6 H6 r60 r61 e6 b6 => ⟨by show 4 ≤ sizeLine; decide, fun a ha => ?_⟩⟩
        · omega
        refine q (.ref a) (.cap own ties r6) _ ((eA.trans e6).trans ((Ext.refl _).new ha)) ((b6.new ha).mono (by omega)) ⟨a, t, rfl, upd_same, (tA.keep (Keep.ext e6 b5)).keep (Keep.same (same_upd ha))⟩ ⟨o1, by rw [tf]; exact rs, tw, r60, by omega⟩ tf
end
end Lh

namespace Lh
open PySem PySem.Spec PyProof.Rows L2
section
variable {P : Program} {w : World} {K : PySem.W.Frag} {mg : Str → Option Value} {base : Heap}
def spRule : Sp := fun vs H Q _ => ∃ (bx p : Addr) (c far many : Int) (m : V) (ns : List Int), vs = [.ref bx, m, .ref p, .int far] ∧ 0 < far ∧ far ≤ 999999 ∧ c + 3 * ns.length + 6 ≤ 1000000000 ∧ ns.length ≤ 1000 ∧ Box bx c H ∧ H p = some (.lst (ns.map V.int)) ∧ p ≠ bx ∧ Rising many ns ∧
  ∀ (v : V) (r : Rule) (H' : Hp), Ext bx H H' → Box bx (c + 3 * ns.length + 6) H' → RuleAt H' v r → r.Wf many → r.persons.Sublist ns → Q v H'
theorem ok_rule (T : Txt K mg) : FnOk P w K mg base CX0 3 T.f_rule T.fd_rule ["_law_box", "_law_many", "_law_pool", "_law_far"] spRule := by
  have G_take := ok_take (P := P) (w := w) (base := base) T
  have G_some := ok_some (P := P) (w := w) (base := base) T
  have G_sum_rule := ok_sum_rule (P := P) (w := w) (base := base) T
  refine T.F_rule.ok sc_rule (fun vs H Q E h => ?_) (fun cdv A outer s H vs Q E hr h => ?_)
  · obtain ⟨bx, p, c, far, many, m, ns, rfl, _⟩ := h
    rfl
  · obtain ⟨bx, p, c, far, many, m, ns, rfl, f0, f1, c1, hl, hB, hp, np, rs, q⟩ := h
    refine ⟨_, (pss_cons (ps_par (i := 4) (j := 5) (by rfl) sc_rule.nd rfl rfl (by decide) rfl rfl (pa_cons (pe_call G_some (hr.mono (by decide)) (by rfl) T.g_some T.F_some.kp T.b_some .nil pass0 (pa_cons (pv 0) (pa_cons (pv 2) (pa_cons pe_int pa_nil)))) (pa_cons (pe_call G_take (hr.mono (by decide)) (by rfl) T.g_take T.F_take.kp T.b_take .nil pass0 (pa_cons (pv 0) (pa_cons pe_int pa_nil))) pa_nil)) (by rfl))
      (pss_cons (ps_if (pt_cmpR op_eq (pv 5) pe_int (nomark _))
        (pss_one (ps_ret (pe_tup (pa_cons pe_str (pa_cons (pe_call G_take (hr.mono (by decide)) (by rfl) T.g_take T.F_take.kp T.b_take .nil pass0 (pa_cons (pv 0) (pa_cons pe_int pa_nil))) pa_nil)))))
        pss_nil)
      (pss_cons (ps_if (pt_cmpR op_eq (pv 5) pe_int (nomark _))
        (pss_one (ps_ret (pe_tup (pa_cons pe_str (pa_cons (pe_call G_take (hr.mono (by decide)) (by rfl) T.g_take T.F_take.kp T.b_take .nil pass0 (pa_cons (pv 0) (pa_cons pe_int pa_nil))) (pa_cons (pe_callTy call_tupleF (by rfl) T.m_tuple (by decide +kernel) (pa_cons (pv 4) pa_nil)) pa_nil))))))
        pss_nil)
      (pss_cons (ps_if (pt_cmpR op_eq (pv 5) pe_int (nomark _))
        (pss_one (ps_ret (pe_tup (pa_cons pe_str (pa_cons (pe_callTy call_tupleF (by rfl) T.m_tuple (by decide +kernel) (pa_cons (pv 4) pa_nil)) pa_nil)))))
        pss_nil)
      (pss_one (ps_ret (pe_ifExp (pt_cmpR op_eq (pv 5) pe_int (nomark _)) (pe_tup (pa_cons pe_str (pa_cons (pe_callTy call_tupleF (by rfl) T.m_tuple (by decide +kernel) (pa_cons (pv 4) pa_nil)) pa_nil))) (pe_call G_sum_rule (hr.mono (by decide)) (by rfl) T.g_sum_rule T.F_sum_rule.kp T.b_sum_rule .nil pass0 (pa_cons (pv 0) (pa_cons (pv 4) (pa_cons (pv 3) pa_nil))))))))))), ?_⟩
    refine ⟨.ref bx, rfl, .ref p, rfl, bx, p, c, 2, ns, rfl, by decide, by decide, by omega, hl, hB, hp, np, fun z ms H1 e1 b1 nz hz sub => ?_⟩
    have nz2 : z ≠ bx := hB.ne nz
    have ml := sub.length_le
    refine ⟨.ref bx, rfl, bx, _, 10, rfl, by decide, by decide, by omega, b1, fun r2 H2 r20 r21 e2 b2 => ⟨_, _, rfl, ?_⟩⟩
    have hz2 := e2 _ _ nz2 hz
    have eX := e1.trans e2
    refine ⟨.int r2, rfl, rfl, _, rfl, ite2 (fun w0 => ?_) (fun w0 => ?_)⟩
    · refine ⟨.ref bx, rfl, bx, _, 7, rfl, by decide, by decide, by omega, b2, fun r3 H3 r30 r31 e3 b3 => ⟨by show 2 ≤ sizeLine; decide, fun a ha => ?_⟩⟩
      exact q (.ref a) (.held r3) _ ((eX.trans e3).trans ((Ext.refl _).new ha)) ((b3.new ha).mono (by omega)) ⟨a, rfl, upd_same⟩ ⟨r30, by omega⟩ (List.nil_sublist _)
    refine ⟨.int r2, rfl, rfl, _, rfl, ite2 (fun w1 => ?_) (fun w1 => ?_)⟩
    · refine ⟨.ref bx, rfl, bx, _, 3, rfl, by decide, by decide, by omega, b2, fun r3 H3 r30 r31 e3 b3 => ?_⟩
      refine ⟨.ref z, rfl, z, _, rfl, .inl (.inl (e3 _ _ nz2 hz2)), fun t o nt od => ⟨by show 3 ≤ sizeLine; decide, fun a ha => ?_⟩⟩
      exact q (.ref a) (.kinds r3 ms) _ (((eX.trans e3).trans ((Ext.refl _).new nt)).trans ((Ext.refl _).new ha)) (((b3.new nt).new ha).mono (by omega)) ⟨a, t, rfl, upd_same, o, od, by rw [upd_ne (ne_of_none upd_same ha)]; exact upd_same⟩ ⟨⟨r30, by omega⟩, rs.sub sub⟩ sub
    refine ⟨.int r2, rfl, rfl, _, rfl, ite2 (fun w2 => ?_) (fun w2 => ?_)⟩
    · refine ⟨.ref z, rfl, z, _, rfl, .inl (.inl hz2), fun t o nt od => ⟨by show 2 ≤ sizeLine; decide, fun a ha => ?_⟩⟩
      exact q (.ref a) (.next ms) _ ((eX.trans ((Ext.refl _).new nt)).trans ((Ext.refl _).new ha)) (((b2.new nt).new ha).mono (by omega)) ⟨a, t, rfl, upd_same, o, od, by rw [upd_ne (ne_of_none upd_same ha)]; exact upd_same⟩ (rs.sub sub) sub
    refine ⟨.int r2, rfl, rfl, _, rfl, ite2 (fun w3 => ?_) (fun w3 => ?_)⟩
    · refine ⟨.ref z, rfl, z, _, rfl, .inl (.inl hz2), fun t o nt od => ⟨by show 2 ≤ sizeLine; decide, fun a ha => ?_⟩⟩
      exact q (.ref a) (.free ms) _ ((eX.trans ((Ext.refl _).new nt)).trans ((Ext.refl _).new ha)) (((b2.new nt).new ha).mono (by omega)) ⟨a, t, rfl, upd_same, o, od, by rw [upd_ne (ne_of_none upd_same ha)]; exact upd_same⟩ (rs.sub sub) sub
    · refine ⟨.ref bx, rfl, .ref z, rfl, .int far, rfl, bx, z, _, far, many, ms, rfl, f0, f1, ?_, by omega, b2, hz2, nz2, rs.sub sub, fun v r H3 e3 b3 ra wf pe => ?_⟩
      · omega
      · exact q v r H3 (eX.trans e3) (b3.mono (by omega)) ra wf (by rw [pe]; exact sub)
end
end Lh

namespace Lh
open PySem PySem.Spec PyProof.Rows L2
/-! ### what a rule tells -/
theorem nodup_len {α : Type} [DecidableEq α] : ∀ (xs ys : List α), xs.Nodup → (∀ x ∈ xs, x ∈ ys) → xs.length ≤ ys.length
  | [], _, _, _ => Nat.zero_le _
  | x :: t, ys, nd, h => by
    have hx : x ∈ ys := h x List.mem_cons_self
    have nt := List.nodup_cons.mp nd
    have h2 := nodup_len t (ys.erase x) nt.2 (fun y hy => by
      have ne : y ≠ x := fun e => nt.1 (by rw [← e]; exact hy)
      exact (List.mem_erase_of_ne ne).mpr (h y (List.mem_cons_of_mem _ hy)))
    rw [List.length_erase_of_mem hx] at h2
    have : 0 < ys.length := List.length_pos_of_mem hx
    rw [List.length_cons]
    omega
def wgt (ties : List (Int × Int)) (p : Int) : Int := ((ties.find? fun q => decide (q.1 = p)).map (·.2)).getD 0
def IsMex (ns : List Int) (x : Int) : Prop := x ∉ ns ∧ 0 ≤ x ∧ ∀ j, 0 ≤ j → j < x → j ∈ ns
def Tell : Rule → List (Int × Int) → Int → Prop
  | .held n, _, x => x = n
  | .sum own ties, lot, x => x = own + (lot.map fun q => wgt ties q.1).sum
  | .cap own ties most, lot, x => x = min (own + (lot.map fun q => wgt ties q.1).sum) most
  | .kinds own _, lot, x => ∃ ks : List Int, ks.Nodup ∧ (∀ k, k ∈ ks ↔ k ∈ lot.map (·.2)) ∧ x = own + ks.length
  | .next _, lot, x => (lot = [] ∧ x = 0) ∨ (x - 1 ∈ lot.map (·.2) ∧ ∀ y ∈ lot.map (·.2), y ≤ x - 1)
  | .free _, lot, x => IsMex (lot.map (·.2)) x
theorem Tell.unique : ∀ {r : Rule} {lot : List (Int × Int)} {x y : Int}, Tell r lot x → Tell r lot y → x = y
  | .held _, _, _, _, h, k => h.trans k.symm
  | .sum _ _, _, _, _, h, k => h.trans k.symm
  | .cap _ _ _, _, _, _, h, k => h.trans k.symm
  | .kinds _ _, lot, x, y, ⟨a, na, ma, ha⟩, ⟨b, nb, mb, hb⟩ => by
    have h1 := nodup_len a b na (fun z hz => (mb z).mpr ((ma z).mp hz))
    have h2 := nodup_len b a nb (fun z hz => (ma z).mpr ((mb z).mp hz))
    omega
  | .next _, lot, x, y, h, k => by
    rcases h with ⟨h1, h2⟩ | ⟨h1, h2⟩
    · rcases k with ⟨k1, k2⟩ | ⟨k1, k2⟩
      · omega
      · rw [h1] at k1; exact absurd k1 (by simp)
    · rcases k with ⟨k1, k2⟩ | ⟨k1, k2⟩
      · rw [k1] at h1; exact absurd h1 (by simp)
      · have := h2 _ k1; have := k2 _ h1; omega
  | .free _, lot, x, y, ⟨h1, h2, h3⟩, ⟨k1, k2, k3⟩ => by
    rcases Int.lt_trichotomy x y with h | h | h
    · exact absurd (k3 x h2 h) h1
    · exact h
    · exact absurd (h3 y k2 h) k1
/-! ### dicts of ties -/
def kvOf (ties : List (Int × Int)) : List (Key × V) := ties.map fun q => (Sum.inl q.1, V.int q.2)
theorem merge_new : ∀ (more acc : List (Key × V)), ((acc ++ more).map (·.1)).Nodup → mergeK acc more = acc ++ more
  | [], acc, _ => by rw [List.append_nil]; rfl
  | q :: t, acc, nd => by
    have hq : (acc.any fun kv => decide (kv.1 = q.1)) = false := by
      rw [List.any_eq_false]
      intro kv hkv e
      have e' : kv.1 = q.1 := of_decide_eq_true e
      rw [List.map_append, List.nodup_append] at nd
      exact nd.2.2 _ (List.mem_map_of_mem hkv) q.1 (by simp) e'
    have e1 : mergeK acc (q :: t) = mergeK (putK acc q.1 q.2) t := rfl
    have e2 : putK acc q.1 q.2 = acc ++ [q] := by
      unfold putK
      rw [hq, if_neg Bool.false_ne_true]
    rw [e1, e2, merge_new t (acc ++ [q]) (by rw [List.append_assoc]; exact nd), List.append_assoc]
    rfl
theorem kv_nodup {ties : List (Int × Int)} (h : (ties.map (·.1)).Nodup) : ((kvOf ties).map (·.1)).Nodup := by
  unfold kvOf
  rw [List.map_map]
  have e : ((fun q : Key × V => q.1) ∘ fun q : Int × Int => ((Sum.inl q.1 : Key), V.int q.2)) = (fun n : Int => (Sum.inl n : Key)) ∘ (fun q : Int × Int => q.1) := rfl
  rw [e, ← List.map_map, List.nodup_iff_pairwise_ne]
  rw [List.nodup_iff_pairwise_ne] at h
  exact List.Pairwise.map _ (fun a b z q => z (Sum.inl.inj q)) h
theorem kv_get : ∀ {ties : List (Int × Int)} {p : Int}, p ∈ ties.map (·.1) → valV (kvOf ties) (Sum.inl p) = some (.int (wgt ties p))
  | [], p, h => absurd h (by simp)
  | q :: t, p, h => by
    by_cases e : q.1 = p
    · have e1 : valV (kvOf (q :: t)) (Sum.inl p) = some (V.int q.2) := valV_pos (p := ((Sum.inl q.1 : Key), V.int q.2)) (by rw [e])
      rw [e1]
      unfold wgt
      rw [List.find?_cons, decide_eq_true e]
      rfl
    · have e1 : valV (kvOf (q :: t)) (Sum.inl p) = valV (kvOf t) (Sum.inl p) := valV_neg (p := ((Sum.inl q.1 : Key), V.int q.2)) (fun z => e (Sum.inl.inj z))
      have h' : p ∈ t.map (·.1) := by
        rw [List.map_cons, List.mem_cons] at h
        rcases h with h | h
        · exact absurd h.symm e
        · exact h
      rw [e1, kv_get h']
      unfold wgt
      rw [List.find?_cons, decide_eq_false e]
theorem Rising.nodup {many : Int} {ns : List Int} (h : Rising many ns) : ns.Nodup := by
  rw [List.nodup_iff_pairwise_ne]
  exact h.1.imp fun z => by omega
/-! ### a walk over pairs -/
theorem walk_tupR {K : PySem.W.Frag} {t : Addr} (ps : List Addr) : Walk (Itt K t) ps.length (fun H => SqT K H t (ps.map V.ref)) (YAt (ps.map V.ref)) := by
  have h := walk_tup (K := K) (a := t) (xs := ps.map V.ref)
  rw [List.length_map] at h
  exact h
theorem walk_listR {K : PySem.W.Frag} {t : Addr} (ps : List Addr) : Walk (Itl K t) ps.length (fun H => SqL K H t (ps.map V.ref)) (YAt (ps.map V.ref)) := by
  have h := walk_list (K := K) (a := t) (xs := ps.map V.ref)
  rw [List.length_map] at h
  exact h
theorem lc_pairs {K : PySem.W.Frag} {J : It} {G : Hp → Prop} {ps : List Addr} {lot : List (Int × Int)} {H1 : Hp} {D : Addr} {σ : L2.St} {vs : List Nat} {te : TE} {Qd : Hp → Prop} {i j : Nat} (f : Int × Int → Int)
    (wk : Walk J ps.length G (YAt (ps.map V.ref))) (hp : Paired (PairAtH H1) ps lot) (hD : H1 D = none) (hl : ps.length ≤ 1000) (hG : ∀ H3, Same H1 H3 → G H3)
    (hw : ∀ a b, wipe (((wipe σ vs).set i a).set j b) vs = wipe σ vs)
    (he : ∀ q ∈ lot, ∀ H3, Same H1 H3 → ∀ Q : VK, Q (.int (f q)) H3 → te (((wipe σ vs).set i (some (.int q.1))).set j (some (.int q.2))) H3 Q)
    (hq : ∀ H', Same H1 H' → H' D = some (.lst ((lot.map f).map V.int)) → Qd H') :
    ∃ W : Nat → Nat → Hp → Prop, (∃ m, W 0 m (upd H1 D (.lst []))) ∧ ∀ i1 m H, W i1 m H →
      (J.stop i1 H ∧ Qd H) ∨ (J.go i1 H ∧ ∃ Nx : Hp → Prop, (∀ H', Nx H' → ∃ m', m' < m ∧ W (i1 + 1) m' H') ∧ ∀ x H', J.yld i1 H x H' → gTup K 2 (gCons (gName i) (gCons (gName j) gNil)) x (wipe σ vs) H' fun σ2 H2 => wipe σ2 vs = wipe σ vs ∧ tYes σ2 H2 fun b H3 =>
        if b = true then te σ2 H3 fun y H4 => ∃ acc, H4 D = some (.lst acc) ∧ acc.length < sizeLine ∧ Nx (upd H4 D (.lst (acc ++ [y]))) else Nx H3) := by
  have ll : ps.length = lot.length := hp.length
  refine lc_it wk (fun n H3 => Same H1 H3 ∧ H3 D = some (.lst (((lot.take n).map f).map V.int))) ⟨same_upd hD, upd_same⟩ (fun n H3 _ h => hG H3 h.1) ?_ ?_
  · rintro n x H3 H4 hn ⟨sm, h3⟩ ⟨rfl, hx⟩
    rw [List.getElem?_map, List.getElem?_eq_getElem hn] at hx
    have ex : x = .ref ps[n] := (Option.some.inj hx).symm
    subst ex
    have hn2 : n < lot.length := by omega
    have pa : PairAtH H1 ps[n] lot[n] := by
      have : ∀ {ps : List Addr} {lot : List (Int × Int)}, Paired (PairAtH H1) ps lot → ∀ (n : Nat) (h1 : n < ps.length) (h2 : n < lot.length), PairAtH H1 ps[n] lot[n] := by
        intro ps lot hp
        induction hp with
        | nil => intro n h1; exact absurd h1 (by simp)
        | cons r t ih =>
          intro n h1 h2
          cases n with
          | zero => exact r
          | succ n => exact ih n (by simpa using h1) (by simpa using h2)
      exact this hp n hn hn2
    refine ⟨ps[n], _, rfl, .inl (.inl (sm _ _ pa)), rfl, _, _, rfl, _, _, rfl, rfl, hw _ _, yes (iteT ?_)⟩
    refine he lot[n] (List.getElem_mem hn2) _ sm _ ⟨_, h3, ?_, same_mut sm hD, ?_⟩
    · rw [List.length_map, List.length_map, List.length_take]; exact small1000 (by omega)
    · rw [upd_same, List.take_add_one, List.getElem?_eq_getElem hn2, List.map_append, List.map_append]; rfl
  · rintro H3 ⟨sm, h3⟩
    rw [ll, List.take_length] at h3
    exact hq H3 sm h3
end Lh

namespace Lh
open PySem PySem.Spec PyProof.Rows L2
section
variable {P : Program} {w : World} {K : PySem.W.Frag} {mg : Str → Option Value} {base : Heap}
def spSeenBy : Sp := fun vs H Q _ => ∃ (v : V) (r : Rule), vs = [v] ∧ RuleAt H v r ∧ r.persons.length ≤ 1000 ∧ ∀ (p : Addr) (H' : Hp), Same H H' → H p = none → H' p = some (.lst (r.persons.map V.int)) → Q (.ref p) H'
theorem ok_seen_by (T : Txt K mg) : FnOk P w K mg base CX0 1 T.f_seen_by T.fd_seen_by ["rule"] spSeenBy := by
  refine T.F_seen_by.ok sc_seen_by (fun vs H Q E h => ?_) (fun cdv A outer s H vs Q E hr h => ?_)
  · obtain ⟨v, r, rfl, _⟩ := h
    rfl
  · obtain ⟨v, r, rfl, hv, hl, q⟩ := h
    refine ⟨_, (pss_cons (ps_set (i := 1) sc_seen_by.nd rfl (.inl rfl) (pe_ix ix_tup (pv 0) pe_int (fun _ _ => rfl)))
      (pss_cons (ps_if (pt_cmpR op_eq (pv 1) pe_str (nomark _))
        (pss_one (ps_ret (pe_lst pa_nil)))
        pss_nil)
      (pss_cons (ps_if (pt_cmpR op_in_seq (pv 1) (pe_tup (pa_cons pe_str (pa_cons pe_str pa_nil))) (by rfl))
        (pss_one (ps_ret (pe_lc (own := [("person", 2), ("weight", 3)]) (g := gTup K 2 (gCons (gName 2) (gCons (gName 3) gNil))) (by rfl) sc_seen_by.nd (pi_tup (pe_ix ix_tup (pv 0) pe_int (fun _ _ => rfl))) (blkOk_by (own := [("person", 2), ("weight", 3)]) (N := n_seen_by) (sc := defScope s_seen_by) (by decide +kernel)) (fun _ _ _ _ _ => (pg_tup rfl (pgs_cons (pg_name (i := 2) sc_seen_by.nd rfl (.inl rfl) (.inr rfl)) (pgs_cons (pg_name (i := 3) sc_seen_by.nd rfl (.inl rfl) (.inr rfl)) pgs_nil)))) (fun _ _ _ _ _ => pts_nil) (fun _ _ _ _ _ => (pv 2)))))
        pss_nil)
      (pss_cons (ps_if (pt_cmpR op_eq (pv 1) pe_str (nomark _))
        (pss_one (ps_ret (pe_callTy call_list_of (by rfl) T.m_list (by decide +kernel) (pa_cons (pe_ix ix_tup (pv 0) pe_int (fun _ _ => rfl)) pa_nil))))
        pss_nil)
      (pss_one (ps_ret (pe_callTy call_list_of (by rfl) T.m_list (by decide +kernel) (pa_cons (pe_ix ix_tup (pv 0) pe_int (fun _ _ => rfl)) pa_nil)))))))), ?_⟩
    cases r with
    | held n =>
      obtain ⟨a, rfl, ha⟩ := hv
      refine ⟨.ref a, rfl, a, _, 0, _, rfl, rfl, .inl (.inl ha), rfl, ?_⟩
      refine ⟨_, rfl, rfl, _, rfl, iteP (by decide +kernel) ?_⟩
      exact ⟨Nat.zero_le _, fun p np => q p _ (same_upd np) np upd_same⟩
    | sum own ties =>
      obtain ⟨a, t, rfl, ha, o, ps, od, ht, pr⟩ := hv
      have el : ps.length = ties.length := pr.length
      have hl2 : ps.length ≤ 1000 := by rw [el]; simpa [Rule.persons] using hl
      refine ⟨.ref a, rfl, a, _, 0, _, rfl, rfl, .inl (.inl ha), rfl, ?_⟩
      refine ⟨_, rfl, rfl, _, rfl, iteN (by decide +kernel) ?_⟩
      refine ⟨_, rfl, by show 2 ≤ sizeLine; decide, fun u hu => ⟨u, _, rfl, .inr (.inl (.inl upd_same)), rfl, rfl, _, rfl, iteP (by decide +kernel) ?_⟩⟩
      have s1 := same_upd (o := .tup [.str "sum", .str "cap"]) hu
      refine ⟨.ref a, rfl, a, _, 2, _, rfl, rfl, .inl (.inl (s1 _ _ ha)), rfl, t, rfl, ⟨_, .inl (.inr ⟨o, s1 _ _ ht⟩)⟩, fun D hD => ?_⟩
      refine lc_pairs (·.1) (walk_tupR ps) (pairs_keep (Keep.same s1) pr) hD hl2 (fun H3 s3 => .inl (.inr ⟨o, s3 _ _ (s1 _ _ ht)⟩)) (fun _ _ => rfl) (fun q _ H3 _ Q h => ⟨_, rfl, h⟩) (fun H3 s3 h3 => ?_)
      exact q D H3 (s1.trans s3) (s1.free hD) h3
    | cap own ties most =>
      obtain ⟨a, t, rfl, ha, o, ps, od, ht, pr⟩ := hv
      have el : ps.length = ties.length := pr.length
      have hl2 : ps.length ≤ 1000 := by rw [el]; simpa [Rule.persons] using hl
      refine ⟨.ref a, rfl, a, _, 0, _, rfl, rfl, .inl (.inl ha), rfl, ?_⟩
      refine ⟨_, rfl, rfl, _, rfl, iteN (by decide +kernel) ?_⟩
      refine ⟨_, rfl, by show 2 ≤ sizeLine; decide, fun u hu => ⟨u, _, rfl, .inr (.inl (.inl upd_same)), rfl, rfl, _, rfl, iteP (by decide +kernel) ?_⟩⟩
      have s1 := same_upd (o := .tup [.str "sum", .str "cap"]) hu
      refine ⟨.ref a, rfl, a, _, 2, _, rfl, rfl, .inl (.inl (s1 _ _ ha)), rfl, t, rfl, ⟨_, .inl (.inr ⟨o, s1 _ _ ht⟩)⟩, fun D hD => ?_⟩
      refine lc_pairs (·.1) (walk_tupR ps) (pairs_keep (Keep.same s1) pr) hD hl2 (fun H3 s3 => .inl (.inr ⟨o, s3 _ _ (s1 _ _ ht)⟩)) (fun _ _ => rfl) (fun q _ H3 _ Q h => ⟨_, rfl, h⟩) (fun H3 s3 h3 => ?_)
      exact q D H3 (s1.trans s3) (s1.free hD) h3
    | kinds own seen =>
      obtain ⟨a, t, rfl, ha, o, od, ht⟩ := hv
      refine ⟨.ref a, rfl, a, _, 0, _, rfl, rfl, .inl (.inl ha), rfl, ?_⟩
      refine ⟨_, rfl, rfl, _, rfl, iteN (by decide +kernel) ?_⟩
      refine ⟨_, rfl, by show 2 ≤ sizeLine; decide, fun u hu => ⟨u, _, rfl, .inr (.inl (.inl upd_same)), rfl, rfl, _, rfl, iteN (by decide +kernel) ?_⟩⟩
      have s1 := same_upd (o := .tup [.str "sum", .str "cap"]) hu
      refine ⟨_, rfl, rfl, _, rfl, iteP (by decide +kernel) ?_⟩
      refine ⟨.ref a, rfl, a, _, 2, _, rfl, rfl, .inl (.inl (s1 _ _ ha)), rfl, t, _, rfl, .inr (.inl (.inr ⟨o, s1 _ _ ht⟩)), fun p np => ?_⟩
      exact q p _ (s1.trans (same_upd np)) (s1.free np) upd_same
    | next seen =>
      obtain ⟨a, t, rfl, ha, o, od, ht⟩ := hv
      refine ⟨.ref a, rfl, a, _, 0, _, rfl, rfl, .inl (.inl ha), rfl, ?_⟩
      refine ⟨_, rfl, rfl, _, rfl, iteN (by decide +kernel) ?_⟩
      refine ⟨_, rfl, by show 2 ≤ sizeLine; decide, fun u hu => ⟨u, _, rfl, .inr (.inl (.inl upd_same)), rfl, rfl, _, rfl, iteN (by decide +kernel) ?_⟩⟩
      have s1 := same_upd (o := .tup [.str "sum", .str "cap"]) hu
      refine ⟨_, rfl, rfl, _, rfl, iteN (by decide +kernel) ?_⟩
      refine ⟨.ref a, rfl, a, _, 1, _, rfl, rfl, .inl (.inl (s1 _ _ ha)), rfl, t, _, rfl, .inr (.inl (.inr ⟨o, s1 _ _ ht⟩)), fun p np => ?_⟩
      exact q p _ (s1.trans (same_upd np)) (s1.free np) upd_same
    | free seen =>
      obtain ⟨a, t, rfl, ha, o, od, ht⟩ := hv
      refine ⟨.ref a, rfl, a, _, 0, _, rfl, rfl, .inl (.inl ha), rfl, ?_⟩
      refine ⟨_, rfl, rfl, _, rfl, iteN (by decide +kernel) ?_⟩
      refine ⟨_, rfl, by show 2 ≤ sizeLine; decide, fun u hu => ⟨u, _, rfl, .inr (.inl (.inl upd_same)), rfl, rfl, _, rfl, iteN (by decide +kernel) ?_⟩⟩
      have s1 := same_upd (o := .tup [.str "sum", .str "cap"]) hu
      refine ⟨_, rfl, rfl, _, rfl, iteN (by decide +kernel) ?_⟩
      refine ⟨.ref a, rfl, a, _, 1, _, rfl, rfl, .inl (.inl (s1 _ _ ha)), rfl, t, _, rfl, .inr (.inl (.inr ⟨o, s1 _ _ ht⟩)), fun p np => ?_⟩
      exact q p _ (s1.trans (same_upd np)) (s1.free np) upd_same
end
end Lh

namespace Lh
open PySem PySem.Spec PyProof.Rows L2
/-- a lot in the heap, a list of pairs or a tuple of them -/
def LotAt (H : Hp) (v : V) (lot : List (Int × Int)) : Prop := ∃ (a : Addr) (ps : List Addr), v = .ref a ∧ (H a = some (.lst (ps.map V.ref)) ∨ TupAt H a (ps.map V.ref)) ∧ Paired (PairAtH H) ps lot ∧ ps.length ≤ 1000
theorem LotAt.same {H H' : Hp} {v : V} {lot : List (Int × Int)} (s : Same H H') (h : LotAt H v lot) : LotAt H' v lot := by
  obtain ⟨a, ps, e, h1, h2, h3⟩ := h
  refine ⟨a, ps, e, ?_, pairs_keep (Keep.same s) h2, h3⟩
  rcases h1 with h1 | h1
  · exact .inl (s _ _ h1)
  · exact .inr (h1.keep (Keep.same s))
theorem pairs_sq {K : PySem.W.Frag} {H : Hp} : ∀ {ps : List Addr} {ties : List (Int × Int)}, Paired (PairAtH H) ps ties → Paired (fun p kv => SqT K H p [kV kv.1, kv.2]) ps (kvOf ties)
  | _, _, .nil => .nil
  | _, _, .cons h r => .cons (.inl (.inl h)) (pairs_sq r)
theorem merge_kv {ties : List (Int × Int)} (h : (ties.map (·.1)).Nodup) : mergeK [] (kvOf ties) = kvOf ties := by
  rw [merge_new (kvOf ties) [] (by rw [List.nil_append]; exact kv_nodup h), List.nil_append]
section
variable {P : Program} {w : World} {K : PySem.W.Frag} {mg : Str → Option Value} {base : Heap}
def spWeighed : Sp := fun vs H Q _ => ∃ (a t : Addr) (l x0 : V) (own : Int) (more : List V) (ties lot : List (Int × Int)), vs = [.ref a, l] ∧ H a = some (.tup (x0 :: .int own :: .ref t :: more)) ∧ TiesAt H t ties ∧ (ties.map (·.1)).Nodup ∧ LotAt H l lot ∧ (∀ q ∈ lot, q.1 ∈ ties.map (·.1)) ∧
  ∀ H', Same H H' → Q (.int (own + (lot.map fun q => wgt ties q.1).sum)) H'
theorem ok_weighed (T : Txt K mg) : FnOk P w K mg base CX0 1 T.f_weighed T.fd_weighed ["rule", "lot"] spWeighed := by
  refine T.F_weighed.ok sc_weighed (fun vs H Q E h => ?_) (fun cdv A outer s H vs Q E hr h => ?_)
  · obtain ⟨a, t, l, x0, own, more, ties, lot, rfl, _⟩ := h
    rfl
  · obtain ⟨a, t, l, x0, own, more, ties, lot, rfl, ha, ⟨o, ps, od, ht, pr⟩, nd, ⟨b, qs, rfl, hb, pq, lq⟩, sub, q⟩ := h
    have i1 : atI (x0 :: V.int own :: .ref t :: more) 1 = some (.int own) := atI_nat (j := 1) rfl
    have i2 : atI (x0 :: V.int own :: .ref t :: more) 2 = some (.ref t) := atI_nat (j := 2) rfl
    rcases hb with hb | hb
    · refine ⟨_, (pss_cons (ps_set (i := 2) sc_weighed.nd rfl (.inr rfl) (pe_callTy (call_dictT rfl) (by rfl) T.m_dict (by decide +kernel) (pa_cons (pe_ix ix_tup (pv 0) pe_int (fun _ _ => rfl)) pa_nil)))
      (pss_one (ps_ret (pe_op op_add (pe_ix ix_tup (pv 0) pe_int (fun _ _ => rfl)) (pe_callB (cr_sum rfl) (by rfl) T.m_sum (by decide +kernel) (pa_cons (pe_lc (own := [("person", 3), ("number", 4)]) (g := gTup K 2 (gCons (gName 3) (gCons (gName 4) gNil))) (by rfl) sc_weighed.nd (pi_list (pv 1)) (blkOk_by (own := [("person", 3), ("number", 4)]) (N := n_weighed) (sc := defScope s_weighed) (by decide +kernel)) (fun _ _ _ _ _ => (pg_tup rfl (pgs_cons (pg_name (i := 3) sc_weighed.nd rfl (.inl rfl) (.inr rfl)) (pgs_cons (pg_name (i := 4) sc_weighed.nd rfl (.inl rfl) (.inr rfl)) pgs_nil)))) (fun _ _ _ _ _ => pts_nil) (fun _ _ _ _ _ => (pe_dget (hu_of hr) (pv 2) (pv 3) (fun _ _ => rfl)))) pa_nil)))))), ?_⟩
      refine ⟨.ref a, rfl, a, _, 2, _, rfl, rfl, .inl (.inl ha), i2, t, o, ps, kvOf ties, rfl, od, ht, pairs_sq pr, fun d hd => ?_⟩
      rw [merge_kv nd]
      have s1 := same_upd (o := .dK (kvOf ties)) hd
      refine ⟨.ref a, rfl, a, _, 1, _, rfl, rfl, .inl (.inl (s1 _ _ ha)), i1, ?_⟩
      refine ⟨.ref b, rfl, b, rfl, ⟨_, .inl (.inl (s1 _ _ hb))⟩, fun D hD => ?_⟩
      refine lc_pairs (fun q => wgt ties q.1) (walk_listR qs) (pairs_keep (Keep.same s1) pq) hD lq (fun H3 s3 => .inl (.inl (s3 _ _ (s1 _ _ hb)))) (fun _ _ => rfl) (fun q hq H3 s3 Q h => ?_) (fun H3 s3 h3 => ?_)
      · refine ⟨.ref d, rfl, .int q.1, rfl, d, _, rfl, ?_, h⟩
        rw [← kv_get (sub q hq)]
        exact DGet.k (k := Sum.inl q.1) (s3 _ _ upd_same)
      · exact ⟨D, _, rfl, .inl (.inl h3), _, _, rfl, rfl, q _ (s1.trans s3)⟩
    · refine ⟨_, (pss_cons (ps_set (i := 2) sc_weighed.nd rfl (.inr rfl) (pe_callTy (call_dictT rfl) (by rfl) T.m_dict (by decide +kernel) (pa_cons (pe_ix ix_tup (pv 0) pe_int (fun _ _ => rfl)) pa_nil)))
      (pss_one (ps_ret (pe_op op_add (pe_ix ix_tup (pv 0) pe_int (fun _ _ => rfl)) (pe_callB (cr_sum rfl) (by rfl) T.m_sum (by decide +kernel) (pa_cons (pe_lc (own := [("person", 3), ("number", 4)]) (g := gTup K 2 (gCons (gName 3) (gCons (gName 4) gNil))) (by rfl) sc_weighed.nd (pi_tup (pv 1)) (blkOk_by (own := [("person", 3), ("number", 4)]) (N := n_weighed) (sc := defScope s_weighed) (by decide +kernel)) (fun _ _ _ _ _ => (pg_tup rfl (pgs_cons (pg_name (i := 3) sc_weighed.nd rfl (.inl rfl) (.inr rfl)) (pgs_cons (pg_name (i := 4) sc_weighed.nd rfl (.inl rfl) (.inr rfl)) pgs_nil)))) (fun _ _ _ _ _ => pts_nil) (fun _ _ _ _ _ => (pe_dget (hu_of hr) (pv 2) (pv 3) (fun _ _ => rfl)))) pa_nil)))))), ?_⟩
      refine ⟨.ref a, rfl, a, _, 2, _, rfl, rfl, .inl (.inl ha), i2, t, o, ps, kvOf ties, rfl, od, ht, pairs_sq pr, fun d hd => ?_⟩
      rw [merge_kv nd]
      have s1 := same_upd (o := .dK (kvOf ties)) hd
      refine ⟨.ref a, rfl, a, _, 1, _, rfl, rfl, .inl (.inl (s1 _ _ ha)), i1, ?_⟩
      refine ⟨.ref b, rfl, b, rfl, ⟨_, (hb.keep (Keep.same s1)).sq⟩, fun D hD => ?_⟩
      refine lc_pairs (fun q => wgt ties q.1) (walk_tupR qs) (pairs_keep (Keep.same s1) pq) hD lq (fun H3 s3 => ((hb.keep (Keep.same s1)).keep (Keep.same s3)).sq) (fun _ _ => rfl) (fun q hq H3 s3 Q h => ?_) (fun H3 s3 h3 => ?_)
      · refine ⟨.ref d, rfl, .int q.1, rfl, d, _, rfl, ?_, h⟩
        rw [← kv_get (sub q hq)]
        exact DGet.k (k := Sum.inl q.1) (s3 _ _ upd_same)
      · exact ⟨D, _, rfl, .inl (.inl h3), _, _, rfl, rfl, q _ (s1.trans s3)⟩
def spLeast (K : PySem.W.Frag) : Sp := fun vs H Q _ => ∃ (a : Addr) (ns : List Int), vs = [.ref a] ∧ SqL K H a (ns.map V.int) ∧ ∀ x, IsMex ns x → Q (.int x) H
theorem in_ints (x : Int) (ns : List Int) : inV (.int x) (ns.map V.int) = decide (x ∈ ns) := by
  unfold inV
  rw [List.any_map]
  rw [Bool.eq_iff_iff, List.any_eq_true, decide_eq_true_iff]
  constructor
  · rintro ⟨y, hy, e⟩
    have e' : (y == x) = true := e
    rw [← eq_of_beq e']; exact hy
  · intro h
    exact ⟨x, h, (beq_self_eq_true x : (x == x) = true)⟩
theorem flat_ints (ns : List Int) : (ns.map V.int).all flatV = true := by
  rw [List.all_map, List.all_eq_true]
  intro _ _; rfl
theorem ok_least_free (T : Txt K mg) : FnOk P w K mg base CX0 1 T.f_least_free T.fd_least_free ["numbers"] (spLeast K) := by
  refine T.F_least_free.ok sc_least_free (fun vs H Q E h => ?_) (fun cdv A outer s H vs Q E hr h => ?_)
  · obtain ⟨a, ns, rfl, _⟩ := h
    rfl
  · obtain ⟨a, ns, rfl, hS, q⟩ := h
    refine ⟨_, (pss_cons (ps_set (i := 1) sc_least_free.nd rfl (.inl rfl) pe_int)
      (pss_cons (ps_while PassesOwn.never (pt_cmpR op_in_seq (pv 1) (pv 0) (by rfl))
        (pss_one (ps_aug (i := 1) sc_least_free.nd rfl (.inl rfl) pe_int ip_add)))
      (pss_one (ps_ret (pv 1))))), ?_⟩
    refine while_by (fun σ H' => ∃ k : Nat, σ = [some (.ref a), some (.int k)] ∧ H' = H ∧ ∀ j : Int, 0 ≤ j → j < k → j ∈ ns) (fun σ _ => match σ with | [_, some (.int k)] => ns.length + 1 - k.toNat | _ => 0) ⟨0, rfl, rfl, fun j h1 h2 => by omega⟩ ?_ ?_
    · rintro σ H' ⟨k, rfl, rfl, hk⟩
      refine ⟨.int k, rfl, .ref a, rfl, a, _, rfl, .inl hS, rfl, flat_ints ns, _, rfl, ?_⟩
      rw [if_neg Bool.false_ne_true, in_ints]
      refine ite2 (fun e => ?_) (fun e => ?_)
      · have e' : (k : Int) ∈ ns := of_decide_eq_true e
        have hk2 : ∀ j : Int, 0 ≤ j → j < (k + 1 : Nat) → j ∈ ns := fun j h1 h2 => by
          by_cases z : j = k
          · rw [z]; exact e'
          · exact hk j h1 (by omega)
        have hle : k + 1 ≤ ns.length := by
          have h := nodup_len ((List.range (k + 1)).map fun n : Nat => (n : Int)) ns (by
            rw [List.nodup_iff_pairwise_ne]
            exact List.Pairwise.map _ (fun a b z q => z (by omega)) (List.nodup_iff_pairwise_ne.mp List.nodup_range)) (fun x hx => by
              obtain ⟨n, hn, rfl⟩ := List.mem_map.mp hx
              exact hk2 n (by omega) (by have := List.mem_range.mp hn; omega))
          rw [List.length_map, List.length_range] at h
          exact h
        refine ⟨.int k, rfl, k, 1, rfl, rfl, ⟨k + 1, rfl, rfl, hk2⟩, ?_⟩
        show ns.length + 1 - ((k : Int) + 1).toNat < ns.length + 1 - (k : Int).toNat
        omega
      · refine ⟨.int k, rfl, q k ⟨?_, by omega, hk⟩⟩
        exact fun z => e (decide_eq_true z)
    · rintro σ H' Q Q' hQ ⟨v, h1, u, h2, p, xs, h3, h4, h5, h6, k, h7, h8⟩
      exact ⟨v, h1, u, h2, p, xs, h3, h4, h5, h6, k, h7, hQ _ _ h8⟩
end
end Lh

namespace Lh
open PySem PySem.Spec PyProof.Rows L2
section
variable {P : Program} {w : World} {K : PySem.W.Frag} {mg : Str → Option Value} {base : Heap}
def spToldOf : Sp := fun vs H Q _ => ∃ (v l : V) (r : Rule) (many : Int) (lot : List (Int × Int)), vs = [v, l] ∧ RuleAt H v r ∧ r.Wf many ∧ LotAt H l lot ∧ (∀ q ∈ lot, q.1 ∈ r.persons) ∧ ∀ (x : Int) (H' : Hp), Same H H' → Tell r lot x → Q (.int x) H'
theorem ok_told_of (T : Txt K mg) : FnOk P w K mg base CX0 2 T.f_told_of T.fd_told_of ["rule", "lot"] spToldOf := by
  have G_weighed := ok_weighed (P := P) (w := w) (base := base) T
  have G_least_free := ok_least_free (P := P) (w := w) (base := base) T
  refine T.F_told_of.ok sc_told_of (fun vs H Q E h => ?_) (fun cdv A outer s H vs Q E hr h => ?_)
  · obtain ⟨v, l, r, many, lot, rfl, _⟩ := h
    rfl
  · obtain ⟨v, l, r, many, lot, rfl, hv, wf, ⟨b, qs, rfl, hb, pq, lq⟩, sub, q⟩ := h
    rcases hb with hb | hb
    · refine ⟨_, (pss_cons (ps_set (i := 2) sc_told_of.nd rfl (.inl rfl) (pe_ix ix_tup (pv 0) pe_int (fun _ _ => rfl)))
      (pss_cons (ps_if (pt_cmpR op_eq (pv 2) pe_str (nomark _))
        (pss_one (ps_ret (pe_ix ix_tup (pv 0) pe_int (fun _ _ => rfl))))
        pss_nil)
      (pss_cons (ps_if (pt_cmpR op_eq (pv 2) pe_str (nomark _))
        (pss_one (ps_ret (pe_call G_weighed (hr.mono (by decide)) (by rfl) T.g_weighed T.F_weighed.kp T.b_weighed .nil pass0 (pa_cons (pv 0) (pa_cons (pv 1) pa_nil)))))
        pss_nil)
      (pss_cons (ps_if (pt_cmpR op_eq (pv 2) pe_str (nomark _))
        (pss_one (ps_ret (pe_callB (call_min2 rfl) (by rfl) T.m_min (by decide +kernel) (pa_cons (pe_call G_weighed (hr.mono (by decide)) (by rfl) T.g_weighed T.F_weighed.kp T.b_weighed .nil pass0 (pa_cons (pv 0) (pa_cons (pv 1) pa_nil))) (pa_cons (pe_ix ix_tup (pv 0) pe_int (fun _ _ => rfl)) pa_nil)))))
        pss_nil)
      (pss_cons (ps_setLc (i := 3) (own := [("person", 4), ("number", 5)]) (g := gTup K 2 (gCons (gName 4) (gCons (gName 5) gNil))) (by rfl) sc_told_of.nd rfl rfl (sw_true rfl rfl rfl (by decide +kernel)) (pi_list (pv 1)) (blkOk_by (own := [("person", 4), ("number", 5)]) (N := n_told_of) (sc := defScope s_told_of) (by decide +kernel)) (fun _ _ _ _ _ => (pg_tup rfl (pgs_cons (pg_name (i := 4) sc_told_of.nd rfl (.inl rfl) (.inr rfl)) (pgs_cons (pg_name (i := 5) sc_told_of.nd rfl (.inl rfl) (.inr rfl)) pgs_nil)))) (fun _ _ _ _ _ => pts_nil) (fun _ _ _ _ _ => (pv 5)))
      (pss_cons (ps_if (pt_cmpR op_eq (pv 2) pe_str (nomark _))
        (pss_one (ps_ret (pe_op op_add (pe_ix ix_tup (pv 0) pe_int (fun _ _ => rfl)) (pe_callB cr_lenSet (by rfl) T.m_len (by decide +kernel) (pa_cons (pe_callTy (cr_setL rfl) (by rfl) T.m_set (by decide +kernel) (pa_cons (pv 3) pa_nil)) pa_nil)))))
        pss_nil)
      (pss_cons (ps_if (pt_cmpR op_eq (pv 2) pe_str (nomark _))
        (pss_one (ps_ret (pe_op op_add (pe_callBK (cr_maxD rfl hr.units) (by rfl) T.m_max (by decide +kernel) (pa_cons (pv 3) pa_nil) (pk_cons (pe_un un_neg pe_int) pk_nil)) pe_int)))
        pss_nil)
      (pss_one (ps_ret (pe_call G_least_free (hr.mono (by decide)) (by rfl) T.g_least_free T.F_least_free.kp T.b_least_free .nil pass0 (pa_cons (pv 3) pa_nil))))))))))), ?_⟩
      cases r with
      | held n =>
        obtain ⟨a, rfl, ha⟩ := hv
        refine ⟨.ref a, rfl, a, _, 0, _, rfl, rfl, .inl (.inl ha), rfl, ?_⟩
        refine ⟨_, rfl, rfl, _, rfl, iteP (by decide +kernel) ?_⟩
        exact ⟨.ref a, rfl, a, _, 1, _, rfl, rfl, .inl (.inl ha), rfl, q n H (Same.refl H) rfl⟩
      | sum own ties =>
        obtain ⟨a, t, rfl, ha, hT⟩ := hv
        obtain ⟨_, rs, _⟩ := wf
        refine ⟨.ref a, rfl, a, _, 0, _, rfl, rfl, .inl (.inl ha), rfl, ?_⟩
        refine ⟨_, rfl, rfl, _, rfl, iteN (by decide +kernel) ?_⟩
        refine ⟨_, rfl, rfl, _, rfl, iteP (by decide +kernel) ?_⟩
        refine ⟨.ref a, rfl, .ref b, rfl, a, t, .ref b, _, own, [], ties, lot, rfl, ha, hT, rs.nodup, ⟨b, qs, rfl, .inl hb, pq, lq⟩, sub, fun H3 s3 => ?_⟩
        exact q _ H3 s3 rfl
      | cap own ties most =>
        obtain ⟨a, t, rfl, ha, hT⟩ := hv
        obtain ⟨_, rs, _⟩ := wf
        refine ⟨.ref a, rfl, a, _, 0, _, rfl, rfl, .inl (.inl ha), rfl, ?_⟩
        refine ⟨_, rfl, rfl, _, rfl, iteN (by decide +kernel) ?_⟩
        refine ⟨_, rfl, rfl, _, rfl, iteN (by decide +kernel) ?_⟩
        refine ⟨_, rfl, rfl, _, rfl, iteP (by decide +kernel) ?_⟩
        refine ⟨.ref a, rfl, .ref b, rfl, a, t, .ref b, _, own, [.int most], ties, lot, rfl, ha, hT, rs.nodup, ⟨b, qs, rfl, .inl hb, pq, lq⟩, sub, fun H3 s3 => ?_⟩
        refine ⟨.ref a, rfl, a, _, 3, _, rfl, rfl, .inl (.inl (s3 _ _ ha)), rfl, _, _, rfl, q _ H3 s3 ?_⟩
        show (if most < own + (lot.map fun q => wgt ties q.1).sum then most else own + (lot.map fun q => wgt ties q.1).sum) = min (own + (lot.map fun q => wgt ties q.1).sum) most
        split <;> omega
      | kinds own seen =>
        obtain ⟨a, t, rfl, ha, hT⟩ := hv
        refine ⟨.ref a, rfl, a, _, 0, _, rfl, rfl, .inl (.inl ha), rfl, ?_⟩
        refine ⟨_, rfl, rfl, _, rfl, iteN (by decide +kernel) ?_⟩
        refine ⟨_, rfl, rfl, _, rfl, iteN (by decide +kernel) ?_⟩
        refine ⟨_, rfl, rfl, _, rfl, iteN (by decide +kernel) ?_⟩
        refine ⟨.ref b, rfl, b, rfl, ⟨_, .inl (.inl hb)⟩, fun D hD => ?_⟩
        refine lc_pairs (·.2) (walk_listR qs) pq hD lq (fun H3 s3 => .inl (.inl (s3 _ _ hb))) (fun _ _ => rfl) (fun q _ H3 _ Q h => ⟨_, rfl, h⟩) (fun H3 s3 h3 => ?_)
        have hl3 : (lot.map (·.2)).length ≤ 1000 := by rw [List.length_map, ← pq.length]; exact lq
        refine ⟨_, rfl, rfl, _, rfl, iteP (by decide +kernel) ?_⟩
        refine ⟨.ref a, rfl, a, _, 1, _, rfl, rfl, .inl (.inl (s3 _ _ ha)), rfl, ?_⟩
        refine ⟨.ref D, rfl, D, _, rfl, .inl (.inl h3), hl3, fun p c ks np nd kl cl mem => ⟨p, _, c, rfl, upd_same, by omega, own, c, rfl, rfl, ?_⟩⟩
        exact q _ _ (s3.trans (same_upd np)) ⟨ks, nd, mem, by rw [kl]⟩
      | next seen =>
        obtain ⟨a, t, rfl, ha, hT⟩ := hv
        refine ⟨.ref a, rfl, a, _, 0, _, rfl, rfl, .inl (.inl ha), rfl, ?_⟩
        refine ⟨_, rfl, rfl, _, rfl, iteN (by decide +kernel) ?_⟩
        refine ⟨_, rfl, rfl, _, rfl, iteN (by decide +kernel) ?_⟩
        refine ⟨_, rfl, rfl, _, rfl, iteN (by decide +kernel) ?_⟩
        refine ⟨.ref b, rfl, b, rfl, ⟨_, .inl (.inl hb)⟩, fun D hD => ?_⟩
        refine lc_pairs (·.2) (walk_listR qs) pq hD lq (fun H3 s3 => .inl (.inl (s3 _ _ hb))) (fun _ _ => rfl) (fun q _ H3 _ Q h => ⟨_, rfl, h⟩) (fun H3 s3 h3 => ?_)
        have hl3 : (lot.map (·.2)).length ≤ 1000 := by rw [List.length_map, ← pq.length]; exact lq
        refine ⟨_, rfl, rfl, _, rfl, iteN (by decide +kernel) ?_⟩
        refine ⟨_, rfl, rfl, _, rfl, iteP (by decide +kernel) ?_⟩
        refine ⟨.ref D, rfl, 1, rfl, D, _, -1, rfl, rfl, .inl (.inl h3), fun m h0 h1 => ⟨m, 1, rfl, rfl, q _ _ s3 ?_⟩⟩
        by_cases e : lot.map (·.2) = []
        · exact .inl ⟨List.map_eq_nil_iff.mp e, by rw [h0 e]; rfl⟩
        · obtain ⟨h2, h4⟩ := h1 e
          refine .inr ⟨?_, fun y hy => ?_⟩
          · rw [show m + 1 - 1 = m by omega]; exact h2
          · have := h4 y hy; omega
      | free seen =>
        obtain ⟨a, t, rfl, ha, hT⟩ := hv
        refine ⟨.ref a, rfl, a, _, 0, _, rfl, rfl, .inl (.inl ha), rfl, ?_⟩
        refine ⟨_, rfl, rfl, _, rfl, iteN (by decide +kernel) ?_⟩
        refine ⟨_, rfl, rfl, _, rfl, iteN (by decide +kernel) ?_⟩
        refine ⟨_, rfl, rfl, _, rfl, iteN (by decide +kernel) ?_⟩
        refine ⟨.ref b, rfl, b, rfl, ⟨_, .inl (.inl hb)⟩, fun D hD => ?_⟩
        refine lc_pairs (·.2) (walk_listR qs) pq hD lq (fun H3 s3 => .inl (.inl (s3 _ _ hb))) (fun _ _ => rfl) (fun q _ H3 _ Q h => ⟨_, rfl, h⟩) (fun H3 s3 h3 => ?_)
        have hl3 : (lot.map (·.2)).length ≤ 1000 := by rw [List.length_map, ← pq.length]; exact lq
        refine ⟨_, rfl, rfl, _, rfl, iteN (by decide +kernel) ?_⟩
        refine ⟨_, rfl, rfl, _, rfl, iteN (by decide +kernel) ?_⟩
        exact ⟨.ref D, rfl, D, _, rfl, .inl (.inl h3), fun x hx => q x _ s3 hx⟩
    · refine ⟨_, (pss_cons (ps_set (i := 2) sc_told_of.nd rfl (.inl rfl) (pe_ix ix_tup (pv 0) pe_int (fun _ _ => rfl)))
      (pss_cons (ps_if (pt_cmpR op_eq (pv 2) pe_str (nomark _))
        (pss_one (ps_ret (pe_ix ix_tup (pv 0) pe_int (fun _ _ => rfl))))
        pss_nil)
      (pss_cons (ps_if (pt_cmpR op_eq (pv 2) pe_str (nomark _))
        (pss_one (ps_ret (pe_call G_weighed (hr.mono (by decide)) (by rfl) T.g_weighed T.F_weighed.kp T.b_weighed .nil pass0 (pa_cons (pv 0) (pa_cons (pv 1) pa_nil)))))
        pss_nil)
      (pss_cons (ps_if (pt_cmpR op_eq (pv 2) pe_str (nomark _))
        (pss_one (ps_ret (pe_callB (call_min2 rfl) (by rfl) T.m_min (by decide +kernel) (pa_cons (pe_call G_weighed (hr.mono (by decide)) (by rfl) T.g_weighed T.F_weighed.kp T.b_weighed .nil pass0 (pa_cons (pv 0) (pa_cons (pv 1) pa_nil))) (pa_cons (pe_ix ix_tup (pv 0) pe_int (fun _ _ => rfl)) pa_nil)))))
        pss_nil)
      (pss_cons (ps_setLc (i := 3) (own := [("person", 4), ("number", 5)]) (g := gTup K 2 (gCons (gName 4) (gCons (gName 5) gNil))) (by rfl) sc_told_of.nd rfl rfl (sw_true rfl rfl rfl (by decide +kernel)) (pi_tup (pv 1)) (blkOk_by (own := [("person", 4), ("number", 5)]) (N := n_told_of) (sc := defScope s_told_of) (by decide +kernel)) (fun _ _ _ _ _ => (pg_tup rfl (pgs_cons (pg_name (i := 4) sc_told_of.nd rfl (.inl rfl) (.inr rfl)) (pgs_cons (pg_name (i := 5) sc_told_of.nd rfl (.inl rfl) (.inr rfl)) pgs_nil)))) (fun _ _ _ _ _ => pts_nil) (fun _ _ _ _ _ => (pv 5)))
      (pss_cons (ps_if (pt_cmpR op_eq (pv 2) pe_str (nomark _))
        (pss_one (ps_ret (pe_op op_add (pe_ix ix_tup (pv 0) pe_int (fun _ _ => rfl)) (pe_callB cr_lenSet (by rfl) T.m_len (by decide +kernel) (pa_cons (pe_callTy (cr_setL rfl) (by rfl) T.m_set (by decide +kernel) (pa_cons (pv 3) pa_nil)) pa_nil)))))
        pss_nil)
      (pss_cons (ps_if (pt_cmpR op_eq (pv 2) pe_str (nomark _))
        (pss_one (ps_ret (pe_op op_add (pe_callBK (cr_maxD rfl hr.units) (by rfl) T.m_max (by decide +kernel) (pa_cons (pv 3) pa_nil) (pk_cons (pe_un un_neg pe_int) pk_nil)) pe_int)))
        pss_nil)
      (pss_one (ps_ret (pe_call G_least_free (hr.mono (by decide)) (by rfl) T.g_least_free T.F_least_free.kp T.b_least_free .nil pass0 (pa_cons (pv 3) pa_nil))))))))))), ?_⟩
      cases r with
      | held n =>
        obtain ⟨a, rfl, ha⟩ := hv
        refine ⟨.ref a, rfl, a, _, 0, _, rfl, rfl, .inl (.inl ha), rfl, ?_⟩
        refine ⟨_, rfl, rfl, _, rfl, iteP (by decide +kernel) ?_⟩
        exact ⟨.ref a, rfl, a, _, 1, _, rfl, rfl, .inl (.inl ha), rfl, q n H (Same.refl H) rfl⟩
      | sum own ties =>
        obtain ⟨a, t, rfl, ha, hT⟩ := hv
        obtain ⟨_, rs, _⟩ := wf
        refine ⟨.ref a, rfl, a, _, 0, _, rfl, rfl, .inl (.inl ha), rfl, ?_⟩
        refine ⟨_, rfl, rfl, _, rfl, iteN (by decide +kernel) ?_⟩
        refine ⟨_, rfl, rfl, _, rfl, iteP (by decide +kernel) ?_⟩
        refine ⟨.ref a, rfl, .ref b, rfl, a, t, .ref b, _, own, [], ties, lot, rfl, ha, hT, rs.nodup, ⟨b, qs, rfl, .inr hb, pq, lq⟩, sub, fun H3 s3 => ?_⟩
        exact q _ H3 s3 rfl
      | cap own ties most =>
        obtain ⟨a, t, rfl, ha, hT⟩ := hv
        obtain ⟨_, rs, _⟩ := wf
        refine ⟨.ref a, rfl, a, _, 0, _, rfl, rfl, .inl (.inl ha), rfl, ?_⟩
        refine ⟨_, rfl, rfl, _, rfl, iteN (by decide +kernel) ?_⟩
        refine ⟨_, rfl, rfl, _, rfl, iteN (by decide +kernel) ?_⟩
        refine ⟨_, rfl, rfl, _, rfl, iteP (by decide +kernel) ?_⟩
        refine ⟨.ref a, rfl, .ref b, rfl, a, t, .ref b, _, own, [.int most], ties, lot, rfl, ha, hT, rs.nodup, ⟨b, qs, rfl, .inr hb, pq, lq⟩, sub, fun H3 s3 => ?_⟩
        refine ⟨.ref a, rfl, a, _, 3, _, rfl, rfl, .inl (.inl (s3 _ _ ha)), rfl, _, _, rfl, q _ H3 s3 ?_⟩
        show (if most < own + (lot.map fun q => wgt ties q.1).sum then most else own + (lot.map fun q => wgt ties q.1).sum) = min (own + (lot.map fun q => wgt ties q.1).sum) most
        split <;> omega
      | kinds own seen =>
        obtain ⟨a, t, rfl, ha, hT⟩ := hv
        refine ⟨.ref a, rfl, a, _, 0, _, rfl, rfl, .inl (.inl ha), rfl, ?_⟩
        refine ⟨_, rfl, rfl, _, rfl, iteN (by decide +kernel) ?_⟩
        refine ⟨_, rfl, rfl, _, rfl, iteN (by decide +kernel) ?_⟩
        refine ⟨_, rfl, rfl, _, rfl, iteN (by decide +kernel) ?_⟩
        refine ⟨.ref b, rfl, b, rfl, ⟨_, hb.sq⟩, fun D hD => ?_⟩
        refine lc_pairs (·.2) (walk_tupR qs) pq hD lq (fun H3 s3 => (hb.keep (Keep.same s3)).sq) (fun _ _ => rfl) (fun q _ H3 _ Q h => ⟨_, rfl, h⟩) (fun H3 s3 h3 => ?_)
        have hl3 : (lot.map (·.2)).length ≤ 1000 := by rw [List.length_map, ← pq.length]; exact lq
        refine ⟨_, rfl, rfl, _, rfl, iteP (by decide +kernel) ?_⟩
        refine ⟨.ref a, rfl, a, _, 1, _, rfl, rfl, .inl (.inl (s3 _ _ ha)), rfl, ?_⟩
        refine ⟨.ref D, rfl, D, _, rfl, .inl (.inl h3), hl3, fun p c ks np nd kl cl mem => ⟨p, _, c, rfl, upd_same, by omega, own, c, rfl, rfl, ?_⟩⟩
        exact q _ _ (s3.trans (same_upd np)) ⟨ks, nd, mem, by rw [kl]⟩
      | next seen =>
        obtain ⟨a, t, rfl, ha, hT⟩ := hv
        refine ⟨.ref a, rfl, a, _, 0, _, rfl, rfl, .inl (.inl ha), rfl, ?_⟩
        refine ⟨_, rfl, rfl, _, rfl, iteN (by decide +kernel) ?_⟩
        refine ⟨_, rfl, rfl, _, rfl, iteN (by decide +kernel) ?_⟩
        refine ⟨_, rfl, rfl, _, rfl, iteN (by decide +kernel) ?_⟩
        refine ⟨.ref b, rfl, b, rfl, ⟨_, hb.sq⟩, fun D hD => ?_⟩
        refine lc_pairs (·.2) (walk_tupR qs) pq hD lq (fun H3 s3 => (hb.keep (Keep.same s3)).sq) (fun _ _ => rfl) (fun q _ H3 _ Q h => ⟨_, rfl, h⟩) (fun H3 s3 h3 => ?_)
        have hl3 : (lot.map (·.2)).length ≤ 1000 := by rw [List.length_map, ← pq.length]; exact lq
        refine ⟨_, rfl, rfl, _, rfl, iteN (by decide +kernel) ?_⟩
        refine ⟨_, rfl, rfl, _, rfl, iteP (by decide +kernel) ?_⟩
        refine ⟨.ref D, rfl, 1, rfl, D, _, -1, rfl, rfl, .inl (.inl h3), fun m h0 h1 => ⟨m, 1, rfl, rfl, q _ _ s3 ?_⟩⟩
        by_cases e : lot.map (·.2) = []
        · exact .inl ⟨List.map_eq_nil_iff.mp e, by rw [h0 e]; rfl⟩
        · obtain ⟨h2, h4⟩ := h1 e
          refine .inr ⟨?_, fun y hy => ?_⟩
          · rw [show m + 1 - 1 = m by omega]; exact h2
          · have := h4 y hy; omega
      | free seen =>
        obtain ⟨a, t, rfl, ha, hT⟩ := hv
        refine ⟨.ref a, rfl, a, _, 0, _, rfl, rfl, .inl (.inl ha), rfl, ?_⟩
        refine ⟨_, rfl, rfl, _, rfl, iteN (by decide +kernel) ?_⟩
        refine ⟨_, rfl, rfl, _, rfl, iteN (by decide +kernel) ?_⟩
        refine ⟨_, rfl, rfl, _, rfl, iteN (by decide +kernel) ?_⟩
        refine ⟨.ref b, rfl, b, rfl, ⟨_, hb.sq⟩, fun D hD => ?_⟩
        refine lc_pairs (·.2) (walk_tupR qs) pq hD lq (fun H3 s3 => (hb.keep (Keep.same s3)).sq) (fun _ _ => rfl) (fun q _ H3 _ Q h => ⟨_, rfl, h⟩) (fun H3 s3 h3 => ?_)
        have hl3 : (lot.map (·.2)).length ≤ 1000 := by rw [List.length_map, ← pq.length]; exact lq
        refine ⟨_, rfl, rfl, _, rfl, iteN (by decide +kernel) ?_⟩
        refine ⟨_, rfl, rfl, _, rfl, iteN (by decide +kernel) ?_⟩
        exact ⟨.ref D, rfl, D, _, rfl, .inl (.inl h3), fun x hx => q x _ s3 hx⟩
end
end Lh

namespace Lh
open PySem PySem.Spec PyProof.Rows L2
def mostV : Rule → V
  | .held n => .int n
  | .sum own ties => .int (own + (ties.map (·.2)).sum)
  | .cap own ties most => .int (min (own + (ties.map (·.2)).sum) most)
  | .kinds own seen => .int (own + seen.length)
  | .next _ => .non
  | .free seen => .int seen.length
section
variable {P : Program} {w : World} {K : PySem.W.Frag} {mg : Str → Option Value} {base : Heap}
def spMostW : Sp := fun vs H Q _ => ∃ (a t : Addr) (x0 : V) (own : Int) (more : List V) (ties : List (Int × Int)), vs = [.ref a] ∧ H a = some (.tup (x0 :: .int own :: .ref t :: more)) ∧ TiesAt H t ties ∧ ties.length ≤ 1000 ∧ ∀ H', Same H H' → Q (.int (own + (ties.map (·.2)).sum)) H'
theorem ok_most_weighed (T : Txt K mg) : FnOk P w K mg base CX0 1 T.f_most_weighed T.fd_most_weighed ["rule"] spMostW := by
  refine T.F_most_weighed.ok sc_most_weighed (fun vs H Q E h => ?_) (fun cdv A outer s H vs Q E hr h => ?_)
  · obtain ⟨a, t, x0, own, more, ties, rfl, _⟩ := h
    rfl
  · obtain ⟨a, t, x0, own, more, ties, rfl, ha, ⟨o, ps, od, ht, pr⟩, hl, q⟩ := h
    have i1 : atI (x0 :: V.int own :: .ref t :: more) 1 = some (.int own) := atI_nat (j := 1) rfl
    have i2 : atI (x0 :: V.int own :: .ref t :: more) 2 = some (.ref t) := atI_nat (j := 2) rfl
    refine ⟨_, (pss_one (ps_ret (pe_op op_add (pe_ix ix_tup (pv 0) pe_int (fun _ _ => rfl)) (pe_callB (cr_sum rfl) (by rfl) T.m_sum (by decide +kernel) (pa_cons (pe_lc (own := [("person", 1), ("weight", 2)]) (g := gTup K 2 (gCons (gName 1) (gCons (gName 2) gNil))) (by rfl) sc_most_weighed.nd (pi_tup (pe_ix ix_tup (pv 0) pe_int (fun _ _ => rfl))) (blkOk_by (own := [("person", 1), ("weight", 2)]) (N := n_most_weighed) (sc := defScope s_most_weighed) (by decide +kernel)) (fun _ _ _ _ _ => (pg_tup rfl (pgs_cons (pg_name (i := 1) sc_most_weighed.nd rfl (.inl rfl) (.inr rfl)) (pgs_cons (pg_name (i := 2) sc_most_weighed.nd rfl (.inl rfl) (.inr rfl)) pgs_nil)))) (fun _ _ _ _ _ => pts_nil) (fun _ _ _ _ _ => (pv 2))) pa_nil))))), ?_⟩
    refine ⟨.ref a, rfl, a, _, 1, _, rfl, rfl, .inl (.inl ha), i1, ?_⟩
    refine ⟨.ref a, rfl, a, _, 2, _, rfl, rfl, .inl (.inl ha), i2, t, rfl, ⟨_, .inl (.inr ⟨o, ht⟩)⟩, fun D hD => ?_⟩
    refine lc_pairs (·.2) (walk_tupR ps) pr hD (by rw [pr.length]; exact hl) (fun H3 s3 => .inl (.inr ⟨o, s3 _ _ ht⟩)) (fun _ _ => rfl) (fun q _ H3 _ Q h => ⟨_, rfl, h⟩) (fun H3 s3 h3 => ?_)
    exact ⟨D, _, rfl, .inl (.inl h3), _, _, rfl, rfl, q _ s3⟩
def spMostOf : Sp := fun vs H Q _ => ∃ (v : V) (r : Rule), vs = [v] ∧ RuleAt H v r ∧ r.persons.length ≤ 1000 ∧ ∀ H', Same H H' → Q (mostV r) H'
theorem ok_most_of (T : Txt K mg) : FnOk P w K mg base CX0 2 T.f_most_of T.fd_most_of ["rule"] spMostOf := by
  have G_most_weighed := ok_most_weighed (P := P) (w := w) (base := base) T
  refine T.F_most_of.ok sc_most_of (fun vs H Q E h => ?_) (fun cdv A outer s H vs Q E hr h => ?_)
  · obtain ⟨v, r, rfl, _⟩ := h
    rfl
  · obtain ⟨v, r, rfl, hv, hl, q⟩ := h
    refine ⟨_, (pss_cons (ps_set (i := 1) sc_most_of.nd rfl (.inl rfl) (pe_ix ix_tup (pv 0) pe_int (fun _ _ => rfl)))
      (pss_cons (ps_if (pt_cmpR op_eq (pv 1) pe_str (nomark _))
        (pss_one (ps_ret (pe_ix ix_tup (pv 0) pe_int (fun _ _ => rfl))))
        pss_nil)
      (pss_cons (ps_if (pt_cmpR op_eq (pv 1) pe_str (nomark _))
        (pss_one (ps_ret (pe_call G_most_weighed (hr.mono (by decide)) (by rfl) T.g_most_weighed T.F_most_weighed.kp T.b_most_weighed .nil pass0 (pa_cons (pv 0) pa_nil))))
        pss_nil)
      (pss_cons (ps_if (pt_cmpR op_eq (pv 1) pe_str (nomark _))
        (pss_one (ps_ret (pe_callB (call_min2 rfl) (by rfl) T.m_min (by decide +kernel) (pa_cons (pe_call G_most_weighed (hr.mono (by decide)) (by rfl) T.g_most_weighed T.F_most_weighed.kp T.b_most_weighed .nil pass0 (pa_cons (pv 0) pa_nil)) (pa_cons (pe_ix ix_tup (pv 0) pe_int (fun _ _ => rfl)) pa_nil)))))
        pss_nil)
      (pss_cons (ps_if (pt_cmpR op_eq (pv 1) pe_str (nomark _))
        (pss_one (ps_ret (pe_op op_add (pe_ix ix_tup (pv 0) pe_int (fun _ _ => rfl)) (pe_callB call_len_seq (by rfl) T.m_len (by decide +kernel) (pa_cons (pe_ix ix_tup (pv 0) pe_int (fun _ _ => rfl)) pa_nil)))))
        pss_nil)
      (pss_cons (ps_if (pt_cmpR op_eq (pv 1) pe_str (nomark _))
        (pss_one (ps_ret pe_non))
        pss_nil)
      (pss_one (ps_ret (pe_callB call_len_seq (by rfl) T.m_len (by decide +kernel) (pa_cons (pe_ix ix_tup (pv 0) pe_int (fun _ _ => rfl)) pa_nil)))))))))), ?_⟩
    cases r with
    | held n =>
      obtain ⟨a, rfl, ha⟩ := hv
      refine ⟨.ref a, rfl, a, _, 0, _, rfl, rfl, .inl (.inl ha), rfl, ?_⟩
      refine ⟨_, rfl, rfl, _, rfl, iteP (by decide +kernel) ?_⟩
      exact ⟨.ref a, rfl, a, _, 1, _, rfl, rfl, .inl (.inl ha), rfl, q H (Same.refl H)⟩
    | sum own ties =>
      obtain ⟨a, t, rfl, ha, hT⟩ := hv
      refine ⟨.ref a, rfl, a, _, 0, _, rfl, rfl, .inl (.inl ha), rfl, ?_⟩
      refine ⟨_, rfl, rfl, _, rfl, iteN (by decide +kernel) ?_⟩
      refine ⟨_, rfl, rfl, _, rfl, iteP (by decide +kernel) ?_⟩
      exact ⟨.ref a, rfl, a, t, _, own, [], ties, rfl, ha, hT, by simpa [Rule.persons] using hl, fun H3 s3 => q H3 s3⟩
    | cap own ties most =>
      obtain ⟨a, t, rfl, ha, hT⟩ := hv
      refine ⟨.ref a, rfl, a, _, 0, _, rfl, rfl, .inl (.inl ha), rfl, ?_⟩
      refine ⟨_, rfl, rfl, _, rfl, iteN (by decide +kernel) ?_⟩
      refine ⟨_, rfl, rfl, _, rfl, iteN (by decide +kernel) ?_⟩
      refine ⟨_, rfl, rfl, _, rfl, iteP (by decide +kernel) ?_⟩
      refine ⟨.ref a, rfl, a, t, _, own, [.int most], ties, rfl, ha, hT, by simpa [Rule.persons] using hl, fun H3 s3 => ?_⟩
      refine ⟨.ref a, rfl, a, _, 3, _, rfl, rfl, .inl (.inl (s3 _ _ ha)), rfl, _, _, rfl, ?_⟩
      have e : (if most < own + (ties.map (·.2)).sum then most else own + (ties.map (·.2)).sum) = min (own + (ties.map (·.2)).sum) most := by split <;> omega
      rw [e]
      exact q H3 s3
    | kinds own seen =>
      obtain ⟨a, t, rfl, ha, o, od, ht⟩ := hv
      refine ⟨.ref a, rfl, a, _, 0, _, rfl, rfl, .inl (.inl ha), rfl, ?_⟩
      refine ⟨_, rfl, rfl, _, rfl, iteN (by decide +kernel) ?_⟩
      refine ⟨_, rfl, rfl, _, rfl, iteN (by decide +kernel) ?_⟩
      refine ⟨_, rfl, rfl, _, rfl, iteN (by decide +kernel) ?_⟩
      refine ⟨_, rfl, rfl, _, rfl, iteP (by decide +kernel) ?_⟩
      refine ⟨.ref a, rfl, a, _, 1, _, rfl, rfl, .inl (.inl ha), rfl, .ref a, rfl, a, _, 2, _, rfl, rfl, .inl (.inl ha), rfl, t, _, rfl, .inr (.inl (.inr ⟨o, ht⟩)), _, _, rfl, rfl, ?_⟩
      rw [List.length_map]
      exact q H (Same.refl H)
    | next seen =>
      obtain ⟨a, t, rfl, ha, o, od, ht⟩ := hv
      refine ⟨.ref a, rfl, a, _, 0, _, rfl, rfl, .inl (.inl ha), rfl, ?_⟩
      refine ⟨_, rfl, rfl, _, rfl, iteN (by decide +kernel) ?_⟩
      refine ⟨_, rfl, rfl, _, rfl, iteN (by decide +kernel) ?_⟩
      refine ⟨_, rfl, rfl, _, rfl, iteN (by decide +kernel) ?_⟩
      refine ⟨_, rfl, rfl, _, rfl, iteN (by decide +kernel) ?_⟩
      refine ⟨_, rfl, rfl, _, rfl, iteP (by decide +kernel) ?_⟩
      exact q H (Same.refl H)
    | free seen =>
      obtain ⟨a, t, rfl, ha, o, od, ht⟩ := hv
      refine ⟨.ref a, rfl, a, _, 0, _, rfl, rfl, .inl (.inl ha), rfl, ?_⟩
      refine ⟨_, rfl, rfl, _, rfl, iteN (by decide +kernel) ?_⟩
      refine ⟨_, rfl, rfl, _, rfl, iteN (by decide +kernel) ?_⟩
      refine ⟨_, rfl, rfl, _, rfl, iteN (by decide +kernel) ?_⟩
      refine ⟨_, rfl, rfl, _, rfl, iteN (by decide +kernel) ?_⟩
      refine ⟨_, rfl, rfl, _, rfl, iteN (by decide +kernel) ?_⟩
      refine ⟨.ref a, rfl, a, _, 1, _, rfl, rfl, .inl (.inl ha), rfl, t, _, rfl, .inr (.inl (.inr ⟨o, ht⟩)), ?_⟩
      rw [List.length_map]
      exact q H (Same.refl H)
end
end Lh

namespace Lh
open PySem PySem.Spec PyProof.Rows L2
def seenPairs : Rule → List (Int × Int)
  | .held _ => []
  | .sum _ ties => ties
  | .cap _ ties _ => ties
  | .kinds _ seen => seen.map fun n => (n, 1)
  | .next seen => seen.map fun n => (n, 1)
  | .free seen => seen.map fun n => (n, 1)
theorem seen_persons : ∀ r : Rule, (seenPairs r).map (·.1) = r.persons
  | .held _ => rfl
  | .sum _ _ => rfl
  | .cap _ _ _ => rfl
  | .kinds _ s => by show (s.map fun n => (n, (1 : Int))).map (·.1) = s; rw [List.map_map]; exact List.map_id s
  | .next s => by show (s.map fun n => (n, (1 : Int))).map (·.1) = s; rw [List.map_map]; exact List.map_id s
  | .free s => by show (s.map fun n => (n, (1 : Int))).map (·.1) = s; rw [List.map_map]; exact List.map_id s
section
variable {P : Program} {w : World} {K : PySem.W.Frag} {mg : Str → Option Value} {base : Heap}
/-- [(one, 1) for one in seen] -/
theorem lc_ones {K : PySem.W.Frag} {t : Addr} {seen : List Int} {H1 : Hp} {D : Addr} {σ : L2.St} {vs : List Nat} {Qd : Hp → Prop} {i : Nat} (ht : SeenAt H1 t seen) (hD : H1 D = none) (hl : seen.length ≤ 1000)
    (hw : ∀ a, wipe ((wipe σ vs).set i a) vs = wipe σ vs) (hi : ∀ a : V, ((wipe σ vs).set i (some a))[i]? = some (some a))
    (hq : ∀ H' ps, Same H1 H' → H' D = some (.lst (ps.map V.ref)) → Paired (PairAtH H') ps (seen.map fun n => (n, 1)) → Qd H') :
    ∃ W : Nat → Nat → Hp → Prop, (∃ m, W 0 m (upd H1 D (.lst []))) ∧ ∀ i1 m H, W i1 m H →
      ((Itt K t).stop i1 H ∧ Qd H) ∨ ((Itt K t).go i1 H ∧ ∃ Nx : Hp → Prop, (∀ H', Nx H' → ∃ m', m' < m ∧ W (i1 + 1) m' H') ∧ ∀ x H', (Itt K t).yld i1 H x H' → gName i x (wipe σ vs) H' fun σ2 H2 => wipe σ2 vs = wipe σ vs ∧ tYes σ2 H2 fun b H3 =>
        if b = true then tTup (tCons (tVar i) (tCons (tC (.int 1)) tNil)) σ2 H3 fun y H4 => ∃ acc, H4 D = some (.lst acc) ∧ acc.length < sizeLine ∧ Nx (upd H4 D (.lst (acc ++ [y]))) else Nx H3) := by
  obtain ⟨o, od, ht⟩ := ht
  refine lc_it (walk_tup (xs := seen.map V.int)) (fun n H3 => ∃ ps : List Addr, Same H1 H3 ∧ H3 D = some (.lst (ps.map V.ref)) ∧ Paired (PairAtH H3) ps ((seen.take n).map fun n => (n, 1))) ⟨[], same_upd hD, upd_same, .nil⟩ ?_ ?_ ?_
  · rintro n H3 _ ⟨ps, sm, _⟩
    exact .inl (.inr ⟨o, sm _ _ ht⟩)
  · rintro n x H3 H4 hn ⟨ps, sm, h3, pr⟩ ⟨rfl, hx⟩
    rw [List.length_map] at hn
    rw [List.getElem?_map, List.getElem?_eq_getElem hn] at hx
    have ex : x = .int seen[n] := (Option.some.inj hx).symm
    subst ex
    have pl : ps.length = n := by rw [pr.length, List.length_map, List.length_take]; omega
    refine ⟨hw _, yes (iteT ⟨.int seen[n], hi _, by show 2 ≤ sizeLine; decide, fun p np => ?_⟩)⟩
    have nDp : D ≠ p := ne_of_none h3 np
    refine ⟨_, by rw [upd_ne nDp]; exact h3, by rw [List.length_map]; exact small1000 (by omega), ps ++ [p], ?_, ?_, ?_⟩
    · exact same_mut (sm.trans (same_upd np)) hD
    · rw [upd_same, List.map_append]; rfl
    · rw [List.take_add_one, List.getElem?_eq_getElem hn, List.map_append]
      have kT : Keep H4 (upd (upd H4 p (.tup [.int seen[n], .int 1])) D (.lst (ps.map V.ref ++ [.ref p]))) := by
        refine ⟨fun a xs h => ?_, fun a o u h => ?_⟩
        · rw [upd_ne (ne_of h h3 (by intro z; cases z)), upd_ne (ne_of_none h np)]; exact h
        · rw [upd_ne (ne_of h h3 (by intro z; cases z)), upd_ne (ne_of_none h np)]; exact h
      refine Paired.snoc ?_ (pairs_keep kT pr)
      show upd (upd H4 p _) D _ p = _
      rw [upd_ne nDp.symm, upd_same]
  · rintro H3 ⟨ps, sm, h3, pr⟩
    rw [List.length_map, List.take_length] at pr
    exact hq H3 ps sm h3 pr
def spSeen : Sp := fun vs H Q _ => ∃ (v : V) (r : Rule), vs = [v] ∧ RuleAt H v r ∧ r.persons.length ≤ 1000 ∧ ∀ (p : Addr) (ps : List Addr) (H' : Hp), Same H H' → H p = none → H' p = some (.lst (ps.map V.ref)) → Paired (PairAtH H') ps (seenPairs r) → Q (.ref p) H'
theorem ok_seen (T : Txt K mg) : FnOk P w K mg base CX0 1 T.f_seen T.fd_seen ["_law_own_rule"] spSeen := by
  refine T.F_seen.ok sc_seen (fun vs H Q E h => ?_) (fun cdv A outer s H vs Q E hr h => ?_)
  · obtain ⟨v, r, rfl, _⟩ := h
    rfl
  · obtain ⟨v, r, rfl, hv, hl, q⟩ := h
    refine ⟨_, (pss_cons (ps_if (pt_cmpR op_eq (pe_ix ix_tup (pv 0) pe_int (fun _ _ => rfl)) pe_str (nomark _))
        (pss_one (ps_ret (pe_lst pa_nil)))
        pss_nil)
      (pss_one (ps_ret (pe_ifExp (pt_cmpR op_in_seq (pe_ix ix_tup (pv 0) pe_int (fun _ _ => rfl)) (pe_tup (pa_cons pe_str (pa_cons pe_str pa_nil))) (by rfl)) (pe_callTy call_list_of (by rfl) T.m_list (by decide +kernel) (pa_cons (pe_ix ix_tup (pv 0) pe_int (fun _ _ => rfl)) pa_nil)) (pe_lc (own := [("_law_one", 1)]) (g := gName 1) (by rfl) sc_seen.nd (pi_tup (pe_ix ix_tup (pv 0) (pe_un un_neg pe_int) (fun _ _ => rfl))) (blkOk_by (own := [("_law_one", 1)]) (N := n_seen) (sc := defScope s_seen) (by decide +kernel)) (fun _ _ _ _ _ => (pg_name (i := 1) sc_seen.nd rfl (.inl rfl) (.inr rfl))) (fun _ _ _ _ _ => pts_nil) (fun _ _ _ _ _ => (pe_tup (pa_cons (pv 1) (pa_cons pe_int pa_nil))))))))), ?_⟩
    cases r with
    | held n =>
      obtain ⟨a, rfl, ha⟩ := hv
      refine ⟨.ref a, rfl, a, _, 0, _, rfl, rfl, .inl (.inl ha), rfl, rfl, _, rfl, iteP (by decide +kernel) ?_⟩
      exact ⟨Nat.zero_le _, fun p np => q p [] _ (same_upd np) np upd_same .nil⟩
    | sum own ties =>
      obtain ⟨a, t, rfl, ha, o, ps, od, ht, pr⟩ := hv
      refine ⟨.ref a, rfl, a, _, 0, _, rfl, rfl, .inl (.inl ha), rfl, rfl, _, rfl, iteN (by decide +kernel) ?_⟩
      refine ⟨.ref a, rfl, a, _, 0, _, rfl, rfl, .inl (.inl ha), rfl, by show 2 ≤ sizeLine; decide, fun u hu => ⟨u, _, rfl, .inr (.inl (.inl upd_same)), rfl, rfl, _, rfl, iteP (by decide +kernel) ?_⟩⟩
      have s1 := same_upd (o := .tup [.str "sum", .str "cap"]) hu
      refine ⟨.ref a, rfl, a, _, 2, _, rfl, rfl, .inl (.inl (s1 _ _ ha)), rfl, t, _, rfl, .inr (.inl (.inr ⟨o, s1 _ _ ht⟩)), fun p np => ?_⟩
      exact q p ps _ (s1.trans (same_upd np)) (s1.free np) upd_same (pairs_keep (Keep.same (s1.trans (same_upd np))) pr)
    | cap own ties most =>
      obtain ⟨a, t, rfl, ha, o, ps, od, ht, pr⟩ := hv
      refine ⟨.ref a, rfl, a, _, 0, _, rfl, rfl, .inl (.inl ha), rfl, rfl, _, rfl, iteN (by decide +kernel) ?_⟩
      refine ⟨.ref a, rfl, a, _, 0, _, rfl, rfl, .inl (.inl ha), rfl, by show 2 ≤ sizeLine; decide, fun u hu => ⟨u, _, rfl, .inr (.inl (.inl upd_same)), rfl, rfl, _, rfl, iteP (by decide +kernel) ?_⟩⟩
      have s1 := same_upd (o := .tup [.str "sum", .str "cap"]) hu
      refine ⟨.ref a, rfl, a, _, 2, _, rfl, rfl, .inl (.inl (s1 _ _ ha)), rfl, t, _, rfl, .inr (.inl (.inr ⟨o, s1 _ _ ht⟩)), fun p np => ?_⟩
      exact q p ps _ (s1.trans (same_upd np)) (s1.free np) upd_same (pairs_keep (Keep.same (s1.trans (same_upd np))) pr)
    | kinds own seen =>
      obtain ⟨a, t, rfl, ha, hs⟩ := hv
      refine ⟨.ref a, rfl, a, _, 0, _, rfl, rfl, .inl (.inl ha), rfl, rfl, _, rfl, iteN (by decide +kernel) ?_⟩
      refine ⟨.ref a, rfl, a, _, 0, _, rfl, rfl, .inl (.inl ha), rfl, by show 2 ≤ sizeLine; decide, fun u hu => ⟨u, _, rfl, .inr (.inl (.inl upd_same)), rfl, rfl, _, rfl, iteN (by decide +kernel) ?_⟩⟩
      have s1 := same_upd (o := .tup [.str "sum", .str "cap"]) hu
      have hs1 := hs.keep (Keep.same s1)
      refine ⟨.ref a, rfl, 1, rfl, a, _, -1, _, rfl, rfl, .inl (.inl (s1 _ _ ha)), rfl, t, rfl, ⟨_, .inl (.inr ⟨hs1.choose, hs1.choose_spec.2⟩)⟩, fun D hD => ?_⟩
      exact lc_ones hs1 hD hl (fun _ => rfl) (fun _ => rfl) (fun H3 ps s3 h3 pr => q D ps H3 (s1.trans s3) (s1.free hD) h3 pr)
    | next seen =>
      obtain ⟨a, t, rfl, ha, hs⟩ := hv
      refine ⟨.ref a, rfl, a, _, 0, _, rfl, rfl, .inl (.inl ha), rfl, rfl, _, rfl, iteN (by decide +kernel) ?_⟩
      refine ⟨.ref a, rfl, a, _, 0, _, rfl, rfl, .inl (.inl ha), rfl, by show 2 ≤ sizeLine; decide, fun u hu => ⟨u, _, rfl, .inr (.inl (.inl upd_same)), rfl, rfl, _, rfl, iteN (by decide +kernel) ?_⟩⟩
      have s1 := same_upd (o := .tup [.str "sum", .str "cap"]) hu
      have hs1 := hs.keep (Keep.same s1)
      refine ⟨.ref a, rfl, 1, rfl, a, _, -1, _, rfl, rfl, .inl (.inl (s1 _ _ ha)), rfl, t, rfl, ⟨_, .inl (.inr ⟨hs1.choose, hs1.choose_spec.2⟩)⟩, fun D hD => ?_⟩
      exact lc_ones hs1 hD hl (fun _ => rfl) (fun _ => rfl) (fun H3 ps s3 h3 pr => q D ps H3 (s1.trans s3) (s1.free hD) h3 pr)
    | free seen =>
      obtain ⟨a, t, rfl, ha, hs⟩ := hv
      refine ⟨.ref a, rfl, a, _, 0, _, rfl, rfl, .inl (.inl ha), rfl, rfl, _, rfl, iteN (by decide +kernel) ?_⟩
      refine ⟨.ref a, rfl, a, _, 0, _, rfl, rfl, .inl (.inl ha), rfl, by show 2 ≤ sizeLine; decide, fun u hu => ⟨u, _, rfl, .inr (.inl (.inl upd_same)), rfl, rfl, _, rfl, iteN (by decide +kernel) ?_⟩⟩
      have s1 := same_upd (o := .tup [.str "sum", .str "cap"]) hu
      have hs1 := hs.keep (Keep.same s1)
      refine ⟨.ref a, rfl, 1, rfl, a, _, -1, _, rfl, rfl, .inl (.inl (s1 _ _ ha)), rfl, t, rfl, ⟨_, .inl (.inr ⟨hs1.choose, hs1.choose_spec.2⟩)⟩, fun D hD => ?_⟩
      exact lc_ones hs1 hD hl (fun _ => rfl) (fun _ => rfl) (fun H3 ps s3 h3 pr => q D ps H3 (s1.trans s3) (s1.free hD) h3 pr)
def wordOf : Rule → Str
  | .held _ => "held"
  | .sum _ _ => "sum"
  | .cap _ _ _ => "cap"
  | .kinds _ _ => "kinds"
  | .next _ => "next"
  | .free _ => "free"
theorem RuleAt.word {H : Hp} {v : V} : ∀ {r : Rule}, RuleAt H v r → ∃ a xs, v = .ref a ∧ H a = some (.tup (.str (wordOf r) :: xs))
  | .held _, ⟨a, e, h⟩ => ⟨a, _, e, h⟩
  | .sum _ _, ⟨a, t, e, h, _⟩ => ⟨a, _, e, h⟩
  | .cap _ _ _, ⟨a, t, e, h, _⟩ => ⟨a, _, e, h⟩
  | .kinds _ _, ⟨a, t, e, h, _⟩ => ⟨a, _, e, h⟩
  | .next _, ⟨a, t, e, h, _⟩ => ⟨a, _, e, h⟩
  | .free _, ⟨a, t, e, h, _⟩ => ⟨a, _, e, h⟩
theorem last_max : ∀ (ms : List Int) (h : ms ≠ []), ms.Pairwise (· < ·) → ∀ y ∈ ms, y ≤ ms.getLast h
  | [], h, _, _, _ => absurd rfl h
  | [m], _, _, y, hy => by rw [List.mem_singleton.mp hy]; exact Int.le_refl _
  | m :: n :: r, _, pw, y, hy => by
    rw [List.getLast_cons (List.cons_ne_nil n r)]
    have p2 := List.pairwise_cons.mp pw
    rcases List.mem_cons.mp hy with e | e
    · have h1 := p2.1 _ (List.getLast_mem (List.cons_ne_nil n r))
      rw [e]; omega
    · exact last_max (n :: r) (List.cons_ne_nil n r) p2.2 y e
theorem canLay_ints : ∀ ns : List Int, PyData.canLayAll0 (ns.map PyData.int) = true
  | [] => rfl
  | n :: r => by rw [List.map_cons]; show (PyData.canLay0 (.int n) && PyData.canLayAll0 (r.map PyData.int)) = true; rw [canLay_ints r]; rfl
theorem depth_ints : ∀ ns : List Int, PyData.depthAll (ns.map PyData.int) = 0
  | [] => rfl
  | n :: r => by rw [List.map_cons]; show max 0 (PyData.depthAll (r.map PyData.int)) = 0; rw [depth_ints r]; rfl
theorem shaped_ints (ns : List Int) : SeqAt.shaped (.list (ns.map PyData.int)) = true := by
  show (PyData.canLayAll0 (ns.map PyData.int) && decide (PyData.depthAll (ns.map PyData.int) + 1 ≤ 64)) = true
  rw [canLay_ints, depth_ints]
  rfl
/-- [e for n in numbers] -/
theorem lc_ints {K : PySem.W.Frag} {t : Addr} {ns : List Int} {H1 : Hp} {D : Addr} {σ : L2.St} {vs : List Nat} {te : TE} {Qd : Hp → Prop} {i : Nat} (f : Int → Int) (ht : H1 t = some (.lst (ns.map V.int))) (hD : H1 D = none) (hl : ns.length ≤ 1000)
    (hw : ∀ a, wipe ((wipe σ vs).set i a) vs = wipe σ vs)
    (he : ∀ n ∈ ns, ∀ H3, Same H1 H3 → ∀ Q : VK, Q (.int (f n)) H3 → te ((wipe σ vs).set i (some (.int n))) H3 Q)
    (hq : ∀ H', Same H1 H' → H' D = some (.lst ((ns.map f).map V.int)) → Qd H') :
    ∃ W : Nat → Nat → Hp → Prop, (∃ m, W 0 m (upd H1 D (.lst []))) ∧ ∀ i1 m H, W i1 m H →
      ((Itl K t).stop i1 H ∧ Qd H) ∨ ((Itl K t).go i1 H ∧ ∃ Nx : Hp → Prop, (∀ H', Nx H' → ∃ m', m' < m ∧ W (i1 + 1) m' H') ∧ ∀ x H', (Itl K t).yld i1 H x H' → gName i x (wipe σ vs) H' fun σ2 H2 => wipe σ2 vs = wipe σ vs ∧ tYes σ2 H2 fun b H3 =>
        if b = true then te σ2 H3 fun y H4 => ∃ acc, H4 D = some (.lst acc) ∧ acc.length < sizeLine ∧ Nx (upd H4 D (.lst (acc ++ [y]))) else Nx H3) := by
  refine lc_it (walk_list (xs := ns.map V.int)) (fun n H3 => Same H1 H3 ∧ H3 D = some (.lst (((ns.take n).map f).map V.int))) ⟨same_upd hD, upd_same⟩ ?_ ?_ ?_
  · rintro n H3 _ ⟨sm, _⟩
    exact .inl (.inl (sm _ _ ht))
  · rintro n x H3 H4 hn ⟨sm, h3⟩ ⟨rfl, hx⟩
    rw [List.length_map] at hn
    rw [List.getElem?_map, List.getElem?_eq_getElem hn] at hx
    have ex : x = .int ns[n] := (Option.some.inj hx).symm
    subst ex
    refine ⟨hw _, yes (iteT (he ns[n] (List.getElem_mem hn) _ sm _ ⟨_, h3, ?_, same_mut sm hD, ?_⟩))⟩
    · rw [List.length_map, List.length_map, List.length_take]; exact small1000 (by omega)
    · rw [upd_same, List.take_add_one, List.getElem?_eq_getElem hn, List.map_append, List.map_append]; rfl
  · rintro H3 ⟨sm, h3⟩
    rw [List.length_map, List.take_length] at h3
    exact hq H3 sm h3
def spTells : Sp := fun vs H Q _ => ∃ (v l : V) (r : Rule) (many : Int) (lot : List (Int × Int)), vs = [v, l] ∧ RuleAt H v r ∧ r.Wf many ∧ r.persons.length ≤ 1000 ∧ (∃ (a : Addr) (ps : List Addr), l = .ref a ∧ H a = some (.lst (ps.map V.ref)) ∧ Paired (PairAtH H) ps lot ∧ ps.length ≤ 60) ∧
  (∀ q ∈ lot, q.1 ∈ r.persons) ∧ ∀ (x : Int) (H' : Hp), Same H H' → Tell r lot x → Q (.int x) H'
theorem ok_tells (T : Txt K mg) : FnOk P w K mg base CX0 2 T.f_tells T.fd_tells ["_law_own_rule", "_law_bunch"] spTells := by
  have G_seen := ok_seen (P := P) (w := w) (base := base) T
  refine T.F_tells.ok sc_tells (fun vs H Q E h => ?_) (fun cdv A outer s H vs Q E hr h => ?_)
  · obtain ⟨v, l, r, many, lot, rfl, _⟩ := h
    rfl
  · obtain ⟨v, l, r, many, lot, rfl, hv, wf, hl, ⟨b, qs, rfl, hb, pq, lq⟩, sub, q⟩ := h
    refine ⟨_, (pss_cons (ps_asg (pe_tup (pa_cons (pe_ix ix_tup (pv 0) pe_int (fun _ _ => rfl)) (pa_cons (pe_callB (r := rSortedSet w) (cr_sortedSet rfl) (by rfl) T.m_sorted (by decide +kernel) (pa_cons (pe_callTy (r := rSetL K w) (cr_setL rfl) (by rfl) T.m_set (by decide +kernel) (pa_cons (pe_lc (own := [("_law_other", 4), ("_law_number", 5)]) (g := gTup K 2 (gCons (gName 4) (gCons (gName 5) gNil))) (by rfl) sc_tells.nd (pi_list (pv 1)) (blkOk_by (own := [("_law_other", 4), ("_law_number", 5)]) (N := n_tells) (sc := defScope s_tells) (by decide +kernel)) (fun _ _ _ _ _ => (pg_tup rfl (pgs_cons (pg_name (i := 4) sc_tells.nd rfl (.inl rfl) (.inr rfl)) (pgs_cons (pg_name (i := 5) sc_tells.nd rfl (.inl rfl) (.inr rfl)) pgs_nil)))) (fun _ _ _ _ _ => pts_nil) (fun _ _ _ _ _ => (pv 5))) pa_nil)) pa_nil)) pa_nil))) (pg_tup rfl (pgs_cons (pg_name (i := 2) sc_tells.nd rfl (.inl rfl)) (pgs_cons (pg_name (i := 3) sc_tells.nd rfl (.inr rfl)) pgs_nil))))
      (pss_cons (ps_if (pt_cmpR op_eq (pv 2) pe_str (nomark _))
        (pss_one (ps_ret (pe_ix ix_tup (pv 0) pe_int (fun _ _ => rfl))))
        pss_nil)
      (pss_cons (ps_if (pt_cmpR op_eq (pv 2) pe_str (nomark _))
        (pss_one (ps_ret (pe_op op_add (pe_ix ix_tup (pv 0) pe_int (fun _ _ => rfl)) (pe_callB call_len_seq (by rfl) T.m_len (by decide +kernel) (pa_cons (pv 3) pa_nil)))))
        pss_nil)
      (pss_cons (ps_if (pt_cmpR op_eq (pv 2) pe_str (nomark _))
        (pss_one (ps_ret (pe_ifExp (pt_cmpR (op_neD hr.units) (pv 3) (pe_lst pa_nil) (nomark _)) (pe_op op_add (pe_ix ix_list (pv 3) (pe_un un_neg pe_int) (fun _ _ => rfl)) pe_int) pe_int)))
        pss_nil)
      (pss_cons (ps_if (pt_cmpR op_eq (pv 2) pe_str (nomark _))
        (pss_one (ps_ret (pe_ix ix_list (pe_lc (own := [("_law_k", 6)]) (g := gName 6) (by rfl) sc_tells.nd (pi_range1 (by rfl) T.m_range (pa_cons (pe_op op_add (pe_callB call_len_seq (by rfl) T.m_len (by decide +kernel) (pa_cons (pv 3) pa_nil)) pe_int) pa_nil)) (blkOk_by (own := [("_law_k", 6)]) (N := n_tells) (sc := defScope s_tells) (by decide +kernel)) (fun _ _ _ _ _ => (pg_name (i := 6) sc_tells.nd rfl (.inl rfl) (.inr rfl))) (fun _ _ _ _ _ => (pts_one (pt_cmpR (r := rIn K true) op_notIn_seq (pv 6) (pv 3) (by rfl)))) (fun _ _ _ _ _ => (pv 6))) pe_int (fun _ _ => rfl))))
        pss_nil)
      (pss_cons (ps_asg (pe_tup (pa_cons (pe_callTy (call_dictP rfl) (by rfl) T.m_dict (by decide +kernel) (pa_cons (pe_call G_seen (hr.mono (by decide)) (by rfl) T.g_seen T.F_seen.kp T.b_seen .nil pass0 (pa_cons (pv 0) pa_nil)) pa_nil)) (pa_cons (pe_lc (own := [("_law_other", 4), ("_law_number", 5)]) (g := gTup K 2 (gCons (gName 4) (gCons (gName 5) gNil))) (by rfl) sc_tells.nd (pi_list (pv 1)) (blkOk_by (own := [("_law_other", 4), ("_law_number", 5)]) (N := n_tells) (sc := defScope s_tells) (by decide +kernel)) (fun _ _ _ _ _ => (pg_tup rfl (pgs_cons (pg_name (i := 4) sc_tells.nd rfl (.inl rfl) (.inr rfl)) (pgs_cons (pg_name (i := 5) sc_tells.nd rfl (.inl rfl) (.inr rfl)) pgs_nil)))) (fun _ _ _ _ _ => pts_nil) (fun _ _ _ _ _ => (pv 4))) pa_nil))) (pg_tup rfl (pgs_cons (pg_name (i := 7) sc_tells.nd rfl (.inr rfl)) (pgs_cons (pg_name (i := 8) sc_tells.nd rfl (.inl rfl)) pgs_nil))))
      (pss_cons (ps_set (i := 9) sc_tells.nd rfl (.inl rfl) (pe_op op_add (pe_ix ix_tup (pv 0) pe_int (fun _ _ => rfl)) (pe_callB (cr_sum rfl) (by rfl) T.m_sum (by decide +kernel) (pa_cons (pe_lc (own := [("_law_other", 4)]) (g := gName 4) (by rfl) sc_tells.nd (pi_list (pv 8)) (blkOk_by (own := [("_law_other", 4)]) (N := n_tells) (sc := defScope s_tells) (by decide +kernel)) (fun _ _ _ _ _ => (pg_name (i := 4) sc_tells.nd rfl (.inl rfl) (.inr rfl))) (fun _ _ _ _ _ => pts_nil) (fun _ _ _ _ _ => (pe_dget (hu_of hr) (pv 7) (pv 4) (fun _ _ => rfl)))) pa_nil))))
      (pss_one (ps_ret (pe_ifExp (pt_cmpR op_eq (pv 2) pe_str (nomark _)) (pv 9) (pe_callB (call_min2 rfl) (by rfl) T.m_min (by decide +kernel) (pa_cons (pv 9) (pa_cons (pe_ix ix_tup (pv 0) pe_int (fun _ _ => rfl)) pa_nil))))))))))))), ?_⟩
    obtain ⟨a, xs, rfl, ha⟩ := hv.word
    have hl3 : (lot.map (·.2)).length ≤ 60 := by rw [List.length_map, ← pq.length]; exact lq
    refine ⟨.ref a, rfl, a, _, 0, _, rfl, rfl, .inl (.inl ha), atI_nat (j := 0) rfl, .ref b, rfl, b, rfl, ⟨_, .inl (.inl hb)⟩, fun D hD => ?_⟩
    refine lc_pairs (·.2) (walk_listR qs) pq hD (by omega) (fun H3 s3 => .inl (.inl (s3 _ _ hb))) (fun _ _ => rfl) (fun q _ H3 _ Q h => ⟨_, rfl, h⟩) (fun H3 s3 h3 => ?_)
    refine ⟨D, _, rfl, .inl (.inl h3), by omega, fun p c ks np nd kl cl mem => ⟨p, _, c, rfl, upd_same, by omega, fun ms z pw mm0 ml nz => ⟨by show 2 ≤ sizeLine; decide, fun t nt => ⟨t, _, rfl, .inl (.inl upd_same), rfl, _, _, rfl, _, _, rfl, rfl, ?_⟩⟩⟩⟩
    have s4 : Same H (upd (upd (upd H3 p (SetO w p (fun j => decide (j ∈ lot.map (·.2))) c)) z (.lst (ms.map V.int))) t (.tup [.str (wordOf r), .ref z])) := s3.trans ((same_upd np).trans ((same_upd nz).trans (same_upd nt)))
    have hz : (upd (upd (upd H3 p (SetO w p (fun j => decide (j ∈ lot.map (·.2))) c)) z (.lst (ms.map V.int))) t (.tup [.str (wordOf r), .ref z])) z = some (.lst (ms.map V.int)) := by rw [upd_ne (ne_of_none upd_same nt)]; exact upd_same
    have mm : ∀ k, k ∈ ms ↔ k ∈ lot.map (·.2) := fun k => (mm0 k).trans decide_eq_true_iff
    have mlen : ms.length ≤ 60 := by omega
    have mnd : ms.Nodup := List.nodup_iff_pairwise_ne.mpr (pw.imp fun z => by omega)
    generalize hH4 : upd (upd (upd H3 p (SetO w p (fun j => decide (j ∈ lot.map (·.2))) c)) z (.lst (ms.map V.int))) t (.tup [.str (wordOf r), .ref z]) = H4 at *
    have hv4 := hv.keep (Keep.same s4)
    have hb4 := s4 _ _ hb
    have pq4 := pairs_keep (Keep.same s4) pq
    cases r with
    | held n =>
      obtain ⟨a', e, ha'⟩ := hv4
      cases e
      refine ⟨_, rfl, rfl, _, rfl, iteP (show decide (V.str (Str.ofString "held") = V.str (Str.ofString "held")) = true by decide +kernel) ?_⟩
      exact ⟨.ref a, rfl, a, _, 1, _, rfl, rfl, .inl (.inl ha'), rfl, q n H4 s4 rfl⟩
    | kinds own seen =>
      obtain ⟨a', t', e, ha', hs⟩ := hv4
      cases e
      refine ⟨_, rfl, rfl, _, rfl, iteN (show decide (V.str (Str.ofString "kinds") = V.str (Str.ofString "held")) = false by decide +kernel) ?_⟩
      refine ⟨_, rfl, rfl, _, rfl, iteP (show decide (V.str (Str.ofString "kinds") = V.str (Str.ofString "kinds")) = true by decide +kernel) ?_⟩
      refine ⟨.ref a, rfl, a, _, 1, _, rfl, rfl, .inl (.inl ha'), rfl, .ref z, rfl, z, _, rfl, .inl (.inl (.inl hz)), own, _, rfl, rfl, q _ H4 s4 ⟨ms, mnd, mm, ?_⟩⟩
      rw [List.length_map]
    | next seen =>
      refine ⟨_, rfl, rfl, _, rfl, iteN (show decide (V.str (Str.ofString "next") = V.str (Str.ofString "held")) = false by decide +kernel) ?_⟩
      refine ⟨_, rfl, rfl, _, rfl, iteN (show decide (V.str (Str.ofString "next") = V.str (Str.ofString "kinds")) = false by decide +kernel) ?_⟩
      refine ⟨_, rfl, rfl, _, rfl, iteP (show decide (V.str (Str.ofString "next") = V.str (Str.ofString "next")) = true by decide +kernel) ?_⟩
      refine ⟨.ref z, rfl, Nat.zero_le _, fun e he => ?_⟩
      have hz5 : upd H4 e (.lst []) z = some (.lst (ms.map V.int)) := by rw [upd_ne (ne_of_none hz he)]; exact hz
      refine ⟨.list (ms.map PyData.int), .list [], .lst (.inl (.inl hz5)) (RpAll.dp (bx := 0) (RpAll.ints ms)), .lst (.inl (.inl upd_same)) .nil, shaped_ints ms, by decide +kernel, _, rfl, ?_⟩
      cases ms with
      | nil =>
        refine iteN (by decide +kernel) ?_
        refine q 0 _ (s4.trans (same_upd he)) (.inl ⟨?_, rfl⟩)
        cases lot with
        | nil => rfl
        | cons x r => exact absurd ((mm x.2).mpr (by simp)) (by simp)
      | cons m r =>
        refine iteP (by rfl) ?_
        have gl : atI ((m :: r).map V.int) (-1) = some (.int ((m :: r).getLast (List.cons_ne_nil _ _))) := by
          have hd : (m :: r).map V.int = ((m :: r).dropLast.map V.int) ++ [.int ((m :: r).getLast (List.cons_ne_nil _ _))] := by
            rw [← List.map_singleton, ← List.map_append, List.dropLast_concat_getLast]
          rw [hd]
          exact atI_last _ _
        refine ⟨.ref z, rfl, 1, rfl, z, _, -1, _, rfl, rfl, .inl (.inl hz5), gl, _, 1, rfl, rfl, q _ _ (s4.trans (same_upd he)) (.inr ⟨?_, fun y hy => ?_⟩)⟩
        · rw [show (m :: r).getLast (List.cons_ne_nil _ _) + 1 - 1 = (m :: r).getLast (List.cons_ne_nil _ _) by omega]
          exact (mm _).mp (List.getLast_mem _)
        · have := last_max (m :: r) (List.cons_ne_nil _ _) pw y ((mm y).mpr hy)
          omega
    | free seen =>
      refine ⟨_, rfl, rfl, _, rfl, iteN (show decide (V.str (Str.ofString "free") = V.str (Str.ofString "held")) = false by decide +kernel) ?_⟩
      refine ⟨_, rfl, rfl, _, rfl, iteN (show decide (V.str (Str.ofString "free") = V.str (Str.ofString "kinds")) = false by decide +kernel) ?_⟩
      refine ⟨_, rfl, rfl, _, rfl, iteN (show decide (V.str (Str.ofString "free") = V.str (Str.ofString "next")) = false by decide +kernel) ?_⟩
      refine ⟨_, rfl, rfl, _, rfl, iteP (show decide (V.str (Str.ofString "free") = V.str (Str.ofString "free")) = true by decide +kernel) ?_⟩
      refine ⟨.ref z, rfl, z, _, rfl, .inl (.inl (.inl hz)), _, 1, rfl, rfl, _, rfl, ?_, ?_, fun D2 hD2 => ?_⟩
      · rw [List.length_map]; omega
      · rw [List.length_map]; omega
      have en : (((ms.map V.int).length : Int) + 1).toNat = ms.length + 1 := by rw [List.length_map]; omega
      rw [en]
      refine lc_it walk_range (fun i H5 => Same H4 H5 ∧ H5 D2 = some (.lst ((((List.range i).filter fun k : Nat => decide ((k : Int) ∉ ms)).map fun k : Nat => V.int k)))) ⟨same_upd hD2, upd_same⟩ (fun _ _ _ _ => trivial) ?_ ?_
      · rintro i x H5 H6 hi ⟨s5, h5⟩ ⟨rfl, rfl⟩
        refine ⟨rfl, ?_⟩
        refine ⟨.int (0 + i), rfl, .ref z, rfl, z, _, rfl, .inl (.inl (.inl (s5 _ _ hz))), rfl, flat_ints ms, _, rfl, ?_⟩
        rw [if_pos rfl, in_ints, Int.zero_add]
        have fl : ((List.range (i + 1)).filter fun k : Nat => decide ((k : Int) ∉ ms)) = ((List.range i).filter fun k : Nat => decide ((k : Int) ∉ ms)) ++ (if (i : Int) ∈ ms then [] else [i]) := by
          rw [List.range_succ, List.filter_append]
          congr 1
          by_cases c : (i : Int) ∈ ms
          · rw [if_pos c, List.filter_cons, if_neg (by simpa using c)]; rfl
          · rw [if_neg c, List.filter_cons, if_pos (by simpa using c)]; rfl
        refine ite2 (fun e => ?_) (fun e => ?_)
        · have c : (i : Int) ∉ ms := by simpa using e
          refine ⟨.int (0 + i), rfl, _, h5, ?_, same_mut s5 hD2, ?_⟩
          · rw [List.length_map]
            refine small1000 ?_
            have := List.length_filter_le (fun k : Nat => decide ((k : Int) ∉ ms)) (List.range i)
            rw [List.length_range] at this
            omega
          · rw [upd_same, fl, if_neg c, List.map_append, Int.zero_add]; rfl
        · have c : (i : Int) ∈ ms := by simpa using e
          refine ⟨s5, ?_⟩
          rw [fl, if_pos c, List.append_nil]; exact h5
      · rintro H5 ⟨s5, h5⟩
        obtain ⟨h, tl, el⟩ : ∃ h tl, ((List.range (ms.length + 1)).filter fun k : Nat => decide ((k : Int) ∉ ms)) = h :: tl := by
          cases q : ((List.range (ms.length + 1)).filter fun k : Nat => decide ((k : Int) ∉ ms)) with
          | cons h tl => exact ⟨h, tl, rfl⟩
          | nil =>
            exfalso
            have hh := nodup_len ((List.range (ms.length + 1)).map fun n : Nat => (n : Int)) ms (by
              rw [List.nodup_iff_pairwise_ne]
              exact List.Pairwise.map _ (fun a b z q => z (by omega)) (List.nodup_iff_pairwise_ne.mp List.nodup_range)) (fun x hx => by
                obtain ⟨n, hn, rfl⟩ := List.mem_map.mp hx
                have := List.filter_eq_nil_iff.mp q n hn
                simpa using this)
            rw [List.length_map, List.length_range] at hh
            omega
        rw [el] at h5
        refine ⟨D2, _, 0, .int h, rfl, rfl, .inl (.inl h5), atI_nat (j := 0) rfl, q h _ (s4.trans s5) ?_⟩
        have mh : h ∈ ((List.range (ms.length + 1)).filter fun k : Nat => decide ((k : Int) ∉ ms)) := by rw [el]; exact List.mem_cons_self
        obtain ⟨mh1, mh2⟩ := List.mem_filter.mp mh
        have srt : ((List.range (ms.length + 1)).filter fun k : Nat => decide ((k : Int) ∉ ms)).Pairwise (· < ·) := List.Pairwise.sublist List.filter_sublist List.pairwise_lt_range
        refine ⟨fun z => ?_, by omega, fun j j0 j1 => ?_⟩
        · exact of_decide_eq_true mh2 ((mm _).mpr z)
        · refine (mm j).mp ?_
          by_cases c : j ∈ ms
          · exact c
          · exfalso
            have mj : j.toNat ∈ ((List.range (ms.length + 1)).filter fun k : Nat => decide ((k : Int) ∉ ms)) := by
              refine List.mem_filter.mpr ⟨List.mem_range.mpr (by have := List.mem_range.mp mh1; omega), decide_eq_true ?_⟩
              rw [show ((j.toNat : Nat) : Int) = j by omega]; exact c
            rw [el] at mj srt
            rcases List.mem_cons.mp mj with e | e
            · omega
            · have := (List.pairwise_cons.mp srt).1 _ e; omega
    | sum own ties =>
      obtain ⟨a', t', e, ha', hT⟩ := hv4
      cases e
      obtain ⟨_, rs, _⟩ := wf
      refine ⟨_, rfl, rfl, _, rfl, iteN (show decide (V.str (Str.ofString "sum") = V.str (Str.ofString "held")) = false by decide +kernel) ?_⟩
      refine ⟨_, rfl, rfl, _, rfl, iteN (show decide (V.str (Str.ofString "sum") = V.str (Str.ofString "kinds")) = false by decide +kernel) ?_⟩
      refine ⟨_, rfl, rfl, _, rfl, iteN (show decide (V.str (Str.ofString "sum") = V.str (Str.ofString "next")) = false by decide +kernel) ?_⟩
      refine ⟨_, rfl, rfl, _, rfl, iteN (show decide (V.str (Str.ofString "sum") = V.str (Str.ofString "free")) = false by decide +kernel) ?_⟩
      refine ⟨.ref a, rfl, .ref a, .sum own ties, rfl, ⟨a, t', rfl, ha', hT⟩, hl, fun p5 ps5 H5 s5 n5 h5 pr5 => ?_⟩
      refine ⟨p5, ps5, kvOf ties, rfl, .inl (.inl h5), pairs_sq pr5, fun d hd => ?_⟩
      rw [merge_kv rs.nodup]
      have s6 := s5.trans (same_upd (o := .dK (kvOf ties)) hd)
      refine ⟨.ref b, rfl, b, rfl, ⟨_, .inl (.inl (s6 _ _ hb4))⟩, fun D6 hD6 => ?_⟩
      refine lc_pairs (·.1) (walk_listR qs) (pairs_keep (Keep.same s6) pq4) hD6 (by omega) (fun H3 s3 => .inl (.inl (s3 _ _ (s6 _ _ hb4)))) (fun _ _ => rfl) (fun q _ H3 _ Q h => ⟨_, rfl, h⟩) (fun H7 s7 h7 => ?_)
      refine ⟨by show 2 ≤ sizeLine; decide, fun t8 nt8 => ⟨t8, _, rfl, .inl (.inl upd_same), rfl, _, _, rfl, _, _, rfl, rfl, ?_⟩⟩
      have s8 := s7.trans (same_upd (o := .tup [.ref d, .ref D6]) nt8)
      have h8 := same_upd (o := .tup [.ref d, .ref D6]) nt8 _ _ h7
      have hd8 := s8 _ _ (upd_same (H := H5) (a := d) (o := .dK (kvOf ties)))
      refine ⟨.ref a, rfl, a, _, 1, _, rfl, rfl, .inl (.inl (s8 _ _ (s6 _ _ ha'))), rfl, .ref D6, rfl, D6, rfl, ⟨_, .inl (.inl h8)⟩, fun D9 hD9 => ?_⟩
      refine lc_ints (fun n => wgt ties n) h8 hD9 (by rw [List.length_map, ← pq.length]; omega) (fun _ => rfl) (fun n hn H9 s9 Q h => ?_) (fun H9 s9 h9 => ?_)
      · refine ⟨.ref d, rfl, .int n, rfl, d, _, rfl, ?_, h⟩
        obtain ⟨q0, hq0, rfl⟩ := List.mem_map.mp hn
        rw [← kv_get (sub q0 hq0)]
        exact DGet.k (k := Sum.inl q0.1) (s9 _ _ hd8)
      · refine ⟨D9, _, rfl, .inl (.inl h9), own, _, rfl, rfl, ?_⟩
        rw [List.map_map]
        refine ⟨_, rfl, rfl, _, rfl, iteP (show decide (V.str (Str.ofString "sum") = V.str (Str.ofString "sum")) = true by decide +kernel) ?_⟩
        exact ⟨_, rfl, q _ _ (s4.trans (s6.trans (s8.trans s9))) rfl⟩
    | cap own ties most =>
      obtain ⟨a', t', e, ha', hT⟩ := hv4
      cases e
      obtain ⟨_, rs, _⟩ := wf
      refine ⟨_, rfl, rfl, _, rfl, iteN (show decide (V.str (Str.ofString "cap") = V.str (Str.ofString "held")) = false by decide +kernel) ?_⟩
      refine ⟨_, rfl, rfl, _, rfl, iteN (show decide (V.str (Str.ofString "cap") = V.str (Str.ofString "kinds")) = false by decide +kernel) ?_⟩
      refine ⟨_, rfl, rfl, _, rfl, iteN (show decide (V.str (Str.ofString "cap") = V.str (Str.ofString "next")) = false by decide +kernel) ?_⟩
      refine ⟨_, rfl, rfl, _, rfl, iteN (show decide (V.str (Str.ofString "cap") = V.str (Str.ofString "free")) = false by decide +kernel) ?_⟩
      refine ⟨.ref a, rfl, .ref a, .cap own ties most, rfl, ⟨a, t', rfl, ha', hT⟩, hl, fun p5 ps5 H5 s5 n5 h5 pr5 => ?_⟩
      refine ⟨p5, ps5, kvOf ties, rfl, .inl (.inl h5), pairs_sq pr5, fun d hd => ?_⟩
      rw [merge_kv rs.nodup]
      have s6 := s5.trans (same_upd (o := .dK (kvOf ties)) hd)
      refine ⟨.ref b, rfl, b, rfl, ⟨_, .inl (.inl (s6 _ _ hb4))⟩, fun D6 hD6 => ?_⟩
      refine lc_pairs (·.1) (walk_listR qs) (pairs_keep (Keep.same s6) pq4) hD6 (by omega) (fun H3 s3 => .inl (.inl (s3 _ _ (s6 _ _ hb4)))) (fun _ _ => rfl) (fun q _ H3 _ Q h => ⟨_, rfl, h⟩) (fun H7 s7 h7 => ?_)
      refine ⟨by show 2 ≤ sizeLine; decide, fun t8 nt8 => ⟨t8, _, rfl, .inl (.inl upd_same), rfl, _, _, rfl, _, _, rfl, rfl, ?_⟩⟩
      have s8 := s7.trans (same_upd (o := .tup [.ref d, .ref D6]) nt8)
      have h8 := same_upd (o := .tup [.ref d, .ref D6]) nt8 _ _ h7
      have hd8 := s8 _ _ (upd_same (H := H5) (a := d) (o := .dK (kvOf ties)))
      refine ⟨.ref a, rfl, a, _, 1, _, rfl, rfl, .inl (.inl (s8 _ _ (s6 _ _ ha'))), rfl, .ref D6, rfl, D6, rfl, ⟨_, .inl (.inl h8)⟩, fun D9 hD9 => ?_⟩
      refine lc_ints (fun n => wgt ties n) h8 hD9 (by rw [List.length_map, ← pq.length]; omega) (fun _ => rfl) (fun n hn H9 s9 Q h => ?_) (fun H9 s9 h9 => ?_)
      · refine ⟨.ref d, rfl, .int n, rfl, d, _, rfl, ?_, h⟩
        obtain ⟨q0, hq0, rfl⟩ := List.mem_map.mp hn
        rw [← kv_get (sub q0 hq0)]
        exact DGet.k (k := Sum.inl q0.1) (s9 _ _ hd8)
      · refine ⟨D9, _, rfl, .inl (.inl h9), own, _, rfl, rfl, ?_⟩
        rw [List.map_map]
        refine ⟨_, rfl, rfl, _, rfl, iteN (show decide (V.str (Str.ofString "cap") = V.str (Str.ofString "sum")) = false by decide +kernel) ?_⟩
        refine ⟨_, rfl, .ref a, rfl, a, _, 3, _, rfl, rfl, .inl (.inl (s9 _ _ (s8 _ _ (s6 _ _ ha')))), rfl, _, _, rfl, q _ _ (s4.trans (s6.trans (s8.trans s9))) ?_⟩
        show (if most < own + (lot.map fun q => wgt ties q.1).sum then most else own + (lot.map fun q => wgt ties q.1).sum) = min (own + (lot.map fun q => wgt ties q.1).sum) most
        split <;> omega
end
end Lh

namespace Lh
open PySem PySem.Spec PyProof.Rows L2
/-- each person with a number of its own -/
def lotOf (ns : List Int) : List (Int × Int) := ns.zipIdx.map fun q => (q.1, (q.2 : Int))
theorem lotOf_len (ns : List Int) : (lotOf ns).length = ns.length := by unfold lotOf; rw [List.length_map, List.length_zipIdx]
theorem lotOf_get {ns : List Int} {i : Nat} (h : i < ns.length) : (lotOf ns)[i]? = some (ns[i], (i : Int)) := by
  unfold lotOf
  rw [List.getElem?_map, List.getElem?_zipIdx, List.getElem?_eq_getElem h]
  show some (ns[i], ((0 + i : Nat) : Int)) = _
  rw [Nat.zero_add]
theorem lotOf_fst (ns : List Int) : (lotOf ns).map (·.1) = ns := by
  apply List.ext_getElem?
  intro i
  rw [List.getElem?_map]
  by_cases h : i < ns.length
  · rw [lotOf_get h, List.getElem?_eq_getElem h]; rfl
  · rw [List.getElem?_eq_none (by rw [lotOf_len]; omega), List.getElem?_eq_none (by omega)]; rfl
theorem lotOf_snd (ns : List Int) : (lotOf ns).map (·.2) = (List.range ns.length).map fun k : Nat => (k : Int) := by
  apply List.ext_getElem?
  intro i
  rw [List.getElem?_map, List.getElem?_map]
  by_cases h : i < ns.length
  · rw [lotOf_get h, List.getElem?_range h]; rfl
  · rw [List.getElem?_eq_none (by rw [lotOf_len]; omega), List.getElem?_eq_none (by rw [List.length_range]; omega)]; rfl
theorem nums_nodup (n : Nat) : ((List.range n).map fun k : Nat => (k : Int)).Nodup := by
  rw [List.nodup_iff_pairwise_ne]
  exact List.Pairwise.map _ (fun a b z q => z (by omega)) (List.nodup_iff_pairwise_ne.mp List.nodup_range)
theorem mem_nums {n : Nat} {x : Int} : x ∈ (List.range n).map (fun k : Nat => (k : Int)) ↔ 0 ≤ x ∧ x < n := by
  rw [List.mem_map]
  constructor
  · rintro ⟨k, hk, rfl⟩
    have := List.mem_range.mp hk
    omega
  · rintro ⟨h0, h1⟩
    exact ⟨x.toNat, List.mem_range.mpr (by omega), by omega⟩
theorem wgt_own : ∀ {ties : List (Int × Int)}, (ties.map (·.1)).Nodup → ∀ q ∈ ties, wgt ties q.1 = q.2
  | [], _, q, h => absurd h (by simp)
  | t :: r, nd, q, h => by
    rw [List.map_cons, List.nodup_cons] at nd
    unfold wgt
    rw [List.find?_cons]
    rcases List.mem_cons.mp h with e | e
    · rw [e, decide_eq_true rfl]; rfl
    · have ne : ¬ t.1 = q.1 := fun z => nd.1 (by rw [z]; exact List.mem_map_of_mem e)
      rw [decide_eq_false ne]
      exact wgt_own nd.2 q e
theorem wgt_all {ties : List (Int × Int)} (nd : (ties.map (·.1)).Nodup) : (ties.map (·.1)).map (fun p => wgt ties p) = ties.map (·.2) := by
  rw [List.map_map]
  exact List.map_congr_left fun q hq => wgt_own nd q hq
theorem sum_sub : ∀ {xs ys : List Int}, xs.Sublist ys → (∀ y ∈ ys, 0 ≤ y) → xs.sum ≤ ys.sum
  | _, _, .slnil, _ => Int.le_refl _
  | _, _, .cons a s, h => by
    have := sum_sub s (fun y hy => h y (List.mem_cons_of_mem _ hy))
    have := h a List.mem_cons_self
    rw [List.sum_cons]; omega
  | _, _, .cons_cons a s, h => by
    have := sum_sub s (fun y hy => h y (List.mem_cons_of_mem _ hy))
    rw [List.sum_cons, List.sum_cons]; omega
theorem lot_wgt (ties lot : List (Int × Int)) : (lot.map fun q => wgt ties q.1) = (lot.map (·.1)).map fun p => wgt ties p := by rw [List.map_map]; rfl
theorem most_sum {ties lot : List (Int × Int)} (nd : (ties.map (·.1)).Nodup) (w1 : ∀ q ∈ ties, 1 ≤ q.2 ∧ q.2 ≤ 1000000) (sub : (lot.map (·.1)).Sublist (ties.map (·.1))) : (lot.map fun q => wgt ties q.1).sum ≤ (ties.map (·.2)).sum := by
  rw [lot_wgt, ← wgt_all nd]
  refine sum_sub (sub.map _) fun y hy => ?_
  rw [wgt_all nd] at hy
  obtain ⟨q, hq, rfl⟩ := List.mem_map.mp hy
  have := w1 q hq
  omega
/-- what most_of tells is what the rule tells of all it sees, each with a number of its own -/
theorem most_tell {many : Int} : ∀ {r : Rule}, r.Wf many → mostV r ≠ .non → ∃ y, mostV r = .int y ∧ Tell r (lotOf r.persons) y
  | .held n, _, _ => ⟨n, rfl, rfl⟩
  | .sum own ties, ⟨_, rs, _⟩, _ => ⟨_, rfl, by
    show own + (ties.map (·.2)).sum = own + ((lotOf (ties.map (·.1))).map fun q => wgt ties q.1).sum
    rw [lot_wgt, lotOf_fst, wgt_all rs.nodup]⟩
  | .cap own ties most, ⟨_, rs, _⟩, _ => ⟨_, rfl, by
    show min (own + (ties.map (·.2)).sum) most = min (own + ((lotOf (ties.map (·.1))).map fun q => wgt ties q.1).sum) most
    rw [lot_wgt, lotOf_fst, wgt_all rs.nodup]⟩
  | .kinds own seen, _, _ => ⟨_, rfl, (List.range seen.length).map (fun k : Nat => (k : Int)), nums_nodup _, fun k => by
      show k ∈ _ ↔ k ∈ (lotOf seen).map (·.2)
      rw [lotOf_snd], by rw [List.length_map, List.length_range]⟩
  | .next _, _, h => absurd rfl h
  | .free seen, _, _ => ⟨_, rfl, by
    show IsMex ((lotOf seen).map (·.2)) seen.length
    rw [lotOf_snd]
    exact ⟨fun z => by have := mem_nums.mp z; omega, by omega, fun j h0 h1 => mem_nums.mpr ⟨h0, h1⟩⟩⟩
/-- and no lot makes it tell more -/
theorem tell_le {many : Int} : ∀ {r : Rule} {lot : List (Int × Int)} {x y : Int}, r.Wf many → (lot.map (·.1)).Sublist r.persons → Tell r lot x → mostV r = .int y → x ≤ y
  | .held n, _, x, y, _, _, h, e => by cases e; rw [h]; exact Int.le_refl _
  | .sum own ties, lot, x, y, ⟨_, rs, w1⟩, sub, h, e => by
    cases e
    have := most_sum rs.nodup w1 sub
    have h' : x = own + (lot.map fun q => wgt ties q.1).sum := h
    omega
  | .cap own ties most, lot, x, y, ⟨_, rs, w1, _⟩, sub, h, e => by
    cases e
    have := most_sum rs.nodup w1 sub
    have h' : x = min (own + (lot.map fun q => wgt ties q.1).sum) most := h
    omega
  | .kinds own seen, lot, x, y, _, sub, ⟨ks, nd, mm, h⟩, e => by
    cases e
    have h1 := nodup_len ks (lot.map (·.2)) nd (fun z hz => (mm z).mp hz)
    have h2 := sub.length_le
    rw [List.length_map] at h1 h2
    have h3 : (Rule.kinds own seen).persons.length = seen.length := rfl
    omega
  | .next _, _, _, _, _, _, _, e => by cases e
  | .free seen, lot, x, y, _, sub, ⟨h1, h2, h3⟩, e => by
    cases e
    have h4 := nodup_len ((List.range x.toNat).map fun k : Nat => (k : Int)) (lot.map (·.2)) (nums_nodup _) (fun z hz => by
      have := mem_nums.mp hz
      exact h3 z this.1 (by omega))
    have h5 := sub.length_le
    rw [List.length_map] at h4 h5
    rw [List.length_map, List.length_range] at h4
    have h6 : (Rule.free seen).persons.length = seen.length := rfl
    omega
section
variable {P : Program} {w : World} {K : PySem.W.Frag} {mg : Str → Option Value} {base : Heap}
def spMost : Sp := fun vs H Q _ => ∃ (v : V) (r : Rule) (many : Int), vs = [v] ∧ RuleAt H v r ∧ r.Wf many ∧ r.persons.length ≤ 60 ∧ ∀ (x : Int) (H' : Hp), Same H H' → Tell r (lotOf r.persons) x → Q (.int x) H'
theorem ok_most (T : Txt K mg) : FnOk P w K mg base CX0 3 T.f_most T.fd_most ["_law_own_rule"] spMost := by
  have G_seen := ok_seen (P := P) (w := w) (base := base) T
  have G_tells := ok_tells (P := P) (w := w) (base := base) T
  refine T.F_most.ok sc_most (fun vs H Q E h => ?_) (fun cdv A outer s H vs Q E hr h => ?_)
  · obtain ⟨v, r, many, rfl, _⟩ := h
    rfl
  · obtain ⟨v, r, many, rfl, hv, wf, hl, q⟩ := h
    refine ⟨_, (pss_cons (ps_setLc (i := 1) (own := [("_law_other", 2), ("_law_weight", 3)]) (g := gTup K 2 (gCons (gName 2) (gCons (gName 3) gNil))) (by rfl) sc_most.nd rfl rfl (sw_true rfl rfl rfl (by decide +kernel)) (pi_list (pe_call G_seen (hr.mono (by decide)) (by rfl) T.g_seen T.F_seen.kp T.b_seen .nil pass0 (pa_cons (pv 0) pa_nil))) (blkOk_by (own := [("_law_other", 2), ("_law_weight", 3)]) (N := n_most) (sc := defScope s_most) (by decide +kernel)) (fun _ _ _ _ _ => (pg_tup rfl (pgs_cons (pg_name (i := 2) sc_most.nd rfl (.inl rfl) (.inr rfl)) (pgs_cons (pg_name (i := 3) sc_most.nd rfl (.inl rfl) (.inr rfl)) pgs_nil)))) (fun _ _ _ _ _ => pts_nil) (fun _ _ _ _ _ => (pv 2)))
      (pss_one (ps_ret (pe_call G_tells (hr.mono (by decide)) (by rfl) T.g_tells T.F_tells.kp T.b_tells .nil pass0 (pa_cons (pv 0) (pa_cons (pe_lc (own := [("_law_k", 4), ("_law_other", 2)]) (g := gTup K 2 (gCons (gName 4) (gCons (gName 2) gNil))) (by rfl) sc_most.nd (pi_enum (by rfl) T.m_enumerate (pa_cons (pv 1) pa_nil)) (blkOk_by (own := [("_law_k", 4), ("_law_other", 2)]) (N := n_most) (sc := defScope s_most) (by decide +kernel)) (fun _ _ _ _ _ => (pg_tup rfl (pgs_cons (pg_name (i := 4) sc_most.nd rfl (.inl rfl) (.inr rfl)) (pgs_cons (pg_name (i := 2) sc_most.nd rfl (.inl rfl) (.inr rfl)) pgs_nil)))) (fun _ _ _ _ _ => pts_nil) (fun _ _ _ _ _ => (pe_tup (pa_cons (pv 2) (pa_cons (pv 4) pa_nil))))) pa_nil)))))), ?_⟩
    refine ⟨v, rfl, v, r, rfl, hv, by omega, fun p ps H1 s1 np hp pr => ?_⟩
    have lp : ps.length = r.persons.length := by rw [pr.length, ← seen_persons r, List.length_map]
    refine ⟨p, rfl, ⟨_, .inl (.inl hp)⟩, fun D hD => ?_⟩
    refine lc_pairs (·.1) (walk_listR ps) pr hD (by omega) (fun H3 s3 => .inl (.inl (s3 _ _ hp))) (fun _ _ => rfl) (fun q _ H3 _ Q h => ⟨_, rfl, h⟩) (fun H3 s3 h3 => ?_)
    rw [seen_persons r] at h3
    refine ⟨v, rfl, .ref D, rfl, D, _, rfl, .inl (.inl h3), fun D2 hD2 => ?_⟩
    refine lc_it (walk_enum (xs := r.persons.map V.int)) (fun n H4 => ∃ qs : List Addr, Same H3 H4 ∧ H4 D2 = some (.lst (qs.map V.ref)) ∧ Paired (PairAtH H4) qs ((lotOf r.persons).take n)) ⟨[], same_upd hD2, upd_same, .nil⟩ ?_ ?_ ?_
    · rintro n H4 _ ⟨qs, sm, _⟩
      exact .inl (.inl (sm _ _ h3))
    · rintro n x H4 H5 hn ⟨qs, sm, h4, pq⟩ ⟨t, x1, x2, rfl, nt, rfl, e1, e2⟩
      rw [List.length_map] at hn
      have e1' : V.int (n : Nat) = x1 := Option.some.inj e1
      subst e1'
      have e2' : x2 = .int r.persons[n] := by
        have : (r.persons.map V.int)[n]? = some x2 := e2
        rw [List.getElem?_map, List.getElem?_eq_getElem hn] at this
        exact (Option.some.inj this).symm
      subst e2'
      have pl : qs.length = n := by rw [pq.length, List.length_take, lotOf_len]; omega
      refine ⟨t, _, rfl, .inl (.inl upd_same), rfl, _, _, rfl, _, _, rfl, rfl, rfl, yes (iteT ⟨.int r.persons[n], rfl, .int n, rfl, by show 2 ≤ sizeLine; decide, fun u nu => ?_⟩)⟩
      have sT := same_upd (o := .tup [.int (n : Nat), .int r.persons[n]]) nt
      have sU := same_upd (o := .tup [.int r.persons[n], .int (n : Nat)]) nu
      have h6 := sU _ _ (sT _ _ h4)
      have nDu : D2 ≠ u := ne_of_none (sT _ _ h4) nu
      refine ⟨_, h6, by rw [List.length_map]; exact small1000 (by omega), qs ++ [u], same_mut (sm.trans (sT.trans sU)) hD2, ?_, ?_⟩
      · rw [upd_same, List.map_append]; rfl
      · rw [List.take_add_one, lotOf_get hn]
        have kT : Keep (upd (upd H4 t (.tup [.int (n : Nat), .int r.persons[n]])) u (.tup [.int r.persons[n], .int (n : Nat)])) (upd (upd (upd H4 t (.tup [.int (n : Nat), .int r.persons[n]])) u (.tup [.int r.persons[n], .int (n : Nat)])) D2 (.lst (qs.map V.ref ++ [.ref u]))) := by
          refine ⟨fun a xs h => ?_, fun a o u h => ?_⟩
          · rw [upd_ne (ne_of h h6 (by intro z; cases z))]; exact h
          · rw [upd_ne (ne_of h h6 (by intro z; cases z))]; exact h
        refine Paired.snoc ?_ (pairs_keep ((Keep.same (sT.trans sU)).trans kT) pq)
        exact kT.tup _ _ upd_same
    · rintro H4 ⟨qs, sm, h4, pq⟩
      have e : (lotOf r.persons).take (r.persons.map V.int).length = lotOf r.persons := List.take_of_length_le (by rw [lotOf_len, List.length_map]; exact Nat.le_refl _)
      rw [e] at pq
      have s4 := s1.trans (s3.trans sm)
      refine ⟨v, .ref D2, r, many, lotOf r.persons, rfl, hv.keep (Keep.same s4), wf, by omega, ⟨D2, qs, rfl, h4, pq, by rw [pq.length, lotOf_len]; exact hl⟩, fun q hq => ?_, fun x H5 s5 tl => q x H5 (s4.trans s5) tl⟩
      rw [← lotOf_fst r.persons]
      exact List.mem_map_of_mem hq
end
end Lh

namespace Lh
open PySem PySem.Spec PyProof.Rows L2
def pairD (q : Int × Int) : PyData := .tuple [.int q.1, .int q.2]
def Rule.data : Rule → PyData
  | .held n => .tuple [.str "held", .int n]
  | .sum own ties => .tuple [.str "sum", .int own, .tuple (ties.map pairD)]
  | .cap own ties most => .tuple [.str "cap", .int own, .tuple (ties.map pairD), .int most]
  | .kinds own seen => .tuple [.str "kinds", .int own, .tuple (seen.map PyData.int)]
  | .next seen => .tuple [.str "next", .tuple (seen.map PyData.int)]
  | .free seen => .tuple [.str "free", .tuple (seen.map PyData.int)]
theorem Box.neF {bx : Addr} {c : Int} {H : Hp} (h : Box bx c H) {p : Addr} {o : Obj} {u : HO} (n : H p = some (.frz o u)) : p ≠ bx := by
  obtain ⟨a, b, n', h, _⟩ := h
  exact ne_of n h (by intro z; cases z)
theorem pairs_rp {bx : Addr} {c : Int} {H : Hp} (b : Box bx c H) : ∀ {ps : List Addr} {ties : List (Int × Int)}, Paired (PairAtH H) ps ties → RpAll bx H (ps.map V.ref) (ties.map pairD)
  | _, _, .nil => .nil
  | _, _, .cons h r => .cons (.tup (.inl h) (b.neT h) (.cons (.int _) (.cons (.int _) .nil))) (pairs_rp b r)
theorem TiesAt.rp {bx : Addr} {c : Int} {H : Hp} (b : Box bx c H) {t : Addr} {ties : List (Int × Int)} (h : TiesAt H t ties) : Rp bx H (.ref t) (.tuple (ties.map pairD)) := by
  obtain ⟨o, ps, od, ht, pr⟩ := h
  exact .tup (.inr ⟨o, od, ht⟩) (b.neF ht) (pairs_rp b pr)
theorem SeenAt.rp {bx : Addr} {c : Int} {H : Hp} (b : Box bx c H) {t : Addr} {seen : List Int} (h : SeenAt H t seen) : Rp bx H (.ref t) (.tuple (seen.map PyData.int)) := by
  obtain ⟨o, od, ht⟩ := h
  exact .tup (.inr ⟨o, od, ht⟩) (b.neF ht) (RpAll.ints seen)
theorem RuleAt.rp {bx : Addr} {c : Int} {H : Hp} (b : Box bx c H) {v : V} : ∀ {r : Rule}, RuleAt H v r → Rp bx H v r.data
  | .held n, ⟨a, e, h⟩ => by rw [e]; exact .tup (.inl h) (b.neT h) (.cons (.str _) (.cons (.int _) .nil))
  | .sum _ _, ⟨a, t, e, h, q⟩ => by rw [e]; exact .tup (.inl h) (b.neT h) (.cons (.str _) (.cons (.int _) (.cons (q.rp b) .nil)))
  | .cap _ _ _, ⟨a, t, e, h, q⟩ => by rw [e]; exact .tup (.inl h) (b.neT h) (.cons (.str _) (.cons (.int _) (.cons (q.rp b) (.cons (.int _) .nil))))
  | .kinds _ _, ⟨a, t, e, h, q⟩ => by rw [e]; exact .tup (.inl h) (b.neT h) (.cons (.str _) (.cons (.int _) (.cons (q.rp b) .nil)))
  | .next _, ⟨a, t, e, h, q⟩ => by rw [e]; exact .tup (.inl h) (b.neT h) (.cons (.str _) (.cons (q.rp b) .nil))
  | .free _, ⟨a, t, e, h, q⟩ => by rw [e]; exact .tup (.inl h) (b.neT h) (.cons (.str _) (.cons (q.rp b) .nil))
/-! ### data that can be shown -/
def tame (w : Nat) : Nat → PyData → Prop
  | _, .none => True
  | _, .bool _ => True
  | _, .int i => i.natAbs < 10 ^ 12
  | _, .str x => x.cps.size ≤ 10 ∧ ∀ c ∈ x.cps.toList, c < 16 ^ 8
  | n + 1, .list ds => ds.length ≤ w ∧ ∀ d ∈ ds, tame w n d
  | n + 1, .tuple ds => ds.length ≤ w ∧ ∀ d ∈ ds, tame w n d
  | _, _ => False
def Bk (w : Nat) : Nat → Nat
  | 0 => 10
  | n + 1 => 10 + w * (Bk w n + 1)
theorem Bk_ge (w : Nat) : ∀ n, 10 ≤ Bk w n
  | 0 => Nat.le_refl _
  | n + 1 => Nat.le_add_right _ _
theorem log_small {i : Int} (h : i.natAbs < 10 ^ 12) : i.natAbs.log2 < 1920 := by
  by_cases z : i.natAbs = 0
  · rw [z]; decide
  · rw [Nat.log2_lt z]
    exact Nat.lt_trans h (Nat.lt_of_lt_of_le (by decide : 10 ^ 12 < 2 ^ 40) (Nat.pow_le_pow_right (by decide) (by decide)))
structure Shown (n : Nat) (b : Nat) (d : PyData) : Prop where
  sh : d.showable = true
  nd : d.hasDict = false
  dp : d.depth ≤ n
  lv : d.leavesShort 13 = true
  bk : d.bulk ≤ b
theorem all_sh : ∀ {ds : List PyData} {n b : Nat}, (∀ d ∈ ds, Shown n b d) → PyData.showableAll ds = true ∧ PyData.hasDictAll ds = false ∧ PyData.depthAll ds ≤ n ∧ PyData.leavesShortAll 13 ds = true ∧ PyData.bulkAll ds ≤ ds.length * (b + 1)
  | [], n, b, _ => ⟨rfl, rfl, Nat.zero_le _, rfl, by show 0 ≤ _; omega⟩
  | d :: r, n, b, h => by
    have h1 := h d List.mem_cons_self
    obtain ⟨a1, a2, a3, a4, a5⟩ := all_sh (ds := r) (n := n) (b := b) (fun x hx => h x (List.mem_cons_of_mem _ hx))
    refine ⟨?_, ?_, ?_, ?_, ?_⟩
    · show (d.showable && PyData.showableAll r) = true
      rw [h1.sh, a1]; rfl
    · show (d.hasDict || PyData.hasDictAll r) = false
      rw [h1.nd, a2]; rfl
    · show max d.depth (PyData.depthAll r) ≤ n
      have := h1.dp
      omega
    · show (d.leavesShort 13 && PyData.leavesShortAll 13 r) = true
      rw [h1.lv, a4]; rfl
    · show d.bulk + 1 + PyData.bulkAll r ≤ (r.length + 1) * (b + 1)
      have := h1.bk
      rw [Nat.add_mul]
      omega
theorem tame_shown (w : Nat) : ∀ (n : Nat) (d : PyData), tame w n d → Shown n (Bk w n) d
  | n, .none, _ => ⟨rfl, rfl, Nat.zero_le _, rfl, Nat.zero_le _⟩
  | n, .bool _, _ => ⟨rfl, rfl, Nat.zero_le _, rfl, Nat.zero_le _⟩
  | n, .int i, h => by
    have h' : i.natAbs < 10 ^ 12 := by cases n <;> exact h
    exact ⟨decide_eq_true (log_small h'), rfl, Nat.zero_le _, decide_eq_true (PyData.shown_int_le h'), Nat.zero_le _⟩
  | n, .str x, h => by
    have h' : x.cps.size ≤ 10 ∧ ∀ c ∈ x.cps.toList, c < 16 ^ 8 := by cases n <;> exact h
    refine ⟨rfl, rfl, Nat.zero_le _, ?_, Nat.le_trans h'.1 (Bk_ge w n)⟩
    show (x.cps.toList.all fun c => decide (c < 16 ^ 8)) = true
    rw [List.all_eq_true]
    exact fun c hc => decide_eq_true (h'.2 c hc)
  | 0, .list _, h => h.elim
  | 0, .tuple _, h => h.elim
  | n + 1, .list ds, ⟨hl, h⟩ => by
    obtain ⟨a1, a2, a3, a4, a5⟩ := all_sh (fun d hd => tame_shown w n d (h d hd))
    refine ⟨a1, a2, Nat.succ_le_succ a3, a4, ?_⟩
    show PyData.bulkAll ds ≤ 10 + w * (Bk w n + 1)
    have := Nat.mul_le_mul_right (Bk w n + 1) hl
    omega
  | n + 1, .tuple ds, ⟨hl, h⟩ => by
    obtain ⟨a1, a2, a3, a4, a5⟩ := all_sh (fun d hd => tame_shown w n d (h d hd))
    refine ⟨a1, a2, Nat.succ_le_succ a3, a4, ?_⟩
    show PyData.bulkAll ds ≤ 10 + w * (Bk w n + 1)
    have := Nat.mul_le_mul_right (Bk w n + 1) hl
    omega
  | 0, .dict _, h => h.elim
  | n + 1, .dict _, h => h.elim
theorem tame_fits {w n : Nat} {d : PyData} (h : tame w n d) (hb : Bk w n ≤ 2 ^ 20) : d.shown.length ≤ sizeLine :=
  PyData.shown_fits_bulk (B := 13) (by decide) (by decide) (tame_shown w n d h).lv (Nat.le_trans (tame_shown w n d h).bk hb)
theorem tame_ok {w : Nat} (hw : w ≤ 1000) : ∀ (n : Nat) (d : PyData), tame w n d → okD n d
  | n, .none, _ => by cases n <;> trivial
  | n, .bool _, _ => by cases n <;> trivial
  | n, .int i, _ => by cases n <;> trivial
  | n, .str x, _ => by cases n <;> trivial
  | 0, .list _, h => h.elim
  | 0, .tuple _, h => h.elim
  | n + 1, .list ds, ⟨hl, h⟩ => ⟨Nat.le_trans hl hw, fun d hd => tame_ok hw n d (h d hd)⟩
  | n + 1, .tuple ds, ⟨hl, h⟩ => ⟨Nat.le_trans hl hw, fun d hd => tame_ok hw n d (h d hd)⟩
  | 0, .dict _, h => h.elim
  | n + 1, .dict _, h => h.elim
theorem tame_int {w n : Nat} {i : Int} (h : i.natAbs < 10 ^ 12) : tame w n (.int i) := by cases n <;> exact h
theorem tame_word {w n : Nat} {x : Str} (h : x.cps.size ≤ 10 ∧ ∀ c ∈ x.cps.toList, c < 16 ^ 8) : tame w n (.str x) := by cases n <;> exact h
theorem tame_pairs {w n : Nat} (hw : 2 ≤ w) {l : List (Int × Int)} (h : ∀ q ∈ l, q.1.natAbs < 10 ^ 12 ∧ q.2.natAbs < 10 ^ 12) (hl : l.length ≤ w) : tame w (n + 2) (.tuple (l.map pairD)) := by
  refine ⟨by rw [List.length_map]; exact hl, fun d hd => ?_⟩
  obtain ⟨q, hq, rfl⟩ := List.mem_map.mp hd
  refine ⟨hw, fun x hx => ?_⟩
  have := h q hq
  rcases List.mem_cons.mp hx with e | e
  · rw [e]; exact tame_int this.1
  · rw [List.mem_singleton.mp e]; exact tame_int this.2
theorem tame_seen {w n : Nat} {l : List Int} (h : ∀ q ∈ l, q.natAbs < 10 ^ 12) (hl : l.length ≤ w) : tame w (n + 1) (.tuple (l.map PyData.int)) := by
  refine ⟨by rw [List.length_map]; exact hl, fun d hd => ?_⟩
  obtain ⟨q, hq, rfl⟩ := List.mem_map.mp hd
  exact tame_int (h q hq)
theorem tame_rule {w : Nat} (hw : 4 ≤ w) {many : Int} (hm : many ≤ 1000000) : ∀ {r : Rule}, r.Wf many → r.persons.length ≤ w → tame w 3 r.data
  | .held n, h, _ => by
    have h' : smallI n := h
    unfold smallI at h'
    refine ⟨by show 2 ≤ w; omega, fun d hd => ?_⟩
    simp only [List.mem_cons, List.not_mem_nil, or_false] at hd
    rcases hd with rfl | rfl
    · exact tame_word (by decide +kernel)
    · exact tame_int (by omega)
  | .sum own ties, ⟨ho, rs, w1⟩, hl => by
    unfold smallI at ho
    have hl' : ties.length ≤ w := by simpa [Rule.persons] using hl
    refine ⟨by show 3 ≤ w; omega, fun d hd => ?_⟩
    simp only [List.mem_cons, List.not_mem_nil, or_false] at hd
    rcases hd with rfl | rfl | rfl
    · exact tame_word (by decide +kernel)
    · exact tame_int (by omega)
    · refine tame_pairs (by omega) (fun q hq => ?_) hl'
      have h1 := rs.2 _ (List.mem_map_of_mem (f := (·.1)) hq)
      have h2 := w1 q hq
      omega
  | .cap own ties most, ⟨ho, rs, w1, hmo⟩, hl => by
    unfold smallI at ho hmo
    have hl' : ties.length ≤ w := by simpa [Rule.persons] using hl
    refine ⟨by show 4 ≤ w; omega, fun d hd => ?_⟩
    simp only [List.mem_cons, List.not_mem_nil, or_false] at hd
    rcases hd with rfl | rfl | rfl | rfl
    · exact tame_word (by decide +kernel)
    · exact tame_int (by omega)
    · refine tame_pairs (by omega) (fun q hq => ?_) hl'
      have h1 := rs.2 _ (List.mem_map_of_mem (f := (·.1)) hq)
      have h2 := w1 q hq
      omega
    · exact tame_int (by omega)
  | .kinds own seen, ⟨ho, rs⟩, hl => by
    unfold smallI at ho
    refine ⟨by show 3 ≤ w; omega, fun d hd => ?_⟩
    simp only [List.mem_cons, List.not_mem_nil, or_false] at hd
    rcases hd with rfl | rfl | rfl
    · exact tame_word (by decide +kernel)
    · exact tame_int (by omega)
    · exact tame_seen (fun q hq => by have := rs.2 q hq; omega) hl
  | .next seen, rs, hl => by
    have rs' : Rising many seen := rs
    refine ⟨by show 2 ≤ w; omega, fun d hd => ?_⟩
    simp only [List.mem_cons, List.not_mem_nil, or_false] at hd
    rcases hd with rfl | rfl
    · exact tame_word (by decide +kernel)
    · exact tame_seen (fun q hq => by have := rs'.2 q hq; omega) hl
  | .free seen, rs, hl => by
    have rs' : Rising many seen := rs
    refine ⟨by show 2 ≤ w; omega, fun d hd => ?_⟩
    simp only [List.mem_cons, List.not_mem_nil, or_false] at hd
    rcases hd with rfl | rfl
    · exact tame_word (by decide +kernel)
    · exact tame_seen (fun q hq => by have := rs'.2 q hq; omega) hl
end Lh

namespace Lh
open PySem PySem.Spec PyProof.Rows L2
structure Fx (bx : Addr) (c : Int) (H0 : Hp) (v : V) (r : Rule) (D D2 : Addr) (ps : List Addr) (lot : List (Int × Int)) (Hk : Hp) : Prop where
  e : Ext bx H0 Hk
  b : Box bx c Hk
  ra : RuleAt Hk v r
  hD : Hk D = some (.lst (r.persons.map V.int))
  hD2 : Hk D2 = some (.lst (ps.map V.ref))
  pr : Paired (PairAtH Hk) ps lot
  nD : D ≠ bx
  nD2 : D2 ≠ bx
theorem Fx.same {bx : Addr} {c : Int} {H0 : Hp} {v : V} {r : Rule} {D D2 : Addr} {ps : List Addr} {lot : List (Int × Int)} {Hk H' : Hp} (f : Fx bx c H0 v r D D2 ps lot Hk) (s : Same Hk H') : Fx bx c H0 v r D D2 ps lot H' :=
  ⟨f.e.trans (Ext.of s), f.b.same s, f.ra.keep (Keep.same s), s _ _ f.hD, s _ _ f.hD2, pairs_keep (Keep.same s) f.pr, f.nD, f.nD2⟩
theorem rg_ints (n : Int) : rgV 0 n = ((List.range n.toNat).map fun k : Nat => (k : Int)).map V.int := by
  unfold rgV
  rw [List.map_map, Int.sub_zero]
  exact List.map_congr_left fun k _ => by show V.int (0 + (k : Int)) = V.int k; rw [Int.zero_add]
theorem rg_rising (n : Int) (h : 0 ≤ n) : Rising n ((List.range n.toNat).map fun k : Nat => (k : Int)) := by
  refine ⟨List.Pairwise.map _ (fun a b z => by omega) List.pairwise_lt_range, fun x hx => ?_⟩
  have := mem_nums.mp hx
  omega
def mostD (r : Rule) : PyData := match mostV r with
  | .int y => .int y
  | _ => .none
theorem most_rp {bx : Addr} {H : Hp} : ∀ r : Rule, Rp bx H (mostV r) (mostD r)
  | .held _ => .int _
  | .sum _ _ => .int _
  | .cap _ _ _ => .int _
  | .kinds _ _ => .int _
  | .next _ => .non
  | .free _ => .int _
theorem okD_most {n : Nat} : ∀ r : Rule, okD n (mostD r)
  | .held _ => by cases n <;> trivial
  | .sum _ _ => by cases n <;> trivial
  | .cap _ _ _ => by cases n <;> trivial
  | .kinds _ _ => by cases n <;> trivial
  | .next _ => by cases n <;> trivial
  | .free _ => by cases n <;> trivial
theorem okD_ints {n : Nat} {ns : List Int} (h : ns.length ≤ 1000) : okD (n + 1) (.list (ns.map PyData.int)) := by
  refine ⟨by rw [List.length_map]; exact h, fun d hd => ?_⟩
  obtain ⟨x, _, rfl⟩ := List.mem_map.mp hd
  cases n <;> trivial
section
variable {P : Program} {w : World} {K : PySem.W.Frag} {mg : Str → Option Value} {base : Heap}
def spRight : Sp := fun vs H Q _ => ∃ bx : Addr, vs = [.ref bx] ∧ Box bx 0 H ∧ ∀ H', Ext bx H H' → Q (.bl true) H'
set_option maxHeartbeats 4000000 in
theorem ok_right (T : Txt K mg) : FnG P w K mg base 4 T.f_right T.fd_right ["_law_box"] spRight := by
  have G_take := ok_take (P := P) (w := w) (base := base) T
  have G_rule := ok_rule (P := P) (w := w) (base := base) T
  have G_seen := ok_seen (P := P) (w := w) (base := base) T
  have G_tells := ok_tells (P := P) (w := w) (base := base) T
  have G_most := ok_most (P := P) (w := w) (base := base) T
  have G_told_of := ok_told_of (P := P) (w := w) (base := base) T
  have G_seen_by := ok_seen_by (P := P) (w := w) (base := base) T
  have G_most_of := ok_most_of (P := P) (w := w) (base := base) T
  have G_same := ok_same (P := P) (w := w) (base := base) T 3
  refine okG T.F_right sc_right (fun vs H Q E h => ?_) (fun cdv A outer s H vs Q E hr hG h => ?_)
  · obtain ⟨bx, rfl, _⟩ := h
    rfl
  · obtain ⟨bx, rfl, hB, q⟩ := h
    refine ⟨_, (pss_cons (ps_for PassesOwn.never rfl (pi_range1 (by rfl) T.m_range (pa_cons pe_int pa_nil)) (pg_name (i := 1) sc_right.nd rfl (.inl rfl))
        (pss_cons (ps_set (i := 2) sc_right.nd rfl (.inl rfl) (pe_op op_add pe_int (pe_call G_take (hr.mono (by decide)) (by rfl) T.g_take T.F_take.kp T.b_take .nil pass0 (pa_cons (pv 0) (pa_cons pe_int pa_nil)))))
        (pss_cons (ps_set (i := 3) sc_right.nd rfl (.inl rfl) (pe_call G_rule (hr.mono (by decide)) (by rfl) T.g_rule T.F_rule.kp T.b_rule .nil pass0 (pa_cons (pv 0) (pa_cons (pv 2) (pa_cons (pe_listRg (by rfl) (by rfl) T.m_list (prg_1 (by rfl) T.m_range (pv 2))) (pa_cons pe_int pa_nil))))))
        (pss_cons (ps_setLc (i := 4) (own := [("_law_other", 5), ("_law_weight", 6)]) (g := gTup K 2 (gCons (gName 5) (gCons (gName 6) gNil))) (by rfl) sc_right.nd rfl rfl (sw_true rfl rfl rfl (by decide +kernel)) (pi_list (pe_call G_seen (hr.mono (by decide)) (by rfl) T.g_seen T.F_seen.kp T.b_seen .nil pass0 (pa_cons (pv 3) pa_nil))) (blkOk_by (own := [("_law_other", 5), ("_law_weight", 6)]) (N := n_right) (sc := defScope s_right) (by decide +kernel)) (fun _ _ _ _ _ => (pg_tup rfl (pgs_cons (pg_name (i := 5) sc_right.nd rfl (.inl rfl) (.inr rfl)) (pgs_cons (pg_name (i := 6) sc_right.nd rfl (.inl rfl) (.inr rfl)) pgs_nil)))) (fun _ _ _ _ _ => pts_nil) (fun _ _ _ _ _ => (pv 5)))
        (pss_cons (ps_set (i := 7) sc_right.nd rfl (.inr rfl) (pe_ix ix_list (pe_lst (pa_cons pe_int (pa_cons pe_int (pa_cons (pe_op op_pow pe_int pe_int) pa_nil)))) (pe_call G_take (hr.mono (by decide)) (by rfl) T.g_take T.F_take.kp T.b_take .nil pass0 (pa_cons (pv 0) (pa_cons pe_int pa_nil))) (fun _ _ => rfl)))
        (pss_cons (ps_setLc (i := 8) (own := [("_law_other", 5)]) (g := gName 5) (by rfl) sc_right.nd rfl rfl (sw_true rfl rfl rfl (by decide +kernel)) (pi_list (pv 4)) (blkOk_by (own := [("_law_other", 5)]) (N := n_right) (sc := defScope s_right) (by decide +kernel)) (fun _ _ _ _ _ => (pg_name (i := 5) sc_right.nd rfl (.inl rfl) (.inr rfl))) (fun _ _ _ _ _ => (pts_one (pt_cmpR op_gt (pe_call G_take (hr.mono (by decide)) (by rfl) T.g_take T.F_take.kp T.b_take .nil pass0 (pa_cons (pv 0) (pa_cons pe_int pa_nil))) pe_int (nomark _)))) (fun _ _ _ _ _ => (pe_tup (pa_cons (pv 5) (pa_cons (pe_call G_take (hr.mono (by decide)) (by rfl) T.g_take T.F_take.kp T.b_take .nil pass0 (pa_cons (pv 0) (pa_cons (pv 7) pa_nil))) pa_nil)))))
        (pss_cons (ps_par (i := 9) (j := 10) (by rfl) sc_right.nd rfl rfl (by decide) rfl rfl (pa_cons (pe_callB (call_reprD hG hr.units) (by rfl) T.m_repr (by decide +kernel) (pa_cons (pe_lst (pa_cons (pv 3) (pa_cons (pv 8) pa_nil))) pa_nil)) (pa_cons (pe_call G_tells (hr.mono (by decide)) (by rfl) T.g_tells T.F_tells.kp T.b_tells .nil pass0 (pa_cons (pv 3) (pa_cons (pv 8) pa_nil))) pa_nil)) (by rfl))
        (pss_cons (ps_set (i := 11) sc_right.nd rfl (.inl rfl) (pe_lst (pa_cons (pe_call G_told_of (hr.mono (by decide)) (by rfl) T.g_told_of T.F_told_of.kp T.b_told_of .nil pass0 (pa_cons (pv 3) (pa_cons (pv 8) pa_nil))) (pa_cons (pe_callN0 G_told_of (hr.mono (by decide)) (by rfl) T.g_told_of T.F_told_of.kp T.kb_told_of (pk_cons (pe_callTy call_tupleF (by rfl) T.m_tuple (by decide +kernel) (pa_cons (pv 8) pa_nil)) (pk_cons (pv 3) pk_nil))) (pa_cons (pe_call G_told_of (hr.mono (by decide)) (by rfl) T.g_told_of T.F_told_of.kp T.b_told_of .nil pass0 (pa_cons (pv 3) (pa_cons (pe_lst pa_nil) pa_nil))) pa_nil)))))
        (pss_cons (ps_if (pt_not (pt_val (pe_call G_same (hr.mono (by decide)) (by rfl) T.g_same T.F_same.kp T.b_same .nil pass0 (pa_cons (pv 11) (pa_cons (pe_lst (pa_cons (pv 10) (pa_cons (pv 10) (pa_cons (pe_call G_tells (hr.mono (by decide)) (by rfl) T.g_tells T.F_tells.kp T.b_tells .nil pass0 (pa_cons (pv 3) (pa_cons (pe_lst pa_nil) pa_nil))) pa_nil)))) pa_nil)))))
          (pss_one (ps_ret pe_bl))
          pss_nil)
        (pss_cons (ps_set (i := 11) sc_right.nd rfl (.inl rfl) (pe_call G_seen_by (hr.mono (by decide)) (by rfl) T.g_seen_by T.F_seen_by.kp T.b_seen_by .nil pass0 (pa_cons (pv 3) pa_nil)))
        (pss_cons (ps_if (pt_not (pt_val (pe_call G_same (hr.mono (by decide)) (by rfl) T.g_same T.F_same.kp T.b_same .nil pass0 (pa_cons (pv 11) (pa_cons (pv 4) pa_nil)))))
          (pss_one (ps_ret pe_bl))
          pss_nil)
        (pss_cons (ps_expr (pe_bm PySem.F.plainAttrs_list PySem.F.slot_list_append PySem.F.type_list_append mt_append (pv 11) (pa_cons pe_int pa_nil)))
        (pss_cons (ps_set (i := 12) sc_right.nd rfl (.inl rfl) (pe_ifExp (pt_cmpR op_eq (pe_ix ix_tup (pv 3) pe_int (fun _ _ => rfl)) pe_str (nomark _)) pe_non (pe_call G_most (hr.mono (by decide)) (by rfl) T.g_most T.F_most.kp T.b_most .nil pass0 (pa_cons (pv 3) pa_nil))))
        (pss_cons (ps_if (pt_not (pt_val (pe_call G_same (hr.mono (by decide)) (by rfl) T.g_same T.F_same.kp T.b_same .nil pass0 (pa_cons (pe_lst (pa_cons (pe_callN0 G_seen_by (hr.mono (by decide)) (by rfl) T.g_seen_by T.F_seen_by.kp T.kb_seen_by (pk_cons (pv 3) pk_nil)) (pa_cons (pe_call G_most_of (hr.mono (by decide)) (by rfl) T.g_most_of T.F_most_of.kp T.b_most_of .nil pass0 (pa_cons (pv 3) pa_nil)) (pa_cons (pe_callN0 G_most_of (hr.mono (by decide)) (by rfl) T.g_most_of T.F_most_of.kp T.kb_most_of (pk_cons (pv 3) pk_nil)) pa_nil)))) (pa_cons (pe_lst (pa_cons (pv 4) (pa_cons (pv 12) (pa_cons (pv 12) pa_nil)))) pa_nil)))))
          (pss_one (ps_ret pe_bl))
          pss_nil)
        (pss_one (ps_if (PW.pt (pw_or (PW.pt (pw_and (pt_cmpR op_notN (pv 12) pe_non (nomark _)) (pw_and1 (pt_cmpR op_lt (pv 12) (pv 10) (nomark _))))) (pw_or1 (pt_cmpR op_ne (pe_callB (call_reprD hG hr.units) (by rfl) T.m_repr (by decide +kernel) (pa_cons (pe_lst (pa_cons (pv 3) (pa_cons (pv 8) pa_nil))) pa_nil)) (pv 9) (nomark _)))))
          (pss_one (ps_ret pe_bl))
          pss_nil))))))))))))))))
      (pss_one (ps_ret pe_bl))), ?_⟩
    refine ⟨30, rfl, by decide, by decide, ?_⟩
    refine for_it walk_range (fun i σ H3 => ∃ y1 y2 y3 y4 y5 y6 y7 y8 y9 y10 y11 y12 : Option V, σ = [some (.ref bx), y1, y2, y3, y4, y5, y6, y7, y8, y9, y10, y11, y12] ∧ Ext bx H H3 ∧ Box bx (100 * i) H3) ?_ (fun _ _ _ _ _ => trivial) ?_ ?_
    · exact ⟨none, none, none, none, none, none, none, none, none, none, none, none, rfl, Ext.refl _, hB.mono (by omega)⟩
    · rintro i x σ H3 H3' hi ⟨y1, y2, y3, y4, y5, y6, y7, y8, y9, y10, y11, y12, rfl, e3, b3⟩ ⟨rfl, rfl⟩
      have hi' : i < 30 := hi
      -- how many
      refine ⟨.ref bx, rfl, bx, _, 8, rfl, by decide, by decide, by omega, b3, fun r1 H4 r10 r11 e4 b4 => ⟨1, r1, rfl, rfl, ?_⟩⟩
      -- the rule
      refine ⟨.ref bx, rfl, .int (1 + r1), rfl, .int (1 + r1), rfl, 1 + r1, rfl, RgOk.of_le (by omega) (by omega) (by omega) (by omega), fun l nl => ?_⟩
      have nb := b4.ne nl
      have b4' := b4.new (o := .lst (rgV 0 (1 + r1))) nl
      have len : ((List.range (1 + r1).toNat).map fun k : Nat => (k : Int)).length ≤ 8 := by rw [List.length_map, List.length_range]; omega
      refine ⟨bx, l, _, 99, 1 + r1, .int (1 + r1), (List.range (1 + r1).toNat).map (fun k : Nat => (k : Int)), rfl, by decide, by decide, by omega, by omega, b4', by rw [upd_same, rg_ints], nb, rg_rising _ (by omega), fun v r H5 e5 b5 ra5 wf sub5 => ?_⟩
      have pl : r.persons.length ≤ 8 := Nat.le_trans sub5.length_le len
      have e5' : Ext bx H H5 := e3.trans (e4.trans (((Ext.refl _).new nl).trans e5))
      have b5' : Box bx (100 * i + 40) H5 := b5.mono (by omega)
      -- whom it sees
      refine ⟨v, rfl, v, r, rfl, ra5, by omega, fun p6 ps6 H6 s6 n6 h6 pr6 => ?_⟩
      have l6 : ps6.length = r.persons.length := by rw [pr6.length, ← seen_persons r, List.length_map]
      refine ⟨p6, rfl, ⟨_, .inl (.inl h6)⟩, fun D hD => ?_⟩
      refine lc_pairs (·.1) (walk_listR ps6) pr6 hD (by omega) (fun Hx sx => .inl (.inl (sx _ _ h6))) (fun _ _ => rfl) (fun q _ Hx _ Q h => ⟨_, rfl, h⟩) (fun H7 s7 h7 => ?_)
      rw [seen_persons r] at h7
      have s57 : Same H5 H7 := s6.trans s7
      have e7 := e5'.trans (Ext.of s57)
      have b7 := b5'.same s57
      have ra7 := ra5.keep (Keep.same s57)
      have nD : D ≠ bx := (b5'.same s6).ne hD
      -- how far
      refine ⟨10, 6, rfl, rfl, ⟨by decide, by decide, by decide⟩, by show 3 ≤ sizeLine; decide, fun l8 nl8 => ?_⟩
      have nb8 := b7.ne nl8
      refine ⟨.ref bx, rfl, bx, _, 3, rfl, by decide, by decide, by omega, b7.new nl8, fun r8 H8 r80 r81 e8 b8 => ?_⟩
      obtain ⟨v8, m8, a8⟩ := pick (xs := [V.int 3, .int 9, .int (10 ^ (6 : Int).toNat)]) r80 (by simpa using r81)
      have hl8 : H8 l8 = some (.lst [V.int 3, .int 9, .int (10 ^ (6 : Int).toNat)]) := e8 _ _ nb8 upd_same
      refine ⟨l8, _, r8, v8, rfl, rfl, .inl (.inl hl8), a8, ?_⟩
      obtain ⟨far, rfl, f0, f1⟩ : ∃ far : Int, v8 = .int far ∧ 0 < far ∧ far ≤ 1000000 := by
        simp only [List.mem_cons, List.not_mem_nil, or_false] at m8
        rcases m8 with rfl | rfl | rfl
        · exact ⟨3, rfl, by decide, by decide⟩
        · exact ⟨9, rfl, by decide, by decide⟩
        · exact ⟨1000000, rfl, by decide, by decide⟩
      have e78 : Ext bx H7 H8 := ((Ext.refl _).new nl8).trans e8
      have e8' := e7.trans e78
      have ra8 := ra7.keep ((Keep.same (same_upd nl8)).trans (Keep.ext e8 (b7.new nl8)))
      have hD8 := e78 _ _ nD h7
      -- the bunch
      refine ⟨.ref D, rfl, D, rfl, ⟨_, .inl (.inl hD8)⟩, fun D2 hD2 => ?_⟩
      have nD2 : D2 ≠ bx := b8.ne hD2
      refine lc_it (walk_list (xs := r.persons.map V.int)) (fun n H9 => ∃ (ps : List Addr) (lot : List (Int × Int)), Ext bx H8 H9 ∧ Box bx (100 * i + 41 + 2 * n) H9 ∧ H9 D2 = some (.lst (ps.map V.ref)) ∧ Paired (PairAtH H9) ps lot ∧ (lot.map (·.1)).Sublist (r.persons.take n) ∧ ∀ q ∈ lot, 0 ≤ q.2 ∧ q.2 ≤ 1000000)
        ⟨[], [], (Ext.refl _).new hD2, (b8.new hD2).mono (by omega), upd_same, .nil, List.nil_sublist _, fun q h => absurd h (by simp)⟩ ?_ ?_ ?_
      · rintro n H9 _ ⟨ps, lot, e, _⟩
        exact .inl (.inl (e _ _ nD hD8))
      · rintro n x H9 H9' hn ⟨ps, lot, e9, b9, h9, pr9, sub9, w9⟩ ⟨rfl, hx⟩
        rw [List.length_map] at hn
        rw [List.getElem?_map, List.getElem?_eq_getElem hn] at hx
        have ex : x = .int r.persons[n] := (Option.some.inj hx).symm
        subst ex
        have tk : r.persons.take (n + 1) = r.persons.take n ++ [r.persons[n]] := by rw [List.take_add_one, List.getElem?_eq_getElem hn]; rfl
        have plen : ps.length ≤ n := by
          have h1 : ps.length = lot.length := pr9.length
          have h2 := sub9.length_le
          rw [List.length_map, List.length_take] at h2
          omega
        refine ⟨rfl, ?_⟩
        refine ⟨.ref bx, rfl, bx, _, 3, rfl, by decide, by decide, by omega, b9, fun ra HA ra0 ra1 eA bA => ?_⟩
        refine ⟨_, 0, rfl, rfl, _, rfl, ite2 (fun z => ?_) (fun z => ?_)⟩
        · refine ⟨.int r.persons[n], rfl, .ref bx, rfl, .int far, rfl, bx, _, far, rfl, f0, f1, by omega, bA, fun rb HB rb0 rb1 eB bB => ⟨by show 2 ≤ sizeLine; decide, fun t nt => ?_⟩⟩
          have eAB : Ext bx H9' HB := eA.trans eB
          have kAB : Keep H9' HB := (Keep.ext eA b9).trans (Keep.ext eB bA)
          have hDB := eAB _ _ nD2 h9
          have ntD : t ≠ D2 := (ne_of_none hDB nt).symm
          refine ⟨_, by rw [upd_ne ntD.symm]; exact hDB, by rw [List.length_map]; exact small1000 (by omega), ps ++ [t], lot ++ [(r.persons[n], rb)], ?_, ?_, ?_, ?_, ?_, ?_⟩
          · exact ((e9.trans eAB).trans ((Ext.refl _).new nt)).new hD2
          · exact ((bB.new nt).at nD2).mono (by omega)
          · rw [upd_same, List.map_append]; rfl
          · have kT : Keep HB (upd (upd HB t (.tup [.int r.persons[n], .int rb])) D2 (.lst (ps.map V.ref ++ [.ref t]))) := by
              refine ⟨fun a xs h => ?_, fun a o u h => ?_⟩
              · rw [upd_ne (ne_of h hDB (by intro z; cases z)), upd_ne (ne_of_none h nt)]; exact h
              · rw [upd_ne (ne_of h hDB (by intro z; cases z)), upd_ne (ne_of_none h nt)]; exact h
            refine Paired.snoc ?_ (pairs_keep (kAB.trans kT) pr9)
            show upd (upd HB t _) D2 _ t = _
            rw [upd_ne ntD, upd_same]
          · rw [List.map_append, tk]; exact sub9.append (List.Sublist.refl _)
          · intro q hq
            rcases List.mem_append.mp hq with hq | hq
            · exact w9 q hq
            · rw [List.mem_singleton.mp hq]; exact ⟨rb0, by omega⟩
        · refine ⟨ps, lot, e9.trans eA, bA.mono (by omega), eA _ _ nD2 h9, pairs_keep (Keep.ext eA b9) pr9, ?_, w9⟩
          rw [tk]; exact sub9.trans (List.sublist_append_left _ _)
      · rintro H9 ⟨ps, lot, e9, b9, h9, pr9, sub9, w9⟩
        rw [List.length_map] at b9 sub9
        rw [List.take_length] at sub9
        have F9 : Fx bx (100 * (i + 1 : Nat)) H v r D D2 ps lot H9 := ⟨e8'.trans e9, b9.mono (by omega), ra8.keep (Keep.ext e9 b8), e9 _ _ nD hD8, h9, pr9, nD, nD2⟩
        have inP : ∀ q ∈ lot, q.1 ∈ r.persons := fun q hq => sub9.subset (List.mem_map_of_mem hq)
        have pslen : ps.length ≤ 8 := by
          have h1 : ps.length = lot.length := pr9.length
          have h2 := sub9.length_le
          rw [List.length_map] at h2
          omega
        have lotlen : lot.length ≤ 8 := by rw [← pr9.length]; exact pslen
        clear e9 b9 h9 pr9 ra8 hD8 e8' e78 e8 b8
        -- what repr tells
        have tm : tame 12 4 (.list [r.data, .list (lot.map pairD)]) := by
          refine ⟨by show 2 ≤ 12; decide, fun d hd => ?_⟩
          simp only [List.mem_cons, List.not_mem_nil, or_false] at hd
          rcases hd with rfl | rfl
          · exact tame_rule (by decide) (many := 1 + r1) (by omega) wf (by omega)
          · refine ⟨by rw [List.length_map]; omega, fun d hd => ?_⟩
            obtain ⟨q, hq, rfl⟩ := List.mem_map.mp hd
            refine ⟨by show 2 ≤ 12; decide, fun x hx => ?_⟩
            have h2 := w9 q hq
            have h1 : 0 ≤ q.1 ∧ q.1 < 1 + r1 := by
              have := mem_nums.mp (sub5.subset (inP q hq))
              omega
            rcases List.mem_cons.mp hx with e | e
            · rw [e]; exact tame_int (by omega)
            · rw [List.mem_singleton.mp e]; exact tame_int (by omega)
        have sw := tame_shown 12 4 _ tm
        have fits := tame_fits tm (by decide)
        have rep : ∀ {Hx : Hp} {l : Addr}, Fx bx (100 * (i + 1 : Nat)) H v r D D2 ps lot Hx → Hx l = none → Dp K (upd Hx l (.lst [v, .ref D2])) (.ref l) (.list [r.data, .list (lot.map pairD)]) := fun {Hx l} F nl => by
          have F' := F.same (same_upd (o := .lst [v, .ref D2]) nl)
          exact Rp.dp (Rp.lst (bx := bx) upd_same (F.b.ne nl) (.cons (F'.ra.rp F'.b) (.cons (.lst F'.hD2 F'.nD2 (pairs_rp F'.b F'.pr)) .nil)))
        refine ⟨v, rfl, .ref D2, rfl, by show 2 ≤ sizeLine; decide, fun lA nA => ?_⟩
        have FA := F9.same (same_upd (o := .lst [v, .ref D2]) nA)
        refine ⟨lA, _, rfl, rep F9 nA, sw.sh, sw.nd, Nat.le_trans sw.dp (by decide), fits, v, rfl, .ref D2, rfl, v, .ref D2, r, 1 + r1, lot, rfl, FA.ra, wf, by omega, ⟨D2, ps, rfl, FA.hD2, FA.pr, by omega⟩, inP, fun due HB sB tl => ⟨_, _, rfl, ?_⟩⟩
        have FB := FA.same sB
        -- what the program tells
        refine ⟨v, rfl, .ref D2, rfl, v, .ref D2, r, 1 + r1, lot, rfl, FB.ra, wf, ⟨D2, ps, rfl, .inl FB.hD2, FB.pr, by omega⟩, inP, fun x1 HC sC tl1 => ?_⟩
        have FC := FB.same sC
        have q1 : x1 = due := tl1.unique tl
        subst q1
        refine ⟨.ref D2, rfl, D2, _, rfl, .inl (.inl FC.hD2), fun lD oD nlD odD => ⟨v, rfl, rfl, rfl, ?_⟩⟩
        have FD := FC.same (same_upd (o := .frz oD (.tup (ps.map V.ref))) nlD)
        refine ⟨v, .ref lD, r, 1 + r1, lot, rfl, FD.ra, wf, ⟨lD, ps, rfl, .inr (.inr ⟨oD, odD, upd_same⟩), FD.pr, by omega⟩, inP, fun x2 HE sE tl2 => ?_⟩
        have FE := FD.same sE
        have q2 : x2 = x1 := tl2.unique tl
        subst q2
        refine ⟨v, rfl, Nat.zero_le _, fun lF nF => ?_⟩
        have FF := FE.same (same_upd (o := .lst []) nF)
        refine ⟨v, .ref lF, r, 1 + r1, [], rfl, FF.ra, wf, ⟨lF, [], rfl, .inl upd_same, .nil, Nat.zero_le _⟩, fun q h => absurd h (by simp), fun x3 HG sG tl3 => ⟨by show 3 ≤ sizeLine; decide, fun told nT => ?_⟩⟩
        have FG := FF.same sG
        have FT := FG.same (same_upd (o := .lst [.int x2, .int x2, .int x3]) nT)
        have nbT := FG.b.ne nT
        -- held beside the law's own
        refine ⟨.ref told, rfl, .int x2, rfl, .int x2, rfl, v, rfl, Nat.zero_le _, fun lI nI => ?_⟩
        have sI := same_upd (o := .lst []) nI
        have FI := FT.same sI
        refine ⟨v, .ref lI, r, 1 + r1, [], rfl, FI.ra, wf, by omega, ⟨lI, [], rfl, upd_same, .nil, Nat.zero_le _⟩, fun q h => absurd h (by simp), fun x4 HJ sJ tl4 => ⟨by show 3 ≤ sizeLine; decide, fun lJ nJ => ?_⟩⟩
        have q4 : x4 = x3 := tl4.unique tl3
        subst q4
        have sJ2 := same_upd (o := .lst [.int x2, .int x2, .int x4]) nJ
        have FJ := (FI.same sJ).same sJ2
        have hT : (upd HJ lJ (.lst [.int x2, .int x2, .int x4])) told = some (.lst [.int x2, .int x2, .int x4]) := sJ2 _ _ (sJ _ _ (sI _ _ upd_same))
        refine ⟨bx, .ref told, .ref lJ, .list [.int x2, .int x2, .int x4], rfl, .lst hT nbT (.cons (.int _) (.cons (.int _) (.cons (.int _) .nil))), .lst upd_same ((FI.same sJ).b.ne nJ) (.cons (.int _) (.cons (.int _) (.cons (.int _) .nil))), okD_ints (n := 1) (ns := [x2, x2, x4]) (by show 3 ≤ 1000; decide), fun HK sK => ⟨_, rfl, iteN rfl ?_⟩⟩
        have FK := FJ.same sK
        -- seen_by
        refine ⟨v, rfl, v, r, rfl, FK.ra, by omega, fun p9 HL sL n9 h9 => ?_⟩
        have FL := FK.same sL
        have nb9 := FK.b.ne n9
        refine ⟨.ref p9, rfl, .ref D, rfl, bx, .ref p9, .ref D, .list (r.persons.map PyData.int), rfl, .lst h9 nb9 (RpAll.ints _), .lst FL.hD FL.nD (RpAll.ints _), okD_ints (n := 1) (by omega), fun HM sM => ⟨_, rfl, iteN rfl ?_⟩⟩
        have h9M := sM _ _ h9
        refine ⟨.ref p9, rfl, .inl ⟨rfl, _, .inl (.inl h9M)⟩, p9, _, _, rfl, rfl, h9M, by rw [List.length_map]; exact small1000 (by omega), ?_⟩
        have FN := FK.same (same_mut (o := .lst (r.persons.map V.int ++ [.int 9])) (sL.trans sM) n9)
        generalize hHN : upd HM p9 (.lst (r.persons.map V.int ++ [.int 9])) = HN at FN
        -- the most
        dsimp only
        show tIf _ _ _ _ _ _
        refine use (fun z Hx => z = mostV r ∧ Same HN Hx) (fun Q' hQ => ?_) ?_
        · obtain ⟨a, xs, rfl, ha⟩ := FN.ra.word
          refine ⟨.ref a, rfl, a, _, 0, _, rfl, rfl, .inl (.inl ha), atI_nat (j := 0) rfl, rfl, _, rfl, ite2 (fun z => ?_) (fun z => ?_)⟩
          · refine hQ _ _ ⟨?_, Same.refl _⟩
            cases r with
            | next _ => rfl
            | held _ => exact absurd z (show ¬ decide (V.str (Str.ofString "held") = V.str (Str.ofString "next")) = true by decide +kernel)
            | sum _ _ => exact absurd z (show ¬ decide (V.str (Str.ofString "sum") = V.str (Str.ofString "next")) = true by decide +kernel)
            | cap _ _ _ => exact absurd z (show ¬ decide (V.str (Str.ofString "cap") = V.str (Str.ofString "next")) = true by decide +kernel)
            | kinds _ _ => exact absurd z (show ¬ decide (V.str (Str.ofString "kinds") = V.str (Str.ofString "next")) = true by decide +kernel)
            | free _ => exact absurd z (show ¬ decide (V.str (Str.ofString "free") = V.str (Str.ofString "next")) = true by decide +kernel)
          · have nn : mostV r ≠ .non := fun e => by
              cases r with
              | next _ => exact z (show decide (V.str (Str.ofString "next") = V.str (Str.ofString "next")) = true by decide +kernel)
              | held _ => cases e
              | sum _ _ => cases e
              | cap _ _ _ => cases e
              | kinds _ _ => cases e
              | free _ => cases e
            obtain ⟨y, ey, ty⟩ := most_tell wf nn
            refine ⟨.ref a, rfl, .ref a, r, 1 + r1, rfl, FN.ra, wf, by omega, fun x Hx sx tx => hQ _ _ ⟨?_, sx⟩⟩
            rw [ey, tx.unique ty]
        · rintro z HO ⟨rfl, sO⟩
          have FO := FN.same sO
          -- what is told by names
          refine ⟨v, rfl, rfl, rfl, v, r, rfl, FO.ra, by omega, fun pP HP sP nP hP => ?_⟩
          have FP := FO.same sP
          refine ⟨v, rfl, v, r, rfl, FP.ra, by omega, fun HQ sQ => ?_⟩
          have FQ := FP.same sQ
          refine ⟨v, rfl, rfl, rfl, v, r, rfl, FQ.ra, by omega, fun HR sR => ⟨by show 3 ≤ sizeLine; decide, fun lR nR => ?_⟩⟩
          have FR := FQ.same sR
          have sR2 := same_upd (o := .lst [.ref pP, mostV r, mostV r]) nR
          have FS := FR.same sR2
          refine ⟨.ref D, rfl, mostV r, rfl, mostV r, rfl, by show 3 ≤ sizeLine; decide, fun lS nS => ?_⟩
          have sS := same_upd (o := .lst [.ref D, mostV r, mostV r]) nS
          have FT2 := FS.same sS
          have nbP := FO.b.ne nP
          refine ⟨bx, .ref lR, .ref lS, .list [.list (r.persons.map PyData.int), mostD r, mostD r], rfl, ?_, ?_, ⟨by show 3 ≤ 1000; decide, fun d hd => ?_⟩, fun HU sU => ⟨_, rfl, iteN rfl ?_⟩⟩
          · exact .lst (sS _ _ upd_same) (FR.b.ne nR) (.cons (.lst (sS _ _ (sR2 _ _ (sR _ _ (sQ _ _ hP)))) nbP (RpAll.ints _)) (.cons (most_rp r) (.cons (most_rp r) .nil)))
          · exact .lst upd_same (FS.b.ne nS) (.cons (.lst FT2.hD FT2.nD (RpAll.ints _)) (.cons (most_rp r) (.cons (most_rp r) .nil)))
          · simp only [List.mem_cons, List.not_mem_nil, or_false] at hd
            rcases hd with rfl | rfl | rfl
            · exact okD_ints (n := 0) (by omega)
            · exact okD_most r
            · exact okD_most r
          have FU := FT2.same sU
          -- never more than the most, and all is as it was
          cases hm : mostV r with
          | int y =>
            have hle : ¬ y < x2 := by
              have := tell_le wf sub9 tl hm
              omega
            refine ⟨.int y, rfl, rfl, _, rfl, iteP rfl ⟨.int y, rfl, .int x2, rfl, y, x2, rfl, rfl, _, rfl, iteN (decide_eq_false hle) ?_⟩⟩
            refine ⟨v, rfl, .ref D2, rfl, by show 2 ≤ sizeLine; decide, fun lZ nZ => ⟨lZ, _, rfl, rep FU nZ, sw.sh, sw.nd, Nat.le_trans sw.dp (by decide), fits, _, rfl, rfl, _, rfl, iteN (by rw [decide_eq_true rfl]; rfl) ?_⟩⟩
            have FZ := FU.same (same_upd (o := .lst [v, .ref D2]) nZ)
            exact ⟨_, _, _, _, _, _, _, _, _, _, _, _, rfl, FZ.e, FZ.b⟩
          | non =>
            refine ⟨.non, rfl, rfl, _, rfl, iteN rfl (iteN rfl ?_)⟩
            refine ⟨v, rfl, .ref D2, rfl, by show 2 ≤ sizeLine; decide, fun lZ nZ => ⟨lZ, _, rfl, rep FU nZ, sw.sh, sw.nd, Nat.le_trans sw.dp (by decide), fits, _, rfl, rfl, _, rfl, iteN (by rw [decide_eq_true rfl]; rfl) ?_⟩⟩
            have FZ := FU.same (same_upd (o := .lst [v, .ref D2]) nZ)
            exact ⟨_, _, _, _, _, _, _, _, _, _, _, _, rfl, FZ.e, FZ.b⟩
          | bl b => cases r <;> cases hm
          | str b => cases r <;> cases hm
          | byt b => cases r <;> cases hm
          | flt b => cases r <;> cases hm
          | ref b => cases r <;> cases hm
          | ty b => cases r <;> cases hm
    · rintro σ H3 ⟨y1, y2, y3, y4, y5, y6, y7, y8, y9, y10, y11, y12, rfl, e3, b3⟩
      exact q H3 e3
end
end Lh

namespace Lh
open PySem PySem.Spec PyProof.Rows L2
section
variable {P : Program} {w : World} {K : PySem.W.Frag} {mg : Str → Option Value} {base : Heap}
def spLaw (K : PySem.W.Frag) : Sp := fun vs H Q _ => ∃ (a : Addr) (ns : List Int), vs = [.ref a] ∧ SqL K H a (ns.map V.int) ∧ ns.length ≤ 63 ∧ ∀ H', Q (.bl true) H'
theorem ok_law (T : Txt K mg) : FnG P w K mg base 5 T.f_law T.fd_law ["_law_script"] (spLaw K) := by
  have G_folded := ok_folded (P := P) (w := w) (base := base) T
  have G_dip := ok_dip (P := P) (w := w) (base := base) T
  have G_right := ok_right (P := P) (w := w) (base := base) T
  refine okG T.F_law sc_law (fun vs H Q E h => ?_) (fun cdv A outer s H vs Q E hr hG h => ?_)
  · obtain ⟨a, ns, rfl, _⟩ := h
    rfl
  · obtain ⟨a, ns, rfl, hS, hl, q⟩ := h
    refine ⟨_, (pss_cons (ps_set (i := 1) sc_law.nd rfl (.inr rfl) (pe_call G_folded (hr.mono (by decide)) (by rfl) T.g_folded T.F_folded.kp T.b_folded .nil pass0 (pa_cons (pv 0) (pa_cons pe_int pa_nil))))
      (pss_one (ps_ret (pe_callB (cr_all rfl) (by rfl) T.m_all (by decide +kernel) (pa_cons (pe_lc (own := [("_law_k", 2)]) (g := gName 2) (by rfl) sc_law.nd (pi_range1 (by rfl) T.m_range (pa_cons (pe_callB (call_max2 rfl) (by rfl) T.m_max (by decide +kernel) (pa_cons pe_int (pa_cons (pe_callB call_len_seq (by rfl) T.m_len (by decide +kernel) (pa_cons (pv 1) pa_nil)) pa_nil))) pa_nil)) (blkOk_by (own := [("_law_k", 2)]) (N := n_law) (sc := defScope s_law) (by decide +kernel)) (fun _ _ _ _ _ => (pg_name (i := 2) sc_law.nd rfl (.inl rfl) (.inr rfl))) (fun _ _ _ _ _ => pts_nil) (fun _ _ _ _ _ => (pe_callG G_right (hr.mono (by decide)) hG (by rfl) T.g_right T.F_right.kp T.b_right (pa_cons (pe_call G_dip (hr.mono (by decide)) (by rfl) T.g_dip T.F_dip.kp T.b_dip .nil pass0 (pa_cons (pv 1) (pa_cons (pv 2) pa_nil))) pa_nil)))) pa_nil))))), ?_⟩
    refine ⟨.ref a, rfl, a, ns, rfl, hS, hl, fun p ms H1 s1 np hp ml => ?_⟩
    refine ⟨.ref p, rfl, p, _, rfl, .inl (.inl (.inl hp)), 1, _, rfl, _, rfl, ?_, ?_, fun D hD => ?_⟩
    · rw [List.length_map]; split <;> omega
    · rw [List.length_map]; split <;> omega
    generalize hn : (if ((ms.map V.int).length : Int) > 1 then ((ms.map V.int).length : Int) else 1).toNat = n
    have hn3 : n ≤ 3 := by
      rw [← hn, List.length_map]
      split <;> omega
    refine lc_it walk_range (fun i H3 => H3 p = some (.lst (ms.map V.int)) ∧ H3 D = some (.lst (List.replicate i (.bl true)))) ⟨same_upd hD _ _ hp, upd_same⟩ (fun _ _ _ _ => trivial) ?_ ?_
    · rintro i x H3 H4 hi ⟨h1, h2⟩ ⟨rfl, rfl⟩
      refine ⟨rfl, yes (iteT ?_)⟩
      refine ⟨.ref p, rfl, .int (0 + i), rfl, p, ms, i, by show [V.ref p, V.int (0 + (i : Int))] = _; rw [Int.zero_add], .inl (.inl h1), by omega, fun bx H5 s5 nb bB => ?_⟩
      refine ⟨bx, rfl, bB, fun H6 e6 => ?_⟩
      have nD : D ≠ bx := ne_of_none h2 nb
      have nP : p ≠ bx := ne_of_none h1 nb
      have nPD : p ≠ D := ne_of_none hp hD
      refine ⟨_, e6 _ _ nD (s5 _ _ h2), by rw [List.length_replicate]; exact small1000 (by omega), ?_, ?_⟩
      · rw [upd_ne nPD]; exact e6 _ _ nP (s5 _ _ h1)
      · rw [upd_same, List.replicate_succ']
    · rintro H3 ⟨h1, h2⟩
      refine ⟨D, List.replicate n true, rfl, .inl (.inl (by rw [h2, List.map_replicate])), blT ?_ (q _)⟩
      rw [List.all_eq_true]
      intro z hz
      rw [List.eq_of_mem_replicate hz]
      rfl
end
def txt_mk {K : PySem.W.Frag} {h : Heap} {mg : Str → Option Value} (X : K.In h) (G : h.Ns mainGlobals mg)
    {f0 : Addr} {od0 an0 : Option Addr} {sl0 : Array (Option Value)} {oc0 kV0 dc0 pm0 cd0 ct0 : Value}
    {f1 : Addr} {od1 an1 : Option Addr} {sl1 : Array (Option Value)} {oc1 kV1 dc1 pm1 cd1 ct1 : Value}
    {f2 : Addr} {od2 an2 : Option Addr} {sl2 : Array (Option Value)} {oc2 kV2 dc2 pm2 cd2 ct2 : Value}
    {f3 : Addr} {od3 an3 : Option Addr} {sl3 : Array (Option Value)} {oc3 kV3 dc3 pm3 cd3 ct3 : Value}
    {f4 : Addr} {od4 an4 : Option Addr} {sl4 : Array (Option Value)} {oc4 kV4 dc4 pm4 cd4 ct4 : Value}
    {f5 : Addr} {od5 an5 : Option Addr} {sl5 : Array (Option Value)} {oc5 kV5 dc5 pm5 cd5 ct5 : Value}
    {f6 : Addr} {od6 an6 : Option Addr} {sl6 : Array (Option Value)} {oc6 kV6 dc6 pm6 cd6 ct6 : Value}
    {f7 : Addr} {od7 an7 : Option Addr} {sl7 : Array (Option Value)} {oc7 kV7 dc7 pm7 cd7 ct7 : Value}
    {f8 : Addr} {od8 an8 : Option Addr} {sl8 : Array (Option Value)} {oc8 kV8 dc8 pm8 cd8 ct8 : Value}
    {f9 : Addr} {od9 an9 : Option Addr} {sl9 : Array (Option Value)} {oc9 kV9 dc9 pm9 cd9 ct9 : Value}
    {f10 : Addr} {od10 an10 : Option Addr} {sl10 : Array (Option Value)} {oc10 kV10 dc10 pm10 cd10 ct10 : Value}
    {f11 : Addr} {od11 an11 : Option Addr} {sl11 : Array (Option Value)} {oc11 kV11 dc11 pm11 cd11 ct11 : Value}
    {f12 : Addr} {od12 an12 : Option Addr} {sl12 : Array (Option Value)} {oc12 kV12 dc12 pm12 cd12 ct12 : Value}
    {f13 : Addr} {od13 an13 : Option Addr} {sl13 : Array (Option Value)} {oc13 kV13 dc13 pm13 cd13 ct13 : Value}
    {f14 : Addr} {od14 an14 : Option Addr} {sl14 : Array (Option Value)} {oc14 kV14 dc14 pm14 cd14 ct14 : Value}
    {f15 : Addr} {od15 an15 : Option Addr} {sl15 : Array (Option Value)} {oc15 kV15 dc15 pm15 cd15 ct15 : Value}
    {f16 : Addr} {od16 an16 : Option Addr} {sl16 : Array (Option Value)} {oc16 kV16 dc16 pm16 cd16 ct16 : Value}
    {f17 : Addr} {od17 an17 : Option Addr} {sl17 : Array (Option Value)} {oc17 kV17 dc17 pm17 cd17 ct17 : Value}
    (a0 : PySem.W.nsIn K mainGlobals "seen_by" = some (some (.ref f0))) (l0 : K.lookup f0 = some ⟨oc0, od0, .func (PySem.W.fnOf "seen_by" "seen_by" (defArgs s_seen_by) (defBody s_seen_by) (defScope s_seen_by) .none kV0 dc0 pm0 an0 cd0 ct0), sl0⟩) (c0 : PySem.W.codeIn K cd0 "seen_by" = true) (k0 : PySem.W.keepIn K (.ref f0) = true)
    (a1 : PySem.W.nsIn K mainGlobals "told_of" = some (some (.ref f1))) (l1 : K.lookup f1 = some ⟨oc1, od1, .func (PySem.W.fnOf "told_of" "told_of" (defArgs s_told_of) (defBody s_told_of) (defScope s_told_of) .none kV1 dc1 pm1 an1 cd1 ct1), sl1⟩) (c1 : PySem.W.codeIn K cd1 "told_of" = true) (k1 : PySem.W.keepIn K (.ref f1) = true)
    (a2 : PySem.W.nsIn K mainGlobals "weighed" = some (some (.ref f2))) (l2 : K.lookup f2 = some ⟨oc2, od2, .func (PySem.W.fnOf "weighed" "weighed" (defArgs s_weighed) (defBody s_weighed) (defScope s_weighed) .none kV2 dc2 pm2 an2 cd2 ct2), sl2⟩) (c2 : PySem.W.codeIn K cd2 "weighed" = true) (k2 : PySem.W.keepIn K (.ref f2) = true)
    (a3 : PySem.W.nsIn K mainGlobals "least_free" = some (some (.ref f3))) (l3 : K.lookup f3 = some ⟨oc3, od3, .func (PySem.W.fnOf "least_free" "least_free" (defArgs s_least_free) (defBody s_least_free) (defScope s_least_free) .none kV3 dc3 pm3 an3 cd3 ct3), sl3⟩) (c3 : PySem.W.codeIn K cd3 "least_free" = true) (k3 : PySem.W.keepIn K (.ref f3) = true)
    (a4 : PySem.W.nsIn K mainGlobals "most_of" = some (some (.ref f4))) (l4 : K.lookup f4 = some ⟨oc4, od4, .func (PySem.W.fnOf "most_of" "most_of" (defArgs s_most_of) (defBody s_most_of) (defScope s_most_of) .none kV4 dc4 pm4 an4 cd4 ct4), sl4⟩) (c4 : PySem.W.codeIn K cd4 "most_of" = true) (k4 : PySem.W.keepIn K (.ref f4) = true)
    (a5 : PySem.W.nsIn K mainGlobals "most_weighed" = some (some (.ref f5))) (l5 : K.lookup f5 = some ⟨oc5, od5, .func (PySem.W.fnOf "most_weighed" "most_weighed" (defArgs s_most_weighed) (defBody s_most_weighed) (defScope s_most_weighed) .none kV5 dc5 pm5 an5 cd5 ct5), sl5⟩) (c5 : PySem.W.codeIn K cd5 "most_weighed" = true) (k5 : PySem.W.keepIn K (.ref f5) = true)
    (a6 : PySem.W.nsIn K mainGlobals "_law_dip" = some (some (.ref f6))) (l6 : K.lookup f6 = some ⟨oc6, od6, .func (PySem.W.fnOf "_law_dip" "_law_dip" (defArgs s_dip) (defBody s_dip) (defScope s_dip) .none kV6 dc6 pm6 an6 cd6 ct6), sl6⟩) (c6 : PySem.W.codeIn K cd6 "_law_dip" = true) (k6 : PySem.W.keepIn K (.ref f6) = true)
    (a7 : PySem.W.nsIn K mainGlobals "_law_take" = some (some (.ref f7))) (l7 : K.lookup f7 = some ⟨oc7, od7, .func (PySem.W.fnOf "_law_take" "_law_take" (defArgs s_take) (defBody s_take) (defScope s_take) .none kV7 dc7 pm7 an7 cd7 ct7), sl7⟩) (c7 : PySem.W.codeIn K cd7 "_law_take" = true) (k7 : PySem.W.keepIn K (.ref f7) = true)
    (a8 : PySem.W.nsIn K mainGlobals "_law_folded" = some (some (.ref f8))) (l8 : K.lookup f8 = some ⟨oc8, od8, .func (PySem.W.fnOf "_law_folded" "_law_folded" (defArgs s_folded) (defBody s_folded) (defScope s_folded) .none kV8 dc8 pm8 an8 cd8 ct8), sl8⟩) (c8 : PySem.W.codeIn K cd8 "_law_folded" = true) (k8 : PySem.W.keepIn K (.ref f8) = true)
    (a9 : PySem.W.nsIn K mainGlobals "_law_same" = some (some (.ref f9))) (l9 : K.lookup f9 = some ⟨oc9, od9, .func (PySem.W.fnOf "_law_same" "_law_same" (defArgs s_same) (defBody s_same) (defScope s_same) .none kV9 dc9 pm9 an9 cd9 ct9), sl9⟩) (c9 : PySem.W.codeIn K cd9 "_law_same" = true) (k9 : PySem.W.keepIn K (.ref f9) = true)
    (a10 : PySem.W.nsIn K mainGlobals "_law_some" = some (some (.ref f10))) (l10 : K.lookup f10 = some ⟨oc10, od10, .func (PySem.W.fnOf "_law_some" "_law_some" (defArgs s_some) (defBody s_some) (defScope s_some) .none kV10 dc10 pm10 an10 cd10 ct10), sl10⟩) (c10 : PySem.W.codeIn K cd10 "_law_some" = true) (k10 : PySem.W.keepIn K (.ref f10) = true)
    (a11 : PySem.W.nsIn K mainGlobals "_law_sum_rule" = some (some (.ref f11))) (l11 : K.lookup f11 = some ⟨oc11, od11, .func (PySem.W.fnOf "_law_sum_rule" "_law_sum_rule" (defArgs s_sum_rule) (defBody s_sum_rule) (defScope s_sum_rule) .none kV11 dc11 pm11 an11 cd11 ct11), sl11⟩) (c11 : PySem.W.codeIn K cd11 "_law_sum_rule" = true) (k11 : PySem.W.keepIn K (.ref f11) = true)
    (a12 : PySem.W.nsIn K mainGlobals "_law_rule" = some (some (.ref f12))) (l12 : K.lookup f12 = some ⟨oc12, od12, .func (PySem.W.fnOf "_law_rule" "_law_rule" (defArgs s_rule) (defBody s_rule) (defScope s_rule) .none kV12 dc12 pm12 an12 cd12 ct12), sl12⟩) (c12 : PySem.W.codeIn K cd12 "_law_rule" = true) (k12 : PySem.W.keepIn K (.ref f12) = true)
    (a13 : PySem.W.nsIn K mainGlobals "_law_seen" = some (some (.ref f13))) (l13 : K.lookup f13 = some ⟨oc13, od13, .func (PySem.W.fnOf "_law_seen" "_law_seen" (defArgs s_seen) (defBody s_seen) (defScope s_seen) .none kV13 dc13 pm13 an13 cd13 ct13), sl13⟩) (c13 : PySem.W.codeIn K cd13 "_law_seen" = true) (k13 : PySem.W.keepIn K (.ref f13) = true)
    (a14 : PySem.W.nsIn K mainGlobals "_law_tells" = some (some (.ref f14))) (l14 : K.lookup f14 = some ⟨oc14, od14, .func (PySem.W.fnOf "_law_tells" "_law_tells" (defArgs s_tells) (defBody s_tells) (defScope s_tells) .none kV14 dc14 pm14 an14 cd14 ct14), sl14⟩) (c14 : PySem.W.codeIn K cd14 "_law_tells" = true) (k14 : PySem.W.keepIn K (.ref f14) = true)
    (a15 : PySem.W.nsIn K mainGlobals "_law_most" = some (some (.ref f15))) (l15 : K.lookup f15 = some ⟨oc15, od15, .func (PySem.W.fnOf "_law_most" "_law_most" (defArgs s_most) (defBody s_most) (defScope s_most) .none kV15 dc15 pm15 an15 cd15 ct15), sl15⟩) (c15 : PySem.W.codeIn K cd15 "_law_most" = true) (k15 : PySem.W.keepIn K (.ref f15) = true)
    (a16 : PySem.W.nsIn K mainGlobals "_law_right" = some (some (.ref f16))) (l16 : K.lookup f16 = some ⟨oc16, od16, .func (PySem.W.fnOf "_law_right" "_law_right" (defArgs s_right) (defBody s_right) (defScope s_right) .none kV16 dc16 pm16 an16 cd16 ct16), sl16⟩) (c16 : PySem.W.codeIn K cd16 "_law_right" = true) (k16 : PySem.W.keepIn K (.ref f16) = true)
    (a17 : PySem.W.nsIn K mainGlobals "law" = some (some (.ref f17))) (l17 : K.lookup f17 = some ⟨oc17, od17, .func (PySem.W.fnOf "law" "law" (defArgs s_law) (defBody s_law) (defScope s_law) .none kV17 dc17 pm17 an17 cd17 ct17), sl17⟩) (c17 : PySem.W.codeIn K cd17 "law" = true) (k17 : PySem.W.keepIn K (.ref f17) = true)
    (z0 : PySem.W.nsIn K mainGlobals "abs" = some none)
    (z1 : PySem.W.nsIn K mainGlobals "all" = some none)
    (z2 : PySem.W.nsIn K mainGlobals "bool" = some none)
    (z3 : PySem.W.nsIn K mainGlobals "dict" = some none)
    (z4 : PySem.W.nsIn K mainGlobals "enumerate" = some none)
    (z5 : PySem.W.nsIn K mainGlobals "int" = some none)
    (z6 : PySem.W.nsIn K mainGlobals "isinstance" = some none)
    (z7 : PySem.W.nsIn K mainGlobals "len" = some none)
    (z8 : PySem.W.nsIn K mainGlobals "list" = some none)
    (z9 : PySem.W.nsIn K mainGlobals "max" = some none)
    (z10 : PySem.W.nsIn K mainGlobals "min" = some none)
    (z11 : PySem.W.nsIn K mainGlobals "range" = some none)
    (z12 : PySem.W.nsIn K mainGlobals "repr" = some none)
    (z13 : PySem.W.nsIn K mainGlobals "set" = some none)
    (z14 : PySem.W.nsIn K mainGlobals "sorted" = some none)
    (z15 : PySem.W.nsIn K mainGlobals "str" = some none)
    (z16 : PySem.W.nsIn K mainGlobals "sum" = some none)
    (z17 : PySem.W.nsIn K mainGlobals "tuple" = some none)
    (z18 : PySem.W.nsIn K mainGlobals "zip" = some none) : Txt K mg where
  f_seen_by := f0
  fd_seen_by := _
  F_seen_by := fun_mk (st := s_seen_by) l0 c0 k0
  g_seen_by := PySem.W.mg_of X G a0
  b_seen_by := (fun_mk (st := s_seen_by) l0 c0 k0).binds (ps := ["rule"]) fun _ _ _ _ _ _ us hl => match us, hl with | [_], _ => rfl
  kb_seen_by := ⟨fun s us ws _ h1 h2 => match us, ws, h1, h2 with | [], [_], _, _ => .of_eq rfl, fun _ r => permV_rel _ r⟩
  f_told_of := f1
  fd_told_of := _
  F_told_of := fun_mk (st := s_told_of) l1 c1 k1
  g_told_of := PySem.W.mg_of X G a1
  b_told_of := (fun_mk (st := s_told_of) l1 c1 k1).binds (ps := ["rule", "lot"]) fun _ _ _ _ _ _ us hl => match us, hl with | [_, _], _ => rfl
  kb_told_of := ⟨fun s us ws _ h1 h2 => match us, ws, h1, h2 with | [], [_, _], _, _ => .of_eq rfl, fun _ r => permV_rel _ r⟩
  f_weighed := f2
  fd_weighed := _
  F_weighed := fun_mk (st := s_weighed) l2 c2 k2
  g_weighed := PySem.W.mg_of X G a2
  b_weighed := (fun_mk (st := s_weighed) l2 c2 k2).binds (ps := ["rule", "lot"]) fun _ _ _ _ _ _ us hl => match us, hl with | [_, _], _ => rfl
  f_least_free := f3
  fd_least_free := _
  F_least_free := fun_mk (st := s_least_free) l3 c3 k3
  g_least_free := PySem.W.mg_of X G a3
  b_least_free := (fun_mk (st := s_least_free) l3 c3 k3).binds (ps := ["numbers"]) fun _ _ _ _ _ _ us hl => match us, hl with | [_], _ => rfl
  f_most_of := f4
  fd_most_of := _
  F_most_of := fun_mk (st := s_most_of) l4 c4 k4
  g_most_of := PySem.W.mg_of X G a4
  b_most_of := (fun_mk (st := s_most_of) l4 c4 k4).binds (ps := ["rule"]) fun _ _ _ _ _ _ us hl => match us, hl with | [_], _ => rfl
  kb_most_of := ⟨fun s us ws _ h1 h2 => match us, ws, h1, h2 with | [], [_], _, _ => .of_eq rfl, fun _ r => permV_rel _ r⟩
  f_most_weighed := f5
  fd_most_weighed := _
  F_most_weighed := fun_mk (st := s_most_weighed) l5 c5 k5
  g_most_weighed := PySem.W.mg_of X G a5
  b_most_weighed := (fun_mk (st := s_most_weighed) l5 c5 k5).binds (ps := ["rule"]) fun _ _ _ _ _ _ us hl => match us, hl with | [_], _ => rfl
  f_dip := f6
  fd_dip := _
  F_dip := fun_mk (st := s_dip) l6 c6 k6
  g_dip := PySem.W.mg_of X G a6
  b_dip := (fun_mk (st := s_dip) l6 c6 k6).binds (ps := ["_law_script", "_law_k"]) fun _ _ _ _ _ _ us hl => match us, hl with | [_, _], _ => rfl
  f_take := f7
  fd_take := _
  F_take := fun_mk (st := s_take) l7 c7 k7
  g_take := PySem.W.mg_of X G a7
  b_take := (fun_mk (st := s_take) l7 c7 k7).binds (ps := ["_law_box", "_law_many"]) fun _ _ _ _ _ _ us hl => match us, hl with | [_, _], _ => rfl
  f_folded := f8
  fd_folded := _
  F_folded := fun_mk (st := s_folded) l8 c8 k8
  g_folded := PySem.W.mg_of X G a8
  b_folded := (fun_mk (st := s_folded) l8 c8 k8).binds (ps := ["_law_script", "_law_many"]) fun _ _ _ _ _ _ us hl => match us, hl with | [_, _], _ => rfl
  f_same := f9
  fd_same := _
  F_same := fun_mk (st := s_same) l9 c9 k9
  g_same := PySem.W.mg_of X G a9
  b_same := (fun_mk (st := s_same) l9 c9 k9).binds (ps := ["_law_found", "_law_due"]) fun _ _ _ _ _ _ us hl => match us, hl with | [_, _], _ => rfl
  f_some := f10
  fd_some := _
  F_some := fun_mk (st := s_some) l10 c10 k10
  g_some := PySem.W.mg_of X G a10
  b_some := (fun_mk (st := s_some) l10 c10 k10).binds (ps := ["_law_box", "_law_pool", "_law_odds"]) fun _ _ _ _ _ _ us hl => match us, hl with | [_, _, _], _ => rfl
  f_sum_rule := f11
  fd_sum_rule := _
  F_sum_rule := fun_mk (st := s_sum_rule) l11 c11 k11
  g_sum_rule := PySem.W.mg_of X G a11
  b_sum_rule := (fun_mk (st := s_sum_rule) l11 c11 k11).binds (ps := ["_law_box", "_law_seen_here", "_law_far"]) fun _ _ _ _ _ _ us hl => match us, hl with | [_, _, _], _ => rfl
  f_rule := f12
  fd_rule := _
  F_rule := fun_mk (st := s_rule) l12 c12 k12
  g_rule := PySem.W.mg_of X G a12
  b_rule := (fun_mk (st := s_rule) l12 c12 k12).binds (ps := ["_law_box", "_law_many", "_law_pool", "_law_far"]) fun _ _ _ _ _ _ us hl => match us, hl with | [_, _, _, _], _ => rfl
  f_seen := f13
  fd_seen := _
  F_seen := fun_mk (st := s_seen) l13 c13 k13
  g_seen := PySem.W.mg_of X G a13
  b_seen := (fun_mk (st := s_seen) l13 c13 k13).binds (ps := ["_law_own_rule"]) fun _ _ _ _ _ _ us hl => match us, hl with | [_], _ => rfl
  f_tells := f14
  fd_tells := _
  F_tells := fun_mk (st := s_tells) l14 c14 k14
  g_tells := PySem.W.mg_of X G a14
  b_tells := (fun_mk (st := s_tells) l14 c14 k14).binds (ps := ["_law_own_rule", "_law_bunch"]) fun _ _ _ _ _ _ us hl => match us, hl with | [_, _], _ => rfl
  f_most := f15
  fd_most := _
  F_most := fun_mk (st := s_most) l15 c15 k15
  g_most := PySem.W.mg_of X G a15
  b_most := (fun_mk (st := s_most) l15 c15 k15).binds (ps := ["_law_own_rule"]) fun _ _ _ _ _ _ us hl => match us, hl with | [_], _ => rfl
  f_right := f16
  fd_right := _
  F_right := fun_mk (st := s_right) l16 c16 k16
  g_right := PySem.W.mg_of X G a16
  b_right := (fun_mk (st := s_right) l16 c16 k16).binds (ps := ["_law_box"]) fun _ _ _ _ _ _ us hl => match us, hl with | [_], _ => rfl
  f_law := f17
  fd_law := _
  F_law := fun_mk (st := s_law) l17 c17 k17
  g_law := PySem.W.mg_of X G a17
  b_law := (fun_mk (st := s_law) l17 c17 k17).binds (ps := ["_law_script"]) fun _ _ _ _ _ _ us hl => match us, hl with | [_], _ => rfl
  m_abs := PySem.W.mg_none_of X G z0
  m_all := PySem.W.mg_none_of X G z1
  m_bool := PySem.W.mg_none_of X G z2
  m_dict := PySem.W.mg_none_of X G z3
  m_enumerate := PySem.W.mg_none_of X G z4
  m_int := PySem.W.mg_none_of X G z5
  m_isinstance := PySem.W.mg_none_of X G z6
  m_len := PySem.W.mg_none_of X G z7
  m_list := PySem.W.mg_none_of X G z8
  m_max := PySem.W.mg_none_of X G z9
  m_min := PySem.W.mg_none_of X G z10
  m_range := PySem.W.mg_none_of X G z11
  m_repr := PySem.W.mg_none_of X G z12
  m_set := PySem.W.mg_none_of X G z13
  m_sorted := PySem.W.mg_none_of X G z14
  m_str := PySem.W.mg_none_of X G z15
  m_sum := PySem.W.mg_none_of X G z16
  m_tuple := PySem.W.mg_none_of X G z17
  m_zip := PySem.W.mg_none_of X G z18
theorem all_mk {l : PySem.W.OpenLaw} {w : World} {K : PySem.W.Frag} {h : Heap} {mg : Str → Option Value} {fa : Addr} (X : K.In h) (G : h.Ns mainGlobals mg) (hfa : mg "law" = some (.ref fa))
    {f0 : Addr} {od0 an0 : Option Addr} {sl0 : Array (Option Value)} {oc0 kV0 dc0 pm0 cd0 ct0 : Value}
    {f1 : Addr} {od1 an1 : Option Addr} {sl1 : Array (Option Value)} {oc1 kV1 dc1 pm1 cd1 ct1 : Value}
    {f2 : Addr} {od2 an2 : Option Addr} {sl2 : Array (Option Value)} {oc2 kV2 dc2 pm2 cd2 ct2 : Value}
    {f3 : Addr} {od3 an3 : Option Addr} {sl3 : Array (Option Value)} {oc3 kV3 dc3 pm3 cd3 ct3 : Value}
    {f4 : Addr} {od4 an4 : Option Addr} {sl4 : Array (Option Value)} {oc4 kV4 dc4 pm4 cd4 ct4 : Value}
    {f5 : Addr} {od5 an5 : Option Addr} {sl5 : Array (Option Value)} {oc5 kV5 dc5 pm5 cd5 ct5 : Value}
    {f6 : Addr} {od6 an6 : Option Addr} {sl6 : Array (Option Value)} {oc6 kV6 dc6 pm6 cd6 ct6 : Value}
    {f7 : Addr} {od7 an7 : Option Addr} {sl7 : Array (Option Value)} {oc7 kV7 dc7 pm7 cd7 ct7 : Value}
    {f8 : Addr} {od8 an8 : Option Addr} {sl8 : Array (Option Value)} {oc8 kV8 dc8 pm8 cd8 ct8 : Value}
    {f9 : Addr} {od9 an9 : Option Addr} {sl9 : Array (Option Value)} {oc9 kV9 dc9 pm9 cd9 ct9 : Value}
    {f10 : Addr} {od10 an10 : Option Addr} {sl10 : Array (Option Value)} {oc10 kV10 dc10 pm10 cd10 ct10 : Value}
    {f11 : Addr} {od11 an11 : Option Addr} {sl11 : Array (Option Value)} {oc11 kV11 dc11 pm11 cd11 ct11 : Value}
    {f12 : Addr} {od12 an12 : Option Addr} {sl12 : Array (Option Value)} {oc12 kV12 dc12 pm12 cd12 ct12 : Value}
    {f13 : Addr} {od13 an13 : Option Addr} {sl13 : Array (Option Value)} {oc13 kV13 dc13 pm13 cd13 ct13 : Value}
    {f14 : Addr} {od14 an14 : Option Addr} {sl14 : Array (Option Value)} {oc14 kV14 dc14 pm14 cd14 ct14 : Value}
    {f15 : Addr} {od15 an15 : Option Addr} {sl15 : Array (Option Value)} {oc15 kV15 dc15 pm15 cd15 ct15 : Value}
    {f16 : Addr} {od16 an16 : Option Addr} {sl16 : Array (Option Value)} {oc16 kV16 dc16 pm16 cd16 ct16 : Value}
    {f17 : Addr} {od17 an17 : Option Addr} {sl17 : Array (Option Value)} {oc17 kV17 dc17 pm17 cd17 ct17 : Value}
    (a0 : PySem.W.nsIn K mainGlobals "seen_by" = some (some (.ref f0))) (l0 : K.lookup f0 = some ⟨oc0, od0, .func (PySem.W.fnOf "seen_by" "seen_by" (defArgs s_seen_by) (defBody s_seen_by) (defScope s_seen_by) .none kV0 dc0 pm0 an0 cd0 ct0), sl0⟩) (c0 : PySem.W.codeIn K cd0 "seen_by" = true) (k0 : PySem.W.keepIn K (.ref f0) = true)
    (a1 : PySem.W.nsIn K mainGlobals "told_of" = some (some (.ref f1))) (l1 : K.lookup f1 = some ⟨oc1, od1, .func (PySem.W.fnOf "told_of" "told_of" (defArgs s_told_of) (defBody s_told_of) (defScope s_told_of) .none kV1 dc1 pm1 an1 cd1 ct1), sl1⟩) (c1 : PySem.W.codeIn K cd1 "told_of" = true) (k1 : PySem.W.keepIn K (.ref f1) = true)
    (a2 : PySem.W.nsIn K mainGlobals "weighed" = some (some (.ref f2))) (l2 : K.lookup f2 = some ⟨oc2, od2, .func (PySem.W.fnOf "weighed" "weighed" (defArgs s_weighed) (defBody s_weighed) (defScope s_weighed) .none kV2 dc2 pm2 an2 cd2 ct2), sl2⟩) (c2 : PySem.W.codeIn K cd2 "weighed" = true) (k2 : PySem.W.keepIn K (.ref f2) = true)
    (a3 : PySem.W.nsIn K mainGlobals "least_free" = some (some (.ref f3))) (l3 : K.lookup f3 = some ⟨oc3, od3, .func (PySem.W.fnOf "least_free" "least_free" (defArgs s_least_free) (defBody s_least_free) (defScope s_least_free) .none kV3 dc3 pm3 an3 cd3 ct3), sl3⟩) (c3 : PySem.W.codeIn K cd3 "least_free" = true) (k3 : PySem.W.keepIn K (.ref f3) = true)
    (a4 : PySem.W.nsIn K mainGlobals "most_of" = some (some (.ref f4))) (l4 : K.lookup f4 = some ⟨oc4, od4, .func (PySem.W.fnOf "most_of" "most_of" (defArgs s_most_of) (defBody s_most_of) (defScope s_most_of) .none kV4 dc4 pm4 an4 cd4 ct4), sl4⟩) (c4 : PySem.W.codeIn K cd4 "most_of" = true) (k4 : PySem.W.keepIn K (.ref f4) = true)
    (a5 : PySem.W.nsIn K mainGlobals "most_weighed" = some (some (.ref f5))) (l5 : K.lookup f5 = some ⟨oc5, od5, .func (PySem.W.fnOf "most_weighed" "most_weighed" (defArgs s_most_weighed) (defBody s_most_weighed) (defScope s_most_weighed) .none kV5 dc5 pm5 an5 cd5 ct5), sl5⟩) (c5 : PySem.W.codeIn K cd5 "most_weighed" = true) (k5 : PySem.W.keepIn K (.ref f5) = true)
    (a6 : PySem.W.nsIn K mainGlobals "_law_dip" = some (some (.ref f6))) (l6 : K.lookup f6 = some ⟨oc6, od6, .func (PySem.W.fnOf "_law_dip" "_law_dip" (defArgs s_dip) (defBody s_dip) (defScope s_dip) .none kV6 dc6 pm6 an6 cd6 ct6), sl6⟩) (c6 : PySem.W.codeIn K cd6 "_law_dip" = true) (k6 : PySem.W.keepIn K (.ref f6) = true)
    (a7 : PySem.W.nsIn K mainGlobals "_law_take" = some (some (.ref f7))) (l7 : K.lookup f7 = some ⟨oc7, od7, .func (PySem.W.fnOf "_law_take" "_law_take" (defArgs s_take) (defBody s_take) (defScope s_take) .none kV7 dc7 pm7 an7 cd7 ct7), sl7⟩) (c7 : PySem.W.codeIn K cd7 "_law_take" = true) (k7 : PySem.W.keepIn K (.ref f7) = true)
    (a8 : PySem.W.nsIn K mainGlobals "_law_folded" = some (some (.ref f8))) (l8 : K.lookup f8 = some ⟨oc8, od8, .func (PySem.W.fnOf "_law_folded" "_law_folded" (defArgs s_folded) (defBody s_folded) (defScope s_folded) .none kV8 dc8 pm8 an8 cd8 ct8), sl8⟩) (c8 : PySem.W.codeIn K cd8 "_law_folded" = true) (k8 : PySem.W.keepIn K (.ref f8) = true)
    (a9 : PySem.W.nsIn K mainGlobals "_law_same" = some (some (.ref f9))) (l9 : K.lookup f9 = some ⟨oc9, od9, .func (PySem.W.fnOf "_law_same" "_law_same" (defArgs s_same) (defBody s_same) (defScope s_same) .none kV9 dc9 pm9 an9 cd9 ct9), sl9⟩) (c9 : PySem.W.codeIn K cd9 "_law_same" = true) (k9 : PySem.W.keepIn K (.ref f9) = true)
    (a10 : PySem.W.nsIn K mainGlobals "_law_some" = some (some (.ref f10))) (l10 : K.lookup f10 = some ⟨oc10, od10, .func (PySem.W.fnOf "_law_some" "_law_some" (defArgs s_some) (defBody s_some) (defScope s_some) .none kV10 dc10 pm10 an10 cd10 ct10), sl10⟩) (c10 : PySem.W.codeIn K cd10 "_law_some" = true) (k10 : PySem.W.keepIn K (.ref f10) = true)
    (a11 : PySem.W.nsIn K mainGlobals "_law_sum_rule" = some (some (.ref f11))) (l11 : K.lookup f11 = some ⟨oc11, od11, .func (PySem.W.fnOf "_law_sum_rule" "_law_sum_rule" (defArgs s_sum_rule) (defBody s_sum_rule) (defScope s_sum_rule) .none kV11 dc11 pm11 an11 cd11 ct11), sl11⟩) (c11 : PySem.W.codeIn K cd11 "_law_sum_rule" = true) (k11 : PySem.W.keepIn K (.ref f11) = true)
    (a12 : PySem.W.nsIn K mainGlobals "_law_rule" = some (some (.ref f12))) (l12 : K.lookup f12 = some ⟨oc12, od12, .func (PySem.W.fnOf "_law_rule" "_law_rule" (defArgs s_rule) (defBody s_rule) (defScope s_rule) .none kV12 dc12 pm12 an12 cd12 ct12), sl12⟩) (c12 : PySem.W.codeIn K cd12 "_law_rule" = true) (k12 : PySem.W.keepIn K (.ref f12) = true)
    (a13 : PySem.W.nsIn K mainGlobals "_law_seen" = some (some (.ref f13))) (l13 : K.lookup f13 = some ⟨oc13, od13, .func (PySem.W.fnOf "_law_seen" "_law_seen" (defArgs s_seen) (defBody s_seen) (defScope s_seen) .none kV13 dc13 pm13 an13 cd13 ct13), sl13⟩) (c13 : PySem.W.codeIn K cd13 "_law_seen" = true) (k13 : PySem.W.keepIn K (.ref f13) = true)
    (a14 : PySem.W.nsIn K mainGlobals "_law_tells" = some (some (.ref f14))) (l14 : K.lookup f14 = some ⟨oc14, od14, .func (PySem.W.fnOf "_law_tells" "_law_tells" (defArgs s_tells) (defBody s_tells) (defScope s_tells) .none kV14 dc14 pm14 an14 cd14 ct14), sl14⟩) (c14 : PySem.W.codeIn K cd14 "_law_tells" = true) (k14 : PySem.W.keepIn K (.ref f14) = true)
    (a15 : PySem.W.nsIn K mainGlobals "_law_most" = some (some (.ref f15))) (l15 : K.lookup f15 = some ⟨oc15, od15, .func (PySem.W.fnOf "_law_most" "_law_most" (defArgs s_most) (defBody s_most) (defScope s_most) .none kV15 dc15 pm15 an15 cd15 ct15), sl15⟩) (c15 : PySem.W.codeIn K cd15 "_law_most" = true) (k15 : PySem.W.keepIn K (.ref f15) = true)
    (a16 : PySem.W.nsIn K mainGlobals "_law_right" = some (some (.ref f16))) (l16 : K.lookup f16 = some ⟨oc16, od16, .func (PySem.W.fnOf "_law_right" "_law_right" (defArgs s_right) (defBody s_right) (defScope s_right) .none kV16 dc16 pm16 an16 cd16 ct16), sl16⟩) (c16 : PySem.W.codeIn K cd16 "_law_right" = true) (k16 : PySem.W.keepIn K (.ref f16) = true)
    (a17 : PySem.W.nsIn K mainGlobals "law" = some (some (.ref f17))) (l17 : K.lookup f17 = some ⟨oc17, od17, .func (PySem.W.fnOf "law" "law" (defArgs s_law) (defBody s_law) (defScope s_law) .none kV17 dc17 pm17 an17 cd17 ct17), sl17⟩) (c17 : PySem.W.codeIn K cd17 "law" = true) (k17 : PySem.W.keepIn K (.ref f17) = true)
    (z0 : PySem.W.nsIn K mainGlobals "abs" = some none)
    (z1 : PySem.W.nsIn K mainGlobals "all" = some none)
    (z2 : PySem.W.nsIn K mainGlobals "bool" = some none)
    (z3 : PySem.W.nsIn K mainGlobals "dict" = some none)
    (z4 : PySem.W.nsIn K mainGlobals "enumerate" = some none)
    (z5 : PySem.W.nsIn K mainGlobals "int" = some none)
    (z6 : PySem.W.nsIn K mainGlobals "isinstance" = some none)
    (z7 : PySem.W.nsIn K mainGlobals "len" = some none)
    (z8 : PySem.W.nsIn K mainGlobals "list" = some none)
    (z9 : PySem.W.nsIn K mainGlobals "max" = some none)
    (z10 : PySem.W.nsIn K mainGlobals "min" = some none)
    (z11 : PySem.W.nsIn K mainGlobals "range" = some none)
    (z12 : PySem.W.nsIn K mainGlobals "repr" = some none)
    (z13 : PySem.W.nsIn K mainGlobals "set" = some none)
    (z14 : PySem.W.nsIn K mainGlobals "sorted" = some none)
    (z15 : PySem.W.nsIn K mainGlobals "str" = some none)
    (z16 : PySem.W.nsIn K mainGlobals "sum" = some none)
    (z17 : PySem.W.nsIn K mainGlobals "tuple" = some none)
    (z18 : PySem.W.nsIn K mainGlobals "zip" = some none) :
    ∃ fd : FuncData, (∀ (t : Shared) (v : Value), BindsTo t fd ⟨[v], []⟩ [("_law_script", v)]) ∧ ∀ base : Heap, K.In base → base.Ns mainGlobals mg → FnG l.prog w K mg base 5 fa fd ["_law_script"] (spLaw K) := by
  have e := hfa.symm.trans (PySem.W.mg_of X G a17)
  cases e
  exact ⟨(txt_mk X G a0 l0 c0 k0 a1 l1 c1 k1 a2 l2 c2 k2 a3 l3 c3 k3 a4 l4 c4 k4 a5 l5 c5 k5 a6 l6 c6 k6 a7 l7 c7 k7 a8 l8 c8 k8 a9 l9 c9 k9 a10 l10 c10 k10 a11 l11 c11 k11 a12 l12 c12 k12 a13 l13 c13 k13 a14 l14 c14 k14 a15 l15 c15 k15 a16 l16 c16 k16 a17 l17 c17 k17 z0 z1 z2 z3 z4 z5 z6 z7 z8 z9 z10 z11 z12 z13 z14 z15 z16 z17 z18).fd_law, fun t v => .of_eq rfl, fun base _ _ => ok_law (txt_mk X G a0 l0 c0 k0 a1 l1 c1 k1 a2 l2 c2 k2 a3 l3 c3 k3 a4 l4 c4 k4 a5 l5 c5 k5 a6 l6 c6 k6 a7 l7 c7 k7 a8 l8 c8 k8 a9 l9 c9 k9 a10 l10 c10 k10 a11 l11 c11 k11 a12 l12 c12 k12 a13 l13 c13 k13 a14 l14 c14 k14 a15 l15 c15 k15 a16 l16 c16 k16 a17 l17 c17 k17 z0 z1 z2 z3 z4 z5 z6 z7 z8 z9 z10 z11 z12 z13 z14 z15 z16 z17 z18)⟩

end Lh
open PySem PySem.W PyProof.Rows
set_option maxHeartbeats 0 in
theorem PySem.Challenge.cw_lesserhall_k02_what_rules_tell_holds : PySem.Challenge.rw_lesserhall_k02_what_rules_tell.Holds := by
  w_on; o_law; k_head; (case hw => w_witness2)
  k_fill
  refine Lh.walk_G (l := PySem.Challenge.rw_lesserhall_k02_what_rules_tell) (n := 63) (k := 5) (x := "_law_script") (sp := fun w => Lh.spLaw _) rfl (by decide) rfl ⟨rfl, by decide, by decide⟩ (fun w h Y => PySem.W.kIn_of Y) ?F (fun _ _ a ns hl _ hS => ⟨a, ns, rfl, hS, hl, fun _ => rfl⟩)
  case F =>
    intro w mg fa h KX G hmg
    refine' Lh.all_mk KX G hmg ?a0 ?l0 ?c0 ?k0 ?a1 ?l1 ?c1 ?k1 ?a2 ?l2 ?c2 ?k2 ?a3 ?l3 ?c3 ?k3 ?a4 ?l4 ?c4 ?k4 ?a5 ?l5 ?c5 ?k5 ?a6 ?l6 ?c6 ?k6 ?a7 ?l7 ?c7 ?k7 ?a8 ?l8 ?c8 ?k8 ?a9 ?l9 ?c9 ?k9 ?a10 ?l10 ?c10 ?k10 ?a11 ?l11 ?c11 ?k11 ?a12 ?l12 ?c12 ?k12 ?a13 ?l13 ?c13 ?k13 ?a14 ?l14 ?c14 ?k14 ?a15 ?l15 ?c15 ?k15 ?a16 ?l16 ?c16 ?k16 ?a17 ?l17 ?c17 ?k17 ?z0 ?z1 ?z2 ?z3 ?z4 ?z5 ?z6 ?z7 ?z8 ?z9 ?z10 ?z11 ?z12 ?z13 ?z14 ?z15 ?z16 ?z17 ?z18
    (case a0 => k_is); (case l0 => k_is); (case c0 => k_is); (case k0 => k_is); (case a1 => k_is); (case l1 => k_is); (case c1 => k_is); (case k1 => k_is); (case a2 => k_is); (case l2 => k_is); (case c2 => k_is); (case k2 => k_is); (case a3 => k_is); (case l3 => k_is); (case c3 => k_is); (case k3 => k_is); (case a4 => k_is); (case l4 => k_is); (case c4 => k_is); (case k4 => k_is); (case a5 => k_is); (case l5 => k_is); (case c5 => k_is); (case k5 => k_is); (case a6 => k_is); (case l6 => k_is); (case c6 => k_is); (case k6 => k_is); (case a7 => k_is); (case l7 => k_is); (case c7 => k_is); (case k7 => k_is); (case a8 => k_is); (case l8 => k_is); (case c8 => k_is); (case k8 => k_is); (case a9 => k_is); (case l9 => k_is); (case c9 => k_is); (case k9 => k_is); (case a10 => k_is); (case l10 => k_is); (case c10 => k_is); (case k10 => k_is); (case a11 => k_is); (case l11 => k_is); (case c11 => k_is); (case k11 => k_is); (case a12 => k_is); (case l12 => k_is); (case c12 => k_is); (case k12 => k_is); (case a13 => k_is); (case l13 => k_is); (case c13 => k_is); (case k13 => k_is); (case a14 => k_is); (case l14 => k_is); (case c14 => k_is); (case k14 => k_is); (case a15 => k_is); (case l15 => k_is); (case c15 => k_is); (case k15 => k_is); (case a16 => k_is); (case l16 => k_is); (case c16 => k_is); (case k16 => k_is); (case a17 => k_is); (case l17 => k_is); (case c17 => k_is); (case k17 => k_is); (case z0 => k_is); (case z1 => k_is); (case z2 => k_is); (case z3 => k_is); (case z4 => k_is); (case z5 => k_is); (case z6 => k_is); (case z7 => k_is); (case z8 => k_is); (case z9 => k_is); (case z10 => k_is); (case z11 => k_is); (case z12 => k_is); (case z13 => k_is); (case z14 => k_is); (case z15 => k_is); (case z16 => k_is); (case z17 => k_is); (case z18 => k_is)
