import PyProof.Rows.All
import Wide.All
import OpenK.AllK
import Wide.FinOn
import HandS.ForMost
import HandS.Flow
import HandS.IsInst
import HandS.Zip
import HandS.SortInts
import HandS.Defaults
import HandS.Conv
import HandS.Strs
import HandS.MakeKwOnly
import PyProof.ReprRoads
import HandS.SetFor
import HandS.SortKw
import KE.DataMinMax
import KE.KDictPairs
import PyProof.ReprLen
import HandS.Walk
import HandS.TupAny
import HandS.More
import KE.GoesMore
import PyProof.ReprBulk
import HandS.DictComp
import HandS.WordsDict
import HandS.SortRule
import KE.GoesZip
import HandS.Style
import PySem.Challenge.RW_lesserhall_k01_rules_or_not
set_option Elab.async false
set_option linter.all false
set_option maxRecDepth 100000

namespace Lh
open PySem PySem.Spec PyProof.Rows L2

/-! ### heaps -/
/-- all that was tracked is as it was, but for the box -/
def Ext (bx : Addr) (H H' : Hp) : Prop := ∀ a o, a ≠ bx → H a = some o → H' a = some o
theorem Ext.refl {bx : Addr} (H : Hp) : Ext bx H H := fun _ _ _ h => h
theorem Ext.trans {bx : Addr} {H H1 H2 : Hp} (a : Ext bx H H1) (b : Ext bx H1 H2) : Ext bx H H2 := fun x o n h => b x o n (a x o n h)
theorem Ext.of {bx : Addr} {H H' : Hp} (a : Same H H') : Ext bx H H' := fun x o _ h => a x o h
theorem Ext.new {bx : Addr} {H H' : Hp} {p : Addr} {o : HO} (e : Ext bx H H') (h : H p = none) : Ext bx H (upd H' p o) := fun x u n hx => by
  rw [upd_ne (ne_of_none hx h)]
  exact e x u n hx
theorem Ext.box {bx : Addr} {H H' : Hp} {o : HO} (e : Ext bx H H') : Ext bx H (upd H' bx o) := fun x u n hx => by
  rw [upd_ne n]
  exact e x u n hx
theorem Ext.free {bx : Addr} {H H' : Hp} (e : Ext bx H H') {l : Addr} (n : l ≠ bx) (h : H' l = Option.none) : H l = Option.none := by
  cases q : H l with
  | none => rfl
  | some o =>
    rw [e l o n q] at h
    cases h
theorem same_upd {H : Hp} {p : Addr} {o : HO} (h : H p = none) : Same H (upd H p o) := fun b x e => by
  rw [upd_ne (ne_of_none e h)]
  exact e
theorem same_mut {H H' : Hp} {p : Addr} {o : HO} (e : Same H H') (h : H p = none) : Same H (upd H' p o) := fun a u ha => by
  rw [upd_ne (ne_of_none ha h)]
  exact e a u ha

/-- the box: three ints, the last a count -/
def Box (bx : Addr) (c : Int) (H : Hp) : Prop := ∃ a b n : Int, H bx = some (.lst [.int a, .int b, .int n]) ∧ 0 ≤ a ∧ 0 ≤ b ∧ b < 2 ^ 62 ∧ 0 ≤ n ∧ n ≤ c
theorem Box.has {bx : Addr} {c : Int} {H : Hp} (h : Box bx c H) : ∃ o, H bx = some o := by
  obtain ⟨a, b, n, h, _⟩ := h
  exact ⟨_, h⟩
theorem Box.ne {bx : Addr} {c : Int} {H : Hp} (h : Box bx c H) {p : Addr} (n : H p = none) : p ≠ bx := by
  obtain ⟨o, h⟩ := h.has
  exact (ne_of_none h n).symm
theorem Box.neT {bx : Addr} {c : Int} {H : Hp} (h : Box bx c H) {p : Addr} {xs : List V} (n : H p = some (.tup xs)) : p ≠ bx := by
  obtain ⟨a, b, n', h, _⟩ := h
  exact ne_of n h (by intro z; cases z)
theorem Box.mono {bx : Addr} {c d : Int} {H : Hp} (h : Box bx c H) (e : c ≤ d) : Box bx d H := by
  obtain ⟨a, b, n, h, h1, h2, h3, h4, h5⟩ := h
  exact ⟨a, b, n, h, h1, h2, h3, h4, by omega⟩
theorem Box.same {bx : Addr} {c : Int} {H H' : Hp} (h : Box bx c H) (e : Same H H') : Box bx c H' := by
  obtain ⟨a, b, n, h, r⟩ := h
  exact ⟨a, b, n, e _ _ h, r⟩
theorem Box.new {bx : Addr} {c : Int} {H : Hp} (h : Box bx c H) {p : Addr} {o : HO} (n : H p = none) : Box bx c (upd H p o) := h.same (same_upd n)
theorem Box.at {bx : Addr} {c : Int} {H : Hp} (h : Box bx c H) {p : Addr} {o : HO} (n : p ≠ bx) : Box bx c (upd H p o) := by
  obtain ⟨a, b, m, h, r⟩ := h
  exact ⟨a, b, m, by rw [upd_ne n.symm]; exact h, r⟩

/-- a tuple, one whose object is known to bear no names among them -/
def TupAt (H : Hp) (a : Addr) (xs : List V) : Prop := H a = some (.tup xs) ∨ ∃ o : Obj, o.dict = none ∧ H a = some (.frz o (.tup xs))
theorem TupAt.sq {K : PySem.W.Frag} {H : Hp} {a : Addr} {xs : List V} (h : TupAt H a xs) : SqT K H a xs := by
  rcases h with h | ⟨o, _, h⟩
  · exact .inl (.inl h)
  · exact .inl (.inr ⟨o, h⟩)
theorem TupAt.ext {bx : Addr} {H H' : Hp} {a : Addr} {xs : List V} (e : Ext bx H H') (n : a ≠ bx) (h : TupAt H a xs) : TupAt H' a xs := by
  rcases h with h | ⟨o, d, h⟩
  · exact .inl (e _ _ n h)
  · exact .inr ⟨o, d, e _ _ n h⟩
theorem TupAt.ty {K : PySem.W.Frag} {H : Hp} {a : Addr} {xs : List V} (h : TupAt H a xs) : TyX K H (.ref a) (.type "tuple") := by
  rcases h with h | ⟨o, d, h⟩
  · exact .base (.tup h)
  · exact .fTuple h
/-! data in the heap, the box not among it -/
mutual
inductive Rp (bx : Addr) (H : Hp) : V → PyData → Prop
  | non : Rp bx H .non .none
  | bl (b : Bool) : Rp bx H (.bl b) (.bool b)
  | int (i : Int) : Rp bx H (.int i) (.int i)
  | str (x : Str) : Rp bx H (.str x) (.str x)
  | lst {a : Addr} {xs : List V} {ds : List PyData} : H a = some (.lst xs) → a ≠ bx → RpAll bx H xs ds → Rp bx H (.ref a) (.list ds)
  | tup {a : Addr} {xs : List V} {ds : List PyData} : TupAt H a xs → a ≠ bx → RpAll bx H xs ds → Rp bx H (.ref a) (.tuple ds)
inductive RpAll (bx : Addr) (H : Hp) : List V → List PyData → Prop
  | nil : RpAll bx H [] []
  | cons {v : V} {vs : List V} {d : PyData} {ds : List PyData} : Rp bx H v d → RpAll bx H vs ds → RpAll bx H (v :: vs) (d :: ds)
end
mutual
theorem Rp.ext {bx : Addr} {H H' : Hp} (e : Ext bx H H') : ∀ {v : V} {d : PyData}, Rp bx H v d → Rp bx H' v d
  | _, _, .non => .non
  | _, _, .bl b => .bl b
  | _, _, .int i => .int i
  | _, _, .str x => .str x
  | _, _, .lst h n r => .lst (e _ _ n h) n (RpAll.ext e r)
  | _, _, .tup h n r => .tup (h.ext e n) n (RpAll.ext e r)
theorem RpAll.ext {bx : Addr} {H H' : Hp} (e : Ext bx H H') : ∀ {vs : List V} {ds : List PyData}, RpAll bx H vs ds → RpAll bx H' vs ds
  | _, _, .nil => .nil
  | _, _, .cons h r => .cons (Rp.ext e h) (RpAll.ext e r)
end
mutual
theorem Rp.dp {bx : Addr} {K : PySem.W.Frag} {H : Hp} : ∀ {v : V} {d : PyData}, Rp bx H v d → Dp K H v d
  | _, _, .non => .non
  | _, _, .bl b => .bl b
  | _, _, .int i => .int i
  | _, _, .str x => .str x
  | _, _, .lst h n r => .lst (.inl (.inl h)) (RpAll.dp r)
  | _, _, .tup h n r => .tup h.sq (RpAll.dp r)
theorem RpAll.dp {bx : Addr} {K : PySem.W.Frag} {H : Hp} : ∀ {vs : List V} {ds : List PyData}, RpAll bx H vs ds → DpAll K H vs ds
  | _, _, .nil => .nil
  | _, _, .cons h r => .cons (Rp.dp h) (RpAll.dp r)
end
theorem RpAll.length {bx : Addr} {H : Hp} : ∀ {vs : List V} {ds : List PyData}, RpAll bx H vs ds → vs.length = ds.length
  | _, _, .nil => rfl
  | _, _, .cons _ r => by rw [List.length_cons, List.length_cons, r.length]
theorem RpAll.get {bx : Addr} {H : Hp} : ∀ {vs : List V} {ds : List PyData} {i : Nat} {d : PyData}, RpAll bx H vs ds → ds[i]? = some d → ∃ v, vs[i]? = some v ∧ Rp bx H v d
  | _, _, _, _, .nil, e => by simp at e
  | _, _, 0, _, .cons r _, e => by simp at e; subst e; exact ⟨_, rfl, r⟩
  | _, _, i + 1, d, .cons _ t, e => by
    obtain ⟨u, h1, h2⟩ := RpAll.get (i := i) (d := d) t (by simpa using e)
    exact ⟨u, by simpa using h1, h2⟩
theorem RpAll.append {bx : Addr} {H : Hp} : ∀ {vs ws : List V} {ds es : List PyData}, RpAll bx H vs ds → RpAll bx H ws es → RpAll bx H (vs ++ ws) (ds ++ es)
  | _, _, _, _, .nil, s => s
  | _, _, _, _, .cons r t, s => .cons r (RpAll.append t s)
theorem RpAll.ints {bx : Addr} {H : Hp} : ∀ (ns : List Int), RpAll bx H (ns.map V.int) (ns.map PyData.int)
  | [] => .nil
  | n :: r => .cons (.int n) (RpAll.ints r)
theorem RpAll.ofInts {bx : Addr} {H : Hp} : ∀ {ns : List Int} {vs : List V}, RpAll bx H vs (ns.map PyData.int) → vs = ns.map V.int
  | [], _, .nil => rfl
  | n :: r, _, .cons (.int _) t => by rw [RpAll.ofInts t]; rfl
end Lh

namespace Lh
open PySem PySem.Spec PyProof.Rows L2

/-! ### defs that want to know that no repr is under way around them -/
structure FnG (P : Program) (w : World) (K : PySem.W.Frag) (mg : Str → Option Value) (base : Heap) (k : Nat) (f : Addr) (fd : FuncData) (ps : List Str) (sp : Sp) : Prop where
  len : ∀ vs H Q E, sp vs H Q E → vs.length = ps.length
  run : ∀ (B : Around) (out : List Env) (t : Shared) (H : Hp) (args : Args) (us : List Value) (vs : List V) (Q : VK) (E : XK), Room k B → B.guards = some [] →
    Env0 P w K mg base B out t H → BindsTo t fd args (ps.zip us) → Vals vs us → sp vs H Q E → codeAny (model P w) B (.call (.ref f) args) (CR CX0 out P w H t Q E) t
section
variable {P : Program} {w : World} {K : PySem.W.Frag} {mg : Str → Option Value} {base : Heap}
theorem okG {x qual : Str} {st : Stmt} {f : Addr} {fd : FuncData} {N ps : List Str} {k : Nat} {sp : Sp} (F : Fun K x qual st f fd) (S : FnScope N ps (defScope st)) (len : ∀ vs H Q E, sp vs H Q E → vs.length = ps.length)
    (body : ∀ (cd : Value) (B : Around) (out : List Env) (t : Shared) (H : Hp) (vs : List V) (Q : VK) (E : XK), Room k (B.deeper (envOfC qual (defScope st) t.heap.objs.size f cd)) →
      (B.deeper (envOfC qual (defScope st) t.heap.objs.size f cd)).guards = some [] → sp vs H Q E →
      ∃ r, PSs (cxOf CX0 P w K mg base N qual (defScope st) f cd B out t H E).nox (defBody st) r ∧ r { nx := fun _ H' => Q .non H', rt := Q } (start N vs) H) : FnG P w K mg base (k + 1) f fd ps sp := by
  obtain ⟨oc, od, kV, doc, pm, an, cd, ct, osl, rfl, lk, hcd⟩ := F.ex
  refine ⟨len, fun B out t H args us vs Q E hr hG e0 hb r hsp => ?_⟩
  have hl := len _ _ _ _ hsp
  have kx : K.In t.heap := e0.mod.kin.keeps fun b o e => (e0.bs b o e).1
  have li : t.heap.NoLimit := e0.mod.nolimit.keeps fun b o e => (e0.bs b o e).1
  have kind : ∀ y ∈ ps.zip us, (defScope st).names.lookup y.1 = some .local ∨ ((defScope st).names.lookup y.1 = some .cell ∧ ((cellsFrom (t.heap.objs.size + 1) (defScope st).names []).lookup y.1).isSome = true) := by
    rintro ⟨n, v⟩ hy
    rcases S.par n (List.of_mem_zip hy).1 with q | q
    · exact .inl q
    · exact .inr ⟨q, PySem.W.cellsFrom_some _ _ _ (.inl q)⟩
  refine codeAny_call_function hr.depth (kx _ _ lk) rfl S.co S.gen rfl (PySem.W.codeRec_of kx hcd) (hb _ _ _ _ ?_)
  refine wpAny_newFunctionEnv_cells S.kind kind fun env he t1 x => ?_
  subst he
  refine ⟨li.keeps x.toInCall.keep, codeAny_func ?_⟩
  obtain ⟨rd, h0, hq⟩ := body cd B out t H vs Q E (hr.deeper _) hG hsp
  have hrd := h0.nox
  have I : Inv (cxOf CX0 P w K mg base N qual (defScope st) f cd B out t H E) [] (start N vs) H t1 := inv_start S hr.hd e0 hl r x
  refine wpAny_mono (hrd.run [] t1 (start N vs) H _ I hq) (fun fl t' hs => ?_) fun e t' hs => hs
  have fin : ∀ {σ' : L2.St} {H' : Hp} {v : V} {u : Value}, Inv (cxOf CX0 P w K mg base N qual (defScope st) f cd B out t H E) [] σ' H' t' → RelV v u → Q v H' → CE out P w H t Q u t' := by
    intro σ' H' v u J rv q
    exact ⟨v, H', J.os, J.bare, J.base, J.hok, rv, q⟩
  cases fl with
  | ret u =>
    obtain ⟨v, σ', H', J, rv, q⟩ := hs
    exact fin J rv q
  | next =>
    obtain ⟨σ', H', J, q⟩ := hs
    exact fin (v := V.non) (u := Value.none) J rfl q
  | brk => obtain ⟨_, _, _, q⟩ := hs; exact False.elim q
  | cont => obtain ⟨_, _, _, q⟩ := hs; exact False.elim q
end
section
variable {X : Cx} {k n : Nat} {f : Addr} {fd : FuncData} {ps ks : List Str} {sp : Sp} {x : Str} {p pos : Pos} {e : Expr} {es : List Expr} {kws : List Keyword} {t tk : TA} {g : List Value → List Value → List Value} {gV : List V → List V → List V}
theorem pe_callG (F : FnG X.prog X.w X.K X.mg X.base k f fd ps sp) (hr : Room k X.A) (hG : X.A.guards = some []) (hg : Gl X x) (hm : X.mg x = some (.ref f)) (hk : PySem.W.keepIn X.K (.ref f) = true) (hb : Binds X.K fd ps [])
    (ha : PA X (e :: es) t) (hdb : (x == ("__debug__" : Str)) = false := by decide) (he : starEach (e :: es) X.env = (false, eval e X.env) :: starEach es X.env := by rfl) (hpl : (backTo pos (starEach es X.env)).any (·.1) = false := by rfl) :
    PE X (.Call (.Name x p) (e :: es) [] pos) (tCall sp [] E0 t) := by
  refine ⟨fun pins s σ H Q I h => ?_⟩
  refine wpAny_Call_Name_kw (ld_glob I hg hm ?_ hdb)
  refine PySem.W.callWith_K (h₀ := X.base) I.ok.mod.kin hk (thn (ha.run pos pins s σ H _ I h) fun us s1 ⟨vs, H1, I1, r, q⟩ => ⟨I1.kIn, ?_⟩) he hpl
  have r2 : Vals (vs ++ []) (us ++ []) := r.append .nil
  have hl : (us ++ []).length = ps.length := by rw [← r2.length]; exact F.len _ _ _ _ q
  refine wpAny_call (codeAny_mono (F.run X.A X.stack s1 H1 ⟨us, []⟩ (us ++ []) (vs ++ []) Q E0 hr hG I1.env0 (hb s1 us I1.kIn hl) r2 q) fun r s' hq => ?_)
  cases r with
  | error e => exact False.elim hq
  | ok fl =>
    cases fl with
    | ret u => exact I1.after hq
    | next => exact False.elim hq
    | brk => exact False.elim hq
    | cont => exact False.elim hq
/-- f(k = v, ..): keywords alone -/
theorem pe_callN0 (F : FnOk X.prog X.w X.K X.mg X.base CX0 k f fd ps sp) (hr : Room k X.A) (hg : Gl X x) (hm : X.mg x = some (.ref f)) (hk : PySem.W.keepIn X.K (.ref f) = true) (hb : KBn X.K fd ps 0 ks g gV)
    (hkw : PK X kws tk) (hall : (backToKw pos (keywordEach kws X.env)).all (·.1.isSome) = true := by rfl) (hks : (backToKw pos (keywordEach kws X.env)).filterMap (·.1) = ks := by rfl)
    (hdb : (x == ("__debug__" : Str)) = false := by decide)
    (hpl : ((backTo pos (starEach [] X.env)).any (·.1) || (backToKw pos (keywordEach kws X.env)).any (·.1.isNone)) = false := by rfl) :
    PE X (.Call (.Name x p) [] kws pos) (tCallN 0 ks.length sp gV E0 tNil tk) := by
  refine ⟨fun pins s σ H Q I h => ?_⟩
  refine wpAny_Call_Name_kw (ld_glob I hg hm ?_ hdb)
  refine PySem.W.callWith_KW0 (h₀ := X.base) I.ok.mod.kin hk hall ?_ hpl
  refine thn (hkw.run pos pins s σ H _ I h) fun ws s2 ⟨zs, H2, I2, rz, l1, l2, q2⟩ => ⟨I2.kIn, ?_⟩
  rw [hks]
  exact run_fnN (us := []) (vs := []) F hr hb pass0 I2 .nil rz rfl l2 q2
end
/-- values put in another order -/
def permV {α : Type} (js : List Nat) (xs : List α) : List α := js.filterMap fun j => xs[j]?
theorem permV_rel (js : List Nat) : ∀ {vs : List V} {us : List Value}, Vals vs us → Vals (permV js vs) (permV js us) := by
  intro vs us r
  induction js with
  | nil => exact .nil
  | cons j js ih =>
    unfold permV
    rw [List.filterMap_cons, List.filterMap_cons]
    cases e : vs[j]? with
    | none =>
      rw [r.none_of e]
      exact ih
    | some v =>
      obtain ⟨u, e1, e2⟩ := r.get e
      rw [e1]
      exact .cons e2 ih

/-! ### the law's call -/
theorem law_callG {P : Program} {w : World} {K : PySem.W.Frag} {mg mb : Str → Option Value} {k : Nat} {fa a : Addr} {fd : FuncData} {x : Str} {sp : Sp} {t : Shared} {vs : List Value} {ns : List Int}
    (kx : K.In t.heap) (hns : t.heap.Ns mainGlobals mg) (hb : t.heap.Ns builtinsNs mb) (hbb : ∀ x : Str, x ≠ "__name__" → mb x = bootBuiltins x) (li : t.heap.NoLimit) (hg : t.gens = #[])
    (ha : t.heap.get? a = some { cls := .type "list", data := .seq vs.toArray }) (hi : IntsAre vs ns) (hl : ns.length ≤ sizeLine) (hr : Room k callerA)
    (F : ∀ base : Heap, K.In base → base.Ns mainGlobals mg → FnG P w K mg base k fa fd [x] sp) (bd : ∀ (s : Shared) (u : Value), BindsTo s fd ⟨[u], []⟩ [(x, u)])
    (hsp : ∀ H : Hp, Only H → SqL K H a (ns.map V.int) → sp [.ref a] H (fun v _ => v = .bl true) fun _ _ _ => False) :
    codeAny (model P w) callerA (.call (.ref fa) ⟨[.ref a], []⟩) (fun r t' => r = .ok (.ret (.bool true)) ∧ OldK t.heap t'.heap ∧ t'.os = t.os ∧ AllBare t'.gens) t := by
  have rv := vals_ints hi
  have lenV := hi.length
  have core : ∀ H : Hp, Only H → SqL K H a (ns.map V.int) → HOk P w H t.heap → (∀ b, H b ≠ none → b = a) → (H a ≠ none → K.lookup a = none) →
      codeAny (model P w) callerA (.call (.ref fa) ⟨[.ref a], []⟩) (fun r t' => r = .ok (.ret (.bool true)) ∧ OldK t.heap t'.heap ∧ t'.os = t.os ∧ AllBare t'.gens) t := by
    intro H hO hS ok hA hK
    have bo : ∀ {b : Addr} {o : Obj}, t.heap.get? b = some o → H b = none → (hidT t.heap H).get? b = some o := fun e n => hidT_get e n
    have nd : ∀ {b : Addr} {o : Obj} {es : Array DictEntry} {ep : Nat}, t.heap.get? b = some o → o.data = .dict es ep → H b = none := by
      intro b o es ep e d
      cases q : H b with
      | none => rfl
      | some u =>
        have e' : b = a := hA b (by rw [q]; simp)
        subst e'
        rw [ha] at e; cases e
        have d2 : Data.seq vs.toArray _ = Data.dict es ep := d
        cases d2
    have nk : ∀ {b : Addr} {m : Str → Option Value}, t.heap.Ns b m → (hidT t.heap H).Ns b m := by
      rintro b m ⟨o, es, ep, e, d, r⟩
      exact ⟨o, es, ep, bo e (nd e d), d, r⟩
    have kb : K.In (hidT t.heap H) := by
      intro b o e
      refine bo (kx b o e) ?_
      cases q : H b with
      | none => rfl
      | some u =>
        have e' : b = a := hA b (by rw [q]; simp)
        subst e'
        rw [hK (by rw [q]; simp)] at e; cases e
    have hM : Mod K mg (hidT t.heap H) := by
      obtain ⟨mc, h1, h2⟩ := li
      exact ⟨kb, nk hns, ⟨mb, nk hb, hbb⟩, ⟨mc, nk h1, h2⟩⟩
    have e0 : Env0 P w K mg (hidT t.heap H) callerA [] t H := by
      refine ⟨rfl, hM, fun b o e => of_hidT e, Nat.le_of_eq (hidT_size _ _), trivial, ?_, ok, .of_eq hg⟩
      intro b hb
      exact absurd (show b ∈ ([] : List Addr) from hb) (by simp)
    refine codeAny_mono ((F _ kb (nk hns)).run callerA [] t H ⟨[.ref a], []⟩ [.ref a] [.ref a] _ _ hr rfl e0 (bd t (.ref a)) (.cons rfl .nil) (hsp H hO hS)) ?_
    intro r t' h
    cases r with
    | error e => exact False.elim h
    | ok fl =>
      cases fl with
      | next => exact False.elim h
      | brk => exact False.elim h
      | cont => exact False.elim h
      | ret u =>
        obtain ⟨v, H', os, bare, un, ok', r', q⟩ := h
        have q2 : v = .bl true := q
        subst q2
        obtain rfl : u = Value.bool true := r'
        refine ⟨rfl, OldK.of_keep fun b o e => ?_, os, bare⟩
        cases q : H b with
        | none =>
          refine un.keep b o e q ?_ (by simp)
          intro z
          exact absurd (show b ∈ ([] : List Addr) from z) (by simp)
        | some u =>
          rcases hO b with z | ⟨ob, xs, z⟩
          · rw [q] at z; cases z
          · have z2 := un.frzs b ob _ z
            obtain ⟨e1, _⟩ := ok b _ z
            obtain ⟨e2, _⟩ := ok' b _ z2
            rw [e] at e1; cases e1
            exact e2
  cases hk : K.lookup a with
  | some o =>
    have e := kx a o hk
    rw [ha] at e
    cases e
    refine core (fun _ => none) (fun _ => .inl rfl) (.inr ⟨_, vs.toArray, _, hk, rfl, rfl, rfl, by rw [List.size_toArray, lenV]; exact hl, by simpa using rv⟩) ?_ (fun b z => absurd rfl z) fun z => absurd rfl z
    intro b u z
    have z2 : (none : Option HO) = some u := z
    cases z2
  | none =>
    refine core (fun b => if b = a then some (.frz { cls := .type "list", data := .seq vs.toArray } (.lst (ns.map V.int))) else none) (fun b => ?_) (.inl (.inr ⟨_, if_pos rfl⟩)) (fun b u z => ?_) (fun b z => ?_) fun _ => hk
    · by_cases hb : b = a
      · exact .inr ⟨_, _, if_pos hb⟩
      · exact .inl (if_neg hb)
    · by_cases hb : b = a
      · have z2 := (if_pos hb).symm.trans z
        cases z2
        subst hb
        exact ⟨ha, by rw [List.length_map]; exact hl, vs, _, rv, ha⟩
      · have z2 := (if_neg hb).symm.trans z
        cases z2
    · by_cases hb : b = a
      · exact hb
      · exact absurd (if_neg hb) z
theorem walk_G {l : PySem.W.OpenLaw} {n k : Nat} {q : Program} {loose : List Str} {XP : (Str → Option Value) → Heap → Prop} {YP : World → Heap → Prop} {d : DefRec} {K : Params → PySem.W.Frag} {sp : World → Sp} {x : Str}
    (hn : l.most = some n) (hn2 : n ≤ sizeLine) (hdf : d.params.defaults = []) (hr : Room k callerA)
    (hY : ∀ (w : World) (h : Heap), YP w h → (K w.params).In h)
    (F : ∀ (w : World) (mg : Str → Option Value) (fa : Addr) (h : Heap), (K w.params).In h → h.Ns mainGlobals mg → mg d.name = some (.ref fa) →
      ∃ fd : FuncData, (∀ (s : Shared) (u : Value), BindsTo s fd ⟨[u], []⟩ [(x, u)]) ∧
        ∀ base : Heap, (K w.params).In base → base.Ns mainGlobals mg → FnG l.prog w (K w.params) mg base k fa fd [x] (sp w))
    (hsp : ∀ (w : World) (H : Hp) (a : Addr) (ns : List Int), ns.length ≤ n → Only H → SqL (K w.params) H a (ns.map V.int) → sp w [.ref a] H (fun v _ => v = .bl true) fun _ _ _ => False) :
    PySem.W.WalkO q loose XP YP l.row.toRowW d [] (fun f vs => PySem.call f vs) := by
  refine Att.attach_call hn hdf ?_
  intro w s₀ t mg mb fa o pm cd doc a vs ns G Y ho hd hcd hmg hobj hints hlen hg
  obtain ⟨fd, hb, hF⟩ := F w mg fa _ (hY w _ Y) G.T.g hmg
  exact law_callG (hY w _ Y) G.T.g G.T.b G.T.builtins G.T.nolimit hg hobj hints (Nat.le_trans hlen hn2) hr hF hb (fun H hO hS => hsp w H a ns hlen hO hS)
end Lh

namespace Lh
open PySem PySem.Spec PyProof.Rows L2
/-! ### set(numbers), numbers a list -/
/-- a set as it is first laid -/
abbrev bareSet (w : World) : Obj := { cls := .type "set", dict := none, data := .set #[] 0 (.fresh 0 0 (!w.params.followText "set-order")) }
/-- the set at the heap's end holds just ns, all else is kept -/
def Filled (w : World) (s t : Shared) (ns : List Int) : Prop := ∃ (g : Heap) (tk c : Nat), t = { s with heap := g, toks := tk } ∧ SetR w g s.heap.objs.size (fun j => decide (j ∈ ns)) c ∧ c ≤ ns.length ∧ ∀ b o, s.heap.get? b = some o → g.get? b = some o
theorem ints_at : ∀ {us : List Value} {ns : List Int}, IntsAre us ns → us.length = ns.length ∧ ∀ (i : Nat) (v : Value), us[i]? = some v → ∃ k t, ns[i]? = some k ∧ v = .int k t
  | _, _, .nil => ⟨rfl, fun i v e => absurd e (by simp)⟩
  | _, _, .cons n t r => by
    obtain ⟨h1, h2⟩ := ints_at r
    refine ⟨congrArg (· + 1) h1, fun i v e => ?_⟩
    cases i with
    | zero => exact ⟨n, t, rfl, (Option.some.inj e).symm⟩
    | succ i => exact h2 i v e
section
variable {P : Program} {w : World} {A : Around} {E : Value → Shared → Prop} {s : Shared} {l : Addr} {items : Array Value} {ns : List Int}
set_option maxHeartbeats 3200000 in
theorem set_init (hh : A.handled = none) (hl : s.heap.IsList l items) (hi : IntsAre items.toList ns) (hb : ns.length + 1 < scanBound) :
    codeAny (model P w) A (.call (.builtin "set.__init__") ⟨[.ref s.heap.objs.size, .ref l], []⟩) (wants (fun r t => r = .none ∧ Filled w s t ns) E) { s with heap := s.heap.push (bareSet w) } := by
  obtain ⟨hsz, hat⟩ := ints_at hi
  rw [Array.length_toList] at hsz
  have top : (s.heap.push (bareSet w)).get? s.heap.objs.size = some (bareSet w) := Heap.get?_push_size _ rfl
  refine codeAny_call_builtin F.called_set.init.plain F.entry_set_init (check_set_init_1 ⟨_, top, rfl⟩ ?_)
  have hl0 := hl
  obtain ⟨⟨k, dc, da, sl⟩, ho, ek, n, ed⟩ := hl
  dsimp only at ek ed
  subst ek ed
  have lt := Heap.lt_size ho
  have ho2 : (s.heap.push (bareSet w)).get? l = _ := Heap.get?_push_of_some _ ho
  have f1 := F.sub_list_set
  have f2 := F.sub_list_frozenset
  have f3 : (Value.type "list" == Value.type "dict") = false := by decide
  unfold Builtin.«set.__init__»
  unfold noKeywords
  unfold Builtin.Frozenset.updateFrom
  generalize ei : pyIter = it
  wp_walk
  subst ei
  have sz : (s.heap.push (bareSet w)).objs.size = s.heap.objs.size + 1 := Heap.size_push ..
  refine wpAny_pyIter_list (hl0.push _) (wpAny_bind (wpAny_runValue ?_))
  have wk := fun (B : Around) (hB : B.handled = none) => (Walks.list (prog := P) (w := w) (A := B) hB (s.heap.push (bareSet w)).objs.size l (by rw [sz]; exact Nat.ne_of_lt (Nat.lt_succ_of_lt lt)) items).toS
  refine set_update_ints (wk _ (by simp [hh])) s.heap.objs.size (by rw [sz]; exact fun z => (List.mem_cons.mp z).elim (Nat.ne_of_lt (Nat.lt_succ_self _)) fun z => Nat.ne_of_gt lt (List.mem_singleton.mp z)) ns hsz hb (fun i v e => hat i v (by rw [Array.getElem?_toList]; exact e)) items.size 0 _ (by omega) (Nat.zero_le _) ⟨⟨_, Heap.get?_push_size _ rfl, rfl, rfl⟩, (hl0.push _).push _⟩ ⟨0, Nat.le_refl 0, setR_new_at (Heap.get?_push_of_some _ top)⟩ ?_
  rintro ⟨g, g2, d2, tk, o2⟩ c mv hc R
  cases (show g2 = s.gens from mv.gens)
  cases (show d2 = s.drawn from mv.drawn)
  cases (show o2 = s.os from mv.os)
  refine wpAny_pure (show wpAny _ _ (ret Value.none) _ _ _ from wpAny_pure ⟨rfl, g, tk, c, rfl, R, by omega, fun b o e => ?_⟩)
  have lb := Heap.lt_size e
  exact mv.heap b o (by rw [sz]; exact fun z => (List.mem_cons.mp z).elim (Nat.ne_of_lt lb) fun z => Nat.ne_of_lt (Nat.lt_succ_of_lt lb) (List.mem_singleton.mp z)) (Heap.get?_push_of_some _ (Heap.get?_push_of_some _ e))
set_option maxHeartbeats 3200000 in
theorem set_of_list (ns : List Int) {Q : Value → Shared → Prop} (hh : A.handled = none) (hl : s.heap.IsList l items) (hi : IntsAre items.toList ns) (hb : ns.length + 1 < scanBound) (q : ∀ t, Filled w s t ns → Q (.ref s.heap.objs.size) t) :
    wpAny (model P w) A (call (.type "set") [.ref l]) Q E s := by
  have c1 := F.called_set.made
  have c2 := F.called_set.sub
  have c3 := F.called_set.notType
  have c4 := F.called_set.canCreate
  have c5 := F.typeCall_set_1 (.ref l)
  have c6 := F.called_set.init.lookup
  have c7 := F.called_set.init.bind (.ref s.heap.objs.size)
  obtain ⟨m1, m2, c8⟩ := F.called_set.mro
  refine wpAny_call (codeAny_of_tree (show wpAny _ _ (callAny (.type "set") _) _ _ _ from wpAny_pure ⟨Code.quiet_builtin _ (by decide +kernel), codeAny_builtin F.entry_type_call ?_⟩))
  rw [Around.under_plain (weight_type_call_type "set" [.ref l] []) rfl]
  repeat any_goals first | assumption | wp_step
  refine codeAny_mono (code_set_led1 (.ref l) (E := E) (Q₁ := fun x t => x = .ref s.heap.objs.size ∧ t = { s with heap := s.heap.push (bareSet w) }) ⟨rfl, rfl⟩) ?_
  rintro (e | fl) t ht
  · exact ht
  cases fl with
  | next => exact ht.elim
  | brk => exact ht.elim
  | cont => exact ht.elim
  | ret x =>
    obtain ⟨rfl, rfl⟩ := ht
    have ty : Shared.TypeIs { s with heap := s.heap.push (bareSet w) } (.ref s.heap.objs.size) "set" := ⟨_, Heap.get?_push_size _ rfl, rfl⟩
    repeat any_goals first | assumption | wp_step
    refine codeAny_mono (set_init (E := E) (by simp [hh]) hl hi hb) ?_
    rintro (e | fl) t2 ht2
    · exact ht2
    cases fl with
    | next => exact ht2.elim
    | brk => exact ht2.elim
    | cont => exact ht2.elim
    | ret y =>
      obtain ⟨rfl, f⟩ := ht2
      repeat any_goals first | assumption | wp_step
      exact q _ f
end
end Lh

namespace Lh
open PySem PySem.Spec PyProof.Rows L2
section
variable {X : Cx}
/-- repr of data -/
def rRepr (K : PySem.W.Frag) : List V → Hp → VK → Prop := fun xs H Q => ∃ (a : Addr) (d : PyData), xs = [.ref a] ∧ Dp K H (.ref a) d ∧ d.showable = true ∧ d.hasDict = false ∧ d.depth ≤ 60 ∧ d.shown.length ≤ sizeLine ∧ Q (.str d.shown) H
theorem call_reprD (hG : X.A.guards = some []) (hu : X.A.units + 64 < cLine) : CallR X (.builtin "repr") (rRepr X.K) := by
  intro pins s σ H xs us Q I r h
  obtain ⟨a, d, rfl, hd, h1, h2, h3, h4, q⟩ := h
  have e := Vals.ref1 r
  subst e
  obtain ⟨as, rd⟩ := Dp.reads I d (.ref a) (.ref a) hd rfl
  exact repr_of_reads' rd h1 (fun z => by rw [h2] at z; cases z) hG (by omega) (fun b o e => e) (fun h' u tk hk => ⟨.str d.shown, H, I.kept hk, ⟨u, rfl⟩, q⟩) h4
/-- max(numbers, default=d) of a list of ints -/
def rMaxD (K : PySem.W.Frag) : List V → List V → Hp → VK → Prop := fun xs zs H Q => ∃ (a : Addr) (ns : List Int) (d : Int), xs = [.ref a] ∧ zs = [.int d] ∧ SqL K H a (ns.map V.int) ∧
  ∀ m, (ns = [] → m = d) → (ns ≠ [] → m ∈ ns ∧ ∀ y ∈ ns, y ≤ m) → Q (.int m) H
theorem foldl_max (ns : List Int) : ∀ n : Int, (ns.foldl max n = n ∨ ns.foldl max n ∈ ns) ∧ n ≤ ns.foldl max n ∧ ∀ y ∈ ns, y ≤ ns.foldl max n := by
  induction ns with
  | nil => intro n; exact ⟨.inl rfl, Int.le_refl _, fun y h => absurd h (by simp)⟩
  | cons m r ih =>
    intro n
    obtain ⟨h1, h2, h3⟩ := ih (max n m)
    rw [List.foldl_cons]
    refine ⟨?_, by omega, fun y hy => ?_⟩
    · rcases h1 with h1 | h1
      · by_cases c : n ≤ m
        · right; rw [h1]; rw [Int.max_eq_right c]; exact List.mem_cons_self
        · left; rw [h1]; omega
      · right; exact List.mem_cons_of_mem _ h1
    · rcases List.mem_cons.mp hy with rfl | hy
      · omega
      · exact h3 y hy
theorem cr_maxD (hc : X.calm = true) (hu : X.A.units + 64 < cLine) : CallRK X (.builtin "max") [Str.ofString "default"] (rMaxD X.K) := by
  intro pins s σ H xs zs us ws Q I r rz h
  obtain ⟨a, ns, d, rfl, rfl, hs, q⟩ := h
  obtain ⟨its, rv, hl, _⟩ := I.list hs
  rw [Vals.ref1 r]
  cases rz with
  | cons rd rt =>
    cases rt
    obtain ⟨td, rfl⟩ := rd
    obtain ⟨as, ra⟩ := Dp.readsAll I (ns.map PyData.int) _ its (RpAll.dp (bx := 0) (RpAll.ints ns)) rv
    have dpt : ∀ l : List Int, PyData.depthAll (l.map PyData.int) = 0 := fun l => by
      induction l with
      | nil => rfl
      | cons x r ih => rw [List.map_cons]; show max 0 (PyData.depthAll (r.map PyData.int)) = 0; rw [ih]; rfl
    refine PySem.W.max_list_default (I.ok.hd hc) hl.isList (vs := its.toArray) (xs := ns.map PyData.int) (by simpa using ra) ⟨fun x hx y hy => ?_, fun x hx => ?_⟩ (by rw [dpt]; omega) (fun e h' tk hk => ?_) (fun y ys i v h' tk bs e hv rd hk => ?_)
    · obtain ⟨i, _, rfl⟩ := List.mem_map.mp hx
      obtain ⟨j, _, rfl⟩ := List.mem_map.mp hy
      rfl
    · obtain ⟨i, _, rfl⟩ := List.mem_map.mp hx
      intro z; cases z
    · have e0 : ns = [] := List.map_eq_nil_iff.mp e
      exact ⟨.int d, H, I.kept hk, ⟨_, rfl⟩, q d (fun _ => rfl) (fun z => absurd e0 z)⟩
    · cases ns with
      | nil => cases e
      | cons n r =>
        rw [List.map_cons] at e
        cases e
        rw [PySem.W.maxD_ints] at rd
        cases rd
        obtain ⟨h1, h2, h3⟩ := foldl_max r n
        refine ⟨.int (r.foldl max n), H, I.kept hk, ⟨_, rfl⟩, q _ (fun z => by cases z) (fun _ => ⟨?_, fun y hy => ?_⟩)⟩
        · rcases h1 with h1 | h1
          · rw [h1]; exact List.mem_cons_self
          · exact List.mem_cons_of_mem _ h1
        · rcases List.mem_cons.mp hy with rfl | hy
          · exact h2
          · exact h3 y hy
/-- set(numbers) of a list of ints -/
def rSetL (K : PySem.W.Frag) (w : World) : List V → Hp → VK → Prop := fun xs H Q => ∃ (a : Addr) (ns : List Int), xs = [.ref a] ∧ SqL K H a (ns.map V.int) ∧ ns.length ≤ 1000 ∧
  ∀ (p : Addr) (c : Nat) (ks : List Int), H p = none → ks.Nodup → ks.length = c → c ≤ ns.length → (∀ k, k ∈ ks ↔ k ∈ ns) → Q (.ref p) (upd H p (SetO w p (fun j => decide (j ∈ ns)) c))
theorem cr_setL (hc : X.calm = true) : CallR X (.type "set") (rSetL X.K X.w) := by
  intro pins s σ H xs us Q I r h
  obtain ⟨a, ns, rfl, hs, hl, q⟩ := h
  obtain ⟨its, rv, pl, _⟩ := I.list hs
  rw [Vals.ref1 r]
  refine set_of_list ns (I.ok.hd hc) pl.isList (by simpa using RZ.intsAre_vals rv) (by unfold scanBound; omega) ?_
  rintro t ⟨h', tk, c, rfl, R, hle, hk⟩
  have R' := R
  obtain ⟨o, es, ep, t, ho, _, _, _, nd, hm, _, _, hn, _⟩ := R'
  refine ⟨.ref s.heap.objs.size, upd H s.heap.objs.size (SetO X.w s.heap.objs.size (fun j => decide (j ∈ ns)) c), I.laid (t' := tk) hk (Nat.le_refl _) (setO_new R), rfl, ?_⟩
  refine q _ c (es.toList.map keyOf) (I.hok.fresh (Nat.le_refl _)) nd (by rw [List.length_map, Array.length_toList]; exact hn) hle fun k => ?_
  rw [← hm k]
  exact decide_eq_true_iff
/-- len of such a set -/
def rLenSet (w : World) : List V → Hp → VK → Prop := fun xs H Q => ∃ (a : Addr) (S : Int → Bool) (c : Nat), xs = [.ref a] ∧ H a = some (SetO w a S c) ∧ c ≤ 1000 ∧ Q (.int (c : Int)) H
theorem cr_lenSet : CallR X (.builtin "len") (rLenSet X.w) := by
  intro pins s σ H xs us Q I r h
  obtain ⟨a, S, c, rfl, ha, hl, q⟩ := h
  rw [Vals.ref1 r]
  obtain ⟨o, es, ep, t, ho, hx, hd, _, _, _, _, hf, hn, _⟩ := setO_get I ha
  refine call_len_set ho hx hd hf (by rw [hn]; omega) ⟨.int (c : Int), H, I.tok _, ⟨_, by rw [hn]⟩, q⟩
/-- tuple(numbers) of a list: a new tuple, whose object bears no names -/
theorem call_tupleF : CallR X (.type "tuple") (fun xs H Q => ∃ p ys, xs = [.ref p] ∧ SqL X.K H p ys ∧ ∀ l (o : Obj), H l = none → o.dict = none → Q (.ref l) (upd H l (.frz o (.tup ys)))) := by
  intro pins s σ H xs us Q I r h
  obtain ⟨p, ys, rfl, hq, q⟩ := h
  rw [Vals.ref1 r]
  obtain ⟨its, rv, pl, hz⟩ := I.list hq
  have hlen := rv.length
  refine call_tuple_list pl.isList (fun h' kp => ?_) (by simp only [List.size_toArray]; omega)
  have J : Inv X pins σ H { s with heap := h' } := I.kept (t' := s.toks) kp
  have J2 := J.laid (t' := s.toks) (o := .frz { cls := .type "tuple", data := .seq its.toArray } (.tup ys)) (h' := h'.push { cls := .type "tuple", data := .seq its.toArray })
    (fun b o e => Heap.get?_push_of_some _ e) (Nat.le_refl _) ⟨Heap.get?_push_size _ rfl, hz, its, rv, IsTup.new _ _⟩
  exact ⟨.ref h'.objs.size, _, J2, rfl, q _ _ (J.hok.fresh (Nat.le_refl _)) rfl⟩
/-- dict(pairs) of such a tuple of pairs -/
theorem call_dictT (hc : X.calm = true) : CallR X (.type "dict") (fun xs H Q => ∃ (a : Addr) (o : Obj) (ps : List Addr) (kvs : List (Key × V)), xs = [.ref a] ∧ o.dict = none ∧ H a = some (.frz o (.tup (ps.map V.ref))) ∧ Paired (fun p kv => SqT X.K H p [kV kv.1, kv.2]) ps kvs ∧
    ∀ p, H p = none → Q (.ref p) (upd H p (.dK (mergeK [] kvs)))) := by
  intro pins s σ H xs us Q I r h
  obtain ⟨a, o, ps, kvs, rfl, hod, ha, hp, q⟩ := h
  rw [Vals.ref1 r]
  obtain ⟨hget, hz, its, rv, o', ho', hcls, n, hdat⟩ := I.hok a _ ha
  rw [hget] at ho'
  cases ho'
  have ei := refs_at rv
  subst ei
  rw [List.length_map] at hz
  obtain ⟨prs, rel, hl, hpr⟩ := pairs_of I hp
  have ch : ∀ j : Fin prs.length, ∃ u b, ps[j.val]? = some b ∧ IsTup s.heap b #[u, prs[j].2] ∧ keyIs prs[j].1 u = true := fun j => by
    obtain ⟨b, u, e1, e2, e3⟩ := hpr j.val prs[j] (List.getElem?_eq_getElem j.isLt)
    exact ⟨u, b, e1, e2, e3⟩
  let us : Fin prs.length → Value := fun j => Classical.choose (ch j)
  have hus : ∀ j, ∃ b, ps[j.val]? = some b ∧ IsTup s.heap b #[us j, prs[j].2] ∧ keyIs prs[j].1 (us j) = true := fun j => Classical.choose_spec (ch j)
  let qs : List (Value × Value) := List.ofFn fun j : Fin prs.length => (us j, prs[j].2)
  have qlen : qs.length = prs.length := List.length_ofFn
  have qat : ∀ i k v, qs[i]? = some (k, v) → ∃ h : i < prs.length, k = us ⟨i, h⟩ ∧ v = prs[i].2 := fun i k v e => by
    have hi : i < prs.length := by
      have := (List.getElem?_eq_some_iff.mp e).1
      rw [qlen] at this
      exact this
    refine ⟨hi, ?_⟩
    rw [List.getElem?_ofFn, dif_pos hi] at e
    cases e
    exact ⟨rfl, rfl⟩
  refine PySem.call_dict_pairs (knd := mixKind X.prog X.w) (kvs := prs) (PairArg.tuple (prog := X.prog) (w := X.w) a (ps.map Value.ref).toArray (fun j => ps.getD j 0) qs) (I.ok.hd hc) ⟨⟨o, n, hget, hcls, hod, hdat⟩, ?_, fun j k v e => ?_⟩ ⟨qlen.symm, fun i k v e => ?_⟩ (by rw [qlen, hl]; exact hz) (fun h' tk hd' hk => ?_)
  · rw [qlen, hl]; simp
  · obtain ⟨hj, rfl, rfl⟩ := qat j k v e
    obtain ⟨b, e1, e2, _⟩ := hus ⟨j, hj⟩
    have eb : ps.getD j 0 = b := by rw [List.getD_eq_getElem?_getD, e1]; rfl
    dsimp only
    rw [eb]
    refine ⟨?_, .inl e2⟩
    simp only [List.getElem?_toArray, List.getElem?_map]
    rw [e1]; rfl
  · obtain ⟨hj, rfl, rfl⟩ := qat i k v e
    obtain ⟨b, e1, e2, e3⟩ := hus ⟨i, hj⟩
    exact ⟨prs[i].1, List.getElem?_eq_getElem hj, e3⟩
  · have hm : (s.heap.objs.size == sysModules) = false := beq_eq_false_iff_ne.mpr (Nat.ne_of_gt I.big)
    have hlen : (mergeK [] kvs).length ≤ sizeLine := by
      refine Nat.le_trans (length_mergeK kvs []) ?_
      rw [List.length_nil, Nat.zero_add, rel.length, hl]
      exact hz
    exact ⟨.ref s.heap.objs.size, upd H s.heap.objs.size (.dK (mergeK [] kvs)), I.laid (t' := tk) (fun b o e => hk b o (by simp) e) (Nat.le_refl _) (show ObjOk X.prog X.w _ _ _ (.dK (mergeK [] kvs)) from ⟨hlen, hm, merged [] prs, KV.merge rel .nil, hd'⟩), rfl, q _ (I.hok.fresh (Nat.le_refl _))⟩
end
end Lh

namespace Lh
open PySem PySem.Spec PyProof.Rows L2
def topS (i : Nat) : Stmt := PySem.Challenge.pw_lesserhall_k01_rules_or_not.main.body.getD i (.Pass ⟨0, 0, 0, 0⟩)
abbrev s_is_number : Stmt := topS 1
abbrev n_is_number : List Str := ["thing"]
abbrev p_is_number : List Str := ["thing"]
theorem sc_is_number : FnScope n_is_number p_is_number (defScope s_is_number) := ⟨rfl, rfl, rfl, by decide +kernel, rfl, by decide +kernel, by decide +kernel⟩
abbrev s_is_person : Stmt := topS 2
abbrev n_is_person : List Str := ["many", "thing"]
abbrev p_is_person : List Str := ["many", "thing"]
theorem sc_is_person : FnScope n_is_person p_is_person (defScope s_is_person) := ⟨rfl, rfl, rfl, by decide +kernel, rfl, by decide +kernel, by decide +kernel⟩
abbrev s_are_persons : Stmt := topS 3
abbrev n_are_persons : List Str := ["many", "thing", "one"]
abbrev p_are_persons : List Str := ["many", "thing"]
theorem sc_are_persons : FnScope n_are_persons p_are_persons (defScope s_are_persons) := ⟨rfl, rfl, rfl, by decide +kernel, rfl, by decide +kernel, by decide +kernel⟩
abbrev s_rises : Stmt := topS 4
abbrev n_rises : List Str := ["things", "one", "other"]
abbrev p_rises : List Str := ["things"]
theorem sc_rises : FnScope n_rises p_rises (defScope s_rises) := ⟨rfl, rfl, rfl, by decide +kernel, rfl, by decide +kernel, by decide +kernel⟩
abbrev s_is_rule : Stmt := topS 7
abbrev n_is_rule : List Str := ["many", "thing", "parts", "part", "piece"]
abbrev p_is_rule : List Str := ["many", "thing"]
theorem sc_is_rule : FnScope n_is_rule p_is_rule (defScope s_is_rule) := ⟨rfl, rfl, rfl, by decide +kernel, rfl, by decide +kernel, by decide +kernel⟩
abbrev s_is_part : Stmt := topS 8
abbrev n_is_part : List Str := ["many", "part", "thing"]
abbrev p_is_part : List Str := ["many", "part", "thing"]
theorem sc_is_part : FnScope n_is_part p_is_part (defScope s_is_part) := ⟨rfl, rfl, rfl, by decide +kernel, rfl, by decide +kernel, by decide +kernel⟩
abbrev s_are_ties : Stmt := topS 9
abbrev n_are_ties : List Str := ["many", "thing", "one", "person", "weight"]
abbrev p_are_ties : List Str := ["many", "thing"]
theorem sc_are_ties : FnScope n_are_ties p_are_ties (defScope s_are_ties) := ⟨rfl, rfl, rfl, by decide +kernel, rfl, by decide +kernel, by decide +kernel⟩
abbrev s_is_tie : Stmt := topS 10
abbrev n_is_tie : List Str := ["many", "thing"]
abbrev p_is_tie : List Str := ["many", "thing"]
theorem sc_is_tie : FnScope n_is_tie p_is_tie (defScope s_is_tie) := ⟨rfl, rfl, rfl, by decide +kernel, rfl, by decide +kernel, by decide +kernel⟩
abbrev s_dip : Stmt := topS 12
abbrev n_dip : List Str := ["_law_script", "_law_k", "_law_cell"]
abbrev p_dip : List Str := ["_law_script", "_law_k"]
theorem sc_dip : FnScope n_dip p_dip (defScope s_dip) := ⟨rfl, rfl, rfl, by decide +kernel, rfl, by decide +kernel, by decide +kernel⟩
abbrev s_take : Stmt := topS 13
abbrev n_take : List Str := ["_law_box", "_law_count", "_law_found", "_law_once", "_law_pair"]
abbrev p_take : List Str := ["_law_box", "_law_count"]
theorem sc_take : FnScope n_take p_take (defScope s_take) := ⟨rfl, rfl, rfl, by decide +kernel, rfl, by decide +kernel, by decide +kernel⟩
abbrev s_folded : Stmt := topS 14
abbrev n_folded : List Str := ["_law_script", "_law_count", "_law_cells", "_law_k", "_law_cell"]
abbrev p_folded : List Str := ["_law_script", "_law_count"]
theorem sc_folded : FnScope n_folded p_folded (defScope s_folded) := ⟨rfl, rfl, rfl, by decide +kernel, rfl, by decide +kernel, by decide +kernel⟩
abbrev s_one_of : Stmt := topS 15
abbrev n_one_of : List Str := ["_law_box", "_law_pool"]
abbrev p_one_of : List Str := ["_law_box", "_law_pool"]
theorem sc_one_of : FnScope n_one_of p_one_of (defScope s_one_of) := ⟨rfl, rfl, rfl, by decide +kernel, rfl, by decide +kernel, by decide +kernel⟩
abbrev s_same : Stmt := topS 16
abbrev n_same : List Str := ["_law_found", "_law_due_here", "_law_one", "_law_two"]
abbrev p_same : List Str := ["_law_found", "_law_due_here"]
theorem sc_same : FnScope n_same p_same (defScope s_same) := ⟨rfl, rfl, rfl, by decide +kernel, rfl, by decide +kernel, by decide +kernel⟩
abbrev s_some : Stmt := topS 17
abbrev n_some : List Str := ["_law_box", "_law_pool", "_law_odds", "_law_one"]
abbrev p_some : List Str := ["_law_box", "_law_pool", "_law_odds"]
theorem sc_some : FnScope n_some p_some (defScope s_some) := ⟨rfl, rfl, rfl, by decide +kernel, rfl, by decide +kernel, by decide +kernel⟩
abbrev s_sum_rule : Stmt := topS 18
abbrev n_sum_rule : List Str := ["_law_box", "_law_seen", "_law_far", "_law_own", "_law_ties", "_law_one"]
abbrev p_sum_rule : List Str := ["_law_box", "_law_seen", "_law_far"]
theorem sc_sum_rule : FnScope n_sum_rule p_sum_rule (defScope s_sum_rule) := ⟨rfl, rfl, rfl, by decide +kernel, rfl, by decide +kernel, by decide +kernel⟩
abbrev s_rule : Stmt := topS 19
abbrev n_rule : List Str := ["_law_box", "_law_count", "_law_pool", "_law_far", "_law_seen", "_law_way"]
abbrev p_rule : List Str := ["_law_box", "_law_count", "_law_pool", "_law_far"]
theorem sc_rule : FnScope n_rule p_rule (defScope s_rule) := ⟨rfl, rfl, rfl, by decide +kernel, rfl, by decide +kernel, by decide +kernel⟩
abbrev s_is_whole : Stmt := topS 20
abbrev n_is_whole : List Str := ["_law_odd"]
abbrev p_is_whole : List Str := ["_law_odd"]
theorem sc_is_whole : FnScope n_is_whole p_is_whole (defScope s_is_whole) := ⟨rfl, rfl, rfl, by decide +kernel, rfl, by decide +kernel, by decide +kernel⟩
abbrev s_law_rises : Stmt := topS 21
abbrev n_law_rises : List Str := ["_law_some_here", "_law_k"]
abbrev p_law_rises : List Str := ["_law_some_here"]
theorem sc_law_rises : FnScope n_law_rises p_law_rises (defScope s_law_rises) := ⟨rfl, rfl, rfl, by decide +kernel, rfl, by decide +kernel, by decide +kernel⟩
abbrev s_is_seen : Stmt := topS 22
abbrev n_is_seen : List Str := ["_law_odd", "_law_count", "_law_one"]
abbrev p_is_seen : List Str := ["_law_odd", "_law_count"]
theorem sc_is_seen : FnScope n_is_seen p_is_seen (defScope s_is_seen) := ⟨rfl, rfl, rfl, by decide +kernel, rfl, by decide +kernel, by decide +kernel⟩
abbrev s_is_ties : Stmt := topS 23
abbrev n_is_ties : List Str := ["_law_odd", "_law_count", "_law_tie"]
abbrev p_is_ties : List Str := ["_law_odd", "_law_count"]
theorem sc_is_ties : FnScope n_is_ties p_is_ties (defScope s_is_ties) := ⟨rfl, rfl, rfl, by decide +kernel, rfl, by decide +kernel, by decide +kernel⟩
abbrev s_due : Stmt := topS 24
abbrev n_due : List Str := ["_law_odd", "_law_count", "_law_shapes", "_law_shape", "_law_mark", "_law_part"]
abbrev p_due : List Str := ["_law_odd", "_law_count"]
theorem sc_due : FnScope n_due p_due (defScope s_due) := ⟨rfl, rfl, rfl, by decide +kernel, rfl, by decide +kernel, by decide +kernel⟩
abbrev s_bent : Stmt := topS 25
abbrev n_bent : List Str := ["_law_box", "_law_odd", "_law_others", "_law_at", "_law_way"]
abbrev p_bent : List Str := ["_law_box", "_law_odd"]
theorem sc_bent : FnScope n_bent p_bent (defScope s_bent) := ⟨rfl, rfl, rfl, by decide +kernel, rfl, by decide +kernel, by decide +kernel⟩
abbrev s_right : Stmt := topS 26
abbrev n_right : List Str := ["_law_box", "_law_turn", "_law_count", "_law_odd", "_law_again", "_law_kept", "_law_size"]
abbrev p_right : List Str := ["_law_box"]
theorem sc_right : FnScope n_right p_right (defScope s_right) := ⟨rfl, rfl, rfl, by decide +kernel, rfl, by decide +kernel, by decide +kernel⟩
abbrev s_law : Stmt := topS 27
abbrev n_law : List Str := ["_law_script", "_law_cells", "_law_k"]
abbrev p_law : List Str := ["_law_script"]
theorem sc_law : FnScope n_law p_law (defScope s_law) := ⟨rfl, rfl, rfl, by decide +kernel, rfl, by decide +kernel, by decide +kernel⟩
structure FnT (K : PySem.W.Frag) (nm qual : Str) (st : Stmt) (ps : List Str) where
  f : Addr
  fd : FuncData
  F : Fun K nm qual st f fd
  b : Binds K fd ps []
structure Txt (K : PySem.W.Frag) (mg : Str → Option Value) (w : World) where
  t_is_number : FnT K "is_number" "is_number" s_is_number p_is_number
  g_is_number : mg "is_number" = some (.ref t_is_number.f)
  t_is_person : FnT K "is_person" "is_person" s_is_person p_is_person
  g_is_person : mg "is_person" = some (.ref t_is_person.f)
  t_are_persons : FnT K "are_persons" "are_persons" s_are_persons p_are_persons
  g_are_persons : mg "are_persons" = some (.ref t_are_persons.f)
  t_rises : FnT K "rises" "rises" s_rises p_rises
  g_rises : mg "rises" = some (.ref t_rises.f)
  t_is_rule : FnT K "is_rule" "is_rule" s_is_rule p_is_rule
  g_is_rule : mg "is_rule" = some (.ref t_is_rule.f)
  kb_is_rule : KBn K t_is_rule.fd p_is_rule 0 ["thing", "many"] (fun _ ws => permV [1, 0] ws) (fun _ zs => permV [1, 0] zs)
  t_is_part : FnT K "is_part" "is_part" s_is_part p_is_part
  g_is_part : mg "is_part" = some (.ref t_is_part.f)
  t_are_ties : FnT K "are_ties" "are_ties" s_are_ties p_are_ties
  g_are_ties : mg "are_ties" = some (.ref t_are_ties.f)
  t_is_tie : FnT K "is_tie" "is_tie" s_is_tie p_is_tie
  g_is_tie : mg "is_tie" = some (.ref t_is_tie.f)
  t_dip : FnT K "_law_dip" "_law_dip" s_dip p_dip
  g_dip : mg "_law_dip" = some (.ref t_dip.f)
  t_take : FnT K "_law_take" "_law_take" s_take p_take
  g_take : mg "_law_take" = some (.ref t_take.f)
  t_folded : FnT K "_law_folded" "_law_folded" s_folded p_folded
  g_folded : mg "_law_folded" = some (.ref t_folded.f)
  t_one_of : FnT K "_law_one_of" "_law_one_of" s_one_of p_one_of
  g_one_of : mg "_law_one_of" = some (.ref t_one_of.f)
  t_same : FnT K "_law_same" "_law_same" s_same p_same
  g_same : mg "_law_same" = some (.ref t_same.f)
  t_some : FnT K "_law_some" "_law_some" s_some p_some
  g_some : mg "_law_some" = some (.ref t_some.f)
  t_sum_rule : FnT K "_law_sum_rule" "_law_sum_rule" s_sum_rule p_sum_rule
  g_sum_rule : mg "_law_sum_rule" = some (.ref t_sum_rule.f)
  t_rule : FnT K "_law_rule" "_law_rule" s_rule p_rule
  g_rule : mg "_law_rule" = some (.ref t_rule.f)
  t_is_whole : FnT K "_law_is_whole" "_law_is_whole" s_is_whole p_is_whole
  g_is_whole : mg "_law_is_whole" = some (.ref t_is_whole.f)
  t_law_rises : FnT K "_law_rises" "_law_rises" s_law_rises p_law_rises
  g_law_rises : mg "_law_rises" = some (.ref t_law_rises.f)
  t_is_seen : FnT K "_law_is_seen" "_law_is_seen" s_is_seen p_is_seen
  g_is_seen : mg "_law_is_seen" = some (.ref t_is_seen.f)
  t_is_ties : FnT K "_law_is_ties" "_law_is_ties" s_is_ties p_is_ties
  g_is_ties : mg "_law_is_ties" = some (.ref t_is_ties.f)
  t_due : FnT K "_law_due" "_law_due" s_due p_due
  g_due : mg "_law_due" = some (.ref t_due.f)
  t_bent : FnT K "_law_bent" "_law_bent" s_bent p_bent
  g_bent : mg "_law_bent" = some (.ref t_bent.f)
  t_right : FnT K "_law_right" "_law_right" s_right p_right
  g_right : mg "_law_right" = some (.ref t_right.f)
  t_law : FnT K "law" "law" s_law p_law
  g_law : mg "law" = some (.ref t_law.f)
  D_PARTS : Addr
  g_PARTS : mg "PARTS" = some (.ref D_PARTS)
  es_PARTS : Array DictEntry
  en_PARTS : Nat
  kd_PARTS : KDict K w D_PARTS es_PARTS en_PARTS
  t_PARTS_held : Addr
  dk_PARTS_held : PySem.W.nsIn K D_PARTS "held" = some (some (.ref t_PARTS_held))
  sq_PARTS_held : ∀ H, SqT K H t_PARTS_held [.str "number"]
  t_PARTS_sum : Addr
  dk_PARTS_sum : PySem.W.nsIn K D_PARTS "sum" = some (some (.ref t_PARTS_sum))
  sq_PARTS_sum : ∀ H, SqT K H t_PARTS_sum [.str "number", .str "ties"]
  t_PARTS_cap : Addr
  dk_PARTS_cap : PySem.W.nsIn K D_PARTS "cap" = some (some (.ref t_PARTS_cap))
  sq_PARTS_cap : ∀ H, SqT K H t_PARTS_cap [.str "number", .str "ties", .str "number"]
  t_PARTS_kinds : Addr
  dk_PARTS_kinds : PySem.W.nsIn K D_PARTS "kinds" = some (some (.ref t_PARTS_kinds))
  sq_PARTS_kinds : ∀ H, SqT K H t_PARTS_kinds [.str "number", .str "seen"]
  t_PARTS_next : Addr
  dk_PARTS_next : PySem.W.nsIn K D_PARTS "next" = some (some (.ref t_PARTS_next))
  sq_PARTS_next : ∀ H, SqT K H t_PARTS_next [.str "seen"]
  t_PARTS_free : Addr
  dk_PARTS_free : PySem.W.nsIn K D_PARTS "free" = some (some (.ref t_PARTS_free))
  sq_PARTS_free : ∀ H, SqT K H t_PARTS_free [.str "seen"]
  dn_PARTS : PySem.W.nsIn K D_PARTS "" = some none
  m_abs : mg "abs" = none
  m_all : mg "all" = none
  m_bool : mg "bool" = none
  m_enumerate : mg "enumerate" = none
  m_int : mg "int" = none
  m_isinstance : mg "isinstance" = none
  m_len : mg "len" = none
  m_list : mg "list" = none
  m_max : mg "max" = none
  m_range : mg "range" = none
  m_repr : mg "repr" = none
  m_str : mg "str" = none
  m_tuple : mg "tuple" = none
  m_zip : mg "zip" = none
abbrev Txt.f_is_number {K : PySem.W.Frag} {mg : Str → Option Value} {w : World} (T : Txt K mg w) : Addr := T.t_is_number.f
abbrev Txt.fd_is_number {K : PySem.W.Frag} {mg : Str → Option Value} {w : World} (T : Txt K mg w) : FuncData := T.t_is_number.fd
theorem Txt.F_is_number {K : PySem.W.Frag} {mg : Str → Option Value} {w : World} (T : Txt K mg w) : Fun K "is_number" "is_number" s_is_number T.f_is_number T.fd_is_number := T.t_is_number.F
theorem Txt.b_is_number {K : PySem.W.Frag} {mg : Str → Option Value} {w : World} (T : Txt K mg w) : Binds K T.fd_is_number p_is_number [] := T.t_is_number.b
abbrev Txt.f_is_person {K : PySem.W.Frag} {mg : Str → Option Value} {w : World} (T : Txt K mg w) : Addr := T.t_is_person.f
abbrev Txt.fd_is_person {K : PySem.W.Frag} {mg : Str → Option Value} {w : World} (T : Txt K mg w) : FuncData := T.t_is_person.fd
theorem Txt.F_is_person {K : PySem.W.Frag} {mg : Str → Option Value} {w : World} (T : Txt K mg w) : Fun K "is_person" "is_person" s_is_person T.f_is_person T.fd_is_person := T.t_is_person.F
theorem Txt.b_is_person {K : PySem.W.Frag} {mg : Str → Option Value} {w : World} (T : Txt K mg w) : Binds K T.fd_is_person p_is_person [] := T.t_is_person.b
abbrev Txt.f_are_persons {K : PySem.W.Frag} {mg : Str → Option Value} {w : World} (T : Txt K mg w) : Addr := T.t_are_persons.f
abbrev Txt.fd_are_persons {K : PySem.W.Frag} {mg : Str → Option Value} {w : World} (T : Txt K mg w) : FuncData := T.t_are_persons.fd
theorem Txt.F_are_persons {K : PySem.W.Frag} {mg : Str → Option Value} {w : World} (T : Txt K mg w) : Fun K "are_persons" "are_persons" s_are_persons T.f_are_persons T.fd_are_persons := T.t_are_persons.F
theorem Txt.b_are_persons {K : PySem.W.Frag} {mg : Str → Option Value} {w : World} (T : Txt K mg w) : Binds K T.fd_are_persons p_are_persons [] := T.t_are_persons.b
abbrev Txt.f_rises {K : PySem.W.Frag} {mg : Str → Option Value} {w : World} (T : Txt K mg w) : Addr := T.t_rises.f
abbrev Txt.fd_rises {K : PySem.W.Frag} {mg : Str → Option Value} {w : World} (T : Txt K mg w) : FuncData := T.t_rises.fd
theorem Txt.F_rises {K : PySem.W.Frag} {mg : Str → Option Value} {w : World} (T : Txt K mg w) : Fun K "rises" "rises" s_rises T.f_rises T.fd_rises := T.t_rises.F
theorem Txt.b_rises {K : PySem.W.Frag} {mg : Str → Option Value} {w : World} (T : Txt K mg w) : Binds K T.fd_rises p_rises [] := T.t_rises.b
abbrev Txt.f_is_rule {K : PySem.W.Frag} {mg : Str → Option Value} {w : World} (T : Txt K mg w) : Addr := T.t_is_rule.f
abbrev Txt.fd_is_rule {K : PySem.W.Frag} {mg : Str → Option Value} {w : World} (T : Txt K mg w) : FuncData := T.t_is_rule.fd
theorem Txt.F_is_rule {K : PySem.W.Frag} {mg : Str → Option Value} {w : World} (T : Txt K mg w) : Fun K "is_rule" "is_rule" s_is_rule T.f_is_rule T.fd_is_rule := T.t_is_rule.F
theorem Txt.b_is_rule {K : PySem.W.Frag} {mg : Str → Option Value} {w : World} (T : Txt K mg w) : Binds K T.fd_is_rule p_is_rule [] := T.t_is_rule.b
abbrev Txt.f_is_part {K : PySem.W.Frag} {mg : Str → Option Value} {w : World} (T : Txt K mg w) : Addr := T.t_is_part.f
abbrev Txt.fd_is_part {K : PySem.W.Frag} {mg : Str → Option Value} {w : World} (T : Txt K mg w) : FuncData := T.t_is_part.fd
theorem Txt.F_is_part {K : PySem.W.Frag} {mg : Str → Option Value} {w : World} (T : Txt K mg w) : Fun K "is_part" "is_part" s_is_part T.f_is_part T.fd_is_part := T.t_is_part.F
theorem Txt.b_is_part {K : PySem.W.Frag} {mg : Str → Option Value} {w : World} (T : Txt K mg w) : Binds K T.fd_is_part p_is_part [] := T.t_is_part.b
abbrev Txt.f_are_ties {K : PySem.W.Frag} {mg : Str → Option Value} {w : World} (T : Txt K mg w) : Addr := T.t_are_ties.f
abbrev Txt.fd_are_ties {K : PySem.W.Frag} {mg : Str → Option Value} {w : World} (T : Txt K mg w) : FuncData := T.t_are_ties.fd
theorem Txt.F_are_ties {K : PySem.W.Frag} {mg : Str → Option Value} {w : World} (T : Txt K mg w) : Fun K "are_ties" "are_ties" s_are_ties T.f_are_ties T.fd_are_ties := T.t_are_ties.F
theorem Txt.b_are_ties {K : PySem.W.Frag} {mg : Str → Option Value} {w : World} (T : Txt K mg w) : Binds K T.fd_are_ties p_are_ties [] := T.t_are_ties.b
abbrev Txt.f_is_tie {K : PySem.W.Frag} {mg : Str → Option Value} {w : World} (T : Txt K mg w) : Addr := T.t_is_tie.f
abbrev Txt.fd_is_tie {K : PySem.W.Frag} {mg : Str → Option Value} {w : World} (T : Txt K mg w) : FuncData := T.t_is_tie.fd
theorem Txt.F_is_tie {K : PySem.W.Frag} {mg : Str → Option Value} {w : World} (T : Txt K mg w) : Fun K "is_tie" "is_tie" s_is_tie T.f_is_tie T.fd_is_tie := T.t_is_tie.F
theorem Txt.b_is_tie {K : PySem.W.Frag} {mg : Str → Option Value} {w : World} (T : Txt K mg w) : Binds K T.fd_is_tie p_is_tie [] := T.t_is_tie.b
abbrev Txt.f_dip {K : PySem.W.Frag} {mg : Str → Option Value} {w : World} (T : Txt K mg w) : Addr := T.t_dip.f
abbrev Txt.fd_dip {K : PySem.W.Frag} {mg : Str → Option Value} {w : World} (T : Txt K mg w) : FuncData := T.t_dip.fd
theorem Txt.F_dip {K : PySem.W.Frag} {mg : Str → Option Value} {w : World} (T : Txt K mg w) : Fun K "_law_dip" "_law_dip" s_dip T.f_dip T.fd_dip := T.t_dip.F
theorem Txt.b_dip {K : PySem.W.Frag} {mg : Str → Option Value} {w : World} (T : Txt K mg w) : Binds K T.fd_dip p_dip [] := T.t_dip.b
abbrev Txt.f_take {K : PySem.W.Frag} {mg : Str → Option Value} {w : World} (T : Txt K mg w) : Addr := T.t_take.f
abbrev Txt.fd_take {K : PySem.W.Frag} {mg : Str → Option Value} {w : World} (T : Txt K mg w) : FuncData := T.t_take.fd
theorem Txt.F_take {K : PySem.W.Frag} {mg : Str → Option Value} {w : World} (T : Txt K mg w) : Fun K "_law_take" "_law_take" s_take T.f_take T.fd_take := T.t_take.F
theorem Txt.b_take {K : PySem.W.Frag} {mg : Str → Option Value} {w : World} (T : Txt K mg w) : Binds K T.fd_take p_take [] := T.t_take.b
abbrev Txt.f_folded {K : PySem.W.Frag} {mg : Str → Option Value} {w : World} (T : Txt K mg w) : Addr := T.t_folded.f
abbrev Txt.fd_folded {K : PySem.W.Frag} {mg : Str → Option Value} {w : World} (T : Txt K mg w) : FuncData := T.t_folded.fd
theorem Txt.F_folded {K : PySem.W.Frag} {mg : Str → Option Value} {w : World} (T : Txt K mg w) : Fun K "_law_folded" "_law_folded" s_folded T.f_folded T.fd_folded := T.t_folded.F
theorem Txt.b_folded {K : PySem.W.Frag} {mg : Str → Option Value} {w : World} (T : Txt K mg w) : Binds K T.fd_folded p_folded [] := T.t_folded.b
abbrev Txt.f_one_of {K : PySem.W.Frag} {mg : Str → Option Value} {w : World} (T : Txt K mg w) : Addr := T.t_one_of.f
abbrev Txt.fd_one_of {K : PySem.W.Frag} {mg : Str → Option Value} {w : World} (T : Txt K mg w) : FuncData := T.t_one_of.fd
theorem Txt.F_one_of {K : PySem.W.Frag} {mg : Str → Option Value} {w : World} (T : Txt K mg w) : Fun K "_law_one_of" "_law_one_of" s_one_of T.f_one_of T.fd_one_of := T.t_one_of.F
theorem Txt.b_one_of {K : PySem.W.Frag} {mg : Str → Option Value} {w : World} (T : Txt K mg w) : Binds K T.fd_one_of p_one_of [] := T.t_one_of.b
abbrev Txt.f_same {K : PySem.W.Frag} {mg : Str → Option Value} {w : World} (T : Txt K mg w) : Addr := T.t_same.f
abbrev Txt.fd_same {K : PySem.W.Frag} {mg : Str → Option Value} {w : World} (T : Txt K mg w) : FuncData := T.t_same.fd
theorem Txt.F_same {K : PySem.W.Frag} {mg : Str → Option Value} {w : World} (T : Txt K mg w) : Fun K "_law_same" "_law_same" s_same T.f_same T.fd_same := T.t_same.F
theorem Txt.b_same {K : PySem.W.Frag} {mg : Str → Option Value} {w : World} (T : Txt K mg w) : Binds K T.fd_same p_same [] := T.t_same.b
abbrev Txt.f_some {K : PySem.W.Frag} {mg : Str → Option Value} {w : World} (T : Txt K mg w) : Addr := T.t_some.f
abbrev Txt.fd_some {K : PySem.W.Frag} {mg : Str → Option Value} {w : World} (T : Txt K mg w) : FuncData := T.t_some.fd
theorem Txt.F_some {K : PySem.W.Frag} {mg : Str → Option Value} {w : World} (T : Txt K mg w) : Fun K "_law_some" "_law_some" s_some T.f_some T.fd_some := T.t_some.F
theorem Txt.b_some {K : PySem.W.Frag} {mg : Str → Option Value} {w : World} (T : Txt K mg w) : Binds K T.fd_some p_some [] := T.t_some.b
abbrev Txt.f_sum_rule {K : PySem.W.Frag} {mg : Str → Option Value} {w : World} (T : Txt K mg w) : Addr := T.t_sum_rule.f
abbrev Txt.fd_sum_rule {K : PySem.W.Frag} {mg : Str → Option Value} {w : World} (T : Txt K mg w) : FuncData := T.t_sum_rule.fd
theorem Txt.F_sum_rule {K : PySem.W.Frag} {mg : Str → Option Value} {w : World} (T : Txt K mg w) : Fun K "_law_sum_rule" "_law_sum_rule" s_sum_rule T.f_sum_rule T.fd_sum_rule := T.t_sum_rule.F
theorem Txt.b_sum_rule {K : PySem.W.Frag} {mg : Str → Option Value} {w : World} (T : Txt K mg w) : Binds K T.fd_sum_rule p_sum_rule [] := T.t_sum_rule.b
abbrev Txt.f_rule {K : PySem.W.Frag} {mg : Str → Option Value} {w : World} (T : Txt K mg w) : Addr := T.t_rule.f
abbrev Txt.fd_rule {K : PySem.W.Frag} {mg : Str → Option Value} {w : World} (T : Txt K mg w) : FuncData := T.t_rule.fd
theorem Txt.F_rule {K : PySem.W.Frag} {mg : Str → Option Value} {w : World} (T : Txt K mg w) : Fun K "_law_rule" "_law_rule" s_rule T.f_rule T.fd_rule := T.t_rule.F
theorem Txt.b_rule {K : PySem.W.Frag} {mg : Str → Option Value} {w : World} (T : Txt K mg w) : Binds K T.fd_rule p_rule [] := T.t_rule.b
abbrev Txt.f_is_whole {K : PySem.W.Frag} {mg : Str → Option Value} {w : World} (T : Txt K mg w) : Addr := T.t_is_whole.f
abbrev Txt.fd_is_whole {K : PySem.W.Frag} {mg : Str → Option Value} {w : World} (T : Txt K mg w) : FuncData := T.t_is_whole.fd
theorem Txt.F_is_whole {K : PySem.W.Frag} {mg : Str → Option Value} {w : World} (T : Txt K mg w) : Fun K "_law_is_whole" "_law_is_whole" s_is_whole T.f_is_whole T.fd_is_whole := T.t_is_whole.F
theorem Txt.b_is_whole {K : PySem.W.Frag} {mg : Str → Option Value} {w : World} (T : Txt K mg w) : Binds K T.fd_is_whole p_is_whole [] := T.t_is_whole.b
abbrev Txt.f_law_rises {K : PySem.W.Frag} {mg : Str → Option Value} {w : World} (T : Txt K mg w) : Addr := T.t_law_rises.f
abbrev Txt.fd_law_rises {K : PySem.W.Frag} {mg : Str → Option Value} {w : World} (T : Txt K mg w) : FuncData := T.t_law_rises.fd
theorem Txt.F_law_rises {K : PySem.W.Frag} {mg : Str → Option Value} {w : World} (T : Txt K mg w) : Fun K "_law_rises" "_law_rises" s_law_rises T.f_law_rises T.fd_law_rises := T.t_law_rises.F
theorem Txt.b_law_rises {K : PySem.W.Frag} {mg : Str → Option Value} {w : World} (T : Txt K mg w) : Binds K T.fd_law_rises p_law_rises [] := T.t_law_rises.b
abbrev Txt.f_is_seen {K : PySem.W.Frag} {mg : Str → Option Value} {w : World} (T : Txt K mg w) : Addr := T.t_is_seen.f
abbrev Txt.fd_is_seen {K : PySem.W.Frag} {mg : Str → Option Value} {w : World} (T : Txt K mg w) : FuncData := T.t_is_seen.fd
theorem Txt.F_is_seen {K : PySem.W.Frag} {mg : Str → Option Value} {w : World} (T : Txt K mg w) : Fun K "_law_is_seen" "_law_is_seen" s_is_seen T.f_is_seen T.fd_is_seen := T.t_is_seen.F
theorem Txt.b_is_seen {K : PySem.W.Frag} {mg : Str → Option Value} {w : World} (T : Txt K mg w) : Binds K T.fd_is_seen p_is_seen [] := T.t_is_seen.b
abbrev Txt.f_is_ties {K : PySem.W.Frag} {mg : Str → Option Value} {w : World} (T : Txt K mg w) : Addr := T.t_is_ties.f
abbrev Txt.fd_is_ties {K : PySem.W.Frag} {mg : Str → Option Value} {w : World} (T : Txt K mg w) : FuncData := T.t_is_ties.fd
theorem Txt.F_is_ties {K : PySem.W.Frag} {mg : Str → Option Value} {w : World} (T : Txt K mg w) : Fun K "_law_is_ties" "_law_is_ties" s_is_ties T.f_is_ties T.fd_is_ties := T.t_is_ties.F
theorem Txt.b_is_ties {K : PySem.W.Frag} {mg : Str → Option Value} {w : World} (T : Txt K mg w) : Binds K T.fd_is_ties p_is_ties [] := T.t_is_ties.b
abbrev Txt.f_due {K : PySem.W.Frag} {mg : Str → Option Value} {w : World} (T : Txt K mg w) : Addr := T.t_due.f
abbrev Txt.fd_due {K : PySem.W.Frag} {mg : Str → Option Value} {w : World} (T : Txt K mg w) : FuncData := T.t_due.fd
theorem Txt.F_due {K : PySem.W.Frag} {mg : Str → Option Value} {w : World} (T : Txt K mg w) : Fun K "_law_due" "_law_due" s_due T.f_due T.fd_due := T.t_due.F
theorem Txt.b_due {K : PySem.W.Frag} {mg : Str → Option Value} {w : World} (T : Txt K mg w) : Binds K T.fd_due p_due [] := T.t_due.b
abbrev Txt.f_bent {K : PySem.W.Frag} {mg : Str → Option Value} {w : World} (T : Txt K mg w) : Addr := T.t_bent.f
abbrev Txt.fd_bent {K : PySem.W.Frag} {mg : Str → Option Value} {w : World} (T : Txt K mg w) : FuncData := T.t_bent.fd
theorem Txt.F_bent {K : PySem.W.Frag} {mg : Str → Option Value} {w : World} (T : Txt K mg w) : Fun K "_law_bent" "_law_bent" s_bent T.f_bent T.fd_bent := T.t_bent.F
theorem Txt.b_bent {K : PySem.W.Frag} {mg : Str → Option Value} {w : World} (T : Txt K mg w) : Binds K T.fd_bent p_bent [] := T.t_bent.b
abbrev Txt.f_right {K : PySem.W.Frag} {mg : Str → Option Value} {w : World} (T : Txt K mg w) : Addr := T.t_right.f
abbrev Txt.fd_right {K : PySem.W.Frag} {mg : Str → Option Value} {w : World} (T : Txt K mg w) : FuncData := T.t_right.fd
theorem Txt.F_right {K : PySem.W.Frag} {mg : Str → Option Value} {w : World} (T : Txt K mg w) : Fun K "_law_right" "_law_right" s_right T.f_right T.fd_right := T.t_right.F
theorem Txt.b_right {K : PySem.W.Frag} {mg : Str → Option Value} {w : World} (T : Txt K mg w) : Binds K T.fd_right p_right [] := T.t_right.b
abbrev Txt.f_law {K : PySem.W.Frag} {mg : Str → Option Value} {w : World} (T : Txt K mg w) : Addr := T.t_law.f
abbrev Txt.fd_law {K : PySem.W.Frag} {mg : Str → Option Value} {w : World} (T : Txt K mg w) : FuncData := T.t_law.fd
theorem Txt.F_law {K : PySem.W.Frag} {mg : Str → Option Value} {w : World} (T : Txt K mg w) : Fun K "law" "law" s_law T.f_law T.fd_law := T.t_law.F
theorem Txt.b_law {K : PySem.W.Frag} {mg : Str → Option Value} {w : World} (T : Txt K mg w) : Binds K T.fd_law p_law [] := T.t_law.b
end Lh

namespace Lh
open PySem PySem.Spec PyProof.Rows L2
section
variable {P : Program} {w : World} {K : PySem.W.Frag} {mg : Str → Option Value} {base : Heap}
/-- what an expression comes to, then what follows -/
theorem use {te : TE} {σ : L2.St} {H : Hp} {Q : VK} (R : V → Hp → Prop) (h : ∀ Q' : VK, (∀ v H', R v H' → Q' v H') → te σ H Q') (hq : ∀ v H', R v H' → Q v H') : te σ H Q := h Q hq
/-! ### the draws -/
def spTake : Sp := fun vs H Q _ => ∃ (bx : Addr) (c m : Int), vs = [.ref bx, .int m] ∧ 0 < m ∧ m ≤ 1000000 ∧ c ≤ 1000000000 ∧ Box bx c H ∧
  ∀ (r : Int) (H' : Hp), 0 ≤ r → r < m → Ext bx H H' → Box bx (c + 1) H' → Q (.int r) H'
theorem ok_take (T : Txt K mg w) : FnOk P w K mg base CX0 1 T.f_take T.fd_take p_take spTake := by
  refine T.F_take.ok sc_take (fun vs H Q E h => ?_) (fun cdv A outer s H vs Q E hr h => ?_)
  · obtain ⟨bx, c, m, rfl, _⟩ := h
    rfl
  · obtain ⟨bx, c, m, rfl, m0, m1, c1, ⟨a, b, n, hb, a0, b0, b1, n0, n1⟩, q⟩ := h
    refine ⟨_, (pss_cons (ps_if (pt_cmpR op_gt (pe_ix ix_list (pv 0) pe_int (fun _ _ => rfl)) pe_int (nomark _))
        (pss_cons (ps_set (i := 2) sc_take.nd rfl (.inl rfl) (pe_op op_mod (pe_ix ix_list (pv 0) pe_int (fun _ _ => rfl)) (pv 1)))
        (pss_cons (ps_asg (pe_op op_fdiv (pe_ix ix_list (pv 0) pe_int (fun _ _ => rfl)) (pv 1)) (pg_sub (pv 0) pe_int set_list))
        (pss_one (ps_ret (pv 2)))))
        pss_nil)
      (pss_cons (ps_asg (pe_op op_add (pe_ix ix_list (pv 0) pe_int (fun _ _ => rfl)) pe_int) (pg_sub (pv 0) pe_int set_list))
      (pss_cons (ps_set (i := 3) sc_take.nd rfl (.inl rfl) (pe_op op_mod (pe_op op_pow (pe_op op_add (pe_ix ix_list (pv 0) pe_int (fun _ _ => rfl)) (pe_op op_mul pe_int (pe_ix ix_list (pv 0) pe_int (fun _ _ => rfl)))) pe_int) pe_int))
      (pss_cons (ps_set (i := 4) sc_take.nd rfl (.inl rfl) (pe_op op_mod (pe_op op_mul (pe_op op_add (pe_op op_add (pv 3) (pe_ix ix_list (pv 0) pe_int (fun _ _ => rfl))) (pe_op op_fdiv (pe_ix ix_list (pv 0) pe_int (fun _ _ => rfl)) pe_int)) (pe_op op_add (pe_op op_add (pe_op op_mod (pv 3) pe_int) pe_int) (pe_ix ix_list (pv 0) pe_int (fun _ _ => rfl)))) pe_int))
      (pss_one (ps_ret (pe_op op_mod (pe_op op_fdiv (pe_op op_mod (pe_op op_add (pe_op op_mul (pv 4) pe_int) (pv 3)) pe_int) pe_int) (pv 1)))))))), ?_⟩
    have i0 : ∀ x y z : V, atI [x, y, z] 0 = some x := fun _ _ _ => rfl
    have i1 : ∀ x y z : V, atI [x, y, z] 1 = some y := fun _ _ _ => rfl
    have i2 : ∀ x y z : V, atI [x, y, z] 2 = some z := fun _ _ _ => rfl
    have hS : SqL K H bx [.int a, .int b, .int n] := .inl (.inl hb)
    refine ⟨.ref bx, rfl, bx, _, 0, _, rfl, rfl, hS, i0 _ _ _, a, 0, rfl, rfl, _, rfl, ite2 (fun e => ?_) (fun e => ?_)⟩
    · refine ⟨.ref bx, rfl, bx, _, 0, _, rfl, rfl, hS, i0 _ _ _, .int m, rfl, a, m, rfl, rfl, m0, ?_⟩
      refine ⟨.ref bx, rfl, bx, _, 0, _, rfl, rfl, hS, i0 _ _ _, .int m, rfl, a, m, rfl, rfl, ⟨m0, by omega⟩, ?_⟩
      refine ⟨.ref bx, rfl, bx, _, 0, 0, rfl, rfl, hb, rfl, ?_⟩
      refine ⟨.int (a % m), rfl, q _ _ (Int.emod_nonneg _ (by omega)) (Int.emod_lt_of_pos _ m0) (Ext.refl _).box ⟨a / m, b, n, upd_same, Int.ediv_nonneg a0 (by omega), b0, b1, n0, by omega⟩⟩
    · have n2 : n + 1 ≤ 1000000001 := by omega
      refine ⟨.ref bx, rfl, bx, _, 2, _, rfl, rfl, hS, i2 _ _ _, n, 1, rfl, rfl, .ref bx, rfl, bx, _, 2, 2, rfl, rfl, hb, rfl, ?_⟩
      generalize hH1 : upd H bx (.lst (List.set [V.int a, .int b, .int n] 2 (.int (n + 1)))) = H1
      have hb1 : H1 bx = some (.lst [.int a, .int b, .int (n + 1)]) := by rw [← hH1]; exact upd_same
      have hS1 : SqL K H1 bx [.int a, .int b, .int (n + 1)] := .inl (.inl hb1)
      have bB : Box bx (c + 1) H1 := ⟨a, b, n + 1, hb1, a0, b0, b1, by omega, by omega⟩
      have eE : Ext bx H H1 := by rw [← hH1]; exact (Ext.refl _).box
      refine ⟨.ref bx, rfl, bx, _, 1, _, rfl, rfl, hS1, i1 _ _ _, .ref bx, rfl, bx, _, 2, _, rfl, rfl, hS1, i2 _ _ _, 39373, n + 1, rfl, rfl, .inl ⟨by decide, by decide⟩, b, _, rfl, rfl, _, 5, rfl, rfl, ⟨by decide, by decide, ?_⟩, _, 2147483647, rfl, rfl, by show (0 : Int) < 2147483647; decide, ?_⟩
      · omega
      dsimp only
      generalize hx : (b + 39373 * (n + 1)) ^ (5 : Int).toNat % 2147483647 = x
      have x0 : 0 ≤ x := by rw [← hx]; exact Int.emod_nonneg _ (by decide)
      have x1 : x < 2147483647 := by rw [← hx]; exact Int.emod_lt_of_pos _ (by decide)
      have d0 : 0 ≤ b / 1000003 := Int.ediv_nonneg b0 (by decide)
      have d1 : b / 1000003 ≤ b := Int.ediv_le_self _ b0
      have e0 : 0 ≤ x % 40009 := Int.emod_nonneg _ (by decide)
      have e1 : x % 40009 < 40009 := Int.emod_lt_of_pos _ (by decide)
      refine ⟨.int x, rfl, .ref bx, rfl, bx, _, 2, _, rfl, rfl, hS1, i2 _ _ _, x, n + 1, rfl, rfl, .ref bx, rfl, bx, _, 1, _, rfl, rfl, hS1, i1 _ _ _, b, 1000003, rfl, rfl, ⟨by decide, by decide⟩, _, _, rfl, rfl,
        .int x, rfl, x, 40009, rfl, rfl, by show (0 : Int) < 40009; decide, _, 7, rfl, rfl, .ref bx, rfl, bx, _, 2, _, rfl, rfl, hS1, i2 _ _ _, _, n + 1, rfl, rfl, _, _, rfl, rfl, .inr ⟨?_, ?_⟩, _, 2147483629, rfl, rfl, by show (0 : Int) < 2147483629; decide, ?_⟩
      · omega
      · omega
      dsimp only
      generalize hy : (x + (n + 1) + b / 1000003) * (x % 40009 + 7 + (n + 1)) % 2147483629 = y
      have y0 : 0 ≤ y := by rw [← hy]; exact Int.emod_nonneg _ (by decide)
      have y1 : y < 2147483629 := by rw [← hy]; exact Int.emod_lt_of_pos _ (by decide)
      refine ⟨.int y, rfl, y, 48271, rfl, rfl, .inr ⟨by decide, by decide⟩, .int x, rfl, _, x, rfl, rfl, _, 2147483587, rfl, rfl, by show (0 : Int) < 2147483587; decide, _, 64, rfl, rfl, ⟨by decide, by decide⟩, .int m, rfl, _, m, rfl, rfl, m0, ?_⟩
      exact q _ _ (Int.emod_nonneg _ (by omega)) (Int.emod_lt_of_pos _ m0) eE bB
def spDip (K : PySem.W.Frag) : Sp := fun vs H Q _ => ∃ (a : Addr) (ns : List Int) (k : Nat), vs = [.ref a, .int k] ∧ SqL K H a (ns.map V.int) ∧ k ≤ 1000 ∧
  ∀ (bx : Addr) (H' : Hp), Same H H' → H bx = none → Box bx 0 H' → Q (.ref bx) H'
theorem ok_dip (T : Txt K mg w) : FnOk P w K mg base CX0 1 T.f_dip T.fd_dip p_dip (spDip K) := by
  refine T.F_dip.ok sc_dip (fun vs H Q E h => ?_) (fun cdv A outer s H vs Q E hr h => ?_)
  · obtain ⟨a, ns, k, rfl, _⟩ := h
    rfl
  · obtain ⟨a, ns, k, rfl, hS, hk, q⟩ := h
    refine ⟨_, (pss_cons (ps_set (i := 2) sc_dip.nd rfl (.inl rfl) (pe_ifExp (pt_cmpR op_lt (pv 1) (pe_callB call_len_seq (by rfl) T.m_len (by decide +kernel) (pa_cons (pv 0) pa_nil)) (nomark _)) (pe_ix ix_list (pv 0) (pv 1) (fun _ _ => rfl)) pe_int))
      (pss_one (ps_ret (pe_lst (pa_cons (pe_op op_mul (pe_callB call_abs (by rfl) T.m_abs (by decide +kernel) (pa_cons (pv 2) pa_nil)) (pe_callTy call_int1 (by rfl) T.m_int (by decide +kernel) (pa_cons (pe_cmpR op_ge (pe_callB call_abs (by rfl) T.m_abs (by decide +kernel) (pa_cons (pv 2) pa_nil)) (pe_op op_pow pe_int pe_int) (nomark _)) pa_nil))) (pa_cons (pe_op op_add (pe_op op_add (pe_op op_mod (pv 2) pe_int) (pe_op op_mul pe_int (pv 1))) pe_int) (pa_cons pe_int pa_nil))))))), ?_⟩
    show tIf _ _ _ _ _ _
    refine use (fun v H' => ∃ x : Int, v = .int x ∧ H' = H) (fun Q' hQ => ?_) ?_
    · refine ⟨.int k, rfl, .ref a, rfl, a, _, rfl, .inl hS, k, _, rfl, rfl, _, rfl, ite2 (fun e => ?_) (fun e => ?_)⟩
      · have hk2 : k < ns.length := by
          have := of_decide_eq_true e
          rw [List.length_map] at this
          omega
        exact ⟨.ref a, rfl, .int k, rfl, a, _, k, .int ns[k], rfl, rfl, hS, atI_nat (by rw [List.getElem?_map, List.getElem?_eq_getElem hk2]; rfl), hQ _ _ ⟨_, rfl, rfl⟩⟩
      · exact hQ _ _ ⟨0, rfl, rfl⟩
    · rintro v H' ⟨x, rfl, rfl⟩
      have m0 : 0 ≤ x % 2305843009213693951 := Int.emod_nonneg _ (by decide)
      have m1 : x % 2305843009213693951 < 2305843009213693951 := Int.emod_lt_of_pos _ (by decide)
      refine ⟨.int x, rfl, x, rfl, .int x, rfl, x, rfl, 10, 18, rfl, rfl, ⟨by decide, by decide, by decide⟩, _, _, rfl, rfl, .inr ⟨_, rfl, ?_⟩⟩
      have bnd : ∀ b : Bool, (0 : Int) ≤ (if b then 1 else 0) ∧ (if b then (1 : Int) else 0) ≤ 1 := fun b => by cases b <;> decide
      refine ⟨_, _, rfl, rfl, .inr ⟨Int.lt_of_lt_of_le (by decide) (bnd _).1, Int.lt_of_le_of_lt (bnd _).2 (by decide)⟩, .int x, rfl, x, 2305843009213693951, rfl, rfl, by show (0 : Int) < 2305843009213693951; decide, .int k, rfl, 39373, k, rfl, rfl, .inl ⟨by decide, by decide⟩, _, _, rfl, rfl, _, 17, rfl, rfl, by show 3 ≤ sizeLine; decide, fun p hp => ?_⟩
      refine q p _ (same_upd hp) hp ⟨_, _, 0, upd_same, ?_, ?_, ?_, by decide, by decide⟩
      · refine Int.mul_nonneg ?_ (bnd _).1
        split <;> omega
      · show 0 ≤ x % 2305843009213693951 + 39373 * (k : Int) + 17
        omega
      · show x % 2305843009213693951 + 39373 * (k : Int) + 17 < 2 ^ 62
        omega
end
end Lh

namespace Lh
open PySem PySem.Spec PyProof.Rows L2
def cutI {α : Type} (xs : List α) (lo hi : Option Int) : List α := (xs.drop (HT.sIx xs.length 0 lo)).take (HT.sIx xs.length xs.length hi - HT.sIx xs.length 0 lo)
theorem cut_map {α : Type} (f : α → V) (xs : List α) (lo hi : Option Int) : cutV (xs.map f) lo hi = (cutI xs lo hi).map f := by
  unfold cutV cutI
  rw [List.length_map, List.map_take, List.map_drop]
theorem cutI_head {α : Type} (xs : List α) : (cutI xs none (some 3)).length = min 3 xs.length := by
  unfold cutI
  rw [HT.sIx_none, show HT.sIx xs.length xs.length (some 3) = min 3 xs.length from HT.sIx_nat xs.length _ 3, List.length_take, List.length_drop]
  omega
theorem cutI_tail {α : Type} (xs : List α) (h : xs.length ≤ 3) : (cutI xs (some 3) (some 63)).length = 0 := by
  unfold cutI
  rw [show HT.sIx xs.length 0 (some 3) = min 3 xs.length from HT.sIx_nat xs.length _ 3, List.length_take, List.length_drop]
  omega
section
variable {P : Program} {w : World} {K : PySem.W.Frag} {mg : Str → Option Value} {base : Heap}
def spFolded (K : PySem.W.Frag) : Sp := fun vs H Q _ => ∃ (a : Addr) (ns : List Int), vs = [.ref a, .int 3] ∧ SqL K H a (ns.map V.int) ∧ ns.length ≤ 63 ∧
  ∀ (p : Addr) (ms : List Int) (H' : Hp), Same H H' → H p = none → H' p = some (.lst (ms.map V.int)) → ms.length ≤ 3 → Q (.ref p) H'
theorem ok_folded (T : Txt K mg w) : FnOk P w K mg base CX0 1 T.f_folded T.fd_folded p_folded (spFolded K) := by
  refine T.F_folded.ok sc_folded (fun vs H Q E h => ?_) (fun cdv A outer s H vs Q E hr h => ?_)
  · obtain ⟨a, ns, rfl, _⟩ := h
    rfl
  · obtain ⟨a, ns, rfl, hS, hl, q⟩ := h
    refine ⟨_, (pss_cons (ps_set (i := 2) sc_folded.nd rfl (.inl rfl) (pe_callTy call_list_of (by rfl) T.m_list (by decide +kernel) (pa_cons (pe_slice sl_list (pv 0) po_none (po_some (pv 1))) pa_nil)))
      (pss_cons (ps_for PassesOwn.never rfl (pi_enum (by rfl) T.m_enumerate (pa_cons (pe_slice sl_list (pv 0) (po_some (pv 1)) (po_some pe_int)) pa_nil)) (pg_tup rfl (pgs_cons (pg_name (i := 3) sc_folded.nd rfl (.inl rfl)) (pgs_cons (pg_name (i := 4) sc_folded.nd rfl (.inl rfl)) pgs_nil)))
        (pss_one (ps_asg (pe_op op_add (pe_ix ix_list (pv 2) (pe_op op_mod (pv 3) (pv 1)) (fun _ _ => rfl)) (pe_op op_mul (pv 4) (pe_op op_add (pv 3) pe_int))) (pg_sub (pv 2) (pe_op op_mod (pv 3) (pv 1)) set_list))))
      (pss_one (ps_ret (pv 2))))), ?_⟩
    -- the cells
    refine ⟨.ref a, rfl, .int 3, rfl, 3, rfl, a, _, rfl, hS, fun c nc => ?_⟩
    have s1 := same_upd (o := .lst (cutV (ns.map V.int) none (some 3))) nc
    refine ⟨c, _, rfl, .inl (.inl (.inl upd_same)), fun l nl => ?_⟩
    have s2 := s1.trans (same_upd (o := .lst (cutV (ns.map V.int) none (some 3))) nl)
    have nlH : H l = none := s1.free nl
    -- the rest of the script
    refine ⟨.ref a, rfl, .int 3, rfl, 3, rfl, 63, rfl, a, _, rfl, s2.seq hS, fun d nd => ?_⟩
    have s3 := s2.trans (same_upd (o := .lst (cutV (ns.map V.int) (some 3) (some 63))) nd)
    have nld : l ≠ d := ne_of_none upd_same nd
    refine ⟨d, _, rfl, .inl (.inl upd_same), ?_⟩
    rw [cut_map V.int, cut_map V.int] at *
    refine for_it (walk_enum (xs := (cutI ns (some 3) (some 63)).map V.int)) (fun i σ H3 => ∃ (y3 y4 : Option V) (ms : List Int), σ = [some (.ref a), some (.int 3), some (.ref l), y3, y4] ∧ Same H H3 ∧ H3 d = some (.lst ((cutI ns (some 3) (some 63)).map V.int)) ∧ H3 l = some (.lst (ms.map V.int)) ∧ ms.length = min 3 ns.length) ?_ ?_ ?_ ?_
    · refine ⟨none, none, cutI ns none (some 3), rfl, s3, upd_same, ?_, cutI_head ns⟩
      rw [upd_ne nld, upd_same]
    · rintro i σ H3 _ ⟨y3, y4, ms, rfl, _, hd, _⟩
      exact .inl (.inl hd)
    · rintro i x σ H3 H4 hi ⟨y3, y4, ms, rfl, sm, hd, hl3, hm⟩ ⟨t, x1, x2, rfl, nt, rfl, e1, e2⟩
      rw [List.length_map] at hi
      have e1' : V.int (i : Nat) = x1 := Option.some.inj e1
      subst e1'
      have e2' : x2 = .int (cutI ns (some 3) (some 63))[i] := by
        have : ((cutI ns (some 3) (some 63)).map V.int)[i]? = some x2 := e2
        rw [List.getElem?_map, List.getElem?_eq_getElem hi] at this
        exact (Option.some.inj this).symm
      subst e2'
      have h3 : ms.length = 3 := by
        by_cases hc : ns.length ≤ 3
        · rw [cutI_tail ns hc] at hi; omega
        · omega
      have nlt : l ≠ t := ne_of_none hl3 nt
      have hl4 : (upd H3 t (.tup [.int (i : Nat), .int (cutI ns (some 3) (some 63))[i]])) l = some (.lst (ms.map V.int)) := by rw [upd_ne nlt]; exact hl3
      have hlt : ((i : Int) % 3).toNat < ms.length := by omega
      refine ⟨t, _, rfl, .inl (.inl upd_same), rfl, _, _, rfl, _, _, rfl, rfl, ?_⟩
      refine ⟨.ref l, rfl, .int i, rfl, .int 3, rfl, i, 3, rfl, rfl, by show (0 : Int) < 3; decide, l, _, _, .int ms[((i : Int) % 3).toNat], rfl, rfl, .inl (.inl hl4), ?_, ?_⟩
      · refine at_of (j := ((i : Int) % 3).toNat) (by omega) ?_
        rw [List.getElem?_map, List.getElem?_eq_getElem hlt]; rfl
      refine ⟨_, rfl, .int i, rfl, i, 2, rfl, rfl, _, _, rfl, rfl, .inr ⟨by omega, ?_⟩, _, _, rfl, rfl, .ref l, rfl, .int i, rfl, .int 3, rfl, i, 3, rfl, rfl, by show (0 : Int) < 3; decide, l, _, _, ((i : Int) % 3).toNat, rfl, rfl, hl4, ?_, ?_⟩
      · have : (cutI ns (some 3) (some 63)).length ≤ ns.length := by
          unfold cutI; rw [List.length_take, List.length_drop]; omega
        omega
      · show ixN (ms.map V.int).length ((i : Int) % 3) = some _
        unfold ixN
        rw [List.length_map, if_pos (by omega), if_pos (by omega)]
      · refine ⟨_, _, ms.set ((i : Int) % 3).toNat (ms[((i : Int) % 3).toNat] + (cutI ns (some 3) (some 63))[i] * ((i : Int) + 2)), rfl, ?_, ?_, ?_, ?_⟩
        · exact fun b o e => by
            rw [upd_ne (ne_of_none e nlH), upd_ne (ne_of_none (sm b o e) nt)]
            exact sm b o e
        · rw [upd_ne nld.symm, upd_ne (ne_of_none hd nt)]
          exact hd
        · rw [upd_same, List.map_set]
        · rw [List.length_set]; exact hm
    · rintro σ H3 ⟨y3, y4, ms, rfl, sm, hd, hl3, hm⟩
      exact ⟨.ref l, rfl, q l ms H3 sm nlH hl3 (by omega)⟩
end
end Lh

namespace Lh
open PySem PySem.Spec PyProof.Rows L2
/-- data of at most n levels, no level longer than 1000 -/
def okD : Nat → PyData → Prop
  | _, .none => True
  | _, .bool _ => True
  | _, .int _ => True
  | _, .str _ => True
  | n + 1, .list ds => ds.length ≤ 8388608 ∧ ∀ d ∈ ds, okD n d
  | n + 1, .tuple ds => ds.length ≤ 8388608 ∧ ∀ d ∈ ds, okD n d
  | _, _ => False
def tyD : PyData → String
  | .none => "NoneType"
  | .bool _ => "bool"
  | .int _ => "int"
  | .str _ => "str"
  | .list _ => "list"
  | .tuple _ => "tuple"
  | .dict _ => "dict"
theorem Rp.ty {bx : Addr} {K : PySem.W.Frag} {H : Hp} {v : V} {d : PyData} (h : Rp bx H v d) : TyX K H v (.type (tyD d)) := by
  cases h with
  | non => exact .base .non
  | bl b => exact .base (.bl b)
  | int i => exact .base (.int i)
  | str x => exact .base (.str x)
  | lst h _ _ => exact .base (.lst h)
  | tup h _ _ => exact h.ty
theorem iteP {A B : Prop} {c : Bool} (h : c = true) (a : A) : if c = true then A else B := by rw [if_pos h]; exact a
theorem iteN {A B : Prop} {c : Bool} (h : c = false) (b : B) : if c = true then A else B := by rw [h, if_neg Bool.false_ne_true]; exact b
theorem yes {σ : L2.St} {H : Hp} {Q : Bool → Hp → Prop} (h : Q true H) : tYes σ H Q := h
theorem blC {Q : VK} {c d : Bool} {H : Hp} (h : c = d) (q : Q (.bl d) H) : Q (.bl c) H := by rw [h]; exact q
theorem blT {Q : VK} {c : Bool} {H : Hp} (h : c = true) (q : Q (.bl true) H) : Q (.bl c) H := by rw [h]; exact q
/-- isinstance(name, T) -/
theorem rd_isi {K : PySem.W.Frag} {σ : L2.St} {H : Hp} {Q : VK} {i : Nat} {x : V} {T c : String} {b : Bool} (hs : σ[i]? = some (some x)) (ty : TyX K H x (.type T)) (h : kitB T c = some b) (q : Q (.bl b) H) :
    tCB (rIsi K) (tCons (tVar i) (tCons (tC (.ty c)) tNil)) σ H Q := ⟨x, hs, x, .ty c, .type T, .type c, b, rfl, .ty c, ty, kit_ty h, q⟩
/-- isinstance(name, (T, U)) -/
theorem rd_isi2 {K : PySem.W.Frag} {σ : L2.St} {H : Hp} {Q : VK} {i : Nat} {x : V} {T c e : String} {b b2 : Bool} (hs : σ[i]? = some (some x)) (ty : TyX K H x (.type T)) (h : kitB T c = some b) (h2 : kitB T e = some b2)
    (q : ∀ p, H p = none → Q (.bl (b || b2)) (upd H p (.tup [.ty c, .ty e]))) (ty2 : ∀ p, H p = none → TyX K (upd H p (.tup [.ty c, .ty e])) x (.type T)) :
    tCB (rIsiT K) (tCons (tVar i) (tCons (tTup (tCons (tC (.ty c)) (tCons (tC (.ty e)) tNil))) tNil)) σ H Q :=
  ⟨x, hs, by show 2 ≤ sizeLine; decide, fun p hp => ⟨x, p, _, .type T, [.type c, .type e], b || b2, rfl, upd_same, .cons (.ty c) (.cons (.ty e) .nil), ty2 p hp, kitAny_cons (kit_ty h) (fun z => kitAny_cons (kit_ty h2) (fun z2 => by rw [z, z2]; rfl) (fun z2 => by rw [z2, Bool.or_true])) (fun z => by rw [z, Bool.true_or]), q p hp⟩⟩
theorem walk_zipT {K : PySem.W.Frag} {a b : Addr} {xs ys : List V} {n : Nat} (h1 : xs.length = n) (h2 : ys.length = n) : Walk (RZ.ItzT K a b) n (fun H => SqT K H a xs ∧ SqT K H b ys) (YPair (fun i => xs[i]?) (fun i => ys[i]?)) := by
  refine ⟨fun i _ hi q => ⟨xs, ys, xs[i], ys[i], q.1, q.2, by simp [h1, hi], by simp [h2, hi]⟩, fun _ q => ⟨xs, ys, q.1, q.2, .inl (by omega)⟩, ?_⟩
  rintro i H v H' _ q ⟨T, x, z, h1, h2, h3, h4, h5⟩
  exact ⟨T, x, z, h1, h2, h3, h4 xs q.1, h5 ys q.2⟩
def lcSc : Expr → Scope
  | .ListComp _ _ sc _ => sc
  | _ => { kind := .function, names := [], isGenerator := false, isCoroutine := false }
def retE : List Stmt → Expr
  | [.Return (some e) _] => e
  | _ => .Constant .none 0 ⟨0, 0, 0, 0⟩
def argE : Expr → Expr
  | .Call _ (e :: _) _ _ => e
  | e => e
def isCell (osc : Scope) (k : NameKind) (n : Str) : Bool := k == .free && osc.kind == .function && osc.names.lookup n == some .cell
/-- the names of an inner scope, as the outer one has them -/
def relS (sc osc : Scope) : Scope := { sc with names := sc.names.map fun z => if isCell osc z.2 z.1 = true then (z.1, .cell) else (z.1, z.2) }
def rTupN (K : PySem.W.Frag) : List V → Hp → VK → Prop := fun xs H Q => ∃ p ys, xs = [.ref p] ∧ SqL K H p ys ∧ ∀ l (o : Obj), H l = none → o.dict = none → Q (.ref l) (upd H l (.frz o (.tup ys)))
theorem blkOk_sc {N : List Str} {sc sc2 scope : Scope} {own : List (Str × Nat)} (e : sc = sc2) (h : blkC N sc2 scope own = true) : BlkOk N sc scope own := by
  subst e
  exact blkOk_by h
def asgE : Stmt → Expr
  | .Assign _ e _ => e
  | _ => .Constant .none 0 ⟨0, 0, 0, 0⟩
def forB : Stmt → List Stmt
  | .For _ _ b _ _ => b
  | _ => []
def noS : Stmt := .Pass ⟨0, 0, 0, 0⟩
def rLenQ (K : PySem.W.Frag) : List V → Hp → VK → Prop := fun xs H Q => ∃ p ys, xs = [.ref p] ∧ (SqL K H p ys ∨ SqT K H p ys) ∧ Q (.int ys.length) H
section
variable {P : Program} {w : World} {K : PySem.W.Frag} {mg : Str → Option Value} {base : Heap}
end
end Lh

namespace Lh
open PySem PySem.Spec PyProof.Rows L2
/-! ### rules -/
inductive Rule where
  | held (n : Int)
  | sum (own : Int) (ties : List (Int × Int))
  | cap (own : Int) (ties : List (Int × Int)) (most : Int)
  | kinds (own : Int) (seen : List Int)
  | next (seen : List Int)
  | free (seen : List Int)
/-- tuples stay -/
structure Keep (H H' : Hp) : Prop where
  tup : ∀ a xs, H a = some (.tup xs) → H' a = some (.tup xs)
  frz : ∀ a o u, H a = some (.frz o u) → H' a = some (.frz o u)
theorem Keep.refl (H : Hp) : Keep H H := ⟨fun _ _ h => h, fun _ _ _ h => h⟩
theorem Keep.trans {H H1 H2 : Hp} (a : Keep H H1) (b : Keep H1 H2) : Keep H H2 := ⟨fun x y h => b.tup x y (a.tup x y h), fun x y z h => b.frz x y z (a.frz x y z h)⟩
theorem Keep.same {H H' : Hp} (e : Same H H') : Keep H H' := ⟨fun a xs h => e a _ h, fun a o u h => e a _ h⟩
theorem Keep.ext {bx : Addr} {c : Int} {H H' : Hp} (e : Ext bx H H') (b : Box bx c H) : Keep H H' := by
  obtain ⟨x, y, z, hb, _⟩ := b
  exact ⟨fun a xs h => e a _ (ne_of h hb (by intro z; cases z)) h, fun a o u h => e a _ (ne_of h hb (by intro z; cases z)) h⟩
theorem TupAt.keep {H H' : Hp} {a : Addr} {xs : List V} (k : Keep H H') (h : TupAt H a xs) : TupAt H' a xs := by
  rcases h with h | ⟨o, d, h⟩
  · exact .inl (k.tup _ _ h)
  · exact .inr ⟨o, d, k.frz _ _ _ h⟩
def PairAtH (H : Hp) (p : Addr) (q : Int × Int) : Prop := H p = some (.tup [.int q.1, .int q.2])
def TiesAt (H : Hp) (t : Addr) (ties : List (Int × Int)) : Prop := ∃ (o : Obj) (ps : List Addr), o.dict = none ∧ H t = some (.frz o (.tup (ps.map V.ref))) ∧ Paired (PairAtH H) ps ties
def SeenAt (H : Hp) (t : Addr) (seen : List Int) : Prop := TupAt H t (seen.map V.int)
def RuleAt (H : Hp) (v : V) : Rule → Prop
  | .held n => ∃ a, v = .ref a ∧ H a = some (.tup [.str "held", .int n])
  | .sum own ties => ∃ a t, v = .ref a ∧ H a = some (.tup [.str "sum", .int own, .ref t]) ∧ TiesAt H t ties
  | .cap own ties most => ∃ a t, v = .ref a ∧ H a = some (.tup [.str "cap", .int own, .ref t, .int most]) ∧ TiesAt H t ties
  | .kinds own seen => ∃ a t, v = .ref a ∧ H a = some (.tup [.str "kinds", .int own, .ref t]) ∧ SeenAt H t seen
  | .next seen => ∃ a t, v = .ref a ∧ H a = some (.tup [.str "next", .ref t]) ∧ SeenAt H t seen
  | .free seen => ∃ a t, v = .ref a ∧ H a = some (.tup [.str "free", .ref t]) ∧ SeenAt H t seen
theorem pairs_keep {H H' : Hp} (k : Keep H H') : ∀ {ps : List Addr} {ties : List (Int × Int)}, Paired (PairAtH H) ps ties → Paired (PairAtH H') ps ties
  | _, _, .nil => .nil
  | _, _, .cons h r => .cons (k.tup _ _ h) (pairs_keep k r)
theorem TiesAt.keep {H H' : Hp} {t : Addr} {ties : List (Int × Int)} (k : Keep H H') (h : TiesAt H t ties) : TiesAt H' t ties := by
  obtain ⟨o, ps, h1, h2, h3⟩ := h
  exact ⟨o, ps, h1, k.frz _ _ _ h2, pairs_keep k h3⟩
theorem SeenAt.keep {H H' : Hp} {t : Addr} {seen : List Int} (k : Keep H H') (h : SeenAt H t seen) : SeenAt H' t seen := TupAt.keep k h
theorem RuleAt.keep {H H' : Hp} {v : V} (k : Keep H H') : ∀ {r : Rule}, RuleAt H v r → RuleAt H' v r
  | .held n, ⟨a, e, h⟩ => ⟨a, e, k.tup _ _ h⟩
  | .sum _ _, ⟨a, t, e, h, q⟩ => ⟨a, t, e, k.tup _ _ h, q.keep k⟩
  | .cap _ _ _, ⟨a, t, e, h, q⟩ => ⟨a, t, e, k.tup _ _ h, q.keep k⟩
  | .kinds _ _, ⟨a, t, e, h, q⟩ => ⟨a, t, e, k.tup _ _ h, q.keep k⟩
  | .next _, ⟨a, t, e, h, q⟩ => ⟨a, t, e, k.tup _ _ h, q.keep k⟩
  | .free _, ⟨a, t, e, h, q⟩ => ⟨a, t, e, k.tup _ _ h, q.keep k⟩
def smallI (i : Int) : Prop := 0 ≤ i ∧ i ≤ 1000
/-- rising persons below many -/
def Rising (many : Int) (ns : List Int) : Prop := ns.Pairwise (· < ·) ∧ ∀ n ∈ ns, 0 ≤ n ∧ n < many
def Rule.Wf (many : Int) : Rule → Prop
  | .held n => smallI n
  | .sum own ties => smallI own ∧ Rising many (ties.map (·.1)) ∧ ∀ q ∈ ties, 1 ≤ q.2 ∧ q.2 ≤ 1000
  | .cap own ties most => smallI own ∧ Rising many (ties.map (·.1)) ∧ (∀ q ∈ ties, 1 ≤ q.2 ∧ q.2 ≤ 1000) ∧ smallI most
  | .kinds own seen => smallI own ∧ Rising many seen
  | .next seen => Rising many seen
  | .free seen => Rising many seen
def Rule.persons : Rule → List Int
  | .held _ => []
  | .sum _ ties => ties.map (·.1)
  | .cap _ ties _ => ties.map (·.1)
  | .kinds _ seen => seen
  | .next seen => seen
  | .free seen => seen
theorem Rising.sub {many : Int} {ns ms : List Int} (s : ms.Sublist ns) (h : Rising many ns) : Rising many ms := ⟨h.1.sublist s, fun n hn => h.2 n (s.subset hn)⟩
/-- an item of a written list -/
theorem pick {xs : List V} {i : Int} (h0 : 0 ≤ i) (h1 : i < xs.length) : ∃ v, v ∈ xs ∧ atI xs i = some v := by
  have hj : i.toNat < xs.length := by omega
  exact ⟨xs[i.toNat], List.getElem_mem hj, at_of (by omega) (List.getElem?_eq_getElem hj)⟩
section
variable {P : Program} {w : World} {K : PySem.W.Frag} {mg : Str → Option Value} {base : Heap}
def spSome : Sp := fun vs H Q _ => ∃ (bx p : Addr) (c m : Int) (ns : List Int), vs = [.ref bx, .ref p, .int m] ∧ 0 < m ∧ m ≤ 1000000 ∧ c + ns.length ≤ 1000000000 ∧ ns.length ≤ 1000 ∧ Box bx c H ∧ H p = some (.lst (ns.map V.int)) ∧ p ≠ bx ∧
  ∀ (q : Addr) (ms : List Int) (H' : Hp), Ext bx H H' → Box bx (c + ns.length) H' → H q = none → H' q = some (.lst (ms.map V.int)) → ms.Sublist ns → Q (.ref q) H'
theorem ok_some (T : Txt K mg w) : FnOk P w K mg base CX0 2 T.f_some T.fd_some p_some spSome := by
  have G_take := ok_take (P := P) (w := w) (base := base) T
  refine T.F_some.ok sc_some (fun vs H Q E h => ?_) (fun cdv A outer s H vs Q E hr h => ?_)
  · obtain ⟨bx, p, c, m, ns, rfl, _⟩ := h
    rfl
  · obtain ⟨bx, p, c, m, ns, rfl, m0, m1, c1, hl, hB, hp, np, q⟩ := h
    refine ⟨_, (pss_one (ps_ret (pe_lc (own := [("_law_one", 3)]) (g := gName 3) (by rfl) sc_some.nd (pi_list (pv 1)) (blkOk_by (own := [("_law_one", 3)]) (N := n_some) (sc := defScope s_some) (by decide +kernel)) (fun _ _ _ _ _ => (pg_name (i := 3) sc_some.nd rfl (.inl rfl) (.inr rfl))) (fun _ _ _ _ _ => (pts_one (pt_cmpR op_eq (pe_call G_take (hr.mono (by decide)) (by rfl) T.g_take T.F_take.kp T.b_take .nil pass0 (pa_cons (pv 0) (pa_cons (pv 2) pa_nil))) pe_int (nomark _)))) (fun _ _ _ _ _ => (pv 3))))), ?_⟩
    refine ⟨.ref p, rfl, p, rfl, ⟨_, .inl (.inl hp)⟩, fun D hD => ?_⟩
    have nD : D ≠ bx := hB.ne hD
    refine lc_it (walk_list (xs := ns.map V.int)) (fun i H3 => ∃ ms : List Int, Ext bx H H3 ∧ Box bx (c + i) H3 ∧ H3 D = some (.lst (ms.map V.int)) ∧ ms.Sublist (ns.take i)) ⟨[], (Ext.refl _).new hD, by simpa using hB.new hD, upd_same, List.nil_sublist _⟩ ?_ ?_ ?_
    · rintro i H3 _ ⟨ms, e, _⟩
      exact .inl (.inl (e _ _ np hp))
    · rintro i x H3 H4 hi ⟨ms, e, hb, hD3, sub⟩ ⟨rfl, hx⟩
      rw [List.length_map] at hi
      rw [List.getElem?_map, List.getElem?_eq_getElem hi] at hx
      have ex : x = .int ns[i] := (Option.some.inj hx).symm
      subst ex
      have tk : ns.take (i + 1) = ns.take i ++ [ns[i]] := by rw [List.take_add_one, List.getElem?_eq_getElem hi]; rfl
      have ml : ms.length ≤ i := Nat.le_trans sub.length_le (by rw [List.length_take]; omega)
      refine ⟨rfl, ?_⟩
      refine ⟨.ref bx, rfl, .int m, rfl, bx, c + i, m, rfl, m0, m1, by omega, hb, fun r H5 r0 r1 e5 b5 => ?_⟩
      have hD5 := e5 _ _ nD hD3
      have b6 : Box bx (c + (i + 1 : Nat)) H5 := b5.mono (by omega)
      refine ⟨rfl, _, rfl, ite2 (fun z => ?_) (fun z => ?_)⟩
      · refine ⟨.int ns[i], rfl, _, hD5, by rw [List.length_map]; exact small1000 (by omega), ms ++ [ns[i]], (e.trans e5).new hD, b6.at nD, ?_, ?_⟩
        · rw [upd_same, List.map_append]; rfl
        · rw [tk]; exact sub.append (List.Sublist.refl _)
      · refine ⟨ms, e.trans e5, b6, hD5, ?_⟩
        rw [tk]; exact sub.trans (List.sublist_append_left _ _)
    · rintro H3 ⟨ms, e, hb, hD3, sub⟩
      rw [List.length_map] at hb sub
      rw [List.take_length] at sub
      exact q D ms H3 e hb hD hD3 sub
end
end Lh

namespace Lh
open PySem PySem.Spec PyProof.Rows L2
section
variable {P : Program} {w : World} {K : PySem.W.Frag} {mg : Str → Option Value} {base : Heap}
theorem Paired.snoc {α β : Type} {R : α → β → Prop} {x : α} {y : β} (r : R x y) : ∀ {xs : List α} {ys : List β}, Paired R xs ys → Paired R (xs ++ [x]) (ys ++ [y])
  | _, _, .nil => .cons r .nil
  | _, _, .cons h t => .cons h (Paired.snoc r t)
def spSumRule : Sp := fun vs H Q _ => ∃ (bx p : Addr) (c far many : Int) (ns : List Int), vs = [.ref bx, .ref p, .int far] ∧ 0 < far ∧ far ≤ 999 ∧ c + 2 * ns.length + 4 ≤ 1000000000 ∧ ns.length ≤ 1000 ∧ Box bx c H ∧ H p = some (.lst (ns.map V.int)) ∧ p ≠ bx ∧ Rising many ns ∧
  ∀ (v : V) (r : Rule) (H' : Hp), Ext bx H H' → Box bx (c + 2 * ns.length + 4) H' → RuleAt H' v r → r.Wf many → r.persons = ns → Q v H'
theorem ok_sum_rule (T : Txt K mg w) : FnOk P w K mg base CX0 2 T.f_sum_rule T.fd_sum_rule p_sum_rule spSumRule := by
  have G_take := ok_take (P := P) (w := w) (base := base) T
  refine T.F_sum_rule.ok sc_sum_rule (fun vs H Q E h => ?_) (fun cdv A outer s H vs Q E hr h => ?_)
  · obtain ⟨bx, p, c, far, many, ns, rfl, _⟩ := h
    rfl
  · obtain ⟨bx, p, c, far, many, ns, rfl, f0, f1, c1, hl, hB, hp, np, rs, q⟩ := h
    refine ⟨_, (pss_cons (ps_set (i := 3) sc_sum_rule.nd rfl (.inl rfl) (pe_ix ix_list (pe_lst (pa_cons pe_int (pa_cons pe_int (pa_cons pe_int (pa_cons (pe_call G_take (hr.mono (by decide)) (by rfl) T.g_take T.F_take.kp T.b_take .nil pass0 (pa_cons (pv 0) (pa_cons pe_int pa_nil))) pa_nil))))) (pe_call G_take (hr.mono (by decide)) (by rfl) T.g_take T.F_take.kp T.b_take .nil pass0 (pa_cons (pv 0) (pa_cons pe_int pa_nil))) (fun _ _ => rfl)))
      (pss_cons (ps_set (i := 4) sc_sum_rule.nd rfl (.inl rfl) (pe_callTy call_tupleF (by rfl) T.m_tuple (by decide +kernel) (pa_cons (pe_lc (own := [("_law_one", 5)]) (g := gName 5) (by rfl) sc_sum_rule.nd (pi_list (pv 1)) (blkOk_by (own := [("_law_one", 5)]) (N := n_sum_rule) (sc := defScope s_sum_rule) (by decide +kernel)) (fun _ _ _ _ _ => (pg_name (i := 5) sc_sum_rule.nd rfl (.inl rfl) (.inr rfl))) (fun _ _ _ _ _ => pts_nil) (fun _ _ _ _ _ => (pe_tup (pa_cons (pv 5) (pa_cons (pe_ix (r := rIxL K) ix_list (pe_lst (pa_cons pe_int (pa_cons pe_int (pa_cons pe_int (pa_cons (pe_op op_add pe_int (pe_call G_take (hr.mono (by decide)) (by rfl) T.g_take T.F_take.kp T.b_take .nil pass0 (pa_cons (pv 0) (pa_cons (pv 2) pa_nil)))) pa_nil))))) (pe_call G_take (hr.mono (by decide)) (by rfl) T.g_take T.F_take.kp T.b_take .nil pass0 (pa_cons (pv 0) (pa_cons pe_int pa_nil))) (fun _ _ => rfl)) pa_nil))))) pa_nil)))
      (pss_one (ps_ret (pe_ifExp (pt_cmpR op_gt (pe_call G_take (hr.mono (by decide)) (by rfl) T.g_take T.F_take.kp T.b_take .nil pass0 (pa_cons (pv 0) (pa_cons pe_int pa_nil))) pe_int (nomark _)) (pe_tup (pa_cons pe_str (pa_cons (pv 3) (pa_cons (pv 4) pa_nil)))) (pe_tup (pa_cons pe_str (pa_cons (pv 3) (pa_cons (pv 4) (pa_cons (pe_call G_take (hr.mono (by decide)) (by rfl) T.g_take T.F_take.kp T.b_take .nil pass0 (pa_cons (pv 0) (pa_cons pe_int pa_nil))) pa_nil)))))))))), ?_⟩
    -- the own number
    refine ⟨.ref bx, rfl, bx, c, 4, rfl, by decide, by decide, by omega, hB, fun r1 H1 r10 r11 e1 b1 => ⟨by show 4 ≤ sizeLine; decide, fun l hl1 => ?_⟩⟩
    have nl : l ≠ bx := b1.ne hl1
    refine ⟨.ref bx, rfl, bx, c + 1, 4, rfl, by decide, by decide, by omega, b1.new hl1, fun r2 H2 r20 r21 e2 b2 => ?_⟩
    obtain ⟨v0, m0, a0⟩ := pick (xs := [V.int 0, .int 0, .int 1, .int r1]) r20 (by simpa using r21)
    have hl2 : H2 l = some (.lst [V.int 0, .int 0, .int 1, .int r1]) := e2 _ _ nl upd_same
    refine ⟨l, _, r2, v0, rfl, rfl, .inl (.inl hl2), a0, ?_⟩
    obtain ⟨own, rfl, o1⟩ : ∃ own : Int, v0 = .int own ∧ smallI own := by
      simp only [List.mem_cons, List.not_mem_nil, or_false] at m0
      rcases m0 with rfl | rfl | rfl | rfl
      · exact ⟨0, rfl, by decide, by decide⟩
      · exact ⟨0, rfl, by decide, by decide⟩
      · exact ⟨1, rfl, by decide, by decide⟩
      · exact ⟨r1, rfl, r10, by omega⟩
    have eX : Ext bx H H2 := (e1.trans ((Ext.refl _).new hl1)).trans e2
    have hp2 := eX _ _ np hp
    -- the ties
    refine ⟨.ref p, rfl, p, rfl, ⟨_, .inl (.inl hp2)⟩, fun D hD => ?_⟩
    have nD : D ≠ bx := b2.ne hD
    refine lc_it (walk_list (xs := ns.map V.int)) (fun i H3 => ∃ (ps : List Addr) (ties : List (Int × Int)), Ext bx H2 H3 ∧ Box bx (c + 2 + 2 * i) H3 ∧ H3 D = some (.lst (ps.map V.ref)) ∧ Paired (PairAtH H3) ps ties ∧ ties.map (·.1) = ns.take i ∧ ∀ q ∈ ties, 1 ≤ q.2 ∧ q.2 ≤ 1000)
      ⟨[], [], (Ext.refl _).new hD, (b2.new hD).mono (by omega), upd_same, .nil, rfl, fun q h => absurd h (by simp)⟩ ?_ ?_ ?_
    · rintro i H3 _ ⟨ps, ties, e, _⟩
      exact .inl (.inl (e _ _ np hp2))
    · rintro i x H3 H4 hi ⟨ps, ties, e, hb, hD3, pr, tf, tw⟩ ⟨rfl, hx⟩
      rw [List.length_map] at hi
      rw [List.getElem?_map, List.getElem?_eq_getElem hi] at hx
      have ex : x = .int ns[i] := (Option.some.inj hx).symm
      subst ex
      have tk : ns.take (i + 1) = ns.take i ++ [ns[i]] := by rw [List.take_add_one, List.getElem?_eq_getElem hi]; rfl
      have pl : ps.length = i := by
        have h1 : ps.length = ties.length := pr.length
        have h2 := congrArg List.length tf
        rw [List.length_map, List.length_take] at h2
        omega
      refine ⟨rfl, yes (iteT ?_)⟩
      refine ⟨.int ns[i], rfl, .ref bx, rfl, .int far, rfl, bx, c + 2 + 2 * i, far, rfl, f0, by omega, by omega, hb, fun r5 H5 r50 r51 e5 b5 => ⟨1, r5, rfl, rfl, by show 4 ≤ sizeLine; decide, fun l5 hl5 => ?_⟩⟩
      have nl5 : l5 ≠ bx := b5.ne hl5
      refine ⟨.ref bx, rfl, bx, c + 2 + 2 * i + 1, 4, rfl, by decide, by decide, by omega, b5.new hl5, fun r6 H6 r60 r61 e6 b6 => ?_⟩
      obtain ⟨v6, m6, a6⟩ := pick (xs := [V.int 1, .int 1, .int 2, .int (1 + r5)]) r60 (by simpa using r61)
      have hl6 : H6 l5 = some (.lst [V.int 1, .int 1, .int 2, .int (1 + r5)]) := e6 _ _ nl5 upd_same
      obtain ⟨wt, rfl, w1⟩ : ∃ wt : Int, v6 = .int wt ∧ 1 ≤ wt ∧ wt ≤ 1000 := by
        simp only [List.mem_cons, List.not_mem_nil, or_false] at m6
        rcases m6 with rfl | rfl | rfl | rfl
        · exact ⟨1, rfl, by decide, by decide⟩
        · exact ⟨1, rfl, by decide, by decide⟩
        · exact ⟨2, rfl, by decide, by decide⟩
        · exact ⟨1 + r5, rfl, by omega, by omega⟩
      refine ⟨l5, _, r6, _, rfl, rfl, .inl (.inl hl6), a6, by show 2 ≤ sizeLine; decide, fun t ht => ?_⟩
      have k36 : Keep H4 H6 := (Keep.ext e5 hb).trans ((Keep.same (same_upd hl5)).trans (Keep.ext e6 (b5.new hl5)))
      have e36 : Ext bx H4 H6 := (e5.trans ((Ext.refl _).new hl5)).trans e6
      have hD6 := e36 _ _ nD hD3
      refine ⟨_, by rw [upd_ne (ne_of_none hD6 ht)]; exact hD6, by rw [List.length_map]; exact small1000 (by omega), ps ++ [t], ties ++ [(ns[i], wt)], ?_, ?_, ?_, ?_, ?_, ?_⟩
      · exact ((e.trans e36).trans ((Ext.refl _).new ht)).new hD
      · exact ((b6.new ht).at nD).mono (by omega)
      · rw [upd_same, List.map_append]; rfl
      · have ntD : t ≠ D := (ne_of_none hD6 ht).symm
        have kT : Keep H6 (upd (upd H6 t (.tup [.int ns[i], .int wt])) D (.lst (ps.map V.ref ++ [.ref t]))) := by
          refine ⟨fun a xs h => ?_, fun a o u h => ?_⟩
          · rw [upd_ne (ne_of h hD6 (by intro z; cases z)), upd_ne (ne_of_none h ht)]; exact h
          · rw [upd_ne (ne_of h hD6 (by intro z; cases z)), upd_ne (ne_of_none h ht)]; exact h
        refine Paired.snoc ?_ (pairs_keep (k36.trans kT) pr)
        show upd (upd H6 t _) D _ t = _
        rw [upd_ne ntD, upd_same]
      · rw [List.map_append, tf, tk]; rfl
      · intro q hq
        rcases List.mem_append.mp hq with hq | hq
        · exact tw q hq
        · rw [List.mem_singleton.mp hq]; exact w1
    · rintro H3 ⟨ps, ties, e, hb, hD3, pr, tf, tw⟩
      rw [List.length_map] at hb tf
      rw [List.take_length] at tf
      refine ⟨D, _, rfl, .inl (.inl hD3), fun t o nt od => ?_⟩
      have nt2 : t ≠ bx := hb.ne nt
      have b4 := hb.new (o := .frz o (.tup (ps.map V.ref))) nt
      -- sum or cap
      refine ⟨.ref bx, rfl, bx, _, 4, rfl, by decide, by decide, ?_, b4, fun r5 H5 r50 r51 e5 b5 => ?_⟩
      · omega
      have k5 := Keep.ext e5 b4
      have tA : TiesAt H5 t ties := ⟨o, ps, od, k5.frz _ _ _ upd_same, pairs_keep ((Keep.same (same_upd nt)).trans k5) pr⟩
      have eA : Ext bx H H5 := ((eX.trans e).trans ((Ext.refl _).new nt)).trans e5
      refine ⟨_, 0, rfl, rfl, _, rfl, ite2 (fun z => ?_) (fun z => ?_)⟩
      · refine ⟨.int own, rfl, .ref t, rfl, by show 3 ≤ sizeLine; decide, fun a ha => ?_⟩
        refine q (.ref a) (.sum own ties) _ (eA.trans ((Ext.refl _).new ha)) ((b5.new ha).mono (by omega)) ⟨a, t, rfl, upd_same, tA.keep (Keep.same (same_upd ha))⟩ ⟨o1, by rw [tf]; exact rs, tw⟩ tf
      · refine ⟨.int own, rfl, .ref t, rfl, .ref bx, rfl, bx, _, 6, rfl, by decide, by decide, ?_, b5, fun r6 H6 r60 r61 e6 b6 => ⟨by show 4 ≤ sizeLine; decide, fun a ha => ?_⟩⟩
        · omega
        refine q (.ref a) (.cap own ties r6) _ ((eA.trans e6).trans ((Ext.refl _).new ha)) ((b6.new ha).mono (by omega)) ⟨a, t, rfl, upd_same, (tA.keep (Keep.ext e6 b5)).keep (Keep.same (same_upd ha))⟩ ⟨o1, by rw [tf]; exact rs, tw, r60, by omega⟩ tf
end
end Lh

namespace Lh
open PySem PySem.Spec PyProof.Rows L2
section
variable {P : Program} {w : World} {K : PySem.W.Frag} {mg : Str → Option Value} {base : Heap}
def spRule : Sp := fun vs H Q _ => ∃ (bx p : Addr) (c far many : Int) (m : V) (ns : List Int), vs = [.ref bx, m, .ref p, .int far] ∧ 0 < far ∧ far ≤ 999 ∧ c + 3 * ns.length + 6 ≤ 1000000000 ∧ ns.length ≤ 1000 ∧ Box bx c H ∧ H p = some (.lst (ns.map V.int)) ∧ p ≠ bx ∧ Rising many ns ∧
  ∀ (v : V) (r : Rule) (H' : Hp), Ext bx H H' → Box bx (c + 3 * ns.length + 6) H' → RuleAt H' v r → r.Wf many → r.persons.Sublist ns → Q v H'
theorem ok_rule (T : Txt K mg w) : FnOk P w K mg base CX0 3 T.f_rule T.fd_rule p_rule spRule := by
  have G_take := ok_take (P := P) (w := w) (base := base) T
  have G_some := ok_some (P := P) (w := w) (base := base) T
  have G_sum_rule := ok_sum_rule (P := P) (w := w) (base := base) T
  refine T.F_rule.ok sc_rule (fun vs H Q E h => ?_) (fun cdv A outer s H vs Q E hr h => ?_)
  · obtain ⟨bx, p, c, far, many, m, ns, rfl, _⟩ := h
    rfl
  · obtain ⟨bx, p, c, far, many, m, ns, rfl, f0, f1, c1, hl, hB, hp, np, rs, q⟩ := h
    refine ⟨_, (pss_cons (ps_par (i := 4) (j := 5) (by rfl) sc_rule.nd rfl rfl (by decide) rfl rfl (pa_cons (pe_call G_some (hr.mono (by decide)) (by rfl) T.g_some T.F_some.kp T.b_some .nil pass0 (pa_cons (pv 0) (pa_cons (pv 2) (pa_cons pe_int pa_nil)))) (pa_cons (pe_call G_take (hr.mono (by decide)) (by rfl) T.g_take T.F_take.kp T.b_take .nil pass0 (pa_cons (pv 0) (pa_cons pe_int pa_nil))) pa_nil)) (by rfl))
      (pss_cons (ps_if (pt_cmpR op_eq (pv 5) pe_int (nomark _))
        (pss_one (ps_ret (pe_tup (pa_cons pe_str (pa_cons (pe_call G_take (hr.mono (by decide)) (by rfl) T.g_take T.F_take.kp T.b_take .nil pass0 (pa_cons (pv 0) (pa_cons pe_int pa_nil))) pa_nil)))))
        pss_nil)
      (pss_cons (ps_if (pt_cmpR op_eq (pv 5) pe_int (nomark _))
        (pss_one (ps_ret (pe_tup (pa_cons pe_str (pa_cons (pe_call G_take (hr.mono (by decide)) (by rfl) T.g_take T.F_take.kp T.b_take .nil pass0 (pa_cons (pv 0) (pa_cons pe_int pa_nil))) (pa_cons (pe_callTy call_tupleF (by rfl) T.m_tuple (by decide +kernel) (pa_cons (pv 4) pa_nil)) pa_nil))))))
        pss_nil)
      (pss_cons (ps_if (pt_cmpR op_eq (pv 5) pe_int (nomark _))
        (pss_one (ps_ret (pe_tup (pa_cons pe_str (pa_cons (pe_callTy call_tupleF (by rfl) T.m_tuple (by decide +kernel) (pa_cons (pv 4) pa_nil)) pa_nil)))))
        pss_nil)
      (pss_one (ps_ret (pe_ifExp (pt_cmpR op_eq (pv 5) pe_int (nomark _)) (pe_tup (pa_cons pe_str (pa_cons (pe_callTy call_tupleF (by rfl) T.m_tuple (by decide +kernel) (pa_cons (pv 4) pa_nil)) pa_nil))) (pe_call G_sum_rule (hr.mono (by decide)) (by rfl) T.g_sum_rule T.F_sum_rule.kp T.b_sum_rule .nil pass0 (pa_cons (pv 0) (pa_cons (pv 4) (pa_cons (pv 3) pa_nil))))))))))), ?_⟩
    refine ⟨.ref bx, rfl, .ref p, rfl, bx, p, c, 2, ns, rfl, by decide, by decide, by omega, hl, hB, hp, np, fun z ms H1 e1 b1 nz hz sub => ?_⟩
    have nz2 : z ≠ bx := hB.ne nz
    have ml := sub.length_le
    refine ⟨.ref bx, rfl, bx, _, 10, rfl, by decide, by decide, by omega, b1, fun r2 H2 r20 r21 e2 b2 => ⟨_, _, rfl, ?_⟩⟩
    have hz2 := e2 _ _ nz2 hz
    have eX := e1.trans e2
    refine ⟨.int r2, rfl, rfl, _, rfl, ite2 (fun w0 => ?_) (fun w0 => ?_)⟩
    · refine ⟨.ref bx, rfl, bx, _, 7, rfl, by decide, by decide, by omega, b2, fun r3 H3 r30 r31 e3 b3 => ⟨by show 2 ≤ sizeLine; decide, fun a ha => ?_⟩⟩
      exact q (.ref a) (.held r3) _ ((eX.trans e3).trans ((Ext.refl _).new ha)) ((b3.new ha).mono (by omega)) ⟨a, rfl, upd_same⟩ ⟨r30, by omega⟩ (List.nil_sublist _)
    refine ⟨.int r2, rfl, rfl, _, rfl, ite2 (fun w1 => ?_) (fun w1 => ?_)⟩
    · refine ⟨.ref bx, rfl, bx, _, 3, rfl, by decide, by decide, by omega, b2, fun r3 H3 r30 r31 e3 b3 => ?_⟩
      refine ⟨.ref z, rfl, z, _, rfl, .inl (.inl (e3 _ _ nz2 hz2)), fun t o nt od => ⟨by show 3 ≤ sizeLine; decide, fun a ha => ?_⟩⟩
      exact q (.ref a) (.kinds r3 ms) _ (((eX.trans e3).trans ((Ext.refl _).new nt)).trans ((Ext.refl _).new ha)) (((b3.new nt).new ha).mono (by omega)) ⟨a, t, rfl, upd_same, .inr ⟨o, od, by rw [upd_ne (ne_of_none upd_same ha)]; exact upd_same⟩⟩ ⟨⟨r30, by omega⟩, rs.sub sub⟩ sub
    refine ⟨.int r2, rfl, rfl, _, rfl, ite2 (fun w2 => ?_) (fun w2 => ?_)⟩
    · refine ⟨.ref z, rfl, z, _, rfl, .inl (.inl hz2), fun t o nt od => ⟨by show 2 ≤ sizeLine; decide, fun a ha => ?_⟩⟩
      exact q (.ref a) (.next ms) _ ((eX.trans ((Ext.refl _).new nt)).trans ((Ext.refl _).new ha)) (((b2.new nt).new ha).mono (by omega)) ⟨a, t, rfl, upd_same, .inr ⟨o, od, by rw [upd_ne (ne_of_none upd_same ha)]; exact upd_same⟩⟩ (rs.sub sub) sub
    refine ⟨.int r2, rfl, rfl, _, rfl, ite2 (fun w3 => ?_) (fun w3 => ?_)⟩
    · refine ⟨.ref z, rfl, z, _, rfl, .inl (.inl hz2), fun t o nt od => ⟨by show 2 ≤ sizeLine; decide, fun a ha => ?_⟩⟩
      exact q (.ref a) (.free ms) _ ((eX.trans ((Ext.refl _).new nt)).trans ((Ext.refl _).new ha)) (((b2.new nt).new ha).mono (by omega)) ⟨a, t, rfl, upd_same, .inr ⟨o, od, by rw [upd_ne (ne_of_none upd_same ha)]; exact upd_same⟩⟩ (rs.sub sub) sub
    · refine ⟨.ref bx, rfl, .ref z, rfl, .int far, rfl, bx, z, _, far, many, ms, rfl, f0, f1, ?_, by omega, b2, hz2, nz2, rs.sub sub, fun v r H3 e3 b3 ra wf pe => ?_⟩
      · omega
      · exact q v r H3 (eX.trans e3) (b3.mono (by omega)) ra wf (by rw [pe]; exact sub)
end
end Lh

namespace Lh
open PySem PySem.Spec PyProof.Rows L2
/-! ### what a rule tells -/
theorem nodup_len {α : Type} [DecidableEq α] : ∀ (xs ys : List α), xs.Nodup → (∀ x ∈ xs, x ∈ ys) → xs.length ≤ ys.length
  | [], _, _, _ => Nat.zero_le _
  | x :: t, ys, nd, h => by
    have hx : x ∈ ys := h x List.mem_cons_self
    have nt := List.nodup_cons.mp nd
    have h2 := nodup_len t (ys.erase x) nt.2 (fun y hy => by
      have ne : y ≠ x := fun e => nt.1 (by rw [← e]; exact hy)
      exact (List.mem_erase_of_ne ne).mpr (h y (List.mem_cons_of_mem _ hy)))
    rw [List.length_erase_of_mem hx] at h2
    have : 0 < ys.length := List.length_pos_of_mem hx
    rw [List.length_cons]
    omega
def wgt (ties : List (Int × Int)) (p : Int) : Int := ((ties.find? fun q => decide (q.1 = p)).map (·.2)).getD 0
def IsMex (ns : List Int) (x : Int) : Prop := x ∉ ns ∧ 0 ≤ x ∧ ∀ j, 0 ≤ j → j < x → j ∈ ns
def Tell : Rule → List (Int × Int) → Int → Prop
  | .held n, _, x => x = n
  | .sum own ties, lot, x => x = own + (lot.map fun q => wgt ties q.1).sum
  | .cap own ties most, lot, x => x = min (own + (lot.map fun q => wgt ties q.1).sum) most
  | .kinds own _, lot, x => ∃ ks : List Int, ks.Nodup ∧ (∀ k, k ∈ ks ↔ k ∈ lot.map (·.2)) ∧ x = own + ks.length
  | .next _, lot, x => (lot = [] ∧ x = 0) ∨ (x - 1 ∈ lot.map (·.2) ∧ ∀ y ∈ lot.map (·.2), y ≤ x - 1)
  | .free _, lot, x => IsMex (lot.map (·.2)) x
theorem Tell.unique : ∀ {r : Rule} {lot : List (Int × Int)} {x y : Int}, Tell r lot x → Tell r lot y → x = y
  | .held _, _, _, _, h, k => h.trans k.symm
  | .sum _ _, _, _, _, h, k => h.trans k.symm
  | .cap _ _ _, _, _, _, h, k => h.trans k.symm
  | .kinds _ _, lot, x, y, ⟨a, na, ma, ha⟩, ⟨b, nb, mb, hb⟩ => by
    have h1 := nodup_len a b na (fun z hz => (mb z).mpr ((ma z).mp hz))
    have h2 := nodup_len b a nb (fun z hz => (ma z).mpr ((mb z).mp hz))
    omega
  | .next _, lot, x, y, h, k => by
    rcases h with ⟨h1, h2⟩ | ⟨h1, h2⟩
    · rcases k with ⟨k1, k2⟩ | ⟨k1, k2⟩
      · omega
      · rw [h1] at k1; exact absurd k1 (by simp)
    · rcases k with ⟨k1, k2⟩ | ⟨k1, k2⟩
      · rw [k1] at h1; exact absurd h1 (by simp)
      · have := h2 _ k1; have := k2 _ h1; omega
  | .free _, lot, x, y, ⟨h1, h2, h3⟩, ⟨k1, k2, k3⟩ => by
    rcases Int.lt_trichotomy x y with h | h | h
    · exact absurd (k3 x h2 h) h1
    · exact h
    · exact absurd (h3 y k2 h) k1
/-! ### dicts of ties -/
def kvOf (ties : List (Int × Int)) : List (Key × V) := ties.map fun q => (Sum.inl q.1, V.int q.2)
theorem merge_new : ∀ (more acc : List (Key × V)), ((acc ++ more).map (·.1)).Nodup → mergeK acc more = acc ++ more
  | [], acc, _ => by rw [List.append_nil]; rfl
  | q :: t, acc, nd => by
    have hq : (acc.any fun kv => decide (kv.1 = q.1)) = false := by
      rw [List.any_eq_false]
      intro kv hkv e
      have e' : kv.1 = q.1 := of_decide_eq_true e
      rw [List.map_append, List.nodup_append] at nd
      exact nd.2.2 _ (List.mem_map_of_mem hkv) q.1 (by simp) e'
    have e1 : mergeK acc (q :: t) = mergeK (putK acc q.1 q.2) t := rfl
    have e2 : putK acc q.1 q.2 = acc ++ [q] := by
      unfold putK
      rw [hq, if_neg Bool.false_ne_true]
    rw [e1, e2, merge_new t (acc ++ [q]) (by rw [List.append_assoc]; exact nd), List.append_assoc]
    rfl
theorem kv_nodup {ties : List (Int × Int)} (h : (ties.map (·.1)).Nodup) : ((kvOf ties).map (·.1)).Nodup := by
  unfold kvOf
  rw [List.map_map]
  have e : ((fun q : Key × V => q.1) ∘ fun q : Int × Int => ((Sum.inl q.1 : Key), V.int q.2)) = (fun n : Int => (Sum.inl n : Key)) ∘ (fun q : Int × Int => q.1) := rfl
  rw [e, ← List.map_map, List.nodup_iff_pairwise_ne]
  rw [List.nodup_iff_pairwise_ne] at h
  exact List.Pairwise.map _ (fun a b z q => z (Sum.inl.inj q)) h
theorem kv_get : ∀ {ties : List (Int × Int)} {p : Int}, p ∈ ties.map (·.1) → valV (kvOf ties) (Sum.inl p) = some (.int (wgt ties p))
  | [], p, h => absurd h (by simp)
  | q :: t, p, h => by
    by_cases e : q.1 = p
    · have e1 : valV (kvOf (q :: t)) (Sum.inl p) = some (V.int q.2) := valV_pos (p := ((Sum.inl q.1 : Key), V.int q.2)) (by rw [e])
      rw [e1]
      unfold wgt
      rw [List.find?_cons, decide_eq_true e]
      rfl
    · have e1 : valV (kvOf (q :: t)) (Sum.inl p) = valV (kvOf t) (Sum.inl p) := valV_neg (p := ((Sum.inl q.1 : Key), V.int q.2)) (fun z => e (Sum.inl.inj z))
      have h' : p ∈ t.map (·.1) := by
        rw [List.map_cons, List.mem_cons] at h
        rcases h with h | h
        · exact absurd h.symm e
        · exact h
      rw [e1, kv_get h']
      unfold wgt
      rw [List.find?_cons, decide_eq_false e]
theorem Rising.nodup {many : Int} {ns : List Int} (h : Rising many ns) : ns.Nodup := by
  rw [List.nodup_iff_pairwise_ne]
  exact h.1.imp fun z => by omega
/-! ### a walk over pairs -/
theorem walk_tupR {K : PySem.W.Frag} {t : Addr} (ps : List Addr) : Walk (Itt K t) ps.length (fun H => SqT K H t (ps.map V.ref)) (YAt (ps.map V.ref)) := by
  have h := walk_tup (K := K) (a := t) (xs := ps.map V.ref)
  rw [List.length_map] at h
  exact h
theorem walk_listR {K : PySem.W.Frag} {t : Addr} (ps : List Addr) : Walk (Itl K t) ps.length (fun H => SqL K H t (ps.map V.ref)) (YAt (ps.map V.ref)) := by
  have h := walk_list (K := K) (a := t) (xs := ps.map V.ref)
  rw [List.length_map] at h
  exact h
theorem lc_pairs {K : PySem.W.Frag} {J : It} {G : Hp → Prop} {ps : List Addr} {lot : List (Int × Int)} {H1 : Hp} {D : Addr} {σ : L2.St} {vs : List Nat} {te : TE} {Qd : Hp → Prop} {i j : Nat} (f : Int × Int → Int)
    (wk : Walk J ps.length G (YAt (ps.map V.ref))) (hp : Paired (PairAtH H1) ps lot) (hD : H1 D = none) (hl : ps.length ≤ 1000) (hG : ∀ H3, Same H1 H3 → G H3)
    (hw : ∀ a b, wipe (((wipe σ vs).set i a).set j b) vs = wipe σ vs)
    (he : ∀ q ∈ lot, ∀ H3, Same H1 H3 → ∀ Q : VK, Q (.int (f q)) H3 → te (((wipe σ vs).set i (some (.int q.1))).set j (some (.int q.2))) H3 Q)
    (hq : ∀ H', Same H1 H' → H' D = some (.lst ((lot.map f).map V.int)) → Qd H') :
    ∃ W : Nat → Nat → Hp → Prop, (∃ m, W 0 m (upd H1 D (.lst []))) ∧ ∀ i1 m H, W i1 m H →
      (J.stop i1 H ∧ Qd H) ∨ (J.go i1 H ∧ ∃ Nx : Hp → Prop, (∀ H', Nx H' → ∃ m', m' < m ∧ W (i1 + 1) m' H') ∧ ∀ x H', J.yld i1 H x H' → gTup K 2 (gCons (gName i) (gCons (gName j) gNil)) x (wipe σ vs) H' fun σ2 H2 => wipe σ2 vs = wipe σ vs ∧ tYes σ2 H2 fun b H3 =>
        if b = true then te σ2 H3 fun y H4 => ∃ acc, H4 D = some (.lst acc) ∧ acc.length < sizeLine ∧ Nx (upd H4 D (.lst (acc ++ [y]))) else Nx H3) := by
  have ll : ps.length = lot.length := hp.length
  refine lc_it wk (fun n H3 => Same H1 H3 ∧ H3 D = some (.lst (((lot.take n).map f).map V.int))) ⟨same_upd hD, upd_same⟩ (fun n H3 _ h => hG H3 h.1) ?_ ?_
  · rintro n x H3 H4 hn ⟨sm, h3⟩ ⟨rfl, hx⟩
    rw [List.getElem?_map, List.getElem?_eq_getElem hn] at hx
    have ex : x = .ref ps[n] := (Option.some.inj hx).symm
    subst ex
    have hn2 : n < lot.length := by omega
    have pa : PairAtH H1 ps[n] lot[n] := by
      have : ∀ {ps : List Addr} {lot : List (Int × Int)}, Paired (PairAtH H1) ps lot → ∀ (n : Nat) (h1 : n < ps.length) (h2 : n < lot.length), PairAtH H1 ps[n] lot[n] := by
        intro ps lot hp
        induction hp with
        | nil => intro n h1; exact absurd h1 (by simp)
        | cons r t ih =>
          intro n h1 h2
          cases n with
          | zero => exact r
          | succ n => exact ih n (by simpa using h1) (by simpa using h2)
      exact this hp n hn hn2
    refine ⟨ps[n], _, rfl, .inl (.inl (sm _ _ pa)), rfl, _, _, rfl, _, _, rfl, rfl, hw _ _, yes (iteT ?_)⟩
    refine he lot[n] (List.getElem_mem hn2) _ sm _ ⟨_, h3, ?_, same_mut sm hD, ?_⟩
    · rw [List.length_map, List.length_map, List.length_take]; exact small1000 (by omega)
    · rw [upd_same, List.take_add_one, List.getElem?_eq_getElem hn2, List.map_append, List.map_append]; rfl
  · rintro H3 ⟨sm, h3⟩
    rw [ll, List.take_length] at h3
    exact hq H3 sm h3
end Lh

namespace Lh
open PySem PySem.Spec PyProof.Rows L2
section
variable {P : Program} {w : World} {K : PySem.W.Frag} {mg : Str → Option Value} {base : Heap}
def spSeenBy : Sp := fun vs H Q _ => ∃ (v : V) (r : Rule), vs = [v] ∧ RuleAt H v r ∧ r.persons.length ≤ 1000 ∧ ∀ (p : Addr) (H' : Hp), Same H H' → H p = none → H' p = some (.lst (r.persons.map V.int)) → Q (.ref p) H'
end
end Lh

namespace Lh
open PySem PySem.Spec PyProof.Rows L2
/-- a lot in the heap, a list of pairs or a tuple of them -/
def LotAt (H : Hp) (v : V) (lot : List (Int × Int)) : Prop := ∃ (a : Addr) (ps : List Addr), v = .ref a ∧ (H a = some (.lst (ps.map V.ref)) ∨ TupAt H a (ps.map V.ref)) ∧ Paired (PairAtH H) ps lot ∧ ps.length ≤ 1000
theorem LotAt.same {H H' : Hp} {v : V} {lot : List (Int × Int)} (s : Same H H') (h : LotAt H v lot) : LotAt H' v lot := by
  obtain ⟨a, ps, e, h1, h2, h3⟩ := h
  refine ⟨a, ps, e, ?_, pairs_keep (Keep.same s) h2, h3⟩
  rcases h1 with h1 | h1
  · exact .inl (s _ _ h1)
  · exact .inr (h1.keep (Keep.same s))
theorem pairs_sq {K : PySem.W.Frag} {H : Hp} : ∀ {ps : List Addr} {ties : List (Int × Int)}, Paired (PairAtH H) ps ties → Paired (fun p kv => SqT K H p [kV kv.1, kv.2]) ps (kvOf ties)
  | _, _, .nil => .nil
  | _, _, .cons h r => .cons (.inl (.inl h)) (pairs_sq r)
theorem merge_kv {ties : List (Int × Int)} (h : (ties.map (·.1)).Nodup) : mergeK [] (kvOf ties) = kvOf ties := by
  rw [merge_new (kvOf ties) [] (by rw [List.nil_append]; exact kv_nodup h), List.nil_append]
section
variable {P : Program} {w : World} {K : PySem.W.Frag} {mg : Str → Option Value} {base : Heap}
theorem in_ints (x : Int) (ns : List Int) : inV (.int x) (ns.map V.int) = decide (x ∈ ns) := by
  unfold inV
  rw [List.any_map]
  rw [Bool.eq_iff_iff, List.any_eq_true, decide_eq_true_iff]
  constructor
  · rintro ⟨y, hy, e⟩
    have e' : (y == x) = true := e
    rw [← eq_of_beq e']; exact hy
  · intro h
    exact ⟨x, h, (beq_self_eq_true x : (x == x) = true)⟩
theorem flat_ints (ns : List Int) : (ns.map V.int).all flatV = true := by
  rw [List.all_map, List.all_eq_true]
  intro _ _; rfl
end
end Lh

namespace Lh
open PySem PySem.Spec PyProof.Rows L2
def seenPairs : Rule → List (Int × Int)
  | .held _ => []
  | .sum _ ties => ties
  | .cap _ ties _ => ties
  | .kinds _ seen => seen.map fun n => (n, 1)
  | .next seen => seen.map fun n => (n, 1)
  | .free seen => seen.map fun n => (n, 1)
theorem seen_persons : ∀ r : Rule, (seenPairs r).map (·.1) = r.persons
  | .held _ => rfl
  | .sum _ _ => rfl
  | .cap _ _ _ => rfl
  | .kinds _ s => by show (s.map fun n => (n, (1 : Int))).map (·.1) = s; rw [List.map_map]; exact List.map_id s
  | .next s => by show (s.map fun n => (n, (1 : Int))).map (·.1) = s; rw [List.map_map]; exact List.map_id s
  | .free s => by show (s.map fun n => (n, (1 : Int))).map (·.1) = s; rw [List.map_map]; exact List.map_id s
section
variable {P : Program} {w : World} {K : PySem.W.Frag} {mg : Str → Option Value} {base : Heap}
/-- [(one, 1) for one in seen] -/
theorem lc_ones {K : PySem.W.Frag} {t : Addr} {seen : List Int} {H1 : Hp} {D : Addr} {σ : L2.St} {vs : List Nat} {Qd : Hp → Prop} {i : Nat} (ht : SeenAt H1 t seen) (hD : H1 D = none) (hl : seen.length ≤ 1000)
    (hw : ∀ a, wipe ((wipe σ vs).set i a) vs = wipe σ vs) (hi : ∀ a : V, ((wipe σ vs).set i (some a))[i]? = some (some a))
    (hq : ∀ H' ps, Same H1 H' → H' D = some (.lst (ps.map V.ref)) → Paired (PairAtH H') ps (seen.map fun n => (n, 1)) → Qd H') :
    ∃ W : Nat → Nat → Hp → Prop, (∃ m, W 0 m (upd H1 D (.lst []))) ∧ ∀ i1 m H, W i1 m H →
      ((Itt K t).stop i1 H ∧ Qd H) ∨ ((Itt K t).go i1 H ∧ ∃ Nx : Hp → Prop, (∀ H', Nx H' → ∃ m', m' < m ∧ W (i1 + 1) m' H') ∧ ∀ x H', (Itt K t).yld i1 H x H' → gName i x (wipe σ vs) H' fun σ2 H2 => wipe σ2 vs = wipe σ vs ∧ tYes σ2 H2 fun b H3 =>
        if b = true then tTup (tCons (tVar i) (tCons (tC (.int 1)) tNil)) σ2 H3 fun y H4 => ∃ acc, H4 D = some (.lst acc) ∧ acc.length < sizeLine ∧ Nx (upd H4 D (.lst (acc ++ [y]))) else Nx H3) := by
  refine lc_it (walk_tup (xs := seen.map V.int)) (fun n H3 => ∃ ps : List Addr, Same H1 H3 ∧ H3 D = some (.lst (ps.map V.ref)) ∧ Paired (PairAtH H3) ps ((seen.take n).map fun n => (n, 1))) ⟨[], same_upd hD, upd_same, .nil⟩ ?_ ?_ ?_
  · rintro n H3 _ ⟨ps, sm, _⟩
    exact (TupAt.keep (Keep.same sm) ht).sq
  · rintro n x H3 H4 hn ⟨ps, sm, h3, pr⟩ ⟨rfl, hx⟩
    rw [List.length_map] at hn
    rw [List.getElem?_map, List.getElem?_eq_getElem hn] at hx
    have ex : x = .int seen[n] := (Option.some.inj hx).symm
    subst ex
    have pl : ps.length = n := by rw [pr.length, List.length_map, List.length_take]; omega
    refine ⟨hw _, yes (iteT ⟨.int seen[n], hi _, by show 2 ≤ sizeLine; decide, fun p np => ?_⟩)⟩
    have nDp : D ≠ p := ne_of_none h3 np
    refine ⟨_, by rw [upd_ne nDp]; exact h3, by rw [List.length_map]; exact small1000 (by omega), ps ++ [p], ?_, ?_, ?_⟩
    · exact same_mut (sm.trans (same_upd np)) hD
    · rw [upd_same, List.map_append]; rfl
    · rw [List.take_add_one, List.getElem?_eq_getElem hn, List.map_append]
      have kT : Keep H4 (upd (upd H4 p (.tup [.int seen[n], .int 1])) D (.lst (ps.map V.ref ++ [.ref p]))) := by
        refine ⟨fun a xs h => ?_, fun a o u h => ?_⟩
        · rw [upd_ne (ne_of h h3 (by intro z; cases z)), upd_ne (ne_of_none h np)]; exact h
        · rw [upd_ne (ne_of h h3 (by intro z; cases z)), upd_ne (ne_of_none h np)]; exact h
      refine Paired.snoc ?_ (pairs_keep kT pr)
      show upd (upd H4 p _) D _ p = _
      rw [upd_ne nDp.symm, upd_same]
  · rintro H3 ⟨ps, sm, h3, pr⟩
    rw [List.length_map, List.take_length] at pr
    exact hq H3 ps sm h3 pr
def wordOf : Rule → Str
  | .held _ => "held"
  | .sum _ _ => "sum"
  | .cap _ _ _ => "cap"
  | .kinds _ _ => "kinds"
  | .next _ => "next"
  | .free _ => "free"
theorem RuleAt.word {H : Hp} {v : V} : ∀ {r : Rule}, RuleAt H v r → ∃ a xs, v = .ref a ∧ H a = some (.tup (.str (wordOf r) :: xs))
  | .held _, ⟨a, e, h⟩ => ⟨a, _, e, h⟩
  | .sum _ _, ⟨a, t, e, h, _⟩ => ⟨a, _, e, h⟩
  | .cap _ _ _, ⟨a, t, e, h, _⟩ => ⟨a, _, e, h⟩
  | .kinds _ _, ⟨a, t, e, h, _⟩ => ⟨a, _, e, h⟩
  | .next _, ⟨a, t, e, h, _⟩ => ⟨a, _, e, h⟩
  | .free _, ⟨a, t, e, h, _⟩ => ⟨a, _, e, h⟩
theorem last_max : ∀ (ms : List Int) (h : ms ≠ []), ms.Pairwise (· < ·) → ∀ y ∈ ms, y ≤ ms.getLast h
  | [], h, _, _, _ => absurd rfl h
  | [m], _, _, y, hy => by rw [List.mem_singleton.mp hy]; exact Int.le_refl _
  | m :: n :: r, _, pw, y, hy => by
    rw [List.getLast_cons (List.cons_ne_nil n r)]
    have p2 := List.pairwise_cons.mp pw
    rcases List.mem_cons.mp hy with e | e
    · have h1 := p2.1 _ (List.getLast_mem (List.cons_ne_nil n r))
      rw [e]; omega
    · exact last_max (n :: r) (List.cons_ne_nil n r) p2.2 y e
theorem canLay_ints : ∀ ns : List Int, PyData.canLayAll0 (ns.map PyData.int) = true
  | [] => rfl
  | n :: r => by rw [List.map_cons]; show (PyData.canLay0 (.int n) && PyData.canLayAll0 (r.map PyData.int)) = true; rw [canLay_ints r]; rfl
theorem depth_ints : ∀ ns : List Int, PyData.depthAll (ns.map PyData.int) = 0
  | [] => rfl
  | n :: r => by rw [List.map_cons]; show max 0 (PyData.depthAll (r.map PyData.int)) = 0; rw [depth_ints r]; rfl
theorem shaped_ints (ns : List Int) : SeqAt.shaped (.list (ns.map PyData.int)) = true := by
  show (PyData.canLayAll0 (ns.map PyData.int) && decide (PyData.depthAll (ns.map PyData.int) + 1 ≤ 64)) = true
  rw [canLay_ints, depth_ints]
  rfl
/-- [e for n in numbers] -/
theorem lc_ints {K : PySem.W.Frag} {t : Addr} {ns : List Int} {H1 : Hp} {D : Addr} {σ : L2.St} {vs : List Nat} {te : TE} {Qd : Hp → Prop} {i : Nat} (f : Int → Int) (ht : H1 t = some (.lst (ns.map V.int))) (hD : H1 D = none) (hl : ns.length ≤ 1000)
    (hw : ∀ a, wipe ((wipe σ vs).set i a) vs = wipe σ vs)
    (he : ∀ n ∈ ns, ∀ H3, Same H1 H3 → ∀ Q : VK, Q (.int (f n)) H3 → te ((wipe σ vs).set i (some (.int n))) H3 Q)
    (hq : ∀ H', Same H1 H' → H' D = some (.lst ((ns.map f).map V.int)) → Qd H') :
    ∃ W : Nat → Nat → Hp → Prop, (∃ m, W 0 m (upd H1 D (.lst []))) ∧ ∀ i1 m H, W i1 m H →
      ((Itl K t).stop i1 H ∧ Qd H) ∨ ((Itl K t).go i1 H ∧ ∃ Nx : Hp → Prop, (∀ H', Nx H' → ∃ m', m' < m ∧ W (i1 + 1) m' H') ∧ ∀ x H', (Itl K t).yld i1 H x H' → gName i x (wipe σ vs) H' fun σ2 H2 => wipe σ2 vs = wipe σ vs ∧ tYes σ2 H2 fun b H3 =>
        if b = true then te σ2 H3 fun y H4 => ∃ acc, H4 D = some (.lst acc) ∧ acc.length < sizeLine ∧ Nx (upd H4 D (.lst (acc ++ [y]))) else Nx H3) := by
  refine lc_it (walk_list (xs := ns.map V.int)) (fun n H3 => Same H1 H3 ∧ H3 D = some (.lst (((ns.take n).map f).map V.int))) ⟨same_upd hD, upd_same⟩ ?_ ?_ ?_
  · rintro n H3 _ ⟨sm, _⟩
    exact .inl (.inl (sm _ _ ht))
  · rintro n x H3 H4 hn ⟨sm, h3⟩ ⟨rfl, hx⟩
    rw [List.length_map] at hn
    rw [List.getElem?_map, List.getElem?_eq_getElem hn] at hx
    have ex : x = .int ns[n] := (Option.some.inj hx).symm
    subst ex
    refine ⟨hw _, yes (iteT (he ns[n] (List.getElem_mem hn) _ sm _ ⟨_, h3, ?_, same_mut sm hD, ?_⟩))⟩
    · rw [List.length_map, List.length_map, List.length_take]; exact small1000 (by omega)
    · rw [upd_same, List.take_add_one, List.getElem?_eq_getElem hn, List.map_append, List.map_append]; rfl
  · rintro H3 ⟨sm, h3⟩
    rw [List.length_map, List.take_length] at h3
    exact hq H3 sm h3
end
end Lh

namespace Lh
open PySem PySem.Spec PyProof.Rows L2
theorem walk_zipM {K : PySem.W.Frag} {a b : Addr} {xs ys : List V} {n : Nat} (hn : n = min xs.length ys.length) : Walk (RZ.ItzT K a b) n (fun H => SqT K H a xs ∧ SqT K H b ys) (YPair (fun i => xs[i]?) (fun i => ys[i]?)) := by
  refine ⟨fun i _ hi q => ⟨xs, ys, xs[i]'(by omega), ys[i]'(by omega), q.1, q.2, List.getElem?_eq_getElem (by omega), List.getElem?_eq_getElem (by omega)⟩, fun _ q => ⟨xs, ys, q.1, q.2, by omega⟩, ?_⟩
  rintro i H v H' _ q ⟨T, x, z, h1, h2, h3, h4, h5⟩
  exact ⟨T, x, z, h1, h2, h3, h4 xs q.1, h5 ys q.2⟩
/-- a comprehension whose items are all True -/
theorem lc_true {J : It} {n : Nat} {G : Hp → Prop} {Y : Nat → Hp → V → Hp → Prop} (wk : Walk J n G Y) {g : TG} {te : TE} {vs : List Nat} {σ : L2.St} {H1 : Hp} {D : Addr} {Qd : Hp → Prop} (hD : H1 D = none) (hn : n ≤ 1000) (hG : ∀ H3, Same H1 H3 → G H3)
    (hs : ∀ i x H3 H4, i < n → Same H1 H3 → Y i H3 x H4 → ∀ (Q : VK) (Z : Hp → Prop), (∀ H5, Same H3 H5 → Q (.bl true) H5) → g x (wipe σ vs) H4 fun σ2 H2 => wipe σ2 vs = wipe σ vs ∧ tYes σ2 H2 fun b H3 => if b = true then te σ2 H3 Q else Z H3)
    (hq : ∀ H', Same H1 H' → H' D = some (.lst ((List.replicate n true).map V.bl)) → Qd H') :
    ∃ W : Nat → Nat → Hp → Prop, (∃ m, W 0 m (upd H1 D (.lst []))) ∧ ∀ i m H, W i m H →
      (J.stop i H ∧ Qd H) ∨ (J.go i H ∧ ∃ Nx : Hp → Prop, (∀ H', Nx H' → ∃ m', m' < m ∧ W (i + 1) m' H') ∧ ∀ x H', J.yld i H x H' → g x (wipe σ vs) H' fun σ2 H2 => wipe σ2 vs = wipe σ vs ∧ tYes σ2 H2 fun b H3 =>
        if b = true then te σ2 H3 fun y H4 => ∃ acc, H4 D = some (.lst acc) ∧ acc.length < sizeLine ∧ Nx (upd H4 D (.lst (acc ++ [y]))) else Nx H3) := by
  refine lc_it wk (fun i H3 => Same H1 H3 ∧ H3 D = some (.lst ((List.replicate i true).map V.bl))) ⟨same_upd hD, upd_same⟩ (fun i H3 _ h => hG H3 h.1) ?_ (fun H3 h => hq H3 h.1 h.2)
  rintro i x H3 H4 hi ⟨sm, h3⟩ hy
  refine hs i x H3 H4 hi sm hy _ _ (fun H5 s5 => ⟨_, s5 _ _ h3, ?_, same_mut (sm.trans s5) hD, ?_⟩)
  · rw [List.length_map, List.length_replicate]; exact small1000 (by omega)
  · rw [upd_same, List.replicate_succ', List.map_append]; rfl
theorem rep_all (n : Nat) : ((List.replicate n true).all id) = true := by
  rw [List.all_eq_true]
  intro z hz
  rw [List.eq_of_mem_replicate hz]
  rfl
theorem all_true {K : PySem.W.Frag} {D : Addr} {n : Nat} {H : Hp} {Q : VK} (h : H D = some (.lst ((List.replicate n true).map V.bl))) (q : Q (.bl true) H) : rAll K [.ref D] H Q := by
  refine ⟨D, _, rfl, .inl (.inl h), blT ?_ q⟩
  rw [List.all_eq_true]
  intro z hz
  rw [List.eq_of_mem_replicate hz]
  rfl
theorem cut1 {α : Type} (xs : List α) : cutI xs (some 1) none = xs.drop 1 := by
  unfold cutI
  rw [show HT.sIx xs.length 0 (some 1) = min 1 xs.length from HT.sIx_nat xs.length 0 1, HT.sIx_none]
  cases xs with
  | nil => rfl
  | cons x r =>
    rw [show min 1 (x :: r).length = 1 by rw [List.length_cons]; omega]
    show List.take ((x :: r).length - 1) r = r
    rw [List.length_cons, Nat.add_sub_cancel, List.take_length]
section
variable {P : Program} {w : World} {K : PySem.W.Frag} {mg : Str → Option Value} {base : Heap}
def spIsNumber : Sp := fun vs H Q _ => ∃ i : Int, vs = [.int i] ∧ 0 ≤ i ∧ Q (.bl true) H
theorem ok_is_number (T : Txt K mg w) : FnOk P w K mg base CX0 1 T.f_is_number T.fd_is_number p_is_number spIsNumber := by
  refine T.F_is_number.ok sc_is_number (fun vs H Q E h => ?_) (fun cdv A outer s H vs Q E hr h => ?_)
  · obtain ⟨i, rfl, _⟩ := h
    rfl
  · obtain ⟨i, rfl, i0, q⟩ := h
    refine ⟨_, (pss_one (ps_ret (pe_and (pe_callB call_isi (by rfl) T.m_isinstance (by decide +kernel) (pa_cons (pv 0) (pa_cons (pe_bltn (v := .ty "int") (by rfl) T.m_int (by decide +kernel) rfl) pa_nil))) (pe_and (pe_not (pe_callB call_isi (by rfl) T.m_isinstance (by decide +kernel) (pa_cons (pv 0) (pa_cons (pe_bltn (v := .ty "bool") (by rfl) T.m_bool (by decide +kernel) rfl) pa_nil)))) (pe_one (pe_cmpR op_ge (pv 0) pe_int (nomark _))))))), ?_⟩
    refine rd_isi (x := .int i) (T := "int") rfl (.base (.int i)) (by decide +kernel : kitB "int" "int" = some true) ⟨_, rfl, iteP rfl ?_⟩
    refine rd_isi (x := .int i) (T := "int") rfl (.base (.int i)) (by decide +kernel : kitB "int" "bool" = some false) ⟨_, rfl, _, rfl, iteP rfl ?_⟩
    exact ⟨.int i, rfl, i, 0, rfl, rfl, blT (decide_eq_true i0) q⟩
def spIsPerson : Sp := fun vs H Q _ => ∃ m i : Int, vs = [.int m, .int i] ∧ 0 ≤ i ∧ i < m ∧ Q (.bl true) H
theorem ok_is_person (T : Txt K mg w) : FnOk P w K mg base CX0 2 T.f_is_person T.fd_is_person p_is_person spIsPerson := by
  have G_is_number := ok_is_number (P := P) (w := w) (base := base) T
  refine T.F_is_person.ok sc_is_person (fun vs H Q E h => ?_) (fun cdv A outer s H vs Q E hr h => ?_)
  · obtain ⟨m, i, rfl, _⟩ := h
    rfl
  · obtain ⟨m, i, rfl, i0, i1, q⟩ := h
    refine ⟨_, (pss_one (ps_ret (pe_and (pe_call G_is_number (hr.mono (by decide)) (by rfl) T.g_is_number T.F_is_number.kp T.b_is_number .nil pass0 (pa_cons (pv 1) pa_nil)) (pe_one (pe_cmpR op_lt (pv 1) (pv 0) (nomark _)))))), ?_⟩
    exact ⟨.int i, rfl, i, rfl, i0, _, rfl, iteP rfl ⟨.int i, rfl, .int m, rfl, i, m, rfl, rfl, blT (decide_eq_true i1) q⟩⟩
theorem rise_at {ns : List Int} (pw : ns.Pairwise (· < ·)) {i : Nat} {x y : Int} (hx : ns[i]? = some x) (hy : (ns.drop 1)[i]? = some y) : x < y := by
  rw [List.getElem?_drop] at hy
  obtain ⟨h1, e1⟩ := List.getElem?_eq_some_iff.mp hx
  obtain ⟨h2, e2⟩ := List.getElem?_eq_some_iff.mp hy
  rw [← e1, ← e2]
  exact List.pairwise_iff_getElem.mp pw i (1 + i) h1 h2 (by omega)
def spRises (K : PySem.W.Frag) : Sp := fun vs H Q _ => ∃ (a : Addr) (ns : List Int), vs = [.ref a] ∧ (SqL K H a (ns.map V.int) ∨ TupAt H a (ns.map V.int)) ∧ ns.Pairwise (· < ·) ∧ ns.length ≤ 1000 ∧ ∀ H', Same H H' → Q (.bl true) H'
theorem ok_rises (T : Txt K mg w) : FnOk P w K mg base CX0 1 T.f_rises T.fd_rises p_rises (spRises K) := by
  refine T.F_rises.ok sc_rises (fun vs H Q E h => ?_) (fun cdv A outer s H vs Q E hr h => ?_)
  · obtain ⟨a, ns, rfl, _⟩ := h
    rfl
  · obtain ⟨a, ns, rfl, hS, pw, hl, q⟩ := h
    have turn : ∀ (i : Nat) (x1 x2 : V), (ns.map V.int)[i]? = some x1 → ((ns.drop 1).map V.int)[i]? = some x2 → ∃ x y : Int, x1 = .int x ∧ x2 = .int y ∧ x < y := fun i x1 x2 e1 e2 => by
      rw [List.getElem?_map] at e1 e2
      cases h1 : ns[i]? with
      | none => rw [h1] at e1; cases e1
      | some x =>
        cases h2 : (ns.drop 1)[i]? with
        | none => rw [h2] at e2; cases e2
        | some y =>
          rw [h1] at e1
          rw [h2] at e2
          exact ⟨x, y, (Option.some.inj e1).symm, (Option.some.inj e2).symm, rise_at pw h1 h2⟩
    rcases hS with hS | hS
    · refine ⟨_, (pss_one (ps_ret (pe_callB (cr_all rfl) (by rfl) T.m_all (by decide +kernel) (pa_cons (pe_lc (own := [("one", 1), ("other", 2)]) (g := gTup K 2 (gCons (gName 1) (gCons (gName 2) gNil))) (by rfl) sc_rises.nd (RZ.pi_zipA (by rfl) T.m_zip (pa_cons (pv 0) (pa_cons (pe_slice sl_list (pv 0) (po_some pe_int) po_none) pa_nil))) (blkOk_by (own := [("one", 1), ("other", 2)]) (N := n_rises) (sc := defScope s_rises) (by decide +kernel)) (fun _ _ _ _ _ => (pg_tup rfl (pgs_cons (pg_name (i := 1) sc_rises.nd rfl (.inl rfl) (.inr rfl)) (pgs_cons (pg_name (i := 2) sc_rises.nd rfl (.inl rfl) (.inr rfl)) pgs_nil)))) (fun _ _ _ _ _ => pts_nil) (fun _ _ _ _ _ => (pe_cmpR op_lt (pv 1) (pv 2) (nomark _)))) pa_nil)))), ?_⟩
      refine ⟨.ref a, rfl, .ref a, rfl, 1, rfl, a, _, rfl, hS, fun c nc => ?_⟩
      have s1 := same_upd (o := .lst (cutV (ns.map V.int) (some 1) none)) nc
      refine ⟨a, c, _, _, rfl, .inl ⟨s1.seq hS, .inl (.inl upd_same), fun D hD => ?_⟩⟩
      rw [cut_map V.int, cut1] at s1 hD ⊢
      refine lc_true (walk_zip (xs := ns.map V.int) (ys := (ns.drop 1).map V.int) (n := ns.length - 1) (by rw [List.length_map, List.length_map, List.length_drop]; omega)) hD (by omega) (fun H3 s3 => ⟨s3.seq (s1.seq hS), .inl (.inl (s3 _ _ upd_same))⟩) ?_ (fun H3 s3 h3 => all_true h3 (q _ (s1.trans s3)))
      rintro i x H3 H4 hi s3 ⟨t, x1, x2, rfl, nt, rfl, e1, e2⟩ Q' Z hQ
      obtain ⟨x, y, rfl, rfl, lt⟩ := turn i x1 x2 e1 e2
      exact ⟨t, _, rfl, .inl (.inl upd_same), rfl, _, _, rfl, _, _, rfl, rfl, rfl, yes (iteT ⟨.int x, rfl, .int y, rfl, x, y, rfl, rfl, blT (decide_eq_true lt) (hQ _ (same_upd nt))⟩)⟩
    · refine ⟨_, (pss_one (ps_ret (pe_callB (cr_all rfl) (by rfl) T.m_all (by decide +kernel) (pa_cons (pe_lc (own := [("one", 1), ("other", 2)]) (g := gTup K 2 (gCons (gName 1) (gCons (gName 2) gNil))) (by rfl) sc_rises.nd (RZ.pi_zipA (by rfl) T.m_zip (pa_cons (pv 0) (pa_cons (pe_slice sl_tupA (pv 0) (po_some pe_int) po_none) pa_nil))) (blkOk_by (own := [("one", 1), ("other", 2)]) (N := n_rises) (sc := defScope s_rises) (by decide +kernel)) (fun _ _ _ _ _ => (pg_tup rfl (pgs_cons (pg_name (i := 1) sc_rises.nd rfl (.inl rfl) (.inr rfl)) (pgs_cons (pg_name (i := 2) sc_rises.nd rfl (.inl rfl) (.inr rfl)) pgs_nil)))) (fun _ _ _ _ _ => pts_nil) (fun _ _ _ _ _ => (pe_cmpR op_lt (pv 1) (pv 2) (nomark _)))) pa_nil)))), ?_⟩
      refine ⟨.ref a, rfl, .ref a, rfl, 1, rfl, a, _, rfl, hS.sq, fun wh => ?_, fun _ c nc => ?_⟩
      · have hn : ns = [] := by
          cases ns with
          | nil => rfl
          | cons x r =>
            have := wh.1
            rw [show HT.sIx ((x :: r).map V.int).length 0 (some 1) = min 1 ((x :: r).map V.int).length from HT.sIx_nat _ 0 1, List.length_map, List.length_cons] at this
            omega
        subst hn
        refine ⟨a, a, [], [], rfl, .inr ⟨hS.sq, hS.sq, fun D hD => ?_⟩⟩
        refine lc_true (walk_zipT (xs := []) (ys := []) (n := 0) rfl rfl) hD (by omega) (fun H3 s3 => ⟨(hS.keep (Keep.same s3)).sq, (hS.keep (Keep.same s3)).sq⟩) ?_ (fun H3 s3 h3 => all_true h3 (q _ s3))
        intro i x H3 H4 hi
        omega
      · have s1 := same_upd (o := .tup (cutV (ns.map V.int) (some 1) none)) nc
        have hA := hS.keep (Keep.same s1)
        refine ⟨a, c, _, _, rfl, .inr ⟨hA.sq, .inl (.inl upd_same), fun D hD => ?_⟩⟩
        rw [cut_map V.int, cut1] at s1 hD hA ⊢
        refine lc_true (walk_zipM (K := K) (a := a) (b := c) (xs := ns.map V.int) (ys := (ns.drop 1).map V.int) (n := ns.length - 1) (by rw [List.length_map, List.length_map, List.length_drop]; omega)) hD (by omega) (fun H3 s3 => ⟨(hA.keep (Keep.same s3)).sq, .inl (.inl (s3 _ _ upd_same))⟩) ?_ (fun H3 s3 h3 => all_true h3 (q _ (s1.trans s3)))
        rintro i x H3 H4 hi s3 ⟨t, x1, x2, rfl, nt, rfl, e1, e2⟩ Q' Z hQ
        obtain ⟨x, y, rfl, rfl, lt⟩ := turn i x1 x2 e1 e2
        exact ⟨t, _, rfl, .inl (.inl upd_same), rfl, _, _, rfl, _, _, rfl, rfl, rfl, yes (iteT ⟨.int x, rfl, .int y, rfl, x, y, rfl, rfl, blT (decide_eq_true lt) (hQ _ (same_upd nt))⟩)⟩
def spIsTie : Sp := fun vs H Q _ => ∃ (m : Int) (a : Addr) (q : Int × Int), vs = [.int m, .ref a] ∧ PairAtH H a q ∧ 0 ≤ q.1 ∧ q.1 < m ∧ 1 ≤ q.2 ∧ Q (.bl true) H
theorem ok_is_tie (T : Txt K mg w) : FnOk P w K mg base CX0 3 T.f_is_tie T.fd_is_tie p_is_tie spIsTie := by
  have G_is_number := ok_is_number (P := P) (w := w) (base := base) T
  have G_is_person := ok_is_person (P := P) (w := w) (base := base) T
  refine T.F_is_tie.ok sc_is_tie (fun vs H Q E h => ?_) (fun cdv A outer s H vs Q E hr h => ?_)
  · obtain ⟨m, a, q, rfl, _⟩ := h
    rfl
  · obtain ⟨m, a, ⟨p, wt⟩, rfl, ha, p0, p1, w1, q⟩ := h
    have ha' : H a = some (.tup [.int p, .int wt]) := ha
    refine ⟨_, (pss_cons (ps_if (PW.pt (pw_or (pt_not (pt_val (pe_callB call_isi (by rfl) T.m_isinstance (by decide +kernel) (pa_cons (pv 1) (pa_cons (pe_bltn (v := .ty "tuple") (by rfl) T.m_tuple (by decide +kernel) rfl) pa_nil))))) (pw_or1 (pt_cmpR op_ne (pe_callB call_len_seq (by rfl) T.m_len (by decide +kernel) (pa_cons (pv 1) pa_nil)) pe_int (nomark _)))))
        (pss_one (ps_ret pe_bl))
        pss_nil)
      (pss_one (ps_ret (pe_and (pe_call G_is_person (hr.mono (by decide)) (by rfl) T.g_is_person T.F_is_person.kp T.b_is_person .nil pass0 (pa_cons (pv 0) (pa_cons (pe_ix ix_tup (pv 1) pe_int (fun _ _ => rfl)) pa_nil))) (pe_and (pe_call G_is_number (hr.mono (by decide)) (by rfl) T.g_is_number T.F_is_number.kp T.b_is_number .nil pass0 (pa_cons (pe_ix ix_tup (pv 1) pe_int (fun _ _ => rfl)) pa_nil)) (pe_one (pe_cmpR op_ge (pe_ix ix_tup (pv 1) pe_int (fun _ _ => rfl)) pe_int (nomark _)))))))), ?_⟩
    refine rd_isi (x := .ref a) (T := "tuple") rfl (.base (.tup ha')) (by decide +kernel : kitB "tuple" "tuple" = some true) ⟨_, rfl, iteN rfl ?_⟩
    refine ⟨.ref a, rfl, a, _, rfl, .inr (.inl (.inl ha')), rfl, _, rfl, iteN (by show (!decide (V.int 2 = V.int 2)) = false; decide) ?_⟩
    refine ⟨.int m, rfl, .ref a, rfl, a, _, 0, _, rfl, rfl, .inl (.inl ha'), rfl, m, p, rfl, p0, p1, _, rfl, iteP rfl ?_⟩
    refine ⟨.ref a, rfl, a, _, 1, _, rfl, rfl, .inl (.inl ha'), rfl, wt, rfl, by have w1' : 1 ≤ wt := w1; omega, _, rfl, iteP rfl ?_⟩
    exact ⟨.ref a, rfl, a, _, 1, _, rfl, rfl, .inl (.inl ha'), rfl, wt, 1, rfl, rfl, blT (decide_eq_true w1) q⟩
def spAreTies : Sp := fun vs H Q _ => ∃ (m : Int) (t : Addr) (ties : List (Int × Int)), vs = [.int m, .ref t] ∧ TiesAt H t ties ∧ Rising m (ties.map (·.1)) ∧ (∀ q ∈ ties, 1 ≤ q.2) ∧ ties.length ≤ 1000 ∧ ∀ H', Same H H' → Q (.bl true) H'
theorem pair_get {H : Hp} : ∀ {ps : List Addr} {lot : List (Int × Int)}, Paired (PairAtH H) ps lot → ∀ (n : Nat) (p : Addr), ps[n]? = some p → ∃ q, q ∈ lot ∧ PairAtH H p q
  | _, _, .nil, n, p, e => by simp at e
  | _, _, .cons r t, 0, p, e => ⟨_, List.mem_cons_self, by cases e; exact r⟩
  | _, _, .cons r t, n + 1, p, e => by
    obtain ⟨q, h1, h2⟩ := pair_get t n p (by simpa using e)
    exact ⟨q, List.mem_cons_of_mem _ h1, h2⟩
theorem ok_are_ties (T : Txt K mg w) : FnOk P w K mg base CX0 4 T.f_are_ties T.fd_are_ties p_are_ties spAreTies := by
  have G_is_tie := ok_is_tie (P := P) (w := w) (base := base) T
  have G_rises := ok_rises (P := P) (w := w) (base := base) T
  refine T.F_are_ties.ok sc_are_ties (fun vs H Q E h => ?_) (fun cdv A outer s H vs Q E hr h => ?_)
  · obtain ⟨m, t, ties, rfl, _⟩ := h
    rfl
  · obtain ⟨m, t, ties, rfl, ⟨o, ps, od, ht, pr⟩, rs, w1, hl, q⟩ := h
    have el : ps.length = ties.length := pr.length
    have hT : TupAt H t (ps.map V.ref) := .inr ⟨o, od, ht⟩
    refine ⟨_, (pss_cons (ps_if (PW.pt (pw_or (pt_not (pt_val (pe_callB call_isi (by rfl) T.m_isinstance (by decide +kernel) (pa_cons (pv 1) (pa_cons (pe_bltn (v := .ty "tuple") (by rfl) T.m_tuple (by decide +kernel) rfl) pa_nil))))) (pw_or1 (pt_not (pt_val (pe_callB (cr_all rfl) (by rfl) T.m_all (by decide +kernel) (pa_cons (pe_lc (own := [("one", 2)]) (g := gName 2) (by rfl) sc_are_ties.nd (pi_tup (pv 1)) (blkOk_by (own := [("one", 2)]) (N := n_are_ties) (sc := defScope s_are_ties) (by decide +kernel)) (fun _ _ _ _ _ => (pg_name (i := 2) sc_are_ties.nd rfl (.inl rfl) (.inr rfl))) (fun _ _ _ _ _ => pts_nil) (fun _ _ _ _ _ => (pe_call G_is_tie (hr.mono (by decide)) (by rfl) T.g_is_tie T.F_is_tie.kp T.b_is_tie .nil pass0 (pa_cons (pv 0) (pa_cons (pv 2) pa_nil))))) pa_nil)))))))
        (pss_one (ps_ret pe_bl))
        pss_nil)
      (pss_one (ps_ret (pe_call G_rises (hr.mono (by decide)) (by rfl) T.g_rises T.F_rises.kp T.b_rises .nil pass0 (pa_cons (pe_lc (own := [("person", 3), ("weight", 4)]) (g := gTup K 2 (gCons (gName 3) (gCons (gName 4) gNil))) (by rfl) sc_are_ties.nd (pi_tup (pv 1)) (blkOk_by (own := [("person", 3), ("weight", 4)]) (N := n_are_ties) (sc := defScope s_are_ties) (by decide +kernel)) (fun _ _ _ _ _ => (pg_tup rfl (pgs_cons (pg_name (i := 3) sc_are_ties.nd rfl (.inl rfl) (.inr rfl)) (pgs_cons (pg_name (i := 4) sc_are_ties.nd rfl (.inl rfl) (.inr rfl)) pgs_nil)))) (fun _ _ _ _ _ => pts_nil) (fun _ _ _ _ _ => (pv 3))) pa_nil))))), ?_⟩
    refine rd_isi (x := .ref t) (T := "tuple") rfl hT.ty (by decide +kernel : kitB "tuple" "tuple" = some true) ⟨_, rfl, iteN rfl ?_⟩
    refine ⟨.ref t, rfl, t, rfl, ⟨_, hT.sq⟩, fun D hD => ?_⟩
    refine lc_true (walk_tupR ps) hD (by omega) (fun H3 s3 => (hT.keep (Keep.same s3)).sq) ?_ (fun H3 s3 h3 => ⟨D, _, rfl, .inl (.inl h3), _, rfl, iteN (by rw [rep_all]; rfl) ?_⟩)
    · rintro i x H3 H4 hi s3 ⟨rfl, hx⟩ Q' Z hQ
      rw [List.getElem?_map] at hx
      cases hp : ps[i]? with
      | none => rw [hp] at hx; cases hx
      | some p =>
        rw [hp] at hx
        cases hx
        obtain ⟨q0, hq0, ha⟩ := pair_get pr i p hp
        have r0 := rs.2 _ (List.mem_map_of_mem (f := (·.1)) hq0)
        exact ⟨rfl, yes (iteT ⟨.int m, rfl, .ref p, rfl, m, p, q0, rfl, s3 _ _ ha, r0.1, r0.2, w1 q0 hq0, hQ _ (Same.refl _)⟩)⟩
    have hT3 := hT.keep (Keep.same s3)
    refine ⟨.ref t, rfl, t, rfl, ⟨_, hT3.sq⟩, fun D2 hD2 => ?_⟩
    refine lc_pairs (·.1) (walk_tupR ps) (pairs_keep (Keep.same s3) pr) hD2 (by omega) (fun H4 s4 => (hT3.keep (Keep.same s4)).sq) (fun _ _ => rfl) (fun q _ H4 _ Q h => ⟨_, rfl, h⟩) (fun H4 s4 h4 => ?_)
    exact ⟨D2, _, rfl, .inl (.inl (.inl h4)), rs.1, by rw [List.length_map]; exact hl, fun H5 s5 => q _ (s3.trans (s4.trans s5))⟩
def spAreSeen : Sp := fun vs H Q _ => ∃ (m : Int) (t : Addr) (seen : List Int), vs = [.int m, .ref t] ∧ SeenAt H t seen ∧ Rising m seen ∧ seen.length ≤ 1000 ∧ ∀ H', Same H H' → Q (.bl true) H'
theorem ok_are_persons (T : Txt K mg w) : FnOk P w K mg base CX0 3 T.f_are_persons T.fd_are_persons p_are_persons spAreSeen := by
  have G_is_person := ok_is_person (P := P) (w := w) (base := base) T
  have G_rises := ok_rises (P := P) (w := w) (base := base) T
  refine T.F_are_persons.ok sc_are_persons (fun vs H Q E h => ?_) (fun cdv A outer s H vs Q E hr h => ?_)
  · obtain ⟨m, t, seen, rfl, _⟩ := h
    rfl
  · obtain ⟨m, t, seen, rfl, hT, rs, hl, q⟩ := h
    refine ⟨_, (pss_one (ps_ret (pe_and (pe_callB call_isi (by rfl) T.m_isinstance (by decide +kernel) (pa_cons (pv 1) (pa_cons (pe_bltn (v := .ty "tuple") (by rfl) T.m_tuple (by decide +kernel) rfl) pa_nil))) (pe_and (pe_callB (cr_all rfl) (by rfl) T.m_all (by decide +kernel) (pa_cons (pe_lc (own := [("one", 2)]) (g := gName 2) (by rfl) sc_are_persons.nd (pi_tup (pv 1)) (blkOk_by (own := [("one", 2)]) (N := n_are_persons) (sc := defScope s_are_persons) (by decide +kernel)) (fun _ _ _ _ _ => (pg_name (i := 2) sc_are_persons.nd rfl (.inl rfl) (.inr rfl))) (fun _ _ _ _ _ => pts_nil) (fun _ _ _ _ _ => (pe_call G_is_person (hr.mono (by decide)) (by rfl) T.g_is_person T.F_is_person.kp T.b_is_person .nil pass0 (pa_cons (pv 0) (pa_cons (pv 2) pa_nil))))) pa_nil)) (pe_one (pe_call G_rises (hr.mono (by decide)) (by rfl) T.g_rises T.F_rises.kp T.b_rises .nil pass0 (pa_cons (pv 1) pa_nil))))))), ?_⟩
    refine rd_isi (x := .ref t) (T := "tuple") rfl hT.ty (by decide +kernel : kitB "tuple" "tuple" = some true) ⟨_, rfl, iteP rfl ?_⟩
    refine ⟨.ref t, rfl, t, rfl, ⟨_, hT.sq⟩, fun D hD => ?_⟩
    refine lc_true (walk_tup (xs := seen.map V.int)) hD (by rw [List.length_map]; exact hl) (fun H3 s3 => (hT.keep (Keep.same s3)).sq) ?_ (fun H3 s3 h3 => ⟨D, _, rfl, .inl (.inl h3), _, rfl, iteP (rep_all _) ?_⟩)
    · rintro i x H3 H4 hi s3 ⟨rfl, hx⟩ Q' Z hQ
      rw [List.length_map] at hi
      rw [List.getElem?_map, List.getElem?_eq_getElem hi] at hx
      cases hx
      have r0 := rs.2 _ (List.getElem_mem hi)
      exact ⟨rfl, yes (iteT ⟨.int m, rfl, .int seen[i], rfl, m, seen[i], rfl, r0.1, r0.2, hQ _ (Same.refl _)⟩)⟩
    exact ⟨.ref t, rfl, t, seen, rfl, .inr (hT.keep (Keep.same s3)), rs.1, hl, fun H5 s5 => q _ (s3.trans s5)⟩
/-- what may stand as a part of a rule -/
def PartAt (H : Hp) (m : Int) (part : Str) (v : V) : Prop :=
  (part = "number" ∧ ∃ i : Int, v = .int i ∧ 0 ≤ i) ∨ (part = "ties" ∧ ∃ t ties, v = .ref t ∧ TiesAt H t ties ∧ Rising m (ties.map (·.1)) ∧ (∀ q ∈ ties, 1 ≤ q.2) ∧ ties.length ≤ 1000) ∨
  (part = "seen" ∧ ∃ t seen, v = .ref t ∧ SeenAt H t seen ∧ Rising m seen ∧ seen.length ≤ 1000)
theorem PartAt.same {H H' : Hp} {m : Int} {part : Str} {v : V} (s : Same H H') (h : PartAt H m part v) : PartAt H' m part v := by
  rcases h with h | ⟨e, t, ties, h1, h2, h3⟩ | ⟨e, t, seen, h1, h2, h3⟩
  · exact .inl h
  · exact .inr (.inl ⟨e, t, ties, h1, h2.keep (Keep.same s), h3⟩)
  · exact .inr (.inr ⟨e, t, seen, h1, h2.keep (Keep.same s), h3⟩)
def spIsPart : Sp := fun vs H Q _ => ∃ (m : Int) (part : Str) (v : V), vs = [.int m, .str part, v] ∧ PartAt H m part v ∧ ∀ H', Same H H' → Q (.bl true) H'
theorem ok_is_part (T : Txt K mg w) : FnOk P w K mg base CX0 5 T.f_is_part T.fd_is_part p_is_part spIsPart := by
  have G_is_number := ok_is_number (P := P) (w := w) (base := base) T
  have G_are_ties := ok_are_ties (P := P) (w := w) (base := base) T
  have G_are_persons := ok_are_persons (P := P) (w := w) (base := base) T
  refine T.F_is_part.ok sc_is_part (fun vs H Q E h => ?_) (fun cdv A outer s H vs Q E hr h => ?_)
  · obtain ⟨m, part, v, rfl, _⟩ := h
    rfl
  · obtain ⟨m, part, v, rfl, hp, q⟩ := h
    refine ⟨_, (pss_cons (ps_if (pt_cmpR op_eq (pv 1) pe_str (nomark _))
        (pss_one (ps_ret (pe_call G_is_number (hr.mono (by decide)) (by rfl) T.g_is_number T.F_is_number.kp T.b_is_number .nil pass0 (pa_cons (pv 2) pa_nil))))
        pss_nil)
      (pss_cons (ps_if (pt_cmpR op_eq (pv 1) pe_str (nomark _))
        (pss_one (ps_ret (pe_call G_are_ties (hr.mono (by decide)) (by rfl) T.g_are_ties T.F_are_ties.kp T.b_are_ties .nil pass0 (pa_cons (pv 0) (pa_cons (pv 2) pa_nil)))))
        pss_nil)
      (pss_one (ps_ret (pe_call G_are_persons (hr.mono (by decide)) (by rfl) T.g_are_persons T.F_are_persons.kp T.b_are_persons .nil pass0 (pa_cons (pv 0) (pa_cons (pv 2) pa_nil))))))), ?_⟩
    rcases hp with ⟨rfl, i, rfl, i0⟩ | ⟨rfl, t, ties, rfl, h1, h2, h3, h4⟩ | ⟨rfl, t, seen, rfl, h1, h2, h3⟩
    · refine ⟨_, rfl, rfl, _, rfl, iteP (by decide +kernel) ?_⟩
      exact ⟨.int i, rfl, i, rfl, i0, q H (Same.refl H)⟩
    · refine ⟨_, rfl, rfl, _, rfl, iteN (by decide +kernel) ?_⟩
      refine ⟨_, rfl, rfl, _, rfl, iteP (by decide +kernel) ?_⟩
      exact ⟨.int m, rfl, .ref t, rfl, m, t, ties, rfl, h1, h2, h3, h4, q⟩
    · refine ⟨_, rfl, rfl, _, rfl, iteN (by decide +kernel) ?_⟩
      refine ⟨_, rfl, rfl, _, rfl, iteN (by decide +kernel) ?_⟩
      exact ⟨.int m, rfl, .ref t, rfl, m, t, seen, rfl, h1, h2, h3, q⟩
end
end Lh

namespace Lh
open PySem PySem.Spec PyProof.Rows L2
def numB : PyData → Bool
  | .int i => decide (0 ≤ i)
  | _ => false
section
variable {P : Program} {w : World} {K : PySem.W.Frag} {mg : Str → Option Value} {base : Heap}
theorem fn_or {k : Nat} {f : Addr} {fd : FuncData} {ps : List Str} {s1 s2 : Sp} (a : FnOk P w K mg base CX0 k f fd ps s1) (b : FnOk P w K mg base CX0 k f fd ps s2) : FnOk P w K mg base CX0 k f fd ps (fun vs H Q E => s1 vs H Q E ∨ s2 vs H Q E) := by
  refine ⟨fun vs H Q E h => ?_, fun B out t H args us vs Q E hr e0 hb r h => ?_⟩
  · rcases h with h | h
    · exact a.len vs H Q E h
    · exact b.len vs H Q E h
  · rcases h with h | h
    · exact a.run B out t H args us vs Q E hr e0 hb r h
    · exact b.run B out t H args us vs Q E hr e0 hb r h
def spIsNumD : Sp := fun vs H Q _ => ∃ (bx : Addr) (v : V) (d : PyData), vs = [v] ∧ Rp bx H v d ∧ Q (.bl (numB d)) H
theorem ok_is_numberD (T : Txt K mg w) : FnOk P w K mg base CX0 1 T.f_is_number T.fd_is_number p_is_number spIsNumD := by
  refine T.F_is_number.ok sc_is_number (fun vs H Q E h => ?_) (fun cdv A outer s H vs Q E hr h => ?_)
  · obtain ⟨bx, v, d, rfl, _⟩ := h
    rfl
  · obtain ⟨bx, v, d, rfl, hv, q⟩ := h
    refine ⟨_, (pss_one (ps_ret (pe_and (pe_callB call_isi (by rfl) T.m_isinstance (by decide +kernel) (pa_cons (pv 0) (pa_cons (pe_bltn (v := .ty "int") (by rfl) T.m_int (by decide +kernel) rfl) pa_nil))) (pe_and (pe_not (pe_callB call_isi (by rfl) T.m_isinstance (by decide +kernel) (pa_cons (pv 0) (pa_cons (pe_bltn (v := .ty "bool") (by rfl) T.m_bool (by decide +kernel) rfl) pa_nil)))) (pe_one (pe_cmpR op_ge (pv 0) pe_int (nomark _))))))), ?_⟩
    have ty := hv.ty (K := K)
    cases d with
    | int i =>
      cases hv
      refine rd_isi (x := .int i) (T := "int") rfl (.base (.int i)) (by decide +kernel : kitB "int" "int" = some true) ⟨_, rfl, iteP rfl ?_⟩
      refine rd_isi (x := .int i) (T := "int") rfl (.base (.int i)) (by decide +kernel : kitB "int" "bool" = some false) ⟨_, rfl, _, rfl, iteP rfl ?_⟩
      exact ⟨.int i, rfl, i, 0, rfl, rfl, q⟩
    | bool b =>
      refine rd_isi (x := v) (T := "bool") rfl ty (by decide +kernel : kitB "bool" "int" = some true) ⟨_, rfl, iteP rfl ?_⟩
      exact rd_isi (x := v) (T := "bool") rfl ty (by decide +kernel : kitB "bool" "bool" = some true) ⟨_, rfl, _, rfl, iteN rfl q⟩
    | none => exact rd_isi (x := v) (T := "NoneType") rfl ty (by decide +kernel : kitB "NoneType" "int" = some false) ⟨_, rfl, iteN rfl q⟩
    | str x => exact rd_isi (x := v) (T := "str") rfl ty (by decide +kernel : kitB "str" "int" = some false) ⟨_, rfl, iteN rfl q⟩
    | list ds => exact rd_isi (x := v) (T := "list") rfl ty (by decide +kernel : kitB "list" "int" = some false) ⟨_, rfl, iteN rfl q⟩
    | tuple ds => exact rd_isi (x := v) (T := "tuple") rfl ty (by decide +kernel : kitB "tuple" "int" = some false) ⟨_, rfl, iteN rfl q⟩
    | _ => cases hv
end
end Lh

namespace Lh
open PySem PySem.Spec PyProof.Rows L2
def partsOf : Rule → List Str
  | .held _ => ["number"]
  | .sum _ _ => ["number", "ties"]
  | .cap _ _ _ => ["number", "ties", "number"]
  | .kinds _ _ => ["number", "seen"]
  | .next _ => ["seen"]
  | .free _ => ["seen"]
section
variable {P : Program} {w : World} {K : PySem.W.Frag} {mg : Str → Option Value} {base : Heap}
theorem parts_at (T : Txt K mg w) : ∀ r : Rule, ∃ t, PySem.W.nsIn K T.D_PARTS (wordOf r) = some (some (.ref t)) ∧ ∀ H, SqT K H t ((partsOf r).map V.str)
  | .held _ => ⟨_, T.dk_PARTS_held, T.sq_PARTS_held⟩
  | .sum _ _ => ⟨_, T.dk_PARTS_sum, T.sq_PARTS_sum⟩
  | .cap _ _ _ => ⟨_, T.dk_PARTS_cap, T.sq_PARTS_cap⟩
  | .kinds _ _ => ⟨_, T.dk_PARTS_kinds, T.sq_PARTS_kinds⟩
  | .next _ => ⟨_, T.dk_PARTS_next, T.sq_PARTS_next⟩
  | .free _ => ⟨_, T.dk_PARTS_free, T.sq_PARTS_free⟩
theorem pieces {H : Hp} {v : V} {m : Int} : ∀ {r : Rule}, RuleAt H v r → r.Wf m → r.persons.length ≤ 1000 → ∃ a xs, v = .ref a ∧ H a = some (.tup (.str (wordOf r) :: xs)) ∧ xs.length = (partsOf r).length ∧ ∀ (i : Nat) (s : Str) (x : V), (partsOf r)[i]? = some s → xs[i]? = some x → PartAt H m s x
  | .held n, ⟨a, e, h⟩, wf, _ => ⟨a, _, e, h, rfl, fun i s x h1 h2 => by
    match i with
    | 0 => cases h1; cases h2; exact .inl ⟨rfl, n, rfl, wf.1⟩
    | i + 1 => cases h1⟩
  | .sum own ties, ⟨a, t, e, h, q⟩, wf, hl => ⟨a, _, e, h, rfl, fun i s x h1 h2 => by
    have hl' : ties.length ≤ 1000 := by simpa [Rule.persons] using hl
    match i with
    | 0 => cases h1; cases h2; exact .inl ⟨rfl, own, rfl, wf.1.1⟩
    | 1 => cases h1; cases h2; exact .inr (.inl ⟨rfl, t, ties, rfl, q, wf.2.1, fun q hq => (wf.2.2 q hq).1, hl'⟩)
    | i + 2 => cases h1⟩
  | .cap own ties most, ⟨a, t, e, h, q⟩, wf, hl => ⟨a, _, e, h, rfl, fun i s x h1 h2 => by
    have hl' : ties.length ≤ 1000 := by simpa [Rule.persons] using hl
    match i with
    | 0 => cases h1; cases h2; exact .inl ⟨rfl, own, rfl, wf.1.1⟩
    | 1 => cases h1; cases h2; exact .inr (.inl ⟨rfl, t, ties, rfl, q, wf.2.1, fun q hq => (wf.2.2.1 q hq).1, hl'⟩)
    | 2 => cases h1; cases h2; exact .inl ⟨rfl, most, rfl, wf.2.2.2.1⟩
    | i + 3 => cases h1⟩
  | .kinds own seen, ⟨a, t, e, h, q⟩, wf, hl => ⟨a, _, e, h, rfl, fun i s x h1 h2 => by
    match i with
    | 0 => cases h1; cases h2; exact .inl ⟨rfl, own, rfl, wf.1.1⟩
    | 1 => cases h1; cases h2; exact .inr (.inr ⟨rfl, t, seen, rfl, q, wf.2, hl⟩)
    | i + 2 => cases h1⟩
  | .next seen, ⟨a, t, e, h, q⟩, wf, hl => ⟨a, _, e, h, rfl, fun i s x h1 h2 => by
    match i with
    | 0 => cases h1; cases h2; exact .inr (.inr ⟨rfl, t, seen, rfl, q, wf, hl⟩)
    | i + 1 => cases h1⟩
  | .free seen, ⟨a, t, e, h, q⟩, wf, hl => ⟨a, _, e, h, rfl, fun i s x h1 h2 => by
    match i with
    | 0 => cases h1; cases h2; exact .inr (.inr ⟨rfl, t, seen, rfl, q, wf, hl⟩)
    | i + 1 => cases h1⟩
theorem parts_len : ∀ r : Rule, (partsOf r).length ≤ 1000
  | .held _ => by show 1 ≤ 1000; decide
  | .sum _ _ => by show 2 ≤ 1000; decide
  | .cap _ _ _ => by show 3 ≤ 1000; decide
  | .kinds _ _ => by show 2 ≤ 1000; decide
  | .next _ => by show 1 ≤ 1000; decide
  | .free _ => by show 1 ≤ 1000; decide
theorem cutV1 (xs : List V) : cutV xs (some 1) none = xs.drop 1 := by
  have h := cut_map id xs (some 1) none
  rw [List.map_id, List.map_id, cut1] at h
  exact h
def spIsRule : Sp := fun vs H Q _ => ∃ (m : Int) (v : V) (r : Rule), vs = [.int m, v] ∧ RuleAt H v r ∧ r.Wf m ∧ r.persons.length ≤ 1000 ∧ ∀ H', Same H H' → Q (.bl true) H'
set_option maxHeartbeats 2000000 in
theorem ok_is_rule (T : Txt K mg w) : FnOk P w K mg base CX0 6 T.f_is_rule T.fd_is_rule p_is_rule spIsRule := by
  have G_is_part := ok_is_part (P := P) (w := w) (base := base) T
  refine T.F_is_rule.ok sc_is_rule (fun vs H Q E h => ?_) (fun cdv A outer s H vs Q E hr h => ?_)
  · obtain ⟨m, v, r, rfl, _⟩ := h
    rfl
  · obtain ⟨m, v, r, rfl, hv, wf, hl, q⟩ := h
    obtain ⟨a, xs, rfl, ha, xl, px⟩ := pieces hv wf hl
    obtain ⟨t, dk, sq⟩ := parts_at T r
    refine ⟨_, (pss_cons (ps_if (PW.pt (pw_or (pt_not (pt_val (pe_callB call_isi (by rfl) T.m_isinstance (by decide +kernel) (pa_cons (pv 1) (pa_cons (pe_bltn (v := .ty "tuple") (by rfl) T.m_tuple (by decide +kernel) rfl) pa_nil))))) (pw_or1 (pt_not (pt_truth (pv 1) (by intro _; rfl))))))
        (pss_one (ps_ret pe_bl))
        pss_nil)
      (pss_cons (ps_if (PW.pt (pw_or (pt_not (pt_val (pe_callB call_isi (by rfl) T.m_isinstance (by decide +kernel) (pa_cons (pe_ix ix_tup (pv 1) pe_int (fun _ _ => rfl)) (pa_cons (pe_bltn (v := .ty "str") (by rfl) T.m_str (by decide +kernel) rfl) pa_nil))))) (pw_or1 (pt_cmpR (op_notIn_kd T.kd_PARTS) (pe_ix ix_tup (pv 1) pe_int (fun _ _ => rfl)) (pe_glob (v := .ref T.D_PARTS) (by rfl) T.g_PARTS rfl) (by rfl)))))
        (pss_one (ps_ret pe_bl))
        pss_nil)
      (pss_cons (ps_set (i := 2) sc_is_rule.nd rfl (.inl rfl) (pe_ix ix_kdict (pe_glob (v := .ref T.D_PARTS) (by rfl) T.g_PARTS rfl) (pe_ix ix_tup (pv 1) pe_int (fun _ _ => rfl)) (fun _ _ => rfl)))
      (pss_cons (ps_if (pt_cmpR op_ne (pe_callB call_len_seq (by rfl) T.m_len (by decide +kernel) (pa_cons (pv 1) pa_nil)) (pe_op op_add (pe_callB call_len_seq (by rfl) T.m_len (by decide +kernel) (pa_cons (pv 2) pa_nil)) pe_int) (nomark _))
        (pss_one (ps_ret pe_bl))
        pss_nil)
      (pss_one (ps_ret (pe_callB (cr_all rfl) (by rfl) T.m_all (by decide +kernel) (pa_cons (pe_lc (own := [("part", 3), ("piece", 4)]) (g := gTup K 2 (gCons (gName 3) (gCons (gName 4) gNil))) (by rfl) sc_is_rule.nd (RZ.pi_zipA (by rfl) T.m_zip (pa_cons (pv 2) (pa_cons (pe_slice sl_tupA (pv 1) (po_some pe_int) po_none) pa_nil))) (blkOk_by (own := [("part", 3), ("piece", 4)]) (N := n_is_rule) (sc := defScope s_is_rule) (by decide +kernel)) (fun _ _ _ _ _ => (pg_tup rfl (pgs_cons (pg_name (i := 3) sc_is_rule.nd rfl (.inl rfl) (.inr rfl)) (pgs_cons (pg_name (i := 4) sc_is_rule.nd rfl (.inl rfl) (.inr rfl)) pgs_nil)))) (fun _ _ _ _ _ => pts_nil) (fun _ _ _ _ _ => (pe_call G_is_part (hr.mono (by decide)) (by rfl) T.g_is_part T.F_is_part.kp T.b_is_part .nil pass0 (pa_cons (pv 0) (pa_cons (pv 3) (pa_cons (pv 4) pa_nil)))))) pa_nil)))))))), ?_⟩
    have i0 : atI (V.str (wordOf r) :: xs) 0 = some (.str (wordOf r)) := atI_nat (j := 0) rfl
    refine rd_isi (x := .ref a) (T := "tuple") rfl (.base (.tup ha)) (by decide +kernel : kitB "tuple" "tuple" = some true) ⟨_, rfl, iteN rfl ?_⟩
    refine ⟨.ref a, rfl, true, .inr (.inl ⟨_, .inl (.inl ha), rfl⟩), iteN rfl ?_⟩
    refine ⟨.ref a, rfl, a, _, 0, _, rfl, rfl, .inl (.inl ha), i0, _, _, .type "str", .type "str", true, rfl, .ty "str", .base (.str _), kit_ty (by decide +kernel), _, rfl, iteN rfl ?_⟩
    refine ⟨.ref a, rfl, a, _, 0, _, rfl, rfl, .inl (.inl ha), i0, _, _, rfl, rfl, dk, _, rfl, iteN rfl ?_⟩
    refine ⟨.ref a, rfl, a, _, 0, _, rfl, rfl, .inl (.inl ha), i0, T.D_PARTS, _, .ref t, rfl, rfl, ⟨T.es_PARTS, T.en_PARTS, _, T.kd_PARTS.at_, T.kd_PARTS.lit, dk, rfl⟩, ?_⟩
    refine ⟨.ref a, rfl, a, _, rfl, .inr (.inl (.inl ha)), .ref t, rfl, t, _, rfl, .inr (sq H), _, 1, rfl, rfl, rfl, _, rfl, iteN ?_ ?_⟩
    · rw [List.length_cons, List.length_map, xl]
      rw [decide_eq_true (by rfl)]
      rfl
    refine ⟨.ref t, rfl, .ref a, rfl, 1, rfl, a, _, rfl, .inl (.inl ha), fun wh => ?_, fun _ c nc => ?_⟩
    · exfalso
      have := wh.1
      rw [show HT.sIx (V.str (wordOf r) :: xs).length 0 (some 1) = min 1 (V.str (wordOf r) :: xs).length from HT.sIx_nat _ 0 1, List.length_cons] at this
      omega
    rw [cutV1]
    have s1 := same_upd (o := .tup ((V.str (wordOf r) :: xs).drop 1)) nc
    refine ⟨t, c, _, _, rfl, .inr ⟨sq _, .inl (.inl upd_same), fun D hD => ?_⟩⟩
    refine lc_true (walk_zipM (K := K) (a := t) (b := c) (xs := (partsOf r).map V.str) (ys := (V.str (wordOf r) :: xs).drop 1) (n := (partsOf r).length) (by rw [List.length_map, List.length_drop, List.length_cons, xl]; omega)) hD (parts_len r) (fun H3 s3 => ⟨sq _, .inl (.inl (s3 _ _ upd_same))⟩) ?_ (fun H3 s3 h3 => all_true h3 (q _ (s1.trans s3)))
    rintro i x H3 H4 hi s3 ⟨u, x1, x2, rfl, nu, rfl, e1, e2⟩ Q' Z hQ
    have e1' : ((partsOf r).map V.str)[i]? = some x1 := e1
    have e2' : xs[i]? = some x2 := e2
    rw [List.getElem?_map, List.getElem?_eq_getElem hi] at e1'
    cases e1'
    have sT := same_upd (o := .tup [V.str (partsOf r)[i], x2]) nu
    refine ⟨u, _, rfl, .inl (.inl upd_same), rfl, _, _, rfl, _, _, rfl, rfl, rfl, yes (iteT ⟨.int m, rfl, .str (partsOf r)[i], rfl, x2, rfl, m, _, x2, rfl, (px i _ x2 (List.getElem?_eq_getElem hi) e2').same (s1.trans (s3.trans sT)), fun H5 s5 => hQ _ (sT.trans s5)⟩)⟩
/-! ### halls -/
theorem run_len {X : Cx} {k : Nat} {f C : Addr} {fd : FuncData} {ps : List Str} {sp : Sp} (me : Meth X.K C "__len__" f) (F : FnOk X.prog X.w X.K X.mg X.base CX0 k f fd ps sp) (hb : Binds X.K fd ps []) (hr : Room (k + 1) X.A) :
    CallR X (.builtin "len") (fun xs H Q => ∃ (x dx : Addr) (fs : List (Str × V)), xs = [.ref x] ∧ H x = some (.ins C dx fs) ∧ sp [.ref x] H (fun v H' => ∃ n : Int, v = .int n ∧ 0 ≤ n ∧ n < 2 ^ 63 ∧ Q (.int n) H') E0) := by
  intro pins s σ H xs us Q I r h
  obtain ⟨x, dx, fs, rfl, hx, h⟩ := h
  rw [Vals.ref1 r]
  obtain ⟨m, fr⟩ := I.fr
  obtain ⟨mA, O, _⟩ := ins_get I.hok hx
  obtain ⟨od, J, _⟩ := O.look
  refine PySem.W.len_K fr I.mod.kin J me.at_ me.fn ?_
  have e0 := I.env0
  have e1 : Env0 X.prog X.w X.K X.mg X.base X.A.in1 X.stack s H := ⟨e0.frames, e0.mod, e0.bs, e0.bsz, e0.funs, e0.frf, e0.hok, e0.bare⟩
  have hl : ([Value.ref x] ++ []).length = ps.length := by rw [← F.len _ _ _ _ h]; rfl
  have bb := hb s [.ref x] I.kIn hl
  rw [List.append_nil] at bb
  have vv : Vals [V.ref x] [Value.ref x] := .cons rfl .nil
  have run := F.run X.A.in1 X.stack s H ⟨[.ref x], []⟩ [.ref x] [.ref x] _ E0 hr.in1 e1 bb vv h
  refine wpAny_call (codeAny_mono run ?_)
  rintro (e | fl) t ht
  · exact False.elim ht
  cases fl with
  | next => exact False.elim ht
  | brk => exact False.elim ht
  | cont => exact False.elim ht
  | ret u =>
    obtain ⟨v, H', J2, rv, n, rfl, n0, n1, q⟩ := I.after ht
    obtain ⟨tk, rfl⟩ := rv
    exact ⟨⟨n0, n1⟩, .int n, H', J2.tok _, ⟨_, rfl⟩, q⟩
def RulesAt (H : Hp) : List V → List Rule → Prop := Paired (RuleAt H)
theorem RulesAt.keep {H H' : Hp} (k : Keep H H') : ∀ {vs : List V} {rs : List Rule}, RulesAt H vs rs → RulesAt H' vs rs
  | _, _, .nil => .nil
  | _, _, .cons h r => .cons (h.keep k) (RulesAt.keep k r)
theorem RulesAt.get {H : Hp} : ∀ {vs : List V} {rs : List Rule}, RulesAt H vs rs → ∀ (i : Nat) (h : i < rs.length), ∃ v, vs[i]? = some v ∧ RuleAt H v rs[i]
  | _, _, .nil, i, h => absurd h (by simp)
  | _, _, .cons r t, 0, h => ⟨_, rfl, r⟩
  | _, _, .cons r t, i + 1, h => by
    obtain ⟨v, h1, h2⟩ := RulesAt.get t i (by simpa using h)
    exact ⟨v, by simpa using h1, by simpa using h2⟩
def Halls (rs : List Rule) : Prop := 1 ≤ rs.length ∧ rs.length ≤ 12 ∧ ∀ r ∈ rs, r.Wf rs.length
theorem wf_len {m : Int} {r : Rule} (h : r.Wf m) (hm : m ≤ 1000) (m0 : 0 ≤ m) : r.persons.length ≤ 1000 ∧ (r.persons.length : Int) ≤ m := by
  have key : ∀ ns : List Int, Rising m ns → (ns.length : Int) ≤ m := fun ns rs => by
    have h1 := nodup_len ns ((List.range m.toNat).map fun k : Nat => (k : Int)) rs.nodup (fun x hx => by
      have := rs.2 x hx
      rw [List.mem_map]
      exact ⟨x.toNat, List.mem_range.mpr (by omega), by omega⟩)
    rw [List.length_map, List.length_range] at h1
    omega
  have : (r.persons.length : Int) ≤ m := by
    cases r with
    | held n => show ((0 : Nat) : Int) ≤ m; omega
    | sum own ties => exact key _ h.2.1
    | cap own ties most => exact key _ h.2.1
    | kinds own seen => exact key _ h.2
    | next seen => exact key _ h
    | free seen => exact key _ h
  exact ⟨by omega, this⟩
/-- the hall at x, of these rules -/
def HallAt (C : Addr) (H : Hp) (x : Addr) (rs : List Rule) : Prop := ∃ (dx t : Addr) (vs : List V), H x = some (.ins C dx [("kept", .ref t)]) ∧ TupAt H t vs ∧ RulesAt H vs rs
def spInit (C : Addr) : Sp := fun vs H Q _ => ∃ (x dx l : Addr) (us : List V) (rs : List Rule), vs = [.ref x, .ref l] ∧ H x = some (.ins C dx []) ∧ H l = some (.lst us) ∧ RulesAt H us rs ∧ Halls rs ∧
  ∀ H', (∀ b o, b ≠ x → H b = some o → H' b = some o) → HallAt C H' x rs → Q .non H'
end
end Lh

namespace Lh
open PySem PySem.Spec PyProof.Rows L2
theorem kept_yes (v : V) : ([("kept", v)] : List (Str × V)).lookup ("kept" : Str) = some v := by
  rw [List.lookup_cons, show (("kept" : Str) == "kept") = true from beq_self_eq_true _]
theorem kept_no (v : V) {m : Str} (h : ¬ m = "kept") : ([("kept", v)] : List (Str × V)).lookup (m : Str) = none := by
  rw [List.lookup_cons, show (m == ("kept" : Str)) = false from beq_eq_false_iff_ne.mpr h]
  rfl
theorem HallAt.keep {C : Addr} {H H' : Hp} {x : Addr} {rs : List Rule} (s : Same H H') (h : HallAt C H x rs) : HallAt C H' x rs := by
  obtain ⟨dx, t, vs, h1, h2, h3⟩ := h
  exact ⟨dx, t, vs, s _ _ h1, h2.keep (Keep.same s), h3.keep (Keep.same s)⟩
theorem HallAt.ext {C bx : Addr} {c : Int} {H H' : Hp} {x : Addr} {rs : List Rule} (e : Ext bx H H') (b : Box bx c H) (h : HallAt C H x rs) : HallAt C H' x rs := by
  obtain ⟨dx, t, vs, h1, h2, h3⟩ := h
  have nb : x ≠ bx := by
    obtain ⟨_, _, _, hb, _⟩ := b
    exact ne_of h1 hb (by intro z; cases z)
  exact ⟨dx, t, vs, e _ _ nb h1, h2.keep (Keep.ext e b), h3.keep (Keep.ext e b)⟩
/-! ### standings -/
def nth (ns : List Int) (p : Int) : Int := ns.getD p.toNat 0
theorem nth_get {ns : List Int} {p : Int} (h0 : 0 ≤ p) (h1 : p < ns.length) : (ns.map V.int)[p.toNat]? = some (.int (nth ns p)) := by
  have hp : p.toNat < ns.length := by omega
  rw [List.getElem?_map, List.getElem?_eq_getElem hp]
  unfold nth
  rw [List.getD_eq_getElem?_getD, List.getElem?_eq_getElem hp]
  rfl
theorem nth_at {ns : List Int} {p : Int} (h0 : 0 ≤ p) (h1 : p < ns.length) : atI (ns.map V.int) p = some (.int (nth ns p)) := at_of (by omega) (nth_get h0 h1)
/-- the lot of those a rule sees who show less -/
def lotI (r : Rule) (ns : List Int) (p : Int) : List (Int × Int) := (r.persons.filter fun o => decide (nth ns o < nth ns p)).map fun o => (o, nth ns o)
def lotH (r : Rule) (ns : List Int) (h : Int) : List (Int × Int) := (r.persons.filter fun o => decide (nth ns o < h)).map fun o => (o, nth ns o)
theorem lotH_in {r : Rule} {ns : List Int} {h : Int} : ∀ q ∈ lotH r ns h, q.1 ∈ r.persons := fun q hq => by
  obtain ⟨o, ho, rfl⟩ := List.mem_map.mp hq
  exact (List.mem_filter.mp ho).1
theorem lotI_in {r : Rule} {ns : List Int} {p : Int} : ∀ q ∈ lotI r ns p, q.1 ∈ r.persons := fun q hq => by
  obtain ⟨o, ho, rfl⟩ := List.mem_map.mp hq
  exact (List.mem_filter.mp ho).1
/-- the turns of some, had at once -/
def Turned (rs : List Rule) (ns : List Int) (some_ : Int → Prop) (ms : List Int) : Prop := ms.length = ns.length ∧ ∀ (i : Nat) (h : i < rs.length), (some_ i → Tell rs[i] (lotI rs[i] ns i) (nth ms i)) ∧ (¬ some_ i → nth ms i = nth ns i)
theorem nth_ext {ns ms : List Int} (hl : ns.length = ms.length) (h : ∀ i : Nat, i < ns.length → nth ns i = nth ms i) : ns = ms := by
  apply List.ext_getElem hl
  intro i h1 h2
  have := h i h1
  unfold nth at this
  rw [List.getD_eq_getElem?_getD, List.getD_eq_getElem?_getD, Int.toNat_natCast, List.getElem?_eq_getElem h1, List.getElem?_eq_getElem h2] at this
  exact this
theorem Turned.unique {rs : List Rule} {ns ms ks : List Int} {p q : Int → Prop} (hn : ns.length = rs.length) (pq : ∀ i : Nat, i < rs.length → (p i ↔ q i)) (a : Turned rs ns p ms) (b : Turned rs ns q ks) : ms = ks := by
  refine nth_ext (a.1.trans b.1.symm) fun i hi => ?_
  have h : i < rs.length := by rw [← hn, ← a.1]; exact hi
  have ha := a.2 i h
  have hb := b.2 i h
  by_cases c : p i
  · exact (ha.1 c).unique (hb.1 ((pq i h).mp c))
  · rw [ha.2 c, hb.2 fun z => c ((pq i h).mpr z)]
abbrev Beat (rs : List Rule) (ns ms : List Int) : Prop := Turned rs ns (fun _ => True) ms
section
variable {P : Program} {w : World} {K : PySem.W.Frag} {mg : Str → Option Value} {base : Heap}
def spMust (C : Addr) : Sp := fun vs H Q _ => ∃ (x : Addr) (p : Int) (rs : List Rule), vs = [.ref x, .int p] ∧ HallAt C H x rs ∧ 0 ≤ p ∧ p < rs.length ∧ Q .non H
def spRuleM (C : Addr) : Sp := fun vs H Q _ => ∃ (x : Addr) (p : Nat) (rs : List Rule) (h : p < rs.length), vs = [.ref x, .int p] ∧ HallAt C H x rs ∧ ∀ v, RuleAt H v rs[p] → Q v H
def spSees (C : Addr) : Sp := fun vs H Q _ => ∃ (x : Addr) (p : Nat) (rs : List Rule) (h : p < rs.length), vs = [.ref x, .int p] ∧ HallAt C H x rs ∧ Halls rs ∧ ∀ (l : Addr) (H' : Hp), Same H H' → H l = none → H' l = some (.lst (rs[p].persons.map V.int)) → Q (.ref l) H'
theorem Halls.few {rs : List Rule} (h : Halls rs) {p : Nat} (hp : p < rs.length) : rs[p].persons.length ≤ 12 := by
  have h1 := h.2.1
  have := (wf_len (h.2.2 _ (List.getElem_mem hp)) (by omega) (by omega)).2
  omega
def spLen (C : Addr) : Sp := fun vs H Q _ => ∃ (x : Addr) (rs : List Rule), vs = [.ref x] ∧ HallAt C H x rs ∧ Q (.int rs.length) H
theorem per_in {rs : List Rule} (hh : Halls rs) {p : Nat} (hp : p < rs.length) : ∀ o ∈ rs[p].persons, 0 ≤ o ∧ o < rs.length := by
  intro o ho
  have wf := hh.2.2 _ (List.getElem_mem hp)
  generalize rs[p] = r at ho wf
  cases r with
  | held n => exact absurd ho (by simp [Rule.persons])
  | sum own ties => exact wf.2.1.2 o ho
  | cap own ties most => exact wf.2.1.2 o ho
  | kinds own seen => exact wf.2.2 o ho
  | next seen => exact wf.2 o ho
  | free seen => exact wf.2 o ho
end
end Lh

namespace Lh
open PySem PySem.Spec PyProof.Rows L2
/-! ### comprehensions that leave all as it was -/
theorem lc_map {J : It} {n : Nat} {G : Hp → Prop} {Y : Nat → Hp → V → Hp → Prop} (wk : Walk J n G Y) {g : TG} {te : TE} {vs : List Nat} {σ : L2.St} {H1 : Hp} {D : Addr} {Qd : Hp → Prop} (f : Nat → V) (hD : H1 D = none) (hn : n ≤ 1000) (hG : ∀ H3, Same H1 H3 → G H3)
    (hs : ∀ i x H3 H4, i < n → Same H1 H3 → Y i H3 x H4 → ∀ (Q : VK) (Z : Hp → Prop), (∀ H5, Same H3 H5 → Q (f i) H5) → g x (wipe σ vs) H4 fun σ2 H2 => wipe σ2 vs = wipe σ vs ∧ tYes σ2 H2 fun b H3 => if b = true then te σ2 H3 Q else Z H3)
    (hq : ∀ H', Same H1 H' → H' D = some (.lst ((List.range n).map f)) → Qd H') :
    ∃ W : Nat → Nat → Hp → Prop, (∃ m, W 0 m (upd H1 D (.lst []))) ∧ ∀ i m H, W i m H →
      (J.stop i H ∧ Qd H) ∨ (J.go i H ∧ ∃ Nx : Hp → Prop, (∀ H', Nx H' → ∃ m', m' < m ∧ W (i + 1) m' H') ∧ ∀ x H', J.yld i H x H' → g x (wipe σ vs) H' fun σ2 H2 => wipe σ2 vs = wipe σ vs ∧ tYes σ2 H2 fun b H3 =>
        if b = true then te σ2 H3 fun y H4 => ∃ acc, H4 D = some (.lst acc) ∧ acc.length < sizeLine ∧ Nx (upd H4 D (.lst (acc ++ [y]))) else Nx H3) := by
  refine lc_it wk (fun i H3 => Same H1 H3 ∧ H3 D = some (.lst ((List.range i).map f))) ⟨same_upd hD, upd_same⟩ (fun i H3 _ h => hG H3 h.1) ?_ (fun H3 h => hq H3 h.1 h.2)
  rintro i x H3 H4 hi ⟨sm, h3⟩ hy
  refine hs i x H3 H4 hi sm hy _ _ (fun H5 s5 => ⟨_, s5 _ _ h3, ?_, same_mut (sm.trans s5) hD, ?_⟩)
  · rw [List.length_map, List.length_range]; exact small1000 (by omega)
  · rw [upd_same, List.range_succ, List.map_append]; rfl
theorem lc_filt {J : It} {n : Nat} {G : Hp → Prop} {Y : Nat → Hp → V → Hp → Prop} (wk : Walk J n G Y) {g : TG} {tt : TT} {te : TE} {vs : List Nat} {σ : L2.St} {H1 : Hp} {D : Addr} {Qd : Hp → Prop} (p : Nat → Bool) (f : Nat → V) (hD : H1 D = none) (hn : n ≤ 1000) (hG : ∀ H3, Same H1 H3 → G H3)
    (hs : ∀ i x H3 H4, i < n → Same H1 H3 → Y i H3 x H4 → ∀ (Q : VK) (Z : Hp → Prop), (p i = true → ∀ H5, Same H3 H5 → Q (f i) H5) → (p i = false → ∀ H5, Same H3 H5 → Z H5) → g x (wipe σ vs) H4 fun σ2 H2 => wipe σ2 vs = wipe σ vs ∧ tt σ2 H2 fun b H3 => if b = true then te σ2 H3 Q else Z H3)
    (hq : ∀ H', Same H1 H' → H' D = some (.lst (((List.range n).filter p).map f)) → Qd H') :
    ∃ W : Nat → Nat → Hp → Prop, (∃ m, W 0 m (upd H1 D (.lst []))) ∧ ∀ i m H, W i m H →
      (J.stop i H ∧ Qd H) ∨ (J.go i H ∧ ∃ Nx : Hp → Prop, (∀ H', Nx H' → ∃ m', m' < m ∧ W (i + 1) m' H') ∧ ∀ x H', J.yld i H x H' → g x (wipe σ vs) H' fun σ2 H2 => wipe σ2 vs = wipe σ vs ∧ tt σ2 H2 fun b H3 =>
        if b = true then te σ2 H3 fun y H4 => ∃ acc, H4 D = some (.lst acc) ∧ acc.length < sizeLine ∧ Nx (upd H4 D (.lst (acc ++ [y]))) else Nx H3) := by
  refine lc_it wk (fun i H3 => Same H1 H3 ∧ H3 D = some (.lst (((List.range i).filter p).map f))) ⟨same_upd hD, upd_same⟩ (fun i H3 _ h => hG H3 h.1) ?_ (fun H3 h => hq H3 h.1 h.2)
  rintro i x H3 H4 hi ⟨sm, h3⟩ hy
  refine hs i x H3 H4 hi sm hy _ _ (fun z H5 s5 => ⟨_, s5 _ _ h3, ?_, same_mut (sm.trans s5) hD, ?_⟩) (fun z H5 s5 => ⟨sm.trans s5, ?_⟩)
  · rw [List.length_map]; exact small1000 (Nat.le_trans (List.length_filter_le _ _) (by rw [List.length_range]; omega))
  · rw [upd_same, List.range_succ, List.filter_append, List.map_append, List.filter_cons, if_pos z]; rfl
  · rw [s5 _ _ h3, List.range_succ, List.filter_append, List.filter_cons, if_neg (by rw [z]; exact Bool.false_ne_true), List.filter_nil, List.append_nil]
end Lh

namespace Lh
open PySem PySem.Spec PyProof.Rows L2
def stdB (n : Nat) : PyData → Bool
  | .tuple ds => decide (ds.length = n) && ds.all numB
  | _ => false
theorem stdB_tup (n : Nat) (ds : List PyData) : stdB n (.tuple ds) = (decide (ds.length = n) && ds.all numB) := rfl
section
variable {X : Cx}
/-- repr of data of any make -/
def shV : PyData → Str
  | .none => Str.ofString "None"
  | .bool b => Str.ofString (if b then "True" else "False")
  | .int i => Str.ofString (toString i)
  | .str x => reprText x
  | d => d.shown
def rReprV (K : PySem.W.Frag) : List V → Hp → VK → Prop := fun xs H Q => ∃ (v : V) (d : PyData), xs = [v] ∧ Dp K H v d ∧ d.showable = true ∧ d.hasDict = false ∧ d.depth ≤ 60 ∧ d.shown.length ≤ sizeLine ∧ (∀ x, d = .str x → (reprText x).length ≤ sizeLine) ∧ (∀ i, d = .int i → i.natAbs.log2 < 1920) ∧ Q (.str (shV d)) H
theorem call_reprV (hG : X.A.guards = some []) (hu : X.A.units + 64 < cLine) : CallR X (.builtin "repr") (rReprV X.K) := by
  intro pins s σ H xs us Q I r h
  obtain ⟨v, d, rfl, hd, h1, h2, h3, h4, h5, h6, q⟩ := h
  obtain ⟨u, rfl, ru⟩ := vals1 r
  have hds := hd
  cases d with
  | none =>
    cases hd
    cases (show u = Value.none from ru)
    exact PySem.P.repr_of_none ⟨.str _, H, I.tok _, ⟨_, rfl⟩, q⟩
  | bool b =>
    cases hd
    cases (show u = Value.bool b from ru)
    exact PySem.P.repr_of_bool ⟨.str _, H, I.tok _, ⟨_, rfl⟩, by cases b <;> exact q⟩
  | int i =>
    cases hd
    obtain ⟨tk, rfl⟩ := ru
    exact PySem.P.repr_of_int (h6 i rfl) ⟨.str _, H, I.tok _, ⟨_, rfl⟩, q⟩
  | str x =>
    cases hd
    obtain ⟨tk, rfl⟩ := ru
    exact PySem.P.repr_of_str ⟨.str _, H, I.tok _, ⟨_, rfl⟩, q⟩ (h5 x rfl)
  | list ds =>
    cases hd
    obtain rfl : u = Value.ref _ := ru
    obtain ⟨as, rd⟩ := Dp.reads I _ _ _ hds rfl
    exact repr_of_reads' rd h1 (fun z => by rw [h2] at z; cases z) hG (by omega) (fun b o e => e) (fun h' u tk hk => ⟨.str _, H, I.kept hk, ⟨u, rfl⟩, q⟩) h4
  | tuple ds =>
    cases hd
    obtain rfl : u = Value.ref _ := ru
    obtain ⟨as, rd⟩ := Dp.reads I _ _ _ hds rfl
    exact repr_of_reads' rd h1 (fun z => by rw [h2] at z; cases z) hG (by omega) (fun b o e => e) (fun h' u tk hk => ⟨.str _, H, I.kept hk, ⟨u, rfl⟩, q⟩) h4
  | _ => cases hd
end
theorem RpAll.at {bx : Addr} {H : Hp} {vs : List V} {ds : List PyData} (h : RpAll bx H vs ds) {j : Nat} {v : V} (e : vs[j]? = some v) : ∃ d, ds[j]? = some d ∧ Rp bx H v d := by
  have hj : j < vs.length := (List.getElem?_eq_some_iff.mp e).1
  obtain ⟨u, h1, h2⟩ := h.get (i := j) (d := ds[j]'(by rw [← h.length]; exact hj)) (List.getElem?_eq_getElem _)
  rw [e] at h1
  cases h1
  exact ⟨_, List.getElem?_eq_getElem _, h2⟩
theorem RpAll.same {bx : Addr} {H H' : Hp} (s : Same H H') {vs : List V} {ds : List PyData} (h : RpAll bx H vs ds) : RpAll bx H' vs ds := RpAll.ext (Ext.of s) h
theorem range_getD2 {α β : Type} (f : α → β) (d : α) : ∀ xs : List α, (List.range xs.length).map (fun i => f (xs.getD i d)) = xs.map f := fun xs => by
  refine List.ext_getElem (by rw [List.length_map, List.length_range, List.length_map]) fun i h1 h2 => ?_
  rw [List.length_map] at h2
  rw [List.getElem_map, List.getElem_map, List.getElem_range, List.getD_eq_getElem?_getD, List.getElem?_eq_getElem h2]
  rfl
section
variable {P : Program} {w : World} {K : PySem.W.Frag} {mg : Str → Option Value} {base : Heap}
def spIsStand (C : Addr) : Sp := fun vs H Q _ => ∃ (bx x : Addr) (v : V) (d : PyData) (rs : List Rule), vs = [.ref x, v] ∧ HallAt C H x rs ∧ Halls rs ∧ Rp bx H v d ∧ (∀ ds, d = .tuple ds → ds.length ≤ 1000) ∧ ∀ H', Same H H' → Q (.bl (stdB rs.length d)) H'
end
end Lh

namespace Lh
open PySem PySem.Spec PyProof.Rows L2
def intOf : PyData → Int
  | .int i => i
  | _ => 0
def persB (m : Int) : PyData → Bool
  | .int i => decide (0 ≤ i) && decide (i < m)
  | _ => false
def riseB (ns : List Int) : Bool := decide (ns.Pairwise (· < ·))
def seenB (m : Int) : PyData → Bool
  | .tuple ds => ds.all (persB m) && riseB (ds.map intOf)
  | _ => false
theorem pers_ints {m : Int} : ∀ {ds : List PyData}, ds.all (persB m) = true → ds = (ds.map intOf).map PyData.int ∧ ∀ n ∈ ds.map intOf, 0 ≤ n ∧ n < m
  | [], _ => ⟨rfl, fun n h => absurd h (by simp)⟩
  | d :: r, h => by
    rw [List.all_cons, Bool.and_eq_true] at h
    obtain ⟨e, al⟩ := pers_ints h.2
    cases d with
    | int i =>
      have hi : (decide (0 ≤ i) && decide (i < m)) = true := h.1
      rw [Bool.and_eq_true, decide_eq_true_iff, decide_eq_true_iff] at hi
      refine ⟨?_, fun n hn => ?_⟩
      · rw [List.map_cons, List.map_cons, ← e]; rfl
      · rcases List.mem_cons.mp hn with rfl | hn
        · exact hi
        · exact al n hn
    | _ => exact absurd h.1 Bool.false_ne_true
theorem ints_pers {m : Int} {ns : List Int} (h : ∀ n ∈ ns, 0 ≤ n ∧ n < m) : (ns.map PyData.int).all (persB m) = true := by
  rw [List.all_eq_true]
  intro d hd
  obtain ⟨n, hn, rfl⟩ := List.mem_map.mp hd
  show (decide (0 ≤ n) && decide (n < m)) = true
  rw [decide_eq_true (h n hn).1, decide_eq_true (h n hn).2]; rfl
theorem map_intOf (ns : List Int) : (ns.map PyData.int).map intOf = ns := by
  rw [List.map_map]
  exact List.map_id ns
def adjL (ns : List Int) : List Bool := (List.range (ns.length - 1)).map fun i : Nat => decide (nth ns i < nth ns (i + 1 : Nat))
theorem nth_getE {ns : List Int} {i : Nat} (h : i < ns.length) : nth ns i = ns[i] := by
  unfold nth
  rw [Int.toNat_natCast, List.getD_eq_getElem?_getD, List.getElem?_eq_getElem h]; rfl
theorem adj_all (ns : List Int) : (adjL ns).all id = riseB ns := by
  unfold riseB adjL
  rw [Bool.eq_iff_iff, decide_eq_true_iff, List.all_eq_true]
  constructor
  · intro h
    have step : ∀ i, i + 1 < ns.length → nth ns i < nth ns (i + 1 : Nat) := fun i hi => by
      have := h _ (List.mem_map.mpr ⟨i, List.mem_range.mpr (by omega), rfl⟩)
      exact of_decide_eq_true this
    have far : ∀ k i, i + k + 1 < ns.length → nth ns i < nth ns (i + k + 1 : Nat) := fun k => by
      induction k with
      | zero => exact fun i hi => step i (by omega)
      | succ k ih =>
        intro i hi
        have a := ih i (by omega)
        have b := step (i + k + 1) (by omega)
        rw [show i + (k + 1) + 1 = i + k + 1 + 1 by omega]
        omega
    refine List.pairwise_iff_getElem.mpr fun i j hi hj lt => ?_
    have := far (j - i - 1) i (by omega)
    rw [show i + (j - i - 1) + 1 = j by omega, nth_getE hi, nth_getE hj] at this
    exact this
  · intro pw b hb
    obtain ⟨i, hi, rfl⟩ := List.mem_map.mp hb
    have hi := List.mem_range.mp hi
    refine decide_eq_true ?_
    rw [nth_getE (by omega), nth_getE (by omega)]
    exact List.pairwise_iff_getElem.mp pw i (i + 1) (by omega) (by omega) (by omega)
end Lh

namespace Lh
open PySem PySem.Spec PyProof.Rows L2
section
variable {P : Program} {w : World} {K : PySem.W.Frag} {mg : Str → Option Value} {base : Heap}
def spIsPersD : Sp := fun vs H Q _ => ∃ (bx : Addr) (m : Int) (v : V) (d : PyData), vs = [.int m, v] ∧ Rp bx H v d ∧ Q (.bl (persB m d)) H
theorem ok_is_personD (T : Txt K mg w) : FnOk P w K mg base CX0 2 T.f_is_person T.fd_is_person p_is_person spIsPersD := by
  have G_is_number := ok_is_numberD (P := P) (w := w) (base := base) T
  refine T.F_is_person.ok sc_is_person (fun vs H Q E h => ?_) (fun cdv A outer s H vs Q E hr h => ?_)
  · obtain ⟨bx, m, v, d, rfl, _⟩ := h
    rfl
  · obtain ⟨bx, m, v, d, rfl, hv, q⟩ := h
    refine ⟨_, (pss_one (ps_ret (pe_and (pe_call G_is_number (hr.mono (by decide)) (by rfl) T.g_is_number T.F_is_number.kp T.b_is_number .nil pass0 (pa_cons (pv 1) pa_nil)) (pe_one (pe_cmpR op_lt (pv 1) (pv 0) (nomark _)))))), ?_⟩
    refine ⟨v, rfl, bx, v, d, rfl, hv, ?_⟩
    cases d with
    | int i =>
      cases hv
      by_cases c : 0 ≤ i
      · refine ⟨_, rfl, iteP (decide_eq_true c) ⟨.int i, rfl, .int m, rfl, i, m, rfl, rfl, blC ?_ q⟩⟩
        show decide (i < m) = (decide (0 ≤ i) && decide (i < m))
        rw [decide_eq_true c]; rfl
      · refine ⟨_, rfl, iteN (decide_eq_false c) (blC ?_ q)⟩
        show false = (decide (0 ≤ i) && decide (i < m))
        rw [decide_eq_false c]; rfl
    | _ => exact ⟨_, rfl, iteN rfl q⟩
def spRisesB (K : PySem.W.Frag) : Sp := fun vs H Q _ => ∃ (a : Addr) (ns : List Int), vs = [.ref a] ∧ (SqL K H a (ns.map V.int) ∨ TupAt H a (ns.map V.int)) ∧ ns.length ≤ 1000 ∧ ∀ H', Same H H' → Q (.bl (riseB ns)) H'
set_option maxHeartbeats 1000000 in
theorem ok_risesB (T : Txt K mg w) : FnOk P w K mg base CX0 1 T.f_rises T.fd_rises p_rises (spRisesB K) := by
  refine T.F_rises.ok sc_rises (fun vs H Q E h => ?_) (fun cdv A outer s H vs Q E hr h => ?_)
  · obtain ⟨a, ns, rfl, _⟩ := h
    rfl
  · obtain ⟨a, ns, rfl, hS, hl, q⟩ := h
    have turn : ∀ (i : Nat) (x1 x2 : V), i < ns.length - 1 → (ns.map V.int)[i]? = some x1 → ((ns.drop 1).map V.int)[i]? = some x2 → x1 = .int (nth ns i) ∧ x2 = .int (nth ns (i + 1 : Nat)) := fun i x1 x2 hi e1 e2 => by
      rw [List.getElem?_map, List.getElem?_eq_getElem (by omega)] at e1
      rw [List.getElem?_map, List.getElem?_drop, List.getElem?_eq_getElem (by omega)] at e2
      rw [nth_getE (by omega), nth_getE (by omega)]
      refine ⟨(Option.some.inj e1).symm, ?_⟩
      have := (Option.some.inj e2).symm
      simp only [Nat.add_comm 1 i] at this
      exact this
    have fin : ∀ (D : Addr) (H3 : Hp), Same H H3 → H3 D = some (.lst ((List.range (ns.length - 1)).map fun i : Nat => V.bl (decide (nth ns i < nth ns (i + 1 : Nat))))) → rAll K [.ref D] H3 Q := fun D H3 s3 h3 => by
      refine ⟨D, adjL ns, rfl, .inl (.inl (by rw [h3]; unfold adjL; rw [List.map_map]; rfl)), ?_⟩
      rw [adj_all]
      exact q H3 s3
    rcases hS with hS | hS
    · refine ⟨_, (pss_one (ps_ret (pe_callB (cr_all rfl) (by rfl) T.m_all (by decide +kernel) (pa_cons (pe_lc (own := [("one", 1), ("other", 2)]) (g := gTup K 2 (gCons (gName 1) (gCons (gName 2) gNil))) (by rfl) sc_rises.nd (RZ.pi_zipA (by rfl) T.m_zip (pa_cons (pv 0) (pa_cons (pe_slice sl_list (pv 0) (po_some pe_int) po_none) pa_nil))) (blkOk_by (own := [("one", 1), ("other", 2)]) (N := n_rises) (sc := defScope s_rises) (by decide +kernel)) (fun _ _ _ _ _ => (pg_tup rfl (pgs_cons (pg_name (i := 1) sc_rises.nd rfl (.inl rfl) (.inr rfl)) (pgs_cons (pg_name (i := 2) sc_rises.nd rfl (.inl rfl) (.inr rfl)) pgs_nil)))) (fun _ _ _ _ _ => pts_nil) (fun _ _ _ _ _ => (pe_cmpR op_lt (pv 1) (pv 2) (nomark _)))) pa_nil)))), ?_⟩
      refine ⟨.ref a, rfl, .ref a, rfl, 1, rfl, a, _, rfl, hS, fun c nc => ?_⟩
      have s1 := same_upd (o := .lst (cutV (ns.map V.int) (some 1) none)) nc
      refine ⟨a, c, _, _, rfl, .inl ⟨s1.seq hS, .inl (.inl upd_same), fun D hD => ?_⟩⟩
      rw [cut_map V.int, cut1] at s1 hD ⊢
      refine lc_map (walk_zip (xs := ns.map V.int) (ys := (ns.drop 1).map V.int) (n := ns.length - 1) (by rw [List.length_map, List.length_map, List.length_drop]; omega)) (fun i : Nat => .bl (decide (nth ns i < nth ns (i + 1 : Nat)))) hD (by omega) (fun H3 s3 => ⟨s3.seq (s1.seq hS), .inl (.inl (s3 _ _ upd_same))⟩) ?_ (fun H3 s3 h3 => fin D H3 (s1.trans s3) h3)
      rintro i x H3 H4 hi s3 ⟨t, x1, x2, rfl, nt, rfl, e1, e2⟩ Q' Z hQ
      obtain ⟨rfl, rfl⟩ := turn i x1 x2 hi e1 e2
      exact ⟨t, _, rfl, .inl (.inl upd_same), rfl, _, _, rfl, _, _, rfl, rfl, rfl, yes (iteT ⟨.int _, rfl, .int _, rfl, _, _, rfl, rfl, hQ _ (same_upd nt)⟩)⟩
    · refine ⟨_, (pss_one (ps_ret (pe_callB (cr_all rfl) (by rfl) T.m_all (by decide +kernel) (pa_cons (pe_lc (own := [("one", 1), ("other", 2)]) (g := gTup K 2 (gCons (gName 1) (gCons (gName 2) gNil))) (by rfl) sc_rises.nd (RZ.pi_zipA (by rfl) T.m_zip (pa_cons (pv 0) (pa_cons (pe_slice sl_tupA (pv 0) (po_some pe_int) po_none) pa_nil))) (blkOk_by (own := [("one", 1), ("other", 2)]) (N := n_rises) (sc := defScope s_rises) (by decide +kernel)) (fun _ _ _ _ _ => (pg_tup rfl (pgs_cons (pg_name (i := 1) sc_rises.nd rfl (.inl rfl) (.inr rfl)) (pgs_cons (pg_name (i := 2) sc_rises.nd rfl (.inl rfl) (.inr rfl)) pgs_nil)))) (fun _ _ _ _ _ => pts_nil) (fun _ _ _ _ _ => (pe_cmpR op_lt (pv 1) (pv 2) (nomark _)))) pa_nil)))), ?_⟩
      refine ⟨.ref a, rfl, .ref a, rfl, 1, rfl, a, _, rfl, hS.sq, fun wh => ?_, fun _ c nc => ?_⟩
      · have hn : ns = [] := by
          cases ns with
          | nil => rfl
          | cons x r =>
            have := wh.1
            rw [show HT.sIx ((x :: r).map V.int).length 0 (some 1) = min 1 ((x :: r).map V.int).length from HT.sIx_nat _ 0 1, List.length_map, List.length_cons] at this
            omega
        subst hn
        refine ⟨a, a, [], [], rfl, .inr ⟨hS.sq, hS.sq, fun D hD => ?_⟩⟩
        refine lc_map (walk_zipT (xs := []) (ys := []) (n := 0) rfl rfl) (fun i : Nat => .bl (decide (nth [] i < nth [] (i + 1 : Nat)))) hD (by omega) (fun H3 s3 => ⟨(hS.keep (Keep.same s3)).sq, (hS.keep (Keep.same s3)).sq⟩) ?_ (fun H3 s3 h3 => fin D H3 s3 h3)
        intro i x H3 H4 hi
        omega
      · have s1 := same_upd (o := .tup (cutV (ns.map V.int) (some 1) none)) nc
        have hA := hS.keep (Keep.same s1)
        refine ⟨a, c, _, _, rfl, .inr ⟨hA.sq, .inl (.inl upd_same), fun D hD => ?_⟩⟩
        rw [cut_map V.int, cut1] at s1 hD hA ⊢
        refine lc_map (walk_zipM (K := K) (a := a) (b := c) (xs := ns.map V.int) (ys := (ns.drop 1).map V.int) (n := ns.length - 1) (by rw [List.length_map, List.length_map, List.length_drop]; omega)) (fun i : Nat => .bl (decide (nth ns i < nth ns (i + 1 : Nat)))) hD (by omega) (fun H3 s3 => ⟨(hA.keep (Keep.same s3)).sq, .inl (.inl (s3 _ _ upd_same))⟩) ?_ (fun H3 s3 h3 => fin D H3 (s1.trans s3) h3)
        rintro i x H3 H4 hi s3 ⟨t, x1, x2, rfl, nt, rfl, e1, e2⟩ Q' Z hQ
        obtain ⟨rfl, rfl⟩ := turn i x1 x2 hi e1 e2
        exact ⟨t, _, rfl, .inl (.inl upd_same), rfl, _, _, rfl, _, _, rfl, rfl, rfl, yes (iteT ⟨.int _, rfl, .int _, rfl, _, _, rfl, rfl, hQ _ (same_upd nt)⟩)⟩
def spArePersD : Sp := fun vs H Q _ => ∃ (bx : Addr) (m : Int) (v : V) (d : PyData), vs = [.int m, v] ∧ Rp bx H v d ∧ (∀ ds, d = .tuple ds → ds.length ≤ 1000) ∧ ∀ H', Same H H' → Q (.bl (seenB m d)) H'
set_option maxHeartbeats 1000000 in
theorem ok_are_personsD (T : Txt K mg w) : FnOk P w K mg base CX0 3 T.f_are_persons T.fd_are_persons p_are_persons spArePersD := by
  have G_is_person := ok_is_personD (P := P) (w := w) (base := base) T
  have G_rises := ok_risesB (P := P) (w := w) (base := base) T
  refine T.F_are_persons.ok sc_are_persons (fun vs H Q E h => ?_) (fun cdv A outer s H vs Q E hr h => ?_)
  · obtain ⟨bx, m, v, d, rfl, _⟩ := h
    rfl
  · obtain ⟨bx, m, v, d, rfl, hv, hl, q⟩ := h
    refine ⟨_, (pss_one (ps_ret (pe_and (pe_callB call_isi (by rfl) T.m_isinstance (by decide +kernel) (pa_cons (pv 1) (pa_cons (pe_bltn (v := .ty "tuple") (by rfl) T.m_tuple (by decide +kernel) rfl) pa_nil))) (pe_and (pe_callB (cr_all rfl) (by rfl) T.m_all (by decide +kernel) (pa_cons (pe_lc (own := [("one", 2)]) (g := gName 2) (by rfl) sc_are_persons.nd (pi_tup (pv 1)) (blkOk_by (own := [("one", 2)]) (N := n_are_persons) (sc := defScope s_are_persons) (by decide +kernel)) (fun _ _ _ _ _ => (pg_name (i := 2) sc_are_persons.nd rfl (.inl rfl) (.inr rfl))) (fun _ _ _ _ _ => pts_nil) (fun _ _ _ _ _ => (pe_call G_is_person (hr.mono (by decide)) (by rfl) T.g_is_person T.F_is_person.kp T.b_is_person .nil pass0 (pa_cons (pv 0) (pa_cons (pv 2) pa_nil))))) pa_nil)) (pe_one (pe_call G_rises (hr.mono (by decide)) (by rfl) T.g_rises T.F_rises.kp T.b_rises .nil pass0 (pa_cons (pv 1) pa_nil))))))), ?_⟩
    have ty := hv.ty (K := K)
    cases d with
    | tuple ds =>
      cases hv with
      | tup ht nb ra =>
        rename_i a xs
        have hl' := hl ds rfl
        have lx : xs.length = ds.length := ra.length
        refine rd_isi (x := .ref a) (T := "tuple") rfl ht.ty (by decide +kernel : kitB "tuple" "tuple" = some true) ⟨_, rfl, iteP rfl ?_⟩
        refine ⟨.ref a, rfl, a, rfl, ⟨_, ht.sq⟩, fun D hD => ?_⟩
        refine lc_map (walk_tup (xs := xs)) (fun j => .bl (persB m (ds.getD j .none))) hD (by omega) (fun H3 s3 => (ht.keep (Keep.same s3)).sq) ?_ ?_
        · rintro j y H3 H4 hj s3 ⟨rfl, hy⟩ Q' Z hQ
          obtain ⟨dj, e1, e2⟩ := ra.at hy
          refine ⟨rfl, yes (iteT ?_)⟩
          rw [List.getD_eq_getElem?_getD, e1] at hQ
          exact ⟨.int m, rfl, y, rfl, bx, m, y, dj, rfl, e2.ext (Ext.of s3), hQ _ (Same.refl _)⟩
        · intro H3 s3 h3
          rw [lx] at h3
          refine ⟨D, ds.map (persB m), rfl, .inl (.inl (by rw [h3, List.map_map]; exact congrArg (fun z => some (HO.lst z)) (range_getD2 (fun d => V.bl (persB m d)) .none ds))), ?_⟩
          rw [List.all_map, show (id ∘ persB m) = persB m from rfl]
          refine ⟨_, rfl, ite2 (fun c => ?_) (fun c => ?_)⟩
          · obtain ⟨e, al⟩ := pers_ints c
            have hi : TupAt H3 a ((ds.map intOf).map V.int) := by
              have := RpAll.ofInts (H := H) (bx := bx) (ns := ds.map intOf) (vs := xs) (by rw [← e]; exact ra)
              rw [← this]
              exact ht.keep (Keep.same s3)
            refine ⟨.ref a, rfl, a, ds.map intOf, rfl, .inr hi, by rw [List.length_map]; exact hl', fun H4 s4 => ?_⟩
            have := q H4 (s3.trans s4)
            rw [show seenB m (.tuple ds) = (ds.all (persB m) && riseB (ds.map intOf)) from rfl, c, Bool.true_and] at this
            exact this
          · have := q H3 s3
            have c' : ds.all (persB m) = false := Bool.eq_false_iff.mpr c
            rw [show seenB m (.tuple ds) = (ds.all (persB m) && riseB (ds.map intOf)) from rfl, c', Bool.false_and] at this
            exact this
    | none => exact rd_isi (x := v) (T := "NoneType") rfl ty (by decide +kernel : kitB "NoneType" "tuple" = some false) ⟨_, rfl, iteN rfl (q H (Same.refl H))⟩
    | bool b => exact rd_isi (x := v) (T := "bool") rfl ty (by decide +kernel : kitB "bool" "tuple" = some false) ⟨_, rfl, iteN rfl (q H (Same.refl H))⟩
    | int i => exact rd_isi (x := v) (T := "int") rfl ty (by decide +kernel : kitB "int" "tuple" = some false) ⟨_, rfl, iteN rfl (q H (Same.refl H))⟩
    | str x => exact rd_isi (x := v) (T := "str") rfl ty (by decide +kernel : kitB "str" "tuple" = some false) ⟨_, rfl, iteN rfl (q H (Same.refl H))⟩
    | list ds => exact rd_isi (x := v) (T := "list") rfl ty (by decide +kernel : kitB "list" "tuple" = some false) ⟨_, rfl, iteN rfl (q H (Same.refl H))⟩
    | _ => cases hv
end
end Lh

namespace Lh
open PySem PySem.Spec PyProof.Rows L2
theorem rg_ints (n : Int) : rgV 0 n = ((List.range n.toNat).map fun k : Nat => (k : Int)).map V.int := by
  unfold rgV
  rw [List.map_map, Int.sub_zero]
  exact List.map_congr_left fun k _ => by show V.int (0 + (k : Int)) = V.int k; rw [Int.zero_add]
theorem rg_rising (n : Int) (h : 0 ≤ n) : Rising n ((List.range n.toNat).map fun k : Nat => (k : Int)) := by
  refine ⟨List.Pairwise.map _ (fun a b z => by omega) List.pairwise_lt_range, fun x hx => ?_⟩
  obtain ⟨k, hk, rfl⟩ := List.mem_map.mp hx
  have := List.mem_range.mp hk
  omega
theorem at_end {us : List V} {t : V} (h : us[us.length - 1]? = some t) : atI us (-1) = some t := by
  rw [← List.getLast?_eq_getElem?] at h
  obtain ⟨ys, rfl⟩ := List.getLast?_eq_some_iff.mp h
  exact atI_last ys t
theorem ixN_at {n j : Nat} (h : j < n) : ixN n (j : Int) = some j := by
  unfold ixN
  rw [if_pos (by omega), if_pos (by omega), Int.toNat_natCast]
theorem nth_set {ms : List Int} {j : Nat} {y : Int} (hj : j < ms.length) (i : Nat) : nth (ms.set j y) i = if i = j then y else nth ms i := by
  unfold nth
  rw [Int.toNat_natCast, List.getD_eq_getElem?_getD, List.getD_eq_getElem?_getD, List.getElem?_set]
  by_cases c : j = i
  · subst c
    rw [if_pos rfl, if_pos rfl, if_pos hj]
    rfl
  · rw [if_neg c, if_neg fun z => c z.symm]
theorem Turned.step {rs : List Rule} {ns ms : List Int} {S S' : Int → Prop} {p : Nat} {y : Int} (hn : ns.length = rs.length) (hp : p < rs.length) (t : Turned rs ns S ms) (ty : Tell rs[p] (lotI rs[p] ns p) y) (hS : ∀ i : Nat, S' i ↔ S i ∨ i = p) : Turned rs ns S' (ms.set p y) := by
  refine ⟨by rw [List.length_set]; exact t.1, fun i hi => ?_⟩
  have hpm : p < ms.length := by rw [t.1]; omega
  rw [nth_set hpm]
  by_cases c : i = p
  · subst c
    rw [if_pos rfl]
    exact ⟨fun _ => ty, fun z => absurd ((hS i).mpr (.inr rfl)) z⟩
  · rw [if_neg c]
    refine ⟨fun z => (t.2 i hi).1 ?_, fun z => (t.2 i hi).2 fun z' => z ((hS i).mpr (.inl z'))⟩
    rcases (hS i).mp z with h | h
    · exact h
    · exact absurd h c
theorem Turned.none {rs : List Rule} {ns : List Int} {S : Int → Prop} (hS : ∀ i, ¬ S i) : Turned rs ns S ns := ⟨rfl, fun i _ => ⟨fun z => absurd z (hS _), fun _ => rfl⟩⟩
/-- the standings behind 0, 1, .. beats -/
def Way (rs : List Rule) (ns : List Int) (nss : List (List Int)) : Prop := nss[0]? = some ns ∧ (∀ ms ∈ nss, ms.length = rs.length) ∧ ∀ (i : Nat) (a b : List Int), nss[i]? = some a → nss[i + 1]? = some b → Beat rs a b
theorem Beat.unique {rs : List Rule} {ns ms ks : List Int} (hn : ns.length = rs.length) (a : Beat rs ns ms) (b : Beat rs ns ks) : ms = ks := Turned.unique hn (fun _ _ => Iff.rfl) a b
theorem Way.unique {rs : List Rule} {ns : List Int} {nss mss : List (List Int)} (a : Way rs ns nss) (b : Way rs ns mss) (hl : nss.length = mss.length) : nss = mss := by
  refine List.ext_getElem? fun i => ?_
  induction i with
  | zero => rw [a.1, b.1]
  | succ i ih =>
    by_cases c : i + 1 < nss.length
    · have c' : i + 1 < mss.length := by omega
      have h1 := List.getElem?_eq_getElem (l := nss) (show i < nss.length by omega)
      have h2 := List.getElem?_eq_getElem c
      have h4 := List.getElem?_eq_getElem c'
      rw [h2, h4]
      have h3 := ih.symm.trans h1
      have x := a.2.2 i _ _ h1 h2
      have y := b.2.2 i _ _ h3 h4
      rw [Beat.unique (a.2.1 _ (List.getElem_mem _)) x y]
    · rw [List.getElem?_eq_none (by omega), List.getElem?_eq_none (by omega)]
theorem Way.one {rs : List Rule} {ns : List Int} (h : ns.length = rs.length) : Way rs ns [ns] := by
  refine ⟨rfl, fun ms hm => ?_, fun i a b h1 h2 => ?_⟩
  · rw [List.mem_singleton.mp hm]; exact h
  · rw [List.getElem?_eq_none (by show 1 ≤ i + 1; omega)] at h2
    cases h2
theorem Way.snoc {rs : List Rule} {ns a b : List Int} {nss : List (List Int)} (h : Way rs ns nss) (ha : nss.getLast? = some a) (hb : Beat rs a b) : Way rs ns (nss ++ [b]) := by
  have hl : a ∈ nss := List.mem_of_getLast? ha
  have h0 : 0 < nss.length := List.length_pos_of_mem hl
  refine ⟨?_, fun ms hm => ?_, fun i x y h1 h2 => ?_⟩
  · rw [List.getElem?_append_left h0]; exact h.1
  · rcases List.mem_append.mp hm with z | z
    · exact h.2.1 _ z
    · rw [List.mem_singleton.mp z, hb.1]; exact h.2.1 _ hl
  · by_cases c : i + 1 < nss.length
    · rw [List.getElem?_append_left (by omega)] at h1
      rw [List.getElem?_append_left c] at h2
      exact h.2.2 i x y h1 h2
    · have c2 : i + 1 < (nss ++ [b]).length := by
        by_cases z : i + 1 < (nss ++ [b]).length
        · exact z
        · rw [List.getElem?_eq_none (by omega)] at h2; cases h2
      rw [List.length_append] at c2
      have c3 : i + 1 = nss.length := by have : i + 1 < nss.length + 1 := c2; omega
      rw [c3, List.getElem?_append_right (Nat.le_refl _), Nat.sub_self] at h2
      rw [List.getElem?_append_left (by omega)] at h1
      rw [List.getLast?_eq_getElem?, show nss.length - 1 = i by omega, h1] at ha
      cases ha; cases h2
      exact hb
theorem Way.drop {rs : List Rule} {ns a : List Int} {nss : List (List Int)} {k : Nat} (h : Way rs ns nss) (ha : nss[k]? = some a) : Way rs a (nss.drop k) := by
  refine ⟨by rw [List.getElem?_drop]; exact ha, fun ms hm => h.2.1 _ (List.mem_of_mem_drop hm), fun i x y h1 h2 => ?_⟩
  rw [List.getElem?_drop] at h1 h2
  exact h.2.2 (k + i) x y h1 h2
theorem Way.take {rs : List Rule} {ns : List Int} {nss : List (List Int)} {k : Nat} (h : Way rs ns nss) : Way rs ns (nss.take (k + 1)) := by
  refine ⟨by rw [List.getElem?_take_of_lt (by omega)]; exact h.1, fun ms hm => h.2.1 _ (List.mem_of_mem_take hm), fun i x y h1 h2 => ?_⟩
  by_cases c : i + 1 < k + 1
  · rw [List.getElem?_take_of_lt (by omega)] at h1
    rw [List.getElem?_take_of_lt c] at h2
    exact h.2.2 i x y h1 h2
  · rw [List.getElem?_eq_none (by rw [List.length_take]; omega)] at h2
    cases h2
/-- tuples of numbers, in a list -/
def StandAt (H : Hp) (v : V) (ms : List Int) : Prop := ∃ t, v = .ref t ∧ TupAt H t (ms.map V.int)
def StandsAt (H : Hp) : List V → List (List Int) → Prop := Paired (StandAt H)
theorem StandsAt.keep {H H' : Hp} (k : Keep H H') : ∀ {vs : List V} {nss : List (List Int)}, StandsAt H vs nss → StandsAt H' vs nss
  | _, _, .nil => .nil
  | _, _, .cons ⟨t, e, h⟩ r => .cons ⟨t, e, h.keep k⟩ (StandsAt.keep k r)
theorem StandsAt.get {H : Hp} : ∀ {vs : List V} {nss : List (List Int)}, StandsAt H vs nss → ∀ (i : Nat) (a : List Int), nss[i]? = some a → ∃ t, vs[i]? = some (.ref t) ∧ TupAt H t (a.map V.int)
  | _, _, .nil, i, a, h => by cases h
  | _, _, .cons ⟨t, e, h⟩ r, 0, a, z => by cases z; exact ⟨t, by rw [e]; rfl, h⟩
  | _, _, .cons _ r, i + 1, a, z => StandsAt.get r i a z
end Lh

namespace Lh
open PySem PySem.Spec PyProof.Rows L2
theorem lc_onesL {K : PySem.W.Frag} {t : Addr} {seen : List Int} {H1 : Hp} {D : Addr} {σ : L2.St} {vs : List Nat} {Qd : Hp → Prop} {i : Nat} (ht : H1 t = some (.lst (seen.map V.int))) (hD : H1 D = none) (hl : seen.length ≤ 1000)
    (hw : ∀ a, wipe ((wipe σ vs).set i a) vs = wipe σ vs) (hi : ∀ a : V, ((wipe σ vs).set i (some a))[i]? = some (some a))
    (hq : ∀ H' ps, Same H1 H' → H' D = some (.lst (ps.map V.ref)) → Paired (PairAtH H') ps (seen.map fun n => (n, 1)) → Qd H') :
    ∃ W : Nat → Nat → Hp → Prop, (∃ m, W 0 m (upd H1 D (.lst []))) ∧ ∀ i1 m H, W i1 m H →
      ((Itl K t).stop i1 H ∧ Qd H) ∨ ((Itl K t).go i1 H ∧ ∃ Nx : Hp → Prop, (∀ H', Nx H' → ∃ m', m' < m ∧ W (i1 + 1) m' H') ∧ ∀ x H', (Itl K t).yld i1 H x H' → gName i x (wipe σ vs) H' fun σ2 H2 => wipe σ2 vs = wipe σ vs ∧ tYes σ2 H2 fun b H3 =>
        if b = true then tTup (tCons (tVar i) (tCons (tC (.int 1)) tNil)) σ2 H3 fun y H4 => ∃ acc, H4 D = some (.lst acc) ∧ acc.length < sizeLine ∧ Nx (upd H4 D (.lst (acc ++ [y]))) else Nx H3) := by
  refine lc_it (walk_list (xs := seen.map V.int)) (fun n H3 => ∃ ps : List Addr, Same H1 H3 ∧ H3 D = some (.lst (ps.map V.ref)) ∧ Paired (PairAtH H3) ps ((seen.take n).map fun n => (n, 1))) ⟨[], same_upd hD, upd_same, .nil⟩ ?_ ?_ ?_
  · rintro n H3 _ ⟨ps, sm, _⟩
    exact .inl (.inl (sm _ _ ht))
  · rintro n x H3 H4 hn ⟨ps, sm, h3, pr⟩ ⟨rfl, hx⟩
    rw [List.length_map] at hn
    rw [List.getElem?_map, List.getElem?_eq_getElem hn] at hx
    have ex : x = .int seen[n] := (Option.some.inj hx).symm
    subst ex
    have pl : ps.length = n := by rw [pr.length, List.length_map, List.length_take]; omega
    refine ⟨hw _, yes (iteT ⟨.int seen[n], hi _, by show 2 ≤ sizeLine; decide, fun p np => ?_⟩)⟩
    have nDp : D ≠ p := ne_of_none h3 np
    refine ⟨_, by rw [upd_ne nDp]; exact h3, by rw [List.length_map]; exact small1000 (by omega), ps ++ [p], ?_, ?_, ?_⟩
    · exact same_mut (sm.trans (same_upd np)) hD
    · rw [upd_same, List.map_append]; rfl
    · rw [List.take_add_one, List.getElem?_eq_getElem hn, List.map_append]
      have kT : Keep H4 (upd (upd H4 p (.tup [.int seen[n], .int 1])) D (.lst (ps.map V.ref ++ [.ref p]))) := by
        refine ⟨fun a xs h => ?_, fun a o u h => ?_⟩
        · rw [upd_ne (ne_of h h3 (by intro z; cases z)), upd_ne (ne_of_none h np)]; exact h
        · rw [upd_ne (ne_of h h3 (by intro z; cases z)), upd_ne (ne_of_none h np)]; exact h
      exact Paired.snoc (R := PairAtH _) (show PairAtH _ _ _ by show _ = _; rw [upd_ne nDp.symm]; exact upd_same) (pairs_keep kT pr)
  · rintro H3 ⟨ps, sm, h3, pr⟩
    rw [List.length_map, List.take_length] at pr
    exact hq H3 ps sm h3 pr
/-- a list at D put by for another -/
theorem keep_lst {H : Hp} {D : Addr} {xs ys : List V} (h : H D = some (.lst xs)) : Keep H (upd H D (.lst ys)) := by
  refine ⟨fun a xs h' => ?_, fun a o u h' => ?_⟩
  · rw [upd_ne (ne_of h' h (by intro z; cases z))]; exact h'
  · rw [upd_ne (ne_of h' h (by intro z; cases z))]; exact h'
theorem rules_of {H : Hp} {m : Int} : ∀ us : List V, (∀ (i : Nat) (h : i < us.length), ∃ r, RuleAt H us[i] r ∧ r.Wf m) → ∃ rs, RulesAt H us rs ∧ ∀ r ∈ rs, r.Wf m
  | [], _ => ⟨[], .nil, fun r h => absurd h (by simp)⟩
  | u :: us, h => by
    obtain ⟨r, h1, h2⟩ := h 0 (by simp)
    obtain ⟨rs, h3, h4⟩ := rules_of us (fun i hi => h (i + 1) (by simpa using hi))
    refine ⟨r :: rs, .cons h1 h3, fun x hx => ?_⟩
    rcases List.mem_cons.mp hx with rfl | hx
    · exact h2
    · exact h4 x hx
section
variable {P : Program} {w : World} {K : PySem.W.Frag} {mg : Str → Option Value} {base : Heap}
def spStrewn : Sp := fun vs H Q _ => ∃ (bx p : Addr) (c : Int) (ns : List Int), vs = [.ref bx, .ref p] ∧ c + ns.length ≤ 1000000000 ∧ ns.length ≤ 900 ∧ Box bx c H ∧ H p = some (.lst (ns.map V.int)) ∧ p ≠ bx ∧
  ∀ (l : Addr) (ms : List Int) (H' : Hp), Ext bx H H' → Box bx (c + ns.length) H' → H l = none → H' l = some (.lst (ms.map V.int)) → ms.Perm ns → Q (.ref l) H'
def spHall : Sp := fun vs H Q _ => ∃ (bx : Addr) (c : Int), vs = [.ref bx] ∧ c + 100 ≤ 1000000000 ∧ Box bx c H ∧
  ∀ (l : Addr) (us : List V) (rs : List Rule) (H' : Hp), Ext bx H H' → Box bx (c + 100) H' → H l = none → H' l = some (.lst us) → RulesAt H' us rs → Halls rs → Q (.ref l) H'
end
end Lh

namespace Lh
open PySem PySem.Spec PyProof.Rows L2
/-! ### enumerate of a tuple -/
set_option maxHeartbeats 1000000 in
theorem enum_new1 {v : Value} {o : Obj} {G : Heap → Prop} (B : Begins v o G) :
    Meets (Builtin.«enumerate.__new__» ⟨[.type "enumerate", v], []⟩) (fun _ R z => G z.heap ∧
      R (.ok (.ret (.ref (z.heap.push o).objs.size))) { z with heap := (z.heap.push o).push { cls := .type "enumerate", data := .fields #[.none, .bool false, .ref z.heap.objs.size, rawInt 0, .none, .none] } }) := by
  refine .of_wp fun pr wo ar R z hh => ?_
  obtain ⟨h0, g0, d0, t0, o0⟩ := z
  obtain ⟨hG, hR⟩ := hh
  have hsub := sub_enumerate
  have it1 : ∀ {ar' : Around} {Ex : Value → Shared → Prop} {Q : Value → Shared → Prop}, Q (.ref h0.objs.size) ⟨h0.push o, g0, d0, t0, o0⟩ → wpAny (model pr wo) ar' (pyIter v) Q Ex ⟨h0, g0, d0, t0, o0⟩ :=
    fun q => B.iter pr wo _ _ ⟨h0, g0, d0, t0, o0⟩ _ hG q
  wp_walk using it1
  refine wpAny_stack_any fun _ => wpAny_pure ?_
  split
  · rename_i cc _ _ _ _ _
    cases (cc == Value.type "enumerate")
    all_goals
      wp_walk using it1
      exact ⟨_, rfl, hR⟩
  · wp_walk using it1
    exact ⟨_, rfl, hR⟩
theorem enum_made {pr : Program} {wo : World} {ar : Around} {Ex : Value → Shared → Prop} {z : Shared} {v : Value} {o : Obj} {G : Heap → Prop} {Q : Value → Shared → Prop} (B : Begins v o G) (hG : G z.heap)
    (h : ∀ h', IsEnum h' (z.heap.objs.size + 1) z.heap.objs.size 0 .none → h'.get? z.heap.objs.size = some o → (∀ b ob, z.heap.get? b = some ob → h'.get? b = some ob) → Q (.ref (z.heap.objs.size + 1)) { z with heap := h' }) :
    wpAny (model pr wo) ar (call (.type "enumerate") [v]) Q Ex z := by
  refine callType_new F.called_enumerate (by decide) (F.typeCall_enumerate_1 _) (F.newCall_enumerate_1 _) (fun x => F.args_object_init_2 x _) F.entry_enumerate_new (enum_new1 B) ⟨hG, ?_⟩
  have sz : (z.heap.push o).objs.size = z.heap.objs.size + 1 := Heap.size_push ..
  show _ ∧ _
  rw [sz]
  have he : IsEnum ((z.heap.push o).push { cls := .type "enumerate", data := .fields #[.none, .bool false, .ref z.heap.objs.size, rawInt 0, .none, .none] }) (z.heap.objs.size + 1) z.heap.objs.size 0 .none := by
    rw [← sz]
    exact Heap.get?_push_size (z.heap.push o) rfl
  exact ⟨⟨_, he, rfl⟩, h _ he (Heap.get?_push_of_some _ (Heap.get?_push_size _ B.free)) fun b ob x => Heap.get?_push_of_some _ (Heap.get?_push_of_some _ x)⟩
def IteT (K : PySem.W.Frag) (a : Addr) : It :=
  ⟨fun n H => ∃ (xs : List V) (x : V), SqT K H a xs ∧ xs[n]? = some x,
    fun n H v H' => ∃ T x, v = .ref T ∧ H T = none ∧ H' = upd H T (.tup [.int (n : Nat), x]) ∧ ∀ xs, SqT K H a xs → xs[n]? = some x,
    fun n H => ∃ xs : List V, SqT K H a xs ∧ xs.length ≤ n⟩
theorem draws_end {pr : Program} {wo : World} {ar : Around} (hh : ar.handled = none) (it a : Addr) (items : Array Value) (n : Nat) (hx : items[n]? = none) :
    Draws pr wo ar it [it, a] n (fun _ _ => False) (fun j h => j = n ∧ h.IsTupleIter it a n ∧ h.IsTuple a items) where
  live := fun _ _ st => let ⟨ob, hb, _⟩ := st.2.1; ⟨ob, hb⟩
  frame := fun _ _ _ st hk => ⟨st.1, st.2.1.at fun ob e => hk it (by simp) ob e, st.2.2.at fun ob e => hk a (by simp) ob e⟩
  item := fun j _ _ _ hj st _ => absurd st.1 (by omega)
  done := fun _ _ _ st hE => wpAny_nextOf_tuple_end hh st.2.1 st.2.2 hx hE
theorem turn_enumT {P : Program} {w : World} {K : PySem.W.Frag} {elts : List Expr} {kk : Nat} {tpos : Pos} (a e it : Addr) :
    Turn P w K (.Tuple elts kk tpos) (IteT K a) [e, it] e (fun n h => (∃ old, IsEnum h e it ((n : Nat) : Int) old) ∧ h.IsTupleIter it a n ∧ e ≠ it ∧ a ≠ it ∧ e ≠ a) where
  mem := by simp
  obj := fun n h st b hb => by
    obtain ⟨⟨old, he⟩, ⟨ob, ho, _, hd⟩, _⟩ := st
    rcases (show b = e ∨ b = it by simpa using hb) with rfl | rfl
    · exact ⟨_, he, fun v q => nomatch q⟩
    · exact ⟨ob, ho, fun v q => by rw [hd] at q; cases q⟩
  keep := fun n h h' st k => let ⟨⟨old, he⟩, hi, r⟩ := st; ⟨⟨old, k e (by simp) _ he⟩, hi.at fun ob q => k it (by simp) ob q, r⟩
  item := by
    intro X hP hw hK hc n pins s σ H E I hf st hg
    subst hP hw hK
    obtain ⟨⟨old, he⟩, hit, hne, nai, nea⟩ := st
    obtain ⟨xs, x, hq, hx⟩ := hg
    obtain ⟨its, rv, p, hz⟩ := I.tuple hq
    obtain ⟨u, hu, ru⟩ := rv.get hx
    have hu' : its.toArray[n]? = some u := by simpa using hu
    have hel : e < s.heap.objs.size := Heap.lt_size he
    have hil : it < s.heap.objs.size := by obtain ⟨_, q, _⟩ := hit; exact Heap.lt_size q
    have lt : n < its.toArray.size := (Array.getElem?_eq_some_iff.mp hu').1
    refine wpAny_pyNext_enum_itemD (Draws.tuple (A := X.A.in1) (I.ok.hd hc) it a nai its.toArray) he ⟨hit, p⟩ lt hne (by simp [hne, nea]) fun y h' tk hy ho st' hT hsz hk => ?_
    have ey : y = u := Option.some.inj (hy.symm.trans hu')
    subst ey
    refine ⟨_, rfl, wpAny_letOwnedTupleGo_enum (s := { s with heap := h', toks := tk + 1 }) ho fun h2 he2 sb => ?_⟩
    have hT2 : h2.get? s.heap.objs.size = some { cls := .type "tuple", data := .seq #[.int n tk, y] } := (sb.2 _ (Nat.ne_of_gt hel)).trans hT
    have new : ObjOk X.prog X.w (upd H s.heap.objs.size (.tup [.int (n : Nat), x])) h2 s.heap.objs.size (.tup [.int (n : Nat), x]) := by
      refine ⟨by show 2 ≤ sizeLine; decide, [.int n tk, y], .cons ⟨_, rfl⟩ (.cons ru .nil), ?_⟩
      exact ⟨_, hT2, rfl, _, rfl⟩
    have J : Inv X pins σ (upd H s.heap.objs.size (.tup [.int (n : Nat), x])) { s with heap := h2, toks := tk + 1 } := by
      refine I.turnedNew (ch := [e, it]) (fun b ob hb q => ?_) hf (Nat.le_refl _) new
      exact (sb.2 b (fun z => hb (by simp [z]))).trans (hk b ob (fun z => hb (by simp [z])) (fun z => hb (by simp [z])) q)
    refine ⟨.ref s.heap.objs.size, _, J, rfl, ⟨_, x, rfl, I.hok.fresh (Nat.le_refl _), rfl, fun ys hy => by rw [I.tuple_inj hy hq]; exact hx⟩, ⟨⟨y, ?_⟩, st'.1.at fun ob q => (sb.2 it (Ne.symm hne)).trans q, hne, nai, nea⟩, fun b hb => ?_⟩
    · rw [show ((n + 1 : Nat) : Int) = (n : Int) + 1 by omega]
      exact he2
    · have hb' : b < s.heap.objs.size := by
        rcases (show b = e ∨ b = it by simpa using hb) with rfl | rfl
        · exact hel
        · exact hil
      rw [upd_ne (Nat.ne_of_lt hb')]
      exact (hf b hb).1
  done := by
    intro X hP hw hK hc n pins s σ H E I hf st hg
    subst hP hw hK
    obtain ⟨⟨old, he⟩, hit, hne, nai, nea⟩ := st
    obtain ⟨xs, hq, hx⟩ := hg
    obtain ⟨its, rv, p, hz⟩ := I.tuple hq
    obtain ⟨f0, f1, f2, f3, f4, f5⟩ := hf it (by simp)
    have hl := rv.length
    have hn : its.toArray[n]? = none := by simp; omega
    exact wpAny_pyNext_enum_endD (draws_end (ar := X.A.in1) (I.ok.hd hc) it a its.toArray n hn) he ⟨rfl, hit, p⟩ fun h' eb => ⟨rfl, I.turned (t' := s.toks) (fun b ob hb q => eb b ob hb q) f0 f1 f3 f4 f5⟩
  self := fun ar n s Q E st h => let ⟨⟨_, he⟩, _⟩ := st; wpAny_pyIter_enum he h
def iEnumT (K : PySem.W.Frag) (ta : TA) : TI := fun σ H R => ta σ H fun vs H1 => ∃ a xs, vs = [.ref a] ∧ SqT K H1 a xs ∧ R (IteT K a) H1
theorem pi_enumT {X : Cx} {e : Expr} {ta : TA} {p pos tpos : Pos} {elts : List Expr} {kk : Nat} (hg : Gl X "enumerate") (hm : X.mg "enumerate" = none) (ha : PA X [e] ta) (hs : starEach [e] X.env = [(false, eval e X.env)] := by rfl) : PI X (.Tuple elts kk tpos) (.Call (.Name "enumerate" p) [e] [] pos) (iEnumT X.K ta) := by
  refine ⟨fun pins s σ H R I h => ?_⟩
  refine Call_ (ld_blt I hg hm PyProof.Rows.boot_enumerate (PyProof.Rows.callWith_type1 (thn (ha.run pos pins s σ H _ I h) fun us s1 ⟨vs, H1, I1, r1, a, xs, ex, hq, q⟩ => ?_) hs rfl))
  subst ex
  rw [Vals.ref1 r1]
  obtain ⟨its, rv, p', hz⟩ := I1.tuple hq
  obtain ⟨oa, hoa, _⟩ := id p'
  have la : a < s1.heap.objs.size := Heap.lt_size hoa
  refine enum_made (begins_tuple a its.toArray) p' fun h' he hit hk => wpAny_pyIter_enum he ?_
  have I2 : Inv X pins σ H1 { s1 with heap := h' } := I1.kept (t' := s1.toks) hk
  refine ⟨s1.heap.objs.size + 1, [s1.heap.objs.size + 1, s1.heap.objs.size], _, _, H1, rfl, I2, turn_enumT a (s1.heap.objs.size + 1) s1.heap.objs.size, ⟨⟨.none, he⟩, ⟨_, hit, rfl, rfl⟩, Nat.succ_ne_self _, Nat.ne_of_lt la, Nat.ne_of_gt (Nat.lt_succ_of_lt la)⟩, fun b hb => ?_, q⟩
  have hle : s1.heap.objs.size ≤ b := by
    rcases (show b = s1.heap.objs.size + 1 ∨ b = s1.heap.objs.size by simpa using hb) with z | z
    · rw [z]; exact Nat.le_add_right _ _
    · rw [z]; exact Nat.le_refl _
  exact I1.fpOk hle (I1.hok.fresh hle)
theorem walk_enumT {K : PySem.W.Frag} {a : Addr} {xs : List V} : Walk (IteT K a) xs.length (fun H => SqT K H a xs) (YPair (fun n => some (.int (n : Nat))) (fun n => xs[n]?)) := by
  refine ⟨fun n _ hn q => ⟨xs, xs[n], q, by simp [hn]⟩, fun _ q => ⟨xs, q, Nat.le_refl _⟩, fun n H v H' _ q y => ?_⟩
  obtain ⟨T, x, h1, h2, h3, h4⟩ := y
  exact ⟨T, .int (n : Nat), x, h1, h2, h3, rfl, h4 xs q⟩
end Lh

namespace Lh
open PySem PySem.Spec PyProof.Rows L2
theorem strict_of {ns : List Int} (h : ns.Pairwise (· ≤ ·)) (nd : ns.Nodup) : ns.Pairwise (· < ·) := by
  refine (h.and (List.nodup_iff_pairwise_ne.mp nd)).imp fun z => ?_
  have := z.1
  have := z.2
  omega
theorem cut_to {α : Type} (xs : List α) (k : Nat) (h : k ≤ xs.length) : cutI xs none (some (k : Int)) = xs.take k := by
  unfold cutI
  rw [HT.sIx_none, HT.sIx_nat, Nat.sub_zero, List.drop_zero, Nat.min_eq_left h]
theorem cut_from {α : Type} (xs : List α) (k : Nat) (h : k ≤ xs.length) : cutI xs (some (k : Int)) none = xs.drop k := by
  unfold cutI
  rw [HT.sIx_none, HT.sIx_nat, Nat.min_eq_left h]
  exact List.take_of_length_le (by rw [List.length_drop]; omega)
theorem rep_one (v : V) : ∀ n : Nat, (List.replicate n [v]).flatten = List.replicate n v
  | 0 => rfl
  | n + 1 => by rw [List.replicate_succ, List.flatten_cons, rep_one v n, List.replicate_succ]; rfl
theorem merge_get : ∀ (kv : List (Int × Int)) (acc : List (Key × V)) (p : Int), (∃ y, valV (mergeK acc (kvOf kv)) (Sum.inl p) = some (.int y) ∧ (p, y) ∈ kv) ∨ (p ∉ kv.map (·.1) ∧ valV (mergeK acc (kvOf kv)) (Sum.inl p) = valV acc (Sum.inl p))
  | [], acc, p => .inr ⟨by simp, rfl⟩
  | (a, b) :: t, acc, p => by
    have e : mergeK acc (kvOf ((a, b) :: t)) = mergeK (putK acc (Sum.inl a) (.int b)) (kvOf t) := rfl
    rw [e]
    rcases merge_get t (putK acc (Sum.inl a) (.int b)) p with ⟨y, h1, h2⟩ | ⟨h1, h2⟩
    · exact .inl ⟨y, h1, List.mem_cons_of_mem _ h2⟩
    · rw [h2, valV_put]
      by_cases c : p = a
      · subst c
        rw [if_pos rfl]
        exact .inl ⟨b, rfl, List.mem_cons_self⟩
      · have c' : ¬ (Sum.inl p : Key) = Sum.inl a := fun z => c (Sum.inl.inj z)
        rw [if_neg c']
        refine .inr ⟨fun z => ?_, rfl⟩
        rcases List.mem_cons.mp z with z | z
        · exact c z
        · exact h1 z
theorem pairs_at {H : Hp} {ps : List Addr} {lot : List (Int × Int)} (h : Paired (PairAtH H) ps lot) : ∀ (n : Nat) (h1 : n < ps.length) (h2 : n < lot.length), PairAtH H ps[n] lot[n] := by
  induction h with
  | nil => intro n h1; exact absurd h1 (by simp)
  | cons r t ih =>
    intro n h1 h2
    cases n with
    | zero => exact r
    | succ n => exact ih n (by simpa using h1) (by simpa using h2)
theorem lotI_pairs (r : Rule) (ns : List Int) (p : Int) : ((seenPairs r).filter fun q => decide (nth ns q.1 < nth ns p)).map (fun q => (q.1, nth ns q.1)) = lotI r ns p := by
  unfold lotI
  rw [← seen_persons r, List.filter_map, List.map_map]
  rfl
section
variable {P : Program} {w : World} {K : PySem.W.Frag} {mg : Str → Option Value} {base : Heap}
def spFlat : Sp := fun vs H Q _ => ∃ (bx : Addr) (c m : Int), vs = [.ref bx, .int m] ∧ 0 < m ∧ m ≤ 12 ∧ c + 1000 ≤ 1000000000 ∧ Box bx c H ∧
  ∀ (l : Addr) (us : List V) (rs : List Rule) (H' : Hp), Ext bx H H' → Box bx (c + 1000) H' → H l = none → H' l = some (.lst us) → RulesAt H' us rs → Halls rs → Q (.ref l) H'
def spShown : Sp := fun vs H Q _ => ∃ (bx l : Addr) (c : Int) (us : List V), vs = [.ref bx, .ref l] ∧ c + 100 ≤ 1000000000 ∧ us.length ≤ 12 ∧ Box bx c H ∧ H l = some (.lst us) ∧ l ≠ bx ∧
  ∀ (t : Addr) (ns : List Int) (H' : Hp), Ext bx H H' → Box bx (c + 100) H' → H t = none → TupAt H' t (ns.map V.int) → ns.length = us.length → (∀ n ∈ ns, 0 ≤ n) → Q (.ref t) H'
end
end Lh

namespace Lh
open PySem PySem.Spec PyProof.Rows L2
def pairD (q : Int × Int) : PyData := .tuple [.int q.1, .int q.2]
def Rule.data : Rule → PyData
  | .held n => .tuple [.str "held", .int n]
  | .sum own ties => .tuple [.str "sum", .int own, .tuple (ties.map pairD)]
  | .cap own ties most => .tuple [.str "cap", .int own, .tuple (ties.map pairD), .int most]
  | .kinds own seen => .tuple [.str "kinds", .int own, .tuple (seen.map PyData.int)]
  | .next seen => .tuple [.str "next", .tuple (seen.map PyData.int)]
  | .free seen => .tuple [.str "free", .tuple (seen.map PyData.int)]
theorem Box.neF {bx : Addr} {c : Int} {H : Hp} (h : Box bx c H) {p : Addr} {o : Obj} {u : HO} (n : H p = some (.frz o u)) : p ≠ bx := by
  obtain ⟨a, b, n', h, _⟩ := h
  exact ne_of n h (by intro z; cases z)
theorem pairs_rp {bx : Addr} {c : Int} {H : Hp} (b : Box bx c H) : ∀ {ps : List Addr} {ties : List (Int × Int)}, Paired (PairAtH H) ps ties → RpAll bx H (ps.map V.ref) (ties.map pairD)
  | _, _, .nil => .nil
  | _, _, .cons h r => .cons (.tup (.inl h) (b.neT h) (.cons (.int _) (.cons (.int _) .nil))) (pairs_rp b r)
theorem TiesAt.rp {bx : Addr} {c : Int} {H : Hp} (b : Box bx c H) {t : Addr} {ties : List (Int × Int)} (h : TiesAt H t ties) : Rp bx H (.ref t) (.tuple (ties.map pairD)) := by
  obtain ⟨o, ps, od, ht, pr⟩ := h
  exact .tup (.inr ⟨o, od, ht⟩) (b.neF ht) (pairs_rp b pr)
theorem SeenAt.rp {bx : Addr} {c : Int} {H : Hp} (b : Box bx c H) {t : Addr} {seen : List Int} (h : SeenAt H t seen) : Rp bx H (.ref t) (.tuple (seen.map PyData.int)) := by
  rcases h with ht | ⟨o, od, ht⟩
  · exact .tup (.inl ht) (b.neT ht) (RpAll.ints seen)
  · exact .tup (.inr ⟨o, od, ht⟩) (b.neF ht) (RpAll.ints seen)
theorem RuleAt.rp {bx : Addr} {c : Int} {H : Hp} (b : Box bx c H) {v : V} : ∀ {r : Rule}, RuleAt H v r → Rp bx H v r.data
  | .held n, ⟨a, e, h⟩ => by rw [e]; exact .tup (.inl h) (b.neT h) (.cons (.str _) (.cons (.int _) .nil))
  | .sum _ _, ⟨a, t, e, h, q⟩ => by rw [e]; exact .tup (.inl h) (b.neT h) (.cons (.str _) (.cons (.int _) (.cons (q.rp b) .nil)))
  | .cap _ _ _, ⟨a, t, e, h, q⟩ => by rw [e]; exact .tup (.inl h) (b.neT h) (.cons (.str _) (.cons (.int _) (.cons (q.rp b) (.cons (.int _) .nil))))
  | .kinds _ _, ⟨a, t, e, h, q⟩ => by rw [e]; exact .tup (.inl h) (b.neT h) (.cons (.str _) (.cons (.int _) (.cons (q.rp b) .nil)))
  | .next _, ⟨a, t, e, h, q⟩ => by rw [e]; exact .tup (.inl h) (b.neT h) (.cons (.str _) (.cons (q.rp b) .nil))
  | .free _, ⟨a, t, e, h, q⟩ => by rw [e]; exact .tup (.inl h) (b.neT h) (.cons (.str _) (.cons (q.rp b) .nil))
/-! ### data that can be shown -/
def tame (w : Nat) : Nat → PyData → Prop
  | _, .none => True
  | _, .bool _ => True
  | _, .int i => i.natAbs < 10 ^ 12
  | _, .str x => x.cps.size ≤ 10 ∧ ∀ c ∈ x.cps.toList, c < 16 ^ 8
  | n + 1, .list ds => ds.length ≤ w ∧ ∀ d ∈ ds, tame w n d
  | n + 1, .tuple ds => ds.length ≤ w ∧ ∀ d ∈ ds, tame w n d
  | _, _ => False
def Bk (w : Nat) : Nat → Nat
  | 0 => 10
  | n + 1 => 10 + w * (Bk w n + 1)
theorem Bk_ge (w : Nat) : ∀ n, 10 ≤ Bk w n
  | 0 => Nat.le_refl _
  | n + 1 => Nat.le_add_right _ _
theorem log_small {i : Int} (h : i.natAbs < 10 ^ 12) : i.natAbs.log2 < 1920 := by
  by_cases z : i.natAbs = 0
  · rw [z]; decide
  · rw [Nat.log2_lt z]
    exact Nat.lt_trans h (Nat.lt_of_lt_of_le (by decide : 10 ^ 12 < 2 ^ 40) (Nat.pow_le_pow_right (by decide) (by decide)))
structure Shown (n : Nat) (b : Nat) (d : PyData) : Prop where
  sh : d.showable = true
  nd : d.hasDict = false
  dp : d.depth ≤ n
  lv : d.leavesShort 13 = true
  bk : d.bulk ≤ b
theorem all_sh : ∀ {ds : List PyData} {n b : Nat}, (∀ d ∈ ds, Shown n b d) → PyData.showableAll ds = true ∧ PyData.hasDictAll ds = false ∧ PyData.depthAll ds ≤ n ∧ PyData.leavesShortAll 13 ds = true ∧ PyData.bulkAll ds ≤ ds.length * (b + 1)
  | [], n, b, _ => ⟨rfl, rfl, Nat.zero_le _, rfl, by show 0 ≤ _; omega⟩
  | d :: r, n, b, h => by
    have h1 := h d List.mem_cons_self
    obtain ⟨a1, a2, a3, a4, a5⟩ := all_sh (ds := r) (n := n) (b := b) (fun x hx => h x (List.mem_cons_of_mem _ hx))
    refine ⟨?_, ?_, ?_, ?_, ?_⟩
    · show (d.showable && PyData.showableAll r) = true
      rw [h1.sh, a1]; rfl
    · show (d.hasDict || PyData.hasDictAll r) = false
      rw [h1.nd, a2]; rfl
    · show max d.depth (PyData.depthAll r) ≤ n
      have := h1.dp
      omega
    · show (d.leavesShort 13 && PyData.leavesShortAll 13 r) = true
      rw [h1.lv, a4]; rfl
    · show d.bulk + 1 + PyData.bulkAll r ≤ (r.length + 1) * (b + 1)
      have := h1.bk
      rw [Nat.add_mul]
      omega
theorem tame_shown (w : Nat) : ∀ (n : Nat) (d : PyData), tame w n d → Shown n (Bk w n) d
  | n, .none, _ => ⟨rfl, rfl, Nat.zero_le _, rfl, Nat.zero_le _⟩
  | n, .bool _, _ => ⟨rfl, rfl, Nat.zero_le _, rfl, Nat.zero_le _⟩
  | n, .int i, h => by
    have h' : i.natAbs < 10 ^ 12 := by cases n <;> exact h
    exact ⟨decide_eq_true (log_small h'), rfl, Nat.zero_le _, decide_eq_true (PyData.shown_int_le h'), Nat.zero_le _⟩
  | n, .str x, h => by
    have h' : x.cps.size ≤ 10 ∧ ∀ c ∈ x.cps.toList, c < 16 ^ 8 := by cases n <;> exact h
    refine ⟨rfl, rfl, Nat.zero_le _, ?_, Nat.le_trans h'.1 (Bk_ge w n)⟩
    show (x.cps.toList.all fun c => decide (c < 16 ^ 8)) = true
    rw [List.all_eq_true]
    exact fun c hc => decide_eq_true (h'.2 c hc)
  | 0, .list _, h => h.elim
  | 0, .tuple _, h => h.elim
  | n + 1, .list ds, ⟨hl, h⟩ => by
    obtain ⟨a1, a2, a3, a4, a5⟩ := all_sh (fun d hd => tame_shown w n d (h d hd))
    refine ⟨a1, a2, Nat.succ_le_succ a3, a4, ?_⟩
    show PyData.bulkAll ds ≤ 10 + w * (Bk w n + 1)
    have := Nat.mul_le_mul_right (Bk w n + 1) hl
    omega
  | n + 1, .tuple ds, ⟨hl, h⟩ => by
    obtain ⟨a1, a2, a3, a4, a5⟩ := all_sh (fun d hd => tame_shown w n d (h d hd))
    refine ⟨a1, a2, Nat.succ_le_succ a3, a4, ?_⟩
    show PyData.bulkAll ds ≤ 10 + w * (Bk w n + 1)
    have := Nat.mul_le_mul_right (Bk w n + 1) hl
    omega
  | 0, .dict _, h => h.elim
  | n + 1, .dict _, h => h.elim
theorem tame_fits {w n : Nat} {d : PyData} (h : tame w n d) (hb : Bk w n ≤ 2 ^ 20) : d.shown.length ≤ sizeLine :=
  PyData.shown_fits_bulk (B := 13) (by decide) (by decide) (tame_shown w n d h).lv (Nat.le_trans (tame_shown w n d h).bk hb)
theorem tame_ok {w : Nat} (hw : w ≤ 8388608) : ∀ (n : Nat) (d : PyData), tame w n d → okD n d
  | n, .none, _ => by cases n <;> trivial
  | n, .bool _, _ => by cases n <;> trivial
  | n, .int i, _ => by cases n <;> trivial
  | n, .str x, _ => by cases n <;> trivial
  | 0, .list _, h => h.elim
  | 0, .tuple _, h => h.elim
  | n + 1, .list ds, ⟨hl, h⟩ => ⟨Nat.le_trans hl hw, fun d hd => tame_ok hw n d (h d hd)⟩
  | n + 1, .tuple ds, ⟨hl, h⟩ => ⟨Nat.le_trans hl hw, fun d hd => tame_ok hw n d (h d hd)⟩
  | 0, .dict _, h => h.elim
  | n + 1, .dict _, h => h.elim
theorem tame_int {w n : Nat} {i : Int} (h : i.natAbs < 10 ^ 12) : tame w n (.int i) := by cases n <;> exact h
theorem tame_word {w n : Nat} {x : Str} (h : x.cps.size ≤ 10 ∧ ∀ c ∈ x.cps.toList, c < 16 ^ 8) : tame w n (.str x) := by cases n <;> exact h
theorem tame_pairs {w n : Nat} (hw : 2 ≤ w) {l : List (Int × Int)} (h : ∀ q ∈ l, q.1.natAbs < 10 ^ 12 ∧ q.2.natAbs < 10 ^ 12) (hl : l.length ≤ w) : tame w (n + 2) (.tuple (l.map pairD)) := by
  refine ⟨by rw [List.length_map]; exact hl, fun d hd => ?_⟩
  obtain ⟨q, hq, rfl⟩ := List.mem_map.mp hd
  refine ⟨hw, fun x hx => ?_⟩
  have := h q hq
  rcases List.mem_cons.mp hx with e | e
  · rw [e]; exact tame_int this.1
  · rw [List.mem_singleton.mp e]; exact tame_int this.2
theorem tame_seen {w n : Nat} {l : List Int} (h : ∀ q ∈ l, q.natAbs < 10 ^ 12) (hl : l.length ≤ w) : tame w (n + 1) (.tuple (l.map PyData.int)) := by
  refine ⟨by rw [List.length_map]; exact hl, fun d hd => ?_⟩
  obtain ⟨q, hq, rfl⟩ := List.mem_map.mp hd
  exact tame_int (h q hq)
theorem tame_rule {w : Nat} (hw : 4 ≤ w) {many : Int} (hm : many ≤ 1000000) : ∀ {r : Rule}, r.Wf many → r.persons.length ≤ w → tame w 3 r.data
  | .held n, h, _ => by
    have h' : 0 ≤ n ∧ n ≤ 1000000 := by
      first
        | exact h
        | exact ⟨(show smallI n from h).1, Int.le_trans (show smallI n from h).2 (by decide)⟩
    refine ⟨by show 2 ≤ w; omega, fun d hd => ?_⟩
    simp only [List.mem_cons, List.not_mem_nil, or_false] at hd
    rcases hd with rfl | rfl
    · exact tame_word (by decide +kernel)
    · exact tame_int (by omega)
  | .sum own ties, ⟨ho, rs, w1⟩, hl => by
    unfold smallI at ho
    have hl' : ties.length ≤ w := by simpa [Rule.persons] using hl
    refine ⟨by show 3 ≤ w; omega, fun d hd => ?_⟩
    simp only [List.mem_cons, List.not_mem_nil, or_false] at hd
    rcases hd with rfl | rfl | rfl
    · exact tame_word (by decide +kernel)
    · exact tame_int (by omega)
    · refine tame_pairs (by omega) (fun q hq => ?_) hl'
      have h1 := rs.2 _ (List.mem_map_of_mem (f := (·.1)) hq)
      have h2 := w1 q hq
      omega
  | .cap own ties most, ⟨ho, rs, w1, hmo⟩, hl => by
    unfold smallI at ho hmo
    have hl' : ties.length ≤ w := by simpa [Rule.persons] using hl
    refine ⟨by show 4 ≤ w; omega, fun d hd => ?_⟩
    simp only [List.mem_cons, List.not_mem_nil, or_false] at hd
    rcases hd with rfl | rfl | rfl | rfl
    · exact tame_word (by decide +kernel)
    · exact tame_int (by omega)
    · refine tame_pairs (by omega) (fun q hq => ?_) hl'
      have h1 := rs.2 _ (List.mem_map_of_mem (f := (·.1)) hq)
      have h2 := w1 q hq
      omega
    · exact tame_int (by omega)
  | .kinds own seen, ⟨ho, rs⟩, hl => by
    unfold smallI at ho
    refine ⟨by show 3 ≤ w; omega, fun d hd => ?_⟩
    simp only [List.mem_cons, List.not_mem_nil, or_false] at hd
    rcases hd with rfl | rfl | rfl
    · exact tame_word (by decide +kernel)
    · exact tame_int (by omega)
    · exact tame_seen (fun q hq => by have := rs.2 q hq; omega) hl
  | .next seen, rs, hl => by
    have rs' : Rising many seen := rs
    refine ⟨by show 2 ≤ w; omega, fun d hd => ?_⟩
    simp only [List.mem_cons, List.not_mem_nil, or_false] at hd
    rcases hd with rfl | rfl
    · exact tame_word (by decide +kernel)
    · exact tame_seen (fun q hq => by have := rs'.2 q hq; omega) hl
  | .free seen, rs, hl => by
    have rs' : Rising many seen := rs
    refine ⟨by show 2 ≤ w; omega, fun d hd => ?_⟩
    simp only [List.mem_cons, List.not_mem_nil, or_false] at hd
    rcases hd with rfl | rfl
    · exact tame_word (by decide +kernel)
    · exact tame_seen (fun q hq => by have := rs'.2 q hq; omega) hl
end Lh

namespace Lh
open PySem PySem.Spec PyProof.Rows L2
/-! ### rules, by data of any make -/
def posB : PyData → Bool
  | .int i => decide (1 ≤ i)
  | _ => false
def fstD : PyData → PyData
  | .tuple (a :: _) => a
  | _ => .none
def tieB (m : Int) : PyData → Bool
  | .tuple [a, b] => persB m a && posB b
  | _ => false
def tiesB (m : Int) : PyData → Bool
  | .tuple ds => ds.all (tieB m) && riseB (ds.map fun d => intOf (fstD d))
  | _ => false
theorem tieB_len {m : Int} {ds : List PyData} (h : ds.length ≠ 2) : tieB m (.tuple ds) = false := by
  match ds, h with
  | [], _ => rfl
  | [_], _ => rfl
  | [_, _], h => exact absurd rfl h
  | _ :: _ :: _ :: _, _ => rfl
theorem two_of {ds : List PyData} (h : ds.length = 2) : ∃ a b, ds = [a, b] := by
  match ds, h with
  | [a, b], _ => exact ⟨a, b, rfl⟩
theorem not_tup {d : PyData} (h : ∀ ds, d ≠ .tuple ds) (m : Int) : tieB m d = false ∧ tiesB m d = false ∧ seenB m d = false := by
  cases d with
  | tuple ds => exact absurd rfl (h ds)
  | _ => exact ⟨rfl, rfl, rfl⟩
/-- what isinstance(thing, tuple) comes to -/
theorem ty_tup {bx : Addr} {H : Hp} {K : PySem.W.Frag} {v : V} {d : PyData} (h : Rp bx H v d) : ∃ t : String, TyX K H v (.type t) ∧ ((∃ ds, d = .tuple ds) ∧ kitB t "tuple" = some true ∨ (∀ ds, d ≠ .tuple ds) ∧ kitB t "tuple" = some false) := by
  have ty := h.ty (K := K)
  cases d with
  | tuple ds => exact ⟨_, ty, .inl ⟨⟨ds, rfl⟩, (by decide +kernel : kitB "tuple" "tuple" = some true)⟩⟩
  | none => exact ⟨_, ty, .inr ⟨fun ds z => (by cases z), (by decide +kernel : kitB "NoneType" "tuple" = some false)⟩⟩
  | bool b => exact ⟨_, ty, .inr ⟨fun ds z => (by cases z), (by decide +kernel : kitB "bool" "tuple" = some false)⟩⟩
  | int i => exact ⟨_, ty, .inr ⟨fun ds z => (by cases z), (by decide +kernel : kitB "int" "tuple" = some false)⟩⟩
  | str x => exact ⟨_, ty, .inr ⟨fun ds z => (by cases z), (by decide +kernel : kitB "str" "tuple" = some false)⟩⟩
  | list es => exact ⟨_, ty, .inr ⟨fun ds z => (by cases z), (by decide +kernel : kitB "list" "tuple" = some false)⟩⟩
  | _ => cases h
theorem map_map_int {α : Type} (f : α → Int) (xs : List α) : (xs.map f).map V.int = xs.map fun x => V.int (f x) := by
  rw [List.map_map]
  rfl
section
variable {P : Program} {w : World} {K : PySem.W.Frag} {mg : Str → Option Value} {base : Heap}
def spIsTieD : Sp := fun vs H Q _ => ∃ (bx : Addr) (m : Int) (v : V) (d : PyData), vs = [.int m, v] ∧ Rp bx H v d ∧ Q (.bl (tieB m d)) H
set_option maxHeartbeats 1000000 in
theorem ok_is_tieD (T : Txt K mg w) : FnOk P w K mg base CX0 3 T.f_is_tie T.fd_is_tie p_is_tie spIsTieD := by
  have G_is_number := ok_is_numberD (P := P) (w := w) (base := base) T
  have G_is_person := ok_is_personD (P := P) (w := w) (base := base) T
  refine T.F_is_tie.ok sc_is_tie (fun vs H Q E h => ?_) (fun cdv A outer s H vs Q E hr h => ?_)
  · obtain ⟨bx, m, v, d, rfl, _⟩ := h
    rfl
  · obtain ⟨bx, m, v, d, rfl, hv, q⟩ := h
    refine ⟨_, (pss_cons (ps_if (PW.pt (pw_or (pt_not (pt_val (pe_callB call_isi (by rfl) T.m_isinstance (by decide +kernel) (pa_cons (pv 1) (pa_cons (pe_bltn (v := .ty "tuple") (by rfl) T.m_tuple (by decide +kernel) rfl) pa_nil))))) (pw_or1 (pt_cmpR op_ne (pe_callB call_len_seq (by rfl) T.m_len (by decide +kernel) (pa_cons (pv 1) pa_nil)) pe_int (nomark _)))))
        (pss_one (ps_ret pe_bl))
        pss_nil)
      (pss_one (ps_ret (pe_and (pe_call G_is_person (hr.mono (by decide)) (by rfl) T.g_is_person T.F_is_person.kp T.b_is_person .nil pass0 (pa_cons (pv 0) (pa_cons (pe_ix ix_tup (pv 1) pe_int (fun _ _ => rfl)) pa_nil))) (pe_and (pe_call G_is_number (hr.mono (by decide)) (by rfl) T.g_is_number T.F_is_number.kp T.b_is_number .nil pass0 (pa_cons (pe_ix ix_tup (pv 1) pe_int (fun _ _ => rfl)) pa_nil)) (pe_one (pe_cmpR op_ge (pe_ix ix_tup (pv 1) pe_int (fun _ _ => rfl)) pe_int (nomark _)))))))), ?_⟩
    obtain ⟨t, ty, ⟨⟨ds, rfl⟩, kt⟩ | ⟨nt, kt⟩⟩ := ty_tup (K := K) hv
    · cases hv with
      | tup ht nb ra =>
        rename_i a xs
        have lx : xs.length = ds.length := ra.length
        refine rd_isi (x := .ref a) (T := t) rfl ty kt ⟨_, rfl, iteN rfl ?_⟩
        refine ⟨.ref a, rfl, a, _, rfl, .inr ht.sq, rfl, _, rfl, ite2 (fun z => ?_) (fun z => ?_)⟩
        · have ne : ds.length ≠ 2 := fun e => by
            rw [lx, e] at z
            exact absurd z (by decide)
          rw [tieB_len ne] at q
          exact q
        · have e2 : ds.length = 2 := by
            by_cases e : ds.length = 2
            · exact e
            · exfalso
              refine z ?_
              rw [lx, decide_eq_false (fun h => e (by have := V.int.inj h; omega))]; rfl
          obtain ⟨da, db, rfl⟩ := two_of e2
          cases ra with
          | @cons va _ _ _ ra rb0 =>
          cases rb0 with
          | @cons vb _ _ _ rb rn =>
            cases rn
            have q : Q (.bl (persB m da && posB db)) H := q
            refine ⟨.int m, rfl, .ref a, rfl, a, _, 0, va, rfl, rfl, ht.sq, rfl, bx, m, va, da, rfl, ra, _, rfl, ite2 (fun c => ?_) (fun c => ?_)⟩
            · rw [c, Bool.true_and] at q
              refine ⟨.ref a, rfl, a, _, 1, vb, rfl, rfl, ht.sq, rfl, bx, vb, db, rfl, rb, _, rfl, ite2 (fun c2 => ?_) (fun c2 => ?_)⟩
              · cases db with
                | int i =>
                  cases rb
                  exact ⟨.ref a, rfl, a, _, 1, .int i, rfl, rfl, ht.sq, rfl, i, 1, rfl, rfl, q⟩
                | _ => exact absurd c2 Bool.false_ne_true
              · cases db with
                | int i =>
                  have c3 : ¬ 0 ≤ i := fun h => c2 (decide_eq_true h)
                  rw [show posB (.int i) = false from decide_eq_false (by omega)] at q
                  exact q
                | _ => exact q
            · rw [Bool.eq_false_iff.mpr c, Bool.false_and] at q
              exact q
    · rw [(not_tup nt m).1] at q
      exact rd_isi (x := v) (T := t) rfl ty kt ⟨_, rfl, iteP rfl (iteP rfl q)⟩
def spAreTiesD : Sp := fun vs H Q _ => ∃ (bx : Addr) (m : Int) (v : V) (d : PyData), vs = [.int m, v] ∧ Rp bx H v d ∧ (∀ ds, d = .tuple ds → ds.length ≤ 1000) ∧ ∀ H', Same H H' → Q (.bl (tiesB m d)) H'
set_option maxHeartbeats 2000000 in
theorem ok_are_tiesD (T : Txt K mg w) : FnOk P w K mg base CX0 4 T.f_are_ties T.fd_are_ties p_are_ties spAreTiesD := by
  have G_is_tie := ok_is_tieD (P := P) (w := w) (base := base) T
  have G_rises := ok_risesB (P := P) (w := w) (base := base) T
  refine T.F_are_ties.ok sc_are_ties (fun vs H Q E h => ?_) (fun cdv A outer s H vs Q E hr h => ?_)
  · obtain ⟨bx, m, v, d, rfl, _⟩ := h
    rfl
  · obtain ⟨bx, m, v, d, rfl, hv, hl, q⟩ := h
    refine ⟨_, (pss_cons (ps_if (PW.pt (pw_or (pt_not (pt_val (pe_callB call_isi (by rfl) T.m_isinstance (by decide +kernel) (pa_cons (pv 1) (pa_cons (pe_bltn (v := .ty "tuple") (by rfl) T.m_tuple (by decide +kernel) rfl) pa_nil))))) (pw_or1 (pt_not (pt_val (pe_callB (cr_all rfl) (by rfl) T.m_all (by decide +kernel) (pa_cons (pe_lc (own := [("one", 2)]) (g := gName 2) (by rfl) sc_are_ties.nd (pi_tup (pv 1)) (blkOk_by (own := [("one", 2)]) (N := n_are_ties) (sc := defScope s_are_ties) (by decide +kernel)) (fun _ _ _ _ _ => (pg_name (i := 2) sc_are_ties.nd rfl (.inl rfl) (.inr rfl))) (fun _ _ _ _ _ => pts_nil) (fun _ _ _ _ _ => (pe_call G_is_tie (hr.mono (by decide)) (by rfl) T.g_is_tie T.F_is_tie.kp T.b_is_tie .nil pass0 (pa_cons (pv 0) (pa_cons (pv 2) pa_nil))))) pa_nil)))))))
        (pss_one (ps_ret pe_bl))
        pss_nil)
      (pss_one (ps_ret (pe_call G_rises (hr.mono (by decide)) (by rfl) T.g_rises T.F_rises.kp T.b_rises .nil pass0 (pa_cons (pe_lc (own := [("person", 3), ("weight", 4)]) (g := gTup K 2 (gCons (gName 3) (gCons (gName 4) gNil))) (by rfl) sc_are_ties.nd (pi_tup (pv 1)) (blkOk_by (own := [("person", 3), ("weight", 4)]) (N := n_are_ties) (sc := defScope s_are_ties) (by decide +kernel)) (fun _ _ _ _ _ => (pg_tup rfl (pgs_cons (pg_name (i := 3) sc_are_ties.nd rfl (.inl rfl) (.inr rfl)) (pgs_cons (pg_name (i := 4) sc_are_ties.nd rfl (.inl rfl) (.inr rfl)) pgs_nil)))) (fun _ _ _ _ _ => pts_nil) (fun _ _ _ _ _ => (pv 3))) pa_nil))))), ?_⟩
    obtain ⟨t, ty, ⟨⟨ds, rfl⟩, kt⟩ | ⟨nt, kt⟩⟩ := ty_tup (K := K) hv
    · cases hv with
      | tup ht nb ra =>
        rename_i a xs
        have hl' := hl ds rfl
        have lx : xs.length = ds.length := ra.length
        refine rd_isi (x := .ref a) (T := t) rfl ty kt ⟨_, rfl, iteN rfl ?_⟩
        refine ⟨.ref a, rfl, a, rfl, ⟨_, ht.sq⟩, fun D hD => ?_⟩
        refine lc_map (walk_tup (xs := xs)) (fun j => .bl (tieB m (ds.getD j .none))) hD (by omega) (fun H3 s3 => (ht.keep (Keep.same s3)).sq) ?_ ?_
        · rintro j y H3 H4 hj s3 ⟨rfl, hy⟩ Q' Z hQ
          obtain ⟨dj, e1, e2⟩ := ra.at hy
          refine ⟨rfl, yes (iteT ?_)⟩
          rw [List.getD_eq_getElem?_getD, e1] at hQ
          exact ⟨.int m, rfl, y, rfl, bx, m, y, dj, rfl, e2.ext (Ext.of s3), hQ _ (Same.refl _)⟩
        · intro H3 s3 h3
          rw [lx] at h3
          refine ⟨D, ds.map (tieB m), rfl, .inl (.inl (by rw [h3, List.map_map]; exact congrArg (fun z => some (HO.lst z)) (range_getD2 (fun d => V.bl (tieB m d)) .none ds))), ?_⟩
          rw [List.all_map, show (id ∘ tieB m) = tieB m from rfl]
          have eT : tiesB m (.tuple ds) = (ds.all (tieB m) && riseB (ds.map fun d => intOf (fstD d))) := rfl
          refine ⟨_, rfl, ite2 (fun c => ?_) (fun c => ?_)⟩
          · have c' : ds.all (tieB m) = false := by
              cases e : ds.all (tieB m) with
              | false => rfl
              | true => rw [e] at c; exact absurd c (by decide)
            have := q H3 s3
            rw [eT, c', Bool.false_and] at this
            exact this
          · have c' : ds.all (tieB m) = true := by
              cases e : ds.all (tieB m) with
              | false => rw [e] at c; exact absurd rfl c
              | true => rfl
            have ht3 := ht.keep (Keep.same s3)
            refine ⟨.ref a, rfl, a, rfl, ⟨_, ht3.sq⟩, fun D2 hD2 => ?_⟩
            refine lc_map (walk_tup (xs := xs)) (fun j => .int (intOf (fstD (ds.getD j .none)))) hD2 (by omega) (fun H4 s4 => (ht3.keep (Keep.same s4)).sq) ?_ ?_
            · rintro j y H4 H5 hj s4 ⟨rfl, hy⟩ Q' Z hQ
              obtain ⟨dj, e1, e2⟩ := ra.at hy
              rw [List.getD_eq_getElem?_getD, e1] at hQ
              have tj : tieB m dj = true := List.all_eq_true.mp c' dj (List.mem_of_getElem? e1)
              have e3 := (e2.ext (Ext.of s3)).ext (Ext.of s4)
              cases dj with
              | tuple es =>
                by_cases l2 : es.length = 2
                · obtain ⟨da, db, rfl⟩ := two_of l2
                  cases e3 with
                  | tup h2 nb2 r2 =>
                    cases r2 with
                    | @cons va _ _ _ r3 r4 =>
                    cases r4 with
                    | @cons vb _ _ _ r5 r6 =>
                      cases r6
                      have tj' : (persB m da && posB db) = true := tj
                      rw [Bool.and_eq_true] at tj'
                      cases da with
                      | int i =>
                        cases r3
                        exact ⟨_, _, rfl, h2.sq, rfl, _, _, rfl, _, _, rfl, rfl, rfl, yes (iteT ⟨_, rfl, hQ _ (Same.refl _)⟩)⟩
                      | _ => exact absurd tj'.1 Bool.false_ne_true
                · rw [tieB_len l2] at tj
                  exact absurd tj Bool.false_ne_true
              | _ => exact absurd tj Bool.false_ne_true
            · intro H4 s4 h4
              rw [lx] at h4
              have e4 : H4 D2 = some (.lst ((ds.map fun d => intOf (fstD d)).map V.int)) := by
                rw [h4, map_map_int]
                exact congrArg (fun z => some (HO.lst z)) (range_getD2 (fun d => V.int (intOf (fstD d))) .none ds)
              refine ⟨D2, _, rfl, .inl (.inl (.inl e4)), by rw [List.length_map]; exact hl', fun H5 s5 => ?_⟩
              have := q H5 (s3.trans (s4.trans s5))
              rw [eT, c', Bool.true_and] at this
              exact this
    · have := q H (Same.refl H)
      rw [(not_tup nt m).2.1] at this
      exact rd_isi (x := v) (T := t) rfl ty kt ⟨_, rfl, iteP rfl (iteP rfl this)⟩
/-- a part of a rule -/
def partB (m : Int) (part : Str) (d : PyData) : Bool := if part = "number" then numB d else if part = "ties" then tiesB m d else seenB m d
def spIsPartD : Sp := fun vs H Q _ => ∃ (bx : Addr) (m : Int) (part : Str) (v : V) (d : PyData), vs = [.int m, .str part, v] ∧ Rp bx H v d ∧ (∀ ds, d = .tuple ds → ds.length ≤ 1000) ∧ ∀ H', Same H H' → Q (.bl (partB m part d)) H'
theorem ok_is_partD (T : Txt K mg w) : FnOk P w K mg base CX0 5 T.f_is_part T.fd_is_part p_is_part spIsPartD := by
  have G_is_number := ok_is_numberD (P := P) (w := w) (base := base) T
  have G_are_ties := ok_are_tiesD (P := P) (w := w) (base := base) T
  have G_are_persons := ok_are_personsD (P := P) (w := w) (base := base) T
  refine T.F_is_part.ok sc_is_part (fun vs H Q E h => ?_) (fun cdv A outer s H vs Q E hr h => ?_)
  · obtain ⟨bx, m, part, v, d, rfl, _⟩ := h
    rfl
  · obtain ⟨bx, m, part, v, d, rfl, hv, hl, q⟩ := h
    refine ⟨_, (pss_cons (ps_if (pt_cmpR op_eq (pv 1) pe_str (nomark _))
        (pss_one (ps_ret (pe_call G_is_number (hr.mono (by decide)) (by rfl) T.g_is_number T.F_is_number.kp T.b_is_number .nil pass0 (pa_cons (pv 2) pa_nil))))
        pss_nil)
      (pss_cons (ps_if (pt_cmpR op_eq (pv 1) pe_str (nomark _))
        (pss_one (ps_ret (pe_call G_are_ties (hr.mono (by decide)) (by rfl) T.g_are_ties T.F_are_ties.kp T.b_are_ties .nil pass0 (pa_cons (pv 0) (pa_cons (pv 2) pa_nil)))))
        pss_nil)
      (pss_one (ps_ret (pe_call G_are_persons (hr.mono (by decide)) (by rfl) T.g_are_persons T.F_are_persons.kp T.b_are_persons .nil pass0 (pa_cons (pv 0) (pa_cons (pv 2) pa_nil))))))), ?_⟩
    by_cases c1 : part = "number"
    · refine ⟨_, rfl, rfl, _, rfl, iteP (decide_eq_true (by rw [c1])) ?_⟩
      have := q H (Same.refl H)
      rw [partB, if_pos c1] at this
      exact ⟨v, rfl, bx, v, d, rfl, hv, this⟩
    refine ⟨_, rfl, rfl, _, rfl, iteN (decide_eq_false fun e => c1 (V.str.inj e)) ?_⟩
    by_cases c2 : part = "ties"
    · refine ⟨_, rfl, rfl, _, rfl, iteP (decide_eq_true (by rw [c2])) ?_⟩
      refine ⟨.int m, rfl, v, rfl, bx, m, v, d, rfl, hv, hl, fun H' s' => ?_⟩
      have := q H' s'
      rw [partB, if_neg c1, if_pos c2] at this
      exact this
    refine ⟨_, rfl, rfl, _, rfl, iteN (decide_eq_false fun e => c2 (V.str.inj e)) ?_⟩
    refine ⟨.int m, rfl, v, rfl, bx, m, v, d, rfl, hv, hl, fun H' s' => ?_⟩
    have := q H' s'
    rw [partB, if_neg c1, if_neg c2] at this
    exact this
/-- the words that data here are made of -/
def wds : List Str := ["", "sum", "held", "free", "cap", "kinds", "next"]
def partsW (x : Str) : Option (List Str) :=
  if x = "held" then some ["number"] else if x = "sum" then some ["number", "ties"] else if x = "cap" then some ["number", "ties", "number"] else if x = "kinds" then some ["number", "seen"] else if x = "next" then some ["seen"] else if x = "free" then some ["seen"] else none
theorem parts_word {x : Str} (h : x ∈ wds) : (x = "" ∧ partsW x = none) ∨ ∃ r : Rule, x = wordOf r ∧ partsW x = some (partsOf r) := by
  unfold wds at h
  simp only [List.mem_cons, List.not_mem_nil, or_false] at h
  rcases h with rfl | rfl | rfl | rfl | rfl | rfl | rfl
  · exact .inl ⟨rfl, by decide +kernel⟩
  · exact .inr ⟨.sum 0 [], rfl, by decide +kernel⟩
  · exact .inr ⟨.held 0, rfl, by decide +kernel⟩
  · exact .inr ⟨.free [], rfl, by decide +kernel⟩
  · exact .inr ⟨.cap 0 [] 0, rfl, by decide +kernel⟩
  · exact .inr ⟨.kinds 0 [], rfl, by decide +kernel⟩
  · exact .inr ⟨.next [], rfl, by decide +kernel⟩
def ruleB (m : Int) : PyData → Bool
  | .tuple (.str x :: ds) => match partsW x with
    | none => false
    | some ps => decide (ds.length = ps.length) && (List.zip ps ds).all fun q => partB m q.1 q.2
  | _ => false
/-- the data that are asked about: words known, no part too long -/
structure RFine (d : PyData) : Prop where
  wd : ∀ x ds, d = .tuple (.str x :: ds) → x ∈ wds
  ln : ∀ ds, d = .tuple ds → ds.length ≤ 1000 ∧ ∀ e ∈ ds, ∀ es, e = .tuple es → es.length ≤ 1000
theorem isiQ {K : PySem.W.Frag} {H : Hp} {x : V} {T c : String} {b : Bool} {Q : VK} (ty : TyX K H x (.type T)) (h : kitB T c = some b) (q : Q (.bl b) H) : rIsi K [x, .ty c] H Q := ⟨x, .ty c, .type T, .type c, b, rfl, .ty c, ty, kit_ty h, q⟩
theorem ty_str {bx : Addr} {H : Hp} {K : PySem.W.Frag} {v : V} {d : PyData} (h : Rp bx H v d) : ∃ t : String, TyX K H v (.type t) ∧ ((∃ x, d = .str x) ∧ kitB t "str" = some true ∨ (∀ x, d ≠ .str x) ∧ kitB t "str" = some false) := by
  have ty := h.ty (K := K)
  cases d with
  | str x => exact ⟨_, ty, .inl ⟨⟨x, rfl⟩, (by decide +kernel : kitB "str" "str" = some true)⟩⟩
  | none => exact ⟨_, ty, .inr ⟨fun ds z => (by cases z), (by decide +kernel : kitB "NoneType" "str" = some false)⟩⟩
  | bool b => exact ⟨_, ty, .inr ⟨fun ds z => (by cases z), (by decide +kernel : kitB "bool" "str" = some false)⟩⟩
  | int i => exact ⟨_, ty, .inr ⟨fun ds z => (by cases z), (by decide +kernel : kitB "int" "str" = some false)⟩⟩
  | list es => exact ⟨_, ty, .inr ⟨fun ds z => (by cases z), (by decide +kernel : kitB "list" "str" = some false)⟩⟩
  | tuple es => exact ⟨_, ty, .inr ⟨fun ds z => (by cases z), (by decide +kernel : kitB "tuple" "str" = some false)⟩⟩
  | _ => cases h
theorem ruleB_not {m : Int} {d : PyData} (h : ∀ x ds, d ≠ .tuple (.str x :: ds)) : ruleB m d = false := by
  unfold ruleB
  split
  · exact absurd rfl (h _ _)
  · rfl
theorem ruleB_none {m : Int} {x : Str} {ds : List PyData} (h : partsW x = none) : ruleB m (.tuple (.str x :: ds)) = false := by
  simp only [ruleB, h]
theorem ruleB_some {m : Int} {x : Str} {ds : List PyData} {ps : List Str} (h : partsW x = some ps) : ruleB m (.tuple (.str x :: ds)) = (decide (ds.length = ps.length) && (List.zip ps ds).all fun q => partB m q.1 q.2) := by
  simp only [ruleB, h]
theorem zip_all {m : Int} : ∀ {ps : List Str} {ds : List PyData}, ((List.range (min ps.length ds.length)).map fun i => partB m (ps.getD i "") (ds.getD i .none)).all id = (List.zip ps ds).all fun q => partB m q.1 q.2
  | [], ds => by simp
  | _ :: _, [] => by simp
  | p :: ps, d :: ds => by
    have ih := zip_all (m := m) (ps := ps) (ds := ds)
    rw [show min (p :: ps).length (d :: ds).length = min ps.length ds.length + 1 by rw [List.length_cons, List.length_cons]; omega, List.range_succ_eq_map, List.map_cons, List.map_map, List.all_cons, List.zip_cons_cons, List.all_cons, ← ih]
    rfl
def spIsRuleD : Sp := fun vs H Q _ => ∃ (bx : Addr) (m : Int) (v : V) (d : PyData), vs = [.int m, v] ∧ Rp bx H v d ∧ RFine d ∧ ∀ H', Same H H' → Q (.bl (ruleB m d)) H'
set_option maxHeartbeats 2000000 in
theorem ok_is_ruleD (T : Txt K mg w) : FnOk P w K mg base CX0 6 T.f_is_rule T.fd_is_rule p_is_rule spIsRuleD := by
  have G_is_part := ok_is_partD (P := P) (w := w) (base := base) T
  refine T.F_is_rule.ok sc_is_rule (fun vs H Q E h => ?_) (fun cdv A outer s H vs Q E hr h => ?_)
  · obtain ⟨bx, m, v, d, rfl, _⟩ := h
    rfl
  · obtain ⟨bx, m, v, d, rfl, hv, hf, q⟩ := h
    refine ⟨_, (pss_cons (ps_if (PW.pt (pw_or (pt_not (pt_val (pe_callB call_isi (by rfl) T.m_isinstance (by decide +kernel) (pa_cons (pv 1) (pa_cons (pe_bltn (v := .ty "tuple") (by rfl) T.m_tuple (by decide +kernel) rfl) pa_nil))))) (pw_or1 (pt_not (pt_truth (pv 1) (by intro _; rfl))))))
        (pss_one (ps_ret pe_bl))
        pss_nil)
      (pss_cons (ps_if (PW.pt (pw_or (pt_not (pt_val (pe_callB call_isi (by rfl) T.m_isinstance (by decide +kernel) (pa_cons (pe_ix ix_tup (pv 1) pe_int (fun _ _ => rfl)) (pa_cons (pe_bltn (v := .ty "str") (by rfl) T.m_str (by decide +kernel) rfl) pa_nil))))) (pw_or1 (pt_cmpR (op_notIn_kd T.kd_PARTS) (pe_ix ix_tup (pv 1) pe_int (fun _ _ => rfl)) (pe_glob (v := .ref T.D_PARTS) (by rfl) T.g_PARTS rfl) (by rfl)))))
        (pss_one (ps_ret pe_bl))
        pss_nil)
      (pss_cons (ps_set (i := 2) sc_is_rule.nd rfl (.inl rfl) (pe_ix ix_kdict (pe_glob (v := .ref T.D_PARTS) (by rfl) T.g_PARTS rfl) (pe_ix ix_tup (pv 1) pe_int (fun _ _ => rfl)) (fun _ _ => rfl)))
      (pss_cons (ps_if (pt_cmpR op_ne (pe_callB call_len_seq (by rfl) T.m_len (by decide +kernel) (pa_cons (pv 1) pa_nil)) (pe_op op_add (pe_callB call_len_seq (by rfl) T.m_len (by decide +kernel) (pa_cons (pv 2) pa_nil)) pe_int) (nomark _))
        (pss_one (ps_ret pe_bl))
        pss_nil)
      (pss_one (ps_ret (pe_callB (cr_all rfl) (by rfl) T.m_all (by decide +kernel) (pa_cons (pe_lc (own := [("part", 3), ("piece", 4)]) (g := gTup K 2 (gCons (gName 3) (gCons (gName 4) gNil))) (by rfl) sc_is_rule.nd (RZ.pi_zipA (by rfl) T.m_zip (pa_cons (pv 2) (pa_cons (pe_slice sl_tupA (pv 1) (po_some pe_int) po_none) pa_nil))) (blkOk_by (own := [("part", 3), ("piece", 4)]) (N := n_is_rule) (sc := defScope s_is_rule) (by decide +kernel)) (fun _ _ _ _ _ => (pg_tup rfl (pgs_cons (pg_name (i := 3) sc_is_rule.nd rfl (.inl rfl) (.inr rfl)) (pgs_cons (pg_name (i := 4) sc_is_rule.nd rfl (.inl rfl) (.inr rfl)) pgs_nil)))) (fun _ _ _ _ _ => pts_nil) (fun _ _ _ _ _ => (pe_call G_is_part (hr.mono (by decide)) (by rfl) T.g_is_part T.F_is_part.kp T.b_is_part .nil pass0 (pa_cons (pv 0) (pa_cons (pv 3) (pa_cons (pv 4) pa_nil)))))) pa_nil)))))))), ?_⟩
    have q0 := q H (Same.refl H)
    obtain ⟨t, ty, ⟨⟨ds, rfl⟩, kt⟩ | ⟨nt, kt⟩⟩ := ty_tup (K := K) hv
    · cases hv with
      | tup ht nb ra =>
        rename_i a xs
        refine rd_isi (x := .ref a) (T := t) rfl ty kt ⟨_, rfl, iteN rfl ?_⟩
        cases ra with
        | nil =>
          rw [ruleB_not (fun x ds z => by cases z)] at q0
          exact ⟨.ref a, rfl, false, .inr (.inl ⟨_, ht.sq, rfl⟩), iteP rfl q0⟩
        | @cons v0 xs d0 ds r0 rs =>
          have lx : xs.length = ds.length := rs.length
          have i0 : atI (v0 :: xs) 0 = some v0 := atI_nat (j := 0) rfl
          refine ⟨.ref a, rfl, true, .inr (.inl ⟨_, ht.sq, rfl⟩), iteN rfl ?_⟩
          obtain ⟨t0, ty0, ⟨⟨x, rfl⟩, kt0⟩ | ⟨ns, kt0⟩⟩ := ty_str (K := K) r0
          · cases r0
            refine ⟨.ref a, rfl, a, _, 0, _, rfl, rfl, ht.sq, i0, _, _, .type t0, .type "str", true, rfl, .ty "str", ty0, kit_ty kt0, _, rfl, iteN rfl ?_⟩
            have hx := hf.wd x ds rfl
            rcases parts_word hx with ⟨rfl, pn⟩ | ⟨r, rfl, pr⟩
            · rw [ruleB_none pn] at q0
              exact ⟨.ref a, rfl, a, _, 0, _, rfl, rfl, ht.sq, i0, _, _, rfl, rfl, T.dn_PARTS, _, rfl, iteP rfl q0⟩
            obtain ⟨tp, dk, sq⟩ := parts_at T r
            refine ⟨.ref a, rfl, a, _, 0, _, rfl, rfl, ht.sq, i0, _, _, rfl, rfl, dk, _, rfl, iteN rfl ?_⟩
            refine ⟨.ref a, rfl, a, _, 0, _, rfl, rfl, ht.sq, i0, T.D_PARTS, _, .ref tp, rfl, rfl, ⟨T.es_PARTS, T.en_PARTS, _, T.kd_PARTS.at_, T.kd_PARTS.lit, dk, rfl⟩, ?_⟩
            have er : ruleB m (.tuple (.str (wordOf r) :: ds)) = (decide (ds.length = (partsOf r).length) && (List.zip (partsOf r) ds).all fun q => partB m q.1 q.2) := ruleB_some pr
            refine ⟨.ref a, rfl, a, _, rfl, .inr ht.sq, .ref tp, rfl, tp, _, rfl, .inr (sq H), _, 1, rfl, rfl, rfl, _, rfl, ite2 (fun z => ?_) (fun z => ?_)⟩
            · have ne : ds.length ≠ (partsOf r).length := fun e => by
                rw [List.length_cons, List.length_map, lx, e, decide_eq_true (by rfl)] at z
                exact absurd z (by decide)
              rw [er, decide_eq_false ne, Bool.false_and] at q0
              exact q0
            have el : ds.length = (partsOf r).length := by
              by_cases e : ds.length = (partsOf r).length
              · exact e
              · exfalso
                refine z ?_
                rw [List.length_cons, List.length_map, lx, decide_eq_false (fun h => e (by have := V.int.inj h; omega))]; rfl
            refine ⟨.ref tp, rfl, .ref a, rfl, 1, rfl, a, _, rfl, ht.sq, fun wh => ?_, fun _ c nc => ?_⟩
            · exfalso
              have := wh.1
              rw [show HT.sIx (V.str (wordOf r) :: xs).length 0 (some 1) = min 1 (V.str (wordOf r) :: xs).length from HT.sIx_nat _ 0 1, List.length_cons] at this
              omega
            rw [cutV1]
            have s1 := same_upd (o := .tup ((V.str (wordOf r) :: xs).drop 1)) nc
            refine ⟨tp, c, _, _, rfl, .inr ⟨sq _, .inl (.inl upd_same), fun D hD => ?_⟩⟩
            refine lc_map (walk_zipM (K := K) (a := tp) (b := c) (xs := (partsOf r).map V.str) (ys := (V.str (wordOf r) :: xs).drop 1) (n := min (partsOf r).length ds.length) (by rw [List.length_map, List.length_drop, List.length_cons, lx]; omega)) (fun i => .bl (partB m ((partsOf r).getD i "") (ds.getD i .none))) hD (by have := parts_len r; omega) (fun H3 s3 => ⟨sq _, .inl (.inl (s3 _ _ upd_same))⟩) ?_ ?_
            · rintro i x H3 H4 hi s3 ⟨u, x1, x2, rfl, nu, rfl, e1, e2⟩ Q' Z hQ
              have e2' : xs[i]? = some x2 := e2
              have hi1 : i < (partsOf r).length := by omega
              have e1' : ((partsOf r).map V.str)[i]? = some x1 := e1
              rw [List.getElem?_map, List.getElem?_eq_getElem hi1] at e1'
              cases e1'
              obtain ⟨di, f1, f2⟩ := rs.at e2'
              have sT := same_upd (o := .tup [V.str (partsOf r)[i], x2]) nu
              rw [List.getD_eq_getElem?_getD, List.getElem?_eq_getElem hi1, List.getD_eq_getElem?_getD, f1] at hQ
              have lf : ∀ es, di = .tuple es → es.length ≤ 1000 := fun es e => (hf.ln _ rfl).2 di (List.mem_cons_of_mem _ (List.mem_of_getElem? f1)) es e
              exact ⟨u, _, rfl, .inl (.inl upd_same), rfl, _, _, rfl, _, _, rfl, rfl, rfl, yes (iteT ⟨.int m, rfl, .str (partsOf r)[i], rfl, x2, rfl, bx, m, _, x2, di, rfl, f2.ext (Ext.of (s1.trans (s3.trans sT))), lf, fun H5 s5 => hQ _ (sT.trans s5)⟩)⟩
            · intro H3 s3 h3
              refine ⟨D, (List.range (min (partsOf r).length ds.length)).map fun i => partB m ((partsOf r).getD i "") (ds.getD i .none), rfl, .inl (.inl (by rw [h3, List.map_map]; rfl)), ?_⟩
              have := q H3 (s1.trans s3)
              rw [er, decide_eq_true el, Bool.true_and, ← zip_all] at this
              exact this
          · rw [ruleB_not (fun x es z => ns x (List.cons.inj (PyData.tuple.inj z)).1)] at q0
            exact ⟨.ref a, rfl, a, _, 0, _, rfl, rfl, ht.sq, i0, _, _, .type t0, .type "str", false, rfl, .ty "str", ty0, kit_ty kt0, _, rfl, iteP rfl (iteP rfl q0)⟩
    · rw [ruleB_not (fun x ds z => nt _ z)] at q0
      exact rd_isi (x := v) (T := t) rfl ty kt ⟨_, rfl, iteP rfl (iteP rfl q0)⟩
end
end Lh

namespace Lh
open PySem PySem.Spec PyProof.Rows L2
/-! ### a dict comprehension of two clauses without tests -/
abbrev dc2 (kx vx a b c d : Expr) (scope : Scope) (pos : Pos) : Expr := .DictComp kx vx [⟨a, b, [], 0⟩, ⟨c, d, [], 0⟩] scope pos
theorem dc2_turn0 (kx vx a b c d : Expr) (scope : Scope) (pos : Pos) (it acc : Value) (env : Env) : compTurn (dc2 kx vx a b c d scope pos) 0 it acc env = (do
    standAt b.pos
    match ← pyNext it with
    | none => pure (.done .next)
    | some v =>
      letOwnedTupleGo a it v
      assign a env v
      let x ← eval d env
      standAt d.pos
      let x ← foldedSetIterable d env x
      let _ ← runOwn (.compStart (dc2 kx vx a b c d scope pos) 1 (← holding [x] (pyIter x)) acc env) env
      again (.compLoop (dc2 kx vx a b c d scope pos) 0 it acc env)) := by rfl
theorem dc2_turn1 (kx vx a b c d : Expr) (scope : Scope) (pos : Pos) (it : Value) (D : Addr) (env : Env) : compTurn (dc2 kx vx a b c d scope pos) 1 it (.ref D) env = (do
    standAt d.pos
    match ← pyNext it with
    | none => pure (.done .next)
    | some v =>
      letOwnedTupleGo c it v
      assign c env v
      (do
        let kv ← eval kx env
        let vv ← holding [kv] (eval vx env)
        standAt { kx.pos with endLine := vx.pos.endLine, endCol := vx.pos.endCol }
        holding [kv, vv] (dictSet D kv vv))
      again (.compLoop (dc2 kx vx a b c d scope pos) 1 it (.ref D) env)) := by rfl
section
variable {prog : Program} {w : World} {A : Around} {R : Result → Shared → Prop} {s : Shared} {kx vx a b c d : Expr} {scope : Scope} {pos : Pos} {it acc : Value} {env : Env}
/-- turns of the outer clause, each measured -/
theorem dc2_outer (hf : ∀ x, foldedSetIterable d env x = pure x) (Inn : Nat → Shared → Prop)
    (one : ∀ n s, Inn n s → wpAny (model prog w) A (pyNext it) (fun o z1 => match o with
      | none => R (.ok .next) z1
      | some v => wpAny (model prog w) A (letOwnedTupleGo a it v) (fun _ z2 => wpAny (model prog w) A (assign a env v) (fun _ z3 => wpAny (model prog w) A (eval d env) (fun x z4 => wpAny (model prog w) A (pyIter x) (fun it1 z5 =>
          codeAny (model prog w) A (.compStart (dc2 kx vx a b c d scope pos) 1 it1 acc env) (fun o z6 => match o with | .ok _ => ∃ m, m < n ∧ Inn m z6 | .error _ => False) z5) (notedBy (model prog w) A env fun e z => R (.error e) z) z4) (notedBy (model prog w) A env fun e z => R (.error e) z) z3) (notedBy (model prog w) A env fun e z => R (.error e) z) z2) (notedBy (model prog w) A env fun e z => R (.error e) z) z1) (notedBy (model prog w) A env fun e z => R (.error e) z) s)
    (n : Nat) (h0 : Inn n s) : codeAny (model prog w) A (.compLoop (dc2 kx vx a b c d scope pos) 0 it acc env) R s := by
  refine codeAny_loop rfl Inn (fun n s hn => ?_) n h0
  show wpAny _ A ((compTurn (dc2 kx vx a b c d scope pos) 0 it acc env).onRaise (fun x => do noteFrame x env; theTreesLotGoes x)) _ _ s
  rw [dc2_turn0]
  refine wpAny_noted (wpAny_bind (wpAny_standAt (wpAny_bind (wpAny_mono (one n s hn) (fun o z1 k1 => ?_) fun _ _ q => q))))
  match o, k1 with
  | none, k1 => exact wpAny_pure k1
  | some v, k1 =>
    refine wpAny_bind (wpAny_mono k1 (fun _ z2 k2 => wpAny_bind (wpAny_mono k2 (fun _ z3 k3 => wpAny_bind (wpAny_mono k3 (fun x z4 k4 => ?_) fun _ _ q => q)) fun _ _ q => q)) fun _ _ q => q)
    refine wpAny_bind (wpAny_standAt (wpAny_bind (wpAny_of_eq (hf x) (wpAny_bind (wpAny_holding (wpAny_mono k4 (fun it1 z5 k5 => wpAny_bind (wpAny_runOwn ?_)) fun _ _ q => q))))))
    rw [Around.mark_none]
    refine codeAny_mono k5 fun o z6 k6 => ?_
    cases o with
    | error e => exact k6.elim
    | ok f =>
      first
        | exact wpAny_pure ⟨rfl, k6⟩
        | exact wpAny_bind (wpAny_pure (wpAny_pure ⟨rfl, k6⟩))
/-- turns of the inner clause -/
theorem dc2_inner {D : Addr} (Inn : Nat → Shared → Prop)
    (one : ∀ n s, Inn n s → wpAny (model prog w) A (pyNext it) (fun o z1 => match o with
      | none => R (.ok .next) z1
      | some v => wpAny (model prog w) A (letOwnedTupleGo c it v) (fun _ z2 => wpAny (model prog w) A (assign c env v) (fun _ z3 => wpAny (model prog w) A (eval kx env) (fun kv z4 => wpAny (model prog w) A (eval vx env) (fun vv z5 =>
          wpAny (model prog w) A (dictSet D kv vv) (fun _ z6 => ∃ m, m < n ∧ Inn m z6) (notedBy (model prog w) A env fun e z => R (.error e) z) z5) (notedBy (model prog w) A env fun e z => R (.error e) z) z4) (notedBy (model prog w) A env fun e z => R (.error e) z) z3) (notedBy (model prog w) A env fun e z => R (.error e) z) z2) (notedBy (model prog w) A env fun e z => R (.error e) z) z1) (notedBy (model prog w) A env fun e z => R (.error e) z) s)
    (n : Nat) (h0 : Inn n s) : codeAny (model prog w) A (.compLoop (dc2 kx vx a b c d scope pos) 1 it (.ref D) env) R s := by
  refine codeAny_loop rfl Inn (fun n s hn => ?_) n h0
  show wpAny _ A ((compTurn (dc2 kx vx a b c d scope pos) 1 it (.ref D) env).onRaise (fun x => do noteFrame x env; theTreesLotGoes x)) _ _ s
  rw [dc2_turn1]
  refine wpAny_noted (wpAny_bind (wpAny_standAt (wpAny_bind (wpAny_mono (one n s hn) (fun o z1 k1 => ?_) fun _ _ q => q))))
  match o, k1 with
  | none, k1 => exact wpAny_pure k1
  | some v, k1 =>
    refine wpAny_bind (wpAny_mono k1 (fun _ z2 k2 => wpAny_bind (wpAny_mono k2 (fun _ z3 k3 => ?_) fun _ _ q => q)) fun _ _ q => q)
    refine wpAny_bind (wpAny_bind (wpAny_mono k3 (fun kv z4 k4 => wpAny_bind (wpAny_holding (wpAny_mono k4 (fun vv z5 k5 => wpAny_bind (wpAny_standAt (wpAny_holding (wpAny_mono k5 (fun _ z6 k6 => ?_) fun _ _ q => q)))) fun _ _ q => q))) fun _ _ q => q))
    exact wpAny_pure ⟨rfl, k6⟩
theorem dc2_begin1 (h0 : codeAny (model prog w) A (.compLoop (dc2 kx vx a b c d scope pos) 1 it acc env) R s)
    (h1 : wpAny (model prog w) A (pyIter it) (fun it' z => codeAny (model prog w) A (.compLoop (dc2 kx vx a b c d scope pos) 1 it' acc env) R z) (notedBy (model prog w) A env fun x z => R (.error x) z) s) : codeAny (model prog w) A (.compStart (dc2 kx vx a b c d scope pos) 1 it acc env) R s := by
  refine codeAny_of_tree (show wpAny _ _ ((compStart (dc2 kx vx a b c d scope pos) 1 it acc env).onRaise (fun x => do noteFrame x env; standAt theWindowsPlace)) _ _ s from wpAny_notedAt ?_)
  unfold compStart
  refine (show wpAny _ _ (ask >>= _) _ _ s from wpAny_bind (wpAny_askSetting (wpAny_ite ?_)))
  split
  · first
      | exact wpAny_pure ⟨rfl, h0⟩
      | exact wpAny_bind (wpAny_pure (wpAny_pure ⟨rfl, h0⟩))
  · refine wpAny_bind (wpAny_rule ?_)
    refine (show wpAny _ _ (standAt d.pos >>= _) _ _ s from wpAny_bind (wpAny_standAt (wpAny_bind (wpAny_mono h1 (fun it' z k => wpAny_pure ⟨rfl, k⟩) fun _ _ q => q))))
end
section
variable {X : Cx}
/-- {k: v for a in b for c in d}: D the new dict; vs the block's own slots, vs1 those of the inner target -/
def tDc2 (wi : TI) (g : TG) (wi1 : TI) (g1 : TG) (tk tv : TE) (vs vs1 : List Nat) : TE := fun σ H Q => wi σ H fun J H1 => ∀ D, H1 D = none → ∃ W : Nat → Nat → Hp → Prop, (∃ m, W 0 m (upd H1 D (.dK []))) ∧ ∀ i m H, W i m H →
  (J.stop i H ∧ Q (.ref D) H) ∨ (J.go i H ∧ ∃ Nx : Hp → Prop, (∀ H', Nx H' → ∃ m', m' < m ∧ W (i + 1) m' H') ∧ ∀ x H', J.yld i H x H' → g x (wipe σ vs) H' fun σ2 H2 => wipe σ2 vs = wipe σ vs ∧ wi1 σ2 H2 fun J1 H4 => ∃ W1 : Nat → Nat → Hp → Prop, (∃ m, W1 0 m H4) ∧ ∀ j k H, W1 j k H →
    (J1.stop j H ∧ Nx H) ∨ (J1.go j H ∧ ∃ Nx1 : Hp → Prop, (∀ H', Nx1 H' → ∃ k', k' < k ∧ W1 (j + 1) k' H') ∧ ∀ x H', J1.yld j H x H' → g1 x (wipe σ2 vs1) H' fun σ3 H5 => wipe σ3 vs1 = wipe σ2 vs1 ∧ tk σ3 H5 fun y H6 => tv σ3 H6 fun z H7 => ∃ kvs key, y = kV key ∧ H7 D = some (.dK kvs) ∧ kvs.length < sizeLine ∧ Nx1 (upd H7 D (.dK (putK kvs key z)))))
abbrev BkX (X : Cx) (scope : Scope) (G : Cx → Prop) : Prop := ∀ (s : Shared) (H : Hp) (C : Addr) (cl : List (Str × Addr)) (fp : List Addr), G (X.blk s H scope (compEnvC scope cl C X.env) fp)
set_option maxHeartbeats 4000000 in
theorem pe_dc2 {kx vx a b c d : Expr} {scope : Scope} {own : List (Str × Nat)} {vs1 : List Nat} {pos : Pos} {wi wi1 : TI} {g g1 : TG} {tk tv : TE} (hc : X.calm = true) (hN : X.N.Nodup) (hi : PI X a b wi) (ok : BlkOk X.N X.env.scope scope own) (hv : ∀ i ∈ vs1, i ∈ own.map (·.2))
    (hg : BkX X scope fun Y => PG Y a g) (hi1 : BkX X scope fun Y => PI Y c d wi1) (hg1 : BkX X scope fun Y => PG Y c g1) (hk : BkX X scope fun Y => PE Y kx tk) (he : BkX X scope fun Y => PE Y vx tv) (hs : ∀ x, foldedSetIterable b X.env x = pure x := by intro _; rfl) (hs1 : ∀ env x, foldedSetIterable d env x = pure x := by intro _ _; rfl) :
    PE X (.DictComp kx vx [⟨a, b, [], 0⟩, ⟨c, d, [], 0⟩] scope pos) (tDc2 wi g wi1 g1 tk tv (own.map (·.2)) vs1) := by
  refine ⟨fun pins s σ H Q I h => ?_⟩
  rw [arm_eval_DictComp]
  have cellsOk : ∀ y ∈ scope.names, y.2 = .free → ∃ c, X.env.cells.lookup y.1 = some c := fun y hy e => (ok.free y hy e).elim (fun z => I.ok.has _ (.inl z)) (fun z => I.ok.has _ (.inr z))
  refine wpAny_comprehension_free rfl hs (closure_ok cellsOk) ok.kind (fun y hy e => by rw [ok.uniq y hy, e]) (thn (hi.run pins s σ H _ I h) fun xv s1 hx => thn hx fun itv s2 h2 => ?_)
  obtain ⟨it, fp, tn, J, H2, eit, I2, TT, st2, f2, q⟩ := h2
  subst eit
  refine wpAny_newObj_type (newEnv_comp ?_)
  -- the new dict
  obtain ⟨D, hD⟩ : ∃ D, D = s2.heap.objs.size := ⟨_, rfl⟩
  rw [← hD]
  obtain ⟨W, ⟨m0, w0⟩, turn⟩ := q D (I2.hok.fresh (Nat.le_of_eq hD.symm))
  obtain ⟨s3, es3⟩ : ∃ s3 : Shared, s3 = { s2 with heap := s2.heap.push { cls := .type "dict", data := .dict #[] } } := ⟨_, rfl⟩
  have hp3 : s3.heap = s2.heap.push { cls := .type "dict", data := .dict #[] } := by rw [es3]
  obtain ⟨H3, eH3⟩ : ∃ H3 : Hp, H3 = upd H2 D (.dK []) := ⟨_, rfl⟩
  have I3 : Inv X pins σ H3 s3 := by
    rw [es3, eH3]
    exact I2.laid (t' := s2.toks) (fun _ _ e => Heap.get?_push_of_some _ e) (Nat.le_of_eq hD.symm) (by rw [hD]; exact dk_empty s2.heap I2.big)
  have low : ∀ z ∈ fp, z < s2.heap.objs.size := fun z hz => (TT.obj _ _ st2 z hz).elim fun o e => Heap.lt_size e.1
  have f3 : ∀ z ∈ fp, FpOk X pins H3 z ∧ z < s3.heap.objs.size := fun z hz => by
    refine ⟨⟨?_, (f2 z hz).2⟩, by rw [hp3, Heap.size_push]; exact Nat.lt_succ_of_lt (low z hz)⟩
    rw [eH3, upd_ne (fun e => Nat.lt_irrefl _ (by have := low z hz; rw [← hD, ← e] at this; exact this))]
    exact (f2 z hz).1
  have st3 : tn 0 s3.heap := TT.keep _ _ _ st2 fun z _ o e => by rw [hp3]; exact Heap.get?_push_of_some _ e
  have I4 := block_start I3 ok hN f3
  rw [← eH3] at w0
  rw [← es3]
  obtain ⟨cl, ecl⟩ : ∃ cl, cl = cellsFrom (s3.heap.objs.size + 1) scope.names (cloFrom X.env.cells scope.names []) := ⟨_, rfl⟩
  rw [← ecl] at I4
  have pg := hg s3 H3 s3.heap.objs.size cl fp
  have pi1 := hi1 s3 H3 s3.heap.objs.size cl fp
  have pg1 := hg1 s3 H3 s3.heap.objs.size cl fp
  have pk := hk s3 H3 s3.heap.objs.size cl fp
  have pv := he s3 H3 s3.heap.objs.size cl fp
  obtain ⟨ce, ece⟩ : ∃ ce, ce = compEnvC scope cl s3.heap.objs.size X.env := ⟨_, rfl⟩
  have cL : ce.locals = s3.heap.objs.size := by rw [ece]; rfl
  rw [← ece] at I4 pg pi1 pg1 pk pv
  obtain ⟨s4, es4⟩ : ∃ s4 : Shared, s4 = { s3 with heap := pushCells (s3.heap.push { cls := .type "dict", data := .dict #[] }) scope.names } := ⟨_, rfl⟩
  rw [← es4] at I4
  have st4 : tn 0 s4.heap := TT.keep _ _ _ st3 fun z _ o e => by rw [es4]; exact pushCells_keeps _ _ _ _ (Heap.get?_push_of_some _ e)
  obtain ⟨Y, eY⟩ : ∃ Y : Cx, Y = X.blk s3 H3 scope ce fp := ⟨_, rfl⟩
  have still : ∀ {σ' : L2.St} {H' : Hp} {s' : Shared}, Inv (X.blk s3 H3 scope ce fp) [] σ' H' s' → (∀ z ∈ fp, H' z = none) → ∀ z ∈ fp, FpOk (X.blk s3 H3 scope ce fp) [] H' z := fun J' hn z hz =>
    ⟨hn z hz, (J'.ok.exf z hz).1, J'.ok.exfs z hz, .inl hz, fun x c e => (J'.ok.exf z hz).2 x c e, fun p hp => absurd (show p ∈ ([] : List (Addr × Obj)) ++ [] from hp) (by simp)⟩
  have outer : codeAny (model X.prog X.w) X.A (.compLoop (dc2 kx vx a b c d scope pos) 0 (.ref it) (.ref D) ce) (compPost (model X.prog X.w) X.A X.xe none (fun v s' => ∃ (v0 : V) (H' : Hp), Inv X pins σ H' s' ∧ RelV v0 v ∧ Q v0 H') (.ref D) s3.heap.objs.size) s4 := by
    refine dc2_outer (hs1 ce) (fun n z => ∃ i H', Inv (X.blk s3 H3 scope ce fp) [] (wipe σ (own.map (·.2))) H' z ∧ tn i z.heap ∧ (∀ y ∈ fp, H' y = none) ∧ W i n H') ?_ m0 ⟨0, H3, I4, st4, fun z hz => (f3 z hz).1.1, w0⟩
    rintro n s5 ⟨i, H5, I5, st5, n5, w5⟩
    rcases turn i n H5 w5 with ⟨stop, qq⟩ | ⟨go, Nx, hNx, step⟩
    · refine thnF (TT.done (X.blk s3 H3 scope ce fp) rfl rfl rfl hc i [] s5 _ H5 (fun _ _ => False) I5 (still I5 n5) st5 stop) fun r s6 ⟨er, I6⟩ => ?_
      subst er
      have I7 : Inv X pins σ H5 s6 := I3.call' (ch := fp) I6.os I6.base I6.hok I6.bare fun z hz => by
        obtain ⟨_, q2, _, q4, q5, q6⟩ := (f3 z hz).1
        exact ⟨q4, q2, q5, q6⟩
      have nC : H5 s3.heap.objs.size = none := by rw [← cL]; exact I6.free
      obtain ⟨m, hn, _⟩ := I6.loc
      have hn' : s6.heap.Ns s3.heap.objs.size m := by rw [← cL]; exact hn
      obtain ⟨g0, g1', g2, g3, g4, g5⟩ := I3.fpOk (pins := pins) (Nat.le_refl s3.heap.objs.size) nC
      exact ⟨m, hn', fun h'' sb => ⟨.ref D, H5, I7.turned (t' := s6.toks) (fun y o hy e => (sb.2 y hy).trans e) g0 g1' g3 g4 g5, rfl, qq⟩⟩
    · refine thnF (TT.item (X.blk s3 H3 scope ce fp) rfl rfl rfl hc i [] s5 _ H5 (fun _ _ => False) I5 (still I5 n5) st5 go) fun r s6 ⟨u, er, h6⟩ => ?_
      subst er
      refine thnF h6 fun _ s7 ⟨x, H7, I7, r7, y7, st7, n7⟩ => ?_
      refine thnF (pg.run _ s7 _ H7 x u _ (I7.pinned (still I7 n7) (TT.obj _ _ st7)) r7 (step x H7 y7)) fun _ s8 ⟨σ8, H8, I8, w8, q8⟩ => ?_
      -- back to the outer clause from any slots that know what was known at first
      have back : ∀ {σ9 : L2.St} {z : Shared} {H' : Hp}, Inv (X.blk s3 H3 scope ce fp) ([] ++ pinsAt fp s7.heap) σ9 H' z → (wipe σ (own.map (·.2))).length = σ9.length → (∀ (j : Nat) v, (wipe σ (own.map (·.2)))[j]? = some (some v) → σ9[j]? = some (some v)) → Nx H' → ∃ m, m < n ∧ ∃ i H', Inv (X.blk s3 H3 scope ce fp) [] (wipe σ (own.map (·.2))) H' z ∧ tn i z.heap ∧ (∀ y ∈ fp, H' y = none) ∧ W i m H' := fun {σ9 z H'} J' e1 e2 nx => by
        obtain ⟨m', lt', w'⟩ := hNx H' nx
        have held : ∀ y ∈ fp, ∀ o, s7.heap.get? y = some o → z.heap.get? y = some o ∧ H' y = none := fun y hy o e => by
          have := J'.pin (y, o) (List.mem_append_right _ (List.mem_append_right _ (mem_pinsAt hy e)))
          exact ⟨this.1, this.2.1⟩
        exact ⟨m', lt', i + 1, H', (J'.unpinned (pins := [])).weak e1 e2, TT.keep _ _ _ st7 (fun y hy o e => (held y hy o e).1), (fun y hy => (TT.obj _ _ st7 y hy).elim fun o e => (held y hy o e.1).2), w'⟩
      have l8 : (wipe σ (own.map (·.2))).length = σ8.length := (congrArg List.length w8).symm.trans (wipe_length _ _)
      have k9 : ∀ (j : Nat) v, (wipe σ (own.map (·.2)))[j]? = some (some v) → (wipe σ8 vs1)[j]? = some (some v) := fun j v e => by
        rw [← w8] at e
        obtain ⟨a1, a2⟩ := wipe_some e
        rw [wipe_out fun z => a2 (hv j z)]
        exact a1
      refine thnF (pi1.run _ s8 σ8 H8 _ I8 q8) fun xv s10 hx => thnF hx fun itv s11 h11 => ?_
      obtain ⟨it1, fp1, tn1, J1, H11, ei1, I11, T1, st11, f11, W1, ⟨m1, w1⟩, turn1⟩ := h11
      subst ei1
      have still1 : ∀ {H' : Hp}, (∀ z ∈ fp1, H' z = none) → ∀ z ∈ fp1, FpOk (X.blk s3 H3 scope ce fp) ([] ++ pinsAt fp s7.heap) H' z := fun hn z hz => ⟨hn z hz, (f11 z hz).2⟩
      have inner : codeAny (model X.prog X.w) X.A (.compLoop (dc2 kx vx a b c d scope pos) 1 (.ref it1) (.ref D) ce) (fun r z => match r with | .ok _ => ∃ m, m < n ∧ ∃ i H', Inv (X.blk s3 H3 scope ce fp) [] (wipe σ (own.map (·.2))) H' z ∧ tn i z.heap ∧ (∀ y ∈ fp, H' y = none) ∧ W i m H' | .error _ => False) s11 := by
        refine dc2_inner (fun k z => ∃ j H', Inv (X.blk s3 H3 scope ce fp) ([] ++ pinsAt fp s7.heap) (wipe σ8 vs1) H' z ∧ tn1 j z.heap ∧ (∀ y ∈ fp1, H' y = none) ∧ W1 j k H') ?_ m1 ⟨0, H11, I11.weak (wipe_length _ _) (fun j v e => (wipe_some e).1), st11, fun z hz => (f11 z hz).1, w1⟩
        rintro k s12 ⟨j, H12, I12, st12, n12, w12⟩
        rcases turn1 j k H12 w12 with ⟨stop1, nx1⟩ | ⟨go1, Nx1, hNx1, step1⟩
        · refine thnF (T1.done (X.blk s3 H3 scope ce fp) rfl rfl rfl hc j _ s12 (wipe σ8 vs1) H12 (fun _ _ => False) I12 (still1 n12) st12 stop1) fun r s13 ⟨er, I13⟩ => ?_
          subst er
          exact back I13 (l8.trans (wipe_length σ8 vs1).symm) k9 nx1
        · refine thnF (T1.item (X.blk s3 H3 scope ce fp) rfl rfl rfl hc j _ s12 (wipe σ8 vs1) H12 (fun _ _ => False) I12 (still1 n12) st12 go1) fun r s13 ⟨u1, er, h13⟩ => ?_
          subst er
          refine thnF h13 fun _ s14 ⟨x1, H14, I14, r14, y14, st14, n14⟩ => ?_
          refine thnF (pg1.run _ s14 (wipe σ8 vs1) H14 x1 u1 _ (I14.pinned (still1 n14) (T1.obj _ _ st14)) r14 (step1 x1 H14 y14)) fun _ s15 ⟨σ15, H15, I15, w15, q15⟩ => ?_
          refine thnF (pk.run _ s15 σ15 H15 _ I15 q15) fun zk s16 ⟨yk, H16, I16, r16, q16⟩ => ?_
          refine thnF (pv.run _ s16 σ15 H16 _ I16 q16) fun zv s17 ⟨yv, H17, I17, r17, kvs, key, ek, hD17, hz17, nx⟩ => ?_
          subst ek
          refine d_dictSet (X := X.blk s3 H3 scope ce fp) I17 hD17 hz17 r16 r17 fun s18 I18 => ?_
          obtain ⟨m', lt', w'⟩ := hNx1 _ nx
          have held : ∀ y ∈ fp1, ∀ o, s14.heap.get? y = some o → s18.heap.get? y = some o ∧ upd H17 D (.dK (putK kvs key yv)) y = none := fun y hy o e => by
            have := I18.pin (y, o) (List.mem_append_right _ (List.mem_append_right _ (mem_pinsAt hy e)))
            exact ⟨this.1, this.2.1⟩
          exact ⟨m', lt', j + 1, _, I18.unpinned.weak ((congrArg List.length w15).symm.trans (wipe_length _ _)) (fun j v e => by rw [← w15] at e; exact (wipe_some e).1), T1.keep _ _ _ st14 (fun y hy o e => (held y hy o e).1), (fun y hy => (T1.obj _ _ st14 y hy).elim fun o e => (held y hy o e.1).2), w'⟩
      exact dc2_begin1 inner (T1.self X.A 0 _ _ _ st11 inner)
  have := codeAny_compStart_dict outer (TT.self X.A 0 _ _ _ st4 outer)
  rw [ece, ecl, es4] at this
  exact this
end
end Lh

namespace Lh
open PySem PySem.Spec PyProof.Rows L2
/-! ### dicts: update, != {}, walks of a comprehension of two clauses -/
section
variable {X : Cx}
def rDUpd : V → List V → Hp → VK → Prop := fun x xs H Q => ∃ (a b : Addr) (kvs more : List (Key × V)), x = .ref a ∧ xs = [.ref b] ∧ H a = some (.dK kvs) ∧ H b = some (.dK more) ∧ a ≠ b ∧ kvs.length + more.length ≤ sizeLine ∧ Q .non (upd H a (.dK (mergeK kvs more)))
theorem putK_len {κ : Type} [DecidableEq κ] (kvs : List (κ × V)) (k : κ) (v : V) : (putK kvs k v).length ≤ kvs.length + 1 := by
  unfold putK
  split
  · rw [List.length_map]; omega
  · rw [List.length_append]; exact Nat.le_refl _
theorem mergeK_len (kvs : List (Key × V)) : ∀ more : List (Key × V), (mergeK kvs more).length ≤ kvs.length + more.length := by
  intro more
  unfold mergeK
  induction more generalizing kvs with
  | nil => exact Nat.le_refl _
  | cons p r ih =>
    rw [List.foldl_cons, List.length_cons]
    have := ih (putK kvs p.1 p.2)
    have := putK_len kvs p.1 p.2
    omega
theorem mt_dupd : MtM X "dict.update" rDUpd := by
  intro pins s σ H x xs v us Q I rx rs h
  obtain ⟨a, b, kvs, more, rfl, rfl, ha, hb, ne, hz, q⟩ := h
  obtain rfl : v = Value.ref a := rx
  cases rs with
  | cons r0 r1 =>
    cases r1
    obtain rfl : _ = Value.ref b := r0
    obtain ⟨z, hd, vs, rel, dd⟩ := dk_of I.hok ha
    obtain ⟨z2, hd2, vs2, rel2, dd2⟩ := dk_of I.hok hb
    refine call_meetsIn PySem.F.slot_dict_update dd.typeIs PySem.F.entry_dict_update (PySem.F.args_dict_update_2 _ _) (meets_dict_update (mixKind X.prog X.w) a b ne hd2) ⟨vs, vs2, dd, dd2, by rw [← rel.length, ← rel2.length]; exact hz, fun h' dd' _ hs => ?_⟩
    have he : ∃ q, h'.get? a = some q := let ⟨q, _, _, hq, _⟩ := dd'; ⟨q, hq⟩
    exact ⟨.non, _, d_write (t' := s.toks) I (by rw [ha]; exact True.intro) hs he (dk_new (Nat.le_trans (mergeK_len _ _) hz) hd (rel2.merge rel) dd'), rfl, q⟩
def rNeE : R2 := fun x y H Q => ∃ a b ks, x = .ref a ∧ y = .ref b ∧ H a = some (.dK ks) ∧ H b = some (.dK []) ∧ Q (.bl (!ks.isEmpty)) H
theorem op_neE (hu : X.A.units < cLine) : OpR X (compareOp .NotEq) rNeE := by
  intro pins s σ H x y v u Q I rx ry h
  obtain ⟨a, b, ks, rfl, rfl, ea, eb, q⟩ := h
  obtain rfl : v = Value.ref a := rx
  obtain rfl : u = Value.ref b := ry
  obtain ⟨_, ya, va, ra, da⟩ := (show ObjOk X.prog X.w H s.heap a (.dK ks) from I.hok a _ ea)
  obtain ⟨_, yb, vb, rb, db⟩ := (show ObjOk X.prog X.w H s.heap b (.dK []) from I.hok b _ eb)
  cases rb
  refine PySem.W.keq_ne (knd := mixKind X.prog X.w) (r := true) ya yb da db hu (fun e => ?_) (fin_bl I q ?_)
  · cases va with
    | nil => exact .nil
    | cons p r => cases e
  · have := ra.length
    cases ks with
    | nil => cases va with
      | nil => rfl
      | cons p r => cases this
    | cons p r => cases va with
      | nil => cases this
      | cons p' r' => rfl
theorem dc2_it {J : It} {n : Nat} {G : Hp → Prop} {Y : Nat → Hp → V → Hp → Prop} (w : Walk J n G Y) {S : V → Hp → (Hp → Prop) → Prop} {H1 : Hp} {Qd : Hp → Prop} (Pv : Nat → Hp → Prop) (h0 : Pv 0 H1) (hG : ∀ i H, i ≤ n → Pv i H → G H)
    (hs : ∀ i x H H', i < n → Pv i H → Y i H x H' → S x H' (Pv (i + 1))) (hd : ∀ H, Pv n H → Qd H) :
    ∃ W : Nat → Nat → Hp → Prop, (∃ m, W 0 m H1) ∧ ∀ i m H, W i m H → (J.stop i H ∧ Qd H) ∨ (J.go i H ∧ ∃ Nx : Hp → Prop, (∀ H', Nx H' → ∃ m', m' < m ∧ W (i + 1) m' H') ∧ ∀ x H', J.yld i H x H' → S x H' Nx) := by
  refine ⟨fun i m H => m = n - i ∧ i ≤ n ∧ Pv i H, ⟨n, by simp, Nat.zero_le _, h0⟩, ?_⟩
  rintro i m H ⟨rfl, hi, p⟩
  have q := hG i H hi p
  by_cases hlt : i < n
  · exact .inr ⟨w.goes i H hlt q, Pv (i + 1), fun H' p' => ⟨n - (i + 1), by omega, rfl, hlt, p'⟩, fun x H' y => hs i x H H' hlt p (w.yields i H x H' hlt q y)⟩
  · have e : i = n := by omega
    subst e
    exact .inl ⟨w.stops H q, hd H p⟩
end
end Lh

namespace Lh
open PySem PySem.Spec PyProof.Rows L2
/-! ### a list or a tuple, whichever it is -/
def SeqH (H : Hp) (a : Addr) (xs : List V) : Prop := H a = some (.lst xs) ∨ TupAt H a xs
theorem SeqH.same {H H' : Hp} {a : Addr} {xs : List V} (s : Same H H') (h : SeqH H a xs) : SeqH H' a xs := h.elim (fun z => .inl (s _ _ z)) fun z => .inr (z.keep (Keep.same s))
theorem SeqH.sq {K : PySem.W.Frag} {H : Hp} {a : Addr} {xs : List V} (h : SeqH H a xs) : SqL K H a xs ∨ SqT K H a xs := h.elim (fun z => .inl (.inl (.inl z))) fun z => .inr z.sq
theorem SeqH.has {H : Hp} {a : Addr} {xs : List V} (h : SeqH H a xs) : ∃ o, H a = some o := by
  rcases h with h | h | ⟨o, _, h⟩
  · exact ⟨_, h⟩
  · exact ⟨_, h⟩
  · exact ⟨_, h⟩
theorem SeqH.ext {bx : Addr} {H H' : Hp} {a : Addr} {xs : List V} (e : Ext bx H H') (n : a ≠ bx) (h : SeqH H a xs) : SeqH H' a xs := h.elim (fun z => .inl (e _ _ n z)) fun z => .inr (z.ext e n)
theorem SeqH.ne {bx : Addr} {c : Int} {H H' : Hp} {a : Addr} {xs : List V} (b : Box bx c H) (n : H a = none) : a ≠ bx := b.ne n
/-- walked: one of both -/
def iAny (K : PySem.W.Frag) (tl : TE) : TI := fun σ H R => iList K tl σ H R ∨ iTup K tl σ H R
def iEnumA (K : PySem.W.Frag) (ta : TA) : TI := fun σ H R => iEnum K ta σ H R ∨ iEnumT K ta σ H R
section
variable {X : Cx} {tg : Expr} {K : PySem.W.Frag}
theorem pi_any {l : Expr} {tl : TE} (h : PE X l tl) : PI X tg l (iAny X.K tl) := ⟨fun pins s σ H R I q => q.elim ((pi_list h).run pins s σ H R I) ((pi_tup h).run pins s σ H R I)⟩
theorem pi_enumA {e : Expr} {ta : TA} {p pos tpos : Pos} {elts : List Expr} {kk : Nat} (hg : Gl X "enumerate") (hm : X.mg "enumerate" = none) (ha : PA X [e] ta) (hs : starEach [e] X.env = [(false, eval e X.env)] := by rfl) :
    PI X (.Tuple elts kk tpos) (.Call (.Name "enumerate" p) [e] [] pos) (iEnumA X.K ta) :=
  ⟨fun pins s σ H R I q => q.elim ((pi_enum hg hm ha hs).run pins s σ H R I) ((pi_enumT hg hm ha hs).run pins s σ H R I)⟩
/-- what a walk of the thing at a asks, from then on: that it stands -/
def Stands (H : Hp) (a : Addr) (G : Hp → Prop) : Prop := ∀ H', (∀ o, H a = some o → H' a = some o) → G H'
theorem Stands.same {H H' : Hp} {a : Addr} {G : Hp → Prop} (g : Stands H a G) (s : Same H H') : G H' := g H' fun o h => s _ _ h
theorem any_var {σ : L2.St} {i : Nat} {a : Addr} {H : Hp} {xs : List V} {R : It → Hp → Prop} (hv : σ[i]? = some (some (.ref a))) (h : SeqH H a xs)
    (k : ∀ J G, Walk J xs.length G (YAt xs) → Stands H a G → R J H) : iAny K (tVar i) σ H R := by
  rcases h with h | h
  · exact .inl ⟨_, hv, a, rfl, ⟨xs, .inl (.inl h)⟩, k _ _ walk_list fun H' e => .inl (.inl (e _ h))⟩
  · refine .inr ⟨_, hv, a, rfl, ⟨xs, h.sq⟩, k _ _ walk_tup fun H' e => ?_⟩
    rcases h with h | ⟨o, _, h⟩
    · exact .inl (.inl (e _ h))
    · exact .inl (.inr ⟨o, e _ h⟩)
theorem enum_var {σ : L2.St} {i : Nat} {a : Addr} {H : Hp} {xs : List V} {R : It → Hp → Prop} (hv : σ[i]? = some (some (.ref a))) (h : SeqH H a xs)
    (k : ∀ J G, Walk J xs.length G (YPair (fun n => some (.int (n : Nat))) (fun n => xs[n]?)) → Stands H a G → R J H) : iEnumA K (tCons (tVar i) tNil) σ H R := by
  rcases h with h | h
  · exact .inl ⟨_, hv, a, xs, rfl, .inl (.inl h), k _ _ walk_enum fun H' e => .inl (.inl (e _ h))⟩
  · refine .inr ⟨_, hv, a, xs, rfl, h.sq, k _ _ walk_enumT fun H' e => ?_⟩
    rcases h with h | ⟨o, _, h⟩
    · exact .inl (.inl (e _ h))
    · exact .inl (.inr ⟨o, e _ h⟩)
/-- the same, where it stood at an earlier heap already -/
theorem any_varS {σ : L2.St} {i : Nat} {a : Addr} {H0 H : Hp} {xs : List V} {R : It → Hp → Prop} (hv : σ[i]? = some (some (.ref a))) (s : Same H0 H) (h : SeqH H0 a xs)
    (k : ∀ J G, Walk J xs.length G (YAt xs) → (∀ {H'}, Same H0 H' → G H') → R J H) : iAny K (tVar i) σ H R :=
  any_var hv (h.same s) fun J G W g => k J G W fun {H'} s' => g H' fun o e => by
    obtain ⟨u, hu⟩ := h.has
    rw [s _ _ hu] at e
    cases e
    exact s' _ _ hu
/-- an item of one of both -/
theorem ix_at {H : Hp} {a : Addr} {xs : List V} {n : Int} {v : V} {Q : VK} (h : SeqH H a xs) (e : atI xs n = some v) (q : Q v H) : rIx K (.ref a) (.int n) H Q :=
  h.elim (fun z => .inl ⟨a, xs, n, v, rfl, rfl, .inl (.inl z), e, q⟩) fun z => .inr (.inl ⟨a, xs, n, v, rfl, rfl, z.sq, e, q⟩)
end
/-! ### lists of persons, in a list or a tuple -/
def vN (p : Nat) : V := .int (p : Int)
def LsAt (H : Hp) : List V → List (List Nat) → Prop := Paired fun u l => ∃ b, u = .ref b ∧ SeqH H b (l.map vN)
theorem LsAt.same {H H' : Hp} (s : Same H H') : ∀ {us : List V} {ls : List (List Nat)}, LsAt H us ls → LsAt H' us ls
  | _, _, .nil => .nil
  | _, _, .cons ⟨b, e, h⟩ r => .cons ⟨b, e, h.same s⟩ (LsAt.same s r)
theorem LsAt.get {H : Hp} : ∀ {us : List V} {ls : List (List Nat)}, LsAt H us ls → ∀ (i : Nat) (h : i < ls.length), ∃ b, us[i]? = some (.ref b) ∧ SeqH H b (ls[i].map vN)
  | _, _, .nil, i, h => absurd h (by simp)
  | _, _, .cons ⟨b, e, h⟩ r, 0, _ => ⟨b, congrArg some e, h⟩
  | _, _, .cons _ r, i + 1, h => LsAt.get r i (by simpa using h)
/-- lists of persons of n, each in one, none bare -/
structure Part (n : Nat) (ls : List (List Nat)) : Prop where
  few : n ≤ 60
  bare : ∀ l ∈ ls, l ≠ []
  once : ls.flatten.Nodup
  all : ∀ p, p ∈ ls.flatten ↔ p < n
theorem nodup_lenN : ∀ {l m : List Nat}, l.Nodup → (∀ x ∈ l, x ∈ m) → l.length ≤ m.length
  | [], _, _, _ => Nat.zero_le _
  | x :: r, m, h, s => by
    have hx := s x List.mem_cons_self
    obtain ⟨h1, h2⟩ := List.nodup_cons.mp h
    have := nodup_lenN (l := r) (m := m.erase x) h2 fun y hy => (List.mem_erase_of_ne (fun e : y = x => h1 (by rw [← e]; exact hy))).mpr (s y (List.mem_cons_of_mem _ hy))
    rw [List.length_erase_of_mem hx] at this
    have := List.length_pos_of_mem hx
    rw [List.length_cons]
    omega
theorem Part.count {n : Nat} {ls : List (List Nat)} (h : Part n ls) : ls.flatten.length = n := by
  have h1 := nodup_lenN h.once fun x hx => List.mem_range.mpr ((h.all x).mp hx)
  have h2 := nodup_lenN (List.nodup_range (n := n)) fun x hx => (h.all x).mpr (List.mem_range.mp hx)
  rw [List.length_range] at h1 h2
  omega
theorem flat_len : ∀ (ls : List (List Nat)), (∀ l ∈ ls, l ≠ []) → ls.length ≤ ls.flatten.length
  | [], _ => Nat.le_refl _
  | l :: r, h => by
    have := flat_len r fun x hx => h x (List.mem_cons_of_mem _ hx)
    have := List.length_pos_iff.mpr (h l List.mem_cons_self)
    rw [List.flatten_cons, List.length_append, List.length_cons]
    omega
theorem Part.len {n : Nat} {ls : List (List Nat)} (h : Part n ls) : ls.length ≤ n := by
  have := flat_len ls h.bare
  rw [h.count] at this
  exact this
theorem Part.inner {n : Nat} {ls : List (List Nat)} (h : Part n ls) {i : Nat} (hi : i < ls.length) : ls[i].length ≤ n ∧ ∀ p ∈ ls[i], p < n := by
  have sub : ∀ p ∈ ls[i], p ∈ ls.flatten := fun p hp => List.mem_flatten.mpr ⟨_, List.getElem_mem hi, hp⟩
  refine ⟨?_, fun p hp => (h.all p).mp (sub p hp)⟩
  rw [← h.count]
  exact nodup_lenN ((List.sublist_flatten_of_mem (List.getElem_mem hi)).nodup h.once) sub
/-- the list that a person is in -/
def wh (ls : List (List Nat)) (p : Nat) : Nat := ls.findIdx fun l => decide (p ∈ l)
theorem wh_at : ∀ {ls : List (List Nat)} {p : Nat}, p ∈ ls.flatten → ∃ h : wh ls p < ls.length, p ∈ ls[wh ls p] := by
  intro ls p hp
  obtain ⟨l, hl, hpl⟩ := List.mem_flatten.mp hp
  have h : wh ls p < ls.length := List.findIdx_lt_length_of_exists ⟨l, hl, decide_eq_true hpl⟩
  exact ⟨h, of_decide_eq_true (List.findIdx_getElem (w := h))⟩
theorem wh_is : ∀ {ls : List (List Nat)} {p i : Nat} (hi : i < ls.length), ls.flatten.Nodup → p ∈ ls[i] → wh ls p = i
  | [], _, _, hi, _, _ => absurd hi (by simp)
  | l :: r, p, 0, _, _, h => by
    unfold wh
    rw [List.findIdx_cons, decide_eq_true (show p ∈ l from h)]
    rfl
  | l :: r, p, i + 1, hi, nd, h => by
    rw [List.flatten_cons] at nd
    obtain ⟨_, nr, dj⟩ := List.nodup_append.mp nd
    have hi' : i < r.length := by simpa using hi
    have h' : p ∈ r[i] := h
    have no : p ∉ l := fun z => dj p z p (List.mem_flatten.mpr ⟨_, List.getElem_mem hi', h'⟩) rfl
    have ih := wh_is hi' nr h'
    unfold wh at ih ⊢
    rw [List.findIdx_cons, decide_eq_false no, ih]
    rfl
/-- the persons of the first i lists, and the first j of the next -/
def done (ls : List (List Nat)) (i j : Nat) : List Nat := (ls.take i).flatten ++ (ls.getD i []).take j
theorem done_next {ls : List (List Nat)} {i j : Nat} (hi : i < ls.length) (hj : j < ls[i].length) : done ls i (j + 1) = done ls i j ++ [ls[i][j]] := by
  unfold done
  have e : ls.getD i [] = ls[i] := by rw [List.getD_eq_getElem?_getD, List.getElem?_eq_getElem hi]; rfl
  rw [e, List.take_add_one, List.getElem?_eq_getElem hj, ← List.append_assoc]
  rfl
theorem done_on {ls : List (List Nat)} {i : Nat} (hi : i < ls.length) : done ls i ls[i].length = done ls (i + 1) 0 := by
  unfold done
  have e : ls.getD i [] = ls[i] := by rw [List.getD_eq_getElem?_getD, List.getElem?_eq_getElem hi]; rfl
  rw [e, List.take_length, List.take_zero, List.append_nil, List.take_add_one, List.getElem?_eq_getElem hi, List.flatten_append]
  simp
theorem done_end {ls : List (List Nat)} : done ls ls.length 0 = ls.flatten := by
  unfold done
  rw [List.take_length, List.take_zero, List.append_nil]
theorem done_cut {ls : List (List Nat)} {i : Nat} (hi : i < ls.length) (j : Nat) : ∃ more, ls.flatten = done ls i j ++ more := by
  unfold done
  have e : ls.getD i [] = ls[i] := by rw [List.getD_eq_getElem?_getD, List.getElem?_eq_getElem hi]; rfl
  rw [e]
  refine ⟨ls[i].drop j ++ (ls.drop (i + 1)).flatten, ?_⟩
  conv => lhs; rw [← List.take_append_drop i ls, List.drop_eq_getElem_cons hi]
  rw [List.flatten_append, List.flatten_cons, List.append_assoc, ← List.append_assoc (ls[i].take j), List.take_append_drop]
theorem done_new {ls : List (List Nat)} {i j : Nat} (hi : i < ls.length) (hj : j < ls[i].length) (nd : ls.flatten.Nodup) : ls[i][j] ∉ done ls i j := by
  obtain ⟨more, e⟩ := done_cut hi (j + 1)
  rw [e, done_next hi hj, List.append_assoc] at nd
  intro z
  exact (List.nodup_append.mp nd).2.2 _ z _ List.mem_cons_self rfl
/-! ### the dict of who is in which -/
def WhD (ls : List (List Nat)) (ps : List Nat) (kvs : List (Key × V)) : Prop := kvs.length = ps.length ∧ ∀ p : Nat, valV kvs (Sum.inl (p : Int)) = if p ∈ ps then some (vN (wh ls p)) else none
theorem WhD.nil {ls : List (List Nat)} : WhD ls [] [] := ⟨rfl, fun p => by rw [if_neg (by simp)]; rfl⟩
theorem WhD.put {ls : List (List Nat)} {ps : List Nat} {kvs : List (Key × V)} {p : Nat} (h : WhD ls ps kvs) (hp : p ∉ ps) : WhD ls (ps ++ [p]) (putK kvs (Sum.inl (p : Int)) (vN (wh ls p))) := by
  obtain ⟨h1, h2⟩ := h
  have n := h2 p
  rw [if_neg hp] at n
  have e : putK kvs (Sum.inl (p : Int)) (vN (wh ls p)) = kvs ++ [(Sum.inl (p : Int), vN (wh ls p))] := by
    unfold putK
    rw [valV_any, n]
    rfl
  rw [e]
  refine ⟨by rw [List.length_append, List.length_append, h1]; rfl, fun q => ?_⟩
  rw [valV_snoc _ _ _ _ n]
  by_cases c : q = p
  · subst c
    rw [if_pos rfl, if_pos (by simp)]
  · have c' : ¬ (Sum.inl (q : Int) : Key) = Sum.inl (p : Int) := fun z => c (by have := Sum.inl.inj z; omega)
    rw [if_neg c', h2 q]
    by_cases d : q ∈ ps
    · rw [if_pos d, if_pos (by simp [d])]
    · rw [if_neg d, if_neg (by simp [d, c])]
end Lh

namespace Lh
open PySem PySem.Spec PyProof.Rows L2
/-! ### zip of two things of any kinds: lists, tuples, texts -/
/-- a thing u that is walked: what it holds by the abstract heap, how its iterator stands -/
structure Src (u : Value) (At : Hp → List V → Prop) (ist : Addr → Nat → Heap → Prop) : Prop where
  start : ∀ {X : Cx} {pins : List (Addr × Obj)} {σ : L2.St} {H : Hp} {s : Shared} {xs : List V}, Inv X pins σ H s → At H xs → ∃ o G, Begins u o G ∧ G s.heap ∧ ∀ it h, h.get? it = some o → ist it 0 h
  inj : ∀ {X : Cx} {pins : List (Addr × Obj)} {σ : L2.St} {H : Hp} {s : Shared} {xs ys : List V}, Inv X pins σ H s → At H xs → At H ys → xs = ys
  has : ∀ {it n h}, ist it n h → ∃ o, h.get? it = some o ∧ ∀ v, o.data ≠ .cell v
  keep : ∀ {it n h h'}, ist it n h → (∀ o, h.get? it = some o → h'.get? it = some o) → ist it n h'
  draw : ∀ {X : Cx} {pins : List (Addr × Obj)} {σ : L2.St} {H : Hp} {s : Shared} {xs : List V} (it : Addr), Inv X pins σ H s → At H xs → H it = none → X.A.handled = none →
    ∃ (fp : List Addr) (Pv : Nat → Value → Prop) (St : Nat → Heap → Prop), Draws X.prog X.w X.A.in1 it fp xs.length Pv St ∧ it ∈ fp ∧ (∀ b ∈ fp, b = it ∨ ∃ o, H b = some o) ∧ (∀ n v, n < xs.length → Pv n v → ∃ x, xs[n]? = some x ∧ RelV x v) ∧
      (∀ n, ist it n s.heap → St n s.heap) ∧ ∀ n h, St n h → ist it n h
theorem src_tup (a : Addr) : Src (.ref a) (fun H xs => TupAt H a xs) (fun it n h => h.IsTupleIter it a n) where
  start := fun I h => by
    obtain ⟨its, rv, p, _⟩ := I.tuple (h.sq)
    exact ⟨_, _, begins_tuple a its.toArray, p, fun it h' e => ⟨_, e, rfl, rfl⟩⟩
  inj := fun I h1 h2 => I.tuple_inj h1.sq h2.sq
  has := fun ⟨o, e, _, d⟩ => ⟨o, e, fun v z => by rw [d] at z; cases z⟩
  keep := fun h k => h.at fun o e => k o e
  draw := fun {X pins σ H s xs} it I h n0 hh => by
    obtain ⟨its, rv, p, _⟩ := I.tuple (h.sq)
    have ea : ∃ o, H a = some o := by
      rcases h with h | ⟨o, _, h⟩
      · exact ⟨_, h⟩
      · exact ⟨_, h⟩
    have ne : a ≠ it := fun z => by
      obtain ⟨o, e⟩ := ea
      rw [z, n0] at e
      cases e
    have len : its.toArray.size = xs.length := by rw [List.size_toArray, ← rv.length]
    refine ⟨[it, a], _, _, len ▸ Draws.tuple (A := X.A.in1) hh it a ne its.toArray, by simp, fun b hb => ?_, fun n v hn hv => ?_, fun n hi => ⟨hi, p⟩, fun n h' hs => hs.1⟩
    · rcases (show b = it ∨ b = a by simpa using hb) with rfl | rfl
      · exact .inl rfl
      · exact .inr ea
    · obtain ⟨u, e1, e2⟩ := rv.get (List.getElem?_eq_getElem hn)
      have e1' : its.toArray[n]? = some u := by simpa using e1
      have hv' : its.toArray[n]? = some v := hv
      cases e1'.symm.trans hv'
      exact ⟨_, List.getElem?_eq_getElem hn, e2⟩
theorem src_list (a : Addr) : Src (.ref a) (fun H xs => H a = some (.lst xs)) (fun it n h => h.IsListIter it a n) where
  start := fun I h => by
    obtain ⟨its, rv, p, _⟩ := I.list (.inl (.inl h))
    exact ⟨_, _, begins_list a its.toArray, p.isList, fun it h' e => ⟨_, e, rfl, rfl⟩⟩
  inj := fun I h1 h2 => by
    have := h1.symm.trans h2
    cases this
    rfl
  has := fun ⟨o, e, _, d⟩ => ⟨o, e, fun v z => by rw [d] at z; cases z⟩
  keep := fun h k => h.at fun o e => k o e
  draw := fun {X pins σ H s xs} it I h n0 hh => by
    obtain ⟨its, rv, p, _⟩ := I.list (.inl (.inl h))
    have ne : a ≠ it := ne_of_none h n0
    have len : its.toArray.size = xs.length := by rw [List.size_toArray, ← rv.length]
    refine ⟨[it, a], _, _, len ▸ Draws.list (A := X.A.in1) hh it a ne its.toArray, by simp, fun b hb => ?_, fun n v hn hv => ?_, fun n hi => ⟨hi, p.isList⟩, fun n h' hs => hs.1⟩
    · rcases (show b = it ∨ b = a by simpa using hb) with rfl | rfl
      · exact .inl rfl
      · exact .inr ⟨_, h⟩
    · obtain ⟨u, e1, e2⟩ := rv.get (List.getElem?_eq_getElem hn)
      have e1' : its.toArray[n]? = some u := by simpa using e1
      have hv' : its.toArray[n]? = some v := hv
      cases e1'.symm.trans hv'
      exact ⟨_, List.getElem?_eq_getElem hn, e2⟩
theorem src_text (x : Str) (t : Tok) : Src (.str x t) (fun _ xs => xs = x.cps.toList.map fun c => V.str ⟨#[c]⟩) (fun it n h => h.IsStrIter it (strIterType x) x t n) where
  start := fun I h => ⟨_, _, begins_text x t, trivial, fun it h' e => ⟨_, e, rfl, rfl⟩⟩
  inj := fun I h1 h2 => h1.trans h2.symm
  has := fun ⟨o, e, _, d⟩ => ⟨o, e, fun v z => by rw [d] at z; cases z⟩
  keep := fun ⟨o, e, r⟩ k => ⟨o, k o e, r⟩
  draw := fun {X pins σ H s xs} it I h n0 hh => by
    subst h
    have len : x.cps.size = (x.cps.toList.map fun c => V.str ⟨#[c]⟩).length := by simp
    refine ⟨[it], _, _, len ▸ Draws.text (A := X.A.in1) hh it x t, by simp, fun b hb => .inl (by simpa using hb), fun n v hn hv => ?_, fun n hi => hi, fun n h' hs => hs⟩
    obtain ⟨c, u, e, rfl⟩ := hv
    refine ⟨.str ⟨#[c]⟩, ?_, ⟨u, rfl⟩⟩
    rw [List.getElem?_map, Array.getElem?_toList, e]
    rfl
/-- the two as they stand at each turn, the items in new pairs -/
def ItzM (A1 A2 : Hp → List V → Prop) : It :=
  ⟨fun n H => ∃ (xs ys : List V), A1 H xs ∧ A2 H ys ∧ n < xs.length ∧ n < ys.length,
    fun n H v H' => ∃ T x y, v = .ref T ∧ H T = none ∧ H' = upd H T (.tup [x, y]) ∧ (∀ xs, A1 H xs → xs[n]? = some x) ∧ ∀ ys, A2 H ys → ys[n]? = some y,
    fun n H => ∃ xs ys : List V, A1 H xs ∧ A2 H ys ∧ n ≤ xs.length ∧ n ≤ ys.length ∧ (n = xs.length ∨ n = ys.length)⟩
theorem walk_zipX {A1 A2 : Hp → List V → Prop} {xs ys : List V} {n : Nat} (h : n = min xs.length ys.length) : Walk (ItzM A1 A2) n (fun H => A1 H xs ∧ A2 H ys) (YPair (fun i => xs[i]?) (fun i => ys[i]?)) := by
  subst h
  refine ⟨fun i _ hi q => ⟨xs, ys, q.1, q.2, by omega, by omega⟩, fun _ q => ⟨xs, ys, q.1, q.2, by omega, by omega, by omega⟩, ?_⟩
  rintro i H v H' _ q ⟨T, x, y, h1, h2, h3, h4, h5⟩
  exact ⟨T, x, y, h1, h2, h3, h4 xs q.1, h5 ys q.2⟩
section
variable {P : Program} {w : World} {K : PySem.W.Frag} {elts : List Expr} {kk : Nat} {tpos : Pos} {u1 u2 : Value} {A1 A2 : Hp → List V → Prop} {t1 t2 : Addr → Nat → Heap → Prop} {z TI TO i1 i2 : Addr}
theorem sep_of {H : Hp} {f1 f2 : List Addr} (nd : [z, TI, TO, i1, i2].Nodup) (fz : ∀ b ∈ [z, TI, TO, i1, i2], H b = none) (m1 : i1 ∈ f1) (o1 : ∀ b ∈ f1, b = i1 ∨ ∃ o, H b = some o) (m2 : i2 ∈ f2) (o2 : ∀ b ∈ f2, b = i2 ∨ ∃ o, H b = some o) :
    ZipSep2 z TI TO i1 i2 f1 f2 := by
  simp only [List.nodup_cons, List.mem_cons, List.not_mem_nil, or_false, not_or] at nd
  obtain ⟨⟨a1, a2, a3, a4⟩, ⟨a5, a6, a7⟩, ⟨a8, a9⟩, a10, _⟩ := nd
  have no1 : ∀ b, b ∈ [z, TI, TO, i1, i2] → b ≠ i1 → b ∉ f1 := fun b hb n hm => (o1 b hm).elim n fun ⟨o, e⟩ => by rw [fz b hb] at e; cases e
  have no2 : ∀ b, b ∈ [z, TI, TO, i1, i2] → b ≠ i2 → b ∉ f2 := fun b hb n hm => (o2 b hm).elim n fun ⟨o, e⟩ => by rw [fz b hb] at e; cases e
  exact { TIz := Ne.symm a1, TOz := Ne.symm a2, TITO := a5, TIi1 := a6, mem1 := m1, zf1 := no1 _ (by simp) a3, Tf1 := no1 _ (by simp) a8, TIi2 := a7, mem2 := m2, zf2 := no2 _ (by simp) a4, Tf2 := no2 _ (by simp) a9, sep1_2 := no2 _ (by simp) a10, sep2_1 := no1 _ (by simp) (Ne.symm a10) }
set_option maxHeartbeats 2000000 in
theorem turn_zipM (S1 : Src u1 A1 t1) (S2 : Src u2 A2 t2) (nd : [z, TI, TO, i1, i2].Nodup) :
    Turn P w K (.Tuple elts kk tpos) (ItzM A1 A2) [z, TI, TO, i1, i2] z (fun n h => IsZip h z TI TO .none ∧ IsTupOf2 h TI (.ref i1) (.ref i2) ∧ (∃ x y, IsTupOf2 h TO x y) ∧ t1 i1 n h ∧ t2 i2 n h) where
  mem := by simp
  obj := fun n h st c hc => by
    obtain ⟨hz, hI, ⟨x, y, hO⟩, h1, h2⟩ := st
    rcases (show c = z ∨ c = TI ∨ c = TO ∨ c = i1 ∨ c = i2 by simpa using hc) with rfl | rfl | rfl | rfl | rfl
    · exact ⟨_, hz, fun v q => nomatch q⟩
    · exact ⟨_, hI, fun v q => nomatch q⟩
    · exact ⟨_, hO, fun v q => nomatch q⟩
    · exact S1.has h1
    · exact S2.has h2
  keep := fun n h h' ⟨hz, hI, ⟨x, y, hO⟩, h1, h2⟩ k => ⟨k z (by simp) _ hz, k TI (by simp) _ hI, ⟨x, y, k TO (by simp) _ hO⟩, S1.keep h1 fun o q => k i1 (by simp) o q, S2.keep h2 fun o q => k i2 (by simp) o q⟩
  item := by
    intro X hP hw hK hc n pins s σ H E I hf st go
    subst hP hw hK
    obtain ⟨hz, hI, ⟨x0, y0, hO⟩, h1, h2⟩ := st
    obtain ⟨xs, ys, ax, ay, lx, ly⟩ := go
    have fz := fun b (hb : b ∈ [z, TI, TO, i1, i2]) => (hf b hb).1
    obtain ⟨f1, P1, St1, D1, m1, o1, v1, in1, out1⟩ := S1.draw i1 I ax (fz _ (by simp)) (I.ok.hd hc)
    obtain ⟨f2, P2, St2, D2, m2, o2, v2, in2, out2⟩ := S2.draw i2 I ay (fz _ (by simp)) (I.ok.hd hc)
    have sep := sep_of nd fz m1 o1 m2 o2
    have ltz := Heap.lt_size hz
    refine wpAny_pyNext_zipD2_item sep D1 D2 hz hI hO (in1 n h1) (in2 n h2) lx ly fun p q g tk pv qv gz gO g1 g2 gT gs gk => ⟨_, rfl, wpAny_letOwnedTupleGo_zip (s := { s with heap := g, toks := tk }) gz fun g' gz' sb => ?_⟩
    obtain ⟨x, ex, rx⟩ := v1 n p lx pv
    obtain ⟨y, ey, ry⟩ := v2 n q ly qv
    have gT' : g'.get? s.heap.objs.size = some { cls := .type "tuple", data := .seq #[p, q] } := (sb.2 _ (Nat.ne_of_gt ltz)).trans gT
    have new : ObjOk X.prog X.w (upd H s.heap.objs.size (.tup [x, y])) g' s.heap.objs.size (.tup [x, y]) := ⟨by show 2 ≤ sizeLine; decide, [p, q], .cons rx (.cons ry .nil), ⟨_, gT', rfl, _, rfl⟩⟩
    have J : Inv X pins σ (upd H s.heap.objs.size (.tup [x, y])) { s with heap := g', toks := tk } :=
      I.turnedNew (ch := [z, TI, TO, i1, i2]) (fun b ob nb e => (sb.2 b (fun e' => nb (by simp [e']))).trans (gk b ob (fun e' => nb (by simp [e'])) (fun e' => nb (by simp [e'])) (fun e' => nb (by simp [e'])) (fun e' => nb (by simp [e'])) e)) hf (Nat.le_refl _) new
    have keepz : ∀ {b ob}, b ≠ z → g.get? b = some ob → g'.get? b = some ob := fun n e => (sb.2 _ n).trans e
    refine ⟨.ref s.heap.objs.size, _, J, rfl, ⟨_, x, y, rfl, I.hok.fresh (Nat.le_refl _), rfl, fun l hl => by rw [S1.inj I hl ax]; exact ex, fun l hl => by rw [S2.inj I hl ay]; exact ey⟩, ⟨gz', ?_, ⟨p, q, keepz sep.TOz gO⟩, S1.keep (out1 _ _ g1) fun ob e => keepz sep.zi1.symm e, S2.keep (out2 _ _ g2) fun ob e => keepz sep.zi2.symm e⟩, fun b hb => ?_⟩
    · refine keepz sep.TIz (gk _ _ sep.TIz sep.TITO sep.TIi1 sep.TIi2 hI)
    · have lt : b < s.heap.objs.size := by
        rcases (show b = z ∨ b = TI ∨ b = TO ∨ b = i1 ∨ b = i2 by simpa using hb) with rfl | rfl | rfl | rfl | rfl
        · exact ltz
        · exact Heap.lt_size hI
        · exact Heap.lt_size hO
        · obtain ⟨_, e, _⟩ := S1.has h1; exact Heap.lt_size e
        · obtain ⟨_, e, _⟩ := S2.has h2; exact Heap.lt_size e
      rw [upd_ne (Nat.ne_of_lt lt)]
      exact fz b hb
  done := by
    intro X hP hw hK hc n pins s σ H E I hf st stop
    subst hP hw hK
    obtain ⟨hz, hI, ⟨x0, y0, hO⟩, h1, h2⟩ := st
    obtain ⟨xs, ys, ax, ay, lx, ly, en⟩ := stop
    have fz := fun b (hb : b ∈ [z, TI, TO, i1, i2]) => (hf b hb).1
    obtain ⟨f1, P1, St1, D1, m1, o1, v1, in1, out1⟩ := S1.draw i1 I ax (fz _ (by simp)) (I.ok.hd hc)
    obtain ⟨f2, P2, St2, D2, m2, o2, v2, in2, out2⟩ := S2.draw i2 I ay (fz _ (by simp)) (I.ok.hd hc)
    refine wpAny_pyNext_zipD2_end (sep_of nd fz m1 o1 m2 o2) D1 D2 hz hI hO (in1 n h1) (in2 n h2) lx ly en fun g tk gk => ⟨rfl, I.turnedL (ch := [z, TI, TO, i1, i2]) (fun b ob nb e =>
      gk b ob (fun e' => nb (by simp [e'])) (fun e' => nb (by simp [e'])) (fun e' => nb (by simp [e'])) (fun e' => nb (by simp [e'])) e) hf⟩
  self := fun A n s Q E st h => wpAny_pyIter_zip st.1 h
end
theorem apart5 (n : Nat) : [n + 4, n + 2, n + 3, n, n + 1].Nodup := by
  simp only [List.nodup_cons, List.mem_cons, List.not_mem_nil, or_false, not_or]
  exact ⟨⟨by omega, by omega, by omega, by omega⟩, ⟨by omega, by omega, by omega⟩, ⟨by omega, by omega⟩, by omega, not_false, .nil⟩
theorem le5 (n b : Nat) (h : b ∈ [n + 4, n + 2, n + 3, n, n + 1]) : n ≤ b := by
  simp only [List.mem_cons, List.not_mem_nil, or_false] at h
  omega
/-- zip(e1, e2) -/
def iZipM (P : Program) (w : World) (K : PySem.W.Frag) (ta : TA) : TI := fun σ H R => ta σ H fun vs H1 => ∃ (x y : V) (A1 A2 : Hp → List V → Prop) (xs ys : List V), vs = [x, y] ∧ A1 H1 xs ∧ A2 H1 ys ∧
  (∀ u, RelV x u → ∃ t, Src u A1 t) ∧ (∀ u, RelV y u → ∃ t, Src u A2 t) ∧ R (ItzM A1 A2) H1
theorem pi_zipM {X : Cx} {e e2 : Expr} {ta : TA} {p pos tpos : Pos} {elts : List Expr} {kk : Nat} (hg : Gl X "zip") (hm : X.mg "zip" = none) (ha : PA X [e, e2] ta)
    (hs : starEach [e, e2] X.env = (false, eval e X.env) :: starEach [e2] X.env := by rfl) (hpl : (backTo pos (starEach [e2] X.env)).any (·.1) = false := by rfl) :
    PI X (.Tuple elts kk tpos) (.Call (.Name "zip" p) [e, e2] [] pos) (iZipM X.prog X.w X.K ta) := by
  constructor
  intro pins s σ H R I h
  refine Call_ (ld_blt I hg hm PyProof.Rows.boot_zip (PyProof.Rows.callWith_type1 (thn (ha.run pos pins s σ H _ I h) fun us s1 ⟨vs, H1, I1, r1, x, y, A1, A2, xs, ys, ev, ax, ay, k1, k2, q⟩ => ?_) hs hpl))
  subst ev
  cases r1 with
  | @cons _ u1 _ ur ra r2 =>
  cases r2 with
  | @cons _ u2 _ _ rb r3 =>
  cases r3
  obtain ⟨t1, S1⟩ := k1 u1 ra
  obtain ⟨t2, S2⟩ := k2 u2 rb
  obtain ⟨o1, G1, B1, g1, z1⟩ := S1.start I1 ax
  obtain ⟨o2, G2, B2, g2, z2⟩ := S2.start I1 ay
  refine zip_begins2 B1 B2 g1 g2 fun h' hz hI hO e1 e2 sz hk => wpAny_pyIter_zip hz ?_
  have I2 : Inv X pins σ H1 { s1 with heap := h' } := I1.kept (t' := s1.toks) hk
  refine ⟨_, _, _, _, H1, rfl, I2, turn_zipM S1 S2 (z := s1.heap.objs.size + 4) (TI := s1.heap.objs.size + 2) (TO := s1.heap.objs.size + 3) (i1 := s1.heap.objs.size) (i2 := s1.heap.objs.size + 1) ?_, ⟨hz, hI, ⟨_, _, hO⟩, z1 _ _ e1, z2 _ _ e2⟩, fun b hb => ?_, q⟩
  · exact apart5 _
  · have le : s1.heap.objs.size ≤ b := le5 _ _ hb
    exact I1.fpOk le (I1.hok.fresh le)
end Lh

namespace Lh
open PySem PySem.Spec PyProof.Rows L2
theorem cutV_id (xs : List V) (lo hi : Option Int) : cutV xs lo hi = cutI xs lo hi := by
  have h := cut_map id xs lo hi
  rw [List.map_id, List.map_id] at h
  exact h
theorem sl_tup_use {K : PySem.W.Frag} {H : Hp} {a : Addr} {xs : List V} {lo hi : Option Int} {Q : VK} (h : TupAt H a xs) (q : ∀ (c : Addr) (H' : Hp), Same H H' → TupAt H' c (cutI xs lo hi) → Q (.ref c) H') : rSlA K (.ref a) lo hi H Q := by
  refine ⟨a, xs, rfl, h.sq, fun w => q a H (Same.refl _) ?_, fun _ p np => q p _ (same_upd np) (.inl (by rw [upd_same, cutV_id]))⟩
  have e : cutI xs lo hi = xs := by
    unfold cutI
    rw [w.1, w.2, List.drop_zero, Nat.sub_zero, List.take_length]
  rw [e]; exact h
theorem cat_use {K : PySem.W.Frag} {H : Hp} {a b : Addr} {xs ys : List V} {Q : VK} (ha : TupAt H a xs) (hb : TupAt H b ys) (hz : xs.length + ys.length ≤ sizeLine) (q : ∀ (c : Addr) (H' : Hp), Same H H' → TupAt H' c (xs ++ ys) → Q (.ref c) H') : rCatA K (.ref a) (.ref b) H Q := by
  refine ⟨a, b, xs, ys, rfl, rfl, ha.sq, hb.sq, hz, fun e => q b H (Same.refl _) (by rw [e]; exact hb), fun _ e => q a H (Same.refl _) (by rw [e, List.append_nil]; exact ha), fun _ _ p np => q p _ (same_upd np) (.inl upd_same)⟩
/-- the standing in which p shows v -/
theorem put_at {ns : List Int} {p : Nat} (hp : p < ns.length) (v : V) : cutI (ns.map V.int) none (some (p : Int)) ++ [v] ++ cutI (ns.map V.int) (some ((p : Int) + 1)) none = (ns.map V.int).set p v := by
  rw [cut_to _ _ (by rw [List.length_map]; omega), show (p : Int) + 1 = ((p + 1 : Nat) : Int) by omega, cut_from _ _ (by rw [List.length_map]; omega), List.set_eq_take_append_cons_drop, if_pos (by rw [List.length_map]; exact hp), List.append_assoc]
  rfl
end Lh

namespace Lh
open PySem PySem.Spec PyProof.Rows L2
def sndD : PyData → PyData
  | .tuple (_ :: b :: _) => b
  | _ => .none
def twoB : PyData → Bool
  | .tuple [_, _] => true
  | _ => false
theorem tieB_eq (m : Int) (d : PyData) : tieB m d = (twoB d && (persB m (fstD d) && posB (sndD d))) := by
  cases d with
  | tuple ds =>
    match ds with
    | [] => rfl
    | [_] => rfl
    | [_, _] => rfl
    | _ :: _ :: _ :: _ => rfl
  | _ => rfl
theorem all_and3 {α : Type} (f g h : α → Bool) (xs : List α) : xs.all (fun x => f x && (g x && h x)) = (xs.all f && (xs.all h && xs.all g)) := by
  induction xs with
  | nil => rfl
  | cons x r ih =>
    rw [List.all_cons, List.all_cons, List.all_cons, List.all_cons, ih]
    cases f x <;> cases g x <;> cases h x <;> cases r.all f <;> cases r.all g <;> cases r.all h <;> rfl
theorem ties_eq (m : Int) (ds : List PyData) : tiesB m (.tuple ds) = (ds.all twoB && (ds.all (fun d => posB (sndD d)) && seenB m (.tuple (ds.map fstD)))) := by
  show (ds.all (tieB m) && riseB (ds.map fun d => intOf (fstD d))) = (ds.all twoB && (ds.all (fun d => posB (sndD d)) && ((ds.map fstD).all (persB m) && riseB ((ds.map fstD).map intOf))))
  rw [show tieB m = (fun d => twoB d && (persB m (fstD d) && posB (sndD d))) from funext (tieB_eq m), all_and3, List.all_map, List.map_map, Bool.and_assoc, Bool.and_assoc]
  rfl
theorem two_is {bx : Addr} {H : Hp} {v : V} {d : PyData} (h : Rp bx H v d) (t : twoB d = true) : ∃ (a : Addr) (va vb : V), v = .ref a ∧ TupAt H a [va, vb] ∧ Rp bx H va (fstD d) ∧ Rp bx H vb (sndD d) := by
  cases d with
  | tuple ds =>
    have l2 : ds.length = 2 := by
      match ds, t with
      | [_, _], _ => rfl
    obtain ⟨x, y, rfl⟩ := two_of l2
    cases h with
    | tup ht nb ra =>
      cases ra with
      | cons r1 ra =>
        cases ra with
        | cons r2 ra =>
          cases ra
          exact ⟨_, _, _, rfl, ht, r1, r2⟩
  | _ => exact absurd t Bool.false_ne_true
section
variable {P : Program} {w : World} {K : PySem.W.Frag} {mg : Str → Option Value} {base : Heap}
theorem ok_is_wholeQ (T : Txt K mg w) : FnOk P w K mg base CX0 1 T.f_is_whole T.fd_is_whole p_is_whole spIsNumD := by
  refine T.F_is_whole.ok sc_is_whole (fun vs H Q E h => ?_) (fun cdv A outer s H vs Q E hr h => ?_)
  · obtain ⟨bx, v, d, rfl, _⟩ := h
    rfl
  · obtain ⟨bx, v, d, rfl, hv, q⟩ := h
    refine ⟨_, (pss_one (ps_ret (pe_and (pe_callB call_isi (by rfl) T.m_isinstance (by decide +kernel) (pa_cons (pv 0) (pa_cons (pe_bltn (v := .ty "int") (by rfl) T.m_int (by decide +kernel) rfl) pa_nil))) (pe_and (pe_not (pe_callB call_isi (by rfl) T.m_isinstance (by decide +kernel) (pa_cons (pv 0) (pa_cons (pe_bltn (v := .ty "bool") (by rfl) T.m_bool (by decide +kernel) rfl) pa_nil)))) (pe_one (pe_cmpR op_ge (pv 0) pe_int (nomark _))))))), ?_⟩
    have ty := hv.ty (K := K)
    cases d with
    | int i =>
      cases hv
      refine rd_isi (x := .int i) (T := "int") rfl (.base (.int i)) (by decide +kernel : kitB "int" "int" = some true) ⟨_, rfl, iteP rfl ?_⟩
      refine rd_isi (x := .int i) (T := "int") rfl (.base (.int i)) (by decide +kernel : kitB "int" "bool" = some false) ⟨_, rfl, _, rfl, iteP rfl ?_⟩
      exact ⟨.int i, rfl, i, 0, rfl, rfl, q⟩
    | bool b =>
      refine rd_isi (x := v) (T := "bool") rfl ty (by decide +kernel : kitB "bool" "int" = some true) ⟨_, rfl, iteP rfl ?_⟩
      exact rd_isi (x := v) (T := "bool") rfl ty (by decide +kernel : kitB "bool" "bool" = some true) ⟨_, rfl, _, rfl, iteN rfl q⟩
    | none => exact rd_isi (x := v) (T := "NoneType") rfl ty (by decide +kernel : kitB "NoneType" "int" = some false) ⟨_, rfl, iteN rfl q⟩
    | str x => exact rd_isi (x := v) (T := "str") rfl ty (by decide +kernel : kitB "str" "int" = some false) ⟨_, rfl, iteN rfl q⟩
    | list ds => exact rd_isi (x := v) (T := "list") rfl ty (by decide +kernel : kitB "list" "int" = some false) ⟨_, rfl, iteN rfl q⟩
    | tuple ds => exact rd_isi (x := v) (T := "tuple") rfl ty (by decide +kernel : kitB "tuple" "int" = some false) ⟨_, rfl, iteN rfl q⟩
    | _ => cases hv
def spLawRises : Sp := fun vs H Q _ => ∃ (a : Addr) (ns : List Int), vs = [.ref a] ∧ TupAt H a (ns.map V.int) ∧ ns.length ≤ 1000 ∧ ∀ H', Same H H' → Q (.bl (riseB ns)) H'
set_option maxHeartbeats 1000000 in
theorem ok_law_rises (T : Txt K mg w) : FnOk P w K mg base CX0 1 T.f_law_rises T.fd_law_rises p_law_rises spLawRises := by
  refine T.F_law_rises.ok sc_law_rises (fun vs H Q E h => ?_) (fun cdv A outer s H vs Q E hr h => ?_)
  · obtain ⟨a, ns, rfl, _⟩ := h
    rfl
  · obtain ⟨a, ns, rfl, ht, hl, q⟩ := h
    refine ⟨_, (pss_one (ps_ret (pe_callB (cr_all rfl) (by rfl) T.m_all (by decide +kernel) (pa_cons (pe_lc (own := [("_law_k", 1)]) (g := gName 1) (by rfl) sc_law_rises.nd (pi_range1 (by rfl) T.m_range (pa_cons (pe_op op_sub (pe_callB call_len_seq (by rfl) T.m_len (by decide +kernel) (pa_cons (pv 0) pa_nil)) pe_int) pa_nil)) (blkOk_by (own := [("_law_k", 1)]) (N := n_law_rises) (sc := defScope s_law_rises) (by decide +kernel)) (fun _ _ _ _ _ => (pg_name (i := 1) sc_law_rises.nd rfl (.inl rfl) (.inr rfl))) (fun _ _ _ _ _ => pts_nil) (fun _ _ _ _ _ => (pe_cmpR op_lt (pe_ix (r := rIxT K) ix_tup (pv 0) (pv 1) (fun _ _ => rfl)) (pe_ix (r := rIxT K) ix_tup (pv 0) (pe_op op_add (pv 1) pe_int) (fun _ _ => rfl)) (nomark _)))) pa_nil)))), ?_⟩
    have e0 : (((ns.map V.int).length : Nat) : Int) - 1 = (ns.length : Int) - 1 := by rw [List.length_map]
    refine ⟨.ref a, rfl, a, _, rfl, .inr ht.sq, _, 1, rfl, rfl, _, rfl, ?_, ?_, fun D hD => ?_⟩
    · show -(2 ^ 62) ≤ (((ns.map V.int).length : Nat) : Int) - 1
      rw [e0]; omega
    · show (((ns.map V.int).length : Nat) : Int) - 1 < 2 ^ 62
      rw [e0]; omega
    have en : ((((ns.map V.int).length : Nat) : Int) - 1).toNat = ns.length - 1 := by rw [e0]; omega
    rw [en]
    refine lc_map walk_range (fun i : Nat => .bl (decide (nth ns i < nth ns (i + 1 : Nat)))) hD (by omega) (fun _ _ => trivial) ?_ ?_
    · rintro i v H3 H4 hi s3 ⟨rfl, rfl⟩ Q' Z hQ
      have h3 := ht.keep (Keep.same s3)
      have a1 : (ns.map V.int)[i]? = some (V.int (nth ns (i : Nat))) := by rw [List.getElem?_map, List.getElem?_eq_getElem (by omega), nth_getE (by omega)]; rfl
      have a2 : (ns.map V.int)[i + 1]? = some (V.int (nth ns (i + 1 : Nat))) := by rw [List.getElem?_map, List.getElem?_eq_getElem (by omega), nth_getE (by omega)]; rfl
      simp only [Int.zero_add]
      refine ⟨rfl, yes (iteT ⟨.ref a, rfl, .int (i : Int), rfl, a, _, _, _, rfl, rfl, h3.sq, atI_nat (j := i) a1, .ref a, rfl, .int (i : Int), rfl, _, _, rfl, rfl, a, _, _, _, rfl, rfl, h3.sq, atI_nat (j := i + 1) a2, _, _, rfl, rfl, hQ _ (Same.refl _)⟩)⟩
    · intro H3 s3 h3
      refine ⟨D, adjL ns, rfl, .inl (.inl (by rw [h3]; unfold adjL; rw [List.map_map]; rfl)), ?_⟩
      rw [adj_all]
      exact q H3 s3
def spIsSeenQ : Sp := fun vs H Q _ => ∃ (bx : Addr) (m : Int) (v : V) (d : PyData), vs = [v, .int m] ∧ Rp bx H v d ∧ (∀ ds, d = .tuple ds → ds.length ≤ 1000) ∧ ∀ H', Same H H' → Q (.bl (seenB m d)) H'
set_option maxHeartbeats 1000000 in
theorem ok_is_seenQ (T : Txt K mg w) : FnOk P w K mg base CX0 2 T.f_is_seen T.fd_is_seen p_is_seen spIsSeenQ := by
  have G_is_whole := ok_is_wholeQ (P := P) (w := w) (base := base) T
  have G_law_rises := ok_law_rises (P := P) (w := w) (base := base) T
  refine T.F_is_seen.ok sc_is_seen (fun vs H Q E h => ?_) (fun cdv A outer s H vs Q E hr h => ?_)
  · obtain ⟨bx, m, v, d, rfl, _⟩ := h
    rfl
  · obtain ⟨bx, m, v, d, rfl, hv, hl, q⟩ := h
    refine ⟨_, (pss_cons (ps_if (PW.pt (pw_or (pt_not (pt_val (pe_callB call_isi (by rfl) T.m_isinstance (by decide +kernel) (pa_cons (pv 0) (pa_cons (pe_bltn (v := .ty "tuple") (by rfl) T.m_tuple (by decide +kernel) rfl) pa_nil))))) (pw_or1 (pt_not (pt_val (pe_callB (cr_all rfl) (by rfl) T.m_all (by decide +kernel) (pa_cons (pe_lc (own := [("_law_one", 2)]) (g := gName 2) (by rfl) sc_is_seen.nd (pi_tup (pv 0)) (blkOk_by (own := [("_law_one", 2)]) (N := n_is_seen) (sc := defScope s_is_seen) (by decide +kernel)) (fun _ _ _ _ _ => (pg_name (i := 2) sc_is_seen.nd rfl (.inl rfl) (.inr rfl))) (fun _ _ _ _ _ => pts_nil) (fun _ _ _ _ _ => (pe_and (pe_call G_is_whole (hr.mono (by decide)) (by rfl) T.g_is_whole T.F_is_whole.kp T.b_is_whole .nil pass0 (pa_cons (pv 2) pa_nil)) (pe_one (pe_cmpR op_lt (pv 2) (pv 1) (nomark _)))))) pa_nil)))))))
        (pss_one (ps_ret pe_bl))
        pss_nil)
      (pss_one (ps_ret (pe_call G_law_rises (hr.mono (by decide)) (by rfl) T.g_law_rises T.F_law_rises.kp T.b_law_rises .nil pass0 (pa_cons (pv 0) pa_nil))))), ?_⟩
    obtain ⟨t, ty, ⟨⟨ds, rfl⟩, kt⟩ | ⟨nt, kt⟩⟩ := ty_tup (K := K) hv
    · cases hv with
      | tup ht nb ra =>
        rename_i a xs
        have hl' := hl ds rfl
        have lx : xs.length = ds.length := ra.length
        refine rd_isi (x := .ref a) (T := t) rfl ty kt ⟨_, rfl, iteN rfl ?_⟩
        refine ⟨.ref a, rfl, a, rfl, ⟨_, ht.sq⟩, fun D hD => ?_⟩
        refine lc_map (walk_tup (xs := xs)) (fun j => .bl (persB m (ds.getD j .none))) hD (by omega) (fun H3 s3 => (ht.keep (Keep.same s3)).sq) ?_ ?_
        · rintro j y H3 H4 hj s3 ⟨rfl, hy⟩ Q' Z hQ
          obtain ⟨dj, e1, e2⟩ := ra.at hy
          refine ⟨rfl, yes (iteT ?_)⟩
          rw [List.getD_eq_getElem?_getD, e1] at hQ
          have e3 := e2.ext (Ext.of s3)
          have hQ0 := hQ _ (Same.refl _)
          refine ⟨y, rfl, bx, y, dj, rfl, e3, _, rfl, ite2 (fun c => ?_) (fun c => ?_)⟩
          · cases dj with
            | int i =>
              cases e3
              have c' : decide (0 ≤ i) = true := c
              refine ⟨_, rfl, _, rfl, i, m, rfl, rfl, blC ?_ hQ0⟩
              show decide (i < m) = (decide (0 ≤ i) && decide (i < m))
              rw [c', Bool.true_and]
            | _ => exact absurd c Bool.false_ne_true
          · refine blC ?_ hQ0
            show false = persB m dj
            cases dj with
            | int i =>
              have c' : decide (0 ≤ i) = false := Bool.eq_false_iff.mpr c
              show false = (decide (0 ≤ i) && decide (i < m))
              rw [c', Bool.false_and]
            | _ => rfl
        · intro H3 s3 h3
          rw [lx] at h3
          refine ⟨D, ds.map (persB m), rfl, .inl (.inl (by rw [h3, List.map_map]; exact congrArg (fun z => some (HO.lst z)) (range_getD2 (fun d => V.bl (persB m d)) .none ds))), ?_⟩
          rw [List.all_map, show (id ∘ persB m) = persB m from rfl]
          have eS : seenB m (.tuple ds) = (ds.all (persB m) && riseB (ds.map intOf)) := rfl
          refine ⟨_, rfl, ite2 (fun c => ?_) (fun c => ?_)⟩
          · have c' : ds.all (persB m) = false := by
              cases e : ds.all (persB m) with
              | false => rfl
              | true => rw [e] at c; exact absurd c (by decide)
            have := q H3 s3
            rw [eS, c', Bool.false_and] at this
            exact this
          · have c' : ds.all (persB m) = true := by
              cases e : ds.all (persB m) with
              | false => rw [e] at c; exact absurd rfl c
              | true => rfl
            obtain ⟨e, al⟩ := pers_ints c'
            have hi : TupAt H3 a ((ds.map intOf).map V.int) := by
              have := RpAll.ofInts (H := H) (bx := bx) (ns := ds.map intOf) (vs := xs) (by rw [← e]; exact ra)
              rw [← this]
              exact ht.keep (Keep.same s3)
            refine ⟨.ref a, rfl, a, ds.map intOf, rfl, hi, by rw [List.length_map]; exact hl', fun H4 s4 => ?_⟩
            have := q H4 (s3.trans s4)
            rw [eS, c', Bool.true_and] at this
            exact this
    · have := q H (Same.refl H)
      rw [(not_tup nt m).2.2] at this
      exact rd_isi (x := v) (T := t) rfl ty kt ⟨_, rfl, iteP rfl (iteP rfl this)⟩
end
end Lh

namespace Lh
open PySem PySem.Spec PyProof.Rows L2
def markS (p : Str) : Str := if p = "number" then "n" else if p = "ties" then "t" else "s"
def shapeS : Rule → Str
  | .held _ => "n"
  | .sum _ _ => "nt"
  | .cap _ _ _ => "ntn"
  | .kinds _ _ => "ns"
  | .next _ => "s"
  | .free _ => "s"
theorem nopart_use {σ : L2.St} {H : Hp} {R : Option Int → Hp → Prop} (h : R none H) : tNoPart σ H R := h
theorem sm1 : (("n" : Str).cps.toList.map fun c => V.str ⟨#[c]⟩) = (["number"] : List Str).map fun p => V.str (markS p) := by decide +kernel
theorem sm2 : (("nt" : Str).cps.toList.map fun c => V.str ⟨#[c]⟩) = (["number", "ties"] : List Str).map fun p => V.str (markS p) := by decide +kernel
theorem sm3 : (("ntn" : Str).cps.toList.map fun c => V.str ⟨#[c]⟩) = (["number", "ties", "number"] : List Str).map fun p => V.str (markS p) := by decide +kernel
theorem sm4 : (("ns" : Str).cps.toList.map fun c => V.str ⟨#[c]⟩) = (["number", "seen"] : List Str).map fun p => V.str (markS p) := by decide +kernel
theorem sm5 : (("s" : Str).cps.toList.map fun c => V.str ⟨#[c]⟩) = (["seen"] : List Str).map fun p => V.str (markS p) := by decide +kernel
theorem shape_marks : ∀ r : Rule, ((shapeS r).cps.toList.map fun c => V.str ⟨#[c]⟩) = (partsOf r).map fun p => V.str (markS p)
  | .held _ => sm1
  | .sum _ _ => sm2
  | .cap _ _ _ => sm3
  | .kinds _ _ => sm4
  | .next _ => sm5
  | .free _ => sm5
theorem shape_len (r : Rule) : (shapeS r).length = (partsOf r).length := by
  have := congrArg List.length (shape_marks r)
  rw [List.length_map, List.length_map] at this
  rw [← this, Array.length_toList]
  rfl
def shK : List (Key × V) := [(.inr "held", .str "n"), (.inr "sum", .str "nt"), (.inr "cap", .str "ntn"), (.inr "kinds", .str "ns"), (.inr "next", .str "s"), (.inr "free", .str "s")]
theorem word_all {x : Str} (h : x ∈ wds) : (x = "" ∧ partsW x = none ∧ valV (mergeK [] shK) (Sum.inr x : Key) = none) ∨ ∃ r : Rule, x = wordOf r ∧ partsW x = some (partsOf r) ∧ valV (mergeK [] shK) (Sum.inr x : Key) = some (.str (shapeS r)) := by
  unfold wds at h
  simp only [List.mem_cons, List.not_mem_nil, or_false] at h
  rcases h with rfl | rfl | rfl | rfl | rfl | rfl | rfl
  · exact .inl ⟨rfl, by decide +kernel, by decide +kernel⟩
  · exact .inr ⟨.sum 0 [], rfl, by decide +kernel, by decide +kernel⟩
  · exact .inr ⟨.held 0, rfl, by decide +kernel, by decide +kernel⟩
  · exact .inr ⟨.free [], rfl, by decide +kernel, by decide +kernel⟩
  · exact .inr ⟨.cap 0 [] 0, rfl, by decide +kernel, by decide +kernel⟩
  · exact .inr ⟨.kinds 0 [], rfl, by decide +kernel, by decide +kernel⟩
  · exact .inr ⟨.next [], rfl, by decide +kernel, by decide +kernel⟩
theorem isE_iff {ds : List PyData} : ds.isEmpty = true ↔ ds = [] := by cases ds <;> simp
theorem eqv_bareQ (es : List PyData) : PyData.eqv (.tuple es) (.tuple []) = es.isEmpty := by
  cases es <;> rfl
theorem part_is : ∀ (r : Rule) (p : Str), p ∈ partsOf r → p = "number" ∨ p = "ties" ∨ p = "seen"
  | .held _, p, h => by simp [partsOf] at h; exact .inl h
  | .sum _ _, p, h => by simp [partsOf] at h; exact h.imp_right .inl
  | .cap _ _ _, p, h => by simp [partsOf] at h; rcases h with h | h | h <;> simp [h]
  | .kinds _ _, p, h => by simp [partsOf] at h; exact h.imp_right .inr
  | .next _, p, h => by simp [partsOf] at h; exact .inr (.inr h)
  | .free _, p, h => by simp [partsOf] at h; exact .inr (.inr h)
section
variable {P : Program} {w : World} {K : PySem.W.Frag} {mg : Str → Option Value} {base : Heap}
def spIsTiesQ : Sp := fun vs H Q _ => ∃ (bx : Addr) (c m : Int) (v : V) (d : PyData), vs = [v, .int m] ∧ Box bx c H ∧ Rp bx H v d ∧ (∀ ds, d = .tuple ds → ds.length ≤ 1000) ∧ ∀ H', Same H H' → Q (.bl (tiesB m d)) H'
set_option maxHeartbeats 4000000 in
theorem ok_is_tiesQ (T : Txt K mg w) : FnOk P w K mg base CX0 3 T.f_is_ties T.fd_is_ties p_is_ties spIsTiesQ := by
  have G_is_whole := ok_is_wholeQ (P := P) (w := w) (base := base) T
  have G_is_seen := ok_is_seenQ (P := P) (w := w) (base := base) T
  refine T.F_is_ties.ok sc_is_ties (fun vs H Q E h => ?_) (fun cdv A outer s H vs Q E hr h => ?_)
  · obtain ⟨bx, c, m, v, d, rfl, _⟩ := h
    rfl
  · obtain ⟨bx, c, m, v, d, rfl, hB, hv, hl, q⟩ := h
    refine ⟨_, (pss_cons (ps_if (PW.pt (pw_or (pt_not (pt_val (pe_callB call_isi (by rfl) T.m_isinstance (by decide +kernel) (pa_cons (pv 0) (pa_cons (pe_bltn (v := .ty "tuple") (by rfl) T.m_tuple (by decide +kernel) rfl) pa_nil))))) (pw_or1 (pt_not (pt_val (pe_callB (cr_all rfl) (by rfl) T.m_all (by decide +kernel) (pa_cons (pe_lc (own := [("_law_tie", 2)]) (g := gName 2) (by rfl) sc_is_ties.nd (pi_tup (pv 0)) (blkOk_by (own := [("_law_tie", 2)]) (N := n_is_ties) (sc := defScope s_is_ties) (by decide +kernel)) (fun _ _ _ _ _ => (pg_name (i := 2) sc_is_ties.nd rfl (.inl rfl) (.inr rfl))) (fun _ _ _ _ _ => pts_nil) (fun _ _ _ _ _ => (pe_and (pe_callB (id := "isinstance") (r := rIsi K) call_isi (by rfl) T.m_isinstance (by decide +kernel) (pa_cons (pv 2) (pa_cons (pe_bltn (v := .ty "tuple") (by rfl) T.m_tuple (by decide +kernel) rfl) pa_nil))) (pe_one (pe_cmpR op_eq (pe_callB (id := "len") (r := rLenQ K) call_len_seq (by rfl) T.m_len (by decide +kernel) (pa_cons (pv 2) pa_nil)) pe_int (nomark _)))))) pa_nil)))))))
        (pss_one (ps_ret pe_bl))
        pss_nil)
      (pss_cons (ps_if (pt_not (pt_val (pe_callB (cr_all rfl) (by rfl) T.m_all (by decide +kernel) (pa_cons (pe_lc (own := [("_law_tie", 2)]) (g := gName 2) (by rfl) sc_is_ties.nd (pi_tup (pv 0)) (blkOk_by (own := [("_law_tie", 2)]) (N := n_is_ties) (sc := defScope s_is_ties) (by decide +kernel)) (fun _ _ _ _ _ => (pg_name (i := 2) sc_is_ties.nd rfl (.inl rfl) (.inr rfl))) (fun _ _ _ _ _ => pts_nil) (fun _ _ _ _ _ => (pe_and (pe_call G_is_whole (hr.mono (by decide)) (by rfl) T.g_is_whole T.F_is_whole.kp T.b_is_whole .nil pass0 (pa_cons (pe_ix (r := rIxT K) ix_tup (pv 2) pe_int (fun _ _ => rfl)) pa_nil)) (pe_one (pe_cmpR op_gt (pe_ix (r := rIxT K) ix_tup (pv 2) pe_int (fun _ _ => rfl)) pe_int (nomark _)))))) pa_nil))))
        (pss_one (ps_ret pe_bl))
        pss_nil)
      (pss_one (ps_ret (pe_call G_is_seen (hr.mono (by decide)) (by rfl) T.g_is_seen T.F_is_seen.kp T.b_is_seen .nil pass0 (pa_cons (pe_callTy call_tupleF (by rfl) T.m_tuple (by decide +kernel) (pa_cons (pe_lc (own := [("_law_tie", 2)]) (g := gName 2) (by rfl) sc_is_ties.nd (pi_tup (pv 0)) (blkOk_by (own := [("_law_tie", 2)]) (N := n_is_ties) (sc := defScope s_is_ties) (by decide +kernel)) (fun _ _ _ _ _ => (pg_name (i := 2) sc_is_ties.nd rfl (.inl rfl) (.inr rfl))) (fun _ _ _ _ _ => pts_nil) (fun _ _ _ _ _ => (pe_ix (r := rIxT K) ix_tup (pv 2) pe_int (fun _ _ => rfl)))) pa_nil)) (pa_cons (pv 1) pa_nil))))))), ?_⟩
    obtain ⟨t, ty, ⟨⟨ds, rfl⟩, kt⟩ | ⟨nt, kt⟩⟩ := ty_tup (K := K) hv
    · cases hv with
      | tup ht nb ra =>
        rename_i a xs
        have hl' := hl ds rfl
        have lx : xs.length = ds.length := ra.length
        have eT := ties_eq m ds
        refine rd_isi (x := .ref a) (T := t) rfl ty kt ⟨_, rfl, iteN rfl ?_⟩
        refine ⟨.ref a, rfl, a, rfl, ⟨_, ht.sq⟩, fun D hD => ?_⟩
        refine lc_map (walk_tup (xs := xs)) (fun j => .bl (twoB (ds.getD j .none))) hD (by omega) (fun H3 s3 => (ht.keep (Keep.same s3)).sq) ?_ ?_
        · rintro j y H3 H4 hj s3 ⟨rfl, hy⟩ Q' Z hQ
          obtain ⟨dj, e1, e2⟩ := ra.at hy
          refine ⟨rfl, yes (iteT ?_)⟩
          rw [List.getD_eq_getElem?_getD, e1] at hQ
          have e3 := e2.ext (Ext.of s3)
          have hQ0 := hQ _ (Same.refl _)
          have hQ0 : Q' (.bl (twoB dj)) H4 := hQ0
          obtain ⟨tj, tyj, ⟨⟨es, rfl⟩, kj⟩ | ⟨nj, kj⟩⟩ := ty_tup (K := K) e3
          · cases e3 with
            | tup h2 nb2 r2 =>
              rename_i b ys
              have l2 : ys.length = es.length := r2.length
              refine ⟨.ref b, rfl, _, _, .type tj, .type "tuple", true, rfl, .ty "tuple", tyj, kit_ty kj, _, rfl, iteP rfl ?_⟩
              refine ⟨.ref b, rfl, b, _, rfl, .inr h2.sq, rfl, blC ?_ hQ0⟩
              rw [l2]
              match es with
              | [] => exact decide_eq_false (by intro z; cases z)
              | [_] => exact decide_eq_false (by intro z; cases z)
              | [_, _] => exact decide_eq_true rfl
              | _ :: _ :: _ :: r => exact decide_eq_false (by intro z; have := V.int.inj z; simp at this; omega)
          · have e0 : twoB dj = false := by
              cases dj with
              | tuple es => exact absurd rfl (nj es)
              | _ => rfl
            rw [e0] at hQ0
            exact ⟨y, rfl, _, _, .type tj, .type "tuple", false, rfl, .ty "tuple", tyj, kit_ty kj, _, rfl, iteN rfl hQ0⟩
        intro H3 s3 h3
        rw [lx] at h3
        refine ⟨D, ds.map twoB, rfl, .inl (.inl (by rw [h3, List.map_map]; exact congrArg (fun z => some (HO.lst z)) (range_getD2 (fun d => V.bl (twoB d)) .none ds))), ?_⟩
        rw [List.all_map, show (id ∘ twoB) = twoB from rfl]
        refine ⟨_, rfl, ite2 (fun c => ?_) (fun c => ?_)⟩
        · have c' : ds.all twoB = false := by
            cases e : ds.all twoB with
            | false => rfl
            | true => rw [e] at c; exact absurd c (by decide)
          have := q H3 s3
          rw [eT, c', Bool.false_and] at this
          exact this
        have c' : ds.all twoB = true := by
          cases e : ds.all twoB with
          | false => rw [e] at c; exact absurd rfl c
          | true => rfl
        rw [c', Bool.true_and] at eT
        have two : ∀ x ∈ ds, twoB x = true := List.all_eq_true.mp c'
        have ht3 := ht.keep (Keep.same s3)
        refine ⟨.ref a, rfl, a, rfl, ⟨_, ht3.sq⟩, fun D2 hD2 => ?_⟩
        refine lc_map (walk_tup (xs := xs)) (fun j => .bl (posB (sndD (ds.getD j .none)))) hD2 (by omega) (fun H4 s4 => (ht3.keep (Keep.same s4)).sq) ?_ ?_
        · rintro j y H4 H5 hj s4 ⟨rfl, hy⟩ Q' Z hQ
          obtain ⟨dj, e1, e2⟩ := ra.at hy
          refine ⟨rfl, yes (iteT ?_)⟩
          rw [List.getD_eq_getElem?_getD, e1] at hQ
          have hQ0 : Q' (.bl (posB (sndD dj))) H5 := hQ _ (Same.refl _)
          obtain ⟨b, va, vb, rfl, h2, _, rb⟩ := two_is ((e2.ext (Ext.of s3)).ext (Ext.of s4)) (two dj (List.mem_of_getElem? e1))
          generalize sndD dj = db at hQ0 rb
          refine ⟨.ref b, rfl, b, _, 1, vb, rfl, rfl, h2.sq, rfl, bx, vb, db, rfl, rb, _, rfl, ite2 (fun c => ?_) (fun c => ?_)⟩
          · cases db with
            | int i =>
              cases rb
              refine ⟨.ref b, rfl, b, _, 1, .int i, rfl, rfl, h2.sq, rfl, i, 0, rfl, rfl, blC ?_ hQ0⟩
              exact decide_eq_decide.mpr ⟨fun h => by omega, fun h => by omega⟩
            | _ => exact absurd c Bool.false_ne_true
          · refine blC ?_ hQ0
            cases db with
            | int i =>
              have c3 : ¬ 0 ≤ i := fun h => c (decide_eq_true h)
              exact (decide_eq_false (by omega : ¬ 1 ≤ i)).symm
            | _ => rfl
        intro H4 s4 h4
        rw [lx] at h4
        refine ⟨D2, ds.map (fun d => posB (sndD d)), rfl, .inl (.inl (by rw [h4, List.map_map]; exact congrArg (fun z => some (HO.lst z)) (range_getD2 (fun d => V.bl (posB (sndD d))) .none ds))), ?_⟩
        rw [List.all_map, show (id ∘ fun d => posB (sndD d)) = fun d => posB (sndD d) from rfl]
        refine ⟨_, rfl, ite2 (fun c => ?_) (fun c => ?_)⟩
        · have c2 : ds.all (fun d => posB (sndD d)) = false := by
            cases e : ds.all (fun d => posB (sndD d)) with
            | false => rfl
            | true => rw [e] at c; exact absurd c (by decide)
          have := q H4 (s3.trans s4)
          rw [eT, c2, Bool.false_and] at this
          exact this
        have c2 : ds.all (fun d => posB (sndD d)) = true := by
          cases e : ds.all (fun d => posB (sndD d)) with
          | false => rw [e] at c; exact absurd rfl c
          | true => rfl
        rw [c2, Bool.true_and] at eT
        have ht4 := ht3.keep (Keep.same s4)
        refine ⟨.ref a, rfl, a, rfl, ⟨_, ht4.sq⟩, fun D3 hD3 => ?_⟩
        refine lc_it (walk_tup (K := K) (xs := xs)) (fun i H5 => ∃ ys : List V, Same H4 H5 ∧ H5 D3 = some (.lst ys) ∧ ys.length = i ∧ RpAll bx H4 ys ((ds.take i).map fstD)) ⟨[], same_upd hD3, upd_same, rfl, .nil⟩ (fun i H5 _ ⟨ys, s5, _⟩ => (ht4.keep (Keep.same s5)).sq) ?_ ?_
        · rintro i y H5 H6 hi ⟨ys, s5, h5, ly, ry⟩ ⟨rfl, hy⟩
          obtain ⟨dj, e1, e2⟩ := ra.at hy
          have e4 := (e2.ext (Ext.of s3)).ext (Ext.of s4)
          obtain ⟨b, va, vb, rfl, h2, rva, _⟩ := two_is e4 (two dj (List.mem_of_getElem? e1))
          refine ⟨rfl, yes (iteT ⟨.ref b, rfl, b, _, 0, va, rfl, rfl, (h2.keep (Keep.same s5)).sq, rfl, _, h5, by rw [ly]; exact small1000 (by omega), ys ++ [va], same_mut s5 hD3, upd_same, by rw [List.length_append, ly]; rfl, ?_⟩)⟩
          rw [List.take_add_one, e1, List.map_append]
          exact ry.append (.cons rva .nil)
        rintro H5 ⟨ys, s5, h5, ly, ry⟩
        rw [lx, List.take_length] at ry
        refine ⟨D3, _, rfl, .inl (.inl h5), fun tt o ntt od => ?_⟩
        have s6 := same_upd (o := .frz o (.tup ys)) ntt
        have s36 := s3.trans (s4.trans s5)
        have nbt := (hB.same s36).ne ntt
        refine ⟨.int m, rfl, bx, m, .ref tt, .tuple (ds.map fstD), rfl, .tup (.inr ⟨o, od, upd_same⟩) nbt (RpAll.ext (Ext.of (s5.trans s6)) ry), fun es e => ?_, fun H7 s7 => ?_⟩
        · rw [← PyData.tuple.inj e, List.length_map]; exact hl'
        · have := q H7 (s36.trans (s6.trans s7))
          rw [eT] at this
          exact this
    · have := q H (Same.refl H)
      rw [(not_tup nt m).2.1] at this
      exact rd_isi (x := v) (T := t) rfl ty kt ⟨_, rfl, iteP rfl (iteP rfl this)⟩
def spDueQ : Sp := fun vs H Q _ => ∃ (bx : Addr) (c m : Int) (v : V) (d : PyData), vs = [v, .int m] ∧ Box bx c H ∧ Rp bx H v d ∧ RFine d ∧ SeqAt.shaped d = true ∧ (∀ ds, d = .tuple (.str "" :: ds) → ds.length ≤ 4) ∧ ∀ H', Same H H' → Q (.bl (ruleB m d)) H'
set_option maxHeartbeats 4000000 in
theorem ok_dueQ (T : Txt K mg w) : FnOk P w K mg base CX0 4 T.f_due T.fd_due p_due spDueQ := by
  have G_is_whole := ok_is_wholeQ (P := P) (w := w) (base := base) T
  have G_is_ties := ok_is_tiesQ (P := P) (w := w) (base := base) T
  have G_is_seen := ok_is_seenQ (P := P) (w := w) (base := base) T
  refine T.F_due.ok sc_due (fun vs H Q E h => ?_) (fun cdv A outer s H vs Q E hr h => ?_)
  · obtain ⟨bx, c, m, v, d, rfl, _⟩ := h
    rfl
  · obtain ⟨bx, c, m, v, d, rfl, hB, hv, hf, hsh, h4, q⟩ := h
    refine ⟨_, (pss_cons (ps_if (PW.pt (pw_or (pt_not (pt_val (pe_callB call_isi (by rfl) T.m_isinstance (by decide +kernel) (pa_cons (pv 0) (pa_cons (pe_bltn (v := .ty "tuple") (by rfl) T.m_tuple (by decide +kernel) rfl) pa_nil))))) (pw_or (pt_cmpR (op_eqD hr.units) (pv 0) (pe_tup pa_nil) (nomark _)) (pw_or1 (pt_not (pt_val (pe_callB call_isi (by rfl) T.m_isinstance (by decide +kernel) (pa_cons (pe_ix ix_tup (pv 0) pe_int (fun _ _ => rfl)) (pa_cons (pe_bltn (v := .ty "str") (by rfl) T.m_str (by decide +kernel) rfl) pa_nil)))))))))
        (pss_one (ps_ret pe_bl))
        pss_nil)
      (pss_cons (ps_set (i := 2) sc_due.nd rfl (.inl rfl) (pe_disp (pps_cons pe_str pe_str (pps_cons pe_str pe_str (pps_cons pe_str pe_str (pps_cons pe_str pe_str (pps_cons pe_str pe_str (pps_cons pe_str pe_str pps_nil)))))) rfl rfl (by decide) (by decide)))
      (pss_cons (ps_set (i := 3) sc_due.nd rfl (.inl rfl) (pe_dget2 (hu_of hr) (pv 2) (pe_ix ix_tup (pv 0) pe_int (fun _ _ => rfl)) pe_str ⟨rfl, rfl, rfl, rfl⟩))
      (pss_cons (ps_if (pt_cmpR op_ne (pe_callB call_len_str (by rfl) T.m_len (by decide +kernel) (pa_cons (pv 3) pa_nil)) (pe_op op_sub (pe_callB call_len_seq (by rfl) T.m_len (by decide +kernel) (pa_cons (pv 0) pa_nil)) pe_int) (nomark _))
        (pss_one (ps_ret pe_bl))
        pss_nil)
      (pss_cons (ps_for PassesOwn.never rfl (pi_zipM (by rfl) T.m_zip (pa_cons (pv 3) (pa_cons (pe_slice sl_tupA (pv 0) (po_some pe_int) po_none) pa_nil))) (pg_tup rfl (pgs_cons (pg_name (i := 4) sc_due.nd rfl (.inl rfl)) (pgs_cons (pg_name (i := 5) sc_due.nd rfl (.inl rfl)) pgs_nil)))
        (pss_cons (ps_if (PW.pt (pw_or (PW.pt (pw_and (pt_cmpR op_eq (pv 4) pe_str (nomark _)) (pw_and1 (pt_not (pt_val (pe_call G_is_whole (hr.mono (by decide)) (by rfl) T.g_is_whole T.F_is_whole.kp T.b_is_whole .nil pass0 (pa_cons (pv 5) pa_nil))))))) (pw_or1 (PW.pt (pw_and (pt_cmpR op_eq (pv 4) pe_str (nomark _)) (pw_and1 (pt_not (pt_val (pe_call G_is_ties (hr.mono (by decide)) (by rfl) T.g_is_ties T.F_is_ties.kp T.b_is_ties .nil pass0 (pa_cons (pv 5) (pa_cons (pv 1) pa_nil)))))))))))
          (pss_one (ps_ret pe_bl))
          pss_nil)
        (pss_one (ps_if (PW.pt (pw_and (pt_cmpR op_eq (pv 4) pe_str (nomark _)) (pw_and1 (pt_not (pt_val (pe_call G_is_seen (hr.mono (by decide)) (by rfl) T.g_is_seen T.F_is_seen.kp T.b_is_seen .nil pass0 (pa_cons (pv 5) (pa_cons (pv 1) pa_nil))))))))
          (pss_one (ps_ret pe_bl))
          pss_nil))))
      (pss_one (ps_ret pe_bl))))))), ?_⟩
    have q0 := q H (Same.refl H)
    obtain ⟨t, ty, ⟨⟨ds, rfl⟩, kt⟩ | ⟨nt, kt⟩⟩ := ty_tup (K := K) hv
    · cases hv with
      | tup ht nb ra =>
        rename_i a xs
        refine rd_isi (x := .ref a) (T := t) rfl ty kt ⟨_, rfl, iteN rfl ?_⟩
        refine ⟨.ref a, rfl, by show 0 ≤ sizeLine; decide, fun z nz => ?_⟩
        have sz := same_upd (o := .tup []) nz
        have hz := upd_same (H := H) (a := z) (o := HO.tup [])
        generalize upd H z (.tup []) = H1 at sz hz ⊢
        have ht1 := ht.keep (Keep.same sz)
        have hB1 := hB.same sz
        have ra1 := RpAll.ext (Ext.of (bx := bx) sz) ra
        cases ra1 with
        | nil =>
          rw [ruleB_not (fun x ds z => by cases z)] at q
          exact ⟨.tuple [], .tuple [], .tup ht1.sq .nil, .tup (.inl (.inl hz)) .nil, hsh, (by decide +kernel), _, rfl, iteP rfl (iteP rfl (q H1 sz))⟩
        | @cons v0 xs d0 ds r0 rs =>
          have lx : xs.length = ds.length := rs.length
          have rall : RpAll bx H1 (v0 :: xs) (d0 :: ds) := .cons r0 rs
          have i0 : atI (v0 :: xs) 0 = some v0 := atI_nat (j := 0) rfl
          refine ⟨.tuple (d0 :: ds), .tuple [], .tup ht1.sq (RpAll.dp rall), .tup (.inl (.inl hz)) .nil, hsh, (by decide +kernel), _, rfl, iteN (by rw [eqv_bareQ]; rfl) ?_⟩
          obtain ⟨t0, ty0, ⟨⟨x, rfl⟩, kt0⟩ | ⟨ns, kt0⟩⟩ := ty_str (K := K) r0
          · cases r0
            refine ⟨.ref a, rfl, a, _, 0, _, rfl, rfl, ht1.sq, i0, _, _, .type t0, .type "str", true, rfl, .ty "str", ty0, kit_ty kt0, _, rfl, iteN rfl ?_⟩
            refine fun p np => ⟨upd_same, shK, rfl, by decide, ?_⟩
            have nbp := hB1.ne np
            have s2 : Same H1 (upd (upd H1 p (.dK [])) p (.dK (mergeK [] shK))) := fun b o hb => by
              have n := ne_of_none hb np
              rw [upd_ne n, upd_ne n]
              exact hb
            have hp := upd_same (H := upd H1 p (.dK [])) (a := p) (o := HO.dK (mergeK [] shK))
            generalize upd (upd H1 p (.dK [])) p (.dK (mergeK [] shK)) = H2 at s2 hp ⊢
            have ht2 := ht1.keep (Keep.same s2)
            have hx := hf.wd x ds rfl
            refine ⟨.ref p, rfl, p, rfl, .inl ⟨_, .inl hp⟩, .ref a, rfl, a, _, 0, _, rfl, rfl, ht2.sq, i0, _, DGet.k (k := Sum.inr x) hp, ?_⟩
            rcases word_all hx with ⟨rfl, pn, ev⟩ | ⟨r, rfl, pr, ev⟩
            · rw [ev]
              rw [ruleB_none pn] at q
              have l4 := h4 ds rfl
              refine ⟨.str "-----", rfl, _, rfl, by decide +kernel, .ref a, rfl, a, _, rfl, .inr ht2.sq, _, 1, rfl, rfl, rfl, _, rfl, iteP ?_ (q H2 (sz.trans s2))⟩
              rw [List.length_cons, lx, decide_eq_false (fun e => ?_)]
              · rfl
              · have e1 := V.int.inj e
                have e2 : (("-----" : Str).length : Nat) = 5 := by decide +kernel
                rw [e2] at e1
                omega
            rw [ev]
            have er := ruleB_some (m := m) (ds := ds) pr
            rw [er] at q
            have sl := shape_len r
            have pl := parts_len r
            refine ⟨.str (shapeS r), rfl, _, rfl, by rw [sl]; exact Nat.le_of_lt (small1000 pl), .ref a, rfl, a, _, rfl, .inr ht2.sq, _, 1, rfl, rfl, rfl, _, rfl, ite2 (fun z => ?_) (fun z => ?_)⟩
            · have ne : ds.length ≠ (partsOf r).length := fun e => by
                rw [List.length_cons, lx, sl, e, decide_eq_true (show V.int ((partsOf r).length : Int) = V.int ((((partsOf r).length + 1 : Nat) : Int) - 1) from congrArg V.int (by omega))] at z
                exact absurd z (by decide)
              rw [decide_eq_false ne, Bool.false_and] at q
              exact q H2 (sz.trans s2)
            have el : ds.length = (partsOf r).length := by
              by_cases e : ds.length = (partsOf r).length
              · exact e
              · exfalso
                refine z ?_
                rw [List.length_cons, lx, sl, decide_eq_false (fun h => e (by have := V.int.inj h; omega))]; rfl
            rw [decide_eq_true el, Bool.true_and] at q
            refine ⟨.str (shapeS r), rfl, .ref a, rfl, 1, rfl, nopart_use <| sl_tup_use (lo := some 1) (hi := none) ht2 fun cc H3 s3 hc => ?_⟩
            rw [show cutI (V.str (wordOf r) :: xs) (some 1) none = xs from cut1 _] at hc
            refine ⟨.str (shapeS r), .ref cc, fun _ ys => ys = (shapeS r).cps.toList.map fun c => V.str ⟨#[c]⟩, fun Hx ys => TupAt Hx cc ys, (partsOf r).map (fun p => V.str (markS p)), xs, rfl, (shape_marks r).symm, hc, fun u hu => ?_, fun u hu => ?_, ?_⟩
            · obtain ⟨tk, rfl⟩ := hu
              exact ⟨_, src_text _ tk⟩
            · cases hu
              exact ⟨_, src_tup cc⟩
            have sAll := sz.trans (s2.trans s3)
            refine for_it (walk_zipX (xs := (partsOf r).map fun p => V.str (markS p)) (ys := xs) (n := ds.length) (by rw [List.length_map, lx, el, Nat.min_self])) (fun i σ H5 => ∃ y4 y5 : Option V, σ = [some (.ref a), some (.int m), some (.ref p), some (.str (shapeS r)), y4, y5] ∧ Same H3 H5 ∧ ((List.zip (partsOf r) ds).take i).all (fun q => partB m q.1 q.2) = true) ⟨_, _, rfl, Same.refl _, rfl⟩ ?_ ?_ ?_
            · rintro i σ H5 _ ⟨y4, y5, rfl, s5, _⟩
              exact ⟨(shape_marks r).symm, hc.keep (Keep.same s5)⟩
            · rintro i v σ H5 H6 hi ⟨y4, y5, rfl, s5, al⟩ ⟨u, x1, x2, rfl, nu, rfl, e1, e2⟩
              have hi1 : i < (partsOf r).length := by omega
              have e1 : ((partsOf r).map fun p => V.str (markS p))[i]? = some x1 := e1
              have e2 : xs[i]? = some x2 := e2
              rw [List.getElem?_map, List.getElem?_eq_getElem hi1] at e1
              cases e1
              obtain ⟨di, f1, f2⟩ := rs.at e2
              have sT := same_upd (o := .tup [V.str (markS (partsOf r)[i]), x2]) nu
              have s6 := s5.trans sT
              have f6 := f2.ext (Ext.of (s2.trans (s3.trans s6)))
              have hB6 := hB1.same (s2.trans (s3.trans s6))
              have zi : (List.zip (partsOf r) ds)[i]? = some ((partsOf r)[i], di) := by
                rw [List.getElem?_zip_eq_some]
                exact ⟨List.getElem?_eq_getElem hi1, f1⟩
              have lf : ∀ es, di = .tuple es → es.length ≤ 1000 := fun es e => (hf.ln _ rfl).2 di (List.mem_cons_of_mem _ (List.mem_of_getElem? f1)) es e
              have pi := part_is r _ (List.getElem_mem hi1)
              have qF : partB m (partsOf r)[i] di = false → ∀ H', Same (upd H5 u (.tup [V.str (markS (partsOf r)[i]), x2])) H' → Q (.bl false) H' := fun e H' s' => by
                have := q H' (sAll.trans (s6.trans s'))
                have f : (List.zip (partsOf r) ds).all (fun q => partB m q.1 q.2) = false := by
                  rw [Bool.eq_false_iff]
                  intro h
                  have := List.all_eq_true.mp h _ (List.mem_of_getElem? zi)
                  rw [e] at this
                  exact Bool.false_ne_true this
                rw [f] at this
                exact this
              have qT : partB m (partsOf r)[i] di = true → ((List.zip (partsOf r) ds).take (i + 1)).all (fun q => partB m q.1 q.2) = true := fun e => by
                rw [List.take_add_one, zi, List.all_append, al]
                show (true && (partB m (partsOf r)[i] di && true)) = true
                rw [e]; rfl
              generalize (partsOf r)[i] = pt at *
              refine ⟨u, _, rfl, .inl (.inl upd_same), rfl, _, _, rfl, _, _, rfl, rfl, ?_⟩
              have done : partB m pt di = true → ∀ H', Same (upd H5 u (.tup [V.str (markS pt), x2])) H' → ∃ y4 y5 : Option V, [some (V.ref a), some (.int m), some (.ref p), some (.str (shapeS r)), some (.str (markS pt)), some x2] = [some (V.ref a), some (.int m), some (.ref p), some (.str (shapeS r)), y4, y5] ∧ Same H3 H' ∧ ((List.zip (partsOf r) ds).take (i + 1)).all (fun q => partB m q.1 q.2) = true := fun e H' s' => ⟨_, _, rfl, s6.trans s', qT e⟩
              rcases pi with rfl | rfl | rfl
              · have ep : partB m "number" di = numB di := if_pos rfl
                rw [ep] at qF done
                refine ⟨_, rfl, rfl, _, rfl, iteP (by decide +kernel) ⟨x2, rfl, bx, x2, di, rfl, f6, _, rfl, ?_⟩⟩
                cases e : numB di with
                | false => exact iteP rfl (iteP rfl (qF e _ (Same.refl _)))
                | true =>
                  refine iteN rfl ⟨_, rfl, rfl, _, rfl, iteN (by decide +kernel) (iteN rfl ?_)⟩
                  exact ⟨_, rfl, rfl, _, rfl, iteN (by decide +kernel) (iteN rfl (done e _ (Same.refl _)))⟩
              · have ep : partB m "ties" di = tiesB m di := by unfold partB; rw [if_neg (by decide +kernel), if_pos rfl]
                rw [ep] at qF done
                refine ⟨_, rfl, rfl, _, rfl, iteN (by decide +kernel) ?_⟩
                refine iteN rfl ⟨_, rfl, rfl, _, rfl, iteP (by decide +kernel) ⟨x2, rfl, .int m, rfl, bx, c, m, x2, di, rfl, hB6, f6, lf, fun H7 s7 => ⟨_, rfl, ?_⟩⟩⟩
                cases e : tiesB m di with
                | false => exact iteP rfl (qF e _ s7)
                | true =>
                  refine iteN rfl ?_
                  exact ⟨_, rfl, rfl, _, rfl, iteN (by decide +kernel) (iteN rfl (done e _ s7))⟩
              · have ep : partB m "seen" di = seenB m di := by unfold partB; rw [if_neg (by decide +kernel), if_neg (by decide +kernel)]
                rw [ep] at qF done
                refine ⟨_, rfl, rfl, _, rfl, iteN (by decide +kernel) ?_⟩
                refine iteN rfl ⟨_, rfl, rfl, _, rfl, iteN (by decide +kernel) (iteN rfl ?_)⟩
                refine ⟨_, rfl, rfl, _, rfl, iteP (by decide +kernel) ⟨x2, rfl, .int m, rfl, bx, m, x2, di, rfl, f6, lf, fun H7 s7 => ⟨_, rfl, ?_⟩⟩⟩
                cases e : seenB m di with
                | false => exact iteP rfl (qF e _ s7)
                | true => exact iteN rfl (done e _ s7)
            · rintro σ H5 ⟨y4, y5, rfl, s5, al⟩
              have := q H5 (sAll.trans s5)
              have e : (List.zip (partsOf r) ds).take ds.length = List.zip (partsOf r) ds := List.take_of_length_le (by rw [List.length_zip]; omega)
              rw [e] at al
              rw [al] at this
              exact this
          · rw [ruleB_not (fun x es z => ns x (List.cons.inj (PyData.tuple.inj z)).1)] at q
            exact ⟨.ref a, rfl, a, _, 0, _, rfl, rfl, ht1.sq, i0, _, _, .type t0, .type "str", false, rfl, .ty "str", ty0, kit_ty kt0, _, rfl, iteP rfl (q H1 sz)⟩
    · rw [ruleB_not (fun x ds z => nt _ z)] at q0
      exact rd_isi (x := v) (T := t) rfl ty kt ⟨_, rfl, iteP rfl (iteP rfl q0)⟩
end
end Lh

namespace Lh
open PySem PySem.Spec PyProof.Rows L2
section
variable {P : Program} {w : World} {K : PySem.W.Frag} {mg : Str → Option Value} {base : Heap}
def spOneOf : Sp := fun vs H Q _ => ∃ (bx a : Addr) (c : Int) (os : List V), vs = [.ref bx, .ref a] ∧ H a = some (.lst os) ∧ a ≠ bx ∧ 1 ≤ os.length ∧ os.length ≤ 1000 ∧ c + 1 ≤ 1000000000 ∧ Box bx c H ∧
  ∀ (v : V) (H' : Hp), v ∈ os → Ext bx H H' → Box bx (c + 1) H' → Q v H'
theorem ok_one_of (T : Txt K mg w) : FnOk P w K mg base CX0 2 T.f_one_of T.fd_one_of p_one_of (spOneOf) := by
  have G_take := ok_take (P := P) (w := w) (base := base) T
  refine T.F_one_of.ok sc_one_of (fun vs H Q E h => ?_) (fun cdv A outer s H vs Q E hr h => ?_)
  · obtain ⟨bx, a, c, os, rfl, _⟩ := h
    rfl
  · obtain ⟨bx, a, c, os, rfl, ha, nab, l1, l2, c1, hB, q⟩ := h
    refine ⟨_, (pss_one (ps_ret (pe_ix ix_list (pv 1) (pe_call G_take (hr.mono (by decide)) (by rfl) T.g_take T.F_take.kp T.b_take .nil pass0 (pa_cons (pv 0) (pa_cons (pe_callB call_len_seq (by rfl) T.m_len (by decide +kernel) (pa_cons (pv 1) pa_nil)) pa_nil))) (fun _ _ => rfl)))), ?_⟩
    refine ⟨.ref a, rfl, .ref bx, rfl, .ref a, rfl, a, _, rfl, .inl (.inl (.inl ha)), bx, _, _, rfl, by omega, by omega, by omega, hB, fun r H1 r0 r1 e1 b1 => ?_⟩
    obtain ⟨v, mv, av⟩ := pick (xs := os) r0 r1
    exact ⟨a, os, r, v, rfl, rfl, .inl (.inl (e1 _ _ nab ha)), av, q v H1 mv e1 b1⟩
end
end Lh

namespace Lh
open PySem PySem.Spec PyProof.Rows L2
theorem adjust_rev (n : Nat) : Builtin.Slice.sliceAdjust none none (-1) (n : Int) = ((n : Int) - 1, -1) := by
  unfold Builtin.Slice.sliceAdjust
  simp
theorem places_rev (n : Nat) : Builtin.Slice.slicePlaces ((n : Int) - 1) (-1) (-1) = n := by
  unfold Builtin.Slice.slicePlaces
  have h1 : ¬ ((-1 : Int) > 0) := by omega
  simp only [h1, if_false]
  split
  · rw [show (- -1 : Int) = 1 by decide, Int.ediv_one]; omega
  · omega
theorem fm_some {β : Type} {f : Nat → Option β} {g : Nat → β} : ∀ {l : List Nat}, (∀ k ∈ l, f k = some (g k)) → l.filterMap f = l.map g
  | [], _ => rfl
  | x :: r, h => by
    rw [List.filterMap_cons, h x List.mem_cons_self, List.map_cons, fm_some fun k hk => h k (List.mem_cons_of_mem _ hk)]
theorem pick_rev (xs : Array Value) : ((List.range xs.size).filterMap fun (k : Nat) => xs[((xs.size : Int) - 1 + (k : Int) * (-1)).toNat]?).toArray = xs.toList.reverse.toArray := by
  congr 1
  have e : ∀ k ∈ List.range xs.size, xs[((xs.size : Int) - 1 + (k : Int) * (-1)).toNat]? = some (xs.toList.reverse.getD k .none) := fun k hk => by
    have hk := List.mem_range.mp hk
    have e1 : ((xs.size : Int) - 1 + (k : Int) * (-1)).toNat = xs.size - 1 - k := by omega
    rw [e1, List.getD_eq_getElem?_getD, List.getElem?_reverse (by simpa using hk)]
    simp only [Array.length_toList, Array.getElem?_toList]
    rw [Array.getElem?_eq_getElem (by omega)]
    rfl
  rw [fm_some e]
  refine List.ext_getElem (by simp) fun i h1 h2 => ?_
  simp only [List.getElem_map, List.getElem_range]
  rw [List.getD_eq_getElem?_getD, List.getElem?_eq_getElem h2]
  rfl
section
variable {prog : Program} {w : World} {A : Around} {E : Value → Shared → Prop} {s : Shared}
theorem sliceApplied_rev {sl : Addr} {n : Nat} {vs : Value} {Q : Int × Int × Nat → Shared → Prop} (hs : s.heap.IsSliceOf sl .none .none vs) (ps : IsPart vs (some (-1))) (h : Q ((n : Int) - 1, -1, n) s) :
    wpAny (model prog w) A (Builtin.Slice.sliceApplied (.ref sl) (pure (n : Int))) Q E s := by
  obtain ⟨os, hos, hcs, hds⟩ := id hs
  obtain ⟨u, rfl⟩ : ∃ u, vs = .int (-1) u := by
    cases ps with
    | int i u => exact ⟨u, rfl⟩
  unfold Builtin.Slice.sliceApplied Builtin.Slice.sliceFields
  refine wpAny_bind (wpAny_bind (wpAny_field hos hds (x := .none) rfl (wpAny_bind (wpAny_field hos hds (x := .none) rfl (wpAny_bind (wpAny_field hos hds (x := .int (-1) u) rfl (wpAny_pure ?_)))))))
  refine wpAny_bind (slicePart_int ?_)
  show wpAny _ _ (if ((-1 : Int) == 0) = true then _ else _) _ _ s
  rw [if_neg (by decide)]
  refine wpAny_bind (slicePart_none (wpAny_bind (slicePart_none (wpAny_bind (wpAny_pure ?_)))))
  show wpAny _ _ (match Builtin.Slice.sliceAdjust none none (-1) (n : Int) with | (lo, hi) => pure (lo, (-1 : Int), Builtin.Slice.slicePlaces lo hi (-1))) _ _ s
  rw [adjust_rev n]
  show wpAny _ _ (pure ((n : Int) - 1, (-1 : Int), Builtin.Slice.slicePlaces ((n : Int) - 1) (-1) (-1))) _ _ s
  rw [places_rev n]
  exact wpAny_pure h
theorem getItem_tuple_rev {t sl : Addr} {items : Array Value} {vs : Value} {Q : Value → Shared → Prop} (ht : IsTup s.heap t items) (hs : s.heap.IsSliceOf sl .none .none vs) (ps : IsPart vs (some (-1)))
    (h : Q (.ref s.heap.objs.size) { s with heap := s.heap.push { cls := .type "tuple", data := .seq items.toList.reverse.toArray } })
    (hsz : items.size ≤ sizeLine) : wpAny (model prog w) A (getItem (.ref t) (.ref sl)) Q E s := by
  have hrev : sizeOk (.seq items.toList.reverse.toArray) := by
    show items.toList.reverse.toArray.size ≤ sizeLine
    rw [List.size_toArray, List.length_reverse, Array.length_toList]
    exact hsz
  obtain ⟨os, hos, hcs, hds⟩ := id hs
  have hTs : s.TypeIs (.ref sl) "slice" := ⟨os, hos, hcs⟩
  unfold getItem
  try with_reducible refine wpAny_holding ?_
  first | refine wpAny_bind (wpAny_pure ?_) | skip
  refine wpAny_bind (wpAny_sequenceKey ht.typeIs (by decide) ?_)
  refine wpAny_bind (wpAny_callSpecial?_slot (name := Str.ofString "__getitem__") ht.typeIs PyProof.Rows.slot_tuple_getitem
    (wpAny_call_entry PyProof.Rows.slot_tuple_getitem ht.typeIs entry_tuple_getitem ?_ (args_tuple_getitem _ _)))
  show wpAny _ _ (Builtin.Tuple.tupleItemsOf (.ref t) >>= _) _ _ s
  refine wpAny_bind (tupleItemsOf_ ht ?_)
  refine wpAny_bind (wpAny_typeOf hTs ?_)
  rw [if_pos (by decide)]
  refine wpAny_bind (sliceApplied_rev hs ps ?_)
  have hno : ¬ ((((items.size : Int) - 1) == 0 && (-1 : Int) == 1 && items.size == items.size) = true) := by
    rw [show ((-1 : Int) == 1) = false from by decide, Bool.and_false, Bool.false_and]
    decide
  show wpAny _ _ (if (((items.size : Int) - 1) == 0 && (-1 : Int) == 1 && items.size == items.size) = true then _ else _) _ _ s
  rw [if_neg hno, pick_rev]
  first
    | exact wpAny_bind (m := Builtin.Tuple.tupleExact _) (wpAny_newObj_type (wpAny_pure ⟨_, rfl, wpAny_pure h⟩) hrev)
    | exact wpAny_bind (m := Builtin.Tuple.tupleExact _) (wpAny_newObj_type (wpAny_bind (wpAny_pure (wpAny_pure ⟨_, rfl, wpAny_pure h⟩))) hrev)
    | exact wpAny_bind (wpAny_bind (m := Builtin.Tuple.tupleExact _) (wpAny_newObj_type (wpAny_pure (wpAny_pure ⟨_, rfl, wpAny_pure h⟩)) hrev))
    | exact wpAny_bind (wpAny_bind (m := Builtin.Tuple.tupleExact _) (wpAny_newObj_type (wpAny_pure ⟨_, rfl, wpAny_pure h⟩) hrev))
end
section
variable {X : Cx}
def tRevT (K : PySem.W.Frag) (te : TE) : TE := fun σ H Q => te σ H fun x H1 => ∃ a xs, x = .ref a ∧ SqT K H1 a xs ∧ ∀ p, H1 p = none → Q (.ref p) (upd H1 p (.tup xs.reverse))
theorem pe_revT {e : Expr} {te : TE} {k : Nat} {p1 p2 p3 pos : Pos} (he : PE X e te) : PE X (.Subscript e (.Slice none none (some (.UnaryOp .USub (.Constant (.int 1) k p1) p2)) p3) pos) (tRevT X.K te) := by
  refine ⟨fun pins s σ H Q I h => ?_⟩
  refine Subscript_ (thn (he.run pins s σ H _ I h) fun v s1 ⟨x, H1, I1, r1, q1⟩ => ?_)
  obtain ⟨a, xs, ex, hx, q⟩ := q1
  subst ex
  cases r1
  have hst : PO X (some (.UnaryOp .USub (.Constant (.int 1) k p1) p2)) (tPart (tUn (rU fun i => .int (-i)) (tC (.int 1)))) := po_some (pe_un un_neg pe_int)
  refine wpAny_Slice (thn (po_none.run pins s1 σ H1 (fun o H2 => o = none ∧ H2 = H1) I1 ⟨rfl, rfl⟩) fun vl s2 ⟨l, H2, I2, pl, el, e2⟩ => ?_)
  subst el e2
  refine thn (po_none.run pins s2 σ H2 (fun o H3 => o = none ∧ H3 = H2) I2 ⟨rfl, rfl⟩) fun vu s3 ⟨u, H3, I3, pu, eu, e3⟩ => ?_
  subst eu e3
  refine thn (hst.run pins s3 σ H3 (fun o H4 => o = some (-1) ∧ H4 = H3) I3 ⟨1, rfl, -1, rfl, rfl, rfl⟩) fun vs s4 ⟨o, H4, I4, ps, eo, e4⟩ => ?_
  subst eo e4
  cases pl
  cases pu
  have I5 : Inv X pins σ H4 { s4 with heap := s4.heap.push { cls := .type "slice", data := .fields #[.none, .none, vs] } } := I4.kept (t' := s4.toks) fun b ob q => Heap.get?_push_of_some _ q
  obtain ⟨its, r, ht, hz⟩ := I5.tuple hx
  have hlen := r.length
  show wpAny (model X.prog X.w) X.A (subscriptTail e (.Slice none none (some (.UnaryOp .USub (.Constant (.int 1) k p1) p2)) p3) (.ref a) (.ref s4.heap.objs.size)) (EP X pins σ Q) X.xe { s4 with heap := s4.heap.push { cls := .type "slice", data := .fields #[.none, .none, vs] } }
  refine tail_any (ops := [.ref a, .ref s4.heap.objs.size]) ht.typeIs (PyProof.Rows.slot_tuple_getitem.lookup) ?_ (by with_unfolding_all rfl)
  refine getItem_tuple_rev ht (Heap.IsSliceOf.new _ .none .none vs) ps ?_ (by rw [List.size_toArray]; omega)
  refine ⟨.ref _, _, I5.laid (t' := s4.toks) (o := .tup xs.reverse) (fun b ob q => Heap.get?_push_of_some _ q) (Nat.le_refl _) ?_, rfl, q _ (I5.hok.fresh (Nat.le_refl _))⟩
  refine ⟨by rw [List.length_reverse]; omega, its.reverse, r.reverse, ?_⟩
  have := IsTup.new (s4.heap.push { cls := .type "slice", data := .fields #[.none, .none, vs] }) its.reverse.toArray
  exact this
end
end Lh

namespace Lh
open PySem PySem.Spec PyProof.Rows L2
/-! ### data made of few words -/
def Sh : Nat → PyData → Prop
  | _, .none => True
  | _, .bool _ => True
  | _, .int i => i.natAbs < 10 ^ 12
  | _, .str x => x ∈ wds
  | n + 1, .list ds => ∀ d ∈ ds, Sh n d
  | n + 1, .tuple ds => ∀ d ∈ ds, Sh n d
  | _, _ => False
theorem Sh.up : ∀ {n : Nat} {d : PyData}, Sh n d → Sh (n + 1) d
  | 0, d, h => by
    cases d with
    | list _ => exact h.elim
    | tuple _ => exact h.elim
    | dict _ => exact h.elim
    | _ => exact h
  | n + 1, d, h => by
    cases d with
    | list ds => exact fun x hx => Sh.up (h x hx)
    | tuple ds => exact fun x hx => Sh.up (h x hx)
    | dict _ => exact h.elim
    | _ => exact h
theorem Sh.up2 {n : Nat} {d : PyData} (h : Sh n d) : Sh (n + 2) d := h.up.up
theorem Sh.mono {n m : Nat} {d : PyData} (h : Sh n d) (le : n ≤ m) : Sh m d := by
  obtain ⟨k, rfl⟩ := Nat.exists_eq_add_of_le le
  clear le
  induction k with
  | zero => exact h
  | succ k ih => exact Sh.up ih
theorem sh_int {n : Nat} {i : Int} (h : i.natAbs < 10 ^ 12) : Sh n (.int i) := by cases n <;> exact h
theorem sh_str {n : Nat} {x : Str} (h : x ∈ wds) : Sh n (.str x) := by cases n <;> exact h
theorem sh_bool {n : Nat} {b : Bool} : Sh n (.bool b) := by cases n <;> trivial
theorem sh_none {n : Nat} : Sh n .none := by cases n <;> trivial
theorem wds_small {x : Str} (h : x ∈ wds) : x.cps.size ≤ 5 ∧ (x.cps.toList.all fun c => decide (c < 16 ^ 8)) = true ∧ (reprText x).length ≤ sizeLine ∧ PyData.strOk x = true := by
  unfold wds at h
  simp only [List.mem_cons, List.not_mem_nil, or_false] at h
  rcases h with rfl | rfl | rfl | rfl | rfl | rfl | rfl <;> exact ⟨by decide +kernel, by decide +kernel, by decide +kernel, by decide +kernel⟩
theorem bulk_mem : ∀ {ds : List PyData} {d : PyData}, d ∈ ds → d.bulk + 1 ≤ PyData.bulkAll ds
  | x :: r, d, h => by
    show d.bulk + 1 ≤ x.bulk + 1 + PyData.bulkAll r
    rcases List.mem_cons.mp h with rfl | h
    · omega
    · have := bulk_mem h; omega
theorem bulk_len : ∀ ds : List PyData, ds.length ≤ PyData.bulkAll ds
  | [] => Nat.le_refl _
  | x :: r => by
    show r.length + 1 ≤ x.bulk + 1 + PyData.bulkAll r
    have := bulk_len r
    omega
theorem bulk_app : ∀ a b : List PyData, PyData.bulkAll (a ++ b) = PyData.bulkAll a + PyData.bulkAll b
  | [], b => by show PyData.bulkAll b = 0 + PyData.bulkAll b; omega
  | x :: r, b => by
    show x.bulk + 1 + PyData.bulkAll (r ++ b) = x.bulk + 1 + PyData.bulkAll r + PyData.bulkAll b
    rw [bulk_app r b]; omega
theorem bulk_rev : ∀ a : List PyData, PyData.bulkAll a.reverse = PyData.bulkAll a
  | [] => rfl
  | x :: r => by
    rw [List.reverse_cons, bulk_app, bulk_rev r]
    show PyData.bulkAll r + (x.bulk + 1 + 0) = x.bulk + 1 + PyData.bulkAll r
    omega
theorem bulk_cut {ds : List PyData} {k : Nat} (h : k < ds.length) : PyData.bulkAll (ds.take k) + (ds[k].bulk + 1) + PyData.bulkAll (ds.drop (k + 1)) = PyData.bulkAll ds := by
  conv => rhs; rw [← List.take_append_drop k ds, List.drop_eq_getElem_cons h]
  rw [bulk_app]
  show _ = PyData.bulkAll (ds.take k) + (ds[k].bulk + 1 + PyData.bulkAll (ds.drop (k + 1)))
  omega
theorem sh_shown : ∀ {n b : Nat} {d : PyData}, Sh n d → d.bulk ≤ b → Shown n b d
  | n, b, .none, _, _ => ⟨rfl, rfl, Nat.zero_le _, rfl, Nat.zero_le _⟩
  | n, b, .bool _, _, _ => ⟨rfl, rfl, Nat.zero_le _, rfl, Nat.zero_le _⟩
  | n, b, .int i, h, _ => by
    have h' : i.natAbs < 10 ^ 12 := by cases n <;> exact h
    exact ⟨decide_eq_true (log_small h'), rfl, Nat.zero_le _, decide_eq_true (PyData.shown_int_le h'), Nat.zero_le _⟩
  | n, b, .str x, h, hb => by
    have h' : x ∈ wds := by cases n <;> exact h
    exact ⟨rfl, rfl, Nat.zero_le _, (wds_small h').2.1, hb⟩
  | 0, _, .list _, h, _ => h.elim
  | 0, _, .tuple _, h, _ => h.elim
  | n + 1, b, .list ds, h, hb => by
    have hb' : PyData.bulkAll ds ≤ b := hb
    obtain ⟨a1, a2, a3, a4, _⟩ := all_sh (n := n) (b := b) (fun d hd => sh_shown (h d hd) (by have := bulk_mem hd; omega))
    exact ⟨a1, a2, Nat.succ_le_succ a3, a4, hb⟩
  | n + 1, b, .tuple ds, h, hb => by
    have hb' : PyData.bulkAll ds ≤ b := hb
    obtain ⟨a1, a2, a3, a4, _⟩ := all_sh (n := n) (b := b) (fun d hd => sh_shown (h d hd) (by have := bulk_mem hd; omega))
    exact ⟨a1, a2, Nat.succ_le_succ a3, a4, hb⟩
  | 0, _, .dict _, h, _ => h.elim
  | n + 1, _, .dict _, h, _ => h.elim
theorem lay_all : ∀ {ds : List PyData}, (∀ d ∈ ds, PyData.canLay0 d = true) → PyData.canLayAll0 ds = true
  | [], _ => rfl
  | d :: r, h => by
    show (PyData.canLay0 d && PyData.canLayAll0 r) = true
    rw [h d List.mem_cons_self, lay_all fun x hx => h x (List.mem_cons_of_mem _ hx)]
    rfl
theorem sh_lay : ∀ {n : Nat} {d : PyData}, Sh n d → PyData.canLay0 d = true
  | _, .none, _ => rfl
  | _, .bool _, _ => rfl
  | _, .int _, _ => rfl
  | n, .str x, h => by
    have h' : x ∈ wds := by cases n <;> exact h
    exact (wds_small h').2.2.2
  | 0, .list _, h => h.elim
  | 0, .tuple _, h => h.elim
  | n + 1, .list ds, h => lay_all fun d hd => sh_lay (h d hd)
  | n + 1, .tuple ds, h => lay_all fun d hd => sh_lay (h d hd)
  | 0, .dict _, h => h.elim
  | n + 1, .dict _, h => h.elim
theorem sh_shaped {n : Nat} {d : PyData} (h : Sh n d) (hn : n ≤ 60) : SeqAt.shaped d = true := by
  show (d.canLay0 && decide (d.depth ≤ 64)) = true
  rw [sh_lay h, decide_eq_true (by have := (sh_shown h (Nat.le_refl _)).dp; omega)]
  rfl
/-- how long, and where the empty word may stand -/
def Len0 (k : Nat) (d : PyData) : Prop := ∀ ds, d = .tuple ds → ds.length ≤ 4 + k ∧ (PyData.str "" ∈ ds → ds.length ≤ 3 + k)
theorem sh_rfine {n b : Nat} {d : PyData} (h : Sh n d) (hb : d.bulk ≤ b) (b1 : b ≤ 1000) : RFine d := by
  refine ⟨fun x ds e => ?_, fun ds e => ?_⟩
  · subst e
    cases n with
    | zero => exact h.elim
    | succ n =>
      have : Sh n (.str x) := h _ List.mem_cons_self
      cases n <;> exact this
  · subst e
    have hb' : PyData.bulkAll ds ≤ b := hb
    refine ⟨by have := bulk_len ds; omega, fun e he es q => ?_⟩
    subst q
    have h1 := bulk_mem he
    have h2 : PyData.bulkAll es + 1 ≤ PyData.bulkAll ds := h1
    have := bulk_len es
    omega
theorem sh_fits {n b : Nat} {d : PyData} (h : Sh n d) (hb : d.bulk ≤ b) (b1 : b ≤ 2 ^ 20) : d.shown.length ≤ sizeLine :=
  PyData.shown_fits_bulk (B := 13) (by decide) (by decide) (sh_shown h hb).lv (Nat.le_trans hb b1)
theorem bulk_prs : ∀ ts : List (Int × Int), PyData.bulkAll (ts.map pairD) = 3 * ts.length
  | [] => rfl
  | q :: r => by
    show (0 + 1 + (0 + 1 + 0)) + 1 + PyData.bulkAll (r.map pairD) = 3 * (r.length + 1)
    rw [bulk_prs r]; omega
theorem bulk_ints : ∀ ns : List Int, PyData.bulkAll (ns.map PyData.int) = ns.length
  | [] => rfl
  | q :: r => by
    show 0 + 1 + PyData.bulkAll (r.map PyData.int) = r.length + 1
    rw [bulk_ints r]; omega
theorem sh_prs {n : Nat} {m : Int} {ts : List (Int × Int)} (hm : m ≤ 1000000) (r : Rising m (ts.map (·.1))) (w : ∀ q ∈ ts, 1 ≤ q.2 ∧ q.2 ≤ 1000) : Sh (n + 2) (.tuple (ts.map pairD)) := fun d hd => by
  obtain ⟨q, hq, rfl⟩ := List.mem_map.mp hd
  have h1 := r.2 _ (List.mem_map_of_mem (f := (·.1)) hq)
  have h2 := w q hq
  have h1 : 0 ≤ q.1 ∧ q.1 < m := h1
  intro x hx
  rcases List.mem_cons.mp hx with rfl | hx
  · exact sh_int (by omega)
  · rw [List.mem_singleton.mp hx]
    exact sh_int (by omega)
theorem sh_seen {n : Nat} {m : Int} {ns : List Int} (hm : m ≤ 1000000) (r : Rising m ns) : Sh (n + 1) (.tuple (ns.map PyData.int)) := fun d hd => by
  obtain ⟨q, hq, rfl⟩ := List.mem_map.mp hd
  have := r.2 q hq
  exact sh_int (by omega)
theorem wd_held : (Str.ofString "held") ∈ wds := by decide +kernel
theorem wd_sum : (Str.ofString "sum") ∈ wds := by decide +kernel
theorem wd_cap : (Str.ofString "cap") ∈ wds := by decide +kernel
theorem wd_kinds : (Str.ofString "kinds") ∈ wds := by decide +kernel
theorem wd_next : (Str.ofString "next") ∈ wds := by decide +kernel
theorem wd_free : (Str.ofString "free") ∈ wds := by decide +kernel
theorem small_abs {i : Int} (h : smallI i) : i.natAbs < 10 ^ 12 := by
  have h' : 0 ≤ i ∧ i ≤ 1000 := h
  omega
theorem sh_rule {m : Int} (hm : m ≤ 1000000) : ∀ {r : Rule}, r.Wf m → r.persons.length ≤ 12 → Sh 3 r.data ∧ r.data.bulk ≤ 60 ∧ Len0 0 r.data
  | .held n, wf, _ => by
    refine ⟨fun d hd => ?_, ?_, fun ds e => ?_⟩
    · simp only [List.mem_cons, List.not_mem_nil, or_false] at hd
      rcases hd with rfl | rfl
      · exact sh_str wd_held
      · exact sh_int (small_abs wf)
    · show (("held" : Str).cps.size + 1 + (0 + 1 + 0)) ≤ 60
      decide +kernel
    · rw [← PyData.tuple.inj e]
      exact ⟨by show 2 ≤ 4; decide, fun _ => by show 2 ≤ 3; decide⟩
  | .sum own ts, wf, hl => by
    have hl' : ts.length ≤ 12 := by simpa [Rule.persons] using hl
    refine ⟨fun d hd => ?_, ?_, fun ds e => ?_⟩
    · simp only [List.mem_cons, List.not_mem_nil, or_false] at hd
      rcases hd with rfl | rfl | rfl
      · exact sh_str wd_sum
      · exact sh_int (small_abs wf.1)
      · exact sh_prs hm wf.2.1 wf.2.2
    · show ("sum" : Str).cps.size + 1 + (0 + 1 + (PyData.bulkAll (ts.map pairD) + 1 + 0)) ≤ 60
      rw [bulk_prs, show ("sum" : Str).cps.size = 3 by decide +kernel]; omega
    · rw [← PyData.tuple.inj e]
      exact ⟨by show 3 ≤ 4; decide, fun _ => by show 3 ≤ 3; decide⟩
  | .cap own ts c, wf, hl => by
    have hl' : ts.length ≤ 12 := by simpa [Rule.persons] using hl
    refine ⟨fun d hd => ?_, ?_, fun ds e => ?_⟩
    · simp only [List.mem_cons, List.not_mem_nil, or_false] at hd
      rcases hd with rfl | rfl | rfl | rfl
      · exact sh_str wd_cap
      · exact sh_int (small_abs wf.1)
      · exact sh_prs hm wf.2.1 wf.2.2.1
      · exact sh_int (small_abs wf.2.2.2)
    · show ("cap" : Str).cps.size + 1 + (0 + 1 + (PyData.bulkAll (ts.map pairD) + 1 + (0 + 1 + 0))) ≤ 60
      rw [bulk_prs, show ("cap" : Str).cps.size = 3 by decide +kernel]; omega
    · rw [← PyData.tuple.inj e]
      refine ⟨by show 4 ≤ 4; decide, fun h => ?_⟩
      simp only [List.mem_cons, List.not_mem_nil, or_false] at h
      rcases h with h | h | h | h
      · exact absurd (PyData.str.inj h) (by decide +kernel)
      · cases h
      · cases h
      · cases h
  | .kinds own s, wf, hl => by
    have hl' : s.length ≤ 12 := hl
    refine ⟨fun d hd => ?_, ?_, fun ds e => ?_⟩
    · simp only [List.mem_cons, List.not_mem_nil, or_false] at hd
      rcases hd with rfl | rfl | rfl
      · exact sh_str wd_kinds
      · exact sh_int (small_abs wf.1)
      · exact sh_seen hm wf.2
    · show ("kinds" : Str).cps.size + 1 + (0 + 1 + (PyData.bulkAll (s.map PyData.int) + 1 + 0)) ≤ 60
      rw [bulk_ints, show ("kinds" : Str).cps.size = 5 by decide +kernel]; omega
    · rw [← PyData.tuple.inj e]
      exact ⟨by show 3 ≤ 4; decide, fun _ => by show 3 ≤ 3; decide⟩
  | .next s, wf, hl => by
    have hl' : s.length ≤ 12 := hl
    refine ⟨fun d hd => ?_, ?_, fun ds e => ?_⟩
    · simp only [List.mem_cons, List.not_mem_nil, or_false] at hd
      rcases hd with rfl | rfl
      · exact sh_str wd_next
      · exact sh_seen hm wf
    · show ("next" : Str).cps.size + 1 + (PyData.bulkAll (s.map PyData.int) + 1 + 0) ≤ 60
      rw [bulk_ints, show ("next" : Str).cps.size = 4 by decide +kernel]; omega
    · rw [← PyData.tuple.inj e]
      exact ⟨by show 2 ≤ 4; decide, fun _ => by show 2 ≤ 3; decide⟩
  | .free s, wf, hl => by
    have hl' : s.length ≤ 12 := hl
    refine ⟨fun d hd => ?_, ?_, fun ds e => ?_⟩
    · simp only [List.mem_cons, List.not_mem_nil, or_false] at hd
      rcases hd with rfl | rfl
      · exact sh_str wd_free
      · exact sh_seen hm wf
    · show ("free" : Str).cps.size + 1 + (PyData.bulkAll (s.map PyData.int) + 1 + 0) ≤ 60
      rw [bulk_ints, show ("free" : Str).cps.size = 4 by decide +kernel]; omega
    · rw [← PyData.tuple.inj e]
      exact ⟨by show 2 ≤ 4; decide, fun _ => by show 2 ≤ 3; decide⟩
end Lh

namespace Lh
open PySem PySem.Spec PyProof.Rows L2
theorem okD_ints {n : Nat} {ns : List Int} (h : ns.length ≤ 8388608) : okD (n + 1) (.tuple (ns.map PyData.int)) := by
  refine ⟨by rw [List.length_map]; exact h, fun d hd => ?_⟩
  obtain ⟨x, _, rfl⟩ := List.mem_map.mp hd
  cases n <;> trivial
def wayD (nss : List (List Int)) : PyData := .list (nss.map fun ms => .tuple (ms.map PyData.int))
theorem okD_way {n : Nat} {nss : List (List Int)} (h : nss.length ≤ 8388608) (h2 : ∀ ms ∈ nss, ms.length ≤ 8388608) : okD (n + 2) (wayD nss) := by
  refine ⟨by rw [List.length_map]; exact h, fun d hd => ?_⟩
  obtain ⟨x, hx, rfl⟩ := List.mem_map.mp hd
  exact okD_ints (h2 x hx)
theorem tup_nb {bx : Addr} {c : Int} {H : Hp} {t : Addr} {xs : List V} (b : Box bx c H) (h : TupAt H t xs) : t ≠ bx := by
  obtain ⟨_, _, _, hb, _⟩ := b
  rcases h with h | ⟨o, _, h⟩
  · exact ne_of h hb (by intro z; cases z)
  · exact ne_of h hb (by intro z; cases z)
theorem StandsAt.rp {bx : Addr} {c : Int} {H : Hp} (b : Box bx c H) : ∀ {vs : List V} {nss : List (List Int)}, StandsAt H vs nss → RpAll bx H vs (nss.map fun ms => .tuple (ms.map PyData.int))
  | _, _, .nil => .nil
  | _, _, .cons ⟨t, e, h⟩ r => by
    subst e
    exact .cons (.tup h (tup_nb b h) (RpAll.ints _)) (StandsAt.rp b r)
theorem StandsAt.drop {H : Hp} : ∀ {vs : List V} {nss : List (List Int)} (k : Nat), StandsAt H vs nss → StandsAt H (vs.drop k) (nss.drop k)
  | _, _, 0, h => h
  | _, _, k + 1, .nil => .nil
  | _, _, k + 1, .cons _ r => StandsAt.drop k r
theorem StandsAt.take {H : Hp} : ∀ {vs : List V} {nss : List (List Int)} (k : Nat), StandsAt H vs nss → StandsAt H (vs.take k) (nss.take k)
  | _, _, 0, h => .nil
  | _, _, k + 1, .nil => .nil
  | _, _, k + 1, .cons h r => .cons h (StandsAt.take k r)
/-- what stands while a hall is asked -/
structure F7 (C bx : Addr) (c : Int) (H0 : Hp) (l x t : Addr) (us : List V) (rs : List Rule) (ns : List Int) (Hk : Hp) : Prop where
  e : Ext bx H0 Hk
  b : Box bx c Hk
  hl : Hk l = some (.lst us)
  ra : RulesAt Hk us rs
  hA : HallAt C Hk x rs
  hS : TupAt Hk t (ns.map V.int)
theorem F7.same {C bx : Addr} {c : Int} {H0 : Hp} {l x t : Addr} {us : List V} {rs : List Rule} {ns : List Int} {Hk H' : Hp} (f : F7 C bx c H0 l x t us rs ns Hk) (s : Same Hk H') : F7 C bx c H0 l x t us rs ns H' :=
  ⟨f.e.trans (Ext.of s), f.b.same s, s _ _ f.hl, f.ra.keep (Keep.same s), f.hA.keep s, f.hS.keep (Keep.same s)⟩
theorem F7.draw {C bx : Addr} {c c' : Int} {H0 : Hp} {l x t : Addr} {us : List V} {rs : List Rule} {ns : List Int} {Hk H' : Hp} (f : F7 C bx c H0 l x t us rs ns Hk) (nl : l ≠ bx) (e : Ext bx Hk H') (b : Box bx c' H') : F7 C bx c' H0 l x t us rs ns H' :=
  ⟨f.e.trans e, b, e _ _ nl f.hl, f.ra.keep (Keep.ext e f.b), f.hA.ext e f.b, f.hS.keep (Keep.ext e f.b)⟩
theorem F7.lst {C bx : Addr} {c : Int} {H0 : Hp} {l x t d : Addr} {us ys zs : List V} {rs : List Rule} {ns : List Int} {Hk : Hp} (f : F7 C bx c H0 l x t us rs ns Hk) (hd : Hk d = some (.lst ys)) (n1 : d ≠ bx) (n2 : l ≠ d) (n0 : H0 d = none) : F7 C bx c H0 l x t us rs ns (upd Hk d (.lst zs)) := by
  have kT := keep_lst (ys := zs) hd
  refine ⟨f.e.new n0, f.b.at n1, by rw [upd_ne n2]; exact f.hl, f.ra.keep kT, ?_, f.hS.keep kT⟩
  obtain ⟨dx, t', vs, h1, h2, h3⟩ := f.hA
  refine ⟨dx, t', vs, ?_, h2.keep kT, h3.keep kT⟩
  rw [upd_ne (ne_of h1 hd (by intro z; cases z))]
  exact h1
def tupD (ms : List Int) : PyData := .tuple (ms.map PyData.int)
theorem TupAt.rpI {bx : Addr} {c : Int} {H : Hp} (b : Box bx c H) {t : Addr} {ms : List Int} (h : TupAt H t (ms.map V.int)) : Rp bx H (.ref t) (tupD ms) := .tup h (tup_nb b h) (RpAll.ints _)
theorem okD_tups {n : Nat} {ds : List (List Int)} (h : ds.length ≤ 8388608) (h2 : ∀ ms ∈ ds, ms.length ≤ 8388608) : okD (n + 2) (.list (ds.map tupD)) := okD_way h h2
theorem okD_intsL {n : Nat} {ns : List Int} (h : ns.length ≤ 8388608) : okD (n + 1) (.list (ns.map PyData.int)) := by
  refine ⟨by rw [List.length_map]; exact h, fun d hd => ?_⟩
  obtain ⟨x, _, rfl⟩ := List.mem_map.mp hd
  cases n <;> trivial
def spRight : Sp := fun vs H Q _ => ∃ bx : Addr, vs = [.ref bx] ∧ Box bx 0 H ∧ ∀ H', Ext bx H H' → Q (.bl true) H'
end Lh

namespace Lh
open PySem PySem.Spec PyProof.Rows L2
theorem seq_ifs {t : TT} {a b u : TS} {D : Ends} {σ : L2.St} {H : Hp} (R : Bool → Hp → Prop) (h : ∀ Q : Bool → Hp → Prop, (∀ c H', R c H' → Q c H') → t σ H Q) (ha : ∀ H', R true H' → a { D with nx := u D } σ H') (hb : ∀ H', R false H' → b { D with nx := u D } σ H') : tSeq (tIfS t a b) u D σ H := by
  refine h _ fun c H' r => ?_
  cases c with
  | true => exact iteP rfl (ha H' r)
  | false => exact iteN rfl (hb H' r)
theorem go_next {D : Ends} {σ : L2.St} {H : Hp} (h : D.nx σ H) : tNext D σ H := h
theorem RpAll.take {bx : Addr} {H : Hp} : ∀ {us : List V} {ds : List PyData} (k : Nat), RpAll bx H us ds → RpAll bx H (us.take k) (ds.take k)
  | _, _, 0, _ => .nil
  | _, _, _ + 1, .nil => .nil
  | _, _, k + 1, .cons h r => .cons h (RpAll.take k r)
theorem RpAll.drop {bx : Addr} {H : Hp} : ∀ {us : List V} {ds : List PyData} (k : Nat), RpAll bx H us ds → RpAll bx H (us.drop k) (ds.drop k)
  | _, _, 0, h => h
  | _, _, _ + 1, .nil => .nil
  | _, _, k + 1, .cons _ r => RpAll.drop k r
theorem RpAll.rev {bx : Addr} {H : Hp} : ∀ {us : List V} {ds : List PyData}, RpAll bx H us ds → RpAll bx H us.reverse ds.reverse
  | _, _, .nil => .nil
  | _, _, .cons h r => by
    rw [List.reverse_cons, List.reverse_cons]
    exact (RpAll.rev r).append (.cons h .nil)
/-- what d may be bent to -/
structure BentOk (n : Nat) (d d' : PyData) : Prop where
  sh : Sh (n + 2) d'
  bk : d'.bulk ≤ 2 * d.bulk + 10
  ln : ∀ k, Len0 k d → Len0 (k + 1) d'
theorem bent_pool {n : Nat} {d e : PyData} (h : Sh 2 e) (b : e.bulk ≤ 10) (l : ∀ ds, e = .tuple ds → ds.length ≤ 2) : BentOk n d e :=
  ⟨h.mono (by omega), by omega, fun k _ ds q => ⟨by have := l ds q; omega, fun _ => by have := l ds q; omega⟩⟩
theorem bent_list {n : Nat} {ds : List PyData} (h : Sh n (.tuple ds)) : BentOk n (.tuple ds) (.list ds) := by
  cases n with
  | zero => exact h.elim
  | succ n => exact ⟨fun x hx => (h x hx).up2, by show PyData.bulkAll ds ≤ 2 * PyData.bulkAll ds + 10; omega, fun k _ es e => by cases e⟩
theorem bent_tup {n : Nat} {ds es : List PyData} (sh : ∀ x ∈ es, Sh (n + 2) x) (b : PyData.bulkAll es ≤ 2 * PyData.bulkAll ds + 10) (l : es.length ≤ ds.length ∨ es.length = ds.length + 1 ∧ ∀ x ∈ es, x ∈ ds) : BentOk (n + 1) (.tuple ds) (.tuple es) := by
  refine ⟨sh, b, fun k h fs e => ?_⟩
  rw [← PyData.tuple.inj e]
  obtain ⟨l1, l2⟩ := h ds rfl
  rcases l with l | ⟨l, m⟩
  · exact ⟨by omega, fun _ => by omega⟩
  · exact ⟨by omega, fun hm => by have := l2 (m _ hm); omega⟩
section
variable {P : Program} {w : World} {K : PySem.W.Frag} {mg : Str → Option Value} {base : Heap}
def spBentQ : Nat → Sp
  | 0 => fun _ _ _ _ => False
  | n + 1 => fun vs H Q _ => ∃ (bx : Addr) (c : Int) (v : V) (d : PyData), vs = [.ref bx, v] ∧ c + 4 * (n + 1) ≤ 1000000000 ∧ Box bx c H ∧ Rp bx H v d ∧ Sh n d ∧ n ≤ 50 ∧ d.bulk ≤ 900 ∧
    ∀ (v' : V) (d' : PyData) (H' : Hp), Ext bx H H' → Box bx (c + 4 * (n + 1)) H' → Rp bx H' v' d' → BentOk n d d' → Q v' H'
set_option maxHeartbeats 16000000 in
theorem ok_bentQ (T : Txt K mg w) : ∀ n, FnOk P w K mg base CX0 (n + 2) T.f_bent T.fd_bent p_bent (spBentQ n)
  | 0 => ⟨fun _ _ _ _ h => h.elim, fun _ _ _ _ _ _ _ _ _ _ _ _ _ h => h.elim⟩
  | n + 1 => by
    have G_take := ok_take (P := P) (w := w) (base := base) T
    have G_one_of := ok_one_of (P := P) (w := w) (base := base) T
    have G_bent : FnOk P w K mg base CX0 (n + 2) T.f_bent T.fd_bent p_bent (spBentQ n) := ok_bentQ T n
    refine T.F_bent.ok sc_bent (fun vs H Q E h => ?_) (fun cdv A outer s H vs Q E hr h => ?_)
    · obtain ⟨bx, c, v, d, rfl, _⟩ := h
      rfl
    · obtain ⟨bx, c, v, d, rfl, c1, hB, hv, hs, n50, bk, q⟩ := h
      refine ⟨_, (pss_cons (ps_set (i := 2) sc_bent.nd rfl (.inl rfl) (pe_lst (pa_cons pe_int (pa_cons pe_int (pa_cons (pe_un un_neg pe_int) (pa_cons pe_int (pa_cons pe_bl (pa_cons pe_bl (pa_cons pe_non (pa_cons pe_str (pa_cons pe_str (pa_cons pe_str (pa_cons pe_str (pa_cons (pe_tup pa_nil) (pa_cons (pe_lst pa_nil) (pa_cons (pe_tup (pa_cons pe_int pa_nil)) (pa_cons (pe_tup (pa_cons (pe_tup (pa_cons pe_int (pa_cons pe_int pa_nil))) pa_nil)) (pa_cons (pe_tup (pa_cons pe_int (pa_cons pe_int pa_nil))) (pa_cons (pe_op op_pow pe_int pe_int) pa_nil)))))))))))))))))))
      (pss_cons (ps_if (PW.pt (pw_or (pt_not (pt_val (pe_callB call_isi (by rfl) T.m_isinstance (by decide +kernel) (pa_cons (pv 1) (pa_cons (pe_bltn (v := .ty "tuple") (by rfl) T.m_tuple (by decide +kernel) rfl) pa_nil))))) (pw_or (pt_cmpR (op_eqD hr.units) (pv 1) (pe_tup pa_nil) (nomark _)) (pw_or1 (pt_cmpR op_eq (pe_call G_take (hr.mono (by omega)) (by rfl) T.g_take T.F_take.kp T.b_take .nil pass0 (pa_cons (pv 0) (pa_cons pe_int pa_nil))) pe_int (nomark _))))))
        (pss_one (ps_ret (pe_ifExp (PW.pt (pw_and (pt_val (pe_callB call_isi (by rfl) T.m_isinstance (by decide +kernel) (pa_cons (pv 1) (pa_cons (pe_bltn (v := .ty "tuple") (by rfl) T.m_tuple (by decide +kernel) rfl) pa_nil)))) (pw_and1 (pt_cmpR op_eq (pe_call G_take (hr.mono (by omega)) (by rfl) T.g_take T.F_take.kp T.b_take .nil pass0 (pa_cons (pv 0) (pa_cons pe_int pa_nil))) pe_int (nomark _))))) (pe_callTy call_list_of (by rfl) T.m_list (by decide +kernel) (pa_cons (pv 1) pa_nil)) (pe_call G_one_of (hr.mono (by omega)) (by rfl) T.g_one_of T.F_one_of.kp T.b_one_of .nil pass0 (pa_cons (pv 0) (pa_cons (pv 2) pa_nil))))))
        pss_nil)
      (pss_cons (ps_par (i := 3) (j := 4) (by rfl) sc_bent.nd rfl rfl (by decide) rfl rfl (pa_cons (pe_call G_take (hr.mono (by omega)) (by rfl) T.g_take T.F_take.kp T.b_take .nil pass0 (pa_cons (pv 0) (pa_cons (pe_callB call_len_seq (by rfl) T.m_len (by decide +kernel) (pa_cons (pv 1) pa_nil)) pa_nil))) (pa_cons (pe_call G_take (hr.mono (by omega)) (by rfl) T.g_take T.F_take.kp T.b_take .nil pass0 (pa_cons (pv 0) (pa_cons pe_int pa_nil))) pa_nil)) (by rfl))
      (pss_cons (ps_if (pt_cmpR op_eq (pv 4) pe_int (nomark _))
        (pss_one (ps_ret (pe_op op_catA (pe_slice sl_tupA (pv 1) po_none (po_some (pv 3))) (pe_slice sl_tupA (pv 1) (po_some (pe_op op_add (pv 3) pe_int)) po_none))))
        pss_nil)
      (pss_cons (ps_if (pt_cmpR op_eq (pv 4) pe_int (nomark _))
        (pss_one (ps_ret (pe_op op_catA (pe_op op_catA (pe_slice sl_tupA (pv 1) po_none (po_some (pv 3))) (pe_tup (pa_cons (pe_ix ix_tup (pv 1) (pv 3) (fun _ _ => rfl)) pa_nil))) (pe_slice sl_tupA (pv 1) (po_some (pv 3)) po_none))))
        pss_nil)
      (pss_cons (ps_if (pt_cmpR op_eq (pv 4) pe_int (nomark _))
        (pss_one (ps_ret (pe_revT (pv 1))))
        pss_nil)
      (pss_one (ps_ret (pe_op op_catA (pe_op op_catA (pe_slice sl_tupA (pv 1) po_none (po_some (pv 3))) (pe_tup (pa_cons (pe_call G_bent (hr.mono (by omega)) (by rfl) T.g_bent T.F_bent.kp T.b_bent .nil pass0 (pa_cons (pv 0) (pa_cons (pe_ix ix_tup (pv 1) (pv 3) (fun _ _ => rfl)) pa_nil))) pa_nil))) (pe_slice sl_tupA (pv 1) (po_some (pe_op op_add (pv 3) pe_int)) po_none)))))))))), ?_⟩
      -- the pool
      refine ⟨1, rfl, by show 0 ≤ sizeLine; decide, fun e1 ne1 => ⟨by show 0 ≤ sizeLine; decide, fun l1 nl1 => ⟨by show 1 ≤ sizeLine; decide, fun t1 nt1 => ⟨by show 2 ≤ sizeLine; decide, fun t2 nt2 => ⟨by show 1 ≤ sizeLine; decide, fun t3 nt3 => ⟨by show 2 ≤ sizeLine; decide, fun t4 nt4 => ⟨10, 9, rfl, rfl, ⟨by decide, by decide, by decide⟩, by show 17 ≤ sizeLine; decide, fun L nL => ?_⟩⟩⟩⟩⟩⟩⟩
      have y1 := same_upd (o := .tup []) ne1
      have g1 := upd_same (H := H) (a := e1) (o := HO.tup [])
      have m1 := hB.ne ne1
      have b1 := hB.same y1
      generalize upd H e1 (.tup []) = H1 at y1 g1 b1 nl1 nt1 nt2 nt3 nt4 nL ⊢
      have y2 := same_upd (o := .lst []) nl1
      have g2 := upd_same (H := H1) (a := l1) (o := HO.lst [])
      have m2 := b1.ne nl1
      have b2 := b1.same y2
      generalize upd H1 l1 (.lst []) = H2 at y2 g2 b2 nt1 nt2 nt3 nt4 nL ⊢
      have y3 := same_upd (o := .tup [.int 0]) nt1
      have g3 := upd_same (H := H2) (a := t1) (o := HO.tup [.int 0])
      have m3 := b2.ne nt1
      have b3 := b2.same y3
      generalize upd H2 t1 (.tup [.int 0]) = H3 at y3 g3 b3 nt2 nt3 nt4 nL ⊢
      have y4 := same_upd (o := .tup [.int 0, .int 1]) nt2
      have g4 := upd_same (H := H3) (a := t2) (o := HO.tup [.int 0, .int 1])
      have m4 := b3.ne nt2
      have b4 := b3.same y4
      generalize upd H3 t2 (.tup [.int 0, .int 1]) = H4 at y4 g4 b4 nt3 nt4 nL ⊢
      have y5 := same_upd (o := .tup [.ref t2]) nt3
      have g5 := upd_same (H := H4) (a := t3) (o := HO.tup [.ref t2])
      have m5 := b4.ne nt3
      have b5 := b4.same y5
      generalize upd H4 t3 (.tup [.ref t2]) = H5 at y5 g5 b5 nt4 nL ⊢
      have y6 := same_upd (o := .tup [.int 1, .int 0]) nt4
      have g6 := upd_same (H := H5) (a := t4) (o := HO.tup [.int 1, .int 0])
      have m6 := b5.ne nt4
      have b6 := b5.same y6
      generalize upd H5 t4 (.tup [.int 1, .int 0]) = H6 at y6 g6 b6 nL ⊢
      dsimp only
      generalize eten : (10 : Int) ^ (9 : Int).toNat = ten
      have eten : ten = 1000000000 := eten.symm
      obtain ⟨os, eos⟩ : ∃ os : List V, [V.int 0, .int 1, .int (-1), .int 7, .bl true, .bl false, .non, .str (Str.ofString ""), .str (Str.ofString "sum"), .str (Str.ofString "held"), .str (Str.ofString "free"), .ref e1, .ref l1, .ref t1, .ref t3, .ref t4, .int ten] = os := ⟨_, rfl⟩
      have los : os.length = 17 := by rw [← eos]; rfl
      have y7 := same_upd (o := .lst os) nL
      have g7 := upd_same (H := H6) (a := L) (o := HO.lst os)
      have m7 := b6.ne nL
      have b7 := b6.same y7
      have u7 := y7
      have u6 := y6.trans u7
      have u5 := y5.trans u6
      have u4 := y4.trans u5
      have u3 := y3.trans u4
      have u2 := y2.trans u3
      have u1 := y1.trans u2
      have pool : ∀ x ∈ os, ∃ e, Rp bx (upd H6 L (.lst os)) x e ∧ BentOk n d e := fun x hx => by
        rw [← eos] at hx
        simp only [List.mem_cons, List.not_mem_nil, or_false] at hx
        have int : ∀ i : Int, i.natAbs < 10 ^ 12 → ∃ e, Rp bx (upd H6 L (.lst os)) (.int i) e ∧ BentOk n d e := fun i hi => ⟨.int i, .int i, bent_pool (sh_int hi) (by show 0 ≤ 10; decide) fun ds e => by cases e⟩
        have str : ∀ s : Str, s ∈ wds → ∃ e, Rp bx (upd H6 L (.lst os)) (.str s) e ∧ BentOk n d e := fun s hw => ⟨.str s, .str s, bent_pool (sh_str hw) (by have := (wds_small hw).1; show s.cps.size ≤ 10; omega) fun ds e => by cases e⟩
        have z0 : ∀ m, Sh m (.int 0) := fun m => sh_int (by decide)
        have z1 : ∀ m, Sh m (.int 1) := fun m => sh_int (by decide)
        rcases hx with rfl | rfl | rfl | rfl | rfl | rfl | rfl | rfl | rfl | rfl | rfl | rfl | rfl | rfl | rfl | rfl | rfl
        · exact int 0 (by decide)
        · exact int 1 (by decide)
        · exact int (-1) (by decide)
        · exact int 7 (by decide)
        · exact ⟨.bool true, .bl true, bent_pool sh_bool (by show 0 ≤ 10; decide) fun ds e => by cases e⟩
        · exact ⟨.bool false, .bl false, bent_pool sh_bool (by show 0 ≤ 10; decide) fun ds e => by cases e⟩
        · exact ⟨.none, .non, bent_pool sh_none (by show 0 ≤ 10; decide) fun ds e => by cases e⟩
        · exact str _ (by decide +kernel)
        · exact str _ wd_sum
        · exact str _ wd_held
        · exact str _ wd_free
        · exact ⟨.tuple [], .tup (.inl (u2 _ _ g1)) m1 .nil, bent_pool (fun x hx => absurd hx (by simp)) (by show 0 ≤ 10; decide) fun ds e => by rw [← PyData.tuple.inj e]; show 0 ≤ 2; decide⟩
        · exact ⟨.list [], .lst (u3 _ _ g2) m2 .nil, bent_pool (fun x hx => absurd hx (by simp)) (by show 0 ≤ 10; decide) fun ds e => by cases e⟩
        · exact ⟨.tuple [.int 0], .tup (.inl (u4 _ _ g3)) m3 (.cons (.int 0) .nil), bent_pool (fun x hx => by rw [List.mem_singleton.mp hx]; exact z0 _) (by show 1 ≤ 10; decide) fun ds e => by rw [← PyData.tuple.inj e]; show 1 ≤ 2; decide⟩
        · refine ⟨.tuple [.tuple [.int 0, .int 1]], .tup (.inl (u6 _ _ g5)) m5 (.cons (.tup (.inl (u5 _ _ g4)) m4 (.cons (.int 0) (.cons (.int 1) .nil))) .nil), bent_pool (fun x hx => ?_) (by show 3 ≤ 10; decide) fun ds e => by rw [← PyData.tuple.inj e]; show 1 ≤ 2; decide⟩
          rw [List.mem_singleton.mp hx]
          intro z hz
          rcases List.mem_cons.mp hz with rfl | hz
          · exact z0 _
          · rw [List.mem_singleton.mp hz]; exact z1 _
        · refine ⟨.tuple [.int 1, .int 0], .tup (.inl (u7 _ _ g6)) m6 (.cons (.int 1) (.cons (.int 0) .nil)), bent_pool (fun x hx => ?_) (by show 2 ≤ 10; decide) fun ds e => by rw [← PyData.tuple.inj e]; show 2 ≤ 2; decide⟩
          rcases List.mem_cons.mp hx with rfl | hx
          · exact z1 _
          · rw [List.mem_singleton.mp hx]; exact z0 _
        · exact int ten (by omega)
      rw [eos]
      generalize upd H6 L (.lst os) = H7 at y7 g7 b7 u1 pool ⊢
      clear y1 y2 y3 y4 y5 y6 y7 u2 u3 u4 u5 u6 u7 g1 g2 g3 g4 g5 g6 b1 b2 b3 b4 b5 b6 m1 m2 m3 m4 m5 m6 ne1 nl1 nt1 nt2 nt3 nt4 nL eos
      have hv7 := hv.ext (Ext.of (bx := bx) u1)
      have e07 : Ext bx H H7 := Ext.of u1
      obtain ⟨t, ty, tt⟩ := ty_tup (K := K) hv7
      refine seq_ifs (fun cc Hx => Ext bx H7 Hx ∧ Box bx (c + 1) Hx ∧ (cc = false → ∃ ds, d = .tuple ds ∧ ds ≠ [])) (fun Q' hQ' => ?_) (fun Hx hx => ?_) (fun Hx hx => ?_)
      · rcases tt with ⟨⟨ds, rfl⟩, kt⟩ | ⟨nt, kt⟩
        · refine rd_isi (x := v) (T := t) rfl ty kt ⟨_, rfl, iteN rfl ?_⟩
          refine ⟨v, rfl, by show 0 ≤ sizeLine; decide, fun z nz => ?_⟩
          have sz := same_upd (o := .tup []) nz
          have hz := upd_same (H := H7) (a := z) (o := HO.tup [])
          have bz := b7.same sz
          generalize upd H7 z (.tup []) = H8 at sz hz bz ⊢
          have hv8 := hv7.ext (Ext.of (bx := bx) sz)
          have sh8 := sh_shaped hs (by omega)
          cases hv8 with
          | tup ht nb ra =>
            refine ⟨.tuple ds, .tuple [], .tup ht.sq (RpAll.dp ra), .tup (.inl (.inl hz)) .nil, sh8, (by decide +kernel), _, rfl, ite2 (fun _ => hQ' _ _ ⟨Ext.of sz, bz.mono (by omega), fun z => absurd z (by decide)⟩) (fun ne => ?_)⟩
            have ne : ds ≠ [] := fun e => ne (by rw [e]; rfl)
            refine ⟨.ref bx, rfl, bx, _, 4, rfl, by decide, by decide, by omega, bz, fun r1 H9 _ _ e9 b9 => ⟨rfl, _, rfl, hQ' _ _ ⟨(Ext.of sz).trans e9, b9, fun _ => ⟨ds, rfl, ne⟩⟩⟩⟩
        · exact rd_isi (x := v) (T := t) rfl ty kt ⟨_, rfl, iteP rfl (hQ' _ _ ⟨Ext.refl _, b7.mono (by omega), fun z => absurd z (by decide)⟩)⟩
      · obtain ⟨ex, bxx, _⟩ := hx
        have hvx := hv7.ext ex
        have pick1 : ∀ (Hy : Hp) (cy : Int), cy ≤ c + 2 → Ext bx H7 Hy → Box bx cy Hy → spOneOf [.ref bx, .ref L] Hy Q E0 := fun Hy cy hcy ey by_ => by
          refine ⟨bx, L, cy, os, rfl, ey _ _ m7 g7, m7, by omega, by omega, by omega, by_, fun x Hz mx ez bz => ?_⟩
          obtain ⟨e, re, oe⟩ := pool x mx
          exact q x e Hz (e07.trans (ey.trans ez)) (bz.mono (by omega)) (re.ext (ey.trans ez)) oe
        rcases tt with ⟨⟨ds, rfl⟩, kt⟩ | ⟨nt, kt⟩
        · have tyx := hvx.ty (K := K)
          cases hvx with
          | tup ht nb ra =>
            rename_i a xs
            refine rd_isi (x := .ref a) (T := "tuple") rfl tyx (by decide +kernel : kitB "tuple" "tuple" = some true) ⟨_, rfl, iteP rfl ?_⟩
            refine ⟨.ref bx, rfl, bx, _, 3, rfl, by decide, by decide, by omega, bxx, fun r1 H9 _ _ e9 b9 => ⟨rfl, _, rfl, ite2 (fun _ => ?_) (fun _ => ?_)⟩⟩
            · have ht9 := ht.ext e9 nb
              refine ⟨.ref a, rfl, a, _, rfl, .inr ht9.sq, fun l nl => ?_⟩
              have sl := same_upd (o := .lst xs) nl
              exact q (.ref l) (.list ds) _ (e07.trans ((ex.trans e9).trans (Ext.of sl))) ((b9.same sl).mono (by omega)) (.lst upd_same (b9.ne nl) (RpAll.ext (e9.trans (Ext.of sl)) ra)) (bent_list hs)
            · exact ⟨.ref bx, rfl, .ref L, rfl, pick1 H9 _ (by omega) (ex.trans e9) b9⟩
        · have tyx := hvx.ty (K := K)
          obtain ⟨t', ty', ⟨⟨ds, rfl⟩, _⟩ | ⟨_, kt'⟩⟩ := ty_tup (K := K) hvx
          · exact absurd rfl (nt ds)
          · exact rd_isi (x := v) (T := t') rfl ty' kt' ⟨_, rfl, iteN rfl ⟨.ref bx, rfl, .ref L, rfl, pick1 Hx _ (by omega) ex bxx⟩⟩
      · obtain ⟨ex, bxx, hh⟩ := hx
        obtain ⟨ds, rfl, ne⟩ := hh rfl
        cases n with
        | zero => exact hs.elim
        | succ n =>
        have hsd : ∀ x ∈ ds, Sh n x := hs
        have bk' : PyData.bulkAll ds ≤ 900 := bk
        cases hv7.ext ex with
        | tup ht nb ra =>
          rename_i a xs
          have lx : xs.length = ds.length := ra.length
          have ld := bulk_len ds
          have l0 : 0 < ds.length := List.length_pos_iff.mpr ne
          refine go_next ?_
          dsimp only
          refine ⟨.ref bx, rfl, .ref a, rfl, a, _, rfl, .inr ht.sq, bx, _, _, rfl, by omega, by omega, by omega, bxx, fun at1 K1 a0 a1 ek1 bk1 => ?_⟩
          refine ⟨.ref bx, rfl, bx, _, 6, rfl, by decide, by decide, by omega, bk1, fun way K2 w0 w1 ek2 bk2 => ⟨_, _, rfl, ?_⟩⟩
          obtain ⟨k, ek⟩ : ∃ k : Nat, at1 = (k : Int) := ⟨at1.toNat, by omega⟩
          subst ek
          have kl : k < xs.length := by omega
          have kd : k < ds.length := by omega
          have e72 := ex.trans (ek1.trans ek2)
          have ht2 := (ht.ext ek1 nb).ext ek2 nb
          have ra2 := RpAll.ext (ek1.trans ek2) ra
          obtain ⟨dk, fk, rk⟩ := ra2.at (List.getElem?_eq_getElem kl)
          rw [List.getElem?_eq_getElem kd] at fk
          have fk := Option.some.inj fk
          subst fk
          have ak : atI xs (k : Int) = some xs[k] := atI_nat (j := k) (List.getElem?_eq_getElem kl)
          have bc := bulk_cut kd
          have hsk : Sh n ds[k] := hsd _ (List.getElem_mem kd)
          have e02 := e07.trans e72
          have fin : ∀ (cc : Addr) (ys : List V) (es : List PyData) (Hz : Hp) (cz : Int), Ext bx K2 Hz → Box bx cz Hz → cz ≤ c + 4 * ((n + 1 : Nat) + 1) → TupAt Hz cc ys → RpAll bx Hz ys es → BentOk (n + 1) (.tuple ds) (.tuple es) → Q (.ref cc) Hz := fun cc ys es Hz cz ez bz hcz hc rc ok =>
            q (.ref cc) (.tuple es) Hz (e02.trans ez) (bz.mono hcz) (.tup hc (tup_nb bz hc) rc) ok
          have shl : ∀ x ∈ ds, Sh (n + 2) x := fun x hx => (hsd x hx).up2
          have sz : ∀ m : Nat, m ≤ 2000 → m ≤ sizeLine := fun m h => Nat.le_trans h (by decide)
          dsimp only
          refine ⟨.int way, rfl, rfl, _, rfl, ite2 (fun c0 => ?_) (fun c0 => ?_)⟩
          · -- without it
            refine ⟨.ref a, rfl, .int (k : Int), rfl, k, rfl, sl_tup_use (lo := none) (hi := some (k : Int)) ht2 fun c1 K3 s3 h1 => ?_⟩
            rw [cut_to xs k (by omega)] at h1
            refine ⟨.ref a, rfl, .int (k : Int), rfl, k, 1, rfl, rfl, k + 1, rfl, nopart_use <| sl_tup_use (lo := some ((k : Int) + 1)) (hi := none) (ht2.keep (Keep.same s3)) fun c2 K4 s4 h2 => ?_⟩
            rw [show ((k : Int) + 1) = ((k + 1 : Nat) : Int) by omega, cut_from xs (k + 1) (by omega)] at h2
            refine cat_use (h1.keep (Keep.same s4)) h2 (sz _ (by rw [List.length_take, List.length_drop]; omega)) fun c3 K5 s5 h3 => ?_
            have sAll := s3.trans (s4.trans s5)
            have rr := RpAll.ext (Ext.of (bx := bx) sAll) ra2
            refine fin c3 _ (ds.take k ++ ds.drop (k + 1)) K5 _ (Ext.of sAll) (bk2.same sAll) (by omega) h3 ((rr.take k).append (rr.drop (k + 1))) (bent_tup (fun x hx => ?_) ?_ (.inl ?_))
            · rcases List.mem_append.mp hx with h | h
              · exact shl x (List.mem_of_mem_take h)
              · exact shl x (List.mem_of_mem_drop h)
            · rw [bulk_app]; omega
            · rw [List.length_append, List.length_take, List.length_drop]; omega
          refine ⟨.int way, rfl, rfl, _, rfl, ite2 (fun c0 => ?_) (fun c0 => ?_)⟩
          · -- twice
            refine ⟨.ref a, rfl, .int (k : Int), rfl, k, rfl, sl_tup_use (lo := none) (hi := some (k : Int)) ht2 fun c1 K3 s3 h1 => ?_⟩
            rw [cut_to xs k (by omega)] at h1
            refine ⟨.ref a, rfl, .int (k : Int), rfl, a, _, _, _, rfl, rfl, (ht2.keep (Keep.same s3)).sq, ak, by show 1 ≤ sizeLine; decide, fun o no => ?_⟩
            have s4 := same_upd (o := .tup [xs[k]]) no
            have ho : TupAt (upd K3 o (.tup [xs[k]])) o [xs[k]] := .inl upd_same
            generalize upd K3 o (.tup [xs[k]]) = K4 at s4 ho ⊢
            refine cat_use (h1.keep (Keep.same s4)) ho (sz _ (by rw [List.length_take]; show min k xs.length + 1 ≤ 2000; omega)) fun c2 K5 s5 h2 => ?_
            refine ⟨.ref a, rfl, .int (k : Int), rfl, k, rfl, nopart_use <| sl_tup_use (lo := some (k : Int)) (hi := none) (ht2.keep (Keep.same (s3.trans (s4.trans s5)))) fun c3 K6 s6 h3 => ?_⟩
            rw [cut_from xs k (by omega)] at h3
            refine cat_use (h2.keep (Keep.same s6)) h3 (sz _ (by rw [List.length_append, List.length_take, List.length_drop]; show min k xs.length + 1 + (xs.length - k) ≤ 2000; omega)) fun c4 K7 s7 h4 => ?_
            have sAll := s3.trans (s4.trans (s5.trans (s6.trans s7)))
            have rr := RpAll.ext (Ext.of (bx := bx) sAll) ra2
            refine fin c4 _ (ds.take k ++ [ds[k]] ++ ds.drop k) K7 _ (Ext.of sAll) (bk2.same sAll) (by omega) h4 (((rr.take k).append (.cons (rk.ext (Ext.of sAll)) .nil)).append (rr.drop k)) (bent_tup (fun x hx => ?_) ?_ (.inr ⟨?_, fun x hx => ?_⟩))
            · rcases List.mem_append.mp hx with h | h
              · rcases List.mem_append.mp h with h | h
                · exact shl x (List.mem_of_mem_take h)
                · rw [List.mem_singleton.mp h]; exact shl _ (List.getElem_mem kd)
              · exact shl x (List.mem_of_mem_drop h)
            · rw [bulk_app, bulk_app, List.drop_eq_getElem_cons kd]
              show PyData.bulkAll (ds.take k) + (ds[k].bulk + 1 + 0) + (ds[k].bulk + 1 + PyData.bulkAll (ds.drop (k + 1))) ≤ _
              omega
            · rw [List.length_append, List.length_append, List.length_take, List.length_drop]
              show min k ds.length + 1 + (ds.length - k) = _
              omega
            · rcases List.mem_append.mp hx with h | h
              · rcases List.mem_append.mp h with h | h
                · exact List.mem_of_mem_take h
                · rw [List.mem_singleton.mp h]; exact List.getElem_mem kd
              · exact List.mem_of_mem_drop h
          refine ⟨.int way, rfl, rfl, _, rfl, ite2 (fun c0 => ?_) (fun c0 => ?_)⟩
          · -- the other way round
            refine ⟨.ref a, rfl, a, _, rfl, ht2.sq, fun rp nrp => ?_⟩
            have s3 := same_upd (o := .tup xs.reverse) nrp
            exact fin rp _ ds.reverse _ _ (Ext.of s3) (bk2.same s3) (by omega) (.inl upd_same) (RpAll.ext (Ext.of s3) ra2).rev (bent_tup (fun x hx => shl x (List.mem_reverse.mp hx)) (by rw [bulk_rev]; omega) (.inl (by rw [List.length_reverse]; exact Nat.le_refl _)))
          -- a part of it bent
          refine ⟨.ref a, rfl, .int (k : Int), rfl, k, rfl, sl_tup_use (lo := none) (hi := some (k : Int)) ht2 fun c1 K3 s3 h1 => ?_⟩
          rw [cut_to xs k (by omega)] at h1
          refine ⟨.ref bx, rfl, .ref a, rfl, .int (k : Int), rfl, a, _, _, _, rfl, rfl, (ht2.keep (Keep.same s3)).sq, ak, ?_⟩
          have hb3 := bk2.same s3
          refine ⟨bx, _, xs[k], ds[k], rfl, by omega, hb3, rk.ext (Ext.of s3), hsk, by omega, by omega, fun v' d' K4 e4 b4 r4 ok => ⟨by show 1 ≤ sizeLine; decide, fun o no => ?_⟩⟩
          have h1b := tup_nb hb3 h1
          have s5 := same_upd (o := .tup [v']) no
          have ho : TupAt (upd K4 o (.tup [v'])) o [v'] := .inl upd_same
          generalize upd K4 o (.tup [v']) = K5 at s5 ho ⊢
          refine cat_use ((h1.ext e4 h1b).keep (Keep.same s5)) ho (sz _ (by rw [List.length_take]; show min k xs.length + 1 ≤ 2000; omega)) fun c2 K6 s6 h2 => ?_
          have e26 : Ext bx K2 K6 := (Ext.of s3).trans (e4.trans (Ext.of (s5.trans s6)))
          have b6 := b4.same (s5.trans s6)
          refine ⟨.ref a, rfl, .int (k : Int), rfl, k, 1, rfl, rfl, k + 1, rfl, nopart_use <| sl_tup_use (lo := some ((k : Int) + 1)) (hi := none) (ht2.ext e26 nb) fun c3 K7 s7 h3 => ?_⟩
          rw [show ((k : Int) + 1) = ((k + 1 : Nat) : Int) by omega, cut_from xs (k + 1) (by omega)] at h3
          refine cat_use (h2.keep (Keep.same s7)) h3 (sz _ (by rw [List.length_append, List.length_take, List.length_drop]; show min k xs.length + 1 + (xs.length - (k + 1)) ≤ 2000; omega)) fun c4 K8 s8 h4 => ?_
          have e28 := e26.trans (Ext.of (s7.trans s8))
          have rr := RpAll.ext e28 ra2
          have okb := ok.bk
          refine fin c4 _ (ds.take k ++ [d'] ++ ds.drop (k + 1)) K8 _ e28 (b6.same (s7.trans s8)) (by omega) h4 (((rr.take k).append (.cons (r4.ext (Ext.of (s5.trans (s6.trans (s7.trans s8))))) .nil)).append (rr.drop (k + 1))) (bent_tup (fun x hx => ?_) ?_ (.inl ?_))
          · rcases List.mem_append.mp hx with h | h
            · rcases List.mem_append.mp h with h | h
              · exact shl x (List.mem_of_mem_take h)
              · rw [List.mem_singleton.mp h]; exact ok.sh
            · exact shl x (List.mem_of_mem_drop h)
          · rw [bulk_app, bulk_app]
            show PyData.bulkAll (ds.take k) + (d'.bulk + 1 + 0) + PyData.bulkAll (ds.drop (k + 1)) ≤ _
            omega
          · rw [List.length_append, List.length_append, List.length_take, List.length_drop]
            show min k ds.length + 1 + (ds.length - (k + 1)) ≤ _
            omega
end
end Lh

namespace Lh
open PySem PySem.Spec PyProof.Rows L2
section
variable {P : Program} {w : World} {K : PySem.W.Frag} {mg : Str → Option Value} {base : Heap}
def spSeen : Sp := fun vs H Q _ => ∃ (v : V) (r : Rule), vs = [v] ∧ RuleAt H v r ∧ r.persons.length ≤ 1000 ∧ ∀ (p : Addr) (ps : List Addr) (H' : Hp), Same H H' → H p = none → H' p = some (.lst (ps.map V.ref)) → Paired (PairAtH H') ps (seenPairs r) → Q (.ref p) H'
end
end Lh

namespace Lh
open PySem PySem.Spec PyProof.Rows L2
section
variable {P : Program} {w : World} {K : PySem.W.Frag} {mg : Str → Option Value} {base : Heap}
def spTells : Sp := fun vs H Q _ => ∃ (v l : V) (r : Rule) (many : Int) (lot : List (Int × Int)), vs = [v, l] ∧ RuleAt H v r ∧ r.Wf many ∧ r.persons.length ≤ 1000 ∧ (∃ (a : Addr) (ps : List Addr), l = .ref a ∧ H a = some (.lst (ps.map V.ref)) ∧ Paired (PairAtH H) ps lot ∧ ps.length ≤ 60) ∧
  (∀ q ∈ lot, q.1 ∈ r.persons) ∧ ∀ (x : Int) (H' : Hp), Same H H' → Tell r lot x → Q (.int x) H'
end
end Lh

namespace Lh
open PySem PySem.Spec PyProof.Rows L2
section
variable {P : Program} {w : World} {K : PySem.W.Frag} {mg : Str → Option Value} {base : Heap}
def spSame : Nat → Sp
  | 0 => fun _ _ _ _ => False
  | n + 1 => fun vs H Q _ => ∃ (bx : Addr) (v u : V) (d : PyData), vs = [v, u] ∧ Rp bx H v d ∧ Rp bx H u d ∧ okD n d ∧ ∀ H', Same H H' → Q (.bl true) H'
theorem ok_same (T : Txt K mg w) : ∀ n, FnOk P w K mg base CX0 n T.f_same T.fd_same p_same (spSame n)
  | 0 => ⟨fun _ _ _ _ h => h.elim, fun _ _ _ _ _ _ _ _ _ _ _ _ _ h => h.elim⟩
  | n + 1 => by
    have G_same : FnOk P w K mg base CX0 n T.f_same T.fd_same p_same (spSame n) := ok_same T n
    refine T.F_same.ok sc_same (fun vs H Q E h => ?_) (fun cdv A outer s H vs Q E hr h => ?_)
    · obtain ⟨bx, v, u, d, rfl, _⟩ := h
      rfl
    · obtain ⟨bx, v, u, d, rfl, hv, hu, hd, q⟩ := h
      refine ⟨_, (pss_cons (ps_if (pt_val (pe_callB call_isiT (by rfl) T.m_isinstance (by decide +kernel) (pa_cons (pv 1) (pa_cons (pe_tup (pa_cons (pe_bltn (v := .ty "list") (by rfl) T.m_list (by decide +kernel) rfl) (pa_cons (pe_bltn (v := .ty "tuple") (by rfl) T.m_tuple (by decide +kernel) rfl) pa_nil))) pa_nil))))
        (pss_cons (ps_if (PW.pt (pw_or (pt_cmpR op_ne (pe_callB call_isi (by rfl) T.m_isinstance (by decide +kernel) (pa_cons (pv 0) (pa_cons (pe_bltn (v := .ty "list") (by rfl) T.m_list (by decide +kernel) rfl) pa_nil))) (pe_callB call_isi (by rfl) T.m_isinstance (by decide +kernel) (pa_cons (pv 1) (pa_cons (pe_bltn (v := .ty "list") (by rfl) T.m_list (by decide +kernel) rfl) pa_nil))) (nomark _)) (pw_or1 (pt_cmpR op_ne (pe_callB call_isi (by rfl) T.m_isinstance (by decide +kernel) (pa_cons (pv 0) (pa_cons (pe_bltn (v := .ty "tuple") (by rfl) T.m_tuple (by decide +kernel) rfl) pa_nil))) (pe_callB call_isi (by rfl) T.m_isinstance (by decide +kernel) (pa_cons (pv 1) (pa_cons (pe_bltn (v := .ty "tuple") (by rfl) T.m_tuple (by decide +kernel) rfl) pa_nil))) (nomark _)))))
          (pss_one (ps_ret pe_bl))
          pss_nil)
        (pss_one (ps_ret (pe_and (pe_cmpR op_eq (pe_callB call_len_seq (by rfl) T.m_len (by decide +kernel) (pa_cons (pv 0) pa_nil)) (pe_callB call_len_seq (by rfl) T.m_len (by decide +kernel) (pa_cons (pv 1) pa_nil)) (nomark _)) (pe_one (pe_callB (cr_all rfl) (by rfl) T.m_all (by decide +kernel) (pa_cons (pe_lc (own := [("_law_one", 2), ("_law_two", 3)]) (g := gTup K 2 (gCons (gName 2) (gCons (gName 3) gNil))) (by rfl) sc_same.nd (RZ.pi_zipA (by rfl) T.m_zip (pa_cons (pv 0) (pa_cons (pv 1) pa_nil))) (blkOk_by (own := [("_law_one", 2), ("_law_two", 3)]) (N := n_same) (sc := defScope s_same) (by decide +kernel)) (fun _ _ _ _ _ => (pg_tup rfl (pgs_cons (pg_name (i := 2) sc_same.nd rfl (.inl rfl) (.inr rfl)) (pgs_cons (pg_name (i := 3) sc_same.nd rfl (.inl rfl) (.inr rfl)) pgs_nil)))) (fun _ _ _ _ _ => pts_nil) (fun _ _ _ _ _ => (pe_call G_same hr (by rfl) T.g_same T.F_same.kp T.b_same .nil pass0 (pa_cons (pv 2) (pa_cons (pv 3) pa_nil))))) pa_nil)))))))
        pss_nil)
      (pss_cons (ps_if (PW.pt (pw_or (pt_cmpR op_isN (pv 1) pe_non (nomark _)) (pw_or1 (pt_cmpR op_isN (pv 0) pe_non (nomark _)))))
        (pss_one (ps_ret (pe_and (pe_cmpR op_isN (pv 1) pe_non (nomark _)) (pe_one (pe_cmpR op_isN (pv 0) pe_non (nomark _))))))
        pss_nil)
      (pss_cons (ps_if (PW.pt (pw_or (pt_val (pe_callB call_isi (by rfl) T.m_isinstance (by decide +kernel) (pa_cons (pv 1) (pa_cons (pe_bltn (v := .ty "bool") (by rfl) T.m_bool (by decide +kernel) rfl) pa_nil)))) (pw_or1 (pt_val (pe_callB call_isi (by rfl) T.m_isinstance (by decide +kernel) (pa_cons (pv 1) (pa_cons (pe_bltn (v := .ty "str") (by rfl) T.m_str (by decide +kernel) rfl) pa_nil)))))))
        (pss_one (ps_ret (pe_and (pe_cmpR op_eq (pe_callB call_isi (by rfl) T.m_isinstance (by decide +kernel) (pa_cons (pv 0) (pa_cons (pe_bltn (v := .ty "bool") (by rfl) T.m_bool (by decide +kernel) rfl) pa_nil))) (pe_callB call_isi (by rfl) T.m_isinstance (by decide +kernel) (pa_cons (pv 1) (pa_cons (pe_bltn (v := .ty "bool") (by rfl) T.m_bool (by decide +kernel) rfl) pa_nil))) (nomark _)) (pe_one (pe_cmpR op_eq (pv 0) (pv 1) (nomark _))))))
        pss_nil)
      (pss_one (ps_ret (pe_and (pe_callB call_isi (by rfl) T.m_isinstance (by decide +kernel) (pa_cons (pv 0) (pa_cons (pe_bltn (v := .ty "int") (by rfl) T.m_int (by decide +kernel) rfl) pa_nil))) (pe_and (pe_not (pe_callB call_isi (by rfl) T.m_isinstance (by decide +kernel) (pa_cons (pv 0) (pa_cons (pe_bltn (v := .ty "bool") (by rfl) T.m_bool (by decide +kernel) rfl) pa_nil)))) (pe_one (pe_cmpR op_eq (pv 0) (pv 1) (nomark _)))))))))), ?_⟩
      have ty : ∀ {H' : Hp} {x : V}, Same H H' → Rp bx H x d → TyX K H' x (.type (tyD d)) := fun s h => (h.ext (Ext.of s)).ty
      have sz : ∀ {m : Nat}, m ≤ 8388608 → m < sizeLine := fun h => Nat.lt_of_le_of_lt h (by decide)
      cases d with
      | none =>
        cases hv
        cases hu
        refine rd_isi2 (x := .non) (T := "NoneType") rfl (.base .non) (by decide +kernel : kitB "NoneType" "list" = some false) (by decide +kernel : kitB "NoneType" "tuple" = some false) (fun p hp => ?_) (fun p hp => .base .non)
        refine ⟨_, rfl, iteN rfl ?_⟩
        refine ⟨.non, rfl, rfl, _, rfl, iteP (decide_eq_true rfl) (iteP rfl ?_)⟩
        refine ⟨.non, rfl, rfl, _, rfl, iteP (decide_eq_true rfl) ?_⟩
        exact ⟨.non, rfl, rfl, blT (decide_eq_true rfl) (q _ (same_upd hp))⟩
      | bool b =>
        cases hv
        cases hu
        refine rd_isi2 (x := .bl b) (T := "bool") rfl (.base (.bl b)) (by decide +kernel : kitB "bool" "list" = some false) (by decide +kernel : kitB "bool" "tuple" = some false) (fun p hp => ?_) (fun p hp => .base (.bl b))
        refine ⟨_, rfl, iteN rfl ?_⟩
        refine ⟨.bl b, rfl, rfl, _, rfl, iteN (decide_eq_false (by intro z; cases z)) ⟨.bl b, rfl, rfl, _, rfl, iteN (decide_eq_false (by intro z; cases z)) ?_⟩⟩
        refine rd_isi (x := .bl b) (T := "bool") rfl (.base (.bl b)) (by decide +kernel : kitB "bool" "bool" = some true) ⟨_, rfl, iteP rfl (iteP rfl ?_)⟩
        refine rd_isi (x := .bl b) (T := "bool") rfl (.base (.bl b)) (by decide +kernel : kitB "bool" "bool" = some true) ?_
        refine rd_isi (x := .bl b) (T := "bool") rfl (.base (.bl b)) (by decide +kernel : kitB "bool" "bool" = some true) ⟨rfl, _, rfl, iteP (decide_eq_true rfl) ?_⟩
        exact ⟨.bl b, rfl, .bl b, rfl, rfl, blT (decide_eq_true rfl) (q _ (same_upd hp))⟩
      | int i =>
        cases hv
        cases hu
        refine rd_isi2 (x := .int i) (T := "int") rfl (.base (.int i)) (by decide +kernel : kitB "int" "list" = some false) (by decide +kernel : kitB "int" "tuple" = some false) (fun p hp => ?_) (fun p hp => .base (.int i))
        refine ⟨_, rfl, iteN rfl ?_⟩
        refine ⟨.int i, rfl, rfl, _, rfl, iteN (decide_eq_false (by intro z; cases z)) ⟨.int i, rfl, rfl, _, rfl, iteN (decide_eq_false (by intro z; cases z)) ?_⟩⟩
        refine rd_isi (x := .int i) (T := "int") rfl (.base (.int i)) (by decide +kernel : kitB "int" "bool" = some false) ⟨_, rfl, iteN rfl ?_⟩
        refine rd_isi (x := .int i) (T := "int") rfl (.base (.int i)) (by decide +kernel : kitB "int" "str" = some false) ⟨_, rfl, iteN rfl ?_⟩
        refine rd_isi (x := .int i) (T := "int") rfl (.base (.int i)) (by decide +kernel : kitB "int" "int" = some true) ⟨_, rfl, iteP rfl ?_⟩
        refine rd_isi (x := .int i) (T := "int") rfl (.base (.int i)) (by decide +kernel : kitB "int" "bool" = some false) ⟨_, rfl, _, rfl, iteP rfl ?_⟩
        exact ⟨.int i, rfl, .int i, rfl, rfl, blT (decide_eq_true rfl) (q _ (same_upd hp))⟩
      | str x =>
        cases hv
        cases hu
        refine rd_isi2 (x := .str x) (T := "str") rfl (.base (.str x)) (by decide +kernel : kitB "str" "list" = some false) (by decide +kernel : kitB "str" "tuple" = some false) (fun p hp => ?_) (fun p hp => .base (.str x))
        refine ⟨_, rfl, iteN rfl ?_⟩
        refine ⟨.str x, rfl, rfl, _, rfl, iteN (decide_eq_false (by intro z; cases z)) ⟨.str x, rfl, rfl, _, rfl, iteN (decide_eq_false (by intro z; cases z)) ?_⟩⟩
        refine rd_isi (x := .str x) (T := "str") rfl (.base (.str x)) (by decide +kernel : kitB "str" "bool" = some false) ⟨_, rfl, iteN rfl ?_⟩
        refine rd_isi (x := .str x) (T := "str") rfl (.base (.str x)) (by decide +kernel : kitB "str" "str" = some true) ⟨_, rfl, iteP rfl ?_⟩
        refine rd_isi (x := .str x) (T := "str") rfl (.base (.str x)) (by decide +kernel : kitB "str" "bool" = some false) ?_
        refine rd_isi (x := .str x) (T := "str") rfl (.base (.str x)) (by decide +kernel : kitB "str" "bool" = some false) ⟨rfl, _, rfl, iteP (decide_eq_true rfl) ?_⟩
        exact ⟨.str x, rfl, .str x, rfl, rfl, blT (decide_eq_true rfl) (q _ (same_upd hp))⟩
      | list ds =>
        cases n with
        | zero => exact hd.elim
        | succ n =>
        obtain ⟨hlen, hds⟩ := hd
        refine rd_isi2 (x := u) (T := "list") rfl hu.ty (by decide +kernel : kitB "list" "list" = some true) (by decide +kernel : kitB "list" "tuple" = some false) (fun p hp => ?_) (fun p hp => ty (same_upd hp) hu)
        have s1 := same_upd (o := .tup [.ty "list", .ty "tuple"]) hp
        refine ⟨_, rfl, iteP rfl ?_⟩
        refine rd_isi (x := v) (T := "list") rfl (ty s1 hv) (by decide +kernel : kitB "list" "list" = some true) ?_
        refine rd_isi (x := u) (T := "list") rfl (ty s1 hu) (by decide +kernel : kitB "list" "list" = some true) ⟨rfl, _, rfl, iteN rfl ?_⟩
        refine rd_isi (x := v) (T := "list") rfl (ty s1 hv) (by decide +kernel : kitB "list" "tuple" = some false) ?_
        refine rd_isi (x := u) (T := "list") rfl (ty s1 hu) (by decide +kernel : kitB "list" "tuple" = some false) ⟨rfl, _, rfl, iteN rfl ?_⟩
        have hv1 := hv.ext (Ext.of s1)
        have hu1 := hu.ext (Ext.of s1)
        generalize hH1 : upd H p (.tup [.ty "list", .ty "tuple"]) = H1 at *
        cases hv1 with
        | @lst a xs _ ha na rx =>
        cases hu1 with
        | @lst b ys _ hb nb ry =>
        have ex : xs.length = ds.length := rx.length
        have ey : ys.length = ds.length := ry.length
        refine ⟨.ref a, rfl, a, _, rfl, .inl (.inl (.inl ha)), .ref b, rfl, b, _, rfl, .inl (.inl (.inl hb)), rfl, _, rfl, iteP (decide_eq_true (by rw [ex, ey])) ?_⟩
        refine ⟨.ref a, rfl, .ref b, rfl, a, b, xs, ys, rfl, .inl ⟨.inl (.inl ha), .inl (.inl hb), fun D hD => ?_⟩⟩
        refine lc_it (walk_zip (xs := xs) (ys := ys) (n := ds.length) (by rw [ex, ey, Nat.min_self])) (fun i H3 => Same H1 H3 ∧ H3 D = some (.lst (List.replicate i (.bl true)))) ⟨same_upd hD, upd_same⟩ ?_ ?_ ?_
        · rintro i H3 _ ⟨sm, _⟩
          exact ⟨.inl (.inl (sm _ _ ha)), .inl (.inl (sm _ _ hb))⟩
        · rintro i x H3 H4 hi ⟨sm, hD3⟩ ⟨t, x1, x2, rfl, nt, rfl, e1, e2⟩
          have sT := same_upd (o := .tup [x1, x2]) nt
          refine ⟨t, _, rfl, .inl (.inl upd_same), rfl, _, _, rfl, _, _, rfl, rfl, rfl, yes (iteT ?_)⟩
          obtain ⟨z1, f1, r1⟩ := rx.get (List.getElem?_eq_getElem hi)
          obtain ⟨z2, f2, r2⟩ := ry.get (List.getElem?_eq_getElem hi)
          have g1 : x1 = z1 := Option.some.inj (e1.symm.trans f1)
          have g2 : x2 = z2 := Option.some.inj (e2.symm.trans f2)
          subst g1 g2
          refine ⟨x1, rfl, x2, rfl, bx, x1, x2, ds[i], rfl, r1.ext (Ext.of (sm.trans sT)), r2.ext (Ext.of (sm.trans sT)), hds _ (List.getElem_mem hi), fun H5 s5 => ?_⟩
          refine ⟨_, s5 _ _ (sT _ _ hD3), by rw [List.length_replicate]; exact sz (by omega), same_mut (sm.trans (sT.trans s5)) hD, ?_⟩
          rw [upd_same, List.replicate_succ']
        · rintro H3 ⟨sm, hD3⟩
          refine ⟨D, List.replicate ds.length true, rfl, .inl (.inl (by rw [hD3, List.map_replicate])), blT ?_ (q _ (s1.trans sm))⟩
          rw [List.all_eq_true]
          intro z hz
          rw [List.eq_of_mem_replicate hz]
          rfl
      | tuple ds =>
        cases n with
        | zero => exact hd.elim
        | succ n =>
        obtain ⟨hlen, hds⟩ := hd
        refine rd_isi2 (x := u) (T := "tuple") rfl hu.ty (by decide +kernel : kitB "tuple" "list" = some false) (by decide +kernel : kitB "tuple" "tuple" = some true) (fun p hp => ?_) (fun p hp => ty (same_upd hp) hu)
        have s1 := same_upd (o := .tup [.ty "list", .ty "tuple"]) hp
        refine ⟨_, rfl, iteP rfl ?_⟩
        refine rd_isi (x := v) (T := "tuple") rfl (ty s1 hv) (by decide +kernel : kitB "tuple" "list" = some false) ?_
        refine rd_isi (x := u) (T := "tuple") rfl (ty s1 hu) (by decide +kernel : kitB "tuple" "list" = some false) ⟨rfl, _, rfl, iteN rfl ?_⟩
        refine rd_isi (x := v) (T := "tuple") rfl (ty s1 hv) (by decide +kernel : kitB "tuple" "tuple" = some true) ?_
        refine rd_isi (x := u) (T := "tuple") rfl (ty s1 hu) (by decide +kernel : kitB "tuple" "tuple" = some true) ⟨rfl, _, rfl, iteN rfl ?_⟩
        have hv1 := hv.ext (Ext.of s1)
        have hu1 := hu.ext (Ext.of s1)
        generalize hH1 : upd H p (.tup [.ty "list", .ty "tuple"]) = H1 at *
        cases hv1 with
        | @tup a xs _ ha na rx =>
        cases hu1 with
        | @tup b ys _ hb nb ry =>
        have ex : xs.length = ds.length := rx.length
        have ey : ys.length = ds.length := ry.length
        refine ⟨.ref a, rfl, a, _, rfl, .inr ha.sq, .ref b, rfl, b, _, rfl, .inr hb.sq, rfl, _, rfl, iteP (decide_eq_true (by rw [ex, ey])) ?_⟩
        refine ⟨.ref a, rfl, .ref b, rfl, a, b, xs, ys, rfl, .inr ⟨ha.sq, hb.sq, fun D hD => ?_⟩⟩
        refine lc_it (walk_zipT (xs := xs) (ys := ys) (n := ds.length) ex ey) (fun i H3 => Same H1 H3 ∧ H3 D = some (.lst (List.replicate i (.bl true)))) ⟨same_upd hD, upd_same⟩ ?_ ?_ ?_
        · rintro i H3 _ ⟨sm, _⟩
          exact ⟨(ha.ext (Ext.of (bx := bx) sm) na).sq, (hb.ext (Ext.of (bx := bx) sm) nb).sq⟩
        · rintro i x H3 H4 hi ⟨sm, hD3⟩ ⟨t, x1, x2, rfl, nt, rfl, e1, e2⟩
          have sT := same_upd (o := .tup [x1, x2]) nt
          refine ⟨t, _, rfl, .inl (.inl upd_same), rfl, _, _, rfl, _, _, rfl, rfl, rfl, yes (iteT ?_)⟩
          obtain ⟨z1, f1, r1⟩ := rx.get (List.getElem?_eq_getElem hi)
          obtain ⟨z2, f2, r2⟩ := ry.get (List.getElem?_eq_getElem hi)
          have g1 : x1 = z1 := Option.some.inj (e1.symm.trans f1)
          have g2 : x2 = z2 := Option.some.inj (e2.symm.trans f2)
          subst g1 g2
          refine ⟨x1, rfl, x2, rfl, bx, x1, x2, ds[i], rfl, r1.ext (Ext.of (sm.trans sT)), r2.ext (Ext.of (sm.trans sT)), hds _ (List.getElem_mem hi), fun H5 s5 => ?_⟩
          refine ⟨_, s5 _ _ (sT _ _ hD3), by rw [List.length_replicate]; exact sz (by omega), same_mut (sm.trans (sT.trans s5)) hD, ?_⟩
          rw [upd_same, List.replicate_succ']
        · rintro H3 ⟨sm, hD3⟩
          refine ⟨D, List.replicate ds.length true, rfl, .inl (.inl (by rw [hD3, List.map_replicate])), blT ?_ (q _ (s1.trans sm))⟩
          rw [List.all_eq_true]
          intro z hz
          rw [List.eq_of_mem_replicate hz]
          rfl
      | dict kvs => cases hv
end
end Lh

namespace Lh
open PySem PySem.Spec PyProof.Rows L2
theorem rising_mono {a b : Int} (h : a ≤ b) {ns : List Int} (r : Rising a ns) : Rising b ns := ⟨r.1, fun n hn => ⟨(r.2 n hn).1, by have := (r.2 n hn).2; omega⟩⟩
theorem wf_mono {a b : Int} (h : a ≤ b) : ∀ {r : Rule}, r.Wf a → r.Wf b
  | .held _, w => w
  | .sum _ _, ⟨w, r, x⟩ => ⟨w, rising_mono h r, x⟩
  | .cap _ _ _, ⟨w, r, x, y⟩ => ⟨w, rising_mono h r, x, y⟩
  | .kinds _ _, ⟨w, r⟩ => ⟨w, rising_mono h r⟩
  | .next _, r => rising_mono h r
  | .free _, r => rising_mono h r
theorem sh_repr {n : Nat} {d : PyData} (h : Sh n d) (hn : n ≤ 60) (b : d.bulk ≤ 1000) : d.showable = true ∧ d.hasDict = false ∧ d.depth ≤ 60 ∧ d.shown.length ≤ sizeLine ∧ (∀ x, d = .str x → (reprText x).length ≤ sizeLine) ∧ ∀ i, d = .int i → i.natAbs.log2 < 1920 := by
  have s := sh_shown h (Nat.le_refl _)
  refine ⟨s.sh, s.nd, Nat.le_trans s.dp hn, sh_fits h b (by decide), fun x e => ?_, fun i e => ?_⟩
  · subst e
    have : x ∈ wds := by cases n <;> exact h
    exact (wds_small this).2.2.1
  · subst e
    have : i.natAbs < 10 ^ 12 := by cases n <;> exact h
    exact log_small this
section
variable {P : Program} {w : World} {K : PySem.W.Frag} {mg : Str → Option Value} {base : Heap}
set_option maxHeartbeats 16000000 in
theorem ok_right (T : Txt K mg w) : FnG P w K mg base 9 T.f_right T.fd_right p_right spRight := by
  have G_take := ok_take (P := P) (w := w) (base := base) T
  have G_rule := ok_rule (P := P) (w := w) (base := base) T
  have G_is_rule := fn_or (ok_is_rule (P := P) (w := w) (base := base) T) (ok_is_ruleD (P := P) (w := w) (base := base) T)
  have G_due := ok_dueQ (P := P) (w := w) (base := base) T
  have G_bent := fn_or ((ok_bentQ (P := P) (w := w) (base := base) T 4).mono (by decide : 4 + 2 ≤ 8)) (ok_bentQ (P := P) (w := w) (base := base) T 6)
  have G_same := ok_same (P := P) (w := w) (base := base) T 3
  refine okG T.F_right sc_right (fun vs H Q E h => ?_) (fun cdv A outer s H vs Q E hr hG h => ?_)
  · obtain ⟨bx, rfl, _⟩ := h
    rfl
  · obtain ⟨bx, rfl, hB, q⟩ := h
    refine ⟨_, (pss_cons (ps_for PassesOwn.never rfl (pi_range1 (by rfl) T.m_range (pa_cons pe_int pa_nil)) (pg_name (i := 1) sc_right.nd rfl (.inl rfl))
        (pss_cons (ps_set (i := 2) sc_right.nd rfl (.inl rfl) (pe_op op_add pe_int (pe_call G_take (hr.mono (by decide)) (by rfl) T.g_take T.F_take.kp T.b_take .nil pass0 (pa_cons (pv 0) (pa_cons pe_int pa_nil)))))
        (pss_cons (ps_set (i := 3) sc_right.nd rfl (.inl rfl) (pe_call G_rule (hr.mono (by decide)) (by rfl) T.g_rule T.F_rule.kp T.b_rule .nil pass0 (pa_cons (pv 0) (pa_cons (pv 2) (pa_cons (pe_listRg (by rfl) (by rfl) T.m_list (prg_1 (by rfl) T.m_range (pv 2))) (pa_cons pe_int pa_nil))))))
        (pss_cons (ps_if (pt_not (pt_val (pe_call G_same (hr.mono (by decide)) (by rfl) T.g_same T.F_same.kp T.b_same .nil pass0 (pa_cons (pe_lst (pa_cons (pe_call G_is_rule (hr.mono (by decide)) (by rfl) T.g_is_rule T.F_is_rule.kp T.b_is_rule .nil pass0 (pa_cons (pv 2) (pa_cons (pv 3) pa_nil))) (pa_cons (pe_callN0 G_is_rule (hr.mono (by decide)) (by rfl) T.g_is_rule T.F_is_rule.kp T.kb_is_rule (pk_cons (pv 3) (pk_cons (pe_op op_add (pv 2) pe_int) pk_nil))) pa_nil))) (pa_cons (pe_lst (pa_cons pe_bl (pa_cons pe_bl pa_nil))) pa_nil)))))
          (pss_one (ps_ret pe_bl))
          pss_nil)
        (pss_cons (ps_for PassesOwn.never rfl (pi_range1 (by rfl) T.m_range (pa_cons (pe_call G_take (hr.mono (by decide)) (by rfl) T.g_take T.F_take.kp T.b_take .nil pass0 (pa_cons (pv 0) (pa_cons pe_int pa_nil))) pa_nil)) (pg_name (i := 4) sc_right.nd rfl (.inl rfl))
          (pss_one (ps_set (i := 3) sc_right.nd rfl (.inl rfl) (pe_call G_bent (hr.mono (by decide)) (by rfl) T.g_bent T.F_bent.kp T.b_bent .nil pass0 (pa_cons (pv 0) (pa_cons (pv 3) pa_nil))))))
        (pss_cons (ps_set (i := 5) sc_right.nd rfl (.inl rfl) (pe_callB (call_reprV hG hr.units) (by rfl) T.m_repr (by decide +kernel) (pa_cons (pv 3) pa_nil)))
        (pss_one (ps_for PassesOwn.never rfl (pi_tup (pe_tup (pa_cons (pv 2) (pa_cons pe_int (pa_cons (pe_op op_add (pv 2) pe_int) pa_nil))))) (pg_name (i := 6) sc_right.nd rfl (.inl rfl))
          (pss_one (ps_if (PW.pt (pw_or (pt_not (pt_val (pe_call G_same (hr.mono (by decide)) (by rfl) T.g_same T.F_same.kp T.b_same .nil pass0 (pa_cons (pe_call G_is_rule (hr.mono (by decide)) (by rfl) T.g_is_rule T.F_is_rule.kp T.b_is_rule .nil pass0 (pa_cons (pv 6) (pa_cons (pv 3) pa_nil))) (pa_cons (pe_call G_due (hr.mono (by decide)) (by rfl) T.g_due T.F_due.kp T.b_due .nil pass0 (pa_cons (pv 3) (pa_cons (pv 6) pa_nil))) pa_nil))))) (pw_or1 (pt_cmpR op_ne (pe_callB (call_reprV hG hr.units) (by rfl) T.m_repr (by decide +kernel) (pa_cons (pv 3) pa_nil)) (pv 5) (nomark _)))))
            (pss_one (ps_ret pe_bl))
            pss_nil))))))))))
      (pss_one (ps_ret pe_bl))), ?_⟩
    refine ⟨20, rfl, by decide, by decide, ?_⟩
    refine for_it walk_range (fun i σ H3 => ∃ y1 y2 y3 y4 y5 y6 : Option V, σ = [some (.ref bx), y1, y2, y3, y4, y5, y6] ∧ Ext bx H H3 ∧ Box bx (100 * i) H3) ?_ (fun _ _ _ _ _ => trivial) ?_ ?_
    · exact ⟨none, none, none, none, none, none, rfl, Ext.refl _, hB.mono (by omega)⟩
    · rintro i x0 σ H3 H3' hi ⟨y1, y2, y3, y4, y5, y6, rfl, e3, b3⟩ ⟨rfl, rfl⟩
      have hi' : i < 20 := hi
      refine ⟨.ref bx, rfl, bx, _, 6, rfl, by decide, by decide, by omega, b3, fun r1 H4 r10 r11 e4 b4 => ⟨1, r1, rfl, rfl, ?_⟩⟩
      obtain ⟨m, em⟩ : ∃ m : Int, 1 + r1 = m := ⟨_, rfl⟩
      dsimp only
      rw [em]
      refine ⟨.ref bx, rfl, .int m, rfl, .int m, rfl, m, rfl, RgOk.of_le (by omega) (by omega) (by omega) (by omega), fun pl npl => ?_⟩
      have b5 := b4.same (same_upd (o := .lst (rgV 0 m)) npl)
      have hpl := upd_same (H := H4) (a := pl) (o := HO.lst (rgV 0 m))
      have plb := b4.ne npl
      have s5 := same_upd (o := .lst (rgV 0 m)) npl
      generalize upd H4 pl (.lst (rgV 0 m)) = H5 at s5 hpl b5 ⊢
      rw [rg_ints m] at hpl
      have lns : ((List.range m.toNat).map fun k : Nat => (k : Int)).length = m.toNat := by rw [List.length_map, List.length_range]
      refine ⟨bx, pl, _, 9, m, .int m, (List.range m.toNat).map (fun k : Nat => (k : Int)), rfl, by decide, by decide, by rw [lns]; omega, by rw [lns]; omega, b5, hpl, plb, rg_rising m (by omega), fun v r H6 e6 b6 hv wf sub => ?_⟩
      rw [lns] at b6
      have lp : r.persons.length ≤ 6 := by have := sub.length_le; rw [lns] at this; omega
      have e36 : Ext bx H3' H6 := (e4.trans (Ext.of s5)).trans e6
      have b6 : Box bx (100 * i + 26) H6 := b6.mono (by omega)
      -- it is a rule
      refine ⟨.int m, rfl, v, rfl, .inl ⟨m, v, r, rfl, hv, wf, by omega, fun H7 s7 => ?_⟩⟩
      refine ⟨v, rfl, .int m, rfl, m, 2, rfl, rfl, rfl, rfl, .inl ⟨m + 2, v, r, rfl, hv.keep (Keep.same s7), wf_mono (by omega) wf, by omega, fun H8 s8 => ⟨by show 2 ≤ sizeLine; decide, fun l1 nl1 => ⟨by show 2 ≤ sizeLine; decide, fun l2 nl2 => ?_⟩⟩⟩⟩
      have b8 := (b6.same s7).same s8
      have t1 := same_upd (o := .lst [.bl true, .bl true]) nl1
      have h1 := upd_same (H := H8) (a := l1) (o := HO.lst [.bl true, .bl true])
      have n1 := b8.ne nl1
      have b9 := b8.same t1
      generalize upd H8 l1 (.lst [.bl true, .bl true]) = H9 at t1 h1 b9 nl2 ⊢
      have t2 := same_upd (o := .lst [.bl true, .bl true]) nl2
      have h2 := upd_same (H := H9) (a := l2) (o := HO.lst [.bl true, .bl true])
      have n2 := b9.ne nl2
      generalize upd H9 l2 (.lst [.bl true, .bl true]) = HA at t2 h2 ⊢
      refine ⟨bx, .ref l1, .ref l2, .list [.bool true, .bool true], rfl, .lst (t2 _ _ h1) n1 (.cons (.bl _) (.cons (.bl _) .nil)), .lst h2 n2 (.cons (.bl _) (.cons (.bl _) .nil)), ⟨by show 2 ≤ 8388608; decide, fun d hd => ?_⟩, fun HB sB => ⟨_, rfl, iteN rfl ?_⟩⟩
      · simp only [List.mem_cons, List.not_mem_nil, or_false] at hd
        rcases hd with rfl | rfl <;> trivial
      have s6B := ((s7.trans s8).trans (t1.trans t2)).trans sB
      have bB := b6.same s6B
      have rv := (hv.keep (Keep.same s6B)).rp bB
      obtain ⟨sh0, bk0, ln0⟩ := sh_rule (m := m) (by omega) wf (by omega)
      have eB := e3.trans (e36.trans (Ext.of s6B))
      generalize r.data = d0 at rv sh0 bk0 ln0
      clear e4 b4 npl b5 hpl plb s5 lns e6 b6 hv wf sub lp e36 s7 s8 b8 t1 h1 n1 b9 t2 h2 n2 nl1 nl2 sB s6B
      -- bent, or not
      refine ⟨.ref bx, rfl, bx, _, 3, rfl, by decide, by decide, by omega, bB, fun r2 HC r20 r21 eC bC => ⟨r2, rfl, by omega, by omega, ?_⟩⟩
      have rvC := rv.ext eC
      refine for_it walk_range (fun j σ H3 => ∃ (y4 y5 y6 : Option V) (v : V) (d : PyData), σ = [some (.ref bx), some (.int (0 + (i : Nat))), some (.int m), some v, y4, y5, y6] ∧ Ext bx HC H3 ∧ Box bx (100 * i + 27 + 30 * j) H3 ∧ Rp bx H3 v d ∧ Sh (3 + 2 * j) d ∧ d.bulk + 10 ≤ 70 * 2 ^ j ∧ Len0 j d) ⟨_, _, _, v, d0, rfl, Ext.refl _, bC.mono (by omega), rvC, sh0, by omega, ln0⟩ (fun _ _ _ _ _ => trivial) ?_ ?_
      · rintro j x1 σ H3 H4 hj ⟨y4, y5, y6, v, d, rfl, e3, b3, rv3, sh3, bk3, ln3⟩ ⟨rfl, rfl⟩
        have z3 : ((3 : Nat) : Int) = 3 := rfl
        have z5 : ((5 : Nat) : Int) = 5 := rfl
        have hj2 : j < 2 := by have : j < r2.toNat := hj; omega
        rcases (by omega : j = 0 ∨ j = 1) with rfl | rfl
        · refine ⟨.ref bx, rfl, v, rfl, .inl ⟨bx, _, v, d, rfl, (show (100 * (i : Int) + 27 + 30 * ((0 : Nat) : Int)) + 4 * (((3 : Nat) : Int) + 1) ≤ 1000000000 by omega), b3, rv3, sh3, by decide, by omega, fun v' d' H5 e5 b5 r5 ok => ?_⟩⟩
          have := ok.bk
          have b5 : Box bx ((100 * (i : Int) + 27 + 30 * ((0 : Nat) : Int)) + 4 * (((3 : Nat) : Int) + 1)) H5 := b5
          exact ⟨_, _, _, v', d', rfl, e3.trans e5, b5.mono (by omega), r5, ok.sh, by omega, ok.ln _ ln3⟩
        · refine ⟨.ref bx, rfl, v, rfl, .inr ⟨bx, _, v, d, rfl, (show (100 * (i : Int) + 27 + 30 * ((1 : Nat) : Int)) + 4 * (((5 : Nat) : Int) + 1) ≤ 1000000000 by omega), b3, rv3, sh3, by decide, by omega, fun v' d' H5 e5 b5 r5 ok => ?_⟩⟩
          have := ok.bk
          have b5 : Box bx ((100 * (i : Int) + 27 + 30 * ((1 : Nat) : Int)) + 4 * (((5 : Nat) : Int) + 1)) H5 := b5
          exact ⟨_, _, _, v', d', rfl, e3.trans e5, b5.mono (by omega), r5, ok.sh, by omega, ok.ln _ ln3⟩
      · rintro σ HD ⟨y4, y5, y6, v, d, rfl, eD, bD, rvD, shD, bkD, lnD⟩
        have r22 : r2.toNat ≤ 2 := by omega
        have shD : Sh 7 d := shD.mono (by omega)
        have bk2 : d.bulk ≤ 280 := by
          have : (2 : Nat) ^ r2.toNat ≤ 2 ^ 2 := Nat.pow_le_pow_right (by decide) r22
          omega
        have shp := sh_shaped shD (by decide)
        have rf := sh_rfine shD bk2 (by decide)
        have ln4 : ∀ ds, d = .tuple (.str "" :: ds) → ds.length ≤ 4 := fun ds e => by
          have := (lnD _ e).2 List.mem_cons_self
          rw [List.length_cons] at this
          omega
        have eHD := eB.trans (eC.trans eD)
        obtain ⟨q1, q2, q3, q4, q5, q6⟩ := sh_repr shD (by decide) (by omega)
        refine ⟨v, rfl, v, d, rfl, Rp.dp rvD, q1, q2, q3, q4, q5, q6, ?_⟩
        refine ⟨.int m, rfl, .int m, rfl, m, 1, rfl, rfl, by show 3 ≤ sizeLine; decide, fun p3 np3 => ?_⟩
        have sp := same_upd (o := .tup [.int m, .int 1, .int (m + 1)]) np3
        have hp : TupAt (upd HD p3 (.tup [.int m, .int 1, .int (m + 1)])) p3 ([m, 1, m + 1].map V.int) := .inl upd_same
        generalize upd HD p3 (.tup [.int m, .int 1, .int (m + 1)]) = HE at sp hp ⊢
        refine ⟨p3, rfl, ⟨_, hp.sq⟩, ?_⟩
        refine for_it (walk_tup (xs := [m, 1, m + 1].map V.int)) (fun j σ H3 => ∃ y6 : Option V, σ = [some (.ref bx), some (.int (0 + (i : Nat))), some (.int m), some v, y4, some (.str (shV d)), y6] ∧ Same HE H3) ⟨_, rfl, Same.refl _⟩ ?_ ?_ ?_
        · rintro j σ H3 _ ⟨y6, rfl, s3⟩
          exact (hp.keep (Keep.same s3)).sq
        · rintro j x σ H3 H4 hj ⟨y6, rfl, s3⟩ ⟨rfl, hx⟩
          have hj3 : j < [m, 1, m + 1].length := hj
          rw [List.getElem?_map, List.getElem?_eq_getElem hj3] at hx
          have hx := Option.some.inj hx
          subst hx
          generalize [m, 1, m + 1][j] = sz
          have s4 := sp.trans s3
          have rv4 := rvD.ext (Ext.of s4)
          have b4 := bD.same s4
          refine ⟨.int sz, rfl, v, rfl, .inr ⟨bx, sz, v, d, rfl, rv4, rf, fun H5 s5 => ?_⟩⟩
          refine ⟨v, rfl, .int sz, rfl, bx, _, sz, v, d, rfl, b4.same s5, rv4.ext (Ext.of s5), rf, shp, ln4, fun H6 s6 => ?_⟩
          refine ⟨bx, .bl (ruleB sz d), .bl (ruleB sz d), .bool (ruleB sz d), rfl, .bl _, .bl _, trivial, fun H7 s7 => ⟨_, rfl, iteN rfl ?_⟩⟩
          have s47 := (s5.trans s6).trans s7
          refine ⟨v, rfl, v, d, rfl, Rp.dp (rv4.ext (Ext.of s47)), q1, q2, q3, q4, q5, q6, ?_⟩
          refine ⟨.str (shV d), rfl, rfl, _, rfl, iteN (by rw [decide_eq_true rfl]; rfl) ⟨_, rfl, s3.trans s47⟩⟩
        · rintro σ H3 ⟨y6, rfl, s3⟩
          exact ⟨_, _, _, _, _, _, rfl, eHD.trans (Ext.of (sp.trans s3)), (bD.same (sp.trans s3)).mono (by omega)⟩
    · rintro σ H3 ⟨y1, y2, y3, y4, y5, y6, rfl, e3, b3⟩
      exact q H3 e3
end
end Lh

namespace Lh
open PySem PySem.Spec PyProof.Rows L2
section
variable {P : Program} {w : World} {K : PySem.W.Frag} {mg : Str → Option Value} {base : Heap}
def spLaw (K : PySem.W.Frag) : Sp := fun vs H Q _ => ∃ (a : Addr) (ns : List Int), vs = [.ref a] ∧ SqL K H a (ns.map V.int) ∧ ns.length ≤ 63 ∧ ∀ H', Q (.bl true) H'
theorem ok_law (T : Txt K mg w) : FnG P w K mg base 10 T.f_law T.fd_law ["_law_script"] (spLaw K) := by
  have G_folded := ok_folded (P := P) (w := w) (base := base) T
  have G_dip := ok_dip (P := P) (w := w) (base := base) T
  have G_right := ok_right (P := P) (w := w) (base := base) T
  refine okG T.F_law sc_law (fun vs H Q E h => ?_) (fun cdv A outer s H vs Q E hr hG h => ?_)
  · obtain ⟨a, ns, rfl, _⟩ := h
    rfl
  · obtain ⟨a, ns, rfl, hS, hl, q⟩ := h
    refine ⟨_, (pss_cons (ps_set (i := 1) sc_law.nd rfl (.inr rfl) (pe_call G_folded (hr.mono (by decide)) (by rfl) T.g_folded T.F_folded.kp T.b_folded .nil pass0 (pa_cons (pv 0) (pa_cons pe_int pa_nil))))
      (pss_one (ps_ret (pe_callB (cr_all rfl) (by rfl) T.m_all (by decide +kernel) (pa_cons (pe_lc (own := [("_law_k", 2)]) (g := gName 2) (by rfl) sc_law.nd (pi_range1 (by rfl) T.m_range (pa_cons (pe_callB (call_max2 rfl) (by rfl) T.m_max (by decide +kernel) (pa_cons pe_int (pa_cons (pe_callB call_len_seq (by rfl) T.m_len (by decide +kernel) (pa_cons (pv 1) pa_nil)) pa_nil))) pa_nil)) (blkOk_by (own := [("_law_k", 2)]) (N := n_law) (sc := defScope s_law) (by decide +kernel)) (fun _ _ _ _ _ => (pg_name (i := 2) sc_law.nd rfl (.inl rfl) (.inr rfl))) (fun _ _ _ _ _ => pts_nil) (fun _ _ _ _ _ => (pe_callG G_right (hr.mono (by decide)) hG (by rfl) T.g_right T.F_right.kp T.b_right (pa_cons (pe_call G_dip (hr.mono (by decide)) (by rfl) T.g_dip T.F_dip.kp T.b_dip .nil pass0 (pa_cons (pv 1) (pa_cons (pv 2) pa_nil))) pa_nil)))) pa_nil))))), ?_⟩
    refine ⟨.ref a, rfl, a, ns, rfl, hS, hl, fun p ms H1 s1 np hp ml => ?_⟩
    refine ⟨.ref p, rfl, p, _, rfl, .inl (.inl (.inl hp)), 1, _, rfl, _, rfl, ?_, ?_, fun D hD => ?_⟩
    · rw [List.length_map]; split <;> omega
    · rw [List.length_map]; split <;> omega
    generalize hn : (if ((ms.map V.int).length : Int) > 1 then ((ms.map V.int).length : Int) else 1).toNat = n
    have hn3 : n ≤ 3 := by
      rw [← hn, List.length_map]
      split <;> omega
    refine lc_it walk_range (fun i H3 => H3 p = some (.lst (ms.map V.int)) ∧ H3 D = some (.lst (List.replicate i (.bl true)))) ⟨same_upd hD _ _ hp, upd_same⟩ (fun _ _ _ _ => trivial) ?_ ?_
    · rintro i x H3 H4 hi ⟨h1, h2⟩ ⟨rfl, rfl⟩
      refine ⟨rfl, yes (iteT ?_)⟩
      refine ⟨.ref p, rfl, .int (0 + i), rfl, p, ms, i, by show [V.ref p, V.int (0 + (i : Int))] = _; rw [Int.zero_add], .inl (.inl h1), by omega, fun bx H5 s5 nb bB => ?_⟩
      refine ⟨bx, rfl, bB, fun H6 e6 => ?_⟩
      have nD : D ≠ bx := ne_of_none h2 nb
      have nP : p ≠ bx := ne_of_none h1 nb
      have nPD : p ≠ D := ne_of_none hp hD
      refine ⟨_, e6 _ _ nD (s5 _ _ h2), by rw [List.length_replicate]; exact small1000 (by omega), ?_, ?_⟩
      · rw [upd_ne nPD]; exact e6 _ _ nP (s5 _ _ h1)
      · rw [upd_same, List.replicate_succ']
    · rintro H3 ⟨h1, h2⟩
      refine ⟨D, List.replicate n true, rfl, .inl (.inl (by rw [h2, List.map_replicate])), blT ?_ (q _)⟩
      rw [List.all_eq_true]
      intro z hz
      rw [List.eq_of_mem_replicate hz]
      rfl
end

set_option maxHeartbeats 4000000 in
theorem all_mk {l : PySem.W.OpenLaw} {w : World} {K : PySem.W.Frag} {h : Heap} {mg : Str → Option Value} {fa : Addr} (X : K.In h) (G : h.Ns mainGlobals mg) (hfa : mg "law" = some (.ref fa))
    {f0 : Addr} {od0 an0 : Option Addr} {sl0 : Array (Option Value)} {oc0 kV0 dc0 pm0 cd0 ct0 : Value}
    (a0 : PySem.W.nsIn K mainGlobals "is_number" = some (some (.ref f0)))
    (l0 : K.lookup f0 = some ⟨oc0, od0, .func (PySem.W.fnOf "is_number" "is_number" (defArgs s_is_number) (defBody s_is_number) (defScope s_is_number) .none kV0 dc0 pm0 an0 cd0 ct0), sl0⟩) (c0 : PySem.W.codeIn K cd0 "is_number" = true) (k0 : PySem.W.keepIn K (.ref f0) = true)
    {f1 : Addr} {od1 an1 : Option Addr} {sl1 : Array (Option Value)} {oc1 kV1 dc1 pm1 cd1 ct1 : Value}
    (a1 : PySem.W.nsIn K mainGlobals "is_person" = some (some (.ref f1)))
    (l1 : K.lookup f1 = some ⟨oc1, od1, .func (PySem.W.fnOf "is_person" "is_person" (defArgs s_is_person) (defBody s_is_person) (defScope s_is_person) .none kV1 dc1 pm1 an1 cd1 ct1), sl1⟩) (c1 : PySem.W.codeIn K cd1 "is_person" = true) (k1 : PySem.W.keepIn K (.ref f1) = true)
    {f2 : Addr} {od2 an2 : Option Addr} {sl2 : Array (Option Value)} {oc2 kV2 dc2 pm2 cd2 ct2 : Value}
    (a2 : PySem.W.nsIn K mainGlobals "are_persons" = some (some (.ref f2)))
    (l2 : K.lookup f2 = some ⟨oc2, od2, .func (PySem.W.fnOf "are_persons" "are_persons" (defArgs s_are_persons) (defBody s_are_persons) (defScope s_are_persons) .none kV2 dc2 pm2 an2 cd2 ct2), sl2⟩) (c2 : PySem.W.codeIn K cd2 "are_persons" = true) (k2 : PySem.W.keepIn K (.ref f2) = true)
    {f3 : Addr} {od3 an3 : Option Addr} {sl3 : Array (Option Value)} {oc3 kV3 dc3 pm3 cd3 ct3 : Value}
    (a3 : PySem.W.nsIn K mainGlobals "rises" = some (some (.ref f3)))
    (l3 : K.lookup f3 = some ⟨oc3, od3, .func (PySem.W.fnOf "rises" "rises" (defArgs s_rises) (defBody s_rises) (defScope s_rises) .none kV3 dc3 pm3 an3 cd3 ct3), sl3⟩) (c3 : PySem.W.codeIn K cd3 "rises" = true) (k3 : PySem.W.keepIn K (.ref f3) = true)
    {f4 : Addr} {od4 an4 : Option Addr} {sl4 : Array (Option Value)} {oc4 kV4 dc4 pm4 cd4 ct4 : Value}
    (a4 : PySem.W.nsIn K mainGlobals "is_rule" = some (some (.ref f4)))
    (l4 : K.lookup f4 = some ⟨oc4, od4, .func (PySem.W.fnOf "is_rule" "is_rule" (defArgs s_is_rule) (defBody s_is_rule) (defScope s_is_rule) .none kV4 dc4 pm4 an4 cd4 ct4), sl4⟩) (c4 : PySem.W.codeIn K cd4 "is_rule" = true) (k4 : PySem.W.keepIn K (.ref f4) = true)
    {f5 : Addr} {od5 an5 : Option Addr} {sl5 : Array (Option Value)} {oc5 kV5 dc5 pm5 cd5 ct5 : Value}
    (a5 : PySem.W.nsIn K mainGlobals "is_part" = some (some (.ref f5)))
    (l5 : K.lookup f5 = some ⟨oc5, od5, .func (PySem.W.fnOf "is_part" "is_part" (defArgs s_is_part) (defBody s_is_part) (defScope s_is_part) .none kV5 dc5 pm5 an5 cd5 ct5), sl5⟩) (c5 : PySem.W.codeIn K cd5 "is_part" = true) (k5 : PySem.W.keepIn K (.ref f5) = true)
    {f6 : Addr} {od6 an6 : Option Addr} {sl6 : Array (Option Value)} {oc6 kV6 dc6 pm6 cd6 ct6 : Value}
    (a6 : PySem.W.nsIn K mainGlobals "are_ties" = some (some (.ref f6)))
    (l6 : K.lookup f6 = some ⟨oc6, od6, .func (PySem.W.fnOf "are_ties" "are_ties" (defArgs s_are_ties) (defBody s_are_ties) (defScope s_are_ties) .none kV6 dc6 pm6 an6 cd6 ct6), sl6⟩) (c6 : PySem.W.codeIn K cd6 "are_ties" = true) (k6 : PySem.W.keepIn K (.ref f6) = true)
    {f7 : Addr} {od7 an7 : Option Addr} {sl7 : Array (Option Value)} {oc7 kV7 dc7 pm7 cd7 ct7 : Value}
    (a7 : PySem.W.nsIn K mainGlobals "is_tie" = some (some (.ref f7)))
    (l7 : K.lookup f7 = some ⟨oc7, od7, .func (PySem.W.fnOf "is_tie" "is_tie" (defArgs s_is_tie) (defBody s_is_tie) (defScope s_is_tie) .none kV7 dc7 pm7 an7 cd7 ct7), sl7⟩) (c7 : PySem.W.codeIn K cd7 "is_tie" = true) (k7 : PySem.W.keepIn K (.ref f7) = true)
    {f8 : Addr} {od8 an8 : Option Addr} {sl8 : Array (Option Value)} {oc8 kV8 dc8 pm8 cd8 ct8 : Value}
    (a8 : PySem.W.nsIn K mainGlobals "_law_dip" = some (some (.ref f8)))
    (l8 : K.lookup f8 = some ⟨oc8, od8, .func (PySem.W.fnOf "_law_dip" "_law_dip" (defArgs s_dip) (defBody s_dip) (defScope s_dip) .none kV8 dc8 pm8 an8 cd8 ct8), sl8⟩) (c8 : PySem.W.codeIn K cd8 "_law_dip" = true) (k8 : PySem.W.keepIn K (.ref f8) = true)
    {f9 : Addr} {od9 an9 : Option Addr} {sl9 : Array (Option Value)} {oc9 kV9 dc9 pm9 cd9 ct9 : Value}
    (a9 : PySem.W.nsIn K mainGlobals "_law_take" = some (some (.ref f9)))
    (l9 : K.lookup f9 = some ⟨oc9, od9, .func (PySem.W.fnOf "_law_take" "_law_take" (defArgs s_take) (defBody s_take) (defScope s_take) .none kV9 dc9 pm9 an9 cd9 ct9), sl9⟩) (c9 : PySem.W.codeIn K cd9 "_law_take" = true) (k9 : PySem.W.keepIn K (.ref f9) = true)
    {f10 : Addr} {od10 an10 : Option Addr} {sl10 : Array (Option Value)} {oc10 kV10 dc10 pm10 cd10 ct10 : Value}
    (a10 : PySem.W.nsIn K mainGlobals "_law_folded" = some (some (.ref f10)))
    (l10 : K.lookup f10 = some ⟨oc10, od10, .func (PySem.W.fnOf "_law_folded" "_law_folded" (defArgs s_folded) (defBody s_folded) (defScope s_folded) .none kV10 dc10 pm10 an10 cd10 ct10), sl10⟩) (c10 : PySem.W.codeIn K cd10 "_law_folded" = true) (k10 : PySem.W.keepIn K (.ref f10) = true)
    {f11 : Addr} {od11 an11 : Option Addr} {sl11 : Array (Option Value)} {oc11 kV11 dc11 pm11 cd11 ct11 : Value}
    (a11 : PySem.W.nsIn K mainGlobals "_law_one_of" = some (some (.ref f11)))
    (l11 : K.lookup f11 = some ⟨oc11, od11, .func (PySem.W.fnOf "_law_one_of" "_law_one_of" (defArgs s_one_of) (defBody s_one_of) (defScope s_one_of) .none kV11 dc11 pm11 an11 cd11 ct11), sl11⟩) (c11 : PySem.W.codeIn K cd11 "_law_one_of" = true) (k11 : PySem.W.keepIn K (.ref f11) = true)
    {f12 : Addr} {od12 an12 : Option Addr} {sl12 : Array (Option Value)} {oc12 kV12 dc12 pm12 cd12 ct12 : Value}
    (a12 : PySem.W.nsIn K mainGlobals "_law_same" = some (some (.ref f12)))
    (l12 : K.lookup f12 = some ⟨oc12, od12, .func (PySem.W.fnOf "_law_same" "_law_same" (defArgs s_same) (defBody s_same) (defScope s_same) .none kV12 dc12 pm12 an12 cd12 ct12), sl12⟩) (c12 : PySem.W.codeIn K cd12 "_law_same" = true) (k12 : PySem.W.keepIn K (.ref f12) = true)
    {f13 : Addr} {od13 an13 : Option Addr} {sl13 : Array (Option Value)} {oc13 kV13 dc13 pm13 cd13 ct13 : Value}
    (a13 : PySem.W.nsIn K mainGlobals "_law_some" = some (some (.ref f13)))
    (l13 : K.lookup f13 = some ⟨oc13, od13, .func (PySem.W.fnOf "_law_some" "_law_some" (defArgs s_some) (defBody s_some) (defScope s_some) .none kV13 dc13 pm13 an13 cd13 ct13), sl13⟩) (c13 : PySem.W.codeIn K cd13 "_law_some" = true) (k13 : PySem.W.keepIn K (.ref f13) = true)
    {f14 : Addr} {od14 an14 : Option Addr} {sl14 : Array (Option Value)} {oc14 kV14 dc14 pm14 cd14 ct14 : Value}
    (a14 : PySem.W.nsIn K mainGlobals "_law_sum_rule" = some (some (.ref f14)))
    (l14 : K.lookup f14 = some ⟨oc14, od14, .func (PySem.W.fnOf "_law_sum_rule" "_law_sum_rule" (defArgs s_sum_rule) (defBody s_sum_rule) (defScope s_sum_rule) .none kV14 dc14 pm14 an14 cd14 ct14), sl14⟩) (c14 : PySem.W.codeIn K cd14 "_law_sum_rule" = true) (k14 : PySem.W.keepIn K (.ref f14) = true)
    {f15 : Addr} {od15 an15 : Option Addr} {sl15 : Array (Option Value)} {oc15 kV15 dc15 pm15 cd15 ct15 : Value}
    (a15 : PySem.W.nsIn K mainGlobals "_law_rule" = some (some (.ref f15)))
    (l15 : K.lookup f15 = some ⟨oc15, od15, .func (PySem.W.fnOf "_law_rule" "_law_rule" (defArgs s_rule) (defBody s_rule) (defScope s_rule) .none kV15 dc15 pm15 an15 cd15 ct15), sl15⟩) (c15 : PySem.W.codeIn K cd15 "_law_rule" = true) (k15 : PySem.W.keepIn K (.ref f15) = true)
    {f16 : Addr} {od16 an16 : Option Addr} {sl16 : Array (Option Value)} {oc16 kV16 dc16 pm16 cd16 ct16 : Value}
    (a16 : PySem.W.nsIn K mainGlobals "_law_is_whole" = some (some (.ref f16)))
    (l16 : K.lookup f16 = some ⟨oc16, od16, .func (PySem.W.fnOf "_law_is_whole" "_law_is_whole" (defArgs s_is_whole) (defBody s_is_whole) (defScope s_is_whole) .none kV16 dc16 pm16 an16 cd16 ct16), sl16⟩) (c16 : PySem.W.codeIn K cd16 "_law_is_whole" = true) (k16 : PySem.W.keepIn K (.ref f16) = true)
    {f17 : Addr} {od17 an17 : Option Addr} {sl17 : Array (Option Value)} {oc17 kV17 dc17 pm17 cd17 ct17 : Value}
    (a17 : PySem.W.nsIn K mainGlobals "_law_rises" = some (some (.ref f17)))
    (l17 : K.lookup f17 = some ⟨oc17, od17, .func (PySem.W.fnOf "_law_rises" "_law_rises" (defArgs s_law_rises) (defBody s_law_rises) (defScope s_law_rises) .none kV17 dc17 pm17 an17 cd17 ct17), sl17⟩) (c17 : PySem.W.codeIn K cd17 "_law_rises" = true) (k17 : PySem.W.keepIn K (.ref f17) = true)
    {f18 : Addr} {od18 an18 : Option Addr} {sl18 : Array (Option Value)} {oc18 kV18 dc18 pm18 cd18 ct18 : Value}
    (a18 : PySem.W.nsIn K mainGlobals "_law_is_seen" = some (some (.ref f18)))
    (l18 : K.lookup f18 = some ⟨oc18, od18, .func (PySem.W.fnOf "_law_is_seen" "_law_is_seen" (defArgs s_is_seen) (defBody s_is_seen) (defScope s_is_seen) .none kV18 dc18 pm18 an18 cd18 ct18), sl18⟩) (c18 : PySem.W.codeIn K cd18 "_law_is_seen" = true) (k18 : PySem.W.keepIn K (.ref f18) = true)
    {f19 : Addr} {od19 an19 : Option Addr} {sl19 : Array (Option Value)} {oc19 kV19 dc19 pm19 cd19 ct19 : Value}
    (a19 : PySem.W.nsIn K mainGlobals "_law_is_ties" = some (some (.ref f19)))
    (l19 : K.lookup f19 = some ⟨oc19, od19, .func (PySem.W.fnOf "_law_is_ties" "_law_is_ties" (defArgs s_is_ties) (defBody s_is_ties) (defScope s_is_ties) .none kV19 dc19 pm19 an19 cd19 ct19), sl19⟩) (c19 : PySem.W.codeIn K cd19 "_law_is_ties" = true) (k19 : PySem.W.keepIn K (.ref f19) = true)
    {f20 : Addr} {od20 an20 : Option Addr} {sl20 : Array (Option Value)} {oc20 kV20 dc20 pm20 cd20 ct20 : Value}
    (a20 : PySem.W.nsIn K mainGlobals "_law_due" = some (some (.ref f20)))
    (l20 : K.lookup f20 = some ⟨oc20, od20, .func (PySem.W.fnOf "_law_due" "_law_due" (defArgs s_due) (defBody s_due) (defScope s_due) .none kV20 dc20 pm20 an20 cd20 ct20), sl20⟩) (c20 : PySem.W.codeIn K cd20 "_law_due" = true) (k20 : PySem.W.keepIn K (.ref f20) = true)
    {f21 : Addr} {od21 an21 : Option Addr} {sl21 : Array (Option Value)} {oc21 kV21 dc21 pm21 cd21 ct21 : Value}
    (a21 : PySem.W.nsIn K mainGlobals "_law_bent" = some (some (.ref f21)))
    (l21 : K.lookup f21 = some ⟨oc21, od21, .func (PySem.W.fnOf "_law_bent" "_law_bent" (defArgs s_bent) (defBody s_bent) (defScope s_bent) .none kV21 dc21 pm21 an21 cd21 ct21), sl21⟩) (c21 : PySem.W.codeIn K cd21 "_law_bent" = true) (k21 : PySem.W.keepIn K (.ref f21) = true)
    {f22 : Addr} {od22 an22 : Option Addr} {sl22 : Array (Option Value)} {oc22 kV22 dc22 pm22 cd22 ct22 : Value}
    (a22 : PySem.W.nsIn K mainGlobals "_law_right" = some (some (.ref f22)))
    (l22 : K.lookup f22 = some ⟨oc22, od22, .func (PySem.W.fnOf "_law_right" "_law_right" (defArgs s_right) (defBody s_right) (defScope s_right) .none kV22 dc22 pm22 an22 cd22 ct22), sl22⟩) (c22 : PySem.W.codeIn K cd22 "_law_right" = true) (k22 : PySem.W.keepIn K (.ref f22) = true)
    {f23 : Addr} {od23 an23 : Option Addr} {sl23 : Array (Option Value)} {oc23 kV23 dc23 pm23 cd23 ct23 : Value}
    (a23 : PySem.W.nsIn K mainGlobals "law" = some (some (.ref f23)))
    (l23 : K.lookup f23 = some ⟨oc23, od23, .func (PySem.W.fnOf "law" "law" (defArgs s_law) (defBody s_law) (defScope s_law) .none kV23 dc23 pm23 an23 cd23 ct23), sl23⟩) (c23 : PySem.W.codeIn K cd23 "law" = true) (k23 : PySem.W.keepIn K (.ref f23) = true)
    {DPARTS : Addr} {esPARTS : Array DictEntry} {enPARTS : Nat} (aDPARTS : PySem.W.nsIn K mainGlobals "PARTS" = some (some (.ref DPARTS))) (lDPARTS : K.lookup DPARTS = some ⟨.type "dict", none, .dict esPARTS enPARTS, #[]⟩) (kDPARTS : PySem.W.KeysLit w.params esPARTS.toList) (yDPARTS : (DPARTS == sysModules) = false)
    (dnPARTS : PySem.W.nsIn K DPARTS "" = some none)
    {tPARTS_held : Addr} {oPARTS_held : Option Addr} {itPARTS_held : Array Value} {inPARTS_held : Nat} {tsPARTS_held : Array (Option Value)} (ePARTS_held : PySem.W.nsIn K DPARTS "held" = some (some (.ref tPARTS_held))) (ltPARTS_held : K.lookup tPARTS_held = some ⟨.type "tuple", oPARTS_held, .seq itPARTS_held inPARTS_held, tsPARTS_held⟩) (ztPARTS_held : itPARTS_held.size ≤ sizeLine) (vtPARTS_held : Vals [V.str "number"] itPARTS_held.toList)
    {tPARTS_sum : Addr} {oPARTS_sum : Option Addr} {itPARTS_sum : Array Value} {inPARTS_sum : Nat} {tsPARTS_sum : Array (Option Value)} (ePARTS_sum : PySem.W.nsIn K DPARTS "sum" = some (some (.ref tPARTS_sum))) (ltPARTS_sum : K.lookup tPARTS_sum = some ⟨.type "tuple", oPARTS_sum, .seq itPARTS_sum inPARTS_sum, tsPARTS_sum⟩) (ztPARTS_sum : itPARTS_sum.size ≤ sizeLine) (vtPARTS_sum : Vals [V.str "number", V.str "ties"] itPARTS_sum.toList)
    {tPARTS_cap : Addr} {oPARTS_cap : Option Addr} {itPARTS_cap : Array Value} {inPARTS_cap : Nat} {tsPARTS_cap : Array (Option Value)} (ePARTS_cap : PySem.W.nsIn K DPARTS "cap" = some (some (.ref tPARTS_cap))) (ltPARTS_cap : K.lookup tPARTS_cap = some ⟨.type "tuple", oPARTS_cap, .seq itPARTS_cap inPARTS_cap, tsPARTS_cap⟩) (ztPARTS_cap : itPARTS_cap.size ≤ sizeLine) (vtPARTS_cap : Vals [V.str "number", V.str "ties", V.str "number"] itPARTS_cap.toList)
    {tPARTS_kinds : Addr} {oPARTS_kinds : Option Addr} {itPARTS_kinds : Array Value} {inPARTS_kinds : Nat} {tsPARTS_kinds : Array (Option Value)} (ePARTS_kinds : PySem.W.nsIn K DPARTS "kinds" = some (some (.ref tPARTS_kinds))) (ltPARTS_kinds : K.lookup tPARTS_kinds = some ⟨.type "tuple", oPARTS_kinds, .seq itPARTS_kinds inPARTS_kinds, tsPARTS_kinds⟩) (ztPARTS_kinds : itPARTS_kinds.size ≤ sizeLine) (vtPARTS_kinds : Vals [V.str "number", V.str "seen"] itPARTS_kinds.toList)
    {tPARTS_next : Addr} {oPARTS_next : Option Addr} {itPARTS_next : Array Value} {inPARTS_next : Nat} {tsPARTS_next : Array (Option Value)} (ePARTS_next : PySem.W.nsIn K DPARTS "next" = some (some (.ref tPARTS_next))) (ltPARTS_next : K.lookup tPARTS_next = some ⟨.type "tuple", oPARTS_next, .seq itPARTS_next inPARTS_next, tsPARTS_next⟩) (ztPARTS_next : itPARTS_next.size ≤ sizeLine) (vtPARTS_next : Vals [V.str "seen"] itPARTS_next.toList)
    {tPARTS_free : Addr} {oPARTS_free : Option Addr} {itPARTS_free : Array Value} {inPARTS_free : Nat} {tsPARTS_free : Array (Option Value)} (ePARTS_free : PySem.W.nsIn K DPARTS "free" = some (some (.ref tPARTS_free))) (ltPARTS_free : K.lookup tPARTS_free = some ⟨.type "tuple", oPARTS_free, .seq itPARTS_free inPARTS_free, tsPARTS_free⟩) (ztPARTS_free : itPARTS_free.size ≤ sizeLine) (vtPARTS_free : Vals [V.str "seen"] itPARTS_free.toList)
    (z0 : PySem.W.nsIn K mainGlobals "abs" = some none)
    (z1 : PySem.W.nsIn K mainGlobals "all" = some none)
    (z2 : PySem.W.nsIn K mainGlobals "bool" = some none)
    (z3 : PySem.W.nsIn K mainGlobals "enumerate" = some none)
    (z4 : PySem.W.nsIn K mainGlobals "int" = some none)
    (z5 : PySem.W.nsIn K mainGlobals "isinstance" = some none)
    (z6 : PySem.W.nsIn K mainGlobals "len" = some none)
    (z7 : PySem.W.nsIn K mainGlobals "list" = some none)
    (z8 : PySem.W.nsIn K mainGlobals "max" = some none)
    (z9 : PySem.W.nsIn K mainGlobals "range" = some none)
    (z10 : PySem.W.nsIn K mainGlobals "repr" = some none)
    (z11 : PySem.W.nsIn K mainGlobals "str" = some none)
    (z12 : PySem.W.nsIn K mainGlobals "tuple" = some none)
    (z13 : PySem.W.nsIn K mainGlobals "zip" = some none) :
    ∃ fd : FuncData, (∀ (t : Shared) (v : Value), BindsTo t fd ⟨[v], []⟩ [("_law_script", v)]) ∧ ∀ base : Heap, K.In base → base.Ns mainGlobals mg → FnG l.prog w K mg base 10 fa fd ["_law_script"] (spLaw K) := by
  have e := hfa.symm.trans (PySem.W.mg_of X G a23)
  cases e
  refine ⟨PySem.W.fnOf "law" "law" (defArgs s_law) (defBody s_law) (defScope s_law) .none kV23 dc23 pm23 an23 cd23 ct23, fun t v => .of_eq rfl, fun base _ _ => ?_⟩
  exact ok_law (w := w) {
    t_is_number := ⟨_, _, fun_mk (st := s_is_number) l0 c0 k0, (fun_mk (st := s_is_number) l0 c0 k0).binds (ps := p_is_number) fun _ _ _ _ _ _ us hl => match us, hl with | [_], _ => rfl⟩,
    g_is_number := PySem.W.mg_of X G a0,
    t_is_person := ⟨_, _, fun_mk (st := s_is_person) l1 c1 k1, (fun_mk (st := s_is_person) l1 c1 k1).binds (ps := p_is_person) fun _ _ _ _ _ _ us hl => match us, hl with | [_, _], _ => rfl⟩,
    g_is_person := PySem.W.mg_of X G a1,
    t_are_persons := ⟨_, _, fun_mk (st := s_are_persons) l2 c2 k2, (fun_mk (st := s_are_persons) l2 c2 k2).binds (ps := p_are_persons) fun _ _ _ _ _ _ us hl => match us, hl with | [_, _], _ => rfl⟩,
    g_are_persons := PySem.W.mg_of X G a2,
    t_rises := ⟨_, _, fun_mk (st := s_rises) l3 c3 k3, (fun_mk (st := s_rises) l3 c3 k3).binds (ps := p_rises) fun _ _ _ _ _ _ us hl => match us, hl with | [_], _ => rfl⟩,
    g_rises := PySem.W.mg_of X G a3,
    t_is_rule := ⟨_, _, fun_mk (st := s_is_rule) l4 c4 k4, (fun_mk (st := s_is_rule) l4 c4 k4).binds (ps := p_is_rule) fun _ _ _ _ _ _ us hl => match us, hl with | [_, _], _ => rfl⟩,
    g_is_rule := PySem.W.mg_of X G a4,
    kb_is_rule := ⟨fun s us ws _ h1 h2 => match us, ws, h1, h2 with | [], [_, _], _, _ => .of_eq rfl, fun _ r => permV_rel _ r⟩,
    t_is_part := ⟨_, _, fun_mk (st := s_is_part) l5 c5 k5, (fun_mk (st := s_is_part) l5 c5 k5).binds (ps := p_is_part) fun _ _ _ _ _ _ us hl => match us, hl with | [_, _, _], _ => rfl⟩,
    g_is_part := PySem.W.mg_of X G a5,
    t_are_ties := ⟨_, _, fun_mk (st := s_are_ties) l6 c6 k6, (fun_mk (st := s_are_ties) l6 c6 k6).binds (ps := p_are_ties) fun _ _ _ _ _ _ us hl => match us, hl with | [_, _], _ => rfl⟩,
    g_are_ties := PySem.W.mg_of X G a6,
    t_is_tie := ⟨_, _, fun_mk (st := s_is_tie) l7 c7 k7, (fun_mk (st := s_is_tie) l7 c7 k7).binds (ps := p_is_tie) fun _ _ _ _ _ _ us hl => match us, hl with | [_, _], _ => rfl⟩,
    g_is_tie := PySem.W.mg_of X G a7,
    t_dip := ⟨_, _, fun_mk (st := s_dip) l8 c8 k8, (fun_mk (st := s_dip) l8 c8 k8).binds (ps := p_dip) fun _ _ _ _ _ _ us hl => match us, hl with | [_, _], _ => rfl⟩,
    g_dip := PySem.W.mg_of X G a8,
    t_take := ⟨_, _, fun_mk (st := s_take) l9 c9 k9, (fun_mk (st := s_take) l9 c9 k9).binds (ps := p_take) fun _ _ _ _ _ _ us hl => match us, hl with | [_, _], _ => rfl⟩,
    g_take := PySem.W.mg_of X G a9,
    t_folded := ⟨_, _, fun_mk (st := s_folded) l10 c10 k10, (fun_mk (st := s_folded) l10 c10 k10).binds (ps := p_folded) fun _ _ _ _ _ _ us hl => match us, hl with | [_, _], _ => rfl⟩,
    g_folded := PySem.W.mg_of X G a10,
    t_one_of := ⟨_, _, fun_mk (st := s_one_of) l11 c11 k11, (fun_mk (st := s_one_of) l11 c11 k11).binds (ps := p_one_of) fun _ _ _ _ _ _ us hl => match us, hl with | [_, _], _ => rfl⟩,
    g_one_of := PySem.W.mg_of X G a11,
    t_same := ⟨_, _, fun_mk (st := s_same) l12 c12 k12, (fun_mk (st := s_same) l12 c12 k12).binds (ps := p_same) fun _ _ _ _ _ _ us hl => match us, hl with | [_, _], _ => rfl⟩,
    g_same := PySem.W.mg_of X G a12,
    t_some := ⟨_, _, fun_mk (st := s_some) l13 c13 k13, (fun_mk (st := s_some) l13 c13 k13).binds (ps := p_some) fun _ _ _ _ _ _ us hl => match us, hl with | [_, _, _], _ => rfl⟩,
    g_some := PySem.W.mg_of X G a13,
    t_sum_rule := ⟨_, _, fun_mk (st := s_sum_rule) l14 c14 k14, (fun_mk (st := s_sum_rule) l14 c14 k14).binds (ps := p_sum_rule) fun _ _ _ _ _ _ us hl => match us, hl with | [_, _, _], _ => rfl⟩,
    g_sum_rule := PySem.W.mg_of X G a14,
    t_rule := ⟨_, _, fun_mk (st := s_rule) l15 c15 k15, (fun_mk (st := s_rule) l15 c15 k15).binds (ps := p_rule) fun _ _ _ _ _ _ us hl => match us, hl with | [_, _, _, _], _ => rfl⟩,
    g_rule := PySem.W.mg_of X G a15,
    t_is_whole := ⟨_, _, fun_mk (st := s_is_whole) l16 c16 k16, (fun_mk (st := s_is_whole) l16 c16 k16).binds (ps := p_is_whole) fun _ _ _ _ _ _ us hl => match us, hl with | [_], _ => rfl⟩,
    g_is_whole := PySem.W.mg_of X G a16,
    t_law_rises := ⟨_, _, fun_mk (st := s_law_rises) l17 c17 k17, (fun_mk (st := s_law_rises) l17 c17 k17).binds (ps := p_law_rises) fun _ _ _ _ _ _ us hl => match us, hl with | [_], _ => rfl⟩,
    g_law_rises := PySem.W.mg_of X G a17,
    t_is_seen := ⟨_, _, fun_mk (st := s_is_seen) l18 c18 k18, (fun_mk (st := s_is_seen) l18 c18 k18).binds (ps := p_is_seen) fun _ _ _ _ _ _ us hl => match us, hl with | [_, _], _ => rfl⟩,
    g_is_seen := PySem.W.mg_of X G a18,
    t_is_ties := ⟨_, _, fun_mk (st := s_is_ties) l19 c19 k19, (fun_mk (st := s_is_ties) l19 c19 k19).binds (ps := p_is_ties) fun _ _ _ _ _ _ us hl => match us, hl with | [_, _], _ => rfl⟩,
    g_is_ties := PySem.W.mg_of X G a19,
    t_due := ⟨_, _, fun_mk (st := s_due) l20 c20 k20, (fun_mk (st := s_due) l20 c20 k20).binds (ps := p_due) fun _ _ _ _ _ _ us hl => match us, hl with | [_, _], _ => rfl⟩,
    g_due := PySem.W.mg_of X G a20,
    t_bent := ⟨_, _, fun_mk (st := s_bent) l21 c21 k21, (fun_mk (st := s_bent) l21 c21 k21).binds (ps := p_bent) fun _ _ _ _ _ _ us hl => match us, hl with | [_, _], _ => rfl⟩,
    g_bent := PySem.W.mg_of X G a21,
    t_right := ⟨_, _, fun_mk (st := s_right) l22 c22 k22, (fun_mk (st := s_right) l22 c22 k22).binds (ps := p_right) fun _ _ _ _ _ _ us hl => match us, hl with | [_], _ => rfl⟩,
    g_right := PySem.W.mg_of X G a22,
    t_law := ⟨_, _, fun_mk (st := s_law) l23 c23 k23, (fun_mk (st := s_law) l23 c23 k23).binds (ps := p_law) fun _ _ _ _ _ _ us hl => match us, hl with | [_], _ => rfl⟩,
    g_law := PySem.W.mg_of X G a23,
    D_PARTS := DPARTS,
    g_PARTS := PySem.W.mg_of X G aDPARTS,
    es_PARTS := esPARTS,
    en_PARTS := enPARTS,
    kd_PARTS := ⟨lDPARTS, kDPARTS, yDPARTS⟩,
    dn_PARTS := dnPARTS,
    t_PARTS_held := tPARTS_held,
    dk_PARTS_held := ePARTS_held,
    sq_PARTS_held := fun _ => .inr ⟨_, itPARTS_held, inPARTS_held, ltPARTS_held, rfl, rfl, ztPARTS_held, vtPARTS_held⟩,
    t_PARTS_sum := tPARTS_sum,
    dk_PARTS_sum := ePARTS_sum,
    sq_PARTS_sum := fun _ => .inr ⟨_, itPARTS_sum, inPARTS_sum, ltPARTS_sum, rfl, rfl, ztPARTS_sum, vtPARTS_sum⟩,
    t_PARTS_cap := tPARTS_cap,
    dk_PARTS_cap := ePARTS_cap,
    sq_PARTS_cap := fun _ => .inr ⟨_, itPARTS_cap, inPARTS_cap, ltPARTS_cap, rfl, rfl, ztPARTS_cap, vtPARTS_cap⟩,
    t_PARTS_kinds := tPARTS_kinds,
    dk_PARTS_kinds := ePARTS_kinds,
    sq_PARTS_kinds := fun _ => .inr ⟨_, itPARTS_kinds, inPARTS_kinds, ltPARTS_kinds, rfl, rfl, ztPARTS_kinds, vtPARTS_kinds⟩,
    t_PARTS_next := tPARTS_next,
    dk_PARTS_next := ePARTS_next,
    sq_PARTS_next := fun _ => .inr ⟨_, itPARTS_next, inPARTS_next, ltPARTS_next, rfl, rfl, ztPARTS_next, vtPARTS_next⟩,
    t_PARTS_free := tPARTS_free,
    dk_PARTS_free := ePARTS_free,
    sq_PARTS_free := fun _ => .inr ⟨_, itPARTS_free, inPARTS_free, ltPARTS_free, rfl, rfl, ztPARTS_free, vtPARTS_free⟩,
    m_abs := PySem.W.mg_none_of X G z0,
    m_all := PySem.W.mg_none_of X G z1,
    m_bool := PySem.W.mg_none_of X G z2,
    m_enumerate := PySem.W.mg_none_of X G z3,
    m_int := PySem.W.mg_none_of X G z4,
    m_isinstance := PySem.W.mg_none_of X G z5,
    m_len := PySem.W.mg_none_of X G z6,
    m_list := PySem.W.mg_none_of X G z7,
    m_max := PySem.W.mg_none_of X G z8,
    m_range := PySem.W.mg_none_of X G z9,
    m_repr := PySem.W.mg_none_of X G z10,
    m_str := PySem.W.mg_none_of X G z11,
    m_tuple := PySem.W.mg_none_of X G z12,
    m_zip := PySem.W.mg_none_of X G z13 }
end Lh
open PySem PySem.W PyProof.Rows
set_option maxHeartbeats 0 in
theorem PySem.Challenge.cw_lesserhall_k01_rules_or_not_holds : PySem.Challenge.rw_lesserhall_k01_rules_or_not.Holds := by
  w_on; o_law; k_head; (case hw => w_witness2)
  k_fill
  refine Lh.walk_G (l := PySem.Challenge.rw_lesserhall_k01_rules_or_not) (n := 63) (k := 10) (x := "_law_script") (sp := fun w => Lh.spLaw _) rfl (by decide) rfl ⟨rfl, by decide, by decide⟩ (fun w h Y => PySem.W.kIn_of Y) ?F (fun _ _ a ns hl _ hS => ⟨a, ns, rfl, hS, hl, fun _ => rfl⟩)
  case F =>
    intro w mg fa h KX G hmg
    refine' Lh.all_mk KX G hmg ?a0 ?l0 ?c0 ?k0 ?a1 ?l1 ?c1 ?k1 ?a2 ?l2 ?c2 ?k2 ?a3 ?l3 ?c3 ?k3 ?a4 ?l4 ?c4 ?k4 ?a5 ?l5 ?c5 ?k5 ?a6 ?l6 ?c6 ?k6 ?a7 ?l7 ?c7 ?k7 ?a8 ?l8 ?c8 ?k8 ?a9 ?l9 ?c9 ?k9 ?a10 ?l10 ?c10 ?k10 ?a11 ?l11 ?c11 ?k11 ?a12 ?l12 ?c12 ?k12 ?a13 ?l13 ?c13 ?k13 ?a14 ?l14 ?c14 ?k14 ?a15 ?l15 ?c15 ?k15 ?a16 ?l16 ?c16 ?k16 ?a17 ?l17 ?c17 ?k17 ?a18 ?l18 ?c18 ?k18 ?a19 ?l19 ?c19 ?k19 ?a20 ?l20 ?c20 ?k20 ?a21 ?l21 ?c21 ?k21 ?a22 ?l22 ?c22 ?k22 ?a23 ?l23 ?c23 ?k23 ?aDPARTS ?lDPARTS ?kDPARTS ?yDPARTS ?dnPARTS ?ePARTS_held ?ltPARTS_held ?ztPARTS_held ?vtPARTS_held ?ePARTS_sum ?ltPARTS_sum ?ztPARTS_sum ?vtPARTS_sum ?ePARTS_cap ?ltPARTS_cap ?ztPARTS_cap ?vtPARTS_cap ?ePARTS_kinds ?ltPARTS_kinds ?ztPARTS_kinds ?vtPARTS_kinds ?ePARTS_next ?ltPARTS_next ?ztPARTS_next ?vtPARTS_next ?ePARTS_free ?ltPARTS_free ?ztPARTS_free ?vtPARTS_free ?z0 ?z1 ?z2 ?z3 ?z4 ?z5 ?z6 ?z7 ?z8 ?z9 ?z10 ?z11 ?z12 ?z13
    (case a0 => k_is); (case l0 => k_is); (case c0 => k_is); (case k0 => k_is); (case a1 => k_is); (case l1 => k_is); (case c1 => k_is); (case k1 => k_is); (case a2 => k_is); (case l2 => k_is); (case c2 => k_is); (case k2 => k_is); (case a3 => k_is); (case l3 => k_is); (case c3 => k_is); (case k3 => k_is); (case a4 => k_is); (case l4 => k_is); (case c4 => k_is); (case k4 => k_is); (case a5 => k_is); (case l5 => k_is); (case c5 => k_is); (case k5 => k_is); (case a6 => k_is); (case l6 => k_is); (case c6 => k_is); (case k6 => k_is); (case a7 => k_is); (case l7 => k_is); (case c7 => k_is); (case k7 => k_is); (case a8 => k_is); (case l8 => k_is); (case c8 => k_is); (case k8 => k_is); (case a9 => k_is); (case l9 => k_is); (case c9 => k_is); (case k9 => k_is); (case a10 => k_is); (case l10 => k_is); (case c10 => k_is); (case k10 => k_is); (case a11 => k_is); (case l11 => k_is); (case c11 => k_is); (case k11 => k_is); (case a12 => k_is); (case l12 => k_is); (case c12 => k_is); (case k12 => k_is); (case a13 => k_is); (case l13 => k_is); (case c13 => k_is); (case k13 => k_is); (case a14 => k_is); (case l14 => k_is); (case c14 => k_is); (case k14 => k_is); (case a15 => k_is); (case l15 => k_is); (case c15 => k_is); (case k15 => k_is); (case a16 => k_is); (case l16 => k_is); (case c16 => k_is); (case k16 => k_is); (case a17 => k_is); (case l17 => k_is); (case c17 => k_is); (case k17 => k_is); (case a18 => k_is); (case l18 => k_is); (case c18 => k_is); (case k18 => k_is); (case a19 => k_is); (case l19 => k_is); (case c19 => k_is); (case k19 => k_is); (case a20 => k_is); (case l20 => k_is); (case c20 => k_is); (case k20 => k_is); (case a21 => k_is); (case l21 => k_is); (case c21 => k_is); (case k21 => k_is); (case a22 => k_is); (case l22 => k_is); (case c22 => k_is); (case k22 => k_is); (case a23 => k_is); (case l23 => k_is); (case c23 => k_is); (case k23 => k_is); (case aDPARTS => k_is); (case lDPARTS => k_is); (case kDPARTS => exact ⟨⟨_, _, rfl, rfl⟩, ⟨_, _, rfl, rfl⟩, ⟨_, _, rfl, rfl⟩, ⟨_, _, rfl, rfl⟩, ⟨_, _, rfl, rfl⟩, ⟨_, _, rfl, rfl⟩, trivial⟩); (case yDPARTS => decide +kernel); (case dnPARTS => k_is); (case ePARTS_held => k_is); (case ltPARTS_held => k_is); (case ztPARTS_held => decide +kernel); (case vtPARTS_held => exact .cons ⟨_, rfl⟩ (.nil)); (case ePARTS_sum => k_is); (case ltPARTS_sum => k_is); (case ztPARTS_sum => decide +kernel); (case vtPARTS_sum => exact .cons ⟨_, rfl⟩ (.cons ⟨_, rfl⟩ (.nil))); (case ePARTS_cap => k_is); (case ltPARTS_cap => k_is); (case ztPARTS_cap => decide +kernel); (case vtPARTS_cap => exact .cons ⟨_, rfl⟩ (.cons ⟨_, rfl⟩ (.cons ⟨_, rfl⟩ (.nil)))); (case ePARTS_kinds => k_is); (case ltPARTS_kinds => k_is); (case ztPARTS_kinds => decide +kernel); (case vtPARTS_kinds => exact .cons ⟨_, rfl⟩ (.cons ⟨_, rfl⟩ (.nil))); (case ePARTS_next => k_is); (case ltPARTS_next => k_is); (case ztPARTS_next => decide +kernel); (case vtPARTS_next => exact .cons ⟨_, rfl⟩ (.nil)); (case ePARTS_free => k_is); (case ltPARTS_free => k_is); (case ztPARTS_free => decide +kernel); (case vtPARTS_free => exact .cons ⟨_, rfl⟩ (.nil)); (case z0 => k_is); (case z1 => k_is); (case z2 => k_is); (case z3 => k_is); (case z4 => k_is); (case z5 => k_is); (case z6 => k_is); (case z7 => k_is); (case z8 => k_is); (case z9 => k_is); (case z10 => k_is); (case z11 => k_is); (case z12 => k_is); (case z13 => k_is)
