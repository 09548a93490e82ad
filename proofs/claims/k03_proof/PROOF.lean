import PyProof.Rows.All
import Wide.All
import OpenK.AllK
import Wide.FinOn
import HandS.Base
import HandS.Call
import HandS.List
import HandS.Comp
import HandS.Ends
import HandS.Words
import HandS.Exc
import HandS.WordsExc
import PyProof.ReprReads
import HandS.Dict
import HandS.IsInst
import PyProof.ReprRoads
import HandS.ForMost
import HandS.ExcValue
import HandS.ExcIs
import KE.KExcIs
import HandS.TupLe
import KE.KTypeOf
import HandS.ForSpec
import HandS.ExcOwn
import KE.KDictKeyed
import KE.KeyNested
import HandS.Iter
import HandS.Conv
import KE.KDictWalk
import HandS.DictComp
import KE.SortData
import KE.KDictSum
import KE.DatumOrd
import HandS.TupSets
import PyProof.Rows.SeqMore
import HandS.Deep
import PyProof.ReprText
import PyProof.Rows.ReprOcc
import HandS.Lambda
import HandS.SetFor
import PyProof.ReprBulk
import KE.KRevSl
import HandS.Property
import HandS.More
import HandS.OwnEq
import HandS.EndTab
import HandS.EndBits
import PySem.Challenge.RW_seencursors_k03_roads
set_option Elab.async false
set_option linter.all false
set_option maxRecDepth 100000
set_option maxHeartbeats 4000000
/-! Defs that may show data (repr): promises that hold where nothing is being shown around them. -/
namespace Own
open PySem PySem.Spec PyProof.Rows L2
/-- a def keeps a promise wherever nothing is being shown -/
structure GFn (P : Program) (w : World) (K : PySem.W.Frag) (mg : Str → Option Value) (base : Heap) (CX : CXT) (k : Nat) (f : Addr) (fd : FuncData) (ps : List Str) (sp : Sp) : Prop where
  len : ∀ vs H Q E, sp vs H Q E → vs.length = ps.length
  run : ∀ (A : Around) (outer : List Env) (s : Shared) (H : Hp) (args : Args) (us : List Value) (vs : List V) (Q : VK) (E : XK), A.guards = some [] → Room k A → Env0 P w K mg base A outer s H → BindsTo s fd args (ps.zip us) → Vals vs us → sp vs H Q E →
    codeAny (model P w) A (.call (.ref f) args) (CR CX outer P w H s Q E) s
theorem gfn_of {P : Program} {w : World} {K : PySem.W.Frag} {mg : Str → Option Value} {base : Heap} {CX : CXT} {k : Nat} {f : Addr} {fd : FuncData} {ps : List Str} {sp : Sp} (F : FnOk P w K mg base CX k f fd ps sp) : GFn P w K mg base CX k f fd ps sp :=
  ⟨F.len, fun A outer s H args us vs Q E _ hr e b r h => F.run A outer s H args us vs Q E hr e b r h⟩
section
variable {CX : CXT} {P : Program} {w : World} {K : PySem.W.Frag} {mg : Str → Option Value} {base : Heap} {k : Nat} {f : Addr}
/-- the rule for such a def -/
theorem Fun.gok {x qual : Str} {st : Stmt} {fd : FuncData} {N ps : List Str} {sp : Sp} (F : Fun K x qual st f fd) (S : FnScope N ps (defScope st)) (len : ∀ vs H Q E, sp vs H Q E → vs.length = ps.length)
    (hb : ∀ (cdv : Value) (A : Around) (outer : List Env) (s : Shared) (H : Hp) (vs : List V) (Q : VK) (E : XK), A.guards = some [] → Room k (A.deeper (envOfC qual (defScope st) s.heap.objs.size f cdv)) → sp vs H Q E →
      ∃ t, PSs (cxOf CX0 P w K mg base N qual (defScope st) f cdv A outer s H E).nox (defBody st) t ∧ t { nx := fun _ H' => Q .non H', rt := Q } (L2.start N vs) H) : GFn P w K mg base CX0 (k + 1) f fd ps sp := by
  obtain ⟨oc, od, kV, doc, pm, an, cdv, ct, osl, rfl, lk, hcd⟩ := F.ex
  refine ⟨len, fun A outer s H args us vs Q E hg hr e0 hbd r hsp => ?_⟩
  have hl := len _ _ _ _ hsp
  have KX : K.In s.heap := e0.mod.kin.keeps fun b o e => (e0.bs b o e).1
  have lim : s.heap.NoLimit := e0.mod.nolimit.keeps fun b o e => (e0.bs b o e).1
  have hk : ∀ y ∈ ps.zip us, (defScope st).names.lookup y.1 = some .local ∨ ((defScope st).names.lookup y.1 = some .cell ∧ ((cellsFrom (s.heap.objs.size + 1) (defScope st).names []).lookup y.1).isSome = true) := by
    rintro ⟨n, v⟩ hy
    rcases S.par n (List.of_mem_zip hy).1 with q | q
    · exact .inl q
    · exact .inr ⟨q, PySem.W.cellsFrom_some _ _ _ (.inl q)⟩
  refine codeAny_call_function hr.depth (KX _ _ lk) rfl S.co S.gen rfl (PySem.W.codeRec_of KX hcd) (hbd _ _ _ _ (wpAny_newFunctionEnv_cells S.kind hk fun env he s1 x => ?_))
  cases he
  refine ⟨lim.keeps x.toInCall.keep, codeAny_func ?_⟩
  obtain ⟨t, ht, hq⟩ := hb cdv A outer s H vs Q E hg (hr.deeper _) hsp
  have I : Inv (cxOf CX0 P w K mg base N qual (defScope st) f cdv A outer s H E) [] (L2.start N vs) H s1 := inv_start S hr.hd e0 hl r x
  refine wpAny_mono (ht.nox.run [] s1 (L2.start N vs) H _ I hq) (fun fl s' hs => ?_) fun e s' hs => hs
  have fin : ∀ {σ' : L2.St} {H' : Hp} {v : V} {u : Value}, Inv (cxOf CX0 P w K mg base N qual (defScope st) f cdv A outer s H E) [] σ' H' s' → RelV v u → Q v H' → CE outer P w H s Q u s' :=
    fun {_ H' v u} J rv q => ⟨v, H', J.os, J.bare, J.base, J.hok, rv, q⟩
  cases fl with
  | ret u => obtain ⟨v, σ', H', J, rv, q⟩ := hs; exact fin J rv q
  | next => obtain ⟨σ', H', J, q⟩ := hs; exact fin (v := V.non) (u := Value.none) J rfl q
  | brk => obtain ⟨_, _, _, q⟩ := hs; exact False.elim q
  | cont => obtain ⟨_, _, _, q⟩ := hs; exact False.elim q
end
section
variable {X : Cx} {CX : CXT} {k : Nat} {f : Addr} {fd : FuncData} {ps : List Str} {sp : Sp} {ds : List Value} {dvs : List V} {E : XK}
theorem run_g {pins : List (Addr × Obj)} {σ : L2.St} {H : Hp} {s : Shared} {Q : VK} {us : List Value} {vs : List V} (F : GFn X.prog X.w X.K X.mg X.base CX k f fd ps sp) (hg : X.A.guards = some []) (hr : Room k X.A) (hb : Binds X.K fd ps ds) (hd : Vals dvs ds) (hx : Passes CX X E)
    (I : Inv X pins σ H s) (r : Vals vs us) (h : sp (vs ++ dvs) H Q E) : wpAny (model X.prog X.w) X.A (call (.ref f) us) (EP X pins σ Q) X.xe s := by
  have r2 : Vals (vs ++ dvs) (us ++ ds) := r.append hd
  have hl : (us ++ ds).length = ps.length := r2.length.symm.trans (F.len _ _ _ _ h)
  refine wpAny_call (codeAny_mono (F.run X.A X.stack s H ⟨us, []⟩ (us ++ ds) (vs ++ dvs) Q E hg hr I.env0 (hb s us I.kIn hl) r2 h) fun r s' hq => ?_)
  rcases r with e | (u | _ | _ | _)
  · exact hx pins σ H s e s' I hq
  · first | exact I.after hq | exact False.elim hq
  · first | exact I.after hq | exact False.elim hq
  · first | exact I.after hq | exact False.elim hq
  · first | exact I.after hq | exact False.elim hq
/-- f(e, ..), f such a def -/
theorem pe_callG {x : Str} {e : Expr} {es : List Expr} {t : TA} {p pos : Pos} (F : GFn X.prog X.w X.K X.mg X.base CX k f fd ps sp) (hgd : X.A.guards = some []) (hr : Room k X.A) (hg : Gl X x) (hm : X.mg x = some (.ref f)) (hk : PySem.W.keepIn X.K (.ref f) = true) (hb : Binds X.K fd ps ds) (hd : Vals dvs ds) (hx : Passes CX X E)
    (ha : PA X (e :: es) t) (hdb : (x == ("__debug__" : Str)) = false := by decide) (he : starEach (e :: es) X.env = (false, eval e X.env) :: starEach es X.env := by rfl) (hpl : (backTo pos (starEach es X.env)).any (·.1) = false := by rfl) :
    PE X (.Call (.Name x p) (e :: es) [] pos) (tCall sp dvs E t) :=
  ⟨fun pins s σ H Q I h => wpAny_Call_Name_kw (ld_glob I hg hm (PySem.W.callWith_K (h₀ := X.base) I.ok.mod.kin hk (thn (ha.run pos pins s σ H _ I h) fun us s1 ⟨vs, H1, I1, r, q⟩ => ⟨I1.kIn, run_g F hgd hr hb hd hx I1 r q⟩) he hpl) hdb)⟩
end
/-- the law's own promise, at the heap behind the top -/
theorem law_g {P : Program} {w : World} {K : PySem.W.Frag} {mg mb : Str → Option Value} {k : Nat} {fa a : Addr} {fd : FuncData} {x : Str} {sp : Sp} {s₁ : Shared} {us : List Value} {ns : List Int} (KX : K.In s₁.heap) (hm : s₁.heap.Ns mainGlobals mg) (hb : s₁.heap.Ns builtinsNs mb)
    (hbb : ∀ x : Str, x ≠ "__name__" → mb x = bootBuiltins x) (hlim : s₁.heap.NoLimit) (hg : s₁.gens = #[]) (ha : s₁.heap.get? a = some { cls := .type "list", data := .seq us.toArray }) (hi : IntsAre us ns) (hl : ns.length ≤ sizeLine) (hr : Room k callerA)
    (F : ∀ base : Heap, K.In base → base.Ns mainGlobals mg → GFn P w K mg base CX0 k fa fd [x] sp) (hbind : ∀ (s : Shared) (u : Value), BindsTo s fd ⟨[u], []⟩ [(x, u)]) (hsp : ∀ H : Hp, SqL K H a (ns.map V.int) → sp [.ref a] H (fun v _ => v = .bl true) fun _ _ _ => False) :
    codeAny (model P w) callerA (.call (.ref fa) ⟨[.ref a], []⟩) (fun r s' => r = .ok (.ret (.bool true)) ∧ PySem.OldK s₁.heap s'.heap ∧ s'.os = s₁.os ∧ AllBare s'.gens) s₁ := by
  have rv := vals_ints hi
  have core : ∀ H : Hp, (∀ b, H b = none ∨ ∃ o ys, H b = some (.frz o (.lst ys))) → SqL K H a (ns.map V.int) → HOk P w H s₁.heap → (∀ b, H b ≠ none → b = a ∧ K.lookup a = none) →
      codeAny (model P w) callerA (.call (.ref fa) ⟨[.ref a], []⟩) (fun r s' => r = .ok (.ret (.bool true)) ∧ PySem.OldK s₁.heap s'.heap ∧ s'.os = s₁.os ∧ AllBare s'.gens) s₁ := by
    intro H hO hS hok hA
    have free : ∀ {b : Addr}, b ≠ a ∨ (∃ o, K.lookup b = some o) → H b = none := by
      intro b z
      cases q : H b with
      | none => rfl
      | some u =>
        obtain ⟨e1, e2⟩ := hA b (by rw [q]; simp)
        rcases z with z | ⟨o, z⟩
        · exact absurd e1 z
        · rw [e1, e2] at z; cases z
    have nd : ∀ {b : Addr} {o : Obj} {es : Array DictEntry} {ep : Nat}, s₁.heap.get? b = some o → o.data = .dict es ep → b ≠ a := by
      rintro b o es ep e d rfl
      rw [ha] at e
      cases e
      cases d
    have nsK : ∀ {b : Addr} {m : Str → Option Value}, s₁.heap.Ns b m → (hidT s₁.heap H).Ns b m := by
      rintro b m ⟨o, es, ep, e, d, r⟩
      exact ⟨o, es, ep, hidT_get e (free (.inl (nd e d))), d, r⟩
    have hK : K.In (hidT s₁.heap H) := fun b o e => hidT_get (KX b o e) (free (.inr ⟨o, e⟩))
    have hM : Mod K mg (hidT s₁.heap H) := ⟨hK, nsK hm, ⟨mb, nsK hb, hbb⟩, by
      obtain ⟨mc, h1, h2⟩ := hlim
      exact ⟨mc, nsK h1, h2⟩⟩
    have e0 : Env0 P w K mg (hidT s₁.heap H) callerA [] s₁ H := ⟨rfl, hM, fun b o e => of_hidT e, Nat.le_of_eq (hidT_size _ _), trivial, (by simp [frs]), hok, .of_eq hg⟩
    refine codeAny_mono ((F _ hK (nsK hm)).run callerA [] s₁ H ⟨[.ref a], []⟩ [.ref a] [.ref a] _ _ rfl hr e0 (hbind s₁ (.ref a)) (.cons rfl .nil) (hsp H hS)) fun r s' h => ?_
    rcases r with e | fl
    · exact False.elim h
    cases fl with
    | next => exact False.elim h
    | brk => exact False.elim h
    | cont => exact False.elim h
    | ret u =>
      obtain ⟨v, H', os, bare, un, hok', r', q⟩ := h
      obtain rfl : v = .bl true := q
      obtain rfl : u = Value.bool true := r'
      refine ⟨rfl, PySem.OldK.of_keep fun b o e => ?_, os, bare⟩
      rcases hO b with z | ⟨ob, ys, z⟩
      · exact un.keep b o e z (by simp [frs]) (by simp)
      · obtain ⟨e1, _⟩ := hok b _ z
        obtain ⟨e2, _⟩ := hok' b _ (un.frzs b ob _ z)
        rw [e] at e1
        cases e1
        exact e2
  cases hk : K.lookup a with
  | some o =>
    have e := KX a o hk
    rw [ha] at e
    cases e
    exact core (fun _ => none) (fun _ => .inl rfl) (.inr ⟨_, us.toArray, _, hk, rfl, rfl, rfl, by rw [List.size_toArray, hi.length]; exact hl, by simpa using rv⟩) (fun b u z => by have y : (none : Option HO) = some u := z; cases y) fun b z => absurd rfl z
  | none =>
    have at_ : ∀ b, b ≠ a → (fun b : Addr => if b = a then some (HO.frz { cls := .type "list", data := .seq us.toArray } (.lst (ns.map V.int))) else none) b = none := fun b hb => if_neg hb
    refine core (fun b => if b = a then some (.frz { cls := .type "list", data := .seq us.toArray } (.lst (ns.map V.int))) else none) (fun b => ?_) (.inl (.inr ⟨_, if_pos rfl⟩)) (fun b u z => ?_) fun b z => ?_
    · by_cases hb : b = a
      · exact .inr ⟨_, _, if_pos hb⟩
      · exact .inl (at_ b hb)
    · by_cases hb : b = a
      · subst hb
        have y := (if_pos rfl).symm.trans z
        cases y
        exact ⟨ha, by rw [List.length_map]; exact hl, us, _, rv, ha⟩
      · have y := (at_ b hb).symm.trans z
        cases y
    · by_cases hb : b = a
      · exact ⟨hb, hk⟩
      · exact absurd (at_ b hb) z
theorem walk_g {l : PySem.W.OpenLaw} {n k : Nat} {q : Program} {loose : List Str} {XP : (Str → Option Value) → Heap → Prop} {YP : World → Heap → Prop} {d : DefRec} {K : Params → PySem.W.Frag} {sp : World → Sp} {x : Str} (hn : l.most = some n) (hn2 : n ≤ sizeLine) (hdf : d.params.defaults = []) (hr : Room k callerA)
    (hY : ∀ (w : World) (h : Heap), YP w h → (K w.params).In h)
    (F : ∀ (w : World) (mg : Str → Option Value) (fa : Addr) (h : Heap), (K w.params).In h → h.Ns mainGlobals mg → mg d.name = some (.ref fa) → ∃ fd : FuncData, (∀ (s : Shared) (u : Value), BindsTo s fd ⟨[u], []⟩ [(x, u)]) ∧
      ∀ base : Heap, (K w.params).In base → base.Ns mainGlobals mg → GFn l.prog w (K w.params) mg base CX0 k fa fd [x] (sp w))
    (hsp : ∀ (w : World) (H : Hp) (a : Addr) (ns : List Int), ns.length ≤ n → SqL (K w.params) H a (ns.map V.int) → sp w [.ref a] H (fun v _ => v = .bl true) fun _ _ _ => False) :
    PySem.W.WalkO q loose XP YP l.row.toRowW d [] (fun f vs => PySem.call f vs) := by
  refine Att.attach_call hn hdf fun w s₀ s₁ mg mb fa o pm cd doc a vs ns G Y ho hd hcd hmg hobj hints hlen hg => ?_
  have KX := hY w _ Y
  obtain ⟨fd, hb, hF⟩ := F w mg fa _ KX G.T.g hmg
  exact law_g KX G.T.g G.T.b G.T.builtins G.T.nolimit hg hobj hints (Nat.le_trans hlen hn2) hr hF hb fun H hS => hsp w H a ns hlen hS
end Own
/-! Data at an abstract value, dicts too; repr of it. -/
namespace Own
open PySem PySem.Spec PyProof.Rows L2 P3
/-- a dict's key as data -/
def keyD : Key → PyData
  | .inl i => .int i
  | .inr x => .str x
mutual
/-- the value v is the data d -/
inductive Dv (K : PySem.W.Frag) (H : Hp) : V → PyData → Prop
  | non : Dv K H .non .none
  | bl (b : Bool) : Dv K H (.bl b) (.bool b)
  | int (i : Int) : Dv K H (.int i) (.int i)
  | str (x : Str) : Dv K H (.str x) (.str x)
  | lst {a : Addr} {xs : List V} {ds : List PyData} : SqL K H a xs → DvAll K H xs ds → Dv K H (.ref a) (.list ds)
  | tup {a : Addr} {xs : List V} {ds : List PyData} : SqT K H a xs → DvAll K H xs ds → Dv K H (.ref a) (.tuple ds)
  | dct {a : Addr} {kvs : List (Key × V)} {ds : List PyData} : H a = some (.dK kvs) → DvAll K H (kvs.map (·.2)) ds → Dv K H (.ref a) (.dict ((kvs.map fun p => keyD p.1).zip ds))
inductive DvAll (K : PySem.W.Frag) (H : Hp) : List V → List PyData → Prop
  | nil : DvAll K H [] []
  | cons {v : V} {vs : List V} {d : PyData} {ds : List PyData} : Dv K H v d → DvAll K H vs ds → DvAll K H (v :: vs) (d :: ds)
end
theorem DvAll.len {K : PySem.W.Frag} {H : Hp} : ∀ {vs : List V} {ds : List PyData}, DvAll K H vs ds → vs.length = ds.length
  | _, _, .nil => rfl
  | _, _, .cons _ r => congrArg (· + 1) (DvAll.len r)
mutual
theorem Dv.same {K : PySem.W.Frag} {H H' : Hp} (s : Same H H') : ∀ {v : V} {d : PyData}, Dv K H v d → Dv K H' v d
  | _, _, .non => .non
  | _, _, .bl b => .bl b
  | _, _, .int i => .int i
  | _, _, .str x => .str x
  | _, _, .lst h r => .lst (s.seq h) (DvAll.same s r)
  | _, _, .tup h r => .tup (by
      rcases h with (h | ⟨o, h⟩) | h
      · exact .inl (.inl (s _ _ h))
      · exact .inl (.inr ⟨o, s _ _ h⟩)
      · exact .inr h) (DvAll.same s r)
  | _, _, .dct h r => .dct (s _ _ h) (DvAll.same s r)
theorem DvAll.same {K : PySem.W.Frag} {H H' : Hp} (s : Same H H') : ∀ {vs : List V} {ds : List PyData}, DvAll K H vs ds → DvAll K H' vs ds
  | _, _, .nil => .nil
  | _, _, .cons h r => .cons (Dv.same s h) (DvAll.same s r)
end
section
variable {X : Cx} {pins : List (Addr × Obj)} {σ : L2.St} {H : Hp} {s : Shared}
/-- what is shown of data that stands in a heap -/
def Sh (X : Cx) (h : Heap) (u : Value) (d : PyData) : Prop := ∃ as bs, Reads h u d as ∧ ReadAtMost h d.depth bs ∧ ReprK X.prog X.w bs h d.depth u d.shown ∧ ∀ a, u = .ref a → d.shown.length ≤ sizeLine → ∃ T idr, ShowsBy X.prog X.w h a d T idr
def ShAll (X : Cx) (h : Heap) (us : List Value) (ds : List PyData) : Prop := ∃ as bs, ReadsAll h us ds as ∧ ReadAtMost h (PyData.depthAll ds) bs ∧ ReprAllK X.prog X.w bs h (PyData.depthAll ds) us (PyData.shownAll ds)
theorem ShAll.nil {h : Heap} : ShAll X h [] [] := ⟨[], [], .nil, (fun _ h => nomatch h), .nil⟩
theorem ShAll.cons {h : Heap} {u : Value} {us : List Value} {d : PyData} {ds : List PyData} (x : Sh X h u d) (y : ShAll X h us ds) : ShAll X h (u :: us) (d :: ds) := by
  obtain ⟨a1, b1, r1, m1, k1, _⟩ := x
  obtain ⟨a2, b2, r2, m2, k2⟩ := y
  have l1 : d.depth ≤ PyData.depthAll (d :: ds) := by simp only [PyData.depthAll]; exact Nat.le_max_left _ _
  have l2 : PyData.depthAll ds ≤ PyData.depthAll (d :: ds) := by simp only [PyData.depthAll]; exact Nat.le_max_right _ _
  refine ⟨_, b1 ++ b2, .cons r1 r2, (m1.mono l1).append (m2.mono l2), ?_⟩
  simp only [PyData.shownAll]
  exact .cons ((k1.more fun b hb => List.mem_append_left _ hb).level_le l1) (k2.more_le (fun b hb => List.mem_append_right _ hb) l2)
theorem sh_of_is {h : Heap} {u : Value} {d : PyData} {t : Str} (r : Reads h u d []) (e : d.shown = t) (k : ReprIs X.prog X.w u t) (n : ∀ a, u ≠ .ref a) : Sh X h u d := ⟨[], [], r, (fun _ h => nomatch h), by rw [e]; exact .of_is k _ _ _, fun a z => absurd z (n a)⟩
theorem sh_list {h : Heap} {a : Addr} {o : Obj} {us : List Value} {n : Nat} {ds : List PyData} (ho : h.get? a = some o) (hc : o.cls = .type "list") (hd : o.data = .seq us.toArray n) (x : ShAll X h us ds) : Sh X h (.ref a) (.list ds) := by
  obtain ⟨as, bs, r, m, k⟩ := x
  have R : Reads h (.ref a) (.list ds) _ := .list ho hc hd r
  have na : a ∉ bs := not_mem_of_deeper R (by simp only [PyData.depth]; omega) m
  refine ⟨_, a :: bs, R, ReadAtMost.cons R (by simp only [PyData.depth]; omega) m, ?_, fun a' z hz => ?_⟩
  · simp only [PyData.depth, PyData.shown]
    cases us with
    | nil =>
      cases r
      simp only [PyData.shownAll, listText_nil]
      exact ReprK.listEmpty ho hc hd
    | cons u us => exact ReprK.list ho hc hd na (by simpa using k.length_eq) fun i y e => k.item i y (by simpa using e)
  · cases z
    have hz' : (listText (PyData.shownAll ds)).length ≤ sizeLine := by simpa only [PyData.shown] using hz
    refine ⟨"list", "list.__repr__", F.slot_list_repr.toG, F.slot_list_str, F.slot_list_format, fun s kp => ⟨o, kp _ _ ho, hc⟩, fun A E s Q hg hu kp hQ => ?_⟩
    simp only [PyData.depth] at hu
    simp only [PyData.shown] at hQ
    cases us with
    | nil =>
      cases r
      simp only [PyData.shownAll, listText_nil] at hQ
      exact call_list_repr_empty ⟨o, kp _ _ ho, hc⟩ (kp _ _ ho) hd (hQ s.heap _ _ fun _ _ e => e)
    | cons u us => exact call_list_reprK ho hc hd na (by simpa using k.length_eq) (fun i y e => k.item i y (by simpa using e)) hg (fun b _ => Clear.nil b) hu kp hQ hz'
theorem sh_tup {h : Heap} {a : Addr} {o : Obj} {us : List Value} {n : Nat} {ds : List PyData} (ho : h.get? a = some o) (hc : o.cls = .type "tuple") (hd : o.data = .seq us.toArray n) (x : ShAll X h us ds) : Sh X h (.ref a) (.tuple ds) := by
  obtain ⟨as, bs, r, m, k⟩ := x
  have R : Reads h (.ref a) (.tuple ds) _ := .tuple ho hc hd r
  have na : a ∉ bs := not_mem_of_deeper R (by simp only [PyData.depth]; omega) m
  refine ⟨_, a :: bs, R, ReadAtMost.cons R (by simp only [PyData.depth]; omega) m, ?_, fun a' z hz => ?_⟩
  · simp only [PyData.depth, PyData.shown]
    exact ReprK.tuple ho hc hd na k
  · cases z
    have hz' : (tupleText (PyData.shownAll ds)).length ≤ sizeLine := by simpa only [PyData.shown] using hz
    refine ⟨"tuple", "tuple.__repr__", F.slot_tuple_repr, F.slot_tuple_str, F.slot_tuple_format, fun s kp => ⟨o, kp _ _ ho, hc⟩, fun A E s Q hg hu kp hQ => ?_⟩
    simp only [PyData.depth] at hu
    simp only [PyData.shown] at hQ
    exact call_tuple_reprK ho hc hd na k hg (fun b _ => Clear.nil b) hu kp hQ hz'
theorem sh_dict {h : Heap} {a : Addr} {o : Obj} {es : Array DictEntry} {n : Nat} {kvs : List (PyData × PyData)} (hs : (a == sysModules) = false) (ho : h.get? a = some o) (hc : o.cls = .type "dict") (hd : o.data = .dict es n)
    (x : ShAll X h (es.toList.map (·.key)) (kvs.map (·.1))) (y : ShAll X h (es.toList.map (·.val)) (kvs.map (·.2))) : Sh X h (.ref a) (.dict kvs) := by
  obtain ⟨as, b1, r, m1, k1⟩ := x
  obtain ⟨as', b2, r', m2, k2⟩ := y
  have R : Reads h (.ref a) (.dict kvs) _ := .dict ho hc hd r r'
  have m : ReadAtMost h (PyData.depthKv kvs) (b1 ++ b2) := (m1.mono (PyData.depthAll_keys_le kvs)).append (m2.mono (PyData.depthAll_vals_le kvs))
  have na : a ∉ b1 ++ b2 := not_mem_of_deeper R (by simp only [PyData.depth]; omega) m
  have K2 := ReprEntriesK.of_two es.toList _ _ (k1.more_le (fun b z => List.mem_append_left b2 z) (PyData.depthAll_keys_le kvs)) (k2.more_le (fun b z => List.mem_append_right b1 z) (PyData.depthAll_vals_le kvs))
  refine ⟨_, a :: (b1 ++ b2), R, ReadAtMost.cons R (by simp only [PyData.depth]; omega) m, ?_, fun a' z hz => ?_⟩
  · simp only [PyData.depth, PyData.shown, PyData.shownKv_eq]
    exact ReprK.dict ho hc hd hs na K2
  · cases z
    have hz' : (dictText (PyData.shownKv kvs)).length ≤ sizeLine := by simpa only [PyData.shown] using hz
    refine ⟨"dict", "dict.__repr__", F.slot_dict_repr, F.slot_dict_str, F.slot_dict_format, fun s kp => ⟨o, kp _ _ ho, hc⟩, fun A E s Q hg hu kp hQ => ?_⟩
    simp only [PyData.depth] at hu
    simp only [PyData.shown, PyData.shownKv_eq] at hQ
    exact call_dict_reprK ho hc hd hs na K2 hg (fun b _ => Clear.nil b) hu kp hQ (by rw [← PyData.shownKv_eq]; exact hz')
mutual
/-- numbers and texts of a size that is shown -/
def okD : PyData → Bool
  | .none => true
  | .bool _ => true
  | .int i => decide (i.natAbs.log2 < 1920)
  | .str x => decide ((reprText x).length ≤ sizeLine)
  | .list xs => okAll xs
  | .tuple xs => okAll xs
  | .dict kvs => okKv kvs
def okAll : List PyData → Bool
  | [] => true
  | x :: xs => okD x && okAll xs
def okKv : List (PyData × PyData) → Bool
  | [] => true
  | (k, v) :: r => okD k && okD v && okKv r
end
theorem okKv_split : ∀ kvs : List (PyData × PyData), okKv kvs = true → okAll (kvs.map (·.1)) = true ∧ okAll (kvs.map (·.2)) = true
  | [], _ => ⟨rfl, rfl⟩
  | (k, v) :: r, h => by
    have h' : (okD k = true ∧ okD v = true) ∧ okKv r = true := by simpa [okKv] using h
    obtain ⟨h1, h2⟩ := okKv_split r h'.2
    exact ⟨by simp only [List.map_cons, okAll, h'.1.1, h1, Bool.and_self], by simp only [List.map_cons, okAll, h'.1.2, h2, Bool.and_self]⟩
theorem sh_int {h : Heap} (i : Int) (t : Tok) (e : okD (.int i) = true) : Sh X h (.int i t) (.int i) := sh_of_is (.int i t) (by simp only [PyData.shown]) (ReprIs.int t (by simpa [okD] using e)) (fun _ z => nomatch z)
theorem sh_str {h : Heap} (x : Str) (t : Tok) (e : okD (.str x) = true) : Sh X h (.str x t) (.str x) := sh_of_is (.str x t) (by simp only [PyData.shown]) (ReprIs.str x t (by simpa [okD] using e)) (fun _ z => nomatch z)
theorem keys_sh {h : Heap} : ∀ (kvs : List (Key × V)) (vs : List (Key × Value)) (es : List DictEntry), KV kvs vs → Pairs (mixKind X.prog X.w) es vs → okAll (kvs.map fun p => keyD p.1) = true → ShAll X h (es.map (·.key)) (kvs.map fun p => keyD p.1)
  | _, _, _, .nil, .nil, _ => .nil
  | kv :: kvs, _ :: vs, e :: es, .cons ⟨h1, _⟩ r, .cons h2 _ r2, ok => by
    have ok' : okD (keyD kv.1) = true ∧ okAll (kvs.map fun p => keyD p.1) = true := by simpa [okAll] using ok
    refine .cons ?_ (keys_sh kvs vs es r r2 ok'.2)
    obtain ⟨k, v⟩ := kv
    dsimp only at h1 ok' ⊢
    rw [← h1] at h2
    rcases keyIs_shape h2 with ⟨i, t, rfl, e2⟩ | ⟨x, t, rfl, e2⟩
    · rw [e2]; exact sh_int i t ok'.1
    · rw [e2]; exact sh_str x t ok'.1
theorem vals_of {kvs : List (Key × V)} {vs : List (Key × Value)} {es : List DictEntry} (r : KV kvs vs) (p : Pairs (mixKind X.prog X.w) es vs) : Vals (kvs.map (·.2)) (es.map (·.val)) := by
  induction r generalizing es with
  | nil => cases p; exact .nil
  | cons h _ ih =>
    cases p with
    | cons h1 h2 r2 =>
      refine .cons ?_ (ih r2)
      have z := h.2
      rw [← h2] at z
      exact z
theorem exact_cls {o : Obj} (h : o.ExactDict) : o.cls = .type "dict" := h.1
mutual
theorem Dv.sh (I : Inv X pins σ H s) : ∀ {v : V} {d : PyData}, Dv X.K H v d → ∀ u, RelV v u → okD d = true → Sh X s.heap u d
  | _, _, .non, _, r, _ => by cases r; exact sh_of_is .none (by simp only [PyData.shown]) ReprIs.none (fun _ z => nomatch z)
  | _, _, .bl b, _, r, _ => by cases r; exact sh_of_is (.bool b) (by simp only [PyData.shown]) (ReprIs.bool b) (fun _ z => nomatch z)
  | _, _, .int i, _, r, ok => by obtain ⟨t, rfl⟩ := r; exact sh_int i t ok
  | _, _, .str x, _, r, ok => by obtain ⟨t, rfl⟩ := r; exact sh_str x t ok
  | _, _, .lst h ha, _, r, ok => by
    cases r
    obtain ⟨its, rv, ⟨o, n, ho, hc, _, hd⟩, _⟩ := I.list h
    exact sh_list ho hc hd (DvAll.sh I ha its rv (by simpa [okD] using ok))
  | _, _, .tup h ha, _, r, ok => by
    cases r
    obtain ⟨its, rv, ⟨o, ho, hc, n, hd⟩, _⟩ := I.tuple h
    exact sh_tup ho hc hd (DvAll.sh I ha its rv (by simpa [okD] using ok))
  | _, _, .dct (kvs := kvs) (ds := ds) h ha, _, r, ok => by
    cases r
    obtain ⟨_, hs, vs, rv, o, es, ep, ho, hx, hd, _, pr, _⟩ := I.hok _ _ h
    have e1 : (((kvs.map fun p => keyD p.1).zip ds).map (·.1)) = kvs.map fun p => keyD p.1 := List.map_fst_zip (by rw [← ha.len]; simp)
    have e2 : (((kvs.map fun p => keyD p.1).zip ds).map (·.2)) = ds := List.map_snd_zip (by rw [← ha.len]; simp)
    obtain ⟨o1, o2⟩ := okKv_split _ (by simpa [okD] using ok)
    rw [e1] at o1
    rw [e2] at o2
    refine sh_dict hs ho (exact_cls hx) hd ?_ ?_
    · rw [e1]; exact keys_sh kvs vs es.toList rv pr o1
    · rw [e2]; exact DvAll.sh I ha _ (vals_of rv pr) o2
theorem DvAll.sh (I : Inv X pins σ H s) : ∀ {vs : List V} {ds : List PyData}, DvAll X.K H vs ds → ∀ us, Vals vs us → okAll ds = true → ShAll X s.heap us ds
  | _, _, .nil, _, r, _ => by cases r; exact .nil
  | _, _, .cons h1 h2, _, r, ok => by
    have ok' := ok
    simp only [okAll, Bool.and_eq_true] at ok'
    cases r with
    | cons r1 r2 => exact .cons (Dv.sh I h1 _ r1 ok'.1) (DvAll.sh I h2 _ r2 ok'.2)
end
/-- repr(x), x data: its text -/
def rRepr (K : PySem.W.Frag) : List V → Hp → VK → Prop := fun xs H Q => ∃ (x : V) (d : PyData), xs = [x] ∧ Dv K H x d ∧ okD d = true ∧ d.shown.length ≤ sizeLine ∧ d.depth ≤ 40 ∧ Q (.str d.shown) H
theorem call_repr (hg : X.A.guards = some []) (hu : X.A.units + 64 < cLine) : CallR X (.builtin "repr") (rRepr X.K) := by
  intro pins s σ H xs us Q I r h
  obtain ⟨x, d, rfl, hx, ok, hz, dp, q⟩ := h
  cases r with
  | cons rx rr =>
    cases rr
    rename_i u
    have fin : ∀ (h' : Heap) (t : Tok) (tk : Nat), (∀ b o, s.heap.get? b = some o → h'.get? b = some o) → EP X pins σ Q (.str d.shown t) { s with heap := h', toks := tk } := fun h' t tk kp => ⟨.str d.shown, H, I.kept (t' := tk) kp, ⟨t, rfl⟩, q⟩
    cases hx with
    | non => cases rx; exact P.repr_of_none (by simpa only [PyData.shown] using fin s.heap _ _ fun _ _ e => e)
    | bl b => cases rx; exact P.repr_of_bool (by simpa only [PyData.shown] using fin s.heap _ _ fun _ _ e => e)
    | int i => obtain ⟨t, rfl⟩ := rx; exact P.repr_of_int (by simpa [okD] using ok) (by simpa only [PyData.shown] using fin s.heap _ _ fun _ _ e => e)
    | str z => obtain ⟨t, rfl⟩ := rx; exact P.repr_of_str (by simpa only [PyData.shown] using fin s.heap _ _ fun _ _ e => e) (by simpa only [PyData.shown] using hz)
    | lst h1 h2 =>
      cases rx
      obtain ⟨_, _, _, _, _, S⟩ := Dv.sh I (.lst h1 h2) _ rfl ok
      obtain ⟨T, idr, S⟩ := S _ rfl hz
      exact call_repr_slot (by omega) (S.typeIs s fun _ _ e => e) S.slotRepr (S.call X.A.in1 X.xe s _ hg (by show X.A.units + 1 + _ < cLine; omega) (fun _ _ e => e) fun h' u tk hk => ⟨_, _, rfl, fin h' u tk hk⟩)
    | tup h1 h2 =>
      cases rx
      obtain ⟨_, _, _, _, _, S⟩ := Dv.sh I (.tup h1 h2) _ rfl ok
      obtain ⟨T, idr, S⟩ := S _ rfl hz
      exact call_repr_slot (by omega) (S.typeIs s fun _ _ e => e) S.slotRepr (S.call X.A.in1 X.xe s _ hg (by show X.A.units + 1 + _ < cLine; omega) (fun _ _ e => e) fun h' u tk hk => ⟨_, _, rfl, fin h' u tk hk⟩)
    | dct h1 h2 =>
      cases rx
      obtain ⟨_, _, _, _, _, S⟩ := Dv.sh I (.dct h1 h2) _ rfl ok
      obtain ⟨T, idr, S⟩ := S _ rfl hz
      exact call_repr_slot (by omega) (S.typeIs s fun _ _ e => e) S.slotRepr (S.call X.A.in1 X.xe s _ hg (by show X.A.units + 1 + _ < cLine; omega) (fun _ _ e => e) fun h' u tk hk => ⟨_, _, rfl, fin h' u tk hk⟩)
end
end Own
/-! A caught error that is kept beyond its suite: try: .. except X as e: m = e. -/
namespace Own
open PySem PySem.Spec PyProof.Rows L2
/-- a caught error of the class cls, held at a -/
def CauE (cls : Value) (d : Option Addr) (a : Addr) : HO := .ext fun h => ∃ (oe : Obj) (vs : Array Value), h.get? a = some oe ∧ Zc cls d oe ∧ oe.data = .fields vs
theorem cauE_ok {P : Program} {w : World} {H : Hp} {h : Heap} {a : Addr} {cls : Value} {d : Option Addr} {oe : Obj} {vs : Array Value} (e : h.get? a = some oe) (z : Zc cls d oe) (hd : oe.data = .fields vs) : ObjOk P w H h a (CauE cls d a) :=
  ⟨⟨oe, vs, e, z, hd⟩, ⟨oe, e⟩, fun _ _ ⟨o, v, q, r⟩ k => ⟨o, v, k o q, r⟩⟩
section
variable {X : Cx} {pins : List (Addr × Obj)} {σ : L2.St} {H : Hp} {s : Shared}
/-- what a suite holds fast is tracked from now on -/
theorem inv_held {a : Addr} {oe : Obj} {vs : Array Value} {cls : Value} {d : Option Addr} (I : Inv (X.suite a ((a, oe) :: (X.pn ++ pins))) [] σ H s) (ok : X.Ok) (n0 : X.s_0.heap.get? a = none) (np : ∀ p ∈ X.pn ++ pins, p.1 ≠ a) (hz : Zc cls d oe) (hd : oe.data = .fields vs) :
    Inv X pins σ (upd H a (CauE cls d a)) s := by
  obtain ⟨ha, na, nL, nF, _⟩ := I.pin (a, oe) (List.mem_append.mpr (.inl List.mem_cons_self))
  have no : ∀ {b : Addr} {o : HO}, H b = some o → b ≠ a := fun e z => by
    have na' : H a = none := na
    rw [z, na'] at e
    cases e
  have fr : ∀ {b : Addr}, b ≠ a → H b = none → upd H a (CauE cls d a) b = none := fun hb e => by rw [upd_ne hb]; exact e
  have go : ∀ {b : Addr} {o : HO}, H b = some o → upd H a (CauE cls d a) b = some o := fun e => by rw [upd_ne (no e)]; exact e
  refine ⟨ok, I.os, I.bare, ⟨I.base.keep, I.base.slot, fun b o e n hx => fr (fun z => ?_) (I.base.free b o e n hx), I.base.there, fun b xs e => go (I.base.tups b xs e), fun b o u e => go (I.base.frzs b o u e), fun b ps e => ?_⟩, I.loc, I.cell, fr (Ne.symm nL) I.free, fun x c e => fr (fun z => ?_) (I.freeC x c e), fun p hp => ?_, fun b u e => ?_, I.len⟩
  · have e' : X.s_0.heap.get? b = some o := e
    rw [z, n0] at e'
    cases e'
  · obtain ⟨m, q⟩ := I.base.tbls b ps e
    exact ⟨m, go q⟩
  · obtain ⟨v, o, ho, hv⟩ := I.cell x c e
    have ha' : s.heap.get? a = some oe := ha
    rw [z, ha'] at ho
    cases ho
    rw [hd] at hv
    cases hv
  · obtain ⟨e, n, ne, nf, dd⟩ := I.pin p (List.mem_append.mpr (.inl (List.mem_cons_of_mem _ hp)))
    exact ⟨e, fr (np p hp) n, ne, nf, dd⟩
  · by_cases hb : b = a
    · subst hb
      rw [upd_same] at e
      cases e
      exact cauE_ok ha hz hd
    · rw [upd_ne hb] at e
      exact (I.hok b u e).stay (fun c v _ q => q) (fun c q => go q) fun c xs q => go q
end
/-- as L2.wAs, but the error is held beyond the suite -/
def wKp (K : PySem.W.Frag) (c : Value) (i : Nat) (ts : Addr → Value → Option Addr → TS) (Wout : WX) (D : Ends) : WX := fun cls d σ H =>
  ∃ b, PySem.W.exmOne K cls c = some b ∧ (b = true → ∀ a, H a = none → ts a cls d { nx := fun σ' H' => D.nx (σ'.set i none) (upd H' a (CauE cls d a)), rt := fun v H' => D.rt v (upd H' a (CauE cls d a)), bk := fun σ' H' => D.bk (σ'.set i none) (upd H' a (CauE cls d a)), ct := fun σ' H' => D.ct (σ'.set i none) (upd H' a (CauE cls d a)) } (σ.set i (some (.ref a))) H) ∧
    (b = false → Wout cls d σ H)
section
variable {X : Cx} {x n : Str} {c : Value} {i : Nat} {body suite : List Stmt} {b₀ : Stmt} {np pos pos' : Pos} {tb : WX → TS} {ts : Addr → Value → Option Addr → TS} {Wout : WX}
theorem ps_try_keep (hs : X.stack = X.env :: X.outer) (hf : X.env.frame = some X.env.locals) (hN : X.N.Nodup) (hi : X.N[i]? = some n) (hln : X.env.kindOf n = some .local) (hex : X.ex = []) (hc : Names X x c) (tk : Takes X Wout)
    (hb : ∀ (W : WX) (pn : List (Addr × Obj)) (xe : Value → Shared → Prop), Takes (X.tr pn xe) W → PassesOwn (model X.prog X.w) X.A X.env xe → PSs (X.tr pn xe) body (tb W))
    (hsu : ∀ (a : Addr) (oe : Obj) (cls : Value) (d : Option Addr) (pn : List (Addr × Obj)), Zc cls d oe → (∃ vs, oe.data = .fields vs) → PSs (X.suite a ((a, oe) :: pn)) (b₀ :: suite) (ts a cls d)) :
    PS X (.Try body [.ExceptHandler (some (.Name x np)) (some n) (b₀ :: suite) pos'] [] [] pos) (fun D σ H => tb (wKp X.K c i ts Wout D) D σ H) := by
  refine ⟨fun pins s σ H D I h => ?_⟩
  have ok := I.ok
  have hfr : X.A.frames = some (X.env :: X.outer) := by rw [ok.frames, hs]
  have hloc : Loc X.env.scope n := .inl hln
  have step := (hb (wKp X.K c i ts Wout D) (X.pn ++ pins) (fun e s₁ => wpAny (model X.prog X.w) X.A (noteFrame e X.env) (fun _ s₂ => wpAny (model X.prog X.w) X.A (setFlight e none) (fun _ s₃ =>
    wpAny (model X.prog X.w) X.A (handleBy e X.env [.ExceptHandler (some (.Name x np)) (some n) (b₀ :: suite) pos']) (SP X pins D) X.xe s₃) X.xe s₂) X.xe s₁) (fun u s' xx => ?_) PassesOwn.looking).run [] s σ H D (I.toTry _) h
  · refine wpAny_Try_except (wpAny_mono step (fun f s1 hsp => ?_) fun e s1 he => he)
    cases f with
    | next =>
      obtain ⟨σ1, H1, J1, q⟩ := hsp
      exact wpAny_execs_nil ⟨σ1, H1, J1.ofTry ok, q⟩
    | ret u =>
      obtain ⟨v, σ1, H1, J1, r, q⟩ := hsp
      exact ⟨v, σ1, H1, J1.ofTry ok, r, q⟩
    | brk =>
      obtain ⟨σ1, H1, J1, q⟩ := hsp
      exact ⟨σ1, H1, J1.ofTry ok, q⟩
    | cont =>
      obtain ⟨σ1, H1, J1, q⟩ := hsp
      exact ⟨σ1, H1, J1.ofTry ok, q⟩
  · obtain ⟨a, B, sI, pins1, σ1, H1, cls, d, rfl, J1, nb, up, sky, na, os, ag, b, hb1, hyes, hno⟩ := xx
    have J : Inv X pins σ1 H1 sI := J1.ofTry ok
    rw [show (X.tr (X.pn ++ pins) _).stack = X.env :: X.outer from hs] at sky
    show wpAny (model X.prog X.w) X.A (noteFrame (.ref a) X.env) _ _ _
    refine Sky.land Zc.steady hfr hf sky fun h2 fl2 up2 => ?_
    obtain ⟨o2, vs2, ge2, hz2, hd2⟩ := fl2.there
    have nfr : a ∉ frs (X.env :: X.outer) := fun hm => by
      obtain ⟨_, o', e', hnf⟩ := fl2.2.2.1.mem hm
      rw [ge2] at e'
      cases e'
      exact hnf _ hd2
    have nL : a ≠ X.env.locals := fun z => nfr (List.mem_filterMap.mpr ⟨X.env, List.mem_cons_self, by rw [hf, z]⟩)
    have nF : a ∉ X.fs := fun hm => by
      obtain ⟨ev, he, q⟩ := List.mem_filterMap.mp hm
      exact nfr (List.mem_filterMap.mpr ⟨ev, List.mem_cons_of_mem _ he, q⟩)
    -- a is new: the heap without the exception doesn't have it
    have nI : sI.heap.get? a = none := by
      cases e : sI.heap.get? a with
      | none => rfl
      | some o =>
        have z := nb a o e (by show a ∉ frs X.stack; rw [hs]; exact nfr)
        rw [fl2.2.1] at z
        cases z
    have n0 : X.s_0.heap.get? a = none := by
      cases e : X.s_0.heap.get? a with
      | none => rfl
      | some o =>
        obtain ⟨o', z⟩ := J.base.there a o e (by rw [hex]; exact fun z => nomatch z)
        rw [nI] at z
        cases z
    have npn : ∀ p ∈ X.pn ++ pins, p.1 ≠ a := fun p hp z => by
      have q := (J.pin p hp).1
      rw [z, nI] at q
      cases q
    have land : ∀ {h' : Heap}, B.StaysIn h' → sI.heap.UpToSlots h' → Inv X pins σ1 H1 { s' with heap := h' } := fun st u => J.landed nb st u os ag
    have S2 := (land fl2.1 (up.trans up2)).suite ge2 hd2 na nL nF
    have LT : PySem.W.Looks (model X.prog X.w) h2 (typeOf (.ref a)) cls := fun A Q E s k q => wpAny_typeOf_ref (k _ _ ge2) (by rw [hz2.1]; exact q)
    have LM := PySem.W.exm_one (M := model X.prog X.w) (land fl2.1 (up.trans up2)).kIn LT hb1
    refine wpAny_handleBy_cons (codeAny_handlers_test ?_) (by intro q; cases q)
    have test : ∀ {Q : Value → Shared → Prop} {E : Value → Shared → Prop}, Q c { s' with heap := h2 } → wpAny (model X.prog X.w) (X.A.mark (some (.ref a))) (eval (.Name x np) X.env) Q E { s' with heap := h2 } := fun {Q E} q => by
      obtain ⟨hg, hdbg, hm | ⟨hm, hv, hnn⟩⟩ := hc
      · exact ld_glob (X := X.suite a ((a, o2) :: (X.pn ++ pins))) S2 hg hm q hdbg
      · exact ld_blt (X := X.suite a ((a, o2) :: (X.pn ++ pins))) S2 hg hm hv q hnn hdbg
    refine test (LM.here ?_)
    cases b with
    | false =>
      show wpAny _ X.A (handleBy (.ref a) X.env []) _ _ _
      refine wpAny_handleBy_nil ?_
      obtain ⟨_, _, _, oe, vs, T, oT, ts1, he, _, hd, h1, _⟩ := id fl2
      unfold PySem.passOn
      refine wpAny_bind (wpAny_field he hd h1 ?_)
      rw [if_neg (show ¬ ((Value.ref T == Value.none) = true) from by simp)]
      have fin : wpAny (model X.prog X.w) X.A (setFlight (.ref a) X.env.frame) (fun _ s4 => wpAny (model X.prog X.w) X.A (throw (.ref a) : Sem Flow) (SP X pins D) X.xe s4) X.xe { s' with heap := h2 } := by
        rw [hf]
        refine HandSPX.setFlight_upZ fl2 fun h4 hh4 up4 => wpAny_throw (tk _ _ ⟨a, B, sI, pins, σ1, H1, cls, d, rfl, J, nb, (up.trans up2).trans up4, .inr (.inr ?_), na, os, ag, hno rfl⟩)
        rw [hs]
        exact hh4
      first
        | exact wpAny_bind (wpAny_pure (wpAny_bind fin))
        | exact wpAny_bind fin
    | true =>
      refine codeAny_handlers_suite_as (HandSPX.lands_againZ fl2 fun h3 fl3 up3 => ?_)
      obtain ⟨o3, vs3, ge3, hz3, hd3⟩ := fl3.there
      have S3 := (land fl3.1 ((up.trans up2).trans up3)).suite ge3 hd3 na nL nF
      refine store_ok (X := X.suite a ((a, o3) :: (X.pn ++ pins))) (v := .ref a) S3 hN hi hloc rfl (fun s5 S5 => ?_) (.inr hln)
      refine wpAny_mono ((hsu a o3 cls d (X.pn ++ pins) hz3 ⟨_, hd3⟩).run [] s5 _ H1 _ S5 (hyes rfl a na)) (fun f s6 hsp => ?_) fun _ _ z => False.elim z
      have done : ∀ {σ6 : L2.St} {H6 : Hp} {Q : Shared → Prop}, Inv (X.suite a ((a, o3) :: (X.pn ++ pins))) [] σ6 H6 s6 → (∀ s7, Inv X pins (σ6.set i none) (upd H6 a (CauE cls d a)) s7 → Q s7) →
          wpAny (model X.prog X.w) X.A (do bindName X.env n .none; unbindBehindTheSuite X.env n pos') (fun _ s7 => Q s7) X.xe s6 := fun S6 hq => gone_ok (inv_held S6 ok n0 npn hz3 hd3) hN hi hln hq
      cases f with
      | next =>
        obtain ⟨σ6, H6, S6, q⟩ := hsp
        exact done S6 fun s7 J7 => ⟨_, _, J7, q⟩
      | ret u =>
        obtain ⟨v, σ6, H6, S6, r, q⟩ := hsp
        exact done S6 fun s7 J7 => ⟨_, _, _, J7, r, q⟩
      | brk =>
        obtain ⟨σ6, H6, S6, q⟩ := hsp
        exact done S6 fun s7 J7 => ⟨_, _, J7, q⟩
      | cont =>
        obtain ⟨σ6, H6, S6, q⟩ := hsp
        exact done S6 fun s7 J7 => ⟨_, _, J7, q⟩
end
/-- isinstance(v, C), v None or a caught error without a dict -/
def rIsC (K : PySem.W.Frag) : List V → Hp → VK → Prop := fun xs H Q => ∃ (v c : V) (cv : Value) (b : Bool), xs = [v, c] ∧ ClsV c cv ∧
  ((v = .non ∧ PySem.W.kitOne K (.type "NoneType") cv = some b) ∨ ∃ a D, v = .ref a ∧ H a = some (CauE (.ref D) none a) ∧ ExcC K D ∧ PySem.W.kitOne K (.ref D) cv = some b) ∧ Q (.bl b) H
theorem call_isC {X : Cx} : CallR X (.builtin "isinstance") (rIsC X.K) := by
  intro pins s σ H xs us Q I r h
  obtain ⟨v, c, cv, b, rfl, hcv, hv, q⟩ := h
  obtain ⟨u1, u2, rfl, r1, r2⟩ := vals2 r
  cases hcv.eq r2
  rcases hv with ⟨rfl, e⟩ | ⟨a, D, rfl, ea, C, e⟩
  · cases (show u1 = Value.none from r1)
    exact PySem.W.kia_one PySem.W.kitx_none I.kIn True.intro e (fun z => nomatch z) fun tk => ⟨.bl b, H, I.tok tk, rfl, q⟩
  · cases (show u1 = Value.ref a from r1)
    obtain ⟨oe, vs, ho, hz, hd⟩ := (I.hok a _ ea).1
    have J : PySem.W.InstAt s.heap a oe D none := by
      obtain ⟨oc, od, oda, osl⟩ := oe
      obtain ⟨h1, h2⟩ := hz
      dsimp only at h1 h2 hd
      subst h1 h2 hd
      exact ⟨ho, rfl, rfl, trivial⟩
    obtain ⟨cd, hcd, _⟩ := PySem.W.any_some C.hd
    exact PySem.W.kia_one (PySem.W.kitx_exc (by rw [hcd]; rfl) C.hg C.hk C.hs C.ha C.hn C.ht C.hm) I.kIn J e (fun z => nomatch z) fun tk => ⟨.bl b, H, I.tok tk, rfl, q⟩
end Own
/-! type(x) of data; type(x) is T; x is True, x is False. -/
namespace Own
open PySem PySem.Spec PyProof.Rows L2
section
variable {prog : Program} {w : World} {A : Around} {E : Value → Shared → Prop} {h : Heap} {g : Array GenState} {d : Drawn} {t : Nat} {os : OsState}
theorem call_type_val {u : Value} {T : String} {Q : Value → Shared → Prop} (hu : shownTypeOf u = pure (.type T)) (hn : (u == Value.builtin "__main__.__loader__#opaque") = false) (hq : Q (.type T) ⟨h, g, d, t, os⟩) :
    wpAny (model prog w) A (call (.type "type") [u]) Q E ⟨h, g, d, t, os⟩ := by
  refine wpAny_call (codeAny_of_tree ?_)
  show wpAny _ _ (callAny (.type "type") ⟨[u], []⟩) _ _ _
  simp only [callAny]
  refine wpAny_pure ⟨Code.quiet_builtin _ (by decide +kernel), codeAny_builtin entry_type_call ?_⟩
  unfold Builtin.«type.__call__»
  dsimp only
  have h2 : ([u].headD Value.none == Value.builtin "__main__.__loader__#opaque") = false := hn
  have hu2 : shownTypeOf ([u].headD Value.none) = pure (.type T) := hu
  have e1 : (Value.type "type" == Value.type "type") = true := beq_self_eq_true _
  have e2 : ([u].length == 1) = true := rfl
  have e3 : (!([] : List (Str × Value)).isEmpty) = false := rfl
  simp only [e1, e2, e3, h2, hu2, if_true, Bool.false_eq_true, if_false]
  exact wpAny_bind (wpAny_pure (wpAny_pure hq))
end
section
variable {X : Cx}
theorem plain_of {v : V} {u : Value} (r : RelV v u) (b : Bool) : plainIs u (.bool b) = true := by
  cases v <;> first | (obtain ⟨t, rfl⟩ := r; rfl) | (cases r; rfl)
theorem is_bl_of {v : V} {u : Value} (r : RelV v u) (b : Bool) : (u == Value.bool b) = decide (v = .bl b) := by
  cases v with
  | bl c =>
    cases (show u = Value.bool c from r)
    by_cases e : c = b
    · subst e; simp
    · have e1 : Value.bool c ≠ Value.bool b := fun z => e (Value.bool.inj z)
      have e2 : V.bl c ≠ V.bl b := fun z => e (V.bl.inj z)
      rw [beq_eq_false_iff_ne.mpr e1, decide_eq_false e2]
  | _ =>
    have e1 : u ≠ Value.bool b := by
      intro z
      subst z
      first | (obtain ⟨t, q⟩ := r; cases q; done) | (cases r; done)
    rw [beq_eq_false_iff_ne.mpr e1, decide_eq_false (fun z => by cases z)]
/-- x is True, x is False -/
theorem op_is_b : OpR X (compareOp .Is) (fun x y H Q => ∃ b, y = .bl b ∧ Q (.bl (decide (x = .bl b))) H) := by
  intro pins s σ H x y v u Q I rx ry h
  obtain ⟨b, rfl, q⟩ := h
  cases (show u = Value.bool b from ry)
  refine wpAny_is_plain (plain_of rx b) ⟨.bl _, H, I, rfl, ?_⟩
  rw [is_bl_of rx b]
  exact q
/-- x is not True, x is not False -/
theorem op_isnot_b : OpR X (compareOp .IsNot) (fun x y H Q => ∃ b, y = .bl b ∧ Q (.bl (!decide (x = .bl b))) H) := by
  intro pins s σ H x y v u Q I rx ry h
  obtain ⟨b, rfl, q⟩ := h
  cases (show u = Value.bool b from ry)
  refine wpAny_isNot_plain (plain_of rx b) ⟨.bl _, H, I, rfl, ?_⟩
  rw [is_bl_of rx b]
  exact q
/-- type(x) is T, built-in types -/
theorem op_is_ty : OpR X (compareOp .Is) (fun x y H Q => ∃ a b, x = .ty a ∧ y = .ty b ∧ Q (.bl (decide (a = b))) H) := by
  intro pins s σ H x y v u Q I rx ry h
  obtain ⟨a, b, rfl, rfl, q⟩ := h
  cases (show v = Value.type a from rx)
  cases (show u = Value.type b from ry)
  by_cases e : a = b
  · subst e
    exact wpAny_is_self rfl ⟨.bl true, H, I, rfl, by simpa using q⟩
  · exact wpAny_is_other rfl (fun z => e (Value.type.inj z)) ⟨.bl false, H, I, rfl, by simpa [e] using q⟩
def rTyp (K : PySem.W.Frag) : List V → Hp → VK → Prop := fun xs H Q => ∃ (x : V) (T : String), xs = [x] ∧ TyX K H x (.type T) ∧ (Value.type T == Value.type "builtin_function_or_method") = false ∧ Q (.ty T) H
theorem ty_at {pins : List (Addr × Obj)} {σ : L2.St} {H : Hp} {s : Shared} {x : V} {u : Value} {T : String} (I : Inv X pins σ H s) (rx : RelV x u) (ty : TyX X.K H x (.type T)) : (typeOf u = pure (.type T) ∧ ∀ a, u ≠ .ref a) ∨ ∃ a, u = .ref a ∧ PySem.W.KitAt a T s.heap := by
  cases ty with
  | base b =>
    cases b with
    | non => cases (show u = Value.none from rx); exact .inl ⟨rfl, fun _ z => nomatch z⟩
    | bl y => cases (show u = Value.bool y from rx); exact .inl ⟨rfl, fun _ z => nomatch z⟩
    | int i => obtain ⟨t, rfl⟩ := rx; exact .inl ⟨rfl, fun _ z => nomatch z⟩
    | str y => obtain ⟨t, rfl⟩ := rx; exact .inl ⟨rfl, fun _ z => nomatch z⟩
    | flt y => obtain ⟨t, rfl⟩ := rx; exact .inl ⟨rfl, fun _ z => nomatch z⟩
    | @lst a xs ea =>
      cases (show u = Value.ref a from rx)
      obtain ⟨_, _, n, _, h1⟩ := (show ObjOk X.prog X.w H s.heap a (.lst xs) from I.hok a _ ea)
      exact .inr ⟨a, rfl, _, h1, rfl⟩
    | @frz a ob xs ea =>
      cases (show u = Value.ref a from rx)
      obtain ⟨_, _, _, n, _, h1⟩ := (show ObjOk X.prog X.w H s.heap a (.frz ob (.lst xs)) from I.hok a _ ea)
      exact .inr ⟨a, rfl, _, h1, rfl⟩
    | @tup a xs ea =>
      cases (show u = Value.ref a from rx)
      obtain ⟨_, _, _, o, h1, h2, _⟩ := (show ObjOk X.prog X.w H s.heap a (.tup xs) from I.hok a _ ea)
      exact .inr ⟨a, rfl, o, h1, h2⟩
    | @dK a kvs ea =>
      cases (show u = Value.ref a from rx)
      obtain ⟨_, _, vs, _, o, es, ep, h1, h2, _⟩ := (show ObjOk X.prog X.w H s.heap a (.dK kvs) from I.hok a _ ea)
      exact .inr ⟨a, rfl, o, h1, h2.1⟩
    | @dT a kvs ea =>
      cases (show u = Value.ref a from rx)
      obtain ⟨_, _, xs, _, o, es, ep, h1, h2, _⟩ := (show ObjOk X.prog X.w H s.heap a (.dT kvs) from I.hok a _ ea)
      exact .inr ⟨a, rfl, o, h1, h2.1⟩
  | byt y => obtain ⟨t, rfl⟩ := rx; exact .inl ⟨rfl, fun _ z => nomatch z⟩
  | @set a S n ea =>
    cases (show u = Value.ref a from rx)
    obtain ⟨o, _, _, _, e, ex, _⟩ := I.hok a _ ea
    exact .inr ⟨a, rfl, o, e, ex.1⟩
  | @kList a o e c => cases (show u = Value.ref a from rx); exact .inr ⟨a, rfl, o, I.kIn a o e, c⟩
  | @kTuple a o e c => cases (show u = Value.ref a from rx); exact .inr ⟨a, rfl, o, I.kIn a o e, c⟩
  | @kDict a o e c => cases (show u = Value.ref a from rx); exact .inr ⟨a, rfl, o, I.kIn a o e, c⟩
  | @fTuple a ob xs ea =>
    cases (show u = Value.ref a from rx)
    obtain ⟨_, _, _, _, o, h1, h2, _⟩ := (show ObjOk X.prog X.w H s.heap a (.frz ob (.tup xs)) from I.hok a _ ea)
    exact .inr ⟨a, rfl, o, h1, h2⟩
  | @fDict a ob kvs ea =>
    cases (show u = Value.ref a from rx)
    obtain ⟨_, _, _, vs, _, o, es, ep, h1, h2, _⟩ := (show ObjOk X.prog X.w H s.heap a (.frz ob (.dK kvs)) from I.hok a _ ea)
    exact .inr ⟨a, rfl, o, h1, h2.1⟩
theorem call_type : CallR X (.type "type") (rTyp X.K) := by
  intro pins s σ H xs us Q I r h
  obtain ⟨x, T, rfl, ty, nb, q⟩ := h
  cases r with
  | cons rx rr =>
    cases rr
    rename_i u
    rcases ty_at I rx ty with ⟨e, ne⟩ | ⟨a, rfl, p⟩
    · refine call_type_val ?_ ?_ ⟨.ty T, H, I, rfl, q⟩
      · unfold shownTypeOf
        rw [e, pure_bind, nb]
        rfl
      · cases x <;> first | (obtain ⟨t, rfl⟩ := rx; rfl) | (cases rx; rfl)
    · exact PySem.W.kto_cont p nb ⟨.ty T, H, I, rfl, q⟩
end
end Own
/-! The program's widths, hashes, buckets. -/
namespace Own
open PySem PySem.Spec PyProof.Rows L2
def top1 (i : Nat) : Stmt := PySem.Challenge.pw_seencursors_k03_roads.main.body.getD i (.Pass ⟨0, 0, 0, 0⟩)
abbrev sInt : Stmt := top1 7
abbrev sNum : Stmt := top1 8
abbrev sWid : Stmt := top1 9
/-- the type of data -/
def tyD : PyData → String
  | .none => "NoneType"
  | .bool _ => "bool"
  | .int _ => "int"
  | .str _ => "str"
  | .list _ => "list"
  | .tuple _ => "tuple"
  | .dict _ => "dict"
theorem Dv.ty {K : PySem.W.Frag} {H : Hp} {v : V} {d : PyData} (h : Dv K H v d) : TyX K H v (.type (tyD d)) := by
  cases h with
  | non => exact .base .non
  | bl b => exact .base (.bl b)
  | int i => exact .base (.int i)
  | str x => exact .base (.str x)
  | lst h _ =>
    rcases h with (h | ⟨o, h⟩) | ⟨o, _, _, hk, hc, _⟩
    · exact .base (.lst h)
    · exact .base (.frz h)
    · exact .kList hk hc
  | tup h _ =>
    rcases h with (h | ⟨o, h⟩) | ⟨o, _, _, hk, hc, _⟩
    · exact .base (.tup h)
    · exact .fTuple h
    · exact .kTuple hk hc
  | dct h _ => exact .base (.dK h)
def isI : PyData → Bool
  | .bool _ => true
  | .int _ => true
  | _ => false
theorem kit_int (d : PyData) : kitB (tyD d) "int" = some (isI d) := by
  cases d with
  | none => exact (by decide +kernel : kitB "NoneType" "int" = some false)
  | bool _ => exact (by decide +kernel : kitB "bool" "int" = some true)
  | int _ => exact (by decide +kernel : kitB "int" "int" = some true)
  | str _ => exact (by decide +kernel : kitB "str" "int" = some false)
  | list _ => exact (by decide +kernel : kitB "list" "int" = some false)
  | tuple _ => exact (by decide +kernel : kitB "tuple" "int" = some false)
  | dict _ => exact (by decide +kernel : kitB "dict" "int" = some false)
def isB : PyData → Bool
  | .bool _ => true
  | _ => false
theorem kit_bool (d : PyData) : kitB (tyD d) "bool" = some (isB d) := by
  cases d with
  | none => exact (by decide +kernel : kitB "NoneType" "bool" = some false)
  | bool _ => exact (by decide +kernel : kitB "bool" "bool" = some true)
  | int _ => exact (by decide +kernel : kitB "int" "bool" = some false)
  | str _ => exact (by decide +kernel : kitB "str" "bool" = some false)
  | list _ => exact (by decide +kernel : kitB "list" "bool" = some false)
  | tuple _ => exact (by decide +kernel : kitB "tuple" "bool" = some false)
  | dict _ => exact (by decide +kernel : kitB "dict" "bool" = some false)
def isT : PyData → Bool
  | .tuple _ => true
  | _ => false
theorem kit_tuple (d : PyData) : kitB (tyD d) "tuple" = some (isT d) := by
  cases d with
  | none => exact (by decide +kernel : kitB "NoneType" "tuple" = some false)
  | bool _ => exact (by decide +kernel : kitB "bool" "tuple" = some false)
  | int _ => exact (by decide +kernel : kitB "int" "tuple" = some false)
  | str _ => exact (by decide +kernel : kitB "str" "tuple" = some false)
  | list _ => exact (by decide +kernel : kitB "list" "tuple" = some false)
  | tuple _ => exact (by decide +kernel : kitB "tuple" "tuple" = some true)
  | dict _ => exact (by decide +kernel : kitB "dict" "tuple" = some false)
/-- data that is an int (no bool) within bounds -/
def numIn (lo hi : Int) : PyData → Bool
  | .int i => decide (lo ≤ i) && decide (i ≤ hi)
  | _ => false
theorem numIn_some {lo hi : Int} {d : PyData} (h : numIn lo hi d = true) : ∃ i, d = .int i ∧ lo ≤ i ∧ i ≤ hi := by
  cases d with
  | int i =>
    have h' : (decide (lo ≤ i) && decide (i ≤ hi)) = true := h
    rw [Bool.and_eq_true, decide_eq_true_iff, decide_eq_true_iff] at h'
    exact ⟨i, rfl, h'.1, h'.2⟩
  | _ => cases h
theorem Dv.int_inv {K : PySem.W.Frag} {H : Hp} {v : V} {i : Int} (h : Dv K H v (.int i)) : v = .int i := by
  cases h; rfl
/-- what one def does, where it stands -/
def Cal (P : Program) (w : World) (K : PySem.W.Frag) (mg : Str → Option Value) (base : Heap) (CX : CXT) (k : Nat) (x : Str) (ps : List Str) (sp : Sp) : Prop :=
  ∃ (f : Addr) (fd : FuncData), FnOk P w K mg base CX k f fd ps sp ∧ mg x = some (.ref f) ∧ PySem.W.keepIn K (.ref f) = true ∧ Binds K fd ps []
/-- what the module's end says of an error's class without an own __init__ -/
structure ErC (K : PySem.W.Frag) (mg : Str → Option Value) (x : Str) (C : Addr) : Prop where
  q : PySem.W.excIn K C [.type "ValueError", .type "Exception", .type "BaseException", .type "object"] "ValueError.__new__" = true
  g : mg x = some (.ref C)
  k : PySem.W.keepIn K (.ref C) = true
  b : PySem.W.subIn K (.ref C) (.type "BaseException") = some true
  t : PySem.W.typeIn K (.ref C) = some (.type "type")
structure Bi1 (mg : Str → Option Value) : Prop where
  type : mg "type" = none
  isinstance : mg "isinstance" = none
  int : mg "int" = none
  bool : mg "bool" = none
  tuple : mg "tuple" = none
  len : mg "len" = none
  all : mg "all" = none
  repr : mg "repr" = none
  enumerate : mg "enumerate" = none
  range : mg "range" = none
/-- data that is an int, no bool -/
def isJ : PyData → Bool
  | .int _ => true
  | _ => false
theorem tyD_nb (d : PyData) : (Value.type (tyD d) == Value.type "builtin_function_or_method") = false := by
  have h : tyD d ≠ "builtin_function_or_method" := by cases d <;> simp [tyD]
  exact beq_eq_false_iff_ne.mpr fun z => h (Value.type.inj z)
def spInt (K : PySem.W.Frag) : Sp := fun vs H Q _ => ∃ (v : V) (d : PyData), vs = [v] ∧ Dv K H v d ∧ Q (.bl (isJ d)) H
def spNum (K : PySem.W.Frag) : Sp := fun vs H Q _ => ∃ (v : V) (d : PyData) (lo hi : Int), vs = [v, .int lo, .int hi] ∧ Dv K H v d ∧ Q (.bl (numIn lo hi d)) H
def spIn (K : PySem.W.Frag) (lo hi : Int) : Sp := fun vs H Q _ => ∃ (v : V) (d : PyData), vs = [v] ∧ Dv K H v d ∧ Q (.bl (numIn lo hi d)) H
section
variable {P : Program} {w : World} {K : PySem.W.Frag} {mg : Str → Option Value} {base : Heap}
theorem sc_num : FnScope ["thing", "least", "most"] ["thing", "least", "most"] (defScope sNum) := ⟨rfl, rfl, rfl, by decide +kernel, rfl, by decide +kernel, by decide +kernel⟩
theorem sc_int : FnScope ["thing"] ["thing"] (defScope sInt) := ⟨rfl, rfl, rfl, by decide +kernel, rfl, by decide +kernel, by decide +kernel⟩
theorem isJ_ty (d : PyData) : decide (tyD d = "int") = isJ d := by
  cases d <;> simp [tyD, isJ]
abbrev CalInt (P : Program) (w : World) (K : PySem.W.Frag) (mg : Str → Option Value) (base : Heap) : Prop := Cal P w K mg base CX0 1 "is_int" ["thing"] (spInt K)
theorem ok_int {f : Addr} {fd : FuncData} (F : Fun K "is_int" "is_int" sInt f fd) (T : Bi1 mg) : FnOk P w K mg base CX0 1 f fd ["thing"] (spInt K) := by
  refine F.ok sc_int (fun vs H Q E h => ?_) (fun cdv A outer s H vs Q E hr h => ?_)
  · obtain ⟨v, d, rfl, _⟩ := h
    rfl
  · obtain ⟨v, d, rfl, hd, k⟩ := h
    refine ⟨_, (pss_one (ps_ret (pe_cmpR op_is_ty (pe_callTy call_type (by rfl) T.type (by decide +kernel) (pa_cons (pv 0) pa_nil)) (pe_bltn (v := .ty "int") (by rfl) T.int (by decide +kernel) rfl) (nomark _)))), ?_⟩
    refine ⟨_, rfl, v, tyD d, rfl, hd.ty, tyD_nb d, _, _, rfl, rfl, ?_⟩
    rw [isJ_ty]
    exact k
theorem ok_num {f : Addr} {fd : FuncData} (F : Fun K "is_number" "is_number" sNum f fd) (C : CalInt P w K mg base) : FnOk P w K mg base CX0 2 f fd ["thing", "least", "most"] (spNum K) := by
  obtain ⟨fI, fdI, GI, gI, kI, bI⟩ := C
  refine F.ok sc_num (fun vs H Q E h => ?_) (fun cdv A outer s H vs Q E hr h => ?_)
  · obtain ⟨v, d, lo, hi, rfl, _⟩ := h
    rfl
  · obtain ⟨v, d, lo, hi, rfl, hd, k⟩ := h
    refine ⟨_, (pss_one (ps_ret (pe_and (pe_call GI hr (by rfl) gI kI bI .nil pass0 (pa_cons (pv 0) pa_nil)) (pe_one (pe_chain op_le op_le (pv 1) (pv 0) (pv 2)))))), ?_⟩
    refine ⟨_, rfl, v, d, rfl, hd, _, rfl, ?_⟩
    refine ite2 (fun h1 => ?_) (fun h1 => ?_)
    · obtain ⟨i, rfl⟩ : ∃ i, d = .int i := by
        cases d with
        | int i => exact ⟨i, rfl⟩
        | _ => cases h1
      obtain rfl := hd.int_inv
      refine ⟨_, rfl, _, rfl, _, _, rfl, rfl, _, rfl, ?_⟩
      have e : numIn lo hi (.int i) = (decide (lo ≤ i) && decide (i ≤ hi)) := rfl
      rw [e] at k
      refine ite2 (fun h3 => ?_) (fun h3 => ?_)
      · rw [h3, Bool.true_and] at k
        exact ⟨_, rfl, _, _, rfl, rfl, k⟩
      · rw [Bool.eq_false_iff.mpr h3, Bool.false_and] at k
        exact k
    · have e : numIn lo hi d = false := by
        cases d with
        | int i => exact absurd rfl h1
        | _ => rfl
      rw [e] at k
      exact k
theorem sc_wid : FnScope ["thing"] ["thing"] (defScope sWid) := ⟨rfl, rfl, rfl, by decide +kernel, rfl, by decide +kernel, by decide +kernel⟩
abbrev CalNum (P : Program) (w : World) (K : PySem.W.Frag) (mg : Str → Option Value) (base : Heap) : Prop := Cal P w K mg base CX0 2 "is_number" ["thing", "least", "most"] (spNum K)
abbrev CalWid (P : Program) (w : World) (K : PySem.W.Frag) (mg : Str → Option Value) (base : Heap) : Prop := Cal P w K mg base CX0 3 "is_width" ["thing"] (spIn K 0 5)
theorem ok_wid {f : Addr} {fd : FuncData} (F : Fun K "is_width" "is_width" sWid f fd) (C : CalNum P w K mg base) (gM : ∃ t, mg "MOST_WIDTH" = some (.int 5 t)) : FnOk P w K mg base CX0 3 f fd ["thing"] (spIn K 0 5) := by
  obtain ⟨fN, fdN, GN, gN, kN, bN⟩ := C
  obtain ⟨tM, gM⟩ := gM
  refine F.ok sc_wid (fun vs H Q E h => ?_) (fun cdv A outer s H vs Q E hr h => ?_)
  · obtain ⟨v, d, rfl, _⟩ := h
    rfl
  · obtain ⟨v, d, rfl, hd, k⟩ := h
    refine ⟨_, (pss_one (ps_ret (pe_call GN hr (by rfl) gN kN bN .nil pass0 (pa_cons (pv 0) (pa_cons (pe_int) (pa_cons (pe_glob (v := .int 5) (by rfl) gM ⟨_, rfl⟩) pa_nil)))))), ?_⟩
    exact ⟨_, rfl, v, d, 0, 5, rfl, hd, k⟩
end
end Own
/-! The pen of a law: a list of the script's first ints, a place and a rest; what a draw gives. -/
namespace Own
open PySem L2
abbrev sPen : Stmt := top1 20
abbrev sNext : Stmt := top1 21
abbrev sDraw : Stmt := top1 22
/-- a pen at p: the list at a, the place i, the rest n -/
structure Pen (H : Hp) (p a : Addr) (ns : List Int) (i n : Int) : Prop where
  hp : H p = some (.lst [.ref a, .int i, .int n])
  ha : H a = some (.lst (ns.map V.int))
  len : ns.length ≤ 60
  hi : 0 ≤ i
  hn : 0 ≤ n
def spPen (K : PySem.W.Frag) : Sp := fun vs H Q _ => ∃ (s : Addr) (ns : List Int), vs = [.ref s] ∧ SqL K H s (ns.map V.int) ∧
  ∀ H' p a ms, H p = none → Same H H' → Pen H' p a ms 0 0 → Q (.ref p) H'
def spNext : Sp := fun vs H Q _ => ∃ (p a : Addr) (ns : List Int) (i n : Int), vs = [.ref p] ∧ Pen H p a ns i n ∧ i ≤ 1000000000 ∧
  ∀ (r : Int) (H' : Hp), 0 ≤ r → Same (upd H p (.lst [.ref a, .int (i + 1), .int n])) H' → Q (.int r) H'
def spDraw : Sp := fun vs H Q _ => ∃ (p a : Addr) (ns : List Int) (i n u : Int), vs = [.ref p, .int u] ∧ Pen H p a ns i n ∧ i ≤ 1000000000 ∧ 0 < u ∧ u < 1000000000 ∧
  ∀ (d i' n' : Int) (H' : Hp), 0 ≤ d → d < u → Pen H' p a ns i' n' → i' ≤ i + 1 → (∀ b o, b ≠ p → H b = some o → H' b = some o) → Q (.int d) H'

theorem lay_ints : ∀ ns : List Int, PyData.canLayAll0 (ns.map PyData.int) = true
  | [] => rfl
  | n :: r => by
    have h := lay_ints r
    simp only [List.map_cons, PyData.canLayAll0, PyData.canLay0, h, Bool.and_self]
theorem deep_ints : ∀ ns : List Int, PyData.depthAll (ns.map PyData.int) = 0
  | [] => rfl
  | n :: r => by
    have h := deep_ints r
    simp only [List.map_cons, PyData.depthAll, PyData.depth, h, Nat.max_self]
theorem shaped_ints (ns : List Int) : SeqAt.shaped (.list (ns.map PyData.int)) = true := by
  unfold SeqAt.shaped
  simp only [PyData.canLay0, PyData.depth, lay_ints, deep_ints, Bool.true_and]
  decide
theorem dp_ints {K : PySem.W.Frag} {H : Hp} : ∀ ns : List Int, DpAll K H (ns.map V.int) (ns.map PyData.int)
  | [] => .nil
  | n :: r => .cons (.int n) (dp_ints r)
theorem at_some {α : Type} {l : List α} {i : Int} (h0 : 0 ≤ i) (h1 : i < l.length) : ∃ x, l[i.toNat]? = some x ∧ atI l i = some x := by
  have h : i.toNat < l.length := by omega
  have e : (i.toNat : Int) = i := Int.toNat_of_nonneg h0
  have z := atI_nat (List.getElem?_eq_getElem h)
  rw [e] at z
  exact ⟨l[i.toNat], List.getElem?_eq_getElem h, z⟩
theorem fm_lo {a b : Int} (h : 0 < b) : 0 ≤ a.fmod b := by rw [Int.fmod_eq_emod_of_nonneg _ (Int.le_of_lt h)]; exact Int.emod_nonneg _ (Int.ne_of_gt h)
theorem fm_hi {a b : Int} (h : 0 < b) : a.fmod b < b := by rw [Int.fmod_eq_emod_of_nonneg _ (Int.le_of_lt h)]; exact Int.emod_lt_of_pos _ h
theorem fd_lo {a b : Int} (ha : 0 ≤ a) (h : 0 < b) : 0 ≤ a.fdiv b := by rw [Int.fdiv_eq_ediv_of_nonneg _ (Int.le_of_lt h)]; exact Int.ediv_nonneg ha (Int.le_of_lt h)
section
variable {P : Program} {w : World} {K : PySem.W.Frag} {mg : Str → Option Value} {base : Heap}
theorem sc_pen : FnScope ["script"] ["script"] (defScope sPen) := ⟨rfl, rfl, rfl, by decide +kernel, rfl, by decide +kernel, by decide +kernel⟩
theorem ok_pen {f : Addr} {fd : FuncData} (F : Fun K "_law_pen" "_law_pen" sPen f fd) (nl : mg "list" = none) : FnOk P w K mg base CX0 1 f fd ["script"] (spPen K) := by
  refine F.ok sc_pen (fun vs H Q E h => ?_) (fun cdv A outer s H vs Q E hr h => ?_)
  · obtain ⟨s, ns, rfl, _⟩ := h
    rfl
  · obtain ⟨s, ns, rfl, hs, k⟩ := h
    refine ⟨_, pss_one (ps_ret (pe_lst (pa_cons (pe_callTy call_list_of (by rfl) nl (by decide +kernel) (pa_cons (pe_slice sl_list (pv 0) po_none (po_some pe_int)) pa_nil)) (pa_cons pe_int (pa_cons pe_int pa_nil))))), ?_⟩
    refine ⟨_, rfl, _, rfl, s, _, rfl, hs, fun p hp => ⟨p, _, rfl, .inl (SqL.of upd_same), fun l hl => ⟨by show 3 ≤ sizeLine; decide, fun q hq => ?_⟩⟩⟩
    have npl : p ≠ l := fun z => by rw [z, upd_same] at hl; cases hl
    have hl0 : H l = Option.none := by rw [upd_ne npl.symm] at hl; exact hl
    have nql : l ≠ q := fun z => by rw [← z, upd_same] at hq; cases hq
    have hq1 : upd H p (.lst (cutV (ns.map V.int) none (some 60))) q = Option.none := by rw [upd_ne nql.symm] at hq; exact hq
    have nqp : p ≠ q := fun z => by rw [← z, upd_same] at hq1; cases hq1
    have hq0 : H q = Option.none := by rw [upd_ne nqp.symm] at hq1; exact hq1
    have ec : cutV (ns.map V.int) none (some 60) = (ns.take 60).map V.int := by
      unfold cutV HT.sIx
      show List.take (min (60 : Int).toNat (ns.map V.int).length - 0) (List.drop 0 (ns.map V.int)) = _
      rw [List.drop_zero, Nat.sub_zero, List.length_map, List.map_take, show (60 : Int).toNat = 60 from rfl]
      by_cases h : ns.length ≤ 60
      · rw [Nat.min_eq_right h, List.take_of_length_le (by rw [List.length_map]; exact Nat.le_refl _), List.take_of_length_le (by rw [List.length_map]; exact h)]
      · rw [Nat.min_eq_left (by omega)]
    refine k _ q l (ns.take 60) hq0 (fun b o e => ?_) ⟨upd_same, ?_, ?_, Int.le_refl _, Int.le_refl _⟩
    · rw [upd_ne (ne_of_none e hq0), upd_ne (ne_of_none e hl0), upd_ne (ne_of_none e hp)]
      exact e
    · rw [upd_ne nql, upd_same, ec]
    · rw [List.length_take]; omega
theorem sc_next : FnScope ["pen", "index", "cell_here", "some", "more", "top"] ["pen"] (defScope sNext) := ⟨rfl, rfl, rfl, by decide +kernel, rfl, by decide +kernel, by decide +kernel⟩
structure Blt (mg : Str → Option Value) : Prop where
  lst : mg "list" = none
  int : mg "int" = none
  len : mg "len" = none
theorem ok_next {f : Addr} {fd : FuncData} (F : Fun K "_law_next" "_law_next" sNext f fd) (T : Blt mg) : FnOk P w K mg base CX0 1 f fd ["pen"] spNext := by
  refine F.ok sc_next (fun vs H Q E h => ?_) (fun cdv A outer s H vs Q E hr h => ?_)
  · obtain ⟨p, a, ns, i, n, rfl, _⟩ := h
    rfl
  · obtain ⟨p, a, ns, i, n, rfl, L, hi9, k⟩ := h
    have hu := hu_of hr
    refine ⟨_, (pss_cons (ps_set (i := 1) sc_next.nd rfl (.inl rfl) (pe_ix ix_list (pv 0) (pe_int) (fun _ _ => rfl)))
        (pss_cons (ps_asg (pe_op op_add (pv 1) (pe_int)) (pg_sub (pv 0) (pe_int) set_list))
        (pss_cons (ps_set (i := 2) sc_next.nd rfl (.inl rfl) (pe_op op_add (pe_op op_mul (pv 1) (pe_int)) (pe_int)))
        (pss_cons (ps_if (pt_cmpR (op_neD hr.units) (pe_ix ix_list (pv 0) (pe_int) (fun _ _ => rfl)) (pe_lst pa_nil) (nomark _)) (pss_one (ps_set (i := 2) sc_next.nd rfl (.inl rfl) (pe_ix ix_list (pe_ix ix_list (pv 0) (pe_int) (fun _ _ => rfl)) (pe_op op_modN (pe_callTy call_int1 (by rfl) T.int (by decide +kernel) (pa_cons (pv 1) pa_nil)) (pe_callB call_len_seq (by rfl) T.len PySem.boot_len (pa_cons (pe_ix ix_list (pv 0) (pe_int) (fun _ _ => rfl)) pa_nil))) (fun _ _ => rfl)))) pss_nil)
        (pss_cons (ps_if (PW.pt (pw_and (pt_cmpR op_lt (pv 1) (pe_callB call_len_seq (by rfl) T.len PySem.boot_len (pa_cons (pe_ix ix_list (pv 0) (pe_int) (fun _ _ => rfl)) pa_nil)) (nomark _)) (pw_and1 (pt_cmpR op_ge (pv 2) (pe_op op_pow (pe_int) (pe_int)) (nomark _))))) (pss_one (ps_ret (pv 2))) pss_nil)
        (pss_cons (ps_set (i := 3) sc_next.nd rfl (.inl rfl) (pe_op op_modN (pe_callTy call_int1 (by rfl) T.int (by decide +kernel) (pa_cons (pe_op op_add (pe_op op_add (pe_op op_modN (pe_callTy call_int1 (by rfl) T.int (by decide +kernel) (pa_cons (pv 2) pa_nil)) (pe_int)) (pe_op op_mul (pv 1) (pe_int))) (pe_int)) pa_nil)) (pe_int)))
        (pss_cons (ps_set (i := 4) sc_next.nd rfl (.inl rfl) (pe_op op_modN (pe_callTy call_int1 (by rfl) T.int (by decide +kernel) (pa_cons (pe_op op_add (pe_op op_add (pe_op op_mul (pv 3) (pv 3)) (pe_op op_mul (pv 1) (pe_int))) (pe_int)) pa_nil)) (pe_int)))
        (pss_cons (ps_set (i := 5) sc_next.nd rfl (.inl rfl) (pe_op op_modN (pe_callTy call_int1 (by rfl) T.int (by decide +kernel) (pa_cons (pe_op op_add (pe_op op_add (pe_op op_mul (pv 4) (pv 4)) (pv 3)) (pe_op op_mul (pe_op op_mul (pv 1) (pv 1)) (pe_int))) pa_nil)) (pe_int)))
        (pss_one (ps_ret (pe_op op_add (pe_op op_mul (pe_op op_add (pe_op op_mul (pv 5) (pe_int)) (pv 4)) (pe_int)) (pv 3)))))))))))), ?_⟩
    refine ⟨_, rfl, p, _, _, _, rfl, rfl, SqL.of L.hp, atI_nat (j := 1) rfl, ?_⟩
    refine ⟨_, rfl, _, _, rfl, rfl, _, rfl, p, _, _, 1, rfl, rfl, L.hp, rfl, ?_⟩
    refine ⟨_, rfl, _, _, rfl, rfl, .inr ⟨by decide, by decide⟩, _, _, rfl, rfl, ?_⟩
    have npa : a ≠ p := ne_of L.ha L.hp (by
      intro z
      have z' := HO.lst.inj z
      cases ns with
      | nil => cases z'
      | cons n r => cases z')
    have h1 : upd H p (.lst [.ref a, .int (i + 1), .int n]) p = some (.lst [.ref a, .int (i + 1), .int n]) := upd_same
    have ha : upd H p (.lst [.ref a, .int (i + 1), .int n]) a = some (.lst (ns.map V.int)) := by rw [upd_ne npa]; exact L.ha
    refine ⟨_, rfl, p, _, _, _, rfl, rfl, SqL.of h1, atI_nat (j := 0) rfl, by show 0 ≤ sizeLine; exact Nat.zero_le _, fun q hq => ?_⟩
    have sq : Same (upd H p (.lst [.ref a, .int (i + 1), .int n])) (upd (upd H p (.lst [.ref a, .int (i + 1), .int n])) q (.lst [])) := fun b o e => by rw [upd_ne (ne_of_none e hq)]; exact e
    have h1q := sq _ _ h1
    have haq := sq _ _ ha
    refine ⟨.list (ns.map PyData.int), .list [], .lst (SqL.of haq) (dp_ints ns), .lst (SqL.of upd_same) .nil, shaped_ints ns, by decide, _, rfl, ?_⟩
    have hP : (0 : Int) < 2147483587 := by decide
    have hP2 : (0 : Int) < 2147483563 := by decide
    have hP3 : (0 : Int) < 2147483549 := by decide
    have cut : ∀ {A B : Prop}, (ns ≠ [] → A) → (ns = [] → B) → if (!PyData.eqv (.list (ns.map PyData.int)) (.list [])) = true then A else B := by
      intro A B hA hB
      cases ns with
      | nil =>
        refine iteF ?_
        exact hB rfl
      | cons n r =>
        refine iteT ?_
        exact hA (by simp)
    have fin : ∀ (c : Int) (A : Prop), A → A := fun _ _ h => h
    refine cut (fun hns => ?_) (fun hns => ?_)
    · have hlen : 0 < ns.length := List.length_pos_iff.mpr hns
      have hL : (0 : Int) < (ns.length : Int) := by omega
      obtain ⟨v, hv, hat⟩ := at_some (l := ns.map V.int) (i := i.fmod ((ns.map V.int).length : Int)) (by rw [List.length_map]; exact fm_lo hL) (by rw [List.length_map]; exact fm_hi hL)
      obtain ⟨c, rfl⟩ : ∃ c, v = V.int c := by
        rw [List.getElem?_map] at hv
        cases e : ns[(i.fmod ((ns.map V.int).length : Int)).toNat]? with
        | none => rw [e] at hv; cases hv
        | some c => rw [e] at hv; exact ⟨c, (Option.some.inj hv).symm⟩
      refine ⟨_, rfl, p, _, _, _, rfl, rfl, SqL.of h1q, atI_nat (j := 0) rfl, _, rfl, .inl ⟨_, rfl, ?_⟩⟩
      refine ⟨_, rfl, p, _, _, _, rfl, rfl, SqL.of h1q, atI_nat (j := 0) rfl, a, _, rfl, .inl (SqL.of haq), _, _, rfl, rfl, by rw [List.length_map]; omega, ?_⟩
      refine ⟨a, _, _, _, rfl, rfl, SqL.of haq, hat, ?_⟩
      clear hv hat
      refine ⟨_, rfl, _, rfl, p, _, _, _, rfl, rfl, SqL.of h1q, atI_nat (j := 0) rfl, a, _, rfl, .inl (SqL.of haq), _, _, rfl, rfl, _, rfl, ?_⟩
      refine ite2 (fun hlt => ?_) (fun hlt => ?_)
      · refine ⟨_, rfl, _, _, rfl, rfl, ⟨by decide, by decide, by decide⟩, _, _, rfl, rfl, _, rfl, ?_⟩
        refine ite2 (fun hge => ?_) (fun hge => ?_)
        · refine ⟨_, rfl, k _ _ ?_ sq⟩
          have z : ((10 : Int) ^ (18 : Int).toNat) ≤ c := of_decide_eq_true hge
          exact Int.le_trans (by decide) z
        · refine ⟨_, rfl, .inl ⟨_, rfl, _, _, rfl, rfl, (by show (2147483587 : Int) ≠ 0; decide), _, rfl, _, _, rfl, rfl, .inr ⟨by decide, by decide⟩, _, _, rfl, rfl, _, _, rfl, rfl, .inl ⟨_, rfl, _, _, rfl, rfl, (by show (2147483587 : Int) ≠ 0; decide), ?_⟩⟩⟩
          have s0 := fm_lo (a := (c.fmod 2147483587 + i * 30103 + 79)) hP
          have s1 := fm_hi (a := (c.fmod 2147483587 + i * 30103 + 79)) hP
          refine ⟨_, rfl, _, rfl, _, _, rfl, rfl, .inl ⟨Int.lt_of_lt_of_le (by decide) s0, Int.lt_trans s1 (by decide)⟩, _, rfl, _, _, rfl, rfl, .inr ⟨by decide, by decide⟩, _, _, rfl, rfl, _, _, rfl, rfl, .inl ⟨_, rfl, _, _, rfl, rfl, (by show (2147483563 : Int) ≠ 0; decide), ?_⟩⟩
          have m0 := fm_lo (a := ((c.fmod 2147483587 + i * 30103 + 79).fmod 2147483587 * (c.fmod 2147483587 + i * 30103 + 79).fmod 2147483587 + i * 70039 + 61)) hP2
          have m1 := fm_hi (a := ((c.fmod 2147483587 + i * 30103 + 79).fmod 2147483587 * (c.fmod 2147483587 + i * 30103 + 79).fmod 2147483587 + i * 70039 + 61)) hP2
          refine ⟨_, rfl, _, rfl, _, _, rfl, rfl, .inl ⟨Int.lt_of_lt_of_le (by decide) m0, Int.lt_trans m1 (by decide)⟩, _, rfl, _, _, rfl, rfl, _, rfl, _, rfl, _, _, rfl, rfl, .inl ⟨by have := L.hi; omega, by omega⟩, _, _, rfl, rfl, .inr ⟨by decide, by decide⟩, _, _, rfl, rfl, .inl ⟨_, rfl, _, _, rfl, rfl, (by show (2147483549 : Int) ≠ 0; decide), ?_⟩⟩
          have h0 := fm_lo (a := (((c.fmod 2147483587 + i * 30103 + 79).fmod 2147483587 * (c.fmod 2147483587 + i * 30103 + 79).fmod 2147483587 + i * 70039 + 61).fmod 2147483563 * ((c.fmod 2147483587 + i * 30103 + 79).fmod 2147483587 * (c.fmod 2147483587 + i * 30103 + 79).fmod 2147483587 + i * 70039 + 61).fmod 2147483563 + (c.fmod 2147483587 + i * 30103 + 79).fmod 2147483587 + i * i * 37)) hP3
          refine ⟨_, rfl, _, _, rfl, rfl, .inr ⟨by decide, by decide⟩, _, rfl, _, _, rfl, rfl, _, _, rfl, rfl, .inr ⟨by decide, by decide⟩, _, rfl, _, _, rfl, rfl, k _ _ ?_ sq⟩
          exact Int.add_nonneg (Int.mul_nonneg (Int.add_nonneg (Int.mul_nonneg h0 (by decide)) m0) (by decide)) s0
      · refine ⟨_, rfl, .inl ⟨_, rfl, _, _, rfl, rfl, (by show (2147483587 : Int) ≠ 0; decide), _, rfl, _, _, rfl, rfl, .inr ⟨by decide, by decide⟩, _, _, rfl, rfl, _, _, rfl, rfl, .inl ⟨_, rfl, _, _, rfl, rfl, (by show (2147483587 : Int) ≠ 0; decide), ?_⟩⟩⟩
        have s0 := fm_lo (a := (c.fmod 2147483587 + i * 30103 + 79)) hP
        have s1 := fm_hi (a := (c.fmod 2147483587 + i * 30103 + 79)) hP
        refine ⟨_, rfl, _, rfl, _, _, rfl, rfl, .inl ⟨Int.lt_of_lt_of_le (by decide) s0, Int.lt_trans s1 (by decide)⟩, _, rfl, _, _, rfl, rfl, .inr ⟨by decide, by decide⟩, _, _, rfl, rfl, _, _, rfl, rfl, .inl ⟨_, rfl, _, _, rfl, rfl, (by show (2147483563 : Int) ≠ 0; decide), ?_⟩⟩
        have m0 := fm_lo (a := ((c.fmod 2147483587 + i * 30103 + 79).fmod 2147483587 * (c.fmod 2147483587 + i * 30103 + 79).fmod 2147483587 + i * 70039 + 61)) hP2
        have m1 := fm_hi (a := ((c.fmod 2147483587 + i * 30103 + 79).fmod 2147483587 * (c.fmod 2147483587 + i * 30103 + 79).fmod 2147483587 + i * 70039 + 61)) hP2
        refine ⟨_, rfl, _, rfl, _, _, rfl, rfl, .inl ⟨Int.lt_of_lt_of_le (by decide) m0, Int.lt_trans m1 (by decide)⟩, _, rfl, _, _, rfl, rfl, _, rfl, _, rfl, _, _, rfl, rfl, .inl ⟨by have := L.hi; omega, by omega⟩, _, _, rfl, rfl, .inr ⟨by decide, by decide⟩, _, _, rfl, rfl, .inl ⟨_, rfl, _, _, rfl, rfl, (by show (2147483549 : Int) ≠ 0; decide), ?_⟩⟩
        have h0 := fm_lo (a := (((c.fmod 2147483587 + i * 30103 + 79).fmod 2147483587 * (c.fmod 2147483587 + i * 30103 + 79).fmod 2147483587 + i * 70039 + 61).fmod 2147483563 * ((c.fmod 2147483587 + i * 30103 + 79).fmod 2147483587 * (c.fmod 2147483587 + i * 30103 + 79).fmod 2147483587 + i * 70039 + 61).fmod 2147483563 + (c.fmod 2147483587 + i * 30103 + 79).fmod 2147483587 + i * i * 37)) hP3
        refine ⟨_, rfl, _, _, rfl, rfl, .inr ⟨by decide, by decide⟩, _, rfl, _, _, rfl, rfl, _, _, rfl, rfl, .inr ⟨by decide, by decide⟩, _, rfl, _, _, rfl, rfl, k _ _ ?_ sq⟩
        exact Int.add_nonneg (Int.mul_nonneg (Int.add_nonneg (Int.mul_nonneg h0 (by decide)) m0) (by decide)) s0
    · refine ⟨_, rfl, _, rfl, p, _, _, _, rfl, rfl, SqL.of h1q, atI_nat (j := 0) rfl, a, _, rfl, .inl (SqL.of haq), _, _, rfl, rfl, _, rfl, ?_⟩
      refine ite2 (fun hlt => ?_) (fun hlt => ?_)
      · refine ⟨_, rfl, _, _, rfl, rfl, ⟨by decide, by decide, by decide⟩, _, _, rfl, rfl, _, rfl, ?_⟩
        refine ite2 (fun hge => ?_) (fun hge => ?_)
        · refine ⟨_, rfl, k _ _ ?_ sq⟩
          have z : ((10 : Int) ^ (18 : Int).toNat) ≤ i * 1051 + 53 := of_decide_eq_true hge
          exact Int.le_trans (by decide) z
        · refine ⟨_, rfl, .inl ⟨_, rfl, _, _, rfl, rfl, (by show (2147483587 : Int) ≠ 0; decide), _, rfl, _, _, rfl, rfl, .inr ⟨by decide, by decide⟩, _, _, rfl, rfl, _, _, rfl, rfl, .inl ⟨_, rfl, _, _, rfl, rfl, (by show (2147483587 : Int) ≠ 0; decide), ?_⟩⟩⟩
          have s0 := fm_lo (a := ((i * 1051 + 53).fmod 2147483587 + i * 30103 + 79)) hP
          have s1 := fm_hi (a := ((i * 1051 + 53).fmod 2147483587 + i * 30103 + 79)) hP
          refine ⟨_, rfl, _, rfl, _, _, rfl, rfl, .inl ⟨Int.lt_of_lt_of_le (by decide) s0, Int.lt_trans s1 (by decide)⟩, _, rfl, _, _, rfl, rfl, .inr ⟨by decide, by decide⟩, _, _, rfl, rfl, _, _, rfl, rfl, .inl ⟨_, rfl, _, _, rfl, rfl, (by show (2147483563 : Int) ≠ 0; decide), ?_⟩⟩
          have m0 := fm_lo (a := (((i * 1051 + 53).fmod 2147483587 + i * 30103 + 79).fmod 2147483587 * ((i * 1051 + 53).fmod 2147483587 + i * 30103 + 79).fmod 2147483587 + i * 70039 + 61)) hP2
          have m1 := fm_hi (a := (((i * 1051 + 53).fmod 2147483587 + i * 30103 + 79).fmod 2147483587 * ((i * 1051 + 53).fmod 2147483587 + i * 30103 + 79).fmod 2147483587 + i * 70039 + 61)) hP2
          refine ⟨_, rfl, _, rfl, _, _, rfl, rfl, .inl ⟨Int.lt_of_lt_of_le (by decide) m0, Int.lt_trans m1 (by decide)⟩, _, rfl, _, _, rfl, rfl, _, rfl, _, rfl, _, _, rfl, rfl, .inl ⟨by have := L.hi; omega, by omega⟩, _, _, rfl, rfl, .inr ⟨by decide, by decide⟩, _, _, rfl, rfl, .inl ⟨_, rfl, _, _, rfl, rfl, (by show (2147483549 : Int) ≠ 0; decide), ?_⟩⟩
          have h0 := fm_lo (a := ((((i * 1051 + 53).fmod 2147483587 + i * 30103 + 79).fmod 2147483587 * ((i * 1051 + 53).fmod 2147483587 + i * 30103 + 79).fmod 2147483587 + i * 70039 + 61).fmod 2147483563 * (((i * 1051 + 53).fmod 2147483587 + i * 30103 + 79).fmod 2147483587 * ((i * 1051 + 53).fmod 2147483587 + i * 30103 + 79).fmod 2147483587 + i * 70039 + 61).fmod 2147483563 + ((i * 1051 + 53).fmod 2147483587 + i * 30103 + 79).fmod 2147483587 + i * i * 37)) hP3
          refine ⟨_, rfl, _, _, rfl, rfl, .inr ⟨by decide, by decide⟩, _, rfl, _, _, rfl, rfl, _, _, rfl, rfl, .inr ⟨by decide, by decide⟩, _, rfl, _, _, rfl, rfl, k _ _ ?_ sq⟩
          exact Int.add_nonneg (Int.mul_nonneg (Int.add_nonneg (Int.mul_nonneg h0 (by decide)) m0) (by decide)) s0
      · refine ⟨_, rfl, .inl ⟨_, rfl, _, _, rfl, rfl, (by show (2147483587 : Int) ≠ 0; decide), _, rfl, _, _, rfl, rfl, .inr ⟨by decide, by decide⟩, _, _, rfl, rfl, _, _, rfl, rfl, .inl ⟨_, rfl, _, _, rfl, rfl, (by show (2147483587 : Int) ≠ 0; decide), ?_⟩⟩⟩
        have s0 := fm_lo (a := ((i * 1051 + 53).fmod 2147483587 + i * 30103 + 79)) hP
        have s1 := fm_hi (a := ((i * 1051 + 53).fmod 2147483587 + i * 30103 + 79)) hP
        refine ⟨_, rfl, _, rfl, _, _, rfl, rfl, .inl ⟨Int.lt_of_lt_of_le (by decide) s0, Int.lt_trans s1 (by decide)⟩, _, rfl, _, _, rfl, rfl, .inr ⟨by decide, by decide⟩, _, _, rfl, rfl, _, _, rfl, rfl, .inl ⟨_, rfl, _, _, rfl, rfl, (by show (2147483563 : Int) ≠ 0; decide), ?_⟩⟩
        have m0 := fm_lo (a := (((i * 1051 + 53).fmod 2147483587 + i * 30103 + 79).fmod 2147483587 * ((i * 1051 + 53).fmod 2147483587 + i * 30103 + 79).fmod 2147483587 + i * 70039 + 61)) hP2
        have m1 := fm_hi (a := (((i * 1051 + 53).fmod 2147483587 + i * 30103 + 79).fmod 2147483587 * ((i * 1051 + 53).fmod 2147483587 + i * 30103 + 79).fmod 2147483587 + i * 70039 + 61)) hP2
        refine ⟨_, rfl, _, rfl, _, _, rfl, rfl, .inl ⟨Int.lt_of_lt_of_le (by decide) m0, Int.lt_trans m1 (by decide)⟩, _, rfl, _, _, rfl, rfl, _, rfl, _, rfl, _, _, rfl, rfl, .inl ⟨by have := L.hi; omega, by omega⟩, _, _, rfl, rfl, .inr ⟨by decide, by decide⟩, _, _, rfl, rfl, .inl ⟨_, rfl, _, _, rfl, rfl, (by show (2147483549 : Int) ≠ 0; decide), ?_⟩⟩
        have h0 := fm_lo (a := ((((i * 1051 + 53).fmod 2147483587 + i * 30103 + 79).fmod 2147483587 * ((i * 1051 + 53).fmod 2147483587 + i * 30103 + 79).fmod 2147483587 + i * 70039 + 61).fmod 2147483563 * (((i * 1051 + 53).fmod 2147483587 + i * 30103 + 79).fmod 2147483587 * ((i * 1051 + 53).fmod 2147483587 + i * 30103 + 79).fmod 2147483587 + i * 70039 + 61).fmod 2147483563 + ((i * 1051 + 53).fmod 2147483587 + i * 30103 + 79).fmod 2147483587 + i * i * 37)) hP3
        refine ⟨_, rfl, _, _, rfl, rfl, .inr ⟨by decide, by decide⟩, _, rfl, _, _, rfl, rfl, _, _, rfl, rfl, .inr ⟨by decide, by decide⟩, _, rfl, _, _, rfl, rfl, k _ _ ?_ sq⟩
        exact Int.add_nonneg (Int.mul_nonneg (Int.add_nonneg (Int.mul_nonneg h0 (by decide)) m0) (by decide)) s0
theorem sc_draw : FnScope ["pen", "under", "digit"] ["pen", "under"] (defScope sDraw) := ⟨rfl, rfl, rfl, by decide +kernel, rfl, by decide +kernel, by decide +kernel⟩
theorem ok_draw {f fN : Addr} {fd fdN : FuncData} (F : Fun K "_law_draw" "_law_draw" sDraw f fd) (T : Blt mg) (GN : FnOk P w K mg base CX0 1 fN fdN ["pen"] spNext) (gN : mg "_law_next" = some (.ref fN)) (kN : PySem.W.keepIn K (.ref fN) = true) (bN : Binds K fdN ["pen"] []) :
    FnOk P w K mg base CX0 2 f fd ["pen", "under"] spDraw := by
  refine F.ok sc_draw (fun vs H Q E h => ?_) (fun cdv A outer s H vs Q E hr h => ?_)
  · obtain ⟨p, a, ns, i, n, u, rfl, _⟩ := h
    rfl
  · obtain ⟨p, a, ns, i, n, u, rfl, L, hi9, hu0, hu9, k⟩ := h
    refine ⟨_, (pss_cons (ps_if (pt_cmpR op_lt (pe_ix ix_list (pv 0) (pe_int) (fun _ _ => rfl)) (pv 1) (nomark _)) (pss_one (ps_asg (pe_call GN hr (by rfl) gN kN bN .nil pass0 (pa_cons (pv 0) pa_nil)) (pg_sub (pv 0) (pe_int) set_list))) pss_nil)
        (pss_cons (ps_set (i := 2) sc_draw.nd rfl (.inl rfl) (pe_op op_modN (pe_callTy call_int1 (by rfl) T.int (by decide +kernel) (pa_cons (pe_ix ix_list (pv 0) (pe_int) (fun _ _ => rfl)) pa_nil)) (pv 1)))
        (pss_cons (ps_asg (pe_op op_fdivN (pe_ix ix_list (pv 0) (pe_int) (fun _ _ => rfl)) (pv 1)) (pg_sub (pv 0) (pe_int) set_list))
        (pss_one (ps_ret (pv 2)))))), ?_⟩
    have fin : ∀ (i' n' : Int) (H1 : Hp), Pen H1 p a ns i' n' → i' ≤ i + 1 → (∀ b o, b ≠ p → H b = some o → H1 b = some o) → 0 < u → Q (.int (n'.fmod u)) (upd H1 p (.lst [.ref a, .int i', .int (n'.fdiv u)])) := by
      intro i' n' H1 L1 hi' same hu
      refine k _ i' (n'.fdiv u) _ (fm_lo hu) (fm_hi hu) ⟨upd_same, ?_, L1.len, L1.hi, fd_lo L1.hn hu⟩ hi' (fun b o hb e => by rw [upd_ne hb]; exact same b o hb e)
      rw [upd_ne (ne_of L1.ha L1.hp (by
        intro z
        have z' := HO.lst.inj z
        cases ns with
        | nil => cases z'
        | cons n r => cases z'))]
      exact L1.ha
    have npa : a ≠ p := ne_of L.ha L.hp (by
      intro z
      have z' := HO.lst.inj z
      cases ns with
      | nil => cases z'
      | cons n r => cases z')
    have un : u ≠ 0 := Int.ne_of_gt hu0
    have ub : u.natAbs < 1073741824 := by omega
    refine ⟨_, rfl, p, _, _, _, rfl, rfl, SqL.of L.hp, atI_nat (j := 2) rfl, _, rfl, _, _, rfl, rfl, _, rfl, ?_⟩
    refine ite2 (fun hlt => ?_) (fun hlt => ?_)
    · refine ⟨_, rfl, p, a, ns, i, n, rfl, L, hi9, fun r H1 hr0 s1 => ?_⟩
      have e1 := s1 _ _ upd_same
      have ea := s1 _ _ (by rw [upd_ne npa]; exact L.ha)
      refine ⟨_, rfl, p, _, _, 2, rfl, rfl, e1, rfl, ?_⟩
      have e2 : upd H1 p (.lst (([.ref a, .int (i + 1), .int n] : List V).set 2 (.int r))) p = some (.lst [.ref a, .int (i + 1), .int r]) := upd_same
      refine ⟨_, rfl, p, _, _, _, rfl, rfl, SqL.of e2, atI_nat (j := 2) rfl, .inl ⟨_, rfl, _, rfl, _, _, rfl, rfl, un, ?_⟩⟩
      refine ⟨_, rfl, p, _, _, _, rfl, rfl, SqL.of e2, atI_nat (j := 2) rfl, _, rfl, _, _, rfl, rfl, ⟨un, ub⟩, ?_⟩
      refine ⟨_, rfl, p, _, _, 2, rfl, rfl, e2, rfl, _, rfl, ?_⟩
      exact fin (i + 1) r _ ⟨e2, by rw [upd_ne npa]; exact ea, L.len, by have := L.hi; omega, hr0⟩ (Int.le_refl _) (fun b o hb e => by rw [upd_ne hb]; exact s1 _ _ (by rw [upd_ne hb]; exact e)) hu0
    · refine ⟨_, rfl, p, _, _, _, rfl, rfl, SqL.of L.hp, atI_nat (j := 2) rfl, .inl ⟨_, rfl, _, rfl, _, _, rfl, rfl, un, ?_⟩⟩
      refine ⟨_, rfl, p, _, _, _, rfl, rfl, SqL.of L.hp, atI_nat (j := 2) rfl, _, rfl, _, _, rfl, rfl, ⟨un, ub⟩, ?_⟩
      refine ⟨_, rfl, p, _, _, 2, rfl, rfl, L.hp, rfl, _, rfl, ?_⟩
      exact fin i n H L (by omega) (fun b o hb e => e) hu0
end
end Own
/-! Dicts whose keys are tuples of any depth (ints, bools, texts, None, tuples of these): tracked by their rows (key, where its tuple stands, value). -/
namespace Own
open PySem PySem.Spec PyProof.Rows L2
/-- the tuples stay -/
def TupK (H H' : Hp) : Prop := ∀ p xs, Rd H p (.tup xs) → Rd H' p (.tup xs)
theorem TupK.sq {K : PySem.W.Frag} {H H' : Hp} (s : TupK H H') {a : Addr} {xs : List V} (h : SqT K H a xs) : SqT K H' a xs := h.elim (fun z => .inl (s _ _ z)) .inr
theorem TupK.of_same {H H' : Hp} (s : Same H H') : TupK H H' := fun p xs h => by
  rcases h with h | ⟨o, h⟩
  · exact .inl (s _ _ h)
  · exact .inr ⟨o, s _ _ h⟩
theorem TupK.ext {H : Hp} {d : Addr} {φ : Heap → Prop} {o : HO} (e : H d = some (.ext φ)) : TupK H (upd H d o) := fun p xs h => by
  have ne : p ≠ d := by
    rintro rfl
    rcases h with h | ⟨o, h⟩
    · rw [e] at h; cases h
    · rw [e] at h; cases h
  rcases h with h | ⟨u, h⟩
  · exact .inl (by rw [upd_ne ne]; exact h)
  · exact .inr ⟨u, by rw [upd_ne ne]; exact h⟩
theorem TupK.fresh {H : Hp} {d : Addr} {o : HO} (e : H d = none) : TupK H (upd H d o) := fun p xs h => by
  have ne : p ≠ d := by
    rintro rfl
    rcases h with h | ⟨o, h⟩
    · rw [e] at h; cases h
    · rw [e] at h; cases h
  rcases h with h | ⟨u, h⟩
  · exact .inl (by rw [upd_ne ne]; exact h)
  · exact .inr ⟨u, by rw [upd_ne ne]; exact h⟩
mutual
/-- the value is the key -/
inductive KeyAt (K : PySem.W.Frag) (H : Hp) : V → NestedKey → Prop
  | non : KeyAt K H .non .none
  | bl (b : Bool) : KeyAt K H (.bl b) (.num (if b = true then 1 else 0))
  | int (i : Int) : KeyAt K H (.int i) (.num i)
  | str (x : Str) : KeyAt K H (.str x) (.text x)
  | tup {a : Addr} {xs : List V} {ks : List NestedKey} : SqT K H a xs → KeyAll K H xs ks → KeyAt K H (.ref a) (.tup ks)
inductive KeyAll (K : PySem.W.Frag) (H : Hp) : List V → List NestedKey → Prop
  | nil : KeyAll K H [] []
  | cons {v : V} {vs : List V} {k : NestedKey} {ks : List NestedKey} : KeyAt K H v k → KeyAll K H vs ks → KeyAll K H (v :: vs) (k :: ks)
end
mutual
theorem KeyAt.keep {K : PySem.W.Frag} {H H' : Hp} (s : TupK H H') : ∀ {v : V} {k : NestedKey}, KeyAt K H v k → KeyAt K H' v k
  | _, _, .non => .non
  | _, _, .bl b => .bl b
  | _, _, .int i => .int i
  | _, _, .str x => .str x
  | _, _, .tup h r => .tup (s.sq h) (KeyAll.keep s r)
theorem KeyAll.keep {K : PySem.W.Frag} {H H' : Hp} (s : TupK H H') : ∀ {vs : List V} {ks : List NestedKey}, KeyAll K H vs ks → KeyAll K H' vs ks
  | _, _, .nil => .nil
  | _, _, .cons h r => .cons (KeyAt.keep s h) (KeyAll.keep s r)
end
section
variable {X : Cx} {pins : List (Addr × Obj)} {σ : L2.St} {H : Hp} {s : Shared}
mutual
theorem KeyAt.is (I : Inv X pins σ H s) : ∀ {v : V} {k : NestedKey}, KeyAt X.K H v k → ∀ u, RelV v u → NestedIs s.heap k u
  | _, _, .non, _, r => by cases r; exact .none
  | _, _, .bl b, _, r => by cases r; exact .bool rfl
  | _, _, .int i, _, r => by obtain ⟨t, rfl⟩ := r; exact .int i t
  | _, _, .str x, _, r => by obtain ⟨t, rfl⟩ := r; exact .text x t
  | _, _, .tup h q, _, r => by
    cases r
    obtain ⟨its, rv, ⟨o, h1, h2, n, h3⟩, _⟩ := I.tuple h
    exact .tup h1 h2 h3 (by simpa using KeyAll.is I q its rv)
theorem KeyAll.is (I : Inv X pins σ H s) : ∀ {vs : List V} {ks : List NestedKey}, KeyAll X.K H vs ks → ∀ us, Vals vs us → NestedAll s.heap ks us
  | _, _, .nil, _, r => by cases r; exact .nil
  | _, _, .cons h q, _, r => by
    cases r with
    | cons r1 r2 => exact .cons (KeyAt.is I h _ r1) (KeyAll.is I q _ r2)
end
end
/-- a row: the key, where its tuple stands, the value -/
abbrev Row := NestedKey × Addr × V
abbrev RowR (p : Row) (q : NestedKey × Addr × Value) : Prop := p.1 = q.1 ∧ p.2.1 = q.2.1 ∧ RelV p.2.2 q.2.2
def valR (rows : List Row) (k : NestedKey) : Option V := (rows.find? fun p => decide (p.1 = k)).map (·.2.2)
def putR (rows : List Row) (k : NestedKey) (b : Addr) (v : V) : List Row := if (valR rows k).isSome then rows.map fun p => if p.1 = k then (p.1, p.2.1, v) else p else rows ++ [(k, b, v)]
def DnC (P : Program) (w : World) (d : Addr) (rows : List Row) (h : Heap) : Prop :=
  ∃ (xs : List (NestedKey × Addr × Value)) (o : Obj) (es : Array DictEntry) (ep : Nat), Paired RowR rows xs ∧ h.get? d = some o ∧ o.ExactDict ∧ o.data = .dict es ep ∧ es.toList = xs.map (entryOfKey (nestedKind P w))
def DnO (P : Program) (w : World) (d : Addr) (rows : List Row) : HO := .ext (DnC P w d rows)
/-- at d stands the dict with these rows -/
structure DnAt (P : Program) (w : World) (K : PySem.W.Frag) (H : Hp) (d : Addr) (rows : List Row) : Prop where
  at_ : H d = some (DnO P w d rows)
  keys : ∀ p ∈ rows, KeyAt K H (.ref p.2.1) p.1 ∧ p.1.depth ≤ 8
  nodup : (rows.map (·.1)).Nodup
  len : rows.length ≤ sizeLine
  nm : (d == sysModules) = false
theorem valR_nil (k : NestedKey) : valR [] k = none := rfl
theorem valR_pos {p : Row} {rows : List Row} {k : NestedKey} (h : p.1 = k) : valR (p :: rows) k = some p.2.2 := by simp [valR, List.find?_cons, h]
theorem valR_neg {p : Row} {rows : List Row} {k : NestedKey} (h : p.1 ≠ k) : valR (p :: rows) k = valR rows k := by simp [valR, List.find?_cons, h]
theorem valR_some {k : NestedKey} : ∀ {rows : List Row}, (valR rows k).isSome = true ↔ k ∈ rows.map (·.1)
  | [] => by simp [valR]
  | p :: rows => by
    by_cases e : p.1 = k
    · rw [valR_pos e]
      simp [e]
    · rw [valR_neg e, valR_some (rows := rows), List.map_cons, List.mem_cons]
      exact ⟨.inr, fun z => z.elim (fun y => absurd y.symm e) id⟩
theorem rowR_val {rows : List Row} {xs : List (NestedKey × Addr × Value)} (r : Paired RowR rows xs) (k : NestedKey) : RelO (valR rows k) ((atKey xs k).map (·.2)) := by
  induction r with
  | nil => exact True.intro
  | @cons p q ps qs h t ih =>
    obtain ⟨h1, _, h2⟩ := h
    by_cases e : p.1 = k
    · have e' : q.1 = k := h1.symm.trans e
      have b : atKey (q :: qs) k = some q.2 := by simp [atKey, List.find?_cons, e']
      rw [valR_pos e, b]
      exact h2
    · have e' : ¬ q.1 = k := fun z => e (h1.trans z)
      have b : atKey (q :: qs) k = atKey qs k := by simp [atKey, List.find?_cons, e']
      rw [valR_neg e, b]
      exact ih
theorem rowR_put {rows : List Row} {xs : List (NestedKey × Addr × Value)} (r : Paired RowR rows xs) (k : NestedKey) (b : Addr) {v : V} {u : Value} (rv : RelV v u) : Paired RowR (putR rows k b v) (storedH xs k b u) := by
  have e : (valR rows k).isSome = (atKey xs k).isSome := by rw [(rowR_val r k).isSome_eq, Option.isSome_map]
  unfold putR storedH
  rw [e]
  by_cases q : (atKey xs k).isSome = true
  · rw [if_pos q, if_pos q]
    clear e q
    induction r with
    | nil => exact .nil
    | @cons p q ps qs h t ih =>
      rw [List.map_cons, List.map_cons]
      refine .cons ?_ ih
      obtain ⟨h1, h2, h3⟩ := h
      unfold putAt
      by_cases e : p.1 = k
      · rw [if_pos e, if_pos (h1.symm.trans e)]
        exact ⟨h1, h2, rv⟩
      · rw [if_neg e, if_neg (fun z => e (h1.trans z))]
        exact ⟨h1, h2, h3⟩
  · rw [if_neg q, if_neg q]
    exact Paired.snoc r ⟨rfl, rfl, rv⟩
theorem putR_keys (rows : List Row) (k : NestedKey) (b : Addr) (v : V) : (putR rows k b v).map (·.1) = if k ∈ rows.map (·.1) then rows.map (·.1) else rows.map (·.1) ++ [k] := by
  unfold putR
  by_cases q : (valR rows k).isSome = true
  · rw [if_pos q, if_pos (valR_some.mp q), List.map_map]
    refine List.map_congr_left fun p _ => ?_
    show (if p.1 = k then ((p.1, p.2.1, v) : Row) else p).1 = p.1
    split <;> rfl
  · rw [if_neg q, if_neg (fun z => q (valR_some.mpr z)), List.map_append]
    rfl
theorem putR_len (rows : List Row) (k : NestedKey) (b : Addr) (v : V) : (putR rows k b v).length ≤ rows.length + 1 := by
  unfold putR
  split
  · rw [List.length_map]; omega
  · rw [List.length_append]; exact Nat.le_refl _
theorem putR_mem {rows : List Row} {k : NestedKey} {b : Addr} {v : V} {p : Row} (h : p ∈ putR rows k b v) : (p.1, p.2.1) = (k, b) ∨ ∃ q ∈ rows, q.1 = p.1 ∧ q.2.1 = p.2.1 := by
  unfold putR at h
  split at h
  · obtain ⟨q, hq, e⟩ := List.mem_map.mp h
    refine .inr ⟨q, hq, ?_⟩
    split at e <;> (subst e; exact ⟨rfl, rfl⟩)
  · rcases List.mem_append.mp h with h | h
    · exact .inr ⟨p, h, rfl, rfl⟩
    · rw [List.mem_singleton.mp h]
      exact .inl rfl
section
variable {X : Cx} {pins : List (Addr × Obj)} {σ : L2.St} {H : Hp} {s : Shared} {d : Addr} {rows : List Row}
theorem DnAt.rd (D : DnAt X.prog X.w X.K H d rows) (I : Inv X pins σ H s) : ∃ xs, Paired RowR rows xs ∧ s.heap.DictOfH (nestedKind X.prog X.w) d xs := by
  obtain ⟨xs, o, es, ep, r, h1, h2, h3, h4⟩ := (I.hok _ _ D.at_).1
  refine ⟨xs, r, o, es, ep, h1, h2, h3, h4, ?_, ?_⟩
  · have key : ∀ {l : List Row} {m : List (NestedKey × Addr × Value)}, Paired RowR l m → (∀ p ∈ l, KeyAt X.K H (.ref p.2.1) p.1 ∧ p.1.depth ≤ 8) → ∀ x ∈ m, (nestedKind X.prog X.w).is s.heap x.1 x.2.1 := by
      intro l m q
      induction q with
      | nil => intro _ x hx; exact nomatch hx
      | @cons p q ps qs h t ih =>
        intro hk x hx
        rcases List.mem_cons.mp hx with e | hx
        · subst e
          obtain ⟨k1, k2⟩ := hk p List.mem_cons_self
          have z := k1.is I (.ref p.2.1) rfl
          rw [h.1, h.2.1] at z
          rw [h.1] at k2
          exact ⟨z, k2⟩
        · exact ih (fun p hp => hk p (List.mem_cons_of_mem _ hp)) x hx
    exact key r D.keys
  · have e : xs.map (·.1) = rows.map (·.1) := by
      clear D h1 h2 h3 h4
      induction r with
      | nil => rfl
      | cons h t ih => rw [List.map_cons, List.map_cons, ih, h.1]
    rw [e]
    exact D.nodup
theorem DnAt.keep {H' : Hp} {P : Program} {w : World} {K : PySem.W.Frag} (D : DnAt P w K H d rows) (h1 : H' d = some (DnO P w d rows)) (h2 : TupK H H') : DnAt P w K H' d rows :=
  ⟨h1, fun p hp => ⟨(D.keys p hp).1.keep h2, (D.keys p hp).2⟩, D.nodup, D.len, D.nm⟩
theorem dnO_ok {P : Program} {w : World} {H' : Hp} {h : Heap} (c : DnC P w d rows h) : ObjOk P w H' h d (DnO P w d rows) := by
  refine ⟨c, ?_, fun h1 h2 z k => ?_⟩
  · obtain ⟨_, o, _, _, _, e, _⟩ := c
    exact ⟨o, e⟩
  · obtain ⟨xs, o, es, ep, r, e, q⟩ := z
    exact ⟨xs, o, es, ep, r, k o e, q⟩
theorem dnO_mut {P : Program} {w : World} : Mut (some (DnO P w d rows)) := True.intro
/-- what stands at y -/
def NGet (P : Program) (w : World) (K : PySem.W.Frag) (H : Hp) (d : Addr) (y : V) (r : Option V) : Prop := ∃ rows k b, DnAt P w K H d rows ∧ y = .ref b ∧ KeyAt K H (.ref b) k ∧ k.depth ≤ 8 ∧ r = valR rows k
theorem room_n {A : Around} (hu : A.units + 64 < cLine) : (nestedKind X.prog X.w).room A.in1 := by
  show A.units + 1 + 8 < cLine
  omega
theorem n_typeIs {y : V} {o : Option V} (I : Inv X pins σ H s) (g : NGet X.prog X.w X.K H d y o) : s.TypeIs (.ref d) "dict" := by
  obtain ⟨rows, k, b, D, _⟩ := g
  obtain ⟨xs, _, dd⟩ := D.rd I
  exact dd.typeIs
variable {A : Around} {E : Value → Shared → Prop} {y v : V} {u r : Value} {o : Option V}
theorem n_getItem {Q : Value → Shared → Prop} (hu : A.units + 64 < cLine) (I : Inv X pins σ H s) (g : NGet X.prog X.w X.K H d y (some v)) (ry : RelV y u) (h : ∀ w' s', Inv X pins σ H s' → RelV v w' → Q w' s') :
    wpAny (model X.prog X.w) A (getItem (.ref d) u) Q E s := by
  obtain ⟨rows, k, b, D, rfl, hk, dp, l⟩ := g
  cases (show u = Value.ref b from ry)
  obtain ⟨xs, rel, dd⟩ := D.rd I
  obtain ⟨w', hw, rw'⟩ := RelO.some_of (v := v) (o := (atKey xs k).map (·.2)) (by rw [l]; exact rowR_val rel k)
  obtain ⟨p, hp, hp2⟩ := Option.map_eq_some_iff.mp hw
  refine wpAny_getItem_heap (room_n hu) ⟨hk.is I _ rfl, dp⟩ dd hp ?_
  rw [hp2]
  exact h w' _ (I.tok _) rw'
theorem n_in {Q : Value → Shared → Prop} (hu : A.units + 64 < cLine) (I : Inv X pins σ H s) (g : NGet X.prog X.w X.K H d y o) (ry : RelV y u) (h : ∀ s', Inv X pins σ H s' → Q (.bool o.isSome) s') :
    wpAny (model X.prog X.w) A (compareOp .In u (.ref d)) Q E s := by
  obtain ⟨rows, k, b, D, rfl, hk, dp, l⟩ := g
  cases (show u = Value.ref b from ry)
  obtain ⟨xs, rel, dd⟩ := D.rd I
  refine wpAny_in_heap (room_n hu) ⟨hk.is I _ rfl, dp⟩ D.nm dd ?_
  have q := (rowR_val rel k).isSome_eq
  rw [Option.isSome_map] at q
  rw [← q, ← l]
  exact h _ (I.tok _)
theorem n_notIn {Q : Value → Shared → Prop} (hu : A.units + 64 < cLine) (I : Inv X pins σ H s) (g : NGet X.prog X.w X.K H d y o) (ry : RelV y u) (h : ∀ s', Inv X pins σ H s' → Q (.bool (!o.isSome)) s') :
    wpAny (model X.prog X.w) A (compareOp .NotIn u (.ref d)) Q E s := by
  obtain ⟨rows, k, b, D, rfl, hk, dp, l⟩ := g
  cases (show u = Value.ref b from ry)
  obtain ⟨xs, rel, dd⟩ := D.rd I
  refine wpAny_notIn_heap (room_n hu) ⟨hk.is I _ rfl, dp⟩ D.nm dd ?_
  have q := (rowR_val rel k).isSome_eq
  rw [Option.isSome_map] at q
  rw [← q, ← l]
  exact h _ (I.tok _)
/-- the heap behind d[y] = v -/
def NPut (P : Program) (w : World) (K : PySem.W.Frag) (H : Hp) (d : Addr) (y v : V) (H' : Hp) : Prop := ∃ rows k b, DnAt P w K H d rows ∧ y = .ref b ∧ KeyAt K H (.ref b) k ∧ k.depth ≤ 8 ∧ rows.length < sizeLine ∧ H' = upd H d (DnO P w d (putR rows k b v))
theorem tup_put {P : Program} {w : World} {K : PySem.W.Frag} (D : DnAt P w K H d rows) (o : HO) : TupK H (upd H d o) := .ext D.at_
theorem DnAt.put {P : Program} {w : World} {K : PySem.W.Frag} (D : DnAt P w K H d rows) {k : NestedKey} {b : Addr} (hk : KeyAt K H (.ref b) k) (dp : k.depth ≤ 8) (hl : rows.length < sizeLine) (v : V) : DnAt P w K (upd H d (DnO P w d (putR rows k b v))) d (putR rows k b v) := by
  refine ⟨upd_same, fun p hp => ?_, ?_, Nat.le_trans (putR_len rows k b v) hl, D.nm⟩
  · rcases putR_mem hp with e | ⟨q, hq, e1, e2⟩
    · cases (show p.1 = k from congrArg Prod.fst e)
      have e2 : p.2.1 = b := congrArg Prod.snd e
      rw [e2]
      exact ⟨hk.keep (tup_put D _), dp⟩
    · obtain ⟨z1, z2⟩ := D.keys q hq
      rw [e1, e2] at z1
      rw [e1] at z2
      exact ⟨z1.keep (tup_put D _), z2⟩
  · rw [putR_keys]
    split
    · exact D.nodup
    · rename_i hn
      refine List.nodup_append.mpr ⟨D.nodup, by simp, fun x hx z hz => ?_⟩
      rw [List.mem_singleton.mp hz]
      exact fun e => hn (e ▸ hx)
theorem n_setItem {H' : Hp} {Q : Unit → Shared → Prop} (hu : A.units + 64 < cLine) (I : Inv X pins σ H s) (g : NPut X.prog X.w X.K H d y v H') (ry : RelV y u) (rv : RelV v r) (h : ∀ s', Inv X pins σ H' s' → Q () s') :
    wpAny (model X.prog X.w) A (setItem (.ref d) u r) Q E s := by
  obtain ⟨rows, k, b, D, rfl, hk, dp, hl, rfl⟩ := g
  cases (show u = Value.ref b from ry)
  obtain ⟨xs, rel, dd⟩ := D.rd I
  have hz : xs.length ≤ sizeLine := by rw [← Paired.length rel]; exact D.len
  refine wpAny_setItem_heap (hsz := hz) (room_n hu) ⟨hk.is I _ rfl, dp⟩ dd fun h' dd' hs => h _ ?_
  obtain ⟨q, es, ep, hq, h2, h3, h4, _, _⟩ := dd'
  exact d_write I (by rw [D.at_]; exact dnO_mut) hs ⟨q, hq⟩ (dnO_ok ⟨_, q, es, ep, rowR_put rel k b rv, hq, h2, h3, h4⟩)
end
end Own
/-! Rules for dicts with tuples of any depth as keys. -/
namespace Own
open PySem PySem.Spec PyProof.Rows L2
def tNGet (P : Program) (w : World) (K : PySem.W.Frag) (td ty : TE) : TE := fun σ H Q => td σ H fun x H1 => ty σ H1 fun y H2 => ∃ d v, x = .ref d ∧ NGet P w K H2 d y (some v) ∧ Q v H2
def tNIn (P : Program) (w : World) (K : PySem.W.Frag) (ty td : TE) : TE := fun σ H Q => ty σ H fun y H1 => td σ H1 fun x H2 => ∃ d o, x = .ref d ∧ NGet P w K H2 d y o ∧ Q (.bl o.isSome) H2
def tNNotIn (P : Program) (w : World) (K : PySem.W.Frag) (ty td : TE) : TE := fun σ H Q => ty σ H fun y H1 => td σ H1 fun x H2 => ∃ d o, x = .ref d ∧ NGet P w K H2 d y o ∧ Q (.bl (!o.isSome)) H2
def sNPut (P : Program) (w : World) (K : PySem.W.Frag) (td ty tv : TE) : TS := fun D σ H => tv σ H fun v H1 => td σ H1 fun x H2 => ty σ H2 fun y H3 => ∃ d H4, x = .ref d ∧ NPut P w K H3 d y v H4 ∧ D.nx σ H4
def sNAug (P : Program) (w : World) (K : PySem.W.Frag) (td ty tv : TE) (rd : V → V → Hp → VK → Prop) : TS := fun D σ H => td σ H fun x H1 => ty σ H1 fun y H2 => ∃ d v, x = .ref d ∧ NGet P w K H2 d y (some v) ∧
  tv σ H2 fun z H3 => rd v z H3 fun u H4 => ∃ H5, NPut P w K H4 d y u H5 ∧ D.nx σ H5
def tNNew (P : Program) (w : World) : TE := fun _ H Q => ∀ p, H p = none → (p == sysModules) = false → Q (.ref p) (upd H p (DnO P w p []))
theorem dn_empty {P : Program} {w : World} {K : PySem.W.Frag} {H : Hp} {p : Addr} (h : (p == sysModules) = false) : DnAt P w K (upd H p (DnO P w p [])) p [] := ⟨upd_same, (fun _ z => nomatch z), List.nodup_nil, Nat.zero_le _, h⟩
section
variable {X : Cx} {o i e f value : Expr} {pos pos' tpos apos cpos : Pos} {td ty tv tx : TE}
theorem pe_nget (hu : X.A.units + 64 < cLine) (ho : PE X o td) (hi : PE X i ty) (hs : NoSl i) : PE X (.Subscript o i pos) (tNGet X.prog X.w X.K td ty) := by
  refine ⟨fun pins s σ H Q I h => ?_⟩
  refine subD_of PySem.F.slot_dict_getitem.lookup hs (thn (ho.run pins s σ H _ I h) fun u s1 hx => ?_)
  obtain ⟨x, H1, I1, rx, q1⟩ := hx
  refine thn (hi.run pins s1 σ H1 _ I1 q1) fun iv s2 hy => ?_
  obtain ⟨y, H2, I2, ry, d, v, rfl, g, q2⟩ := hy
  cases (show u = Value.ref d from rx)
  exact ⟨n_typeIs I2 g, n_getItem hu I2 g ry fun w' s3 I3 rw' => ⟨v, H2, I3, rw', q2⟩⟩
theorem pc_nin (hu : X.A.units + 64 < cLine) (hi : PE X i ty) (ho : PE X o td) : PC X .In i o (tNIn X.prog X.w X.K ty td) := by
  refine ⟨fun pins s σ H Q I h => thn (hi.run pins s σ H _ I h) fun iv s1 hy => ?_⟩
  obtain ⟨y, H1, I1, ry, q1⟩ := hy
  refine thn (ho.run pins s1 σ H1 _ I1 q1) fun u s2 hx => ?_
  obtain ⟨x, H2, I2, rx, d, ov, rfl, g, q2⟩ := hx
  cases (show u = Value.ref d from rx)
  exact n_in hu I2 g ry fun s3 I3 => ⟨.bl _, H2, I3, rfl, q2⟩
theorem pc_nnotin (hu : X.A.units + 64 < cLine) (hi : PE X i ty) (ho : PE X o td) : PC X .NotIn i o (tNNotIn X.prog X.w X.K ty td) := by
  refine ⟨fun pins s σ H Q I h => thn (hi.run pins s σ H _ I h) fun iv s1 hy => ?_⟩
  obtain ⟨y, H1, I1, ry, q1⟩ := hy
  refine thn (ho.run pins s1 σ H1 _ I1 q1) fun u s2 hx => ?_
  obtain ⟨x, H2, I2, rx, d, ov, rfl, g, q2⟩ := hx
  cases (show u = Value.ref d from rx)
  exact n_notIn hu I2 g ry fun s3 I3 => ⟨.bl _, H2, I3, rfl, q2⟩
theorem ps_nput (hu : X.A.units + 64 < cLine) (ho : PE X o td) (hi : PE X i ty) (hv : PE X value tv) (hs : swapsWith value (some (.Subscript o i pos')) pos.line X.env = pure false) :
    PS X (.Assign [.Subscript o i pos'] value pos) (sNPut X.prog X.w X.K td ty tv) := by
  refine ⟨fun pins s σ H D I h => wpAny_Assign_Subscript (thn (hv.run pins s σ H _ I h) fun r s1 hv1 => ?_) hs⟩
  obtain ⟨v, H1, I1, rv, q1⟩ := hv1
  refine thn (ho.run pins s1 σ H1 _ I1 q1) fun u s2 hx => ?_
  obtain ⟨x, H2, I2, rx, q2⟩ := hx
  refine thn (hi.run pins s2 σ H2 _ I2 q2) fun iv s3 hy => ?_
  obtain ⟨y, H3, I3, ry, d, H4, rfl, g, q3⟩ := hy
  cases (show u = Value.ref d from rx)
  exact n_setItem hu I3 g ry rv fun s4 I4 => ⟨σ, H4, I4, q3⟩
theorem ps_naug {op : Operator} {rd : V → V → Hp → VK → Prop} (hu : X.A.units + 64 < cLine) (ho : PE X o td) (hi : PE X i ty) (hv : PE X value tv) (hop : InOp X op rd)
    (ha : ∀ ov iv new, augStore i ov iv new = (do holding [new, ov, iv] (setItem ov iv new); release [new, ov, iv] []; pure .next)) : PS X (.AugAssign (.Subscript o i tpos) op value pos) (sNAug X.prog X.w X.K td ty tv rd) := by
  refine ⟨fun pins s σ H D I h => wpAny_AugAssign_SubscriptAny (thn (ho.run pins s σ H _ I h) fun u s1 hx => ?_) ha⟩
  obtain ⟨x, H1, I1, rx, q1⟩ := hx
  refine thn (hi.run pins s1 σ H1 _ I1 q1) fun iv s2 hy => ?_
  obtain ⟨y, H2, I2, ry, d, v, rfl, g, q2⟩ := hy
  cases (show u = Value.ref d from rx)
  refine n_getItem hu I2 g ry fun w' s3 I3 rw' => thn (hv.run pins s3 σ H2 _ I3 q2) fun w2 s4 hz => ?_
  obtain ⟨z, H3, I4, rz, q3⟩ := hz
  refine thn (hop pins s4 σ H3 v z w' w2 _ I4 rw' rz q3) fun w3 s5 hn => ?_
  obtain ⟨n, H4, I5, rn, H5, g5, q4⟩ := hn
  exact n_setItem hu I5 g5 ry rn fun s6 I6 => ⟨σ, H5, I6, q4⟩
theorem pe_nnew : PE X (.Dict [] [] pos) (tNNew X.prog X.w) := by
  refine ⟨fun pins s σ H Q I h => wpAny_Dict_empty ?_⟩
  have ns : (s.heap.objs.size == sysModules) = false := beq_eq_false_iff_ne.mpr (Ne.symm (Nat.ne_of_lt I.big))
  refine ⟨.ref s.heap.objs.size, _, I.laid (a := s.heap.objs.size) (o := DnO X.prog X.w s.heap.objs.size []) (t' := s.toks) (fun _ _ q => Heap.get?_push_of_some _ q) (Nat.le_refl _) (dnO_ok ?_), rfl, h _ (I.hok.fresh (Nat.le_refl _)) ns⟩
  exact ⟨[], _, #[], 0, .nil, Heap.get?_push_size _ rfl, ⟨rfl, rfl, rfl⟩, rfl, rfl⟩
end
section
variable {X : Cx} {pins : List (Addr × Obj)} {σ : L2.St} {H : Hp} {s : Shared} {d : Addr} {rows : List Row} {A : Around} {E : Value → Shared → Prop} {y v : V} {u r : Value} {o : Option V}
theorem DnAt.plain (D : DnAt X.prog X.w X.K H d rows) (I : Inv X pins σ H s) : s.TypeIs (.ref d) "dict" ∧ (∀ b, Value.ref d = .ref b → ∃ ob, s.heap.get? b = some ob ∧ ob.dict = none) := by
  obtain ⟨xs, _, dd⟩ := D.rd I
  refine ⟨dd.typeIs, fun b q => ?_⟩
  cases q
  obtain ⟨ob, _, _, h1, h2, _⟩ := dd
  exact ⟨ob, h1, h2.2.1⟩
theorem n_get1 {Q : Value → Shared → Prop} (hu : A.units + 64 < cLine) (I : Inv X pins σ H s) (g : NGet X.prog X.w X.K H d y o) (ry : RelV y u) (h : ∀ w' s', Inv X pins σ H s' → RelV (o.getD .non) w' → Q w' s') :
    wpAny (model X.prog X.w) A (call (.builtin "dict.get") [.ref d, u]) Q E s := by
  obtain ⟨rows, k, b, D, rfl, hk, dp, l⟩ := g
  cases (show u = Value.ref b from ry)
  obtain ⟨xs, rel, dd⟩ := D.rd I
  refine call_meetsIn PySem.F.slot_dict_get dd.typeIs PySem.F.entry_dict_get (PySem.F.args_dict_get_2 _ _) (meetsH_dict_get (nestedKind X.prog X.w) d b D.nm) ⟨room_n hu, k, xs, ⟨hk.is I _ rfl, dp⟩, dd, h _ _ (I.tok _) ?_⟩
  rw [l]
  exact (rowR_val rel k).getD rfl
theorem n_get2 {z : V} {Q : Value → Shared → Prop} (hu : A.units + 64 < cLine) (I : Inv X pins σ H s) (g : NGet X.prog X.w X.K H d y o) (ry : RelV y u) (rz : RelV z r) (h : ∀ w' s', Inv X pins σ H s' → RelV (o.getD z) w' → Q w' s') :
    wpAny (model X.prog X.w) A (call (.builtin "dict.get") [.ref d, u, r]) Q E s := by
  obtain ⟨rows, k, b, D, rfl, hk, dp, l⟩ := g
  cases (show u = Value.ref b from ry)
  obtain ⟨xs, rel, dd⟩ := D.rd I
  refine call_meetsIn PySem.F.slot_dict_get dd.typeIs PySem.F.entry_dict_get (PySem.F.args_dict_get_3 _ _ _) (meetsH_dict_get_default (nestedKind X.prog X.w) d b D.nm r) ⟨room_n hu, k, xs, ⟨hk.is I _ rfl, dp⟩, dd, h _ _ (I.tok _) ?_⟩
  rw [l]
  exact (rowR_val rel k).getD rz
/-- d.setdefault(y, v) -/
theorem n_setdefault {Q : Value → Shared → Prop} {k : NestedKey} {b : Addr} (hu : A.units + 64 < cLine) (I : Inv X pins σ H s) (D : DnAt X.prog X.w X.K H d rows) (hk : KeyAt X.K H (.ref b) k) (dp : k.depth ≤ 8) (hl : rows.length < sizeLine) (rv : RelV v r)
    (h1 : ∀ z w' s', valR rows k = some z → Inv X pins σ H s' → RelV z w' → Q w' s') (h2 : ∀ s', valR rows k = none → Inv X pins σ (upd H d (DnO X.prog X.w d (putR rows k b v))) s' → Q r s') :
    wpAny (model X.prog X.w) A (call (.builtin "dict.setdefault") [.ref d, .ref b, r]) Q E s := by
  obtain ⟨xs, rel, dd⟩ := D.rd I
  have hz : xs.length ≤ sizeLine := by rw [← Paired.length rel]; exact D.len
  have rk := rowR_val rel k
  refine call_meetsIn PySem.F.slot_dict_setdefault dd.typeIs PySem.F.entry_dict_setdefault (PySem.F.args_dict_setdefault_3 _ _ _) (meetsH_dict_setdefault (nestedKind X.prog X.w) d b D.nm r) ⟨room_n hu, k, xs, ⟨hk.is I _ rfl, dp⟩, dd, hz, fun p hp => ?_, fun hn h' dd' hs => ?_⟩
  · rw [hp] at rk
    cases e : valR rows k with
    | none => rw [e] at rk; exact rk.elim
    | some z =>
      rw [e] at rk
      exact h1 z _ _ e (I.tok _) rk
  · have e : valR rows k = none := by
      rw [hn] at rk
      cases e : valR rows k with
      | none => rfl
      | some z => rw [e] at rk; exact rk.elim
    obtain ⟨q, es, ep, hq, x2, x3, x4, _, _⟩ := dd'
    exact h2 _ e (d_write I (by rw [D.at_]; exact dnO_mut) hs ⟨q, hq⟩ (dnO_ok ⟨_, q, es, ep, rowR_put rel k b rv, hq, x2, x3, x4⟩))
end
end Own
/-! Walks over such a dict: its keys, its items; list(d), len(d), if d. -/
namespace Own
open PySem PySem.Spec PyProof.Rows L2
section
variable {X : Cx} {pins : List (Addr × Obj)} {σ : L2.St} {H : Hp} {s : Shared} {d : Addr} {o : Obj} {rows : List Row}
theorem frzN (I : Inv X pins σ H s) (h : H d = some (.frz o (DnO X.prog X.w d rows))) : s.heap.get? d = some o ∧ o.ExactDict ∧ ∃ (es : Array DictEntry) (ep : Nat), o.data = .dict es ep ∧ es.size = rows.length ∧
    ∀ (i : Nat) (p : Row), rows[i]? = some p → ∃ en : DictEntry, es[i]? = some en ∧ en.key = .ref p.2.1 ∧ RelV p.2.2 en.val := by
  obtain ⟨hd, z, _, _⟩ := I.hok d _ h
  obtain ⟨xs, o', es, ep, r, ho, hx, hdt, he⟩ := z
  rw [hd] at ho
  cases ho
  refine ⟨hd, hx, es, ep, hdt, ?_, fun i p e => ?_⟩
  · have l1 := size_of_entries he
    have l2 := Paired.length r
    omega
  · obtain ⟨b, hb, e1, e2, e3⟩ := paired_get r e
    have q := entry_at he i
    rw [hb] at q
    exact ⟨_, q, by show Value.ref b.2.1 = _; rw [e2], e3⟩
end
def ItN (P : Program) (w : World) (d : Addr) (o : Obj) (rows : List Row) : It :=
  ⟨fun i H => H d = some (.frz o (DnO P w d rows)) ∧ i < rows.length, fun i H x H' => H' = H ∧ ∃ p, rows[i]? = some p ∧ x = .ref p.2.1, fun i H => H d = some (.frz o (DnO P w d rows)) ∧ rows.length ≤ i⟩
def ItM (P : Program) (w : World) (d : Addr) (o : Obj) (rows : List Row) : It :=
  ⟨fun i H => H d = some (.frz o (DnO P w d rows)) ∧ i < rows.length, fun i H x H' => ∃ T p, rows[i]? = some p ∧ x = .ref T ∧ H T = none ∧ H' = upd H T (.tup [.ref p.2.1, p.2.2]), fun i H => H d = some (.frz o (DnO P w d rows)) ∧ rows.length ≤ i⟩
section
variable {P : Program} {w : World} {K : PySem.W.Frag} {tg : Expr} {d : Addr} {o : Obj} {es : Array DictEntry} {ep : Nat} {rows : List Row}
theorem turn_n (it : Addr) (hod : o.data = .dict es ep) : Turn P w K tg (ItN P w d o rows) [it] it (fun i h => h.IsKeyIter it d i rows.length ep) where
  mem := List.mem_cons_self
  obj := fun i h st b hb => by
    rw [List.mem_singleton.mp hb]
    obtain ⟨oi, e, _, dd⟩ := st
    exact ⟨oi, e, fun v z => by rw [dd] at z; cases z⟩
  keep := fun i h h' st k => st.at fun oi e => k it List.mem_cons_self oi e
  item := by
    intro X hP hw hK hc i pins s σ H E I hf st hg
    subst hP hw hK
    obtain ⟨f0, f1, f2, f3, f4, f5⟩ := hf it List.mem_cons_self
    obtain ⟨hgd, _, es', ep', hdt, hsz, ent⟩ := frzN I hg.1
    obtain ⟨rfl, rfl⟩ := dict_ep hod hdt
    obtain ⟨p, hp⟩ : ∃ p, rows[i]? = some p := ⟨_, List.getElem?_eq_getElem hg.2⟩
    obtain ⟨en, hen, hkey, _⟩ := ent i _ hp
    refine next_key_item st hgd hdt hsz hen fun h' st' sb => ?_
    have I1 : Inv X pins σ H { s with heap := h' } := I.turned (t' := s.toks) (fun b ob hb e => (sb.2 b hb).trans e) f0 f1 f3 f4 f5
    obtain ⟨oi, e, c, dd⟩ := id st'
    exact ⟨en.key, rfl, go_of (s := { s with heap := h' }) e c dd (by decide) ⟨.ref _, H, I1, hkey, ⟨rfl, _, hp, rfl⟩, st', fun b hb => (hf b hb).1⟩⟩
  done := by
    intro X hP hw hK hc i pins s σ H E I hf st hg
    subst hP hw hK
    obtain ⟨f0, f1, f2, f3, f4, f5⟩ := hf it List.mem_cons_self
    obtain ⟨hgd, _, es', ep', hdt, hsz, ent⟩ := frzN I hg.1
    obtain ⟨rfl, rfl⟩ := dict_ep hod hdt
    exact next_key_end (I.ok.hd hc) st hgd hdt hsz hg.2 fun h' eb => ⟨rfl, I.turned (t' := s.toks) (fun b ob hb e => eb b ob hb e) f0 f1 f3 f4 f5⟩
  self := fun A i s Q E st h => by
    refine wpAny_pyIter_slot st.typeIs PySem.F.slot_dict_keyiterator_iter (wpAny_call_entry PySem.F.slot_dict_keyiterator_iter st.typeIs PySem.F.entry_dict_keyiterator_iter ?_ (PySem.F.args_dict_keyiterator_iter_1 _))
    exact wpAny_pure ⟨_, rfl, "dict_keyiterator", _, st.typeIs, PySem.F.slot_dict_keyiterator_next.lookup, h⟩
theorem turn_m {elts : List Expr} {kk : Nat} {tpos : Pos} (it : Addr) (hod : o.data = .dict es ep) : Turn P w K (.Tuple elts kk tpos) (ItM P w d o rows) [it] it (fun i h => ∃ ok ov, IsItemIter h it d i rows.length ep ok ov) where
  mem := List.mem_cons_self
  obj := fun i h st b hb => by
    rw [List.mem_singleton.mp hb]
    obtain ⟨ok, ov, e⟩ := st
    exact ⟨_, e, fun v z => nomatch z⟩
  keep := fun i h h' st k => by
    obtain ⟨ok, ov, e⟩ := st
    exact ⟨ok, ov, k it List.mem_cons_self _ e⟩
  item := by
    intro X hP hw hK hc i pins s σ H E I hf st hg
    subst hP hw hK
    obtain ⟨hgd, hx, es', ep', hdt, hsz, ent⟩ := frzN I hg.1
    obtain ⟨rfl, rfl⟩ := dict_ep hod hdt
    obtain ⟨p, hp⟩ : ∃ p, rows[i]? = some p := ⟨_, List.getElem?_eq_getElem hg.2⟩
    obtain ⟨en, hen, hkey, hval⟩ := ent i _ hp
    obtain ⟨hil, hie⟩ := Array.getElem?_eq_some_iff.mp hen
    obtain ⟨ok, ov, he⟩ := st
    rw [← hsz] at he
    have hlt : it < s.heap.objs.size := Heap.lt_size he
    refine wpAny_pyNext_items_item_raw he ⟨o, hgd, hx, hdt⟩ hil fun h' ho hT hz hk => ?_
    refine ⟨_, rfl, wpAny_letOwnedTupleGo_items (s := { s with heap := h' }) ho fun h'' he' sb => ?_⟩
    have hT2 := (sb.2 _ (Nat.ne_of_gt hlt)).trans hT
    rw [hie, hkey] at hT2
    have new : ObjOk X.prog X.w (upd H s.heap.objs.size (.tup [.ref p.2.1, p.2.2])) h'' s.heap.objs.size (.tup [.ref p.2.1, p.2.2]) :=
      ⟨by show 2 ≤ sizeLine; decide, _, .cons rfl (.cons hval .nil), ⟨_, hT2, rfl, _, rfl⟩⟩
    have I1 : Inv X pins σ (upd H s.heap.objs.size (.tup [.ref p.2.1, p.2.2])) { s with heap := h'' } :=
      I.turnedNew (t' := s.toks) (ch := [it]) (fun b ob hb e => (sb.2 b (by simpa using hb)).trans (hk b ob (by simpa using hb) e)) hf (Nat.le_refl _) new
    refine ⟨.ref s.heap.objs.size, _, I1, rfl, ⟨_, _, hp, rfl, I.hok.fresh (Nat.le_refl _), rfl⟩, ⟨en.key, en.val, ?_⟩, fun b hb => ?_⟩
    · rw [← hsz, ← hie]
      exact he'
    · rw [List.mem_singleton.mp hb, upd_ne (Nat.ne_of_lt hlt)]
      exact (hf it List.mem_cons_self).1
  done := by
    intro X hP hw hK hc i pins s σ H E I hf st hg
    subst hP hw hK
    obtain ⟨f0, f1, f2, f3, f4, f5⟩ := hf it List.mem_cons_self
    obtain ⟨hgd, hx, es', ep', hdt, hsz, ent⟩ := frzN I hg.1
    obtain ⟨rfl, rfl⟩ := dict_ep hod hdt
    obtain ⟨ok, ov, he⟩ := st
    rw [← hsz] at he
    exact wpAny_pyNext_items_end_raw (I.ok.hd hc) he ⟨o, hgd, hx, hdt⟩ (by rw [hsz]; exact hg.2) fun h' eb => ⟨rfl, I.turned (t' := s.toks) (fun b ob hb e => eb b ob hb e) f0 f1 f3 f4 f5⟩
  self := fun A i s Q E st h => by
    obtain ⟨_, _, e⟩ := st
    exact wpAny_pyIter_itemiter e h
end
def iN (P : Program) (w : World) (td : TE) : TI := fun σ H R => td σ H fun x H1 => ∃ d o rows, x = .ref d ∧ (d == sysModules) = false ∧ H1 d = some (.frz o (DnO P w d rows)) ∧ R (ItN P w d o rows) H1
def iM (P : Program) (w : World) (td : TE) : TI := fun σ H R => td σ H fun x H1 => ∃ d o rows, x = .ref d ∧ (d == sysModules) = false ∧ H1 d = some (.frz o (DnO P w d rows)) ∧ R (ItM P w d o rows) H1
section
variable {X : Cx} {tg e : Expr} {td : TE} {apos cpos : Pos}
/-- for k in d -/
theorem pi_nkeys (he : PE X e td) : PI X tg e (iN X.prog X.w td) := by
  refine ⟨fun pins s σ H R I h => thn (he.run pins s σ H _ I h) fun u s1 hx => ?_⟩
  obtain ⟨x, H1, I1, rx, d, o, rows, rfl, nm, hd, q⟩ := hx
  cases (show u = Value.ref d from rx)
  obtain ⟨hgd, hex, es, ep, hdt, hsz, ent⟩ := frzN I1 hd
  refine iter_keys nm hgd hex hdt (pi_one (tk := s1.toks) I1 _ (turn_n _ hdt) ⟨_, Heap.get?_push_size _ rfl, rfl, ?_⟩ q)
  rw [hsz] <;> rfl
/-- for k, v in d.items() -/
theorem pi_nitems {elts : List Expr} {kk : Nat} {tpos : Pos} (he : PE X e td) (hbase : attributeBase e "items" X.env (eval e X.env) = eval e X.env := by rfl) (hline : (apos.endLine == cpos.line) = true := by rfl) :
    PI X (.Tuple elts kk tpos) (.Call (.Attribute e "items" apos) [] [] cpos) (iM X.prog X.w td) := by
  refine ⟨fun pins s σ H R I h => wpAny_Call_method (T := "dict") (id := "dict.items") hbase rfl hline PySem.F.plainAttrs_dict PySem.F.slot_dict_items PySem.F.type_dict_items (thn (he.run pins s σ H _ I h) fun u s1 hx => ?_)⟩
  obtain ⟨x, H1, I1, rx, d, o, rows, rfl, nm, hd, q⟩ := hx
  cases (show u = Value.ref d from rx)
  obtain ⟨hgd, hex, es, ep, hdt, hsz, ent⟩ := frzN I1 hd
  have raw : s1.heap.DictRaw d es ep := ⟨o, hgd, hex, hdt⟩
  refine ⟨raw.typeIs, fun b z => by cases z; exact ⟨o, hgd, hex.2.1⟩, ?_⟩
  have I2 : Inv X pins σ H1 { s1 with heap := s1.heap.push { cls := .type "dict_items", data := .fields #[.ref d] } } := I1.kept (t' := s1.toks) fun b ob q => Heap.get?_push_of_some _ q
  have fin : wpAny (model X.prog X.w) X.A (pyIter (.ref s1.heap.objs.size)) (PIE X pins σ (.Tuple elts kk tpos) R) X.xe { s1 with heap := s1.heap.push { cls := .type "dict_items", data := .fields #[.ref d] } } := by
    refine wpAny_pyIter_items_raw (d := d) ⟨_, Heap.get?_push_size _ rfl, rfl, rfl⟩ (raw.at fun ob e => Heap.get?_push_of_some _ e) (pi_one (tk := s1.toks) I2 _ (turn_m _ hdt) ⟨.none, .none, ?_⟩ q)
    rw [← hsz]
    exact Heap.get?_push_size _ rfl
  exact method_meetsIn PySem.F.slot_dict_items PySem.F.entry_dict_items rfl (PySem.evalArgs_none ⟨rfl, raw.typeIs, PySem.F.args_dict_items_1 _, _, meets_dict_items_raw d nm, ⟨es, ep, raw⟩, fin⟩)
end
section
variable {X : Cx}
/-- list(d): the keys -/
theorem call_listN (hc : X.calm = true) : CallR X (.type "list") (fun xs H Q => ∃ d rows, xs = [V.ref d] ∧ DnAt X.prog X.w X.K H d rows ∧ ∀ p, H p = none → Q (.ref p) (upd H p (.lst (rows.map fun r => V.ref r.2.1)))) := by
  intro pins s σ H xs us Q I r h
  obtain ⟨d, rows, rfl, D, q⟩ := h
  obtain ⟨u, rfl, rx⟩ := r.one
  cases rx
  obtain ⟨ks, o, es, ep, pr, ho, hx, hdt, he⟩ := (I.hok _ _ D.at_).1
  have l1 : es.size = ks.length := size_of_entries he
  have l2 : rows.length = ks.length := Paired.length pr
  have dl := D.len
  refine PySem.W.kdl_call (kdl_raw D.nm hx hdt) (I.ok.hd hc) ho (by omega) fun h' tk acc' c' kp e it => ?_
  have ea : Vals (rows.map fun r => V.ref r.2.1) acc'.toList := by
    have hl : acc'.toList.length = rows.length := by rw [Array.length_toList, it.1]; omega
    have e2 : acc'.toList = rows.map fun r => Value.ref r.2.1 := by
      apply List.ext_getElem?
      intro j
      rw [List.getElem?_map]
      cases hj : acc'.toList[j]? with
      | none =>
        have h1 := List.getElem?_eq_none_iff.mp hj
        rw [List.getElem?_eq_none (by omega)]
        rfl
      | some v =>
        obtain ⟨en, hen, hv⟩ := it.2 j v (by rw [← Array.getElem?_toList]; exact hj)
        have hlt := (List.getElem?_eq_some_iff.mp hj).1
        have hp : rows[j]? = some (rows[j]'(by omega)) := List.getElem?_eq_getElem (by omega)
        obtain ⟨b, hb, e1, e3, _⟩ := paired_get pr hp
        have qe := entry_at he j
        rw [hen, hb] at qe
        rw [hp, hv, Option.some.inj qe]
        show some (Value.ref b.2.1) = some (Value.ref _)
        rw [e3]
    rw [e2]
    clear e2 hl it e kp he l1 l2 dl D pr q
    induction rows with
    | nil => exact .nil
    | cons p t ih => exact .cons rfl ih
  refine ⟨.ref s.heap.objs.size, _, I.laid (t' := tk) (o := .lst (rows.map fun r => V.ref r.2.1)) kp (Nat.le_refl _) ?_, rfl, q _ (I.hok.fresh (Nat.le_refl _))⟩
  exact ⟨by rw [List.length_map]; exact dl, acc'.toList, c', ea, by rw [Array.toArray_toList]; exact e⟩
/-- len(d) -/
theorem call_lenN : CallR X (.builtin "len") (fun xs H Q => ∃ d rows, xs = [V.ref d] ∧ DnAt X.prog X.w X.K H d rows ∧ Q (.int (rows.length : Nat)) H) := by
  intro pins s σ H xs us Q I r h
  obtain ⟨d, rows, rfl, D, q⟩ := h
  obtain ⟨u, rfl, rx⟩ := r.one
  cases rx
  obtain ⟨ks, rel, dd⟩ := D.rd I
  have l2 : rows.length = ks.length := Paired.length rel
  have dl := D.len
  rw [sizeLine_eq] at dl
  have hm : s.heap.DictKeyed (nestedKind X.prog X.w) d (pairsH ks) := ⟨ks, dd, rfl⟩
  refine PyProof.Rows.call_len_slot (n := (pairsH ks).length) hm.typeIs PySem.F.slot_dict_len (fun Q' hq => len_keyed D.nm hm hq) (by rw [pairsH_length]; omega) (by rw [pairsH_length]; omega) ?_
  refine ⟨.int (rows.length : Nat), H, I.tok _, ⟨s.toks + 1, ?_⟩, q⟩
  rw [pairsH_length, ← l2]
end
end Own
/-! {k: v for ..} with tuples of any depth as keys. -/
namespace Own
open PySem PySem.Spec PyProof.Rows L2
/-- a comprehension's store -/
theorem n_dictSet {X : Cx} {pins : List (Addr × Obj)} {σ : L2.St} {H H' : Hp} {s : Shared} {E : Value → Shared → Prop} {D : Addr} {y v : V} {u r : Value} {Q : Unit → Shared → Prop} (hu : X.A.units + 64 < cLine) (I : Inv X pins σ H s) (g : NPut X.prog X.w X.K H D y v H')
    (ry : RelV y u) (rv : RelV v r) (h : ∀ s', Inv X pins σ H' s' → Q () s') : wpAny (model X.prog X.w) X.A (dictSet D u r) Q E s := by
  obtain ⟨rows, k, b, Dn, rfl, hk, dp, hl, rfl⟩ := g
  cases (show u = Value.ref b from ry)
  obtain ⟨xs, rel, dd⟩ := Dn.rd I
  have hz : xs.length ≤ sizeLine := by rw [← Paired.length rel]; exact Dn.len
  refine wpAny_dictSet_heap (hsz := hz) (knd := nestedKind X.prog X.w) (k := k) (by show X.A.units + 8 < cLine; omega) ⟨hk.is I _ rfl, dp⟩ dd fun h' dd' hs => h _ ?_
  obtain ⟨q, es, ep, hq, h2, h3, h4, _, _⟩ := dd'
  exact d_write I (by rw [Dn.at_]; exact dnO_mut) hs ⟨q, hq⟩ (dnO_ok ⟨_, q, es, ep, rowR_put rel k b rv, hq, h2, h3, h4⟩)
/-- one turn of the block, by its readings -/
def TurnN (P : Program) (w : World) (K : PySem.W.Frag) (g : TG) (tt : TT) (tk tv : TE) (vs : List Nat) (σ : L2.St) (D : Addr) (Nx : Hp → Prop) (x : V) (H' : Hp) : Prop :=
  g x (wipe σ vs) H' fun σ2 H2 => wipe σ2 vs = wipe σ vs ∧ tt σ2 H2 fun b H3 => if b = true then tk σ2 H3 fun y H4 => tv σ2 H4 fun z H5 => ∃ H6, NPut P w K H5 D y z H6 ∧ Nx H6 else Nx H3
def tNc (P : Program) (w : World) (K : PySem.W.Frag) (wi : TI) (g : TG) (tt : TT) (tk tv : TE) (vs : List Nat) : TE := fun σ H Q => wi σ H fun J H1 => ∀ D, H1 D = none → (D == sysModules) = false → ∃ W : Nat → Nat → Hp → Prop, (∃ m, W 0 m (upd H1 D (DnO P w D []))) ∧ ∀ i m H, W i m H →
  (J.stop i H ∧ Q (.ref D) H) ∨ (J.go i H ∧ ∃ Nx : Hp → Prop, (∀ H', Nx H' → ∃ m', m' < m ∧ W (i + 1) m' H') ∧ ∀ x H', J.yld i H x H' → TurnN P w K g tt tk tv vs σ D Nx x H')
section
variable {X : Cx}
theorem pe_nc {kx vx tg iter : Expr} {ifs : List Expr} {scope : Scope} {own : List (Str × Nat)} {pos : Pos} {wi : TI} {g : TG} {tt : TT} {tk tv : TE} (hu : X.A.units + 64 < cLine) (hc : X.calm = true) (hN : X.N.Nodup) (hi : PI X tg iter wi) (ok : BlkOk X.N X.env.scope scope own)
    (hg : ∀ (s : Shared) (H : Hp) (C : Addr) (cl : List (Str × Addr)) (fp : List Addr), PG (X.blk s H scope (compEnvC scope cl C X.env) fp) tg g) (ht : ∀ (s : Shared) (H : Hp) (C : Addr) (cl : List (Str × Addr)) (fp : List Addr), PTs (X.blk s H scope (compEnvC scope cl C X.env) fp) ifs tt)
    (hk : ∀ (s : Shared) (H : Hp) (C : Addr) (cl : List (Str × Addr)) (fp : List Addr), PE (X.blk s H scope (compEnvC scope cl C X.env) fp) kx tk)
    (he : ∀ (s : Shared) (H : Hp) (C : Addr) (cl : List (Str × Addr)) (fp : List Addr), PE (X.blk s H scope (compEnvC scope cl C X.env) fp) vx tv) (hs : ∀ x, foldedSetIterable iter X.env x = pure x := by intro _; rfl) :
    PE X (.DictComp kx vx [⟨tg, iter, ifs, 0⟩] scope pos) (tNc X.prog X.w X.K wi g tt tk tv (own.map (·.2))) := by
  refine ⟨fun pins s σ H Q I h => ?_⟩
  rw [arm_eval_DictComp]
  have closed : ∀ y ∈ scope.names, y.2 = .free → ∃ c, X.env.cells.lookup y.1 = some c := fun y hy e => (ok.free y hy e).elim (fun z => I.ok.has _ (.inl z)) fun z => I.ok.has _ (.inr z)
  refine wpAny_comprehension_free (use := none) rfl hs (closure_ok closed) ok.kind (fun y hy e => by rw [ok.uniq y hy, e]) (thn (hi.run pins s σ H _ I h) fun xv s1 hx => thn hx fun itv s2 h2 => ?_)
  obtain ⟨it, fp, tn, J, H2, rfl, I2, T, st2, f2, q⟩ := h2
  refine wpAny_newObj_type (newEnv_comp ?_)
  generalize hD : s2.heap.objs.size = D
  have nm : (D == sysModules) = false := beq_eq_false_iff_ne.mpr (Ne.symm (Nat.ne_of_lt (by rw [← hD]; exact I2.big)))
  obtain ⟨W, ⟨m0, w0⟩, turn⟩ := q D (I2.hok.fresh (Nat.le_of_eq hD)) nm
  have old : ∀ b o, s2.heap.get? b = some o → (s2.heap.push { cls := .type "dict", data := .dict #[] }).get? b = some o := fun b o e => Heap.get?_push_of_some _ e
  have laid : Inv X pins σ (upd H2 D (DnO X.prog X.w D [])) { s2 with heap := s2.heap.push { cls := .type "dict", data := .dict #[] } } := by
    refine I2.laid (t' := s2.toks) old (Nat.le_of_eq hD) (dnO_ok ⟨[], { cls := .type "dict", data := .dict #[] }, #[], 0, .nil, ?_, ⟨rfl, rfl, rfl⟩, rfl, rfl⟩)
    rw [← hD]
    exact Heap.get?_push_size _ rfl
  generalize e3 : ({ s2 with heap := s2.heap.push { cls := .type "dict", data := .dict #[] } } : Shared) = s3 at laid ⊢
  have h3 : s3.heap = s2.heap.push { cls := .type "dict", data := .dict #[] } := by rw [← e3]
  have below : ∀ b ∈ fp, b < s2.heap.objs.size := fun b hb => by
    obtain ⟨o, e, _⟩ := T.obj _ _ st2 b hb
    exact Heap.lt_size e
  have fpo : ∀ b ∈ fp, FpOk X pins (upd H2 D (DnO X.prog X.w D [])) b ∧ b < s3.heap.objs.size := fun b hb => by
    have hlt := below b hb
    refine ⟨⟨?_, (f2 b hb).2⟩, by rw [h3, Heap.size_push]; exact Nat.lt_succ_of_lt hlt⟩
    rw [upd_ne (Nat.ne_of_lt (by rw [← hD]; exact hlt))]
    exact (f2 b hb).1
  have st3 : tn 0 s3.heap := T.keep _ _ _ st2 fun b _ o e => by rw [h3]; exact old b o e
  have I4 := block_start laid ok hN fpo
  generalize eH : upd H2 D (DnO X.prog X.w D []) = H3 at laid I4 w0 fpo
  have pg := hg s3 H3 s3.heap.objs.size (cellsFrom (s3.heap.objs.size + 1) scope.names (cloFrom X.env.cells scope.names [])) fp
  have pt := ht s3 H3 s3.heap.objs.size (cellsFrom (s3.heap.objs.size + 1) scope.names (cloFrom X.env.cells scope.names [])) fp
  have pk := hk s3 H3 s3.heap.objs.size (cellsFrom (s3.heap.objs.size + 1) scope.names (cloFrom X.env.cells scope.names [])) fp
  have pv := he s3 H3 s3.heap.objs.size (cellsFrom (s3.heap.objs.size + 1) scope.names (cloFrom X.env.cells scope.names [])) fp
  show codeAny _ _ (.compStart (.DictComp kx vx [⟨tg, iter, ifs, 0⟩] scope pos) 0 (.ref it) (.ref D) (compEnvC scope (cellsFrom (s3.heap.objs.size + 1) scope.names (cloFrom X.env.cells scope.names [])) s3.heap.objs.size X.env)) _ { s3 with heap := pushCells (s3.heap.push { cls := .type "dict", data := .dict #[] }) scope.names }
  generalize ece : compEnvC scope (cellsFrom (s3.heap.objs.size + 1) scope.names (cloFrom X.env.cells scope.names [])) s3.heap.objs.size X.env = ce at I4 pg pt pk pv ⊢
  have cL : ce.locals = s3.heap.objs.size := by rw [← ece]; rfl
  generalize e4 : ({ s3 with heap := pushCells (s3.heap.push { cls := .type "dict", data := .dict #[] }) scope.names } : Shared) = s4 at I4 ⊢
  have st4 : tn 0 s4.heap := T.keep _ _ _ st3 fun b _ o e => by rw [← e4]; exact pushCells_keeps _ _ _ _ (Heap.get?_push_of_some _ e)
  -- what the iterator's own objects are in the block
  have stat : ∀ {σ' : L2.St} {H' : Hp} {s' : Shared}, Inv (X.blk s3 H3 scope ce fp) [] σ' H' s' → (∀ b ∈ fp, H' b = none) → ∀ b ∈ fp, FpOk (X.blk s3 H3 scope ce fp) [] H' b := fun {σ' H' s'} I' hn b hb =>
    ⟨hn b hb, (I'.ok.exf b hb).1, I'.ok.exfs b hb, .inl hb, fun x c e => (I'.ok.exf b hb).2 x c e, fun p hp => absurd (show p ∈ ([] : List (Addr × Obj)) ++ [] from hp) (by simp)⟩
  refine codeAny_compStart_dict ?loop (T.self X.A 0 _ _ _ st4 ?loop)
  refine compLoop_anyD (fun n s' => ∃ i H', Inv (X.blk s3 H3 scope ce fp) [] (wipe σ (own.map (·.2))) H' s' ∧ tn i s'.heap ∧ (∀ b ∈ fp, H' b = none) ∧ W i n H') ?_ m0 ⟨0, H3, I4, st4, fun b hb => (fpo b hb).1.1, w0⟩
  rintro n s5 ⟨i, H5, I5, st5, n5, w5⟩
  rcases turn i n H5 w5 with ⟨stop, qq⟩ | ⟨go, Nx, hNx, step⟩
  · refine thnF (T.done (X.blk s3 H3 scope ce fp) rfl rfl rfl hc i [] s5 _ H5 (fun _ _ => False) I5 (stat I5 n5) st5 stop) fun r s6 hr => ?_
    obtain ⟨rfl, I6⟩ := hr
    have I7 : Inv X pins σ H5 s6 := laid.call' (ch := fp) I6.os I6.base I6.hok I6.bare fun b hb => ⟨(fpo b hb).1.2.2.2.1, (fpo b hb).1.2.1, (fpo b hb).1.2.2.2.2.1, (fpo b hb).1.2.2.2.2.2⟩
    have nC : H5 s3.heap.objs.size = none := by
      have z : H5 ce.locals = none := I6.free
      rw [cL] at z
      exact z
    obtain ⟨m, hn, _⟩ := I6.loc
    have hn : s6.heap.Ns ce.locals m := hn
    rw [cL] at hn
    refine ⟨m, hn, fun h'' sb => ?_⟩
    obtain ⟨f0, f1, f2, f3, f4, f5⟩ := laid.fpOk (Nat.le_refl _) nC
    exact ⟨.ref D, H5, I7.turned (t' := s6.toks) (fun b o hb e => (sb.2 b hb).trans e) f0 f1 f3 f4 f5, rfl, qq⟩
  · refine thnF (T.item (X.blk s3 H3 scope ce fp) rfl rfl rfl hc i [] s5 _ H5 (fun _ _ => False) I5 (stat I5 n5) st5 go) fun r s6 hr => ?_
    obtain ⟨u, rfl, h6⟩ := hr
    refine thnF h6 fun _ s7 h7 => ?_
    obtain ⟨x, H7, I7, r7, y7, st7, n7⟩ := h7
    have I7' := I7.pinned (stat I7 n7) (T.obj _ _ st7)
    refine thnF (pg.run _ s7 _ H7 x u _ I7' r7 (step x H7 y7)) fun _ s8 h8 => ?_
    obtain ⟨σ8, H8, I8, hw8, q8⟩ := h8
    refine thnF (pt.run _ s8 σ8 H8 _ I8 q8) fun b s9 h9 => ?_
    obtain ⟨H9, I9, q9⟩ := h9
    have fin : ∀ {s' : Shared} {H' : Hp}, Inv (X.blk s3 H3 scope ce fp) ([] ++ pinsAt fp s7.heap) σ8 H' s' → Nx H' → ∃ m, m < n ∧ ∃ i H', Inv (X.blk s3 H3 scope ce fp) [] (wipe σ (own.map (·.2))) H' s' ∧ tn i s'.heap ∧ (∀ b ∈ fp, H' b = none) ∧ W i m H' := fun {s' H'} I' nx => by
      obtain ⟨m', hm, w'⟩ := hNx H' nx
      have held : ∀ b ∈ fp, ∀ o, s7.heap.get? b = some o → s'.heap.get? b = some o ∧ H' b = none := fun b hb o e => by
        have z := I'.pin (b, o) (List.mem_append_right _ (List.mem_append_right _ (mem_pinsAt hb e)))
        exact ⟨z.1, z.2.1⟩
      refine ⟨m', hm, i + 1, H', (I'.unpinned (pins := [])).weak (by rw [← hw8, wipe_length]) (fun j v e => ?_), T.keep _ _ _ st7 fun b hb o e => (held b hb o e).1, fun b hb => ?_, w'⟩
      · rw [← hw8] at e
        exact (wipe_some e).1
      · obtain ⟨o, e, _⟩ := T.obj _ _ st7 b hb
        exact (held b hb o e).2
    cases b with
    | false =>
      simp only [Bool.false_eq_true, if_false] at q9 ⊢
      exact fin I9 q9
    | true =>
      simp only [if_true] at q9 ⊢
      refine thnF (pk.run _ s9 σ8 H9 _ I9 q9) fun z s10 h10 => ?_
      obtain ⟨yk, H10, I10, r10, q10⟩ := h10
      refine thnF (pv.run _ s10 σ8 H10 _ I10 q10) fun z2 s11 h11 => ?_
      obtain ⟨yv, H11, I11, r11, H12, g12, nx⟩ := h11
      exact n_dictSet (X := X.blk s3 H3 scope ce fp) hu I11 g12 r10 r11 fun s12 I12 => fin I12 nx
end
end Own
/-! sorted(xs) of data that are alike (tuples of ints of any lengths, tuples of these ..), any number: a list, the keys of a dict. -/
namespace Own
open PySem PySem.Spec PyProof.Rows L2 PySem.W
section
variable {X : Cx} {pins : List (Addr × Obj)} {σ : L2.St} {H : Hp} {s : Shared}
theorem keyInt {kvs : List (Key × V)} {vs : List (Key × Value)} {es : List DictEntry} (r : KV kvs vs) (p : Pairs (mixKind X.prog X.w) es vs) : ∃ as, ReadsAll s.heap (es.map (·.key)) (kvs.map fun p => keyD p.1) as := by
  induction r generalizing es with
  | nil => cases p; exact ⟨_, .nil⟩
  | @cons a b as bs h _ ih =>
    cases p with
    | cons h1 h2 r2 =>
      obtain ⟨as2, q⟩ := ih r2
      rw [← h.1] at h1
      rcases keyIs_shape h1 with ⟨i, t, e1, e2⟩ | ⟨x, t, e1, e2⟩
      · refine ⟨_, .cons (?_ : Reads s.heap _ _ []) q⟩
        show Reads s.heap (DictEntry.key _) (keyD a.1) []
        rw [e2, e1]
        exact .int i t
      · refine ⟨_, .cons (?_ : Reads s.heap _ _ []) q⟩
        show Reads s.heap (DictEntry.key _) (keyD a.1) []
        rw [e2, e1]
        exact .str x t
mutual
theorem Dv.reads (I : Inv X pins σ H s) : ∀ {v : V} {d : PyData}, Dv X.K H v d → ∀ u, RelV v u → ∃ as, Reads s.heap u d as
  | _, _, .non, _, r => by cases r; exact ⟨_, .none⟩
  | _, _, .bl b, _, r => by cases r; exact ⟨_, .bool b⟩
  | _, _, .int i, _, r => by obtain ⟨t, rfl⟩ := r; exact ⟨_, .int i t⟩
  | _, _, .str x, _, r => by obtain ⟨t, rfl⟩ := r; exact ⟨_, .str x t⟩
  | _, _, .lst h ha, _, r => by
    cases r
    obtain ⟨its, rv, ⟨o, n, ho, hc, _, hd⟩, _⟩ := I.list h
    obtain ⟨as, q⟩ := DvAll.reads I ha its rv
    exact ⟨_, .list ho hc hd q⟩
  | _, _, .tup h ha, _, r => by
    cases r
    obtain ⟨its, rv, ⟨o, ho, hc, n, hd⟩, _⟩ := I.tuple h
    obtain ⟨as, q⟩ := DvAll.reads I ha its rv
    exact ⟨_, .tuple ho hc hd q⟩
  | _, _, .dct (kvs := kvs) (ds := ds) h ha, _, r => by
    cases r
    obtain ⟨_, hs, vs, rv, o, es, ep, ho, hx, hd, _, pr, _⟩ := I.hok _ _ h
    have e1 : (((kvs.map fun p => keyD p.1).zip ds).map (·.1)) = kvs.map fun p => keyD p.1 := List.map_fst_zip (by rw [← ha.len]; simp)
    have e2 : (((kvs.map fun p => keyD p.1).zip ds).map (·.2)) = ds := List.map_snd_zip (by rw [← ha.len]; simp)
    obtain ⟨as, q1⟩ := keyInt (s := s) rv pr
    obtain ⟨as2, q2⟩ := DvAll.reads I ha _ (vals_of rv pr)
    exact ⟨_, .dict ho (exact_cls hx) hd (by rw [e1]; exact q1) (by rw [e2]; exact q2)⟩
theorem DvAll.reads (I : Inv X pins σ H s) : ∀ {vs : List V} {ds : List PyData}, DvAll X.K H vs ds → ∀ us, Vals vs us → ∃ as, ReadsAll s.heap us ds as
  | _, _, .nil, _, r => by cases r; exact ⟨_, .nil⟩
  | _, _, .cons h1 h2, _, r => by
    cases r with
    | cons r1 r2 =>
      obtain ⟨as, q1⟩ := Dv.reads I h1 _ r1
      obtain ⟨as2, q2⟩ := DvAll.reads I h2 _ r2
      exact ⟨_, .cons q1 q2⟩
end
end
/-- values and the data that they are -/
abbrev Dat := V × PyData
abbrev sortD (bs : List Dat) : List Dat := bs.mergeSort (dataLe false fun b => b.2)
abbrev RDat (u : Value) (b : Dat) : Prop := RelV b.1 u
theorem each_dat : ∀ {bs : List Dat} {us : List Value}, Vals (bs.map (·.1)) us → EachIs RDat us bs
  | [], _, r => by cases r; exact .nil
  | b :: bs, _, r => by
    cases r with
    | cons r1 r2 => exact .cons r1 (each_dat r2)
theorem vals_dat : ∀ {bs : List Dat} {us : List Value}, EachIs RDat us bs → Vals (bs.map (·.1)) us
  | [], _, r => by cases r; exact .nil
  | b :: bs, _, r => by
    cases r with
    | cons r1 r2 => exact .cons r1 (vals_dat r2)
theorem sortD_len (bs : List Dat) : (sortD bs).length = bs.length := List.length_mergeSort bs
section
variable {X : Cx}
theorem each_reads {pins : List (Addr × Obj)} {σ : L2.St} {H : Hp} {s : Shared} (I : Inv X pins σ H s) : ∀ {bs : List Dat} {us : List Value}, (∀ b ∈ bs, Dv X.K H b.1 b.2) → Vals (bs.map (·.1)) us → EachIs (fun v (b : Dat) => ∃ as, Reads s.heap v b.2 as) us bs
  | [], _, _, r => by cases r; exact .nil
  | b :: bs, _, hd, r => by
    cases r with
    | cons r1 r2 => exact .cons (Dv.reads I (hd b List.mem_cons_self) _ r1) (each_reads I (fun c hc => hd c (List.mem_cons_of_mem _ hc)) r2)
def rSortD (K : PySem.W.Frag) : List V → Hp → VK → Prop := fun xs H Q => ∃ (a : Addr) (bs : List Dat), xs = [.ref a] ∧ SqL K H a (bs.map (·.1)) ∧ (∀ b ∈ bs, Dv K H b.1 b.2 ∧ b.2.depth ≤ 40) ∧ AllAlike (bs.map (·.2)) ∧ Sortable (bs.map (·.2)) ∧ bs.length ≤ sizeLine ∧
  ∀ p, H p = none → Q (.ref p) (upd H p (.lst ((sortD bs).map (·.1))))
theorem call_sortD (hu : X.A.units + 64 < cLine) : CallR X (.builtin "sorted") (rSortD X.K) := by
  intro pins s σ H xs us Q I r h
  obtain ⟨a, bs, rfl, hs, hd, al, so, hl, q⟩ := h
  obtain ⟨u, rfl, rx⟩ := r.one
  cases rx
  obtain ⟨its, rv, il, _⟩ := I.list hs
  have il' : s.heap.IsList a its.toArray := by
    obtain ⟨o, n, ho, hc, hdn, hdt⟩ := il
    exact ⟨o, ho, hc, n, hdt⟩
  refine sorted_data (enc := fun b : Dat => b.2) (bs := bs) (R := RDat) il' (each_dat rv) (each_reads I (fun b hb => (hd b hb).1) rv) al so hl (fun b hb => ?_) fun out hlen ho => ?_
  · have z := (hd b hb).2
    omega
  · obtain ⟨e, he⟩ := PyProof.Rows.sortedAll_at s.heap its out.toArray
    have hn : H (s.heap.objs.size + 1) = none := I.hok.fresh (Nat.le_succ _)
    refine ⟨.ref (s.heap.objs.size + 1), _, I.laid (t' := s.toks) (o := .lst ((sortD bs).map (·.1))) (fun b o e => PyProof.Rows.sortedAll_old e) (Nat.le_succ _) ⟨?_, out, e, vals_dat ho, he⟩, rfl, q _ hn⟩
    rw [List.length_map, sortD_len]
    exact hl
/-- sorted(d) of such a dict: its keys -/
def rSortN (P : Program) (w : World) (K : PySem.W.Frag) : List V → Hp → VK → Prop := fun xs H Q => ∃ (d : Addr) (rows : List Row) (bs : List Dat), xs = [.ref d] ∧ DnAt P w K H d rows ∧ bs.map (·.1) = rows.map (fun r => V.ref r.2.1) ∧ (∀ b ∈ bs, Dv K H b.1 b.2 ∧ b.2.depth ≤ 40) ∧ AllAlike (bs.map (·.2)) ∧ Sortable (bs.map (·.2)) ∧
  ∀ p, H p = none → Q (.ref p) (upd H p (.lst ((sortD bs).map (·.1))))
theorem call_sortN (hc : X.calm = true) (hu : X.A.units + 64 < cLine) : CallR X (.builtin "sorted") (rSortN X.prog X.w X.K) := by
  intro pins s σ H xs us Q I r h
  obtain ⟨d, rows, bs, rfl, D, eb, hd, al, so, q⟩ := h
  obtain ⟨u, rfl, rx⟩ := r.one
  cases rx
  obtain ⟨ks, o, es, ep, pr, ho, hx, hdt, he⟩ := (I.hok _ _ D.at_).1
  have l1 : es.size = ks.length := size_of_entries he
  have l2 : rows.length = ks.length := Paired.length pr
  have l3 : bs.length = rows.length := by
    have z := congrArg List.length eb
    rwa [List.length_map, List.length_map] at z
  have dl := D.len
  refine Calls.call_function_entry PyProof.Rows.kind_sorted PyProof.Rows.plain_sorted PyProof.Rows.entry_sorted (PyProof.Rows.args_sorted1 _) ?_
  unfold Builtin.«sorted»
  refine wpAny_bind (m := checkCount "sorted" 1 1 _) (wpAny_pure ?_)
  refine wpAny_bind (kdu_collect (A := X.A.in1) (kdl_raw D.nm hx hdt) (I.ok.hd hc) ho (by omega) fun h' tk acc hk hacc => ?_)
  have rv : Vals (bs.map (·.1)) acc.toList := by
    rw [eb]
    have hl : acc.toList.length = rows.length := by rw [Array.length_toList, hacc.1]; omega
    have e2 : acc.toList = rows.map fun r => Value.ref r.2.1 := by
      apply List.ext_getElem?
      intro j
      rw [List.getElem?_map]
      cases hj : acc.toList[j]? with
      | none =>
        have h1 := List.getElem?_eq_none_iff.mp hj
        rw [List.getElem?_eq_none (by omega)]
        rfl
      | some v =>
        obtain ⟨en, hen, hv⟩ := hacc.2 j v (by rw [← Array.getElem?_toList]; exact hj)
        have hlt := (List.getElem?_eq_some_iff.mp hj).1
        have hp : rows[j]? = some (rows[j]'(by omega)) := List.getElem?_eq_getElem (by omega)
        obtain ⟨b, hb, e1, e3, _⟩ := paired_get pr hp
        have qe := entry_at he j
        rw [hen, hb] at qe
        rw [hp, hv, Option.some.inj qe]
        show some (Value.ref b.2.1) = some (Value.ref _)
        rw [e3]
    rw [e2]
    clear e2 hl hacc he l1 l2 dl D pr q eb l3
    induction rows with
    | nil => exact .nil
    | cons p t ih => exact .cons rfl ih
  have I1 : Inv X pins σ H { s with heap := h', toks := tk } := I.kept hk
  have hL : acc.toList.length ≤ sizeLine := by rw [← Vals.length rv, List.length_map]; omega
  refine wpAny_bind (wpAny_newList ?_ hL)
  have hoL : (h'.push (seqObj "list" acc.toList.toArray 0)).get? h'.objs.size = some (seqObj "list" acc.toList.toArray 0) := Heap.get?_push_size _ rfl
  show wpAny _ _ _ _ _ { s with heap := h'.push (seqObj "list" acc.toList.toArray 0), toks := tk }
  have old : ∀ b o, h'.get? b = some o → (sortingHeap (h'.push (seqObj "list" acc.toList.toArray 0)) h'.objs.size acc.toList).get? b = some o := fun b o e =>
    sortingHeap_old (Nat.ne_of_lt (Heap.lt_size e)) (Heap.get?_push_of_some _ e)
  have er : EachIs (fun v (b : Dat) => ∃ as, Reads (sortingHeap (h'.push (seqObj "list" acc.toList.toArray 0)) h'.objs.size acc.toList) v b.2 as) acc.toList bs :=
    (each_reads I1 (fun b hb => (hd b hb).1) rv).mono fun v b z => by
      obtain ⟨as, r⟩ := z
      exact ⟨as, PyProof.Rows.Reads.keeps old r⟩
  refine wpAny_bind (wpAny_holding (wpAny_call_entry PyProof.Rows.slot_list_sort ⟨_, hoL, rfl⟩ PyProof.Rows.entry_list_sort (list_sort_vals (κ := dataKind (sortingHeap (h'.push (seqObj "list" acc.toList.toArray 0)) h'.objs.size acc.toList) (bs.map (·.2))) (s := { s with heap := h'.push (seqObj "list" acc.toList.toArray 0), toks := tk }) hoL ?_ hL ?_) (PyProof.Rows.args_list_sort _)))
  · exact SortsAt.data (s := { s with heap := sortingHeap (h'.push (seqObj "list" acc.toList.toArray 0)) h'.objs.size acc.toList, toks := tk }) (each_map (R := fun v d => ∃ as, Reads _ v d as) (fun b : Dat => b.2) er) al so (fun d hd2 => by
      obtain ⟨b, hb, rfl⟩ := List.mem_map.mp hd2
      have z := (hd b hb).2
      show X.A.units + 2 + b.2.depth < cLine
      omega)
  · refine ⟨_, rfl, ?_⟩
    have eo : EachIs RDat (sortVals (dataKind (sortingHeap (h'.push (seqObj "list" acc.toList.toArray 0)) h'.objs.size acc.toList) (bs.map (·.2))) false acc.toList acc.toList) (sortD bs) := sortVals_data false (each_dat rv) er al
    obtain ⟨e', he'⟩ := PyProof.Rows.sortedHeap_at (vs := acc.toList) (out := (sortVals (dataKind (sortingHeap (h'.push (seqObj "list" acc.toList.toArray 0)) h'.objs.size acc.toList) (bs.map (·.2))) false acc.toList acc.toList).toArray) hoL
    refine wpAny_pure ⟨_, rfl, .ref h'.objs.size, _, I1.laid (t' := tk) (o := .lst ((sortD bs).map (·.1))) (fun b u e => ?_) (Nat.le_refl _) ⟨?_, _, e', vals_dat eo, he'⟩, rfl, q _ (I1.hok.fresh (Nat.le_refl _))⟩
    · have hb : b < h'.objs.size := Heap.lt_size e
      rw [PyProof.Rows.sortedHeap_old (Nat.ne_of_lt hb) (by rw [size_push']; exact Nat.lt_succ_of_lt hb)]
      exact Heap.get?_push_of_some _ e
    · rw [List.length_map, sortD_len]
      omega
end
end Own
/-! Shapes and changes as Lean data; what sorting makes of them. -/
namespace Own
open PySem PySem.Spec PyProof.Rows L2 PySem.W
section
variable {α : Type} [DecidableEq α] [DatumOrd α]
def leT (a b : α) : Bool := !DatumOrd.lt b a
def sortT (xs : List α) : List α := xs.mergeSort leT
theorem leT_data (a b : α) : leT a b = dataLe false (fun x : α => Datum.toD x) a b := by
  show (!DatumOrd.lt b a) = !dataLt (Datum.toD b) (Datum.toD a)
  rw [DatumOrd.lt_eq]
theorem leT_total : TotalLe (leT (α := α)) := by
  have h : leT (α := α) = dataLe false (fun x : α => Datum.toD x) := funext fun a => funext fun b => leT_data a b
  rw [h]
  exact sortLe_total _ _ _
/-- sorting data is sorting what they are -/
theorem sortD_T {bs : List Dat} {xs : List α} (h : bs.map (·.2) = xs.map Datum.toD) : (sortD bs).map (·.2) = (sortT xs).map Datum.toD := by
  have e1 : (sortD bs).map (·.2) = (bs.map (·.2)).mergeSort (dataLe false fun d : PyData => d) := sort_maps (fun b : Dat => b.2) (fun _ _ _ _ => rfl)
  have e2 : (sortT xs).map Datum.toD = (xs.map Datum.toD).mergeSort (dataLe false fun d : PyData => d) := sort_maps (fun x : α => Datum.toD x) (fun a _ b _ => leT_data a b)
  rw [e1, e2, h]
/-- no two are unordered -/
class Tri (α : Type) [DecidableEq α] [DatumOrd α] : Prop where
  tri : ∀ a b : α, DatumOrd.lt a b = false → DatumOrd.lt b a = false → a = b
instance : Tri Int := ⟨fun a b h1 h2 => by
  have h1' : decide (a < b) = false := h1
  have h2' : decide (b < a) = false := h2
  rw [decide_eq_false_iff_not] at h1' h2'
  omega⟩
theorem tri_list [Tri α] : ∀ xs ys : List α, listLt xs ys = false → listLt ys xs = false → xs = ys
  | [], [], _, _ => rfl
  | [], _ :: _, h, _ => by cases h
  | _ :: _, [], _, h => by cases h
  | x :: xs, y :: ys, h1, h2 => by
    unfold listLt at h1 h2
    by_cases e : x = y
    · subst e
      rw [if_pos rfl] at h1 h2
      rw [tri_list xs ys h1 h2]
    · rw [if_neg e] at h1
      rw [if_neg (Ne.symm e)] at h2
      exact absurd (Tri.tri x y h1 h2) e
instance [Tri α] : Tri (Tup α) := ⟨fun a b h1 h2 => by
  have z := tri_list a.items b.items h1 h2
  cases a; cases b
  exact congrArg Tup.mk z⟩
instance {β : Type} [DecidableEq β] [DatumOrd β] [Tri α] [Tri β] : Tri (α × β) := ⟨fun a b h1 h2 => by
  have h1' : (if a.1 = b.1 then DatumOrd.lt a.2 b.2 else DatumOrd.lt a.1 b.1) = false := h1
  have h2' : (if b.1 = a.1 then DatumOrd.lt b.2 a.2 else DatumOrd.lt b.1 a.1) = false := h2
  by_cases e : a.1 = b.1
  · rw [if_pos e] at h1'
    rw [if_pos e.symm] at h2'
    exact Prod.ext e (Tri.tri _ _ h1' h2')
  · rw [if_neg e] at h1'
    rw [if_neg (Ne.symm e)] at h2'
    exact absurd (Tri.tri _ _ h1' h2') e⟩
/-- what is sorted alike has the same members as often -/
theorem sortT_perm [Tri α] {xs ys : List α} (p : xs.Perm ys) : sortT xs = sortT ys := by
  refine sort_unique leT_total (sort_pairwise leT_total xs) fun c => ?_
  have anti : ∀ a, sameRank leT c a = decide (a = c) := fun a => by
    show ((!DatumOrd.lt a c) && (!DatumOrd.lt c a)) = decide (a = c)
    by_cases e : a = c
    · subst e
      have z : DatumOrd.lt a a = false := by rw [← DatumOrd.lt_eq]; exact dataLt_self _
      rw [z]
      simp
    · rw [decide_eq_false e]
      cases h1 : DatumOrd.lt a c with
      | true => rfl
      | false =>
        cases h2 : DatumOrd.lt c a with
        | true => rfl
        | false => exact absurd (Tri.tri _ _ h1 h2) e
  have key : ∀ zs : List α, zs.filter (sameRank leT c) = List.replicate (zs.count c) c := fun zs => by
    have e : zs.filter (sameRank leT c) = zs.filter (· == c) := List.filter_congr fun a _ => by
      rw [anti a, Bool.eq_iff_iff, decide_eq_true_eq, beq_iff_eq]
    rw [e, List.filter_beq]
  rw [key, key]
  exact congrArg (List.replicate · c) (((List.mergeSort_perm xs leT).trans p).count_eq c)
theorem sortT_len (xs : List α) : (sortT xs).length = xs.length := List.length_mergeSort xs
theorem sortT_mem {xs : List α} {x : α} : x ∈ sortT xs ↔ x ∈ xs := (List.mergeSort_perm xs leT).mem_iff
theorem sortT_same (xs : List α) : (sortT xs).Perm xs := List.mergeSort_perm xs leT
/-- of the same members, each once -/
theorem sortT_set [Tri α] {xs ys : List α} (n1 : xs.Nodup) (n2 : ys.Nodup) (h : ∀ x, x ∈ xs ↔ x ∈ ys) : sortT xs = sortT ys := sortT_perm ((List.perm_ext_iff_of_nodup n1 n2).mpr h)
end
/-! ### shapes, changes -/
abbrev Fg := Tup Int
abbrev Ch := Fg × Fg
abbrev dF (f : Fg) : PyData := Datum.toD f
abbrev dC (c : Ch) : PyData := Datum.toD c
def kF (f : Fg) : NestedKey := .tup (f.items.map .num)
def kC (c : Ch) : NestedKey := .tup [kF c.1, kF c.2]
theorem dat_nums : ∀ is : List Int, NestedKey.datas (is.map .num) = is.map Datum.toD
  | [] => rfl
  | i :: is => by
    rw [List.map_cons, List.map_cons, NestedKey.datas, dat_nums is]
    rfl
theorem kF_data (f : Fg) : (kF f).data = dF f := by
  show NestedKey.data (.tup (f.items.map .num)) = .tuple (f.items.map Datum.toD)
  rw [NestedKey.data, dat_nums]
theorem kC_data (c : Ch) : (kC c).data = dC c := by
  show NestedKey.data (.tup [kF c.1, kF c.2]) = .tuple [dF c.1, dF c.2]
  simp only [NestedKey.data, NestedKey.datas, kF_data]
theorem kF_inj {f g : Fg} (h : kF f = kF g) : f = g := by
  have z : dF f = dF g := by rw [← kF_data, ← kF_data, h]
  have e : PyData.eqv (dF f) (dF g) = decide (f = g) := Datum.eqv f g
  rw [z] at e
  have e2 : PyData.eqv (dF g) (dF g) = decide (g = g) := Datum.eqv g g
  rw [e2, decide_eq_true rfl] at e
  exact of_decide_eq_true e.symm
theorem kC_inj {c d : Ch} (h : kC c = kC d) : c = d := by
  have h' : [kF c.1, kF c.2] = [kF d.1, kF d.2] := by
    injection h
  injection h' with h1 h2
  injection h2 with h2 _
  exact Prod.ext (kF_inj h1) (kF_inj h2)
end Own
/-! Loops of comprehensions, by an invariant; T is what one turn asks, Nx what holds behind it. -/
namespace Own
open PySem PySem.Spec PyProof.Rows L2
theorem out_list {K : PySem.W.Frag} {a : Addr} {xs : List V} {H0 : Hp} {Qd : Hp → Prop} {T : (Hp → Prop) → V → Hp → Prop} (Pv : Nat → Hp → Prop) (h0 : Pv 0 H0) (hl : ∀ i H, i ≤ xs.length → Pv i H → SqL K H a xs)
    (hs : ∀ i x H, xs[i]? = some x → Pv i H → T (Pv (i + 1)) x H) (hd : ∀ H, Pv xs.length H → Qd H) :
    ∃ W : Nat → Nat → Hp → Prop, (∃ m, W 0 m H0) ∧ ∀ i m H, W i m H →
      ((Itl K a).stop i H ∧ Qd H) ∨ ((Itl K a).go i H ∧ ∃ Nx : Hp → Prop, (∀ H', Nx H' → ∃ m', m' < m ∧ W (i + 1) m' H') ∧ ∀ x H', (Itl K a).yld i H x H' → T Nx x H') := by
  refine ⟨fun i m H => m = xs.length - i ∧ i ≤ xs.length ∧ Pv i H, ⟨xs.length, by simp, Nat.zero_le _, h0⟩, ?_⟩
  rintro i m H ⟨rfl, hi, p⟩
  by_cases hlt : i < xs.length
  · refine .inr ⟨⟨xs, xs[i], hl i H hi p, by simp [hlt]⟩, Pv (i + 1), fun H' p' => ⟨_, by omega, rfl, hlt, p'⟩, ?_⟩
    rintro x H' ⟨rfl, y⟩
    exact hs i x _ (y xs (hl i _ hi p)) p
  · obtain rfl : i = xs.length := by omega
    exact .inl ⟨⟨xs, hl _ H hi p, Nat.le_refl _⟩, hd H p⟩
theorem out_tup {K : PySem.W.Frag} {a : Addr} {xs : List V} {H0 : Hp} {Qd : Hp → Prop} {T : (Hp → Prop) → V → Hp → Prop} (Pv : Nat → Hp → Prop) (h0 : Pv 0 H0) (hl : ∀ i H, i ≤ xs.length → Pv i H → SqT K H a xs)
    (hs : ∀ i x H, xs[i]? = some x → Pv i H → T (Pv (i + 1)) x H) (hd : ∀ H, Pv xs.length H → Qd H) :
    ∃ W : Nat → Nat → Hp → Prop, (∃ m, W 0 m H0) ∧ ∀ i m H, W i m H →
      ((Itt K a).stop i H ∧ Qd H) ∨ ((Itt K a).go i H ∧ ∃ Nx : Hp → Prop, (∀ H', Nx H' → ∃ m', m' < m ∧ W (i + 1) m' H') ∧ ∀ x H', (Itt K a).yld i H x H' → T Nx x H') := by
  refine ⟨fun i m H => m = xs.length - i ∧ i ≤ xs.length ∧ Pv i H, ⟨xs.length, by simp, Nat.zero_le _, h0⟩, ?_⟩
  rintro i m H ⟨rfl, hi, p⟩
  by_cases hlt : i < xs.length
  · refine .inr ⟨⟨xs, xs[i], hl i H hi p, by simp [hlt]⟩, Pv (i + 1), fun H' p' => ⟨_, by omega, rfl, hlt, p'⟩, ?_⟩
    rintro x H' ⟨rfl, y⟩
    exact hs i x _ (y xs (hl i _ hi p)) p
  · obtain rfl : i = xs.length := by omega
    exact .inl ⟨⟨xs, hl _ H hi p, Nat.le_refl _⟩, hd H p⟩
theorem out_range {lo : Int} {n : Nat} {H0 : Hp} {Qd : Hp → Prop} {T : (Hp → Prop) → V → Hp → Prop} (Pv : Nat → Hp → Prop) (h0 : Pv 0 H0)
    (hs : ∀ i H, i < n → Pv i H → T (Pv (i + 1)) (.int (lo + i)) H) (hd : ∀ H, Pv n H → Qd H) :
    ∃ W : Nat → Nat → Hp → Prop, (∃ m, W 0 m H0) ∧ ∀ i m H, W i m H →
      ((Itr lo n).stop i H ∧ Qd H) ∨ ((Itr lo n).go i H ∧ ∃ Nx : Hp → Prop, (∀ H', Nx H' → ∃ m', m' < m ∧ W (i + 1) m' H') ∧ ∀ x H', (Itr lo n).yld i H x H' → T Nx x H') := by
  refine ⟨fun i m H => m = n - i ∧ i ≤ n ∧ Pv i H, ⟨n, by simp, Nat.zero_le _, h0⟩, ?_⟩
  rintro i m H ⟨rfl, hi, p⟩
  by_cases hlt : i < n
  · refine .inr ⟨hlt, Pv (i + 1), fun H' p' => ⟨_, by omega, rfl, hlt, p'⟩, ?_⟩
    rintro x H' ⟨rfl, rfl⟩
    exact hs i _ hlt p
  · obtain rfl : i = n := by omega
    exact .inl ⟨Nat.le_refl _, hd H p⟩
end Own
/-! The program's shapes. -/
namespace Own
open PySem PySem.Spec PyProof.Rows L2
abbrev sShp : Stmt := top1 11
def intOf : PyData → Int
  | .int i => i
  | _ => 0
/-- data that is a shape -/
def isFig : PyData → Bool
  | .tuple [a] => numIn 0 5 a
  | .tuple [a, b] => numIn 0 5 a && numIn 0 5 b && decide (intOf a ≠ intOf b)
  | _ => false
theorem isT_some {d : PyData} (h : isT d = true) : ∃ ds, d = .tuple ds := by
  cases d with
  | tuple ds => exact ⟨ds, rfl⟩
  | _ => cases h
theorem Dv.tup_inv {K : PySem.W.Frag} {H : Hp} {v : V} {ds : List PyData} (h : Dv K H v (.tuple ds)) : ∃ a xs, v = .ref a ∧ SqT K H a xs ∧ DvAll K H xs ds := by
  cases h with
  | tup s r => exact ⟨_, _, rfl, s, r⟩
theorem DvAll.get {K : PySem.W.Frag} {H : Hp} : ∀ {vs : List V} {ds : List PyData} {i : Nat} {v : V}, DvAll K H vs ds → vs[i]? = some v → ∃ d, ds[i]? = some d ∧ Dv K H v d
  | _, _, 0, _, .cons h _, e => ⟨_, rfl, by cases e; exact h⟩
  | _, _, i + 1, _, .cons _ r, e => by
    have e' : _ = some _ := (List.getElem?_cons_succ ..).symm.trans e
    obtain ⟨d, h1, h2⟩ := DvAll.get r e'
    exact ⟨d, (List.getElem?_cons_succ ..).trans h1, h2⟩
theorem sqT_same {K : PySem.W.Frag} {H H' : Hp} {a : Addr} {xs : List V} (s : Same H H') (h : SqT K H a xs) : SqT K H' a xs := by
  rcases h with (h | ⟨o, h⟩) | h
  · exact .inl (.inl (s _ _ h))
  · exact .inl (.inr ⟨o, s _ _ h⟩)
  · exact .inr h
theorem sameN {H : Hp} {a : Addr} {o : HO} (h : H a = none) : Same H (upd H a o) := fun b u e => by
  rw [upd_ne (ne_of_none e h)]
  exact e
theorem fig_not {d : PyData} (h : isT d = false) : isFig d = false := by
  cases d with
  | tuple ds => cases h
  | _ => rfl
theorem fig_one {a : PyData} : isFig (.tuple [a]) = numIn 0 5 a := rfl
theorem fig_two {a b : PyData} : isFig (.tuple [a, b]) = (numIn 0 5 a && numIn 0 5 b && decide (intOf a ≠ intOf b)) := rfl
theorem fig_len {ds : List PyData} (h1 : ds.length ≠ 1) (h2 : ds.length ≠ 2) : isFig (.tuple ds) = false := by
  match ds, h1, h2 with
  | [], _, _ => rfl
  | [_], h1, _ => exact absurd rfl h1
  | [_, _], _, h2 => exact absurd rfl h2
  | _ :: _ :: _ :: _, _, _ => rfl
theorem iteNb {b : Bool} {A B : Prop} (e : b = false) (h : B) : if b = true then A else B := by
  rw [e]
  exact iteF h
theorem iteYb {b : Bool} {A B : Prop} (e : b = true) (h : A) : if b = true then A else B := by
  rw [e]
  exact iteT h
/-- what a list of bools is, so far -/
def bsT (f : PyData → Bool) (ds : List PyData) (i : Nat) : List V := (ds.take i).map fun d => V.bl (f d)
theorem bsT_more {f : PyData → Bool} {ds : List PyData} {i : Nat} {d : PyData} (h : ds[i]? = some d) : bsT f ds (i + 1) = bsT f ds i ++ [V.bl (f d)] := by
  obtain ⟨hl, e⟩ := List.getElem?_eq_some_iff.mp h
  unfold bsT
  rw [List.take_succ_eq_append_getElem hl, List.map_append, e]
  rfl
theorem bsT_all {f : PyData → Bool} {ds : List PyData} : bsT f ds ds.length = (ds.map f).map V.bl := by
  unfold bsT
  rw [List.take_length, List.map_map]
  rfl
def spShp (K : PySem.W.Frag) : Sp := fun vs H Q _ => ∃ (v : V) (d : PyData), vs = [v] ∧ Dv K H v d ∧ ∀ H', Same H H' → Q (.bl (isFig d)) H'
section
variable {P : Program} {w : World} {K : PySem.W.Frag} {mg : Str → Option Value} {base : Heap}
abbrev CalShp (P : Program) (w : World) (K : PySem.W.Frag) (mg : Str → Option Value) (base : Heap) : Prop := Cal P w K mg base CX0 4 "is_shape" ["thing"] (spShp K)
theorem sc_shp : FnScope ["thing"] ["thing"] (defScope sShp) := ⟨rfl, rfl, rfl, by decide +kernel, rfl, by decide +kernel, by decide +kernel⟩
theorem ok_shp {f : Addr} {fd : FuncData} (F : Fun K "is_shape" "is_shape" sShp f fd) (T : Bi1 mg) (CW : CalWid P w K mg base) : FnOk P w K mg base CX0 4 f fd ["thing"] (spShp K) := by
  obtain ⟨fW, fdW, GW, gW, kW, bW⟩ := CW
  refine F.ok sc_shp (fun vs H Q E h => ?_) (fun cdv A outer s H vs Q E hr h => ?_)
  · obtain ⟨v, d, rfl, _⟩ := h
    rfl
  · obtain ⟨v, d, rfl, hd, k⟩ := h
    refine ⟨_, (pss_cons (ps_if (PW.pt (pw_or (pt_not (pt_val (pe_callB call_isi (by rfl) T.isinstance (by decide +kernel) (pa_cons (pv 0) (pa_cons (pe_bltn (v := .ty "tuple") (by rfl) T.tuple (by decide +kernel) rfl) pa_nil))))) (pw_or1 (pt_cmpR op_notIn_seq (pe_callB call_len_seq (by rfl) T.len PySem.boot_len (pa_cons (pv 0) pa_nil)) (pe_tup (pa_cons (pe_int) (pa_cons (pe_int) pa_nil))) (by rfl))))) (pss_one (ps_ret (pe_bl))) pss_nil)
        (pss_cons (ps_if (pt_cmpR op_eq (pe_callB call_len_seq (by rfl) T.len PySem.boot_len (pa_cons (pv 0) pa_nil)) (pe_int) (nomark _)) (pss_one (ps_ret (pe_call GW hr (by rfl) gW kW bW .nil pass0 (pa_cons (pe_ix ix_tup (pv 0) (pe_int) (fun _ _ => rfl)) pa_nil)))) pss_nil)
        (pss_one (ps_ret (pe_and (pe_call GW hr (by rfl) gW kW bW .nil pass0 (pa_cons (pe_ix ix_tup (pv 0) (pe_int) (fun _ _ => rfl)) pa_nil)) (pe_and (pe_call GW hr (by rfl) gW kW bW .nil pass0 (pa_cons (pe_ix ix_tup (pv 0) (pe_int) (fun _ _ => rfl)) pa_nil)) (pe_one (pe_cmpR op_ne (pe_ix ix_tup (pv 0) (pe_int) (fun _ _ => rfl)) (pe_ix ix_tup (pv 0) (pe_int) (fun _ _ => rfl)) (nomark _))))))))), ?_⟩
    refine ⟨_, rfl, v, .ty "tuple", .type (tyD d), .type "tuple", _, rfl, .ty _, hd.ty, kit_ty (kit_tuple d), _, rfl, ?_⟩
    cases ht : isT d with
    | false =>
      have z := k H (Same.refl _)
      rw [fig_not ht] at z
      exact z
    | true =>
      obtain ⟨ds, rfl⟩ := isT_some ht
      obtain ⟨a, xs, rfl, ha, hx⟩ := hd.tup_inv
      have hlen := hx.len
      refine ⟨_, rfl, a, xs, rfl, .inr ha, by show 2 ≤ sizeLine; decide, fun t ht => ?_⟩
      have s1 : Same H (upd H t (.tup [.int 1, .int 2])) := sameN ht
      refine ⟨t, _, rfl, .inr (SqT.of upd_same), rfl, rfl, _, rfl, ?_⟩
      have ha1 := sqT_same s1 ha
      have hx1 := hx.same s1
      have kk := k _ s1
      generalize upd H t (.tup [.int 1, .int 2]) = H1 at s1 ha1 hx1 kk
      clear k hd
      match xs, ds, hx1, hlen with
      | [], [], _, _ => exact kk
      | [x], [d], .cons hd .nil, _ =>
        refine iteNb rfl ⟨_, rfl, a, _, rfl, .inr ha1, rfl, _, rfl, iteT ?_⟩
        exact ⟨_, rfl, a, _, 0, _, rfl, rfl, ha1, atI_nat (j := 0) rfl, x, d, rfl, hd, kk⟩
      | [x, y], [d, e], .cons hd (.cons he .nil), _ =>
        refine iteNb rfl ⟨_, rfl, a, _, rfl, .inr ha1, rfl, _, rfl, iteF ?_⟩
        refine ⟨_, rfl, a, _, 0, _, rfl, rfl, ha1, atI_nat (j := 0) rfl, x, d, rfl, hd, _, rfl, ?_⟩
        rw [fig_two] at kk
        cases q : numIn 0 5 d with
        | false =>
          rw [q] at kk
          exact iteF kk
        | true =>
          refine iteT ⟨_, rfl, a, _, 1, _, rfl, rfl, ha1, atI_nat (j := 1) rfl, y, e, rfl, he, _, rfl, ?_⟩
          cases q2 : numIn 0 5 e with
          | false =>
            rw [q2, Bool.and_false, Bool.false_and] at kk
            exact iteF kk
          | true =>
            rw [q, q2, Bool.and_true, Bool.true_and] at kk
            obtain ⟨i, rfl, _, _⟩ := numIn_some q
            obtain ⟨j, rfl, _, _⟩ := numIn_some q2
            obtain rfl := hd.int_inv
            obtain rfl := he.int_inv
            have e2 : decide (intOf (PyData.int i) ≠ intOf (PyData.int j)) = !decide (V.int i = V.int j) := by
              show decide (i ≠ j) = _
              by_cases h : i = j <;> simp [h]
            rw [e2] at kk
            exact iteT ⟨_, rfl, a, _, 0, _, rfl, rfl, ha1, atI_nat (j := 0) rfl, _, rfl, a, _, 1, _, rfl, rfl, ha1, atI_nat (j := 1) rfl, rfl, kk⟩
      | x :: y :: z :: xr, d :: e :: f :: dr, _, _ =>
        rw [fig_len (by simp) (by simp)] at kk
        have n1 : ¬ (1 : Int) = ((x :: y :: z :: xr).length : Nat) := by simp only [List.length_cons]; omega
        have n2 : ¬ (2 : Int) = ((x :: y :: z :: xr).length : Nat) := by simp only [List.length_cons]; omega
        have e1 : (!inV (.int ((x :: y :: z :: xr).length : Nat)) [V.int 1, V.int 2]) = true := by
          simp only [inV, eqV, List.any_cons, List.any_nil, n1, n2]
          simp only [List.length_cons] at n1 n2
          simp [eqV]
          omega
        exact iteYb e1 kk
def movOk (n : Nat) : PyData → Bool
  | .bool b => !b || decide (n ≠ 1)
  | _ => false
theorem Dv.isb {K : PySem.W.Frag} {H : Hp} {t : V} {d : PyData} {b : Bool} (h : Dv K H t d) (e : t = .bl b) : d = .bool b := by
  subst e
  cases h
  rfl
end
end Own
/-! Set tables of up to 512 slots. -/
namespace Own
open PySem PySem.Spec PyProof.Rows L2
/-- the round of i -> 5 i + 1 from i on -/
def orb (m : Nat) : Nat → Nat → List Nat
  | 0, _ => []
  | n + 1, i => i :: orb m n ((i * 5 + 1) % (m + 1))
theorem orb_at (m : Nat) : ∀ (n i j : Nat), j ∈ orb m n i → ∃ k, k < n ∧ lcgI m i k = j
  | 0, _, _, h => nomatch h
  | n + 1, i, j, h => by
    rcases List.mem_cons.mp h with e | h
    · exact ⟨0, Nat.succ_pos _, e.symm⟩
    · obtain ⟨k, hk, e⟩ := orb_at m n _ j h
      refine ⟨k + 1, Nat.succ_lt_succ hk, ?_⟩
      have shift : ∀ k, lcgI m i (k + 1) = lcgI m ((i * 5 + 1) % (m + 1)) k := fun k => by
        induction k with
        | zero => rfl
        | succ k ih =>
          show (lcgI m i (k + 1) * 5 + 1) % (m + 1) = (lcgI m ((i * 5 + 1) % (m + 1)) k * 5 + 1) % (m + 1)
          rw [ih]
      rw [shift]
      exact e
/-- a table's mask whose round meets all slots -/
structure Cyc (m : Nat) : Prop where
  all : ∀ j, j ≤ m → ∃ b, b ≤ m ∧ lcgN m b = j
  round : lcgN m (m + 1) = 0
  odd : m % 2 = 1
theorem lcgI_zero (m : Nat) : ∀ k, lcgI m 0 k = lcgN m k
  | 0 => rfl
  | k + 1 => by
    show (lcgI m 0 k * 5 + 1) % (m + 1) = (lcgN m k * 5 + 1) % (m + 1)
    rw [lcgI_zero m k]
theorem cyc_of {m : Nat} (h : ((List.range (m + 1)).all fun j => (orb m (m + 1) 0).any (· == j)) = true) (hr : (orb m (m + 2) 0).getD (m + 1) 1 = 0) (ho : m % 2 = 1) : Cyc m where
  all := fun j hj => by
    have h1 := List.all_eq_true.mp h j (List.mem_range.mpr (Nat.lt_succ_of_le hj))
    obtain ⟨x, hx, e⟩ := List.any_eq_true.mp h1
    rw [beq_iff_eq.mp e] at hx
    obtain ⟨k, hk, e2⟩ := orb_at m (m + 1) 0 j hx
    exact ⟨k, Nat.le_of_lt_succ hk, by rw [← lcgI_zero]; exact e2⟩
  round := by
    have key : ∀ (n i k : Nat), k < n → (orb m n i).getD k 1 = lcgI m i k := fun n => by
      induction n with
      | zero => intro i k h; exact absurd h (Nat.not_lt_zero _)
      | succ n ih =>
        intro i k hk
        cases k with
        | zero => rfl
        | succ k =>
          show (orb m n ((i * 5 + 1) % (m + 1))).getD k 1 = _
          rw [ih _ k (Nat.lt_of_succ_lt_succ hk)]
          clear ih hk
          induction k with
          | zero => rfl
          | succ k ih2 =>
            show (lcgI m ((i * 5 + 1) % (m + 1)) k * 5 + 1) % (m + 1) = (lcgI m i (k + 1) * 5 + 1) % (m + 1)
            rw [ih2]
    rw [← lcgI_zero, ← key (m + 2) 0 (m + 1) (by omega)]
    exact hr
  odd := ho
theorem cyc7 : Cyc 7 := cyc_of (by decide +kernel) (by decide +kernel) rfl
theorem cyc31 : Cyc 31 := cyc_of (by decide +kernel) (by decide +kernel) rfl
theorem cyc127 : Cyc 127 := cyc_of (by decide +kernel) (by decide +kernel) rfl
theorem cyc511 : Cyc 511 := cyc_of (by decide +kernel) (by decide +kernel) rfl
theorem Cyc.again {m : Nat} (C : Cyc m) : ∀ k, lcgN m (m + 1 + k) = lcgN m k
  | 0 => C.round
  | k + 1 => by
    show (lcgN m (m + 1 + k) * 5 + 1) % (m + 1) = (lcgN m k * 5 + 1) % (m + 1)
    rw [C.again k]
/-- from anywhere each slot is met within a round -/
theorem Cyc.from {m i j : Nat} (C : Cyc m) (hi : i ≤ m) (hj : j ≤ m) : ∃ k, k ≤ m ∧ lcgI m i k = j := by
  obtain ⟨a, ha, ea⟩ := C.all i hi
  obtain ⟨b, hb, eb⟩ := C.all j hj
  by_cases c : a ≤ b
  · exact ⟨b - a, by omega, by rw [← ea, lcgN_add, show a + (b - a) = b by omega, eb]⟩
  · exact ⟨b + (m + 1) - a, by omega, by rw [← ea, lcgN_add, show a + (b + (m + 1) - a) = m + 1 + b by omega, C.again, eb]⟩
theorem Cyc.run {m : Nat} (C : Cyc m) (h : Int) {j : Nat} (hj : j ≤ m) : ∃ n, n ≤ m + 12 ∧ runI m (SetTable.bits h) n = j := by
  obtain ⟨k, hk, e⟩ := C.from (runI_le m (SetTable.bits h) 12) hj
  exact ⟨12 + k, by omega, by rw [runI_tail (bits_lt h)]; exact e⟩
theorem way_in {m : Nat} {h : Int} {k : Nat} : way m h k ≤ m := by
  have hi : SetTable.bits h % (m + 1) ≤ m := Nat.le_of_lt_succ (Nat.mod_lt _ (Nat.succ_pos _))
  have r := runEnd_bd hi
  have q := nth_in (m := m) k (runAt m (SetTable.bits h % (m + 1)) (SetTable.bits h)) (by
    show SetTable.bits h % (m + 1) + (SetTable.runEnd m (SetTable.bits h % (m + 1)) - SetTable.bits h % (m + 1)) ≤ m
    omega)
  exact Nat.le_trans (Nat.le_add_right _ _) q
/-- a table in which each entry is found again from its hash -/
structure TabN (t : SetTable) (hs : List Int) : Prop where
  ris : Ris t.place.toList
  dm : t.dummies = #[]
  sz : t.place.size = hs.length
  cyc : Cyc t.mask
  bd : ∀ x ∈ t.place.toList, x ≤ t.mask
  reach : ∀ (i : Nat) (h : Int) (j : Nat), hs[i]? = some h → t.place.toList[i]? = some j → ∃ k, way t.mask h k = j ∧ ∀ k', k' < k → way t.mask h k' ∈ t.place.toList
theorem least_free {t : SetTable} {hs : List Int} (T : TabN t hs) (hl : hs.length ≤ t.mask) (h : Int) : ∃ K, K < 10 * SetTable.turns t.mask ∧ way t.mask h K ∉ t.place.toList ∧ ∀ k, k < K → way t.mask h k ∈ t.place.toList := by
  have len : t.place.toList.length < t.mask + 1 := by
    rw [Array.length_toList, T.sz]
    omega
  obtain ⟨j, hj, hn⟩ := st_missing t.place.toList (t.mask + 1) len
  obtain ⟨n, hn2, e⟩ := T.cyc.run h (Nat.le_of_lt_succ hj)
  obtain ⟨k, hk, e2⟩ := run_nth t.mask (SetTable.bits h) n
  have ek : way t.mask h k = j := by
    show (nth _ _ k).j = j
    rw [e2]
    exact e
  obtain ⟨K, h1, h2, h3⟩ := st_least (p := fun k => way t.mask h k ∉ t.place.toList) k (by show way t.mask h k ∉ _; rw [ek]; exact hn)
  refine ⟨K, ?_, h2, fun k' hk' => Classical.byContradiction fun c => h3 k' hk' c⟩
  unfold SetTable.turns
  omega
theorem TabN.before {t : SetTable} {hs : List Int} (T : TabN t hs) {h : Int} {K i j : Nat} (hK : way t.mask h K ∉ t.place.toList) (hi : hs[i]? = some h) (hj : t.place.toList[i]? = some j) : ∃ k, k < K ∧ way t.mask h k = j := by
  obtain ⟨k, e, hb⟩ := T.reach i h j hi hj
  refine ⟨k, Nat.lt_of_not_le fun c => ?_, e⟩
  rcases Nat.lt_or_ge K k with z | z
  · exact hK (hb K z)
  · have z2 : K = k := Nat.le_antisymm c z
    rw [z2, e] at hK
    exact hK (List.mem_of_getElem? hj)
/-- an entry of hash h put at the first free slot of its way -/
theorem TabN.put {t : SetTable} {hs : List Int} (T : TabN t hs) {h : Int} {K : Nat} (hK : way t.mask h K ∉ t.place.toList) (hb : ∀ k, k < K → way t.mask h k ∈ t.place.toList) :
    ∃ p, t.put (way t.mask h K) = ((t.put (way t.mask h K)).1, p) ∧ p ≤ hs.length ∧ TabN (t.put (way t.mask h K)).1 (hs.take p ++ h :: hs.drop p) ∧
      (t.put (way t.mask h K)).1.mask = t.mask ∧ (t.put (way t.mask h K)).1.led = t.led ∧ (t.put (way t.mask h K)).1.plain = t.plain ∧ (t.put (way t.mask h K)).1.fill = hs.length + 1 := by
  generalize hj : way t.mask h K = j at *
  have hjm : j ≤ t.mask := hj ▸ way_in
  obtain ⟨c1, _, _⟩ := below_cut T.ris j
  have ls : t.place.toList.length = hs.length := by rw [Array.length_toList]; exact T.sz
  have hp : SetTable.below t.place j ≤ t.place.toList.length := by rw [Array.length_toList]; exact c1
  have hp2 : SetTable.below t.place j ≤ hs.length := by omega
  have np : t.place[SetTable.below t.place j]? ≠ some j := fun e => hK (List.mem_of_getElem? (by rw [Array.getElem?_toList]; exact e))
  have pp := put_place t j
  have sz : (t.put j).1.place.size = hs.length + 1 := by rw [← Array.length_toList, pp, len_ins _ hp, ls]
  have up : ∀ {x : Nat}, x ∈ t.place.toList → x ∈ (t.put j).1.place.toList := fun {x} hx => by rw [pp]; exact mem_ins.2 (.inr hx)
  refine ⟨SetTable.below t.place j, rfl, hp2, ⟨ris_insert T.ris np, put_dm T.dm j, by rw [len_ins _ hp2]; exact sz, T.cyc, fun x hx => ?_, fun i h' j' h1 h2 => ?_⟩, rfl, rfl, rfl, ?_⟩
  · rw [pp] at hx
    rcases mem_ins.1 hx with z | z
    · rw [z]; exact hjm
    · exact T.bd x z
  · rw [tins_get hs hp2] at h1
    rw [pp, tins_get _ hp] at h2
    show ∃ k, way t.mask h' k = j' ∧ ∀ k', k' < k → way t.mask h' k' ∈ (t.put j).1.place.toList
    split at h1
    · rename_i c
      rw [if_pos c] at h2
      obtain ⟨k, e, z⟩ := T.reach i h' j' h1 h2
      exact ⟨k, e, fun k' hk' => up (z k' hk')⟩
    · rename_i c
      rw [if_neg c] at h2
      split at h1
      · rename_i d
        rw [if_pos d] at h2
        cases h1
        cases h2
        exact ⟨K, hj, fun k' hk' => up (hb k' hk')⟩
      · rename_i d
        rw [if_neg d] at h2
        obtain ⟨k, e, z⟩ := T.reach (i - 1) h' j' h1 h2
        exact ⟨k, e, fun k' hk' => up (z k' hk')⟩
  · show (t.put j).1.place.size + (t.put j).1.dummies.size = hs.length + 1
    rw [sz, put_dm T.dm j] <;> rfl
/-- laying: the next entry gets the first free slot of its way -/
theorem lay_one {m : Nat} (C : Cyc m) {done : List Int} {owner : Array (Option Nat)} (W : L2.Own m done owner) (hl : done.length ≤ m) (h : Int) :
    ∃ j, SetTable.layClean.free m owner (SetTable.turns m) (SetTable.bits h % (m + 1)) (SetTable.bits h) = some j ∧ L2.Own m (done ++ [h]) (owner.setIfInBounds j (some done.length)) := by
  obtain ⟨ps, lp, hin⟩ := W.ps
  obtain ⟨j0, h0, hn0⟩ := st_missing ps (m + 1) (by omega)
  have free0 : oAt owner j0 = none := Option.eq_none_iff_forall_ne_some.mpr fun k e => hn0 (hin j0 (Nat.le_of_lt_succ h0) (by rw [e]; exact fun z => nomatch z))
  obtain ⟨n, hn, e⟩ := C.run h (Nat.le_of_lt_succ h0)
  have hw : way m h (off m (SetTable.bits h % (m + 1)) (SetTable.bits h) n) = j0 := by
    show (nth m (runAt m (SetTable.bits h % (m + 1)) (SetTable.bits h)) (off m (SetTable.bits h % (m + 1)) (SetTable.bits h) n)).j = j0
    rw [nth_off, itL_run]
    exact e
  obtain ⟨K, k1, k2, k3⟩ := st_least (p := fun k => oAt owner (way m h k) = none) (off m (SetTable.bits h % (m + 1)) (SetTable.bits h) n) (by
    show oAt owner (way m h (off m (SetTable.bits h % (m + 1)) (SetTable.bits h) n)) = none
    rw [hw]
    exact free0)
  have hfree : SetTable.layClean.free m owner (SetTable.turns m) (SetTable.bits h % (m + 1)) (SetTable.bits h) = some (way m h K) := by
    refine free_spec m owner (SetTable.turns m) n _ _ K (by unfold SetTable.turns; omega) k1 (fun k hk => ?_) ?_
    · cases z : oAt owner (nth m (runAt m (SetTable.bits h % (m + 1)) (SetTable.bits h)) k).j with
      | none => exact absurd z (k3 k hk)
      | some _ => rfl
    · have z : oAt owner (nth m (runAt m (SetTable.bits h % (m + 1)) (SetTable.bits h)) K).j = none := k2
      rw [z] <;> rfl
  have inb : way m h K < owner.size := by rw [W.sz]; exact Nat.lt_succ_of_le way_in
  have self := oAt_set_self (some done.length) inb
  have mono : ∀ {i : Nat}, oAt owner i ≠ none → oAt (owner.setIfInBounds (way m h K) (some done.length)) i ≠ none := fun {i} hi => by
    by_cases c : i = way m h K
    · rw [c, self]; exact fun z => nomatch z
    · rw [oAt_set_ne _ c]; exact hi
  refine ⟨way m h K, hfree, ⟨by rw [Array.size_setIfInBounds]; exact W.sz, fun j k hj e => ?_, fun k hk => ?_, ⟨way m h K :: ps, by rw [List.length_cons, List.length_append, lp] <;> rfl, fun j hj e => ?_⟩⟩⟩
  · by_cases c : j = way m h K
    · rw [c, self] at e
      cases e
      exact ⟨h, K, by rw [List.getElem?_append_right (Nat.le_refl _), Nat.sub_self] <;> rfl, c.symm, fun k' hk' => mono (k3 k' hk')⟩
    · rw [oAt_set_ne _ c] at e
      obtain ⟨h', K', a1, a2, a3⟩ := W.at_ j k hj e
      exact ⟨h', K', by rw [List.getElem?_append_left (List.getElem?_eq_some_iff.mp a1).1]; exact a1, a2, fun k' hk' => mono (a3 k' hk')⟩
  · rw [List.length_append, List.length_singleton] at hk
    by_cases c : k < done.length
    · obtain ⟨j, hj, e⟩ := W.all k c
      exact ⟨j, hj, by rw [oAt_set_ne _ (fun z => by rw [z, k2] at e; cases e)]; exact e⟩
    · have ek : k = done.length := by omega
      exact ⟨way m h K, way_in, by rw [ek]; exact self⟩
  · by_cases c : j = way m h K
    · rw [c]; exact List.mem_cons_self
    · rw [oAt_set_ne _ c] at e
      exact List.mem_cons_of_mem _ (hin j hj e)
theorem lay_all {m : Nat} (C : Cyc m) : ∀ (rest done : List Int) (owner : Array (Option Nat)), L2.Own m done owner → done.length + rest.length ≤ m →
    ∃ o', rest.foldl (stepF m) (some (owner, done.length)) = some (o', (done ++ rest).length) ∧ L2.Own m (done ++ rest) o'
  | [], done, owner, W, _ => ⟨owner, by rw [List.append_nil] <;> rfl, by rw [List.append_nil]; exact W⟩
  | h :: rest, done, owner, W, hl => by
    rw [List.length_cons] at hl
    obtain ⟨j, e, W'⟩ := lay_one C W (by omega) h
    have hl' : (done ++ [h]).length = done.length + 1 := by rw [List.length_append] <;> rfl
    obtain ⟨o', f, W2⟩ := lay_all C rest (done ++ [h]) _ W' (by rw [hl']; omega)
    rw [List.append_assoc, hl'] at f
    rw [List.append_assoc] at W2
    exact ⟨o', by rw [List.foldl_cons, stepF_some e]; exact f, W2⟩
theorem lay_clean {m : Nat} (C : Cyc m) {hs : Array Int} (hn : hs.size ≤ m) : ∃ owner, SetTable.layClean m hs = some owner ∧ L2.Own m hs.toList owner := by
  obtain ⟨owner, f, W⟩ := lay_all C hs.toList [] _ (Own.init m) (by rw [Array.length_toList]; show 0 + hs.size ≤ m; omega)
  refine ⟨owner, ?_, W⟩
  rw [layClean_eq]
  have f' : hs.toList.foldl (stepF m) (some (Array.replicate (m + 1) none, 0)) = some (owner, ([] ++ hs.toList).length) := f
  rw [f'] <;> rfl
/-- the table laid anew -/
theorem laid_anew (t : SetTable) {hs : Array Int} {wanted M : Nat} (hw : SetTable.sizeAbove wanted - 1 = M) (C : Cyc M) (hn : hs.size ≤ M) :
    ∃ t' order, t.relaid hs wanted = some (t', order) ∧ order.toList.Perm (List.range hs.size) ∧ TabN t' (order.toList.map fun i => hs.getD i 0) ∧ t'.mask = M ∧ t'.led = t.led ∧ t'.plain = t.plain := by
  obtain ⟨owner, e, W⟩ := lay_clean C hn
  have hr : t.relaid hs wanted = some (tabOf t M owner, ((liveOf M owner).map (·.2)).toArray) := by
    rw [relaid_eq, hw, e] <;> rfl
  obtain ⟨r1, r2⟩ : Ris ((liveOf M owner).map (·.1)) ∧ ∀ x ∈ (liveOf M owner).map (·.1), x ∈ List.range (M + 1) := ris_live (fun j => owner.getD j none) (List.range (M + 1)) (by
    unfold Ris
    first | exact List.pairwise_lt_range | exact List.pairwise_lt_range _)
  have all2 : ∀ k, k < hs.size → k ∈ (liveOf M owner).map (·.2) := fun k hk => by
    obtain ⟨j, b1, b2⟩ := W.all k (by rw [Array.length_toList]; exact hk)
    exact List.mem_map.mpr ⟨(j, k), (mem_live W.sz).2 ⟨b1, b2⟩, rfl⟩
  have len : (liveOf M owner).length = hs.size := by
    obtain ⟨ps, p1, p2⟩ := W.ps
    have nd : ((liveOf M owner).map (·.1)).Nodup := List.Pairwise.imp (fun h => Nat.ne_of_lt h) r1
    have a := nat_nodup_len ((liveOf M owner).map (·.1)) ps nd fun x hx => by
      obtain ⟨⟨y, k⟩, hq, rfl⟩ := List.mem_map.mp hx
      obtain ⟨b1, b2⟩ := (mem_live W.sz).1 hq
      exact p2 y b1 (by rw [b2]; exact fun z => nomatch z)
    have b := nat_nodup_len (List.range hs.size) ((liveOf M owner).map (·.2)) List.nodup_range fun k hk => all2 k (List.mem_range.mp hk)
    rw [List.length_map, p1] at a
    rw [List.length_map, List.length_range] at b
    have z : hs.toList.length = hs.size := rfl
    omega
  refine ⟨tabOf t M owner, ((liveOf M owner).map (·.2)).toArray, hr, perm_range hs.size _ (by show ((liveOf M owner).map (·.2)).length = hs.size; rw [List.length_map]; exact len) all2, ⟨r1, rfl, ?_, C, fun x hx => Nat.le_of_lt_succ (List.mem_range.mp (r2 x hx)), fun i h j h1 h2 => ?_⟩, rfl, rfl, rfl⟩
  · show ((liveOf M owner).map (·.1)).toArray.size = (((liveOf M owner).map (·.2)).map fun i => hs.getD i 0).length
    rw [List.size_toArray, List.length_map, List.length_map, List.length_map]
  · have h1' : (((liveOf M owner).map (·.2)).map fun i => hs.getD i 0)[i]? = some h := h1
    have h2' : ((liveOf M owner).map (·.1))[i]? = some j := h2
    rw [List.getElem?_map, List.getElem?_map] at h1'
    rw [List.getElem?_map] at h2'
    cases hq : (liveOf M owner)[i]? with
    | none => rw [hq] at h2'; cases h2'
    | some q =>
      obtain ⟨y, k⟩ := q
      rw [hq] at h1' h2'
      have ej : y = j := Option.some.inj h2'
      subst ej
      have eh : hs.getD k 0 = h := Option.some.inj h1'
      obtain ⟨b1, b2⟩ := (mem_live W.sz).1 (List.mem_of_getElem? hq)
      obtain ⟨h0, K, a1, a2, a3⟩ := W.at_ y k b1 b2
      have e0 : hs.getD k 0 = h0 := by rw [Array.getD_eq_getD_getElem?, ← Array.getElem?_toList, a1] <;> rfl
      cases e0.symm.trans eh
      refine ⟨K, a2, fun k' hk' => ?_⟩
      show way M h k' ∈ (liveOf M owner).map (·.1)
      cases z : oAt owner (way M h k') with
      | none => exact absurd z (a3 k' hk')
      | some k2 => exact List.mem_map.mpr ⟨(way M h k', k2), (mem_live W.sz).2 ⟨way_in, z⟩, rfl⟩
theorem size_308 : SetTable.sizeAbove (SetTable.grown 77) = 512 := by decide +kernel
end Own
/-! Sets whose members are tuples of any depth with whole numbers in them. -/
namespace Own
open PySem PySem.Spec PyProof.Rows L2
mutual
/-- no text anywhere in the key -/
def noText : NestedKey → Bool
  | .text _ => false
  | .none => true
  | .num _ => true
  | .tup ks => noTexts ks
def noTexts : List NestedKey → Bool
  | [] => true
  | k :: ks => noText k && noTexts ks
end
/-- a member: where its tuple stands, and the key -/
abbrev NE := Addr × NestedKey
abbrev IsN (h : Heap) (p : NE) : Prop := NestedIs h p.2 (.ref p.1) ∧ p.2.depth ≤ 8 ∧ noText p.2 = true
section
variable {P : Program} {w : World}
/-- a question of the model's that is answered b for v, n levels down, and tells nothing -/
def AnsAt (P : Program) (w : World) (f : Value → Sem Bool) (b : Bool) (s : Shared) (v : Value) : Prop := ∀ (A : Around) (E : Value → Shared → Prop) (Q : Bool → Shared → Prop), Q b s → wpAny (model P w) A (f v) Q E s
theorem AnsAt.cls_tup {n : Nat} {s : Shared} {a : Addr} {o : Obj} {vs : Array Value} {m : Nat} (ho : s.heap.get? a = some o) (hc : o.cls = .type "tuple") (hd : o.data = .seq vs m) (hq : ∀ v ∈ vs.toList, AnsAt P w (ofAClassStatement n) false s v) : AnsAt P w (ofAClassStatement (n + 1)) false s (.ref a) := fun A E Q h => by
  unfold ofAClassStatement
  refine wpAny_bind (wpAny_typeOf (T := "tuple") ⟨o, ho, hc⟩ ?_)
  dsimp only
  have e : (("tuple" : String) == "tuple") = true := by decide
  simp only [e, if_true, Bool.not_true, Bool.false_eq_true, if_false]
  try refine wpAny_bind (wpAny_pure ?_)
  try simp only [Bool.not_true, Bool.false_eq_true, if_false]
  show wpAny _ _ (seqItems? (.ref a) >>= _) _ _ s
  refine wpAny_bind (wpAny_seqItems ho hd ?_)
  dsimp only
  refine wpAny_bind ?_
  show wpAny _ _ (forIn vs _ _) _ _ s
  rw [← Array.forIn_toList]
  refine wpAny_forIn_list _ (fun rest r z => r.1 = none ∧ z = s ∧ ∀ v ∈ rest, AnsAt P w (ofAClassStatement n) false s v) _ ?_ ?_ _ _ ⟨rfl, rfl, hq⟩
  · rintro v rest r z ⟨_, rfl, hall⟩
    refine wpAny_bind (hall v List.mem_cons_self _ _ _ ?_)
    simp only [Bool.false_eq_true, if_false]
    exact wpAny_pure ⟨rfl, rfl, fun u hu => hall u (List.mem_cons_of_mem _ hu)⟩
  · rintro ⟨r1, r2⟩ z ⟨hr, rfl, _⟩
    simp only at hr
    subst hr
    exact wpAny_pure h
theorem AnsAt.hby_tup {n : Nat} {s : Shared} {a : Addr} {o : Obj} {vs : Array Value} {m : Nat} (ho : s.heap.get? a = some o) (hc : o.cls = .type "tuple") (hd : o.data = .seq vs m) (hq : ∀ v ∈ vs.toList, AnsAt P w (hashByValue n) true s v) : AnsAt P w (hashByValue (n + 1)) true s (.ref a) := fun A E Q h => by
  have hT : s.TypeIs (.ref a) "tuple" := ⟨o, ho, hc⟩
  unfold hashByValue
  refine wpAny_bind (wpAny_specialOf hT F.slot_tuple_hash.lookup ?_)
  show wpAny _ _ (seqItems? (.ref a) >>= _) _ _ s
  refine wpAny_bind (wpAny_seqItems ho hd ?_)
  refine wpAny_bind ?_
  show wpAny _ _ (forIn vs _ _) _ _ s
  rw [← Array.forIn_toList]
  refine wpAny_forIn_list _ (fun rest r z => r.1 = none ∧ z = s ∧ ∀ v ∈ rest, AnsAt P w (hashByValue n) true s v) _ ?_ ?_ _ _ ⟨rfl, rfl, hq⟩
  · rintro v rest r z ⟨_, rfl, hall⟩
    refine wpAny_bind (hall v List.mem_cons_self _ _ _ ?_)
    simp only [Bool.not_true, Bool.false_eq_true, if_false]
    exact wpAny_pure ⟨rfl, rfl, fun u hu => hall u (List.mem_cons_of_mem _ hu)⟩
  · rintro ⟨r1, r2⟩ z ⟨hr, rfl, _⟩
    simp only at hr
    subst hr
    exact wpAny_pure h
mutual
theorem ans_key : ∀ (k : NestedKey) (v : Value) (n : Nat) (s : Shared), NestedIs s.heap k v → noText k = true → k.depth ≤ n → AnsAt P w (ofAClassStatement n) false s v ∧ AnsAt P w (hashByValue n) true s v
  | .none, _, n, s, x, _, _ => by
    cases x
    exact ⟨fun A E Q h => by cases n <;> exact wpAny_pure h, fun A E Q h => by cases n <;> exact wpAny_pure h⟩
  | .num i, _, n, s, x, _, _ => by
    cases x
    · exact ⟨fun A E Q h => by cases n <;> exact wpAny_pure h, fun A E Q h => by cases n <;> exact wpAny_pure h⟩
    · exact ⟨fun A E Q h => by cases n <;> exact wpAny_pure h, fun A E Q h => by cases n <;> exact wpAny_pure h⟩
  | .text y, _, n, s, x, hn, _ => by simp [noText] at hn
  | .tup ks, _, n, s, x, hn, hd => by
    cases x with
    | tup hg hc hdt hk =>
      simp only [NestedKey.depth] at hd
      simp only [noText] at hn
      cases n with
      | zero => omega
      | succ n =>
        have z := ans_keys ks _ n s hk hn (by omega)
        exact ⟨.cls_tup hg hc hdt fun v hv => (z v hv).1, .hby_tup hg hc hdt fun v hv => (z v hv).2⟩
theorem ans_keys : ∀ (ks : List NestedKey) (vs : List Value) (n : Nat) (s : Shared), NestedAll s.heap ks vs → noTexts ks = true → NestedKey.depthAll ks ≤ n → ∀ v ∈ vs, AnsAt P w (ofAClassStatement n) false s v ∧ AnsAt P w (hashByValue n) true s v
  | [], _, n, s, x, _, _, v, hv => by cases x; cases hv
  | k :: ks, _, n, s, x, hn, hd, v, hv => by
    cases x with
    | cons x1 x2 =>
      simp only [NestedKey.depthAll] at hd
      simp only [noTexts, Bool.and_eq_true] at hn
      rcases List.mem_cons.mp hv with e | hv
      · rw [e]; exact ans_key k _ n s x1 hn.1 (by omega)
      · exact ans_keys ks _ n s x2 hn.2 (by omega) v hv
end
variable {A : Around} {E : Value → Shared → Prop} {s : Shared}
/-- a search among such members shows nothing -/
theorem seen_n {p : NE} {Q : Bool → Shared → Prop} (hp : IsN s.heap p) {ys : List Value} (hy : ∀ y ∈ ys, ∃ q, y = Value.ref q.1 ∧ IsN s.heap q) (h : Q false s) : wpAny (model P w) A (searchCouldBeSeen (.ref p.1) ys) Q E s := by
  unfold searchCouldBeSeen
  refine wpAny_bind ?_
  refine wpAny_forIn_list _ (fun rest r z => r.1 = none ∧ z = s ∧ ∀ y ∈ rest, ∃ q, y = Value.ref q.1 ∧ IsN s.heap q) _ ?_ ?_ _ _ ⟨rfl, rfl, hy⟩
  · rintro v rest r z ⟨_, rfl, hall⟩
    obtain ⟨q, rfl, hq⟩ := hall v List.mem_cons_self
    have go : ∀ y ∈ rest, ∃ q, y = Value.ref q.1 ∧ IsN z.heap q := fun u hu => hall u (List.mem_cons_of_mem _ hu)
    dsimp only
    by_cases hv : (p.1 == q.1 || (carriedByValue (.ref p.1) && carriedByValue (.ref q.1))) = true
    · exact wp_if_pos hv (wpAny_pure ⟨rfl, rfl, go⟩)
    · refine wp_if_neg hv ?_
      refine wpAny_bind (quiet_key _ _ 8 _ hp.1 hp.2.1 _ _ _ ?_)
      simp only [Bool.not_true, Bool.false_eq_true, if_false]
      refine wpAny_bind (quiet_key _ _ 8 _ hq.1 hq.2.1 _ _ _ ?_)
      simp only [Bool.not_true, Bool.false_eq_true, if_false]
      refine wpAny_bind ((ans_key _ _ 8 _ hp.1 hp.2.2 hp.2.1).1 _ _ _ ?_)
      simp only [Bool.false_eq_true, if_false]
      refine wpAny_bind ((ans_key _ _ 8 _ hq.1 hq.2.2 hq.2.1).1 _ _ _ ?_)
      simp only [Bool.false_eq_true, if_false]
      exact wpAny_pure ⟨rfl, rfl, go⟩
  · rintro ⟨r1, r2⟩ z ⟨hr, rfl, _⟩
    simp only at hr
    subst hr
    exact wpAny_pure h
end
abbrev kh (w : World) (p : NE) : Int := p.2.hash w
abbrev erow (w : World) (p : NE) : Int × Value := (p.2.hash w, Value.ref p.1)
/-- the masks that come -/
def MkOk (m : Nat) : Prop := m = 7 ∨ m = 31 ∨ m = 127 ∨ m = 511
/-- at a stands a set with the members L, as the model lays them -/
structure NsR (w : World) (h : Heap) (a : Addr) (L : List NE) (es : Array (Int × Value)) (ep : Nat) (t : SetTable) : Prop where
  ob : ∃ o, h.get? a = some o ∧ o.ExactSet ∧ o.data = .set es ep t
  rows : es.toList = L.map (erow w)
  tab : TabN t (L.map (kh w))
  mko : MkOk t.mask
  nd : (L.map (·.2)).Nodup
  plain : t.plain = true
  led : w.params.followText "set-order" = true ∨ t.led = true
  room : L.length * 5 < t.mask * 3
  few : L.length < 300
section
variable {P : Program} {w : World} {A : Around} {E : Value → Shared → Prop} {s : Shared} {a : Addr} {L : List NE} {es : Array (Int × Value)} {ep : Nat} {t : SetTable} {h : Heap}
theorem NsR.size (R : NsR w h a L es ep t) : es.size = L.length := by
  have z := congrArg List.length R.rows
  rwa [Array.length_toList, List.length_map] at z
theorem NsR.fits (R : NsR w h a L es ep t) : t.fits es.size = true := by
  have h1 := R.tab.sz
  rw [List.length_map] at h1
  have h2 := R.size
  have h3 := R.room
  simp only [SetTable.fits, SetTable.fill, R.tab.dm, Bool.and_eq_true, beq_iff_eq, decide_eq_true_eq]
  refine ⟨by omega, ?_⟩
  show t.place.size + 0 ≤ t.mask
  omega
theorem NsR.entry (R : NsR w h a L es ep t) {i : Nat} {p : NE} (hp : L[i]? = some p) : es[i]? = some (erow w p) := by
  rw [← Array.getElem?_toList, R.rows, List.getElem?_map, hp]
  rfl
theorem NsR.mask_ok (R : NsR w h a L es ep t) : ¬ t.gaveWay = true := by
  unfold SetTable.gaveWay
  rw [R.tab.cyc.odd]
  decide
/-- the c-th step of the way of the hash z -/
abbrev stp (m : Nat) (z : Int) (c : Nat) : SetTable.Probe := nth m (runAt m (SetTable.bits z % (m + 1)) (SetTable.bits z)) c
theorem stp_add (m : Nat) (z : Int) (c q : Nat) : nth m (stp m z c) q = stp m z (c + q) := (nth_add m c _ q).symm
theorem stp_dummy (m : Nat) (z : Int) : ∀ (n : Nat) (p : SetTable.Probe), p.dummy = none → (nth m p n).dummy = none
  | 0, p, h => h
  | n + 1, p, h => stp_dummy m z n (adv m p) (by unfold adv; split <;> exact h)
/-- what a probe meets from the c-th step on -/
theorem NsR.meets (R : NsR w h a L es ep t) {k : NestedKey} {K c : Nat} (hc : c ≤ K) (hf : K - c < 10 * SetTable.turns t.mask) (hK : way t.mask (k.hash w) K ∉ t.place.toList) (hb : ∀ j, j < K → way t.mask (k.hash w) j ∈ t.place.toList) :
    (∃ q i p, q < K ∧ c ≤ q ∧ L[i]? = some p ∧ t.place.toList[i]? = some (way t.mask (k.hash w) q) ∧ (∀ (j i' : Nat) (p' : NE), c ≤ j → j < q → L[i']? = some p' → t.place.toList[i']? = some (way t.mask (k.hash w) j) → p'.2 ≠ k) ∧
      t.probe (fun i => (es[i]?.map (·.1)).getD 0) (k.hash w) (stp t.mask (k.hash w) c) = some (.candidate (way t.mask (k.hash w) q) i (stp t.mask (k.hash w) (q + 1)))) ∨
    ((∀ (j i' : Nat) (p' : NE), c ≤ j → j < K → L[i']? = some p' → t.place.toList[i']? = some (way t.mask (k.hash w) j) → p'.2 ≠ k) ∧
      t.probe (fun i => (es[i]?.map (·.1)).getD 0) (k.hash w) (stp t.mask (k.hash w) c) = some (.empty (way t.mask (k.hash w) K) none)) := by
  have ej : ∀ q, (nth t.mask (stp t.mask (k.hash w) c) q).j = way t.mask (k.hash w) (c + q) := fun q => congrArg SetTable.Probe.j (stp_add _ _ c q)
  have hash_of : ∀ (i : Nat) p, L[i]? = some p → (es[i]?.map (·.1)).getD 0 = kh w p := fun i p hp => by
    rw [R.entry hp]
    rfl
  have spec := go_spec t R.tab.ris R.tab.dm (fun i => (es[i]?.map (·.1)).getD 0) (k.hash w) (10 * SetTable.turns t.mask) (K - c) (stp t.mask (k.hash w) c) (stp_dummy t.mask (k.hash w) c _ rfl) hf
    (fun q hq => by rw [ej]; exact hb (c + q) (by omega)) (by rw [ej, show c + (K - c) = K by omega]; exact hK)
  have sz := R.tab.sz
  rw [List.length_map] at sz
  rcases spec with ⟨q, i, hq, hi, _, hno, hpr⟩ | ⟨hno, hpr⟩
  · refine .inl ⟨c + q, i, ?_⟩
    rw [ej] at hi hpr
    have hl : i < L.length := by
      have z := (List.getElem?_eq_some_iff.mp hi).1
      rw [Array.length_toList] at z
      omega
    refine ⟨L[i], by omega, by omega, List.getElem?_eq_getElem hl, hi, fun j i' p' h1 h2 h3 h4 ek => ?_, ?_⟩
    · refine hno (j - c) i' (by omega) (by rw [ej, show c + (j - c) = j by omega]; exact h4) ?_
      exact (hash_of i' p' h3).trans (congrArg (NestedKey.hash w) ek)
    · rw [stp_add] at hpr
      exact hpr
  · refine .inr ⟨fun j i' p' h1 h2 h3 h4 ek => ?_, ?_⟩
    · refine hno (j - c) i' (by omega) (by rw [ej, show c + (j - c) = j by omega]; exact h4) ?_
      exact (hash_of i' p' h3).trans (congrArg (NestedKey.hash w) ek)
    · rw [ej, show c + (K - c) = K by omega] at hpr
      exact hpr

/-- the rest of a turn at a candidate that isn't the key: the search goes on -/
theorem NsR.turn (R : NsR w s.heap a L es ep t) (hL : ∀ p ∈ L, IsN s.heap p) {x : NE} (hx : IsN s.heap x) (hu : A.units + 8 < cLine) {f i q : Nat} {p : NE} (hp : L[i]? = some p) (hi : t.place.toList[i]? = some (way t.mask (x.2.hash w) q)) {Q : SetFound → Shared → Prop}
    (yes : p.2 = x.2 → Q (.there none) s) (no : p.2 ≠ x.2 → wpAny (model P w) A (setSearchFrom a (.ref x.1) (x.2.hash w) true f (some (stp t.mask (x.2.hash w) (q + 1)))) Q E s) :
    wpAny (model P w) A (searchRest a (.ref x.1) (x.2.hash w) true f es t (way t.mask (x.2.hash w) q) i (stp t.mask (x.2.hash w) (q + 1))) Q E s := by
  obtain ⟨o, ho, _, hd⟩ := R.ob
  have ip := hL p (List.mem_of_getElem? hp)
  unfold searchRest
  rw [R.entry hp]
  dsimp only
  refine wpAny_bind (wpAny_holding ((nestedKind P w).eqBool (x := p.2) (y := x.2) hu ⟨ip.1, ip.2.1⟩ ⟨hx.1, hx.2.1⟩ ?_))
  refine wpAny_bind (wpAny_setState_of ho hd R.fits ?_)
  dsimp only
  by_cases e : p.2 = x.2
  · exact wp_if_pos (by simp [e]) (wpAny_pure (yes e))
  · refine wp_if_neg (by simp [e]) ?_
    try refine wpAny_bind (wpAny_pure ?_)
    rw [sameMem]
    dsimp only
    simp only [if_true, slot_live R.tab.ris hi, R.entry hp]
    refine wpAny_bind (wpAny_isSame_ref_self (wpAny_bind (wpAny_pure ?_)))
    simp only [if_true]
    exact wp_if_neg (by simp [e]) (no e)
/-- the search from the c-th step on: there, or the first free slot of the way -/
theorem NsR.from (R : NsR w s.heap a L es ep t) (hL : ∀ p ∈ L, IsN s.heap p) {x : NE} (hx : IsN s.heap x) (hu : A.units + 8 < cLine) {K : Nat} (hf : K < 10 * SetTable.turns t.mask) (hK : way t.mask (x.2.hash w) K ∉ t.place.toList)
    (hb : ∀ j, j < K → way t.mask (x.2.hash w) j ∈ t.place.toList) {Q : SetFound → Shared → Prop} (yes : x.2 ∈ L.map (·.2) → Q (.there none) s) (no : x.2 ∉ L.map (·.2) → Q (.free (way t.mask (x.2.hash w) K) false) s) :
    ∀ (f c : Nat) (stand : Option SetTable.Probe), stand.getD (t.probeStart (x.2.hash w)) = stp t.mask (x.2.hash w) c → c ≤ K → K - c < f →
      (∀ (i : Nat) (p : NE), L[i]? = some p → p.2 = x.2 → ∃ j, c ≤ j ∧ j < K ∧ t.place.toList[i]? = some (way t.mask (x.2.hash w) j)) →
      wpAny (model P w) A (setSearchFrom a (.ref x.1) (x.2.hash w) true f stand) Q E s := by
  intro f
  induction f with
  | zero => intro c _ _ _ h; exact absurd h (Nat.not_lt_zero _)
  | succ f ih =>
    intro c stand hst hc hfu hre
    obtain ⟨o, ho, _, hd⟩ := R.ob
    rw [setSearchFrom_succ]
    refine wpAny_bind (wpAny_setState_of ho hd R.fits ?_)
    dsimp only
    refine wp_if_neg R.mask_ok ?_
    try refine wpAny_bind (wpAny_pure ?_)
    rw [hst]
    rcases R.meets hc (by omega) hK hb with ⟨q, i, p, h1, h2, h3, h4, h5, h6⟩ | ⟨h5, h6⟩
    · rw [h6]
      dsimp only
      have go := R.turn (E := E) (P := P) (f := f) (Q := Q) hL hx hu h3 h4 (fun e => yes (List.mem_map.mpr ⟨p, List.mem_of_getElem? h3, e⟩)) fun ne => ih (q + 1) _ rfl (by omega) (by omega) fun i0 p0 g1 g2 => by
        obtain ⟨j, j1, j2, j3⟩ := hre i0 p0 g1 g2
        refine ⟨j, ?_, j2, j3⟩
        rcases Nat.lt_trichotomy j q with z | z | z
        · exact absurd g2 (h5 j i0 p0 j1 z g1 j3)
        · rw [z] at j3
          have s1 := slot_live R.tab.ris j3
          rw [slot_live R.tab.ris h4] at s1
          injection s1 with s1
          rw [← s1, h3] at g1
          exact absurd ((congrArg Prod.snd (Option.some.inj g1)).trans g2) ne
        · exact z
      by_cases hl : t.led = true
      · refine wp_if_neg (by simp [hl]) ?_
        try refine wpAny_bind (wpAny_pure ?_)
        exact go
      · refine wp_if_pos (by simp [hl]) (wpAny_bind (seen_n hx (fun y hy => ?_) ?_))
        · obtain ⟨e, he, rfl⟩ := List.mem_map.mp hy
          have he1 : e ∈ es ∧ e.1 = x.2.hash w := by simpa using he
          have he2 : e ∈ es.toList := by simpa using he1.1
          rw [R.rows] at he2
          obtain ⟨p2, hp2, rfl⟩ := List.mem_map.mp he2
          exact ⟨p2, rfl, hL p2 hp2⟩
        · refine wp_if_neg (by decide) ?_
          try refine wpAny_bind (wpAny_pure ?_)
          exact go
    · rw [h6]
      dsimp only
      refine wpAny_pure (no fun hm => ?_)
      obtain ⟨p0, hp0, e0⟩ := List.mem_map.mp hm
      obtain ⟨i0, hi0, g0⟩ := List.getElem_of_mem hp0
      have g1 : L[i0]? = some p0 := by rw [List.getElem?_eq_getElem hi0, g0]
      obtain ⟨j, j1, j2, j3⟩ := hre i0 p0 g1 e0
      exact h5 j i0 p0 j1 j2 g1 j3 e0
/-- the search that adding makes -/
theorem NsR.search (R : NsR w s.heap a L es ep t) (hL : ∀ p ∈ L, IsN s.heap p) {x : NE} (hx : IsN s.heap x) (hu : A.units + 8 < cLine) {Q : SetFound → Shared → Prop} (yes : x.2 ∈ L.map (·.2) → Q (.there none) s)
    (no : ∀ K, x.2 ∉ L.map (·.2) → way t.mask (x.2.hash w) K ∉ t.place.toList → (∀ j, j < K → way t.mask (x.2.hash w) j ∈ t.place.toList) → Q (.free (way t.mask (x.2.hash w) K) false) s) :
    wpAny (model P w) A (setSearch a (.ref x.1) (x.2.hash w) true) Q E s := by
  have room := R.room
  obtain ⟨K, hf, hK, hb⟩ := least_free R.tab (by rw [List.length_map]; omega) (x.2.hash w)
  have few : K < 100000 := by
    have z : 10 * SetTable.turns t.mask ≤ 5260 := by
      unfold SetTable.turns
      rcases R.mko with e | e | e | e <;> omega
    omega
  unfold setSearch
  refine R.from hL hx hu hf hK hb yes (fun n => no K n hK hb) 100000 0 none rfl (Nat.zero_le _) (by omega) fun i p hp e => ?_
  have sz := R.tab.sz
  rw [List.length_map] at sz
  have hl : i < t.place.toList.length := by
    have z := (List.getElem?_eq_some_iff.mp hp).1
    rw [Array.length_toList]
    omega
  obtain ⟨j, j1, j2⟩ := R.tab.before hK (i := i) (h := x.2.hash w) (by rw [List.getElem?_map, hp, ← e]; rfl) (List.getElem?_eq_getElem hl)
  exact ⟨j, Nat.zero_le _, j1, by rw [List.getElem?_eq_getElem hl, j2]⟩
end
end Own
/-! Adding to a set of keys of any depth. -/
namespace Own
open PySem PySem.Spec PyProof.Rows L2
theorem range_all {α : Type} (L : List α) : (List.range L.length).filterMap (fun i => L[i]?) = L := by
  induction L with
  | nil => rfl
  | cons x L ih =>
    rw [List.length_cons, List.range_succ_eq_map, List.filterMap_cons_some (f := fun i => (x :: L)[i]?) (b := x) rfl, List.filterMap_map]
    exact congrArg (x :: ·) ih
theorem picked {L : List NE} {w : World} {es : Array (Int × Value)} (he : es.toList = L.map (erow w)) : ∀ l : List Nat, (∀ i ∈ l, i < L.length) →
    l.filterMap (fun i => es[i]?) = (l.filterMap fun i => L[i]?).map (erow w) ∧ (l.filterMap fun i => L[i]?).map (kh w) = l.map fun i => (es.map (·.1)).getD i 0
  | [], _ => ⟨rfl, rfl⟩
  | i :: l, h => by
    obtain ⟨e1, e2⟩ := picked he l fun j hj => h j (List.mem_cons_of_mem _ hj)
    have hl := h i List.mem_cons_self
    have g1 : L[i]? = some L[i] := List.getElem?_eq_getElem hl
    have g2 : es[i]? = some (erow w L[i]) := by
      rw [← Array.getElem?_toList, he, List.getElem?_map, g1]
      rfl
    rw [List.filterMap_cons_some g1, List.filterMap_cons_some g2, List.map_cons, List.map_cons, List.map_cons, e1, e2]
    refine ⟨rfl, ?_⟩
    have g3 : (es.map (·.1))[i]? = some (kh w L[i]) := by
      rw [Array.getElem?_map, g2]
      rfl
    rw [Array.getD_eq_getD_getElem?, g3]
    rfl
section
variable {P : Program} {w : World} {A : Around} {E : Value → Shared → Prop} {s : Shared} {a : Addr} {L : List NE} {es : Array (Int × Value)} {ep : Nat} {t : SetTable} {h : Heap}
/-- a member stays one when the set changes -/
theorem isN_but {h h' : Heap} {p : NE} {o : Obj} (x : IsN h p) (ho : h.get? a = some o) (hd : o.data = .set es ep t) (hs : Heap.SameBut a h h') : IsN h' p := by
  refine ⟨NestedIs.at (fun b ob vs n hb hc => (hs.2 b fun e => ?_).trans hb) _ _ x.1, x.2⟩
  subst e
  rw [ho] at hb
  cases hb
  rw [hd] at hc
  cases hc
theorem isN_keep {h h' : Heap} {p : NE} (x : IsN h p) (hk : ∀ b o, h.get? b = some o → h'.get? b = some o) : IsN h' p := ⟨NestedIs.at (fun b ob _ _ hb _ => hk b ob hb) _ _ x.1, x.2⟩
/-- what stands at a before the table is laid anew -/
theorem ns_relay {o : Obj} (ho : s.heap.get? a = some o) (hx : o.ExactSet) (hd : o.data = .set es ep t) (he : es.toList = L.map (erow w)) (hsz : t.place.size = es.size) (hdm : t.dummies = #[]) (hfl : es.size ≤ t.mask)
    (nd : (L.map (·.2)).Nodup) (pl : t.plain = true) (ld : w.params.followText "set-order" = true ∨ t.led = true) (few : L.length < 300) {wanted M : Nat} (hw : SetTable.sizeAbove wanted - 1 = M) (hM : MkOk M) (hC : Cyc M) (hw2 : SetTable.sizeAbove wanted ≤ 512) (hn : L.length * 5 < M * 3)
    {Q : Unit → Shared → Prop} (hQ : ∀ h' L' es' ep' t', Heap.SameBut a s.heap h' → NsR w h' a L' es' ep' t' → L'.Perm L → Q () { s with heap := h' }) : wpAny (model P w) A (setRelay a wanted) Q E s := by
  have hl : es.size = L.length := by
    have z := congrArg List.length he
    rwa [Array.length_toList, List.length_map] at z
  have hf : t.fits es.size = true := by
    simp only [SetTable.fits, SetTable.fill, hdm, Bool.and_eq_true, beq_iff_eq, decide_eq_true_eq]
    refine ⟨hsz, ?_⟩
    show t.place.size + 0 ≤ t.mask
    omega
  obtain ⟨t', order, e, hp, T, em, el, epl⟩ := laid_anew t (hs := es.map (·.1)) (wanted := wanted) hw hC (by rw [Array.size_map]; omega)
  rw [Array.size_map, hl] at hp
  obtain ⟨r1, r2⟩ := picked he order.toList fun i hi => List.mem_range.mp (hp.mem_iff.mp hi)
  have r3 : (order.toList.filterMap fun i => L[i]?).Perm L := by
    have z := hp.filterMap fun i => L[i]?
    rwa [range_all] at z
  rw [← r2] at T
  have r0 : (order.filterMap (es[·]?)).toList = (order.toList.filterMap fun i => L[i]?).map (erow w) := by
    first | (rw [Array.toList_filterMap]; exact r1) | simpa using r1
  generalize (order.toList.filterMap fun i => L[i]?) = L2 at r0 r2 r3 T
  have hs2 : (order.filterMap (es[·]?)).size = es.size := by
    have z := congrArg List.length r0
    rw [Array.length_toList, List.length_map, r3.length_eq] at z
    omega
  rw [setRelay_eq]
  refine wpAny_bind (wpAny_setState_of ho hd hf ?_)
  dsimp only
  refine wp_if_neg (by rw [sizeLine_eq]; omega) ?_
  try refine wpAny_bind (wpAny_pure ?_)
  rw [e]
  dsimp only
  refine wpAny_bind ?_
  refine wp_if_neg (by rw [hs2]; simp) ?_
  try refine wpAny_bind (wpAny_pure ?_)
  refine wpAny_pure ?_
  dsimp only
  refine wpAny_storeSet_of ho hd (hQ _ L2 (order.filterMap (es[·]?)) (ep + 1) t' (Heap.SameBut.update ..) ⟨⟨_, store_at ho hd, ⟨hx.1, hx.2.1, hx.2.2⟩, rfl⟩, r0, T, by rw [em]; exact hM, (r3.map (·.2)).nodup_iff.mpr nd, by rw [epl]; exact pl, by rw [el]; exact ld, ?_, by rw [r3.length_eq]; exact few⟩ r3) (by rw [hs2, hl, sizeLine_eq]; omega)
  rw [r3.length_eq, em]
  exact hn
/-- adding x -/
theorem NsR.add (R : NsR w s.heap a L es ep t) (hL : ∀ p ∈ L, IsN s.heap p) {x : NE} (hx : IsN s.heap x) (hu : A.units + 8 < cLine) (few : L.length + 1 < 300) {Q : Bool → Shared → Prop}
    (hQ : ∀ b h' L' es' ep' t', Heap.SameBut a s.heap h' → NsR w h' a L' es' ep' t' → (x.2 ∈ L.map (·.2) → L' = L) → (x.2 ∉ L.map (·.2) → L'.Perm (x :: L)) → Q b { s with heap := h' }) :
    wpAny (model P w) A (setAddHashed a (.ref x.1) (x.2.hash w)) Q E s := by
  obtain ⟨o, ho, ex, hd⟩ := R.ob
  have hl := R.size
  have room := R.room
  unfold setAddHashed
  refine wpAny_holding ?_
  rw [show (100000 : Nat) = 99999 + 1 from rfl, setAddHashedIn_succ]
  refine wpAny_bind (wpAny_setState_of ho hd R.fits ?_)
  dsimp only
  refine wp_if_neg (by simp [byScan, Value.scannable]) ?_
  try refine wpAny_bind (wpAny_pure ?_)
  refine wpAny_bind (R.search hL hx hu (fun hm => ?_) fun K hm hK hb => ?_)
  · dsimp only
    exact wpAny_pure (hQ false s.heap L es ep t (Heap.SameBut.refl a s.heap) R (fun _ => rfl) fun z => absurd hm z)
  · dsimp only
    refine wpAny_bind (wpAny_setState_of ho hd R.fits ?_)
    dsimp only
    obtain ⟨n0, q1, q2, q3, q4, q5, q6, q9⟩ := R.tab.put hK hb
    have hpl : (t.put (way t.mask (x.2.hash w) K)).1.plain = true := by rw [q6]; exact R.plain
    rw [List.length_map] at q2 q9
    rw [q1]
    generalize (t.put (way t.mask (x.2.hash w) K)).1 = t1 at q1 q3 q4 q5 q6 q9 hpl ⊢
    clear q1
    generalize n0 = n at q2 q3 ⊢
    dsimp only
    first
      | (refine wpAny_bind ?_; refine wp_if_pos hpl ?_; refine (ans_key _ _ 8 _ hx.1 hx.2.2 hx.2.1).2 _ _ _ ?_)
      | refine wp_if_pos hpl (wpAny_bind ((ans_key _ _ 8 _ hx.1 hx.2.2 hx.2.1).2 _ _ _ ?_))
    simp only [if_true]
    have he : (SetTable.insertAt es n (x.2.hash w, Value.ref x.1)).toList = (L.take n ++ x :: L.drop n).map (erow w) := by
      rw [SetTable.toList_insertAt, R.rows, List.map_append, List.map_cons, List.map_take, List.map_drop]
    have hh : (L.take n ++ x :: L.drop n).map (kh w) = (L.map (kh w)).take n ++ x.2.hash w :: (L.map (kh w)).drop n := by
      rw [List.map_append, List.map_cons, List.map_take, List.map_drop]
    rw [← hh] at q3
    have pm := put_perm L n x
    generalize SetTable.insertAt es n (x.2.hash w, Value.ref x.1) = es1 at he ⊢
    generalize L.take n ++ x :: L.drop n = L1 at he hh q3 pm
    have ln : L1.length = L.length + 1 := pm.length_eq
    have hes : es1.size = L.length + 1 := by
      have z := congrArg List.length he
      rw [Array.length_toList, List.length_map] at z
      omega
    have nd1 : (L1.map (·.2)).Nodup := (pm.map (·.2)).nodup_iff.mpr (List.nodup_cons.mpr ⟨hm, R.nd⟩)
    refine wpAny_bind (wpAny_storeSet_of ho hd ?_ (by rw [hes, sizeLine_eq]; omega))
    have sb : Heap.SameBut a s.heap (s.heap.update a (Obj.putSet es1 t1)) := Heap.SameBut.update ..
    have ho1 := store_at (es' := es1) (t' := t1) ho hd
    generalize s.heap.update a (Obj.putSet es1 t1) = h1 at sb ho1 ⊢
    have ld1 : w.params.followText "set-order" = true ∨ t1.led = true := by rw [q5]; exact R.led
    have dm1 : t1.dummies = #[] := q3.dm
    by_cases hf : t1.tooFull = true
    · have full : (L.length + 1) * 5 ≥ t1.mask * 3 := by
        have z := hf
        unfold SetTable.tooFull at z
        rw [decide_eq_true_eq, q9] at z
        exact z
      have sz1 : t1.place.size = es1.size := by
        have z := q3.sz
        rw [List.length_map] at z
        omega
      have which : ((L.length = 4 ∧ t.mask = 7) ∨ (L.length = 18 ∧ t.mask = 31) ∨ (L.length = 76 ∧ t.mask = 127)) := by
        rcases R.mko with e | e | e | e
        · rw [q4, e] at full; rw [e] at room; exact .inl ⟨by omega, e⟩
        · rw [q4, e] at full; rw [e] at room; exact .inr (.inl ⟨by omega, e⟩)
        · rw [q4, e] at full; rw [e] at room; exact .inr (.inr ⟨by omega, e⟩)
        · exfalso; rw [q4, e] at full; omega
      have go : ∀ M, SetTable.sizeAbove (SetTable.grown (L.length + 1)) - 1 = M → MkOk M → Cyc M → SetTable.sizeAbove (SetTable.grown (L.length + 1)) ≤ 512 → (L.length + 1) * 5 < M * 3 →
          wpAny (model P w) A (setRelay a (SetTable.grown (L.length + 1))) (fun _ z => wpAny (model P w) A (pure true) Q E z) E { s with heap := h1 } := fun M m1 m2 mc m3 m4 => by
        refine ns_relay (s := { s with heap := h1 }) ho1 ⟨ex.1, ex.2.1, ex.2.2⟩ rfl he sz1 dm1 (by rw [hes, q4]; rcases which with ⟨_, e⟩ | ⟨_, e⟩ | ⟨_, e⟩ <;> omega) nd1 hpl ld1 (by omega) m1 m2 mc m3 (by rw [ln]; exact m4) ?_
        intro h2 L2 es2 ep2 t2 sb2 R2 pm2
        exact wpAny_pure (hQ true h2 L2 es2 ep2 t2 (sb.trans sb2) R2 (fun z => absurd z hm) fun _ => pm2.trans pm)
      first
        | (refine wpAny_bind ?_; refine wp_if_pos (by simp [hf]) ?_)
        | (refine wp_if_pos (by simp [hf]) ?_; refine wpAny_bind ?_)
      rw [hl]
      rcases which with ⟨e, _⟩ | ⟨e, _⟩ | ⟨e, _⟩
      · exact go 31 (by rw [e, size_20]) (.inr (.inl rfl)) cyc31 (by rw [e, size_20]; decide) (by omega)
      · exact go 127 (by rw [e, size_76]) (.inr (.inr (.inl rfl))) cyc127 (by rw [e, size_76]; decide) (by omega)
      · exact go 511 (by rw [e, size_308]) (.inr (.inr (.inr rfl))) cyc511 (by rw [e, size_308]; decide) (by omega)
    · first
        | refine wp_if_neg (by simp [hf]) ?_
        | (refine wpAny_bind ?_; refine wp_if_neg (by simp [hf]) ?_; refine wpAny_pure ?_)
      refine wpAny_pure (hQ true h1 L1 es1 (ep + 1) t1 sb ⟨⟨_, ho1, ⟨ex.1, ex.2.1, ex.2.2⟩, rfl⟩, he, q3, by rw [q4]; exact R.mko, nd1, hpl, ld1, ?_, by omega⟩ (fun z => absurd z hm) fun _ => pm)
      have z := hf
      unfold SetTable.tooFull at z
      rw [decide_eq_true_eq, q9] at z
      omega
end
end Own
/-! set(xs), xs a list of keys of any depth. -/
namespace Own
open PySem PySem.Spec PyProof.Rows L2
/-- L holds just what is among the first of ks -/
structure Held (ks L : List NE) : Prop where
  sub : ∀ p ∈ L, p ∈ ks
  all : ∀ p ∈ ks, p.2 ∈ L.map (·.2)
  len : L.length ≤ ks.length
theorem Held.nil : Held [] [] := ⟨fun _ h => h, fun _ h => (nomatch h), Nat.le_refl _⟩
theorem Held.same {ks L : List NE} {x : NE} (g : Held ks L) (hm : x.2 ∈ L.map (·.2)) : Held (ks ++ [x]) L := by
  refine ⟨fun p hp => List.mem_append_left _ (g.sub p hp), fun p hp => ?_, by rw [List.length_append]; exact Nat.le_add_right_of_le g.len⟩
  rcases List.mem_append.mp hp with z | z
  · exact g.all p z
  · rw [List.mem_singleton.mp z]; exact hm
theorem Held.more {ks L L' : List NE} {x : NE} (g : Held ks L) (pm : L'.Perm (x :: L)) : Held (ks ++ [x]) L' := by
  refine ⟨fun p hp => ?_, fun p hp => ?_, by rw [pm.length_eq, List.length_append]; exact Nat.succ_le_succ g.len⟩
  · rcases List.mem_cons.mp (pm.mem_iff.mp hp) with e | z
    · rw [e]; exact List.mem_append_right _ (List.mem_singleton.mpr rfl)
    · exact List.mem_append_left _ (g.sub p z)
  · rw [(pm.map (·.2)).mem_iff, List.map_cons]
    rcases List.mem_append.mp hp with z | z
    · exact List.mem_cons_of_mem _ (g.all p z)
    · rw [List.mem_singleton.mp z]; exact List.mem_cons_self
theorem take_one {α : Type} {l : List α} {i : Nat} {x : α} (h : l[i]? = some x) : l.take (i + 1) = l.take i ++ [x] := by
  rw [List.take_succ, h] <;> rfl
section
variable {P : Program} {w : World} {A : Around} {E : Value → Shared → Prop} {s : Shared}
theorem NsR.keep {h h' : Heap} {a : Addr} {L : List NE} {es : Array (Int × Value)} {ep : Nat} {t : SetTable} (R : NsR w h a L es ep t) (ha : ∀ o, h.get? a = some o → h'.get? a = some o) : NsR w h' a L es ep t := by
  obtain ⟨o, ho, r⟩ := R.ob
  exact ⟨⟨o, ha o ho, r⟩, R.rows, R.tab, R.mko, R.nd, R.plain, R.led, R.room, R.few⟩
abbrev newSet (w : World) : Obj := { cls := .type "set", dict := none, data := .set #[] 0 (.fresh 0 0 (!w.params.followText "set-order")) }
theorem ns_fresh {h : Heap} {a : Addr} (ho : h.get? a = some (newSet w)) : NsR w h a [] #[] 0 (.fresh 0 0 (!w.params.followText "set-order")) where
  ob := ⟨_, ho, ⟨rfl, rfl, rfl⟩, rfl⟩
  rows := rfl
  tab := ⟨List.Pairwise.nil, rfl, rfl, cyc7, fun x hx => (by cases hx), fun i h j hi => (by simp at hi)⟩
  mko := .inl rfl
  nd := List.nodup_nil
  plain := rfl
  led := by
    show _ ∨ (!w.params.followText "set-order") = true
    cases w.params.followText "set-order"
    · exact .inr rfl
    · exact .inl rfl
  room := by
    show 0 * 5 < 7 * 3
    decide
  few := by
    show 0 < 300
    decide
/-- the loop of set.update over what walks the keys ks -/
theorem ns_update {I : Addr} {fp wr : List Addr} {G : Array GenState → Array GenState → Prop} {n : Nat} {Pv : Nat → Value → Prop} {St : Nat → Shared → Prop} {R : Result → Shared → Prop}
    (W : WalksS P w A.in1 I fp wr G n Pv St) (S : Addr) (hSf : S ∉ fp) (ks : List NE) (hn : n = ks.length) (few : ks.length < 300) (hval : ∀ i v, Pv i v → ∃ p, ks[i]? = some p ∧ v = .ref p.1)
    (h0 : Heap) (hk : ∀ p ∈ ks, IsN h0 p) (hS0 : h0.get? S = none) (hw0 : ∀ b ∈ wr, h0.get? b = none) (hu : A.in1.units + 8 < cLine) :
    ∀ (k i : Nat) (s : Shared), n - i = k → i ≤ n → St i s → (∀ b o, h0.get? b = some o → s.heap.get? b = some o) → (∃ L es ep t, NsR w s.heap S L es ep t ∧ Held (ks.take i) L) →
      (∀ s' L es ep t, Moved (S :: wr) G s s' → NsR w s'.heap S L es ep t → Held ks L → (∀ b o, h0.get? b = some o → s'.heap.get? b = some o) → R (.ok (.ret .none)) s') →
      codeAny (model P w) A (.builtin "set.update.loop" ⟨[.ref S, .ref I], []⟩) R s := by
  have hSw : S ∉ wr := fun h => hSf (W.sub _ h)
  have up : ∀ b ∈ wr, b ∈ S :: wr := fun b hb => List.mem_cons_of_mem _ hb
  have old : ∀ {s s' : Shared}, Moved wr G s s' → (∀ b o, h0.get? b = some o → s.heap.get? b = some o) → ∀ b o, h0.get? b = some o → s'.heap.get? b = some o := fun hm hkp b o e =>
    hm.heap b o (fun hb => by rw [hw0 b hb] at e; cases e) (hkp b o e)
  intro k
  induction k with
  | zero =>
    intro i s hk' hi hst hkp ⟨L, es, ep, t, hS, g⟩ hR
    obtain rfl : i = n := by omega
    refine codeAny_builtin F.entry_set_update_loop ?_
    rw [Around.under_plainId F.plain_set_update_loop _]
    show wpAny _ A.in1 (pyNext (.ref I) >>= _) _ _ s
    refine wpAny_bind (W.done s _ _ hst fun s' hm => ?_)
    show wpAny _ A.in1 (ret Value.none) _ _ s'
    rw [hn, List.take_length] at g
    exact wpAny_pure (hR s' L es ep t (hm.mono up) (hS.keep fun o e => hm.heap S o hSw e) g (old hm hkp))
  | succ k ih =>
    intro i s hk' hi hst hkp ⟨L, es, ep, t, hS, g⟩ hR
    have hlt : i < n := by omega
    refine codeAny_builtin F.entry_set_update_loop ?_
    rw [Around.under_plainId F.plain_set_update_loop _]
    show wpAny _ A.in1 (pyNext (.ref I) >>= _) _ _ s
    refine wpAny_bind (W.item i s _ _ hlt hst fun v s' hP hst' hm => ?_)
    obtain ⟨p, hp, rfl⟩ := hval i v hP
    have hkp' := old hm hkp
    have gl := g.len
    rw [List.length_take] at gl
    have hS' : NsR w s'.heap S L es ep t := hS.keep fun o e => hm.heap S o hSw e
    have hL' : ∀ q ∈ L, IsN s'.heap q := fun q hq => isN_keep (hk q (List.mem_of_mem_take (g.sub q hq))) hkp'
    have hx : IsN s'.heap p := isN_keep (hk p (List.mem_of_getElem? hp)) hkp'
    show wpAny _ A.in1 (holding [Value.ref p.1] (setAdd S (.ref p.1)) >>= _) _ _ s'
    refine wpAny_bind (wpAny_holding ?_)
    unfold setAdd
    refine wpAny_holding ?_
    refine wpAny_bind ((nestedKind P w).pyHash hu ⟨hx.1, hx.2.1⟩ ?_)
    refine NsR.add (s := { s' with toks := s'.toks + (nestedKind P w).draws p.2 }) hS' hL' hx hu (by omega) fun b h' L' es' ep' t' sb hS2 c1 c2 => ?_
    have g' : Held (ks.take (i + 1)) L' := by
      rw [take_one hp]
      rcases Classical.em (p.2 ∈ L.map (·.2)) with c | c
      · rw [c1 c]; exact g.same c
      · exact g.more (c2 c)
    have hkp2 : ∀ b o, h0.get? b = some o → h'.get? b = some o := fun b o e => (sb.2 b (fun z => by rw [z, hS0] at e; cases e)).trans (hkp' b o e)
    refine wpAny_pure ⟨plainId_quiet F.plain_set_update_loop _, ih (i + 1) _ (by omega) hlt (W.frame _ s' _ _ hst' (Nat.le_add_right _ _) fun b hb o e => ?_) hkp2 ⟨L', es', ep', t', hS2, g'⟩ fun s'' L2 es2 ep2 t2 hm'' hS'' g'' hkp'' => ?_⟩
    · rw [sb.2 b (fun h : b = S => hSf (by rw [← h]; exact hb))]; exact e
    · refine hR s'' L2 es2 ep2 t2 (Moved.trans W.gtrans ((hm.mono up).then_heap (Nat.le_add_right _ _) fun b o hb e => ?_) hm'') hS'' g'' hkp''
      rw [sb.2 b (fun h : b = S => hb (by rw [h]; exact List.mem_cons_self))]; exact e
end
end Own
/-! set(xs), len(set), sorted(set): keys of any depth. -/
namespace Own
open PySem PySem.Spec PyProof.Rows L2
section
variable {P : Program} {w : World} {A : Around} {E : Value → Shared → Prop} {s : Shared}
/-- __init__ of the new set fills it -/
theorem ns_init {l : Addr} {items : Array Value} {ks : List NE} (hh : A.handled = none) (hl : s.heap.IsList l items) (hit : items.toList = ks.map fun p => Value.ref p.1) (hk : ∀ p ∈ ks, IsN s.heap p) (few : ks.length < 300) (hu : A.units + 16 < cLine)
    {R : Value → Shared → Prop} (h : ∀ (h' : Heap) (tk : Nat) L es ep t, NsR w h' s.heap.objs.size L es ep t → Held ks L → (∀ b o, s.heap.get? b = some o → h'.get? b = some o) → R .none { s with heap := h', toks := tk }) :
    wpAny (model P w) A.in1 (Builtin.«set.__init__» ⟨[.ref s.heap.objs.size, .ref l], []⟩) (fun fin z => match fin with | .done f => wants R E (.ok f) z | .again c => c.quiet = true ∧ codeAny (model P w) A c (wants R E) z) (fun e z => wants R E (.error e) z) { s with heap := s.heap.push (newSet w) } := by
  have hisz : items.size = ks.length := by
    have q := congrArg List.length hit
    rwa [Array.length_toList, List.length_map] at q
  obtain ⟨ol, hol, hcl, nl, hdl⟩ := hl
  have hlS : l < s.heap.objs.size := Heap.lt_size hol
  have hol' : (s.heap.push (newSet w)).get? l = some ol := Heap.get?_push_of_some _ hol
  have hl1 : (s.heap.push (newSet w)).IsList l items := ⟨_, hol', hcl, nl, hdl⟩
  obtain ⟨ocls, odict, odata, oslots⟩ := ol
  simp only at hcl hdl
  subst hcl hdl
  have hS : (s.heap.push (newSet w)).get? s.heap.objs.size = some (newSet w) := Heap.get?_push_size _ rfl
  have hsls := F.sub_list_set
  have hslf := F.sub_list_frozenset
  have hne : (Value.type "list" == Value.type "dict") = false := by decide
  have hz1 : (s.heap.push (newSet w)).objs.size = s.heap.objs.size + 1 := Heap.size_push ..
  have none_of : ∀ b, s.heap.objs.size ≤ b → s.heap.get? b = none := fun b hb => by
    cases q : s.heap.get? b with
    | none => rfl
    | some o => exact absurd (Nat.lt_of_lt_of_le (Heap.lt_size q) hb) (Nat.lt_irrefl _)
  have hval : ∀ (i : Nat) (v : Value), items[i]? = some v → ∃ p, ks[i]? = some p ∧ v = .ref p.1 := fun i v hv => by
    have q : items.toList[i]? = some v := by rw [Array.getElem?_toList]; exact hv
    rw [hit, List.getElem?_map] at q
    obtain ⟨p, hp, e⟩ := Option.map_eq_some_iff.mp q
    exact ⟨p, hp, e.symm⟩
  unfold Builtin.«set.__init__» noKeywords Builtin.Frozenset.updateFrom
  generalize hPI : pyIter = PI
  wp_walk
  subst hPI
  refine wpAny_pyIter_list hl1 ?_
  refine wpAny_bind (wpAny_runValue ?_)
  have hneI : l ≠ (s.heap.push (newSet w)).objs.size := by
    rw [hz1]; exact Nat.ne_of_lt (Nat.lt_succ_of_lt hlS)
  have hSf : s.heap.objs.size ∉ [(s.heap.push (newSet w)).objs.size, l] := by
    rw [hz1]; simp only [List.mem_cons, List.mem_singleton, List.not_mem_nil, or_false, not_or]
    exact ⟨Nat.ne_of_lt (Nat.lt_succ_self _), Nat.ne_of_gt hlS⟩
  refine ns_update ((Walks.list (by simp [hh]) _ l hneI items).toS) s.heap.objs.size hSf ks hisz few hval s.heap hk (none_of _ (Nat.le_refl _)) (fun b hb => none_of b (by
      rw [List.mem_singleton.mp hb, hz1]
      exact Nat.le_succ _)) (by simp only [Around.in1_units]; omega) (items.size - 0) 0 _ (by omega) (Nat.zero_le _)
    ⟨⟨_, Heap.get?_push_size _ rfl, rfl, rfl⟩, (hl1.push _)⟩ (fun b o e => Heap.get?_push_of_some _ (Heap.get?_push_of_some _ e)) ⟨[], #[], 0, _, ns_fresh (Heap.get?_push_of_some _ hS), Held.nil⟩ ?_
  intro s' L es ep t hm hS' g' hkp
  obtain ⟨h', g2, d', tk', os'⟩ := s'
  have eg : g2 = s.gens := hm.gens
  have ed : d' = s.drawn := hm.drawn
  have eo : os' = s.os := hm.os
  subst eg ed eo
  show wpAny _ _ _ _ _ _
  refine wpAny_pure ?_
  show wpAny _ _ (ret Value.none) _ _ _
  exact wpAny_pure (h h' tk' L es ep t hS' g' hkp)
/-- set(xs): a new set of just the keys of xs -/
theorem call_setN0 {l : Addr} {items : Array Value} {ks : List NE} {Q : Value → Shared → Prop} (hh : A.handled = none) (hl : s.heap.IsList l items) (hit : items.toList = ks.map fun p => Value.ref p.1) (hk : ∀ p ∈ ks, IsN s.heap p) (few : ks.length < 300) (hu : A.units + 32 < cLine)
    (h : ∀ (h' : Heap) (tk : Nat) L es ep t, NsR w h' s.heap.objs.size L es ep t → Held ks L → (∀ b o, s.heap.get? b = some o → h'.get? b = some o) → Q (.ref s.heap.objs.size) { s with heap := h', toks := tk }) :
    wpAny (model P w) A (call (.type "set") [.ref l]) Q E s := by
  obtain ⟨c, tl, hmro⟩ := F.called_set.mro
  have hmade := F.called_set.made
  have hsub := F.called_set.sub
  refine wpAny_call (codeAny_of_tree ?_)
  show wpAny _ _ (callAny (.type "set") _) _ _ _
  refine wpAny_pure ⟨Code.quiet_builtin _ (by decide +kernel), codeAny_builtin F.entry_type_call ?_⟩
  rw [Around.under_plain (weight_type_call_type "set" [.ref l] []) rfl]
  have h1 := F.called_set.notType
  have h2 := F.called_set.canCreate
  have hct := F.typeCall_set_1 (.ref l)
  repeat (any_goals (first | assumption | wp_step))
  refine codeAny_mono (code_set_led1 (.ref l) (E := E) (Q₁ := fun obj z => obj = .ref s.heap.objs.size ∧ z = { s with heap := s.heap.push (newSet w) }) ⟨rfl, rfl⟩) fun r z hr => ?_
  cases r with
  | error e => exact hr
  | ok fl =>
    cases fl with
    | ret obj =>
      obtain ⟨rfl, rfl⟩ := hr
      have hT : Shared.TypeIs { s with heap := s.heap.push (newSet w) } (.ref s.heap.objs.size) "set" := ⟨_, Heap.get?_push_size _ rfl, rfl⟩
      have hli := F.called_set.init.lookup
      have hbi := F.called_set.init.bind (.ref s.heap.objs.size)
      repeat (any_goals (first | assumption | wp_step))
      refine codeAny_mono (codeAny_call_builtin (R := wants (fun r z => r = .none ∧ ∃ h' tk L es ep t, z = { s with heap := h', toks := tk } ∧ NsR w h' s.heap.objs.size L es ep t ∧ Held ks L ∧ (∀ b o, s.heap.get? b = some o → h'.get? b = some o)) E) F.called_set.init.plain F.entry_set_init
        (check_set_init_1 hT (ns_init (P := P) (by simp [hh]) hl hit hk few (by simp only [Around.in1_units]; omega) fun h' tk L es ep t a1 a2 a3 => ⟨rfl, h', tk, L, es, ep, t, rfl, a1, a2, a3⟩))) fun r₂ z hr₂ => ?_
      cases r₂ with
      | error e => exact hr₂
      | ok fl₂ =>
        cases fl₂ with
        | ret r =>
          obtain ⟨rfl, h', tk, L, es, ep, t, rfl, a1, a2, a3⟩ := hr₂
          repeat (any_goals (first | assumption | wp_step))
          exact h _ _ _ _ _ _ a1 a2 a3
        | _ => exact hr₂.elim
    | _ => exact hr.elim
end
end Own
/-! Rules: set(xs), len(set), sorted(set); the members are tuples of any depth with whole numbers in them. -/
namespace Own
open PySem PySem.Spec PyProof.Rows L2 PySem.W
/-- at a stands a set with just the members L -/
def NsC (w : World) (a : Addr) (L : List NE) (h : Heap) : Prop := ∃ es ep t, NsR w h a L es ep t
def NsO (w : World) (a : Addr) (L : List NE) : HO := .ext (NsC w a L)
/-- a member, of what is tracked -/
abbrev KeyN (K : PySem.W.Frag) (H : Hp) (p : NE) : Prop := KeyAt K H (.ref p.1) p.2 ∧ p.2.depth ≤ 8 ∧ noText p.2 = true
theorem KeyN.keep {K : PySem.W.Frag} {H H' : Hp} {p : NE} (h : KeyN K H p) (s : TupK H H') : KeyN K H' p := ⟨h.1.keep s, h.2⟩
mutual
/-- what reads as the key's data is the key -/
theorem keyAt_dv {K : PySem.W.Frag} {H : Hp} : ∀ (k : NestedKey) (v : V), Dv K H v k.data → KeyAt K H v k
  | .none, _, h => by cases h; exact .non
  | .num i, _, h => by cases h; exact .int i
  | .text x, _, h => by cases h; exact .str x
  | .tup ks, _, h => by
    cases h with
    | tup s r => exact .tup s (keyAll_dv ks _ r)
theorem keyAll_dv {K : PySem.W.Frag} {H : Hp} : ∀ (ks : List NestedKey) (vs : List V), DvAll K H vs (NestedKey.datas ks) → KeyAll K H vs ks
  | [], _, h => by cases h; exact .nil
  | k :: ks, _, h => by
    cases h with
    | cons h1 h2 => exact .cons (keyAt_dv k _ h1) (keyAll_dv ks _ h2)
end
abbrev datN (p : NE) : Dat := (V.ref p.1, p.2.data)
theorem nsO_ok {P : Program} {w : World} {H : Hp} {h : Heap} {a : Addr} {L : List NE} (R : NsC w a L h) : ObjOk P w H h a (NsO w a L) := by
  obtain ⟨es, ep, t, r⟩ := id R
  obtain ⟨o, ho, _⟩ := r.ob
  refine ⟨R, ⟨o, ho⟩, fun h1 h2 p k => ?_⟩
  obtain ⟨es, ep, t, r⟩ := p
  exact ⟨es, ep, t, r.keep k⟩
section
variable {X : Cx} {pins : List (Addr × Obj)} {σ : L2.St} {H : Hp} {s : Shared}
theorem KeyN.is (I : Inv X pins σ H s) {p : NE} (h : KeyN X.K H p) : IsN s.heap p := ⟨KeyAt.is I h.1 _ rfl, h.2⟩
theorem vals_refN : ∀ {ks : List NE} {us : List Value}, Vals (ks.map fun p => V.ref p.1) us → us = ks.map fun p => Value.ref p.1
  | [], _, r => by cases r; rfl
  | p :: ks, _, r => by
    cases r with
    | cons r1 r2 =>
      cases r1
      rw [vals_refN r2]
      rfl
theorem refN_vals : ∀ (ks : List NE), Vals (ks.map fun p => V.ref p.1) (ks.map fun p => Value.ref p.1)
  | [] => .nil
  | p :: ks => .cons rfl (refN_vals ks)
/-- set(xs) -/
def rSetN (w : World) (K : PySem.W.Frag) : List V → Hp → VK → Prop := fun xs H Q => ∃ (l : Addr) (ks : List NE), xs = [.ref l] ∧ SqL K H l (ks.map fun p => V.ref p.1) ∧ (∀ p ∈ ks, KeyN K H p) ∧ ks.length < 300 ∧
  ∀ a L, H a = none → Held ks L → (L.map (·.2)).Nodup → Q (.ref a) (upd H a (NsO w a L))
theorem call_setN (hc : X.calm = true) (hu : X.A.units + 64 < cLine) : CallR X (.type "set") (rSetN X.w X.K) := by
  intro pins s σ H xs us Q I r h
  obtain ⟨l, ks, rfl, hl, hk, few, q⟩ := h
  obtain ⟨u, rfl, rx⟩ := r.one
  cases rx
  obtain ⟨its, rv, pl, hz⟩ := I.list hl
  have hn : H s.heap.objs.size = none := I.hok.fresh (Nat.le_refl _)
  refine call_setN0 (P := X.prog) (w := X.w) (ks := ks) (I.ok.hd hc) pl.isList (by simpa using vals_refN rv) (fun p hp => (hk p hp).is I) few (by omega) fun h' tk L es ep t R g k => ?_
  exact ⟨.ref s.heap.objs.size, _, I.laid (t' := tk) (o := NsO X.w s.heap.objs.size L) k (Nat.le_refl _) (nsO_ok ⟨es, ep, t, R⟩), rfl, q _ L hn g R.nd⟩
/-- len(set) -/
def rLenS (w : World) : List V → Hp → VK → Prop := fun xs H Q => ∃ (a : Addr) (L : List NE), xs = [.ref a] ∧ H a = some (NsO w a L) ∧ Q (.int L.length) H
theorem call_lenS : CallR X (.builtin "len") (rLenS X.w) := by
  intro pins s σ H xs us Q I r h
  obtain ⟨a, L, rfl, ha, q⟩ := h
  obtain ⟨u, rfl, rx⟩ := r.one
  cases rx
  obtain ⟨es, ep, t, R⟩ := (I.hok a _ ha).1
  obtain ⟨o, ho, hx, hd⟩ := R.ob
  have few := R.few
  exact call_len_set ho hx hd R.fits (by rw [R.size]; omega) ⟨.int L.length, H, I.tok _, ⟨s.toks + 1, by rw [R.size]⟩, q⟩
theorem ref_inj {a b : Addr} (h : Value.ref a = Value.ref b) : a = b := by injection h
/-- the members' values in any order are L in some order -/
theorem perm_back {us vs : List Value} (pm : vs.Perm us) : ∀ {L : List NE}, us = L.map (fun p => Value.ref p.1) → ∃ L' : List NE, vs = L'.map (fun p => Value.ref p.1) ∧ L'.Perm L := by
  induction pm with
  | nil =>
    intro L hm
    cases L with
    | nil => exact ⟨[], rfl, .nil⟩
    | cons x L => cases hm
  | cons x _ ih =>
    intro L hm
    cases L with
    | nil => cases hm
    | cons p L =>
      rw [List.map_cons] at hm
      injection hm with e1 e2
      obtain ⟨L', e, q⟩ := ih e2
      exact ⟨p :: L', by rw [List.map_cons, e, e1], q.cons p⟩
  | swap x y l =>
    intro L hm
    cases L with
    | nil => cases hm
    | cons p L =>
      cases L with
      | nil =>
        rw [List.map_cons] at hm
        injection hm with e1 e2
        cases e2
      | cons p2 L =>
        rw [List.map_cons, List.map_cons] at hm
        injection hm with e1 e2
        injection e2 with e2 e3
        exact ⟨p2 :: p :: L, by rw [List.map_cons, List.map_cons, e1, e2, e3], List.Perm.swap p p2 L⟩
  | trans _ _ ih1 ih2 =>
    intro L hm
    obtain ⟨L2, e2, q2⟩ := ih2 hm
    obtain ⟨L1, e1, q1⟩ := ih1 e2
    exact ⟨L1, e1, q1.trans q2⟩
/-- sorted(set): the members, ascending -/
def rSortS (w : World) (K : PySem.W.Frag) : List V → Hp → VK → Prop := fun xs H Q => ∃ (a : Addr) (L : List NE), xs = [.ref a] ∧ H a = some (NsO w a L) ∧ (∀ p ∈ L, KeyN K H p ∧ Dv K H (.ref p.1) p.2.data ∧ p.2.data.depth ≤ 40) ∧ AllAlike (L.map fun p => p.2.data) ∧ Sortable (L.map fun p => p.2.data) ∧
  ∀ (L' : List NE) p, L'.Perm L → (L'.map (·.2)).Nodup → H p = none → Q (.ref p) (upd H p (.lst ((sortD (L'.map datN)).map (·.1))))
theorem call_sortS (hc : X.calm = true) (hu : X.A.units + 64 < cLine) : CallR X (.builtin "sorted") (rSortS X.w X.K) := by
  intro pins s σ H xs us Q I r h
  obtain ⟨a, L, rfl, ha, hk, al, so, q⟩ := h
  obtain ⟨u, rfl, rx⟩ := r.one
  cases rx
  obtain ⟨es, ep, t, R⟩ := (I.hok a _ ha).1
  obtain ⟨o, ho, hx, hd⟩ := R.ob
  have hsz := R.size
  have few := R.few
  have nd := R.nd
  refine Calls.call_function_entry PyProof.Rows.kind_sorted PyProof.Rows.plain_sorted PyProof.Rows.entry_sorted (PyProof.Rows.args_sorted1 _) ?_
  unfold Builtin.«sorted»
  refine wpAny_bind (m := checkCount "sorted" 1 1 _) (wpAny_pure ?_)
  refine wpAny_bind (collect_set (A := X.A.in1) (I.ok.hd hc) ⟨o, ho, hx.1, hd⟩ R.fits (by unfold scanBound; omega) R.tab.ris R.led fun s1 vs k1 hz g1 o1 pm => ?_)
  rw [R.rows, List.map_map] at pm
  obtain ⟨L', rfl, pL⟩ := perm_back pm (L := L) rfl
  have e1 : s1 = { s with heap := s1.heap, gens := s1.gens, drawn := s1.drawn, toks := s1.toks } := by
    cases s1
    cases s
    cases o1
    rfl
  have I1 : Inv X pins σ H { s with heap := s1.heap, gens := s1.gens, drawn := s1.drawn, toks := s1.toks } := I.call (ch := []) (Un.kept k1) (I.hok.kept k1) (by rw [g1]; exact I.bare) (fun _ z => nomatch z)
  rw [← e1] at I1
  have hmem : ∀ p ∈ L', p ∈ L := fun p hp => pL.mem_iff.mp hp
  have hd' : ∀ b ∈ L'.map datN, Dv X.K H b.1 b.2 ∧ b.2.depth ≤ 40 := fun b hb => by
    obtain ⟨p, hp, rfl⟩ := List.mem_map.mp hb
    exact (hk p (hmem p hp)).2
  have eb : (L'.map datN).map (·.2) = L'.map fun p => p.2.data := by rw [List.map_map]; rfl
  have sub : ∀ d, d ∈ (L'.map datN).map (·.2) → d ∈ L.map fun p => p.2.data := fun d hd => by
    rw [eb] at hd
    obtain ⟨p, hp, rfl⟩ := List.mem_map.mp hd
    exact List.mem_map.mpr ⟨p, hmem p hp, rfl⟩
  have al' : AllAlike ((L'.map datN).map (·.2)) := fun d hd d' hd' => al d (sub d hd) d' (sub d' hd')
  have so' : Sortable ((L'.map datN).map (·.2)) := by
    rcases so with z | z
    · exact .inl fun d hd => z d (sub d hd)
    · exact .inr fun d hd => z d (sub d hd)
  have rv : Vals ((L'.map datN).map (·.1)) (L'.map fun p => Value.ref p.1) := by
    rw [List.map_map]
    exact refN_vals L'
  generalize hbs : L'.map datN = bs at hd' al' so' rv
  generalize (L'.map fun p => Value.ref p.1) = us at rv
  have hlb : bs.length = L.length := by rw [← hbs, List.length_map, pL.length_eq]
  have hL : us.length ≤ sizeLine := by rw [← Vals.length rv, List.length_map, hlb, sizeLine_eq]; omega
  refine wpAny_bind (wpAny_newList ?_ hL)
  have hoL : (s1.heap.push (seqObj "list" us.toArray 0)).get? s1.heap.objs.size = some (seqObj "list" us.toArray 0) := Heap.get?_push_size _ rfl
  show wpAny _ _ _ _ _ { s1 with heap := s1.heap.push (seqObj "list" us.toArray 0) }
  have old : ∀ b o, s1.heap.get? b = some o → (sortingHeap (s1.heap.push (seqObj "list" us.toArray 0)) s1.heap.objs.size us).get? b = some o := fun b o e =>
    sortingHeap_old (Nat.ne_of_lt (Heap.lt_size e)) (Heap.get?_push_of_some _ e)
  have er : EachIs (fun v (b : Dat) => ∃ as, Reads (sortingHeap (s1.heap.push (seqObj "list" us.toArray 0)) s1.heap.objs.size us) v b.2 as) us bs :=
    (each_reads I1 (fun b hb => (hd' b hb).1) rv).mono fun v b z => by
      obtain ⟨as, r⟩ := z
      exact ⟨as, PyProof.Rows.Reads.keeps old r⟩
  refine wpAny_bind (wpAny_holding (wpAny_call_entry PyProof.Rows.slot_list_sort ⟨_, hoL, rfl⟩ PyProof.Rows.entry_list_sort (list_sort_vals (κ := dataKind (sortingHeap (s1.heap.push (seqObj "list" us.toArray 0)) s1.heap.objs.size us) (bs.map (·.2))) (s := { s1 with heap := s1.heap.push (seqObj "list" us.toArray 0) }) hoL ?_ hL ?_) (PyProof.Rows.args_list_sort _)))
  · exact SortsAt.data (s := { s1 with heap := sortingHeap (s1.heap.push (seqObj "list" us.toArray 0)) s1.heap.objs.size us }) (each_map (R := fun v d => ∃ as, Reads _ v d as) (fun b : Dat => b.2) er) al' so' (fun d hd2 => by
      obtain ⟨b, hb, rfl⟩ := List.mem_map.mp hd2
      have z := (hd' b hb).2
      show X.A.units + 2 + b.2.depth < cLine
      omega)
  · refine ⟨_, rfl, ?_⟩
    have eo : EachIs RDat (sortVals (dataKind (sortingHeap (s1.heap.push (seqObj "list" us.toArray 0)) s1.heap.objs.size us) (bs.map (·.2))) false us us) (sortD bs) := sortVals_data false (each_dat rv) er al'
    obtain ⟨e', he'⟩ := PyProof.Rows.sortedHeap_at (vs := us) (out := (sortVals (dataKind (sortingHeap (s1.heap.push (seqObj "list" us.toArray 0)) s1.heap.objs.size us) (bs.map (·.2))) false us us).toArray) hoL
    have hn : H s1.heap.objs.size = none := I1.hok.fresh (Nat.le_refl _)
    refine wpAny_pure ⟨_, rfl, .ref s1.heap.objs.size, _, I1.laid (t' := s1.toks) (o := .lst ((sortD bs).map (·.1))) (fun b u e => ?_) (Nat.le_refl _) ⟨?_, _, e', vals_dat eo, he'⟩, rfl, ?_⟩
    · have hb : b < s1.heap.objs.size := Heap.lt_size e
      rw [PyProof.Rows.sortedHeap_old (Nat.ne_of_lt hb) (by rw [size_push']; exact Nat.lt_succ_of_lt hb)]
      exact Heap.get?_push_of_some _ e
    · rw [List.length_map, sortD_len, hlb, sizeLine_eq]
      omega
    · rw [← hbs]
      exact q L' _ pL ((pL.map (·.2)).nodup_iff.mpr nd) hn
end
end Own
/-! Lists of shapes or of changes put into a set: how many there are, and the set sorted. -/
namespace Own
open PySem PySem.Spec PyProof.Rows L2 PySem.W
/-- data that are keys: tuples of any depth with whole numbers in them -/
class AsKey (α : Type) [DecidableEq α] [DatumOrd α] where
  toK : α → NestedKey
  tup : ∀ a : α, ∃ ds, Datum.toD a = PyData.tuple ds
  data : ∀ a : α, (toK a).data = Datum.toD a
  inj : ∀ {a b : α}, toK a = toK b → a = b
  depth : ∀ a, (toK a).depth ≤ 8
  noText : ∀ a, Own.noText (toK a) = true
theorem num_depth : ∀ is : List Int, NestedKey.depthAll (is.map .num) = 0
  | [] => rfl
  | i :: is => by
    rw [List.map_cons, NestedKey.depthAll, num_depth is]
    rfl
theorem num_noText : ∀ is : List Int, noTexts (is.map .num) = true
  | [] => rfl
  | i :: is => by
    rw [List.map_cons, noTexts, num_noText is]
    rfl
theorem kF_depth (f : Fg) : (kF f).depth = 1 := by
  show NestedKey.depthAll (f.items.map .num) + 1 = 1
  rw [num_depth]
theorem kF_noText (f : Fg) : noText (kF f) = true := by
  show noTexts (f.items.map .num) = true
  exact num_noText _
instance : AsKey Fg where
  toK := kF
  tup f := ⟨_, rfl⟩
  data := kF_data
  inj := kF_inj
  depth f := by rw [kF_depth]; decide
  noText := kF_noText
instance : AsKey Ch where
  toK := kC
  tup c := ⟨_, rfl⟩
  data := kC_data
  inj := kC_inj
  depth c := by
    show max (kF c.1).depth (max (kF c.2).depth 0) + 1 ≤ 8
    rw [kF_depth, kF_depth]
    decide
  noText c := by
    show (noText (kF c.1) && (noText (kF c.2) && true)) = true
    rw [kF_noText, kF_noText]
    rfl
theorem nd_len {α : Type} [DecidableEq α] : ∀ (l D : List α), l.Nodup → (∀ x ∈ l, x ∈ D) → l.length ≤ D.length ∧ (l.length = D.length → D.Perm l)
  | [], D, _, _ => ⟨Nat.zero_le _, fun e => by rw [List.eq_nil_of_length_eq_zero e.symm]⟩
  | x :: l, D, hn, hs => by
    obtain ⟨h1, h2⟩ := List.nodup_cons.mp hn
    have hx : x ∈ D := hs x List.mem_cons_self
    obtain ⟨a, b⟩ := nd_len l (D.erase x) h2 fun y hy => (List.mem_erase_of_ne fun e => h1 (by rw [← e]; exact hy)).2 (hs y (List.mem_cons_of_mem _ hy))
    have e := List.length_erase_of_mem hx
    have hp : 0 < D.length := List.length_pos_of_mem hx
    refine ⟨by rw [List.length_cons]; omega, fun z => ?_⟩
    rw [List.length_cons] at z
    exact (List.perm_cons_erase hx).trans ((b (by omega)).cons x)
/-- each once -/
def uniq {α : Type} [DecidableEq α] : List α → List α
  | [] => []
  | x :: xs => if x ∈ uniq xs then uniq xs else x :: uniq xs
theorem uniq_mem {α : Type} [DecidableEq α] {x : α} : ∀ {xs : List α}, x ∈ uniq xs ↔ x ∈ xs
  | [] => Iff.rfl
  | y :: xs => by
    unfold uniq
    split
    · rename_i h
      rw [uniq_mem, List.mem_cons]
      exact ⟨.inr, fun z => z.elim (fun e => e ▸ uniq_mem.mp h) id⟩
    · rw [List.mem_cons, List.mem_cons, uniq_mem]
theorem uniq_nodup {α : Type} [DecidableEq α] : ∀ xs : List α, (uniq xs).Nodup
  | [] => List.nodup_nil
  | y :: xs => by
    unfold uniq
    split
    · exact uniq_nodup xs
    · rename_i h
      exact List.nodup_cons.mpr ⟨h, uniq_nodup xs⟩
section
variable {α : Type} [DecidableEq α] [DatumOrd α] [AsKey α]
theorem keysOf {K : PySem.W.Frag} {H : Hp} : ∀ {as : List α} {xs : List V}, DvAll K H xs (as.map Datum.toD) → ∃ ks : List NE, xs = ks.map (fun p => V.ref p.1) ∧ ks.map (·.2) = as.map AsKey.toK ∧ (∀ p ∈ ks, KeyN K H p ∧ Dv K H (.ref p.1) p.2.data)
  | [], _, h => by cases h; exact ⟨[], rfl, rfl, fun _ z => nomatch z⟩
  | a :: as, v :: vs, .cons h1 h2 => by
    obtain ⟨ks, e1, e2, e3⟩ := keysOf h2
    obtain ⟨ds, ed⟩ := AsKey.tup a
    have hb : ∃ b, v = V.ref b := by
      have h1' := h1
      rw [ed] at h1'
      cases h1' with
      | @tup b _ _ s r => exact ⟨b, rfl⟩
    obtain ⟨b, rfl⟩ := hb
    refine ⟨(b, AsKey.toK a) :: ks, by rw [List.map_cons, e1], by rw [List.map_cons, List.map_cons, e2], fun p hp => ?_⟩
    rcases List.mem_cons.mp hp with e | hp
    · subst e
      have hd : Dv K H (.ref b) (AsKey.toK a).data := by rw [AsKey.data]; exact h1
      exact ⟨⟨keyAt_dv _ _ hd, AsKey.depth a, AsKey.noText a⟩, hd⟩
    · exact e3 p hp
/-- what a set holds, as data -/
theorem held_as {as : List α} {ks L : List NE} (e : ks.map (·.2) = as.map AsKey.toK) (g : Held ks L) (nd : (L.map (·.2)).Nodup) : ∃ bs : List α, L.map (·.2) = bs.map AsKey.toK ∧ bs.Nodup ∧ ∀ x, x ∈ bs ↔ x ∈ as := by
  have back : ∀ (M : List NE), (∀ p ∈ M, p.2 ∈ as.map AsKey.toK) → ∃ bs : List α, M.map (·.2) = bs.map AsKey.toK ∧ ∀ x ∈ bs, x ∈ as := fun M => by
    induction M with
    | nil => intro _; exact ⟨[], rfl, fun _ z => nomatch z⟩
    | cons p M ih =>
      intro h
      obtain ⟨bs, e1, e2⟩ := ih fun q hq => h q (List.mem_cons_of_mem _ hq)
      obtain ⟨a, ha, ea⟩ := List.mem_map.mp (h p List.mem_cons_self)
      refine ⟨a :: bs, by rw [List.map_cons, List.map_cons, e1, ea], fun x hx => ?_⟩
      rcases List.mem_cons.mp hx with z | z
      · rw [z]; exact ha
      · exact e2 x z
  obtain ⟨bs, e1, e2⟩ := back L fun p hp => by rw [← e]; exact List.mem_map.mpr ⟨p, g.sub p hp, rfl⟩
  refine ⟨bs, e1, ?_, fun x => ⟨e2 x, fun hx => ?_⟩⟩
  · rw [e1] at nd
    exact List.Pairwise.of_map _ (fun a b hne e => hne (congrArg _ e)) nd
  · have h1 : AsKey.toK x ∈ ks.map (·.2) := by rw [e]; exact List.mem_map.mpr ⟨x, hx, rfl⟩
    obtain ⟨p, hp, ep⟩ := List.mem_map.mp h1
    have h2 := g.all p hp
    rw [ep, e1] at h2
    obtain ⟨y, hy, ey⟩ := List.mem_map.mp h2
    rw [← AsKey.inj ey]
    exact hy
theorem held_len {as : List α} {ks L : List NE} (e : ks.map (·.2) = as.map AsKey.toK) (g : Held ks L) (nd : (L.map (·.2)).Nodup) : decide ((L.length : Int) = ks.length) = decide as.Nodup := by
  obtain ⟨bs, e1, nb, hm⟩ := held_as e g nd
  have l1 : L.length = bs.length := by
    have z := congrArg List.length e1
    rwa [List.length_map, List.length_map] at z
  have l2 : ks.length = as.length := by
    have z := congrArg List.length e
    rwa [List.length_map, List.length_map] at z
  obtain ⟨a, b⟩ := nd_len bs as nb fun x hx => (hm x).1 hx
  refine decide_eq_decide.mpr ⟨fun z => ?_, fun z => ?_⟩
  · exact (b (by omega)).nodup_iff.mpr nb
  · have p := (List.perm_ext_iff_of_nodup nb z).mpr hm
    rw [l1, l2, p.length_eq]
/-- the set sorted, as data -/
theorem held_sort [Tri α] {as : List α} {ks L L' : List NE} (e : ks.map (·.2) = as.map AsKey.toK) (g : Held ks L) (p : L'.Perm L) (nd : (L'.map (·.2)).Nodup) : (sortD (L'.map datN)).map (·.2) = (sortT (uniq as)).map Datum.toD := by
  have g' : Held ks L' := ⟨fun x hx => g.sub x (p.mem_iff.mp hx), fun x hx => (p.map (·.2)).mem_iff.mpr (g.all x hx), by rw [p.length_eq]; exact g.len⟩
  obtain ⟨bs, e1, nb, hm⟩ := held_as e g' nd
  have e2 : (L'.map datN).map (·.2) = bs.map Datum.toD := by
    rw [List.map_map]
    have z := congrArg (List.map NestedKey.data) e1
    rw [List.map_map, List.map_map] at z
    refine (show L'.map ((fun x => x.2) ∘ datN) = L'.map (NestedKey.data ∘ fun x => x.2) from rfl).trans (z.trans ?_)
    exact List.map_congr_left fun a _ => AsKey.data a
  rw [sortD_T e2, sortT_set nb (uniq_nodup as) fun x => (hm x).trans uniq_mem.symm]
end
end Own
/-! What the program calls changes, lists of shapes, lists of changes. -/
namespace Own
open PySem PySem.Spec PyProof.Rows L2 PySem.W
abbrev sIsC : Stmt := top1 13
abbrev sArS : Stmt := top1 14
abbrev sArC : Stmt := top1 15
abbrev sBeh : Stmt := top1 16
structure Bi3 (mg : Str → Option Value) : Prop extends Bi1 mg where
  list : mg "list" = none
  set : mg "set" = none
  sorted : mg "sorted" = none
def fOk (f : Fg) : Prop := isFig (dF f) = true
def cOk (c : Ch) : Prop := fOk c.1 ∧ fOk c.2 ∧ c.1 ≠ c.2
theorem fig_ex {d : PyData} (h : isFig d = true) : ∃ f : Fg, d = dF f ∧ fOk f := by
  match d, h with
  | .tuple [a], h =>
    have h' := h
    rw [fig_one] at h'
    obtain ⟨i, rfl, _, _⟩ := numIn_some h'
    exact ⟨⟨[i]⟩, rfl, h⟩
  | .tuple [a, b], h =>
    have h' := h
    rw [fig_two, Bool.and_eq_true, Bool.and_eq_true] at h'
    obtain ⟨i, rfl, _, _⟩ := numIn_some h'.1.1
    obtain ⟨j, rfl, _, _⟩ := numIn_some h'.1.2
    exact ⟨⟨[i, j]⟩, rfl, h⟩
/-- data that is a change -/
def isCh : PyData → Bool
  | .tuple [a, b] => isFig a && isFig b && !PyData.eqv a b
  | _ => false
theorem ch_two (a b : PyData) : isCh (.tuple [a, b]) = (isFig a && isFig b && !PyData.eqv a b) := rfl
theorem ch_len {ds : List PyData} (h : ds.length ≠ 2) : isCh (.tuple ds) = false := by
  match ds, h with
  | [], _ => rfl
  | [_], _ => rfl
  | [_, _], h => exact absurd rfl h
  | _ :: _ :: _ :: _, _ => rfl
theorem ch_not {d : PyData} (h : isT d = false) : isCh d = false := by
  cases d with
  | tuple ds => cases h
  | _ => rfl
theorem ch_ex {d : PyData} (h : isCh d = true) : ∃ c : Ch, d = dC c ∧ cOk c := by
  match d, h with
  | .tuple [a, b], h =>
    rw [ch_two, Bool.and_eq_true, Bool.and_eq_true, Bool.not_eq_true'] at h
    obtain ⟨f, rfl, hf⟩ := fig_ex h.1.1
    obtain ⟨g, rfl, hg⟩ := fig_ex h.1.2
    refine ⟨(f, g), rfl, hf, hg, fun e => ?_⟩
    have z : PyData.eqv (dF f) (dF g) = decide (f = g) := Datum.eqv f g
    rw [h.2, decide_eq_true e] at z
    cases z
theorem cOk_ch {c : Ch} (h : cOk c) : isCh (dC c) = true := by
  obtain ⟨h1, h2, h3⟩ := h
  show (isFig (dF c.1) && isFig (dF c.2) && !PyData.eqv (dF c.1) (dF c.2)) = true
  have z : PyData.eqv (dF c.1) (dF c.2) = decide (c.1 = c.2) := Datum.eqv c.1 c.2
  rw [h1, h2, z, decide_eq_false h3]
  rfl
/-- a list of what a test lets through, as Lean data -/
theorem all_ex {α : Type} [DecidableEq α] [DatumOrd α] {f : PyData → Bool} {ok : α → Prop} (h : ∀ {d}, f d = true → ∃ a : α, d = Datum.toD a ∧ ok a) : ∀ {ds : List PyData}, ds.all f = true → ∃ as : List α, ds = as.map Datum.toD ∧ ∀ a ∈ as, ok a
  | [], _ => ⟨[], rfl, fun _ z => nomatch z⟩
  | d :: ds, e => by
    rw [List.all_cons, Bool.and_eq_true] at e
    obtain ⟨a, rfl, ha⟩ := h e.1
    obtain ⟨as, rfl, hs⟩ := all_ex h e.2
    refine ⟨a :: as, rfl, fun x hx => ?_⟩
    rcases List.mem_cons.mp hx with z | z
    · rw [z]; exact ha
    · exact hs x z
theorem map_inj {α : Type} [DecidableEq α] [DatumOrd α] [AsKey α] : ∀ {as bs : List α}, as.map Datum.toD = bs.map Datum.toD → as = bs
  | [], [], _ => rfl
  | [], _ :: _, h => by cases h
  | _ :: _, [], h => by cases h
  | a :: as, b :: bs, h => by
    rw [List.map_cons, List.map_cons] at h
    injection h with h1 h2
    have e := Datum.eqv a b
    rw [h1, Datum.eqv b b, decide_eq_true rfl] at e
    rw [of_decide_eq_true e.symm, map_inj h2]
/-- the data is a list of different shapes, at least one -/
def AreF (d : PyData) (fs : List Fg) : Prop := d = .list (fs.map Datum.toD) ∧ (∀ f ∈ fs, fOk f) ∧ fs ≠ [] ∧ fs.Nodup
/-- a list of different changes -/
def AreC (d : PyData) (cs : List Ch) : Prop := d = .list (cs.map Datum.toD) ∧ (∀ c ∈ cs, cOk c) ∧ cs.Nodup
def lenD : PyData → Nat
  | .list ds => ds.length
  | _ => 0
def isL : PyData → Bool
  | .list _ => true
  | _ => false
theorem kit_list (d : PyData) : kitB (tyD d) "list" = some (isL d) := by
  cases d with
  | none => exact (by decide +kernel : kitB "NoneType" "list" = some false)
  | bool _ => exact (by decide +kernel : kitB "bool" "list" = some false)
  | int _ => exact (by decide +kernel : kitB "int" "list" = some false)
  | str _ => exact (by decide +kernel : kitB "str" "list" = some false)
  | list _ => exact (by decide +kernel : kitB "list" "list" = some true)
  | tuple _ => exact (by decide +kernel : kitB "tuple" "list" = some false)
  | dict _ => exact (by decide +kernel : kitB "dict" "list" = some false)
def spIsC (K : PySem.W.Frag) : Sp := fun vs H Q _ => ∃ (v : V) (d : PyData), vs = [v] ∧ Dv K H v d ∧ ∀ H', Same H H' → Q (.bl (isCh d)) H'
def spArS (K : PySem.W.Frag) : Sp := fun vs H Q _ => ∃ (v : V) (d : PyData), vs = [v] ∧ Dv K H v d ∧ lenD d < 300 ∧ ∀ H', Same H H' → ((∀ fs, ¬ AreF d fs) → Q (.bl false) H') ∧ ∀ fs, AreF d fs → Q (.bl true) H'
def spArC (K : PySem.W.Frag) : Sp := fun vs H Q _ => ∃ (v : V) (d : PyData), vs = [v] ∧ Dv K H v d ∧ lenD d < 300 ∧ ∀ H', Same H H' → ((∀ cs, ¬ AreC d cs) → Q (.bl false) H') ∧ ∀ cs, AreC d cs → Q (.bl true) H'
mutual
theorem dp_plain {K : PySem.W.Frag} {H : Hp} : ∀ {v : V} {d : PyData}, Dv K H v d → d.plain = true → Dp K H v d
  | _, _, .non, _ => .non
  | _, _, .bl b, _ => .bl b
  | _, _, .int i, _ => .int i
  | _, _, .str x, _ => .str x
  | _, _, .lst h r, p => .lst h (dp_all r (by simpa [PyData.plain] using p))
  | _, _, .tup h r, p => .tup h (dp_all r (by simpa [PyData.plain] using p))
  | _, _, .dct h r, p => by simp [PyData.plain] at p
theorem dp_all {K : PySem.W.Frag} {H : Hp} : ∀ {vs : List V} {ds : List PyData}, DvAll K H vs ds → PyData.plainAll ds = true → DpAll K H vs ds
  | _, _, .nil, _ => .nil
  | _, _, .cons h r, p => by
    rw [PyData.plainAll, Bool.and_eq_true] at p
    exact .cons (dp_plain h p.1) (dp_all r p.2)
end
theorem lay_map {α : Type} [DecidableEq α] [DatumOrd α] (h : ∀ a : α, (Datum.toD a).canLay0 = true) : ∀ as : List α, PyData.canLayAll0 (as.map Datum.toD) = true
  | [] => rfl
  | a :: as => by
    rw [List.map_cons, PyData.canLayAll0, h a, lay_map h as]
    rfl
theorem lay_F (f : Fg) : (dF f).canLay0 = true := by
  show PyData.canLay0 (.tuple (f.items.map Datum.toD)) = true
  rw [PyData.canLay0]
  exact lay_map (fun i => rfl) f.items
theorem lay_C (c : Ch) : (dC c).canLay0 = true := by
  show PyData.canLay0 (.tuple [dF c.1, dF c.2]) = true
  rw [PyData.canLay0, PyData.canLayAll0, PyData.canLayAll0, PyData.canLayAll0, lay_F, lay_F]
  rfl
theorem shp_of {α : Type} [DecidableEq α] [DatumOrd α] (h : ∀ a : α, (Datum.toD a).canLay0 = true) (hd : Datum.depth α ≤ 60) (a : α) : SeqAt.shaped (Datum.toD a) = true := by
  unfold SeqAt.shaped
  rw [h a, Bool.true_and, decide_eq_true_iff]
  exact Nat.le_trans (Datum.depth_le a) (by omega)
theorem shp_F (f : Fg) : SeqAt.shaped (dF f) = true := shp_of lay_F (by decide) f
theorem shp_C (c : Ch) : SeqAt.shaped (dC c) = true := shp_of lay_C (by decide) c
theorem shp_Fs (fs : List Fg) : SeqAt.shaped (.list (fs.map Datum.toD)) = true := shp_of (α := List Fg) (fun as => by
  show PyData.canLay0 (.list (as.map Datum.toD)) = true
  rw [PyData.canLay0]
  exact lay_map lay_F as) (by decide) fs
theorem shp_Cs (cs : List Ch) : SeqAt.shaped (.list (cs.map Datum.toD)) = true := shp_of (α := List Ch) (fun as => by
  show PyData.canLay0 (.list (as.map Datum.toD)) = true
  rw [PyData.canLay0]
  exact lay_map lay_C as) (by decide) cs
section
variable {P : Program} {w : World} {K : PySem.W.Frag} {mg : Str → Option Value} {base : Heap}
abbrev CalIsC (P : Program) (w : World) (K : PySem.W.Frag) (mg : Str → Option Value) (base : Heap) : Prop := Cal P w K mg base CX0 5 "is_change" ["thing"] (spIsC K)
theorem sc_isc : FnScope ["thing", "shape", "other"] ["thing"] (defScope sIsC) := ⟨rfl, rfl, rfl, by decide +kernel, rfl, by decide +kernel, by decide +kernel⟩
theorem ok_isc {f : Addr} {fd : FuncData} (F : Fun K "is_change" "is_change" sIsC f fd) (T : Bi3 mg) (CS : CalShp P w K mg base) : FnOk P w K mg base CX0 5 f fd ["thing"] (spIsC K) := by
  obtain ⟨fS, fdS, GS, gS, kS, bS⟩ := CS
  refine F.ok sc_isc (fun vs H Q E h => ?_) (fun cdv A outer s H vs Q E hr h => ?_)
  · obtain ⟨v, d, rfl, _⟩ := h
    rfl
  · obtain ⟨v, d, rfl, hd, k⟩ := h
    have hu := hr.units
    refine ⟨_, (pss_cons (ps_if (PW.pt (pw_or (pt_not (pt_val (pe_callB call_isi (by rfl) T.isinstance (by decide +kernel) (pa_cons (pv 0) (pa_cons (pe_bltn (v := .ty "tuple") (by rfl) T.tuple (by decide +kernel) rfl) pa_nil))))) (pw_or1 (pt_cmpR op_ne (pe_callB call_len_seq (by rfl) T.len PySem.boot_len (pa_cons (pv 0) pa_nil)) (pe_int) (nomark _))))) (pss_one (ps_ret (pe_bl))) pss_nil)
        (pss_cons (ps_asg (pv 0) (pg_tup rfl (pgs_cons (pg_name (i := 1) sc_isc.nd rfl (.inl rfl)) (pgs_cons (pg_name (i := 2) sc_isc.nd rfl (.inl rfl)) pgs_nil))))
        (pss_one (ps_ret (pe_and (pe_call GS hr (by rfl) gS kS bS .nil pass0 (pa_cons (pv 1) pa_nil)) (pe_and (pe_call GS hr (by rfl) gS kS bS .nil pass0 (pa_cons (pv 2) pa_nil)) (pe_one (pe_cmpR (op_neD hu) (pv 1) (pv 2) (nomark _))))))))), ?_⟩
    refine ⟨_, rfl, v, .ty "tuple", .type (tyD d), .type "tuple", _, rfl, .ty _, hd.ty, kit_ty (kit_tuple d), _, rfl, ?_⟩
    cases ht : isT d with
    | false =>
      have z := k H (Same.refl _)
      rw [ch_not ht] at z
      exact z
    | true =>
      obtain ⟨ds, rfl⟩ := isT_some ht
      obtain ⟨a, xs, rfl, ha, hx⟩ := hd.tup_inv
      have hlen := hx.len
      refine ⟨_, rfl, a, xs, rfl, .inr ha, rfl, _, rfl, ?_⟩
      match xs, ds, hx, hlen with
      | [x, y], [d, e], .cons hd (.cons he .nil), _ =>
        refine ⟨_, rfl, a, _, rfl, ha, rfl, x, _, rfl, y, _, rfl, rfl, ?_⟩
        refine ⟨_, rfl, x, d, rfl, hd, fun H1 s1 => ⟨_, rfl, ?_⟩⟩
        have kk := k H1 s1
        rw [ch_two] at kk k
        cases q1 : isFig d with
        | false =>
          rw [q1] at kk
          exact iteF kk
        | true =>
          refine iteT ⟨_, rfl, y, e, rfl, he.same s1, fun H2 s2 => ⟨_, rfl, ?_⟩⟩
          have k2 := k H2 (s1.trans s2)
          rw [q1, Bool.true_and] at k2
          cases q2 : isFig e with
          | false =>
            rw [q2] at k2
            exact iteF k2
          | true =>
            rw [q2, Bool.true_and] at k2
            obtain ⟨g1, rfl, _⟩ := fig_ex q1
            obtain ⟨g2, rfl, _⟩ := fig_ex q2
            exact iteT ⟨_, rfl, _, rfl, dF g1, dF g2, dp_plain (hd.same (s1.trans s2)) (Datum.plain g1), dp_plain (he.same (s1.trans s2)) (Datum.plain g2), shp_F g1, shp_F g2, k2⟩
      | [], [], _, _ => exact k H (Same.refl _)
      | [_], [_], _, _ => exact k H (Same.refl _)
      | x :: y :: z :: xr, d :: e :: f :: dr, _, _ =>
        have kk := k H (Same.refl _)
        rw [ch_len (by simp)] at kk
        have n1 : (!eqV (.int ((x :: y :: z :: xr).length : Nat)) (.int 2)) = true := by
          have n1 : ¬ ((x :: y :: z :: xr).length : Int) = 2 := by simp only [List.length_cons]; omega
          simp only [eqV]
          simpa using n1
        exact iteYb n1 kk
theorem Dv.lst_inv {K : PySem.W.Frag} {H : Hp} {v : V} {ds : List PyData} (h : Dv K H v (.list ds)) : ∃ a xs, v = .ref a ∧ SqL K H a xs ∧ DvAll K H xs ds := by
  cases h with
  | lst s r => exact ⟨_, _, rfl, s, r⟩
theorem isL_some {d : PyData} (h : isL d = true) : ∃ ds, d = .list ds := by
  cases d with
  | list ds => exact ⟨ds, rfl⟩
  | _ => cases h
theorem bsT_len {f : PyData → Bool} {ds : List PyData} {i : Nat} (h : ds.length < 300) : (bsT f ds i).length < sizeLine := by
  unfold bsT
  rw [List.length_map, List.length_take]
  exact Nat.lt_of_lt_of_le (show min i ds.length < 300 by omega) (by decide : 300 ≤ sizeLine)
theorem all_map (f : PyData → Bool) (ds : List PyData) : ((ds.map f).all id) = ds.all f := by
  rw [List.all_map]
  rfl
theorem aref_not {d : PyData} (h : isL d = false) (fs : List Fg) : ¬ AreF d fs := fun z => by
  obtain ⟨rfl, _⟩ := z
  cases h
theorem arec_not {d : PyData} (h : isL d = false) (cs : List Ch) : ¬ AreC d cs := fun z => by
  obtain ⟨rfl, _⟩ := z
  cases h
theorem aref_all {ds : List PyData} {fs : List Fg} (h : AreF (.list ds) fs) : ds.all isFig = true := by
  obtain ⟨e, h1, _⟩ := h
  injection e with e
  rw [e, List.all_map]
  exact List.all_eq_true.mpr fun f hf => h1 f hf
theorem arec_all {ds : List PyData} {cs : List Ch} (h : AreC (.list ds) cs) : ds.all isCh = true := by
  obtain ⟨e, h1, _⟩ := h
  injection e with e
  rw [e, List.all_map]
  exact List.all_eq_true.mpr fun c hc => cOk_ch (h1 c hc)
abbrev CalArS (P : Program) (w : World) (K : PySem.W.Frag) (mg : Str → Option Value) (base : Heap) : Prop := Cal P w K mg base CX0 5 "are_shapes" ["thing"] (spArS K)
theorem sc_ars : FnScope ["thing", "shape"] ["thing"] (defScope sArS) := ⟨rfl, rfl, rfl, by decide +kernel, rfl, by decide +kernel, by decide +kernel⟩
theorem ok_ars {f : Addr} {fd : FuncData} (F : Fun K "are_shapes" "are_shapes" sArS f fd) (T : Bi3 mg) (CS : CalShp P w K mg base) : FnOk P w K mg base CX0 5 f fd ["thing"] (spArS K) := by
  obtain ⟨fS, fdS, GS, gS, kS, bS⟩ := CS
  refine F.ok sc_ars (fun vs H Q E h => ?_) (fun cdv A outer s H vs Q E hr h => ?_)
  · obtain ⟨v, d, rfl, _⟩ := h
    rfl
  · obtain ⟨v, d, rfl, hd, h300, k⟩ := h
    have hu := hr.units
    refine ⟨_, (pss_cons (ps_if (PW.pt (pw_or (pt_not (pt_val (pe_callB call_isi (by rfl) T.isinstance (by decide +kernel) (pa_cons (pv 0) (pa_cons (pe_bltn (v := .ty "list") (by rfl) T.list (by decide +kernel) rfl) pa_nil))))) (pw_or1 (pt_not (pt_val (pe_callB (cr_all rfl) (by rfl) T.all (by decide +kernel) (pa_cons (pe_lc (own := [("shape", 1)]) (g := gName 1) rfl sc_ars.nd (pi_list (pv 0)) (blkOk_by (N := ["thing", "shape"]) (sc := defScope sArS) (by decide +kernel)) (fun _ _ _ _ _ => (pg_name (i := 1) sc_ars.nd rfl (.inl rfl))) (fun _ _ _ _ _ => pts_nil) (fun _ _ _ _ _ => (pe_call GS hr (by rfl) gS kS bS .nil pass0 (pa_cons (pv 1) pa_nil)))) pa_nil))))))) (pss_one (ps_ret (pe_bl))) pss_nil)
        (pss_one (ps_ret (pe_and (pe_cmpR op_gt (pe_callB call_len_seq (by rfl) T.len PySem.boot_len (pa_cons (pv 0) pa_nil)) (pe_int) (nomark _)) (pe_one (pe_cmpR op_eq (pe_callB call_lenS (by rfl) T.len PySem.boot_len (pa_cons (pe_callTy (call_setN rfl hu) (by rfl) T.set (by decide +kernel) (pa_cons (pv 0) pa_nil)) pa_nil)) (pe_callB call_len_seq (by rfl) T.len PySem.boot_len (pa_cons (pv 0) pa_nil)) (nomark _))))))), ?_⟩
    refine ⟨_, rfl, v, .ty "list", .type (tyD d), .type "list", _, rfl, .ty _, hd.ty, kit_ty (kit_list d), _, rfl, ?_⟩
    cases ht : isL d with
    | false => exact (k H (Same.refl _)).1 (aref_not ht)
    | true =>
      obtain ⟨ds, rfl⟩ := isL_some ht
      obtain ⟨a, xs, rfl, ha, hx⟩ := hd.lst_inv
      have hlen := hx.len
      refine ⟨_, rfl, a, rfl, ⟨xs, ha⟩, fun D hD => lc_list (xs := xs) (fun i H' => H' D = some (.lst (bsT isFig ds i)) ∧ Same H H') ⟨upd_same, sameN hD⟩ (fun i H' _ ⟨_, s2⟩ => s2.seq ha) (fun i x H' hi ⟨h1, s2⟩ => ?_) (fun H' ⟨h1, s2⟩ => ?_)⟩
      · obtain ⟨dx, ex, hdx⟩ := hx.get hi
        refine ⟨rfl, _, rfl, x, dx, rfl, hdx.same s2, fun H4 s4 => ⟨_, s4 _ _ h1, bsT_len h300, ?_, ?_⟩⟩
        · rw [upd_same, bsT_more ex]
        · intro b o e
          rw [upd_ne (ne_of_none e hD)]
          exact s4 _ _ (s2 _ _ e)
      · rw [hlen, bsT_all] at h1
        refine ⟨D, _, rfl, SqL.of h1, _, rfl, ?_⟩
        cases q1 : ds.all isFig with
        | false =>
          refine iteYb (by rw [all_map, q1]; rfl) ((k H' s2).1 fun fs z => ?_)
          rw [aref_all z] at q1
          cases q1
        | true =>
          refine iteNb (by rw [all_map, q1]; rfl) ?_
          obtain ⟨fs, rfl, hfs⟩ := all_ex (α := Fg) (ok := fOk) fig_ex q1
          refine ⟨_, rfl, a, xs, rfl, .inl (s2.seq ha), ?_⟩
          refine ⟨_, _, rfl, rfl, _, rfl, ?_⟩
          obtain ⟨ks, rfl, e2, e3⟩ := keysOf hx
          have lk : ks.length = fs.length := by
            have z := congrArg List.length e2
            rwa [List.length_map, List.length_map] at z
          have l3 : fs.length < 300 := by
            have z : (fs.map Datum.toD).length < 300 := h300
            rwa [List.length_map] at z
          by_cases hn : fs = []
          · subst hn
            refine iteNb ?_ ((k H' s2).1 fun fs z => ?_)
            · rw [List.length_map, lk]
              rfl
            · obtain ⟨e, _, n, _⟩ := z
              injection e with e
              exact n (map_inj e).symm
          · refine iteYb ?_ ⟨_, rfl, a, ks, rfl, s2.seq ha, fun p hp => (e3 p hp).1.keep (.of_same s2), by omega, fun S L hS g nd => ⟨S, L, rfl, upd_same, ?_⟩⟩
            · rw [List.length_map, lk]
              have z : 0 < fs.length := List.length_pos_iff.mpr hn
              exact decide_eq_true (by omega)
            · have s3 : Same H (upd H' S (NsO w S L)) := s2.trans (sameN hS)
              refine ⟨_, rfl, a, _, rfl, .inl (s3.seq ha), rfl, ?_⟩
              have z : decide (V.int (L.length : Nat) = V.int ((ks.map fun p => V.ref p.1).length : Nat)) = decide fs.Nodup := by
                rw [List.length_map, ← held_len e2 g nd]
                exact decide_eq_decide.mpr ⟨fun e => by injection e, fun e => by rw [e]⟩
              rw [z]
              cases hd : decide fs.Nodup with
              | true => exact (k _ s3).2 fs ⟨rfl, hfs, hn, of_decide_eq_true hd⟩
              | false =>
                refine (k _ s3).1 fun gs z => ?_
                obtain ⟨e, _, _, n⟩ := z
                injection e with e
                rw [← map_inj e] at n
                exact absurd n (of_decide_eq_false hd)
abbrev CalArC (P : Program) (w : World) (K : PySem.W.Frag) (mg : Str → Option Value) (base : Heap) : Prop := Cal P w K mg base CX0 6 "are_changes" ["thing"] (spArC K)
theorem sc_arc : FnScope ["thing", "change"] ["thing"] (defScope sArC) := ⟨rfl, rfl, rfl, by decide +kernel, rfl, by decide +kernel, by decide +kernel⟩
theorem ok_arc {f : Addr} {fd : FuncData} (F : Fun K "are_changes" "are_changes" sArC f fd) (T : Bi3 mg) (CS : CalIsC P w K mg base) : FnOk P w K mg base CX0 6 f fd ["thing"] (spArC K) := by
  obtain ⟨fC, fdC, GC, gC, kC, bC⟩ := CS
  refine F.ok sc_arc (fun vs H Q E h => ?_) (fun cdv A outer s H vs Q E hr h => ?_)
  · obtain ⟨v, d, rfl, _⟩ := h
    rfl
  · obtain ⟨v, d, rfl, hd, h300, k⟩ := h
    have hu := hr.units
    refine ⟨_, (pss_cons (ps_if (PW.pt (pw_or (pt_not (pt_val (pe_callB call_isi (by rfl) T.isinstance (by decide +kernel) (pa_cons (pv 0) (pa_cons (pe_bltn (v := .ty "list") (by rfl) T.list (by decide +kernel) rfl) pa_nil))))) (pw_or1 (pt_not (pt_val (pe_callB (cr_all rfl) (by rfl) T.all (by decide +kernel) (pa_cons (pe_lc (own := [("change", 1)]) (g := gName 1) rfl sc_arc.nd (pi_list (pv 0)) (blkOk_by (N := ["thing", "change"]) (sc := defScope sArC) (by decide +kernel)) (fun _ _ _ _ _ => (pg_name (i := 1) sc_arc.nd rfl (.inl rfl))) (fun _ _ _ _ _ => pts_nil) (fun _ _ _ _ _ => (pe_call GC hr (by rfl) gC kC bC .nil pass0 (pa_cons (pv 1) pa_nil)))) pa_nil))))))) (pss_one (ps_ret (pe_bl))) pss_nil)
        (pss_one (ps_ret (pe_cmpR op_eq (pe_callB call_lenS (by rfl) T.len PySem.boot_len (pa_cons (pe_callTy (call_setN rfl hu) (by rfl) T.set (by decide +kernel) (pa_cons (pv 0) pa_nil)) pa_nil)) (pe_callB call_len_seq (by rfl) T.len PySem.boot_len (pa_cons (pv 0) pa_nil)) (nomark _))))), ?_⟩
    refine ⟨_, rfl, v, .ty "list", .type (tyD d), .type "list", _, rfl, .ty _, hd.ty, kit_ty (kit_list d), _, rfl, ?_⟩
    cases ht : isL d with
    | false => exact (k H (Same.refl _)).1 (arec_not ht)
    | true =>
      obtain ⟨ds, rfl⟩ := isL_some ht
      obtain ⟨a, xs, rfl, ha, hx⟩ := hd.lst_inv
      have hlen := hx.len
      refine ⟨_, rfl, a, rfl, ⟨xs, ha⟩, fun D hD => lc_list (xs := xs) (fun i H' => H' D = some (.lst (bsT isCh ds i)) ∧ Same H H') ⟨upd_same, sameN hD⟩ (fun i H' _ ⟨_, s2⟩ => s2.seq ha) (fun i x H' hi ⟨h1, s2⟩ => ?_) (fun H' ⟨h1, s2⟩ => ?_)⟩
      · obtain ⟨dx, ex, hdx⟩ := hx.get hi
        refine ⟨rfl, _, rfl, x, dx, rfl, hdx.same s2, fun H4 s4 => ⟨_, s4 _ _ h1, bsT_len h300, ?_, ?_⟩⟩
        · rw [upd_same, bsT_more ex]
        · intro b o e
          rw [upd_ne (ne_of_none e hD)]
          exact s4 _ _ (s2 _ _ e)
      · rw [hlen, bsT_all] at h1
        refine ⟨D, _, rfl, SqL.of h1, _, rfl, ?_⟩
        cases q1 : ds.all isCh with
        | false =>
          refine iteYb (by rw [all_map, q1]; rfl) ((k H' s2).1 fun fs z => ?_)
          rw [arec_all z] at q1
          cases q1
        | true =>
          refine iteNb (by rw [all_map, q1]; rfl) ?_
          obtain ⟨fs, rfl, hfs⟩ := all_ex (α := Ch) (ok := cOk) ch_ex q1
          obtain ⟨ks, rfl, e2, e3⟩ := keysOf hx
          have lk : ks.length = fs.length := by
            have z := congrArg List.length e2
            rwa [List.length_map, List.length_map] at z
          have l3 : fs.length < 300 := by
            have z : (fs.map Datum.toD).length < 300 := h300
            rwa [List.length_map] at z
          refine ⟨_, rfl, a, ks, rfl, s2.seq ha, fun p hp => (e3 p hp).1.keep (.of_same s2), by omega, fun S L hS g nd => ⟨S, L, rfl, upd_same, ?_⟩⟩
          · have s3 : Same H (upd H' S (NsO w S L)) := s2.trans (sameN hS)
            refine ⟨_, rfl, a, _, rfl, .inl (s3.seq ha), rfl, ?_⟩
            have z : decide (V.int (L.length : Nat) = V.int ((ks.map fun p => V.ref p.1).length : Nat)) = decide fs.Nodup := by
              rw [List.length_map, ← held_len e2 g nd]
              exact decide_eq_decide.mpr ⟨fun e => by injection e, fun e => by rw [e]⟩
            rw [z]
            cases hd : decide fs.Nodup with
            | true => exact (k _ s3).2 fs ⟨rfl, hfs, of_decide_eq_true hd⟩
            | false =>
              refine (k _ s3).1 fun gs z => ?_
              obtain ⟨e, _, n⟩ := z
              injection e with e
              rw [← map_inj e] at n
              exact absurd n (of_decide_eq_false hd)
end
end Own
/-! xs + ys of lists wherever they stand. -/
namespace Own
open PySem PySem.Spec PyProof.Rows L2 PySem.P
def rCatL (K : PySem.W.Frag) : R2 := fun x y H Q => ∃ l b xs zs, x = .ref l ∧ y = .ref b ∧ SqL K H l xs ∧ SqL K H b zs ∧ xs.length + zs.length ≤ sizeLine ∧ ∀ p, H p = none → Q (.ref p) (upd H p (.lst (xs ++ zs)))
theorem op_catL {X : Cx} : OpR X (binaryOp .Add) (rCatL X.K) := by
  intro pins s σ H x y v u Q I rx ry h
  obtain ⟨l, b, xs, zs, rfl, rfl, hH, hB, hz, q⟩ := h
  cases rx
  cases ry
  obtain ⟨its, r, ⟨⟨cls, dd, data, sl⟩, n, ho, hc, hdn, hd⟩, hl⟩ := I.list hH
  obtain ⟨its2, r2, ⟨⟨cls2, dd2, data2, sl2⟩, n2, ho2, hc2, hdn2, hd2⟩, hl2⟩ := I.list hB
  simp only at hc hd hc2 hd2
  subst hc hd hc2 hd2
  have e1 := r.length
  have e2 := r2.length
  refine concat_meets ⟨_, ho, rfl⟩ ⟨_, ho2, rfl⟩ noFill_list_add seq_list_add PySem.F.slot_list_add PySem.F.entry_list_add (PySem.F.args_list_add_2 _ _) (list_addW l b its.toArray its2.toArray n n2 dd dd2 sl sl2 (by rw [List.size_toArray, List.size_toArray]; omega)) ⟨ho, ho2, ?_⟩
  have ea : its.toArray ++ its2.toArray = (its ++ its2).toArray := by simp
  rw [ea]
  exact ⟨.ref _, _, I.lnew (t' := s.toks) (r.append r2) (by rw [List.length_append]; omega), rfl, q _ I.fresh⟩
end Own
/-! Methods of dicts with nested keys: d.get(k), d.get(k, z), d.setdefault(k, z). -/
namespace Own
open PySem PySem.Spec PyProof.Rows L2
section
variable {X : Cx}
def IsDn (P : Program) (w : World) (K : PySem.W.Frag) (x : V) (H : Hp) : Prop := ∃ d rows, x = .ref d ∧ DnAt P w K H d rows
theorem isDn_ty {pins : List (Addr × Obj)} {σ : L2.St} {H : Hp} {s : Shared} {x : V} {v : Value} (I : Inv X pins σ H s) (r : RelV x v) (ty : IsDn X.prog X.w X.K x H) : s.TypeIs v "dict" ∧ ∀ a, v = .ref a → ∃ ob, s.heap.get? a = some ob ∧ ob.dict = none := by
  obtain ⟨d, rows, rfl, D⟩ := ty
  cases r
  obtain ⟨xs, o, es, ep, _, ho, hx, _, _⟩ := (I.hok _ _ D.at_).1
  refine ⟨⟨o, ho, hx.1⟩, fun a e => ?_⟩
  cases e
  exact ⟨o, ho, hx.2.1⟩
def tNm (P : Program) (w : World) (K : PySem.W.Frag) (r : V → List V → Hp → VK → Prop) (to : TE) (t : TA) : TE := fun σ H Q => to σ H fun x H1 => IsDn P w K x H1 ∧ t σ H1 fun xs H2 => r x xs H2 Q
variable {o e : Expr} {es : List Expr} {to : TE} {t : TA} {name : Str} {apos cpos : Pos} {id : String} {r : V → List V → Hp → VK → Prop}
/-- d.m(x, ..), d a dict with nested keys -/
theorem pe_nm (slot : Slot "dict" name id) (hty : typeOf (.builtin id) = pure (.type "method_descriptor")) (hm : MtR X id r) (ho : PE X o to) (ha : PA X (e :: es) t)
    (hbase : attributeBase o name X.env (eval o X.env) = eval o X.env := by rfl)
    (hfew : ((backTo cpos (starEach (e :: es) X.env)).all (fun x => !x.1) && (backToKw cpos (keywordEach [] X.env)).all (fun x => x.1.isSome)
      && decide ((e :: es).length + ([] : List Keyword).length + (if ([] : List Keyword).isEmpty then 0 else 1) < 30)) = true := by rfl)
    (hline : (apos.endLine == cpos.line) = true := by rfl) (hs : starEach (e :: es) X.env = (false, eval e X.env) :: starEach es X.env := by rfl) (hplain : (backTo cpos (starEach es X.env)).any (·.1) = false := by rfl) :
    PE X (.Call (.Attribute o name apos) (e :: es) [] cpos) (tNm X.prog X.w X.K r to t) := by
  refine ⟨fun pins s σ H Q I h => ?_⟩
  refine wpAny_Call_method_late hbase hfew hline rfl (thn (ho.run pins s σ H _ I h) fun v s1 ⟨x, H1, I1, r1, ty, q1⟩ => ?_)
  obtain ⟨h1, h2⟩ := isDn_ty I1 r1 ty
  refine ⟨"dict", id, PySem.F.plainAttrs_dict, slot, hty, h1, h2, ?_⟩
  have hA := ha.run cpos pins s1 σ H1 _ I1 q1
  rw [hs] at hA ⊢
  refine Calls.callWith_builtin (by show (false || (backTo cpos (starEach es X.env)).any (·.1)) = false; rw [hplain] <;> rfl) (Calls.evalArgs_plain ?_)
  exact thn hA fun us s2 ⟨vs, H2, I2, r2, q2⟩ => hm pins s2 σ H2 x vs v us Q I2 r1 r2 q2
/-- d.get(y) -/
def rNget1 (P : Program) (w : World) (K : PySem.W.Frag) : V → List V → Hp → VK → Prop := fun x xs H Q => ∃ (d : Addr) (y : V) (o : Option V), x = .ref d ∧ xs = [y] ∧ NGet P w K H d y o ∧ Q (o.getD .non) H
theorem mt_nget1 (hu : X.A.units + 64 < cLine) : MtR X "dict.get" (rNget1 X.prog X.w X.K) := by
  intro pins s σ H x xs v us Q I rx rxs h
  obtain ⟨d, y, o, rfl, rfl, g, q⟩ := h
  obtain ⟨u, rfl, ry⟩ := rxs.one
  cases rx
  exact n_get1 hu I g ry fun w' s' I' r' => ⟨_, H, I', r', q⟩
/-- d.get(y, z) -/
def rNget2 (P : Program) (w : World) (K : PySem.W.Frag) : V → List V → Hp → VK → Prop := fun x xs H Q => ∃ (d : Addr) (y z : V) (o : Option V), x = .ref d ∧ xs = [y, z] ∧ NGet P w K H d y o ∧ Q (o.getD z) H
theorem mt_nget2 (hu : X.A.units + 64 < cLine) : MtR X "dict.get" (rNget2 X.prog X.w X.K) := by
  intro pins s σ H x xs v us Q I rx rxs h
  obtain ⟨d, y, z, o, rfl, rfl, g, q⟩ := h
  obtain ⟨u1, u2, rfl, r1, r2⟩ := vals2 rxs
  cases rx
  exact n_get2 hu I g r1 r2 fun w' s' I' r' => ⟨_, H, I', r', q⟩
/-- d.setdefault(y, z) -/
def rNsetd (P : Program) (w : World) (K : PySem.W.Frag) : V → List V → Hp → VK → Prop := fun x xs H Q => ∃ (d b : Addr) (k : NestedKey) (z : V) (rows : List Row), x = .ref d ∧ xs = [.ref b, z] ∧ DnAt P w K H d rows ∧ KeyAt K H (.ref b) k ∧ k.depth ≤ 8 ∧ rows.length < sizeLine ∧
  (∀ v, valR rows k = some v → Q v H) ∧ (valR rows k = none → Q z (upd H d (DnO P w d (putR rows k b z))))
theorem mt_nsetd (hu : X.A.units + 64 < cLine) : MtR X "dict.setdefault" (rNsetd X.prog X.w X.K) := by
  intro pins s σ H x xs v us Q I rx rxs h
  obtain ⟨d, b, k, z, rows, rfl, rfl, D, hk, dp, hl, q1, q2⟩ := h
  obtain ⟨u1, u2, rfl, r1, r2⟩ := vals2 rxs
  cases rx
  cases r1
  exact n_setdefault hu I D hk dp hl r2 (fun v w' s' e I' r' => ⟨_, H, I', r', q1 v e⟩) fun s' e I' => ⟨_, _, I', r2, q2 e⟩
end
end Own
/-! A road's dict from the shapes to those that may follow. -/
namespace Own
open PySem PySem.Spec PyProof.Rows L2 PySem.W
def partsC (cs : List Ch) : List Fg := cs.flatMap fun c => [c.1, c.2]
def laters (cs : List Ch) (f : Fg) : List Fg := f :: (cs.filter fun c => decide (c.1 = f)).map (·.2)
def behKeys (fs : List Fg) (cs : List Ch) : List Fg := sortT (uniq (fs ++ partsC cs))
/-- one entry: the shape and the list of those that may follow -/
def EntR (K : PySem.W.Frag) (H : Hp) (cs : List Ch) (f : Fg) (r : Row) : Prop := r.1 = kF f ∧ Dv K H (.ref r.2.1) (dF f) ∧ ∃ l, r.2.2 = .ref l ∧ Dv K H (.ref l) (.list ((sortT (laters cs f)).map Datum.toD))
def BehAt (P : Program) (w : World) (K : PySem.W.Frag) (H : Hp) (d : Addr) (fs : List Fg) (cs : List Ch) : Prop := ∃ rows, DnAt P w K H d rows ∧ Paired (EntR K H cs) (behKeys fs cs) rows
/-- what stands in H', without the lists of H -/
def nol (H H' : Hp) : Hp := fun b => match H b with
  | some (.lst _) => none
  | _ => H' b
theorem nol_some {H H' : Hp} {b : Addr} {o : HO} (h : nol H H' b = some o) : H' b = some o ∧ ∀ xs, H b ≠ some (.lst xs) := by
  unfold nol at h
  split at h
  · cases h
  · rename_i n
    exact ⟨h, fun xs e => n xs e⟩
theorem nol_at {H H' : Hp} {b : Addr} {o : HO} (n : ∀ xs, H b ≠ some (.lst xs)) (h : H' b = some o) : nol H H' b = some o := by
  unfold nol
  split
  · rename_i xs e
    exact absurd e (n xs)
  · exact h
theorem nol_le {H H' : Hp} : Same (nol H H') H' := fun b o h => (nol_some h).1
theorem nol_new {H H' : Hp} {b : Addr} {o : HO} (n : H b = none) (h : H' b = some o) : nol H H' b = some o := nol_at (fun xs e => by rw [n] at e; cases e) h
theorem nol_mono {H A B : Hp} (s : Same A B) : Same (nol H A) (nol H B) := fun b o h => nol_at (nol_some h).2 (s _ _ (nol_some h).1)
theorem tupK_nol {H B : Hp} (s : Same H B) : TupK H (nol H B) := fun b xs h => by
  rcases h with h | ⟨o, h⟩
  · exact .inl (nol_at (fun ys e => by rw [h] at e; cases e) (s _ _ h))
  · exact .inr ⟨o, nol_at (fun ys e => by rw [h] at e; cases e) (s _ _ h)⟩
theorem tupK_nol2 {H B : Hp} (s : Same H B) : TupK B (nol H B) := fun b xs h => by
  rcases h with h | ⟨o, h⟩
  · exact .inl (nol_at (fun ys e => by have z := s _ _ e; rw [h] at z; cases z) h)
  · exact .inr ⟨o, nol_at (fun ys e => by have z := s _ _ e; rw [h] at z; cases z) h⟩
mutual
theorem tk_key {K : PySem.W.Frag} {H H' : Hp} (t : TupK H H') : ∀ (k : NestedKey) (v : V), Dv K H v k.data → Dv K H' v k.data
  | .none, _, h => by cases h; exact .non
  | .num i, _, h => by cases h; exact .int i
  | .text x, _, h => by cases h; exact .str x
  | .tup ks, _, h => by
    cases h with
    | tup s r => exact .tup (t.sq s) (tks_key t ks _ r)
theorem tks_key {K : PySem.W.Frag} {H H' : Hp} (t : TupK H H') : ∀ (ks : List NestedKey) (vs : List V), DvAll K H vs (NestedKey.datas ks) → DvAll K H' vs (NestedKey.datas ks)
  | [], _, h => by cases h; exact .nil
  | k :: ks, _, h => by
    cases h with
    | cons h1 h2 => exact .cons (tk_key t k _ h1) (tks_key t ks _ h2)
end
theorem tk_as {α : Type} [DecidableEq α] [DatumOrd α] [AsKey α] {K : PySem.W.Frag} {H H' : Hp} (t : TupK H H') {v : V} {a : α} (h : Dv K H v (Datum.toD a)) : Dv K H' v (Datum.toD a) := by
  rw [← AsKey.data] at h ⊢
  exact tk_key t _ _ h
theorem tks_as {α : Type} [DecidableEq α] [DatumOrd α] [AsKey α] {K : PySem.W.Frag} {H H' : Hp} (t : TupK H H') : ∀ {vs : List V} {as : List α}, DvAll K H vs (as.map Datum.toD) → DvAll K H' vs (as.map Datum.toD)
  | [], [], _ => .nil
  | v :: vs, a :: as, h => by
    rw [List.map_cons] at h ⊢
    cases h with
    | cons h1 h2 => exact .cons (tk_as t h1) (tks_as t h2)
  | [], _ :: _, h => by cases h
  | _ :: _, [], h => by cases h
def spBeh (P : Program) (w : World) (K : PySem.W.Frag) : Sp := fun vs H Q _ => ∃ (v u : V) (fs : List Fg) (cs : List Ch), vs = [v, u] ∧ Dv K H v (.list (fs.map Datum.toD)) ∧ Dv K H u (.list (cs.map Datum.toD)) ∧ fs.length + 2 * cs.length < 290 ∧ (∀ f ∈ fs, fOk f) ∧ (∀ c ∈ cs, cOk c) ∧
  ∀ H' d, Same H H' → H d = none → BehAt P w K (nol H H') d fs cs → Q (.ref d) H'
theorem EntR.same {K : PySem.W.Frag} {H H' : Hp} {cs : List Ch} {f : Fg} {r : Row} (h : EntR K H cs f r) (s : Same H H') : EntR K H' cs f r := ⟨h.1, h.2.1.same s, let ⟨l, e, d⟩ := h.2.2; ⟨l, e, d.same s⟩⟩
theorem parts_len : ∀ cs : List Ch, (partsC cs).length = 2 * cs.length
  | [] => rfl
  | c :: cs => by
    show ([c.1, c.2] ++ partsC cs).length = _
    rw [List.length_append, parts_len cs, List.length_cons, List.length_cons, List.length_cons]
    simp
    omega
theorem parts_take {cs : List Ch} {i : Nat} {c : Ch} (h : cs[i]? = some c) : partsC (cs.take (i + 1)) = partsC (cs.take i) ++ [c.1, c.2] := by
  rw [take_one h]
  unfold partsC
  rw [List.flatMap_append]
  simp
/-- the heap without what stands at d -/
def wod (d : Addr) (H : Hp) : Hp := fun b => if b = d then none else H b
theorem wod_ne {d b : Addr} {H : Hp} (h : b ≠ d) : wod d H b = H b := if_neg h
theorem same_wod {H H' : Hp} {d : Addr} (s : Same H H') (h : H d = none) : Same H (wod d H') := fun b o e => by
  rw [wod_ne (ne_of_none e h)]
  exact s _ _ e
theorem wod_same {H : Hp} {d : Addr} : Same (wod d H) H := fun b o e => by
  unfold wod at e
  split at e
  · cases e
  · exact e
theorem wod_upd {H : Hp} {d : Addr} {o : HO} : wod d (upd H d o) = wod d H := by
  funext b
  unfold wod
  split
  · rfl
  · rename_i h
    exact upd_ne h
theorem wod_mono {H H' : Hp} {d : Addr} (s : Same H H') : Same (wod d H) (wod d H') := fun b o e => by
  unfold wod at e ⊢
  split at e
  · cases e
  · rename_i h
    rw [if_neg h]
    exact s _ _ e
theorem fig_cons {f : Fg} (h : fOk f) : ∃ i r, f.items = i :: r := by
  cases e : f.items with
  | nil =>
    have z : isFig (.tuple (f.items.map Datum.toD)) = true := h
    rw [e] at z
    cases z
  | cons i r => exact ⟨i, r, rfl⟩
theorem fp_ok {fs : List Fg} {cs : List Ch} (h1 : ∀ f ∈ fs, fOk f) (h2 : ∀ c ∈ cs, cOk c) : ∀ f ∈ fs ++ partsC cs, fOk f := fun f hf => by
  rcases List.mem_append.mp hf with z | z
  · exact h1 f z
  · obtain ⟨c, hc, hz⟩ := List.mem_flatMap.mp z
    rcases List.mem_cons.mp hz with e | e
    · rw [e]; exact (h2 c hc).1
    · rw [List.mem_singleton.mp e]; exact (h2 c hc).2.1
section
variable {P : Program} {w : World} {K : PySem.W.Frag} {mg : Str → Option Value} {base : Heap}
theorem DvAll.snoc {H : Hp} : ∀ {vs : List V} {ds : List PyData} {v : V} {d : PyData}, DvAll K H vs ds → Dv K H v d → DvAll K H (vs ++ [v]) (ds ++ [d])
  | [], [], _, _, .nil, h => .cons h .nil
  | _ :: _, _ :: _, _, _, .cons h1 h2, h => .cons h1 (DvAll.snoc h2 h)
theorem DvAll.app {H : Hp} : ∀ {vs us : List V} {ds es : List PyData}, DvAll K H vs ds → DvAll K H us es → DvAll K H (vs ++ us) (ds ++ es)
  | [], _, [], _, .nil, h => h
  | _ :: _, _, _ :: _, _, .cons h1 h2, h => .cons h1 (DvAll.app h2 h)
theorem dv_ch {H : Hp} {v : V} {c : Ch} (h : Dv K H v (Datum.toD c)) : ∃ a x y, v = .ref a ∧ SqT K H a [x, y] ∧ Dv K H x (dF c.1) ∧ Dv K H y (dF c.2) := by
  have h' : Dv K H v (.tuple [dF c.1, dF c.2]) := h
  obtain ⟨a, xs, e, ha, hx⟩ := h'.tup_inv
  generalize dF c.1 = d1 at hx ⊢
  generalize dF c.2 = d2 at hx ⊢
  cases hx with
  | cons h1 hr =>
    cases hr with
    | cons h2 hr2 =>
      cases hr2 with
      | nil => exact ⟨a, _, _, e, ha, h1, h2⟩
theorem dats_of {H : Hp} : ∀ {vs : List V} {ds : List PyData}, DvAll K H vs ds → ∃ bs : List Dat, bs.map (·.1) = vs ∧ bs.map (·.2) = ds ∧ ∀ b ∈ bs, Dv K H b.1 b.2
  | [], [], .nil => ⟨[], rfl, rfl, fun _ z => nomatch z⟩
  | v :: _, d :: _, .cons h r => by
    obtain ⟨bs, e1, e2, e3⟩ := dats_of r
    refine ⟨(v, d) :: bs, by rw [List.map_cons, e1], by rw [List.map_cons, e2], fun b hb => ?_⟩
    rcases List.mem_cons.mp hb with e | hb
    · rw [e]; exact h
    · exact e3 b hb
theorem dvs_of {H : Hp} : ∀ {bs : List Dat}, (∀ b ∈ bs, Dv K H b.1 b.2) → DvAll K H (bs.map (·.1)) (bs.map (·.2))
  | [], _ => .nil
  | b :: bs, h => .cons (h b List.mem_cons_self) (dvs_of fun c hc => h c (List.mem_cons_of_mem _ hc))
theorem ent_keys {H : Hp} {cs : List Ch} : ∀ {fs : List Fg} {rows : List Row}, Paired (EntR K H cs) fs rows → rows.map (·.1) = fs.map kF
  | _, _, .nil => rfl
  | _, _, .cons h t => by rw [List.map_cons, List.map_cons, ent_keys t, h.1]
theorem ent_snoc {H : Hp} {cs : List Ch} {f : Fg} {r : Row} : ∀ {fs : List Fg} {rows : List Row}, Paired (EntR K H cs) fs rows → EntR K H cs f r → Paired (EntR K H cs) (fs ++ [f]) (rows ++ [r])
  | _, _, .nil, h => .cons h .nil
  | _, _, .cons h1 t, h => .cons h1 (ent_snoc t h)
theorem paired_imp {α β : Type} {F G : α → β → Prop} : ∀ {l : List α} {m : List β}, Paired F l m → (∀ a b, F a b → G a b) → Paired G l m
  | _, _, .nil, _ => .nil
  | _, _, .cons h t, k => .cons (k _ _ h) (paired_imp t k)
theorem sc_beh : FnScope ["begin", "changes", "behind", "shape", "change", "part", "ahead", "other"] ["begin", "changes"] (defScope sBeh) := ⟨rfl, rfl, rfl, by decide +kernel, rfl, by decide +kernel, by decide +kernel⟩
theorem ok_beh {f : Addr} {fd : FuncData} (F : Fun K "shapes_behind" "shapes_behind" sBeh f fd) (T : Bi3 mg) : FnOk P w K mg base CX0 1 f fd ["begin", "changes"] (spBeh P w K) := by
  refine F.ok sc_beh (fun vs H Q E h => ?_) (fun cdv A outer s H vs Q E hr h => ?_)
  · obtain ⟨v, u, fs, cs, rfl, _⟩ := h
    rfl
  · obtain ⟨v, u, fs, cs, rfl, hv, hc, hl, okf, okc, k⟩ := h
    have hu := hr.units
    refine ⟨_, (pss_cons (ps_set (i := 2) sc_beh.nd rfl (.inl rfl) pe_nnew)
        (pss_cons (ps_for PassesOwn.never rfl (pi_list (pe_callB (call_sortS rfl hu) (by rfl) T.sorted (by decide +kernel) (pa_cons (pe_callTy (call_setN rfl hu) (by rfl) T.set (by decide +kernel) (pa_cons (pe_op op_catL (pv 0) (pe_lc2 (wi1 := iTup K (tVar 4)) (own := [("change", 4), ("part", 5)]) (vs1 := [5]) (g := gName 4) (g1 := gName 5) rfl sc_beh.nd (pi_list (pv 1)) (blkOk_by (N := ["begin", "changes", "behind", "shape", "change", "part", "ahead", "other"]) (sc := defScope sBeh) (by decide +kernel)) (by decide) (fun _ _ _ _ _ => (pg_name (i := 4) sc_beh.nd rfl (.inl rfl))) (fun _ _ _ _ _ => pts_nil) (fun _ _ _ _ _ => (pi_tup (pv 4))) (fun _ _ _ _ _ => (pg_name (i := 5) sc_beh.nd rfl (.inl rfl))) (fun _ _ _ _ _ => pts_nil) (fun _ _ _ _ _ => (pv 5)))) pa_nil)) pa_nil))) (pg_name (i := 3) sc_beh.nd rfl (.inr rfl)) (pss_one (ps_nput hu (pv 2) (pv 3) (pe_callB (call_sortD hu) (by rfl) T.sorted (by decide +kernel) (pa_cons (pe_op op_catL (pe_lst (pa_cons (pv 3) pa_nil)) (pe_lc (own := [("ahead", 6), ("other", 7)]) (g := (gTup K 2 (gCons (gName 6) (gCons (gName 7) gNil)))) rfl sc_beh.nd (pi_list (pv 1)) (blkOk_by (N := ["begin", "changes", "behind", "shape", "change", "part", "ahead", "other"]) (sc := defScope sBeh) (by decide +kernel)) (fun _ _ _ _ _ => (pg_tup rfl (pgs_cons (pg_name (i := 6) sc_beh.nd rfl (.inl rfl)) (pgs_cons (pg_name (i := 7) sc_beh.nd rfl (.inl rfl)) pgs_nil)))) (fun _ _ _ _ _ => (pts_one (pt_cmpR (show OpR _ _ (rEqD K) from op_eqD hu) (pv 6) (pv 3) (nomark _)))) (fun _ _ _ _ _ => (pv 7)))) pa_nil)) (by rfl))))
        (pss_one (ps_ret (pv 2))))), ?_⟩
    obtain ⟨b, xs, rfl, hb, hx⟩ := hv.lst_inv
    obtain ⟨c, ys, rfl, hcl, hy⟩ := hc.lst_inv
    have lx := hx.len
    have ly := hy.len
    rw [List.length_map] at lx ly
    refine fun d hd nsm => ?_
    have s0 : Same H (upd H d (DnO P w d [])) := sameN hd
    have hd0 : (upd H d (DnO P w d [])) d = some (DnO P w d []) := upd_same
    have hy1 := hy.same s0
    have hx1 := hx.same s0
    have hb1 := s0.seq hb
    have hc1 := s0.seq hcl
    have h300 : 300 ≤ sizeLine := by decide
    refine ⟨_, rfl, _, rfl, c, rfl, ⟨ys, hc1⟩, fun D hD => out_list (xs := ys) (fun i H' => ∃ acc, H' D = some (.lst acc) ∧ DvAll K H acc ((partsC (cs.take i)).map Datum.toD) ∧ Same (upd H d (DnO P w d [])) H') ⟨[], upd_same, .nil, sameN hD⟩ (fun i H' _ ⟨_, _, _, s2⟩ => s2.seq hc1) (fun i x H' hi ⟨acc, h1, h2, s2⟩ => ?_) (fun H2 ⟨acc, h1, h2, s2⟩ => ?_)⟩
    · obtain ⟨dx, ex, hdx⟩ := hy.get hi
      rw [List.getElem?_map] at ex
      obtain ⟨ch, ech, rfl⟩ := Option.map_eq_some_iff.mp ex
      obtain ⟨a, x1, x2, rfl, ha, hd1, hd2⟩ := dv_ch hdx
      have hpr : DvAll K H [x1, x2] ([ch.1, ch.2].map Datum.toD) := .cons hd1 (.cons hd2 .nil)
      refine ⟨rfl, _, rfl, a, rfl, ⟨_, sqT_same (s0.trans s2) ha⟩, out_tup (xs := [x1, x2]) (fun j H' => ∃ acc, H' D = some (.lst acc) ∧ DvAll K H acc ((partsC (cs.take i) ++ [ch.1, ch.2].take j).map Datum.toD) ∧ Same (upd H d (DnO P w d [])) H') ⟨acc, h1, by rw [List.take_zero, List.append_nil]; exact h2, s2⟩ (fun j H' _ ⟨_, _, _, s3⟩ => sqT_same (s0.trans s3) ha) (fun j y H' hj ⟨acc, h1, h2, s2⟩ => ?_) (fun H2 ⟨acc, h1, h2, s2⟩ => ⟨acc, h1, ?_, s2⟩)⟩
      · obtain ⟨dy, ey, hdy⟩ := hpr.get hj
        rw [List.getElem?_map] at ey
        obtain ⟨g, eg, rfl⟩ := Option.map_eq_some_iff.mp ey
        have la := h2.len
        rw [List.length_map, List.length_append, parts_len, List.length_take, List.length_take] at la
        have lj : min j [ch.1, ch.2].length ≤ 2 := Nat.min_le_right _ _
        have li : min i cs.length ≤ cs.length := Nat.min_le_right _ _
        refine ⟨rfl, _, rfl, acc, h1, by omega, acc ++ [y], upd_same, ?_, fun x o e => ?_⟩
        · rw [take_one eg, ← List.append_assoc, List.map_append]
          exact h2.snoc hdy
        · rw [upd_ne (ne_of_none e hD)]
          exact s2 _ _ e
      · rw [parts_take ech]
        exact h2
    · rw [show ys.length = cs.length from ly, List.take_length] at h2
      have la := h2.len
      rw [List.length_map, parts_len] at la
      refine ⟨b, D, xs, acc, rfl, rfl, s2.seq hb1, SqL.of h1, by omega, fun p hp => ?_⟩
      have s3 : Same (upd H d (DnO P w d [])) (upd H2 p (.lst (xs ++ acc))) := s2.trans (sameN hp)
      have hall : DvAll K H (xs ++ acc) ((fs ++ partsC cs).map Datum.toD) := by
        rw [List.map_append]
        exact hx.app h2
      obtain ⟨ks, ek, e2, e3⟩ := keysOf hall
      have lk : ks.length = fs.length + 2 * cs.length := by
        have z := congrArg List.length ek
        rw [List.length_append, List.length_map] at z
        omega
      refine ⟨p, ks, rfl, by rw [← ek]; exact SqL.of upd_same, fun q hq => (e3 q hq).1.keep (.of_same (s0.trans s3)), by omega, fun S L hS g nd => ?_⟩
      have s4 : Same (upd H d (DnO P w d [])) (upd (upd H2 p (.lst (xs ++ acc))) S (NsO w S L)) := s3.trans (sameN hS)
      have inks : ∀ q ∈ L, q ∈ ks := fun q hq => g.sub q hq
      have dat : ∀ q ∈ ks, ∃ f : Fg, f ∈ fs ++ partsC cs ∧ q.2 = kF f := fun q hq => by
        have z : q.2 ∈ ks.map (·.2) := List.mem_map.mpr ⟨q, hq, rfl⟩
        rw [e2] at z
        obtain ⟨f, hf, e⟩ := List.mem_map.mp z
        exact ⟨f, hf, e.symm⟩
      refine ⟨S, L, rfl, upd_same, fun q hq => ⟨(e3 q (inks q hq)).1.keep (.of_same (s0.trans s4)), (e3 q (inks q hq)).2.same (s0.trans s4), ?_⟩, ?_, ?_, fun L' T pL nd' hT => ?_⟩
      · obtain ⟨f, _, e⟩ := dat q (inks q hq)
        rw [e, kF_data]
        exact Nat.le_trans (Datum.depth_le f) (by decide)
      · intro x hx y hy
        obtain ⟨q, hq, rfl⟩ := List.mem_map.mp hx
        obtain ⟨r, hr, rfl⟩ := List.mem_map.mp hy
        obtain ⟨f, _, e⟩ := dat q (inks q hq)
        obtain ⟨f', _, e'⟩ := dat r (inks r hr)
        rw [e, e', kF_data, kF_data]
        exact DatumOrd.alike f f'
      · refine .inl fun x hx => ?_
        obtain ⟨q, hq, rfl⟩ := List.mem_map.mp hx
        obtain ⟨f, hf, e⟩ := dat q (inks q hq)
        obtain ⟨i, r, er⟩ := fig_cons (fp_ok okf okc f hf)
        rw [e, kF_data]
        exact ⟨.int i, r.map Datum.toD, by show PyData.tuple (f.items.map Datum.toD) = _; rw [er]; rfl⟩
      · have hs := held_sort (α := Fg) e2 g pL nd'
        have s5 := s4.trans (sameN (o := .lst ((sortD (L'.map datN)).map (·.1))) hT)
        have at_ : ∀ i x, ((sortD (L'.map datN)).map (·.1))[i]? = some x → ∃ q f, x = V.ref q ∧ (behKeys fs cs)[i]? = some f ∧ Dv K H (.ref q) (dF f) ∧ f ∈ fs ++ partsC cs := fun i x hx => by
          rw [List.getElem?_map] at hx
          obtain ⟨bd, hbd, rfl⟩ := Option.map_eq_some_iff.mp hx
          obtain ⟨q, hq, rfl⟩ := List.mem_map.mp ((List.mergeSort_perm _ _).mem_iff.mp (List.mem_of_getElem? hbd))
          have hz : ((sortD (L'.map datN)).map (·.2))[i]? = some q.2.data := by rw [List.getElem?_map, hbd]; rfl
          rw [hs, List.getElem?_map] at hz
          obtain ⟨f, hf, ef⟩ := Option.map_eq_some_iff.mp hz
          refine ⟨q.1, f, rfl, hf, ?_, uniq_mem.mp (sortT_mem.mp (List.mem_of_getElem? hf))⟩
          have z := (e3 q (inks q (pL.mem_iff.mp hq))).2
          rw [← ef] at z
          exact z
        have len_ : ((sortD (L'.map datN)).map (·.1)).length = (behKeys fs cs).length := by
          have z := congrArg List.length hs
          rw [List.length_map, List.length_map] at z
          rw [List.length_map, z]
          rfl
        have hTT : (upd (upd (upd H2 p (.lst (xs ++ acc))) S (NsO w S L)) T (.lst ((sortD (L'.map datN)).map (·.1)))) T = some (.lst ((sortD (L'.map datN)).map (·.1))) := upd_same
        refine ⟨T, rfl, ⟨_, SqL.of upd_same⟩, ?_⟩
        generalize (sortD (L'.map datN)).map (·.1) = zs at at_ len_ hTT s5 ⊢
        have hdT := s5 _ _ hd0
        have hT2 : (upd (upd H2 p (.lst (xs ++ acc))) S (NsO w S L)) T = none := hT
        have nTd : T ≠ d := (ne_of_none (s4 _ _ hd0) hT2).symm
        have hTn : H T = none := by
          cases q : H T with
          | none => rfl
          | some o => rw [s4 _ _ (s0 _ _ q)] at hT2; cases hT2
        refine for_list (xs := zs) (fun i σ H' => ∃ rows v3, σ = [some (.ref b), some (.ref c), some (.ref d), v3, none, none, none, none] ∧ DnAt P w K H' d rows ∧ Paired (EntR K (nol H (wod d H')) cs) ((behKeys fs cs).take i) rows ∧ Same H (wod d H') ∧ H' T = some (.lst zs))
          ⟨[], none, rfl, ⟨hdT, fun _ z => (nomatch z), List.nodup_nil, Nat.zero_le _, nsm⟩, .nil, same_wod (s0.trans s5) hd, hTT⟩ (fun i σ H' _ ⟨_, _, _, _, _, _, h⟩ => SqL.of h) ?_ ?_
        · rintro i x σ H3 hi ⟨rows, v3, rfl, D3, P3, s6, hT3⟩
          obtain ⟨q, f, rfl, hf, hq, hm⟩ := at_ i x hi
          have l2 := Paired.length P3
          have lt := (List.getElem?_eq_some_iff.mp hf).1
          rw [List.length_take] at l2
          have lb : (behKeys fs cs).length ≤ fs.length + 2 * cs.length := by
            have z := (nd_len (uniq (fs ++ partsC cs)) (fs ++ partsC cs) (uniq_nodup _) fun x hx => uniq_mem.mp hx).1
            rw [List.length_append, parts_len] at z
            unfold behKeys
            rw [sortT_len]
            exact z
          have s6H : Same H H3 := s6.trans wod_same
          refine ⟨_, rfl, by show 1 ≤ sizeLine; decide, fun l hl => ?_⟩
          have s7 : Same H3 (upd H3 l (.lst [.ref q])) := sameN hl
          have hl7 : (upd H3 l (.lst [.ref q])) l = some (.lst [.ref q]) := upd_same
          refine ⟨_, rfl, c, rfl, ⟨ys, (s6H.trans s7).seq hcl⟩, fun D4 hD4 => out_list (xs := ys) (fun j H' => ∃ ac, H' D4 = some (.lst ac) ∧ DvAll K H ac ((((cs.take j).filter fun c => decide (c.1 = f)).map (·.2)).map Datum.toD) ∧ Same (upd H3 l (.lst [.ref q])) H') ⟨[], upd_same, .nil, sameN hD4⟩ (fun j H' _ ⟨_, _, _, s8⟩ => ((s6H.trans s7).trans s8).seq hcl) (fun j x H' hj ⟨ac, h1, h2, s8⟩ => ?_) (fun H8 ⟨ac, h1, h2, s8⟩ => ?_)⟩
          · obtain ⟨dx, ex, hdx⟩ := hy.get hj
            rw [List.getElem?_map] at ex
            obtain ⟨ch, ech, rfl⟩ := Option.map_eq_some_iff.mp ex
            obtain ⟨a, x1, x2, rfl, ha, hd1, hd2⟩ := dv_ch hdx
            have s9 := (s6H.trans s7).trans s8
            refine ⟨a, _, rfl, sqT_same s9 ha, rfl, x1, _, rfl, x2, _, rfl, rfl, rfl, _, rfl, _, rfl, dF ch.1, dF f, dp_plain (hd1.same s9) (Datum.plain ch.1), dp_plain (hq.same s9) (Datum.plain f), shp_F ch.1, shp_F f, _, rfl, ?_⟩
            have ev : PyData.eqv (dF ch.1) (dF f) = decide (ch.1 = f) := Datum.eqv ch.1 f
            rw [ev, take_one ech, List.filter_append, List.map_append, List.map_append]
            by_cases hcf : ch.1 = f
            · have e1 : [ch].filter (fun c => decide (c.1 = f)) = [ch] := by simp [hcf]
              rw [e1]
              refine iteYb (decide_eq_true hcf) ⟨_, rfl, ac, h1, ?_, ac ++ [x2], upd_same, h2.snoc hd2, fun y o e => ?_⟩
              · have la := h2.len
                rw [List.length_map, List.length_map] at la
                have lf := List.length_filter_le (fun c : Ch => decide (c.1 = f)) (cs.take j)
                rw [List.length_take] at lf
                have lm := Nat.min_le_right j cs.length
                omega
              · rw [upd_ne (ne_of_none e hD4)]
                exact s8 _ _ e
            · have e1 : [ch].filter (fun c => decide (c.1 = f)) = [] := by simp [hcf]
              rw [e1]
              exact iteNb (decide_eq_false hcf) ⟨ac, h1, by simpa using h2, s8⟩
          · rw [show ys.length = cs.length from ly, List.take_length] at h2
            have la := h2.len
            have lf := List.length_filter_le (fun c : Ch => decide (c.1 = f)) cs
            rw [List.length_map, List.length_map] at la
            refine ⟨l, D4, [.ref q], ac, rfl, rfl, SqL.of (s8 _ _ hl7), SqL.of h1, by rw [List.length_singleton]; omega, fun p2 hp2 => ?_⟩
            have hall2 : DvAll K H ([V.ref q] ++ ac) ((laters cs f).map Datum.toD) := .cons hq h2
            obtain ⟨bs, eb1, eb2, hbs⟩ := dats_of hall2
            have s9 : Same H3 (upd H8 p2 (.lst ([.ref q] ++ ac))) := (s7.trans s8).trans (sameN hp2)
            have lls : bs.length = (laters cs f).length := by
              have z := congrArg List.length eb2
              rwa [List.length_map, List.length_map] at z
            have ll2 : (laters cs f).length ≤ cs.length + 1 := by
              show (((cs.filter fun c => decide (c.1 = f)).map (·.2)).length + 1) ≤ _
              rw [List.length_map]
              omega
            refine ⟨p2, bs, rfl, by rw [eb1]; exact SqL.of upd_same, fun bd hb2 => ⟨(hbs bd hb2).same (s6H.trans s9), ?_⟩, ?_, ?_, by omega, fun t ht => ?_⟩
            · have z : bd.2 ∈ bs.map (·.2) := List.mem_map.mpr ⟨bd, hb2, rfl⟩
              rw [eb2] at z
              obtain ⟨f', _, e⟩ := List.mem_map.mp z
              rw [← e]
              exact Nat.le_trans (Datum.depth_le f') (by decide)
            · rw [eb2]
              intro x hx y hy
              obtain ⟨f1, _, rfl⟩ := List.mem_map.mp hx
              obtain ⟨f2, _, rfl⟩ := List.mem_map.mp hy
              exact DatumOrd.alike f1 f2
            · rw [eb2]
              refine .inl fun x hx => ?_
              obtain ⟨f1, hf1, rfl⟩ := List.mem_map.mp hx
              have ok1 : fOk f1 := by
                rcases List.mem_cons.mp hf1 with e | e
                · rw [e]; exact fp_ok okf okc f hm
                · obtain ⟨c1, hc1, rfl⟩ := List.mem_map.mp e
                  exact (okc c1 (List.mem_filter.mp hc1).1).2.1
              obtain ⟨i1, r1, er⟩ := fig_cons ok1
              exact ⟨.int i1, r1.map Datum.toD, by show PyData.tuple (f1.items.map Datum.toD) = _; rw [er]; rfl⟩
            · have s10 : Same H3 (upd (upd H8 p2 (.lst ([.ref q] ++ ac))) t (.lst ((sortD bs).map (·.1)))) := s9.trans (sameN ht)
              have ht5 : (upd (upd H8 p2 (.lst ([.ref q] ++ ac))) t (.lst ((sortD bs).map (·.1)))) t = some (.lst ((sortD bs).map (·.1))) := upd_same
              generalize (upd (upd H8 p2 (.lst ([.ref q] ++ ac))) t (.lst ((sortD bs).map (·.1)))) = H5 at s10 ht5 ⊢
              have htd : t ≠ d := (ne_of_none (s9 _ _ D3.at_) ht).symm
              have D5 : DnAt P w K H5 d rows := D3.keep (s10 _ _ D3.at_) (.of_same s10)
              have hk : KeyAt K H5 (.ref q) (kF f) := keyAt_dv _ _ (by rw [kF_data]; exact hq.same (s6H.trans s10))
              have kd : (kF f).depth ≤ 8 := by rw [kF_depth]; decide
              have new : valR rows (kF f) = none := by
                cases e : valR rows (kF f) with
                | none => rfl
                | some z =>
                  exfalso
                  have h1 := valR_some.mp (show (valR rows (kF f)).isSome = true by rw [e]; rfl)
                  rw [ent_keys P3] at h1
                  obtain ⟨f', hf', e'⟩ := List.mem_map.mp h1
                  rw [kF_inj e'] at hf'
                  have nb : (behKeys fs cs).Nodup := (sortT_same _).nodup_iff.mpr (uniq_nodup _)
                  obtain ⟨j, hj, ej⟩ := List.getElem_of_mem hf'
                  rw [List.length_take] at hj
                  have ej2 : (behKeys fs cs)[j]? = some f := by
                    rw [← ej, List.getElem_take]
                    exact List.getElem?_eq_getElem _
                  have z := (List.getElem?_inj (by omega) nb).mp (ej2.trans hf.symm)
                  omega
              have ep : putR rows (kF f) q (.ref t) = rows ++ [(kF f, q, .ref t)] := by
                unfold putR
                rw [new]
                rfl
              have D6 := D5.put hk kd (by omega) (.ref t)
              refine ⟨_, rfl, _, rfl, d, _, rfl, ⟨rows, kF f, q, D5, rfl, hk, kd, by omega, rfl⟩, rows ++ [(kF f, q, .ref t)], some (.ref q), rfl, ?_, ?_, ?_, ?_⟩
              · rw [ep] at D6 ⊢
                exact D6
              · rw [wod_upd, take_one hf]
                have s11 := wod_mono (d := d) s10
                have htH : H t = none := by
                  cases z : H t with
                  | none => rfl
                  | some o => rw [s9 _ _ (s6H _ _ z)] at ht; cases ht
                refine ent_snoc (paired_imp P3 fun _ _ h => h.same (nol_mono s11)) ⟨rfl, tk_as (a := f) (tupK_nol (s6.trans s11)) hq, t, rfl, .lst (SqL.of (nol_new htH (by rw [wod_ne htd]; exact ht5))) ?_⟩
                have z := dvs_of (K := K) (H := H) (bs := sortD bs) fun bd hb2 => hbs bd ((List.mergeSort_perm _ _).mem_iff.mp hb2)
                rw [sortD_T eb2] at z
                exact tks_as (tupK_nol (s6.trans s11)) z
              · rw [wod_upd]
                exact s6.trans (wod_mono s10)
              · rw [upd_ne nTd]
                exact s10 _ _ hT3
        · rintro σ H3 ⟨rows, v3, rfl, D3, P3, s6, hT3⟩
          rw [len_, List.take_length] at P3
          exact ⟨_, rfl, k H3 d (s6.trans wod_same) hd ⟨rows, D3.keep (nol_new hd D3.at_) (tupK_nol2 (s6.trans wod_same)), paired_imp P3 fun _ _ h => h.same (nol_mono wod_same)⟩⟩
end
end Own
/-! Some of a pool, drawn. -/
namespace Own
open PySem PySem.Spec PyProof.Rows L2 PySem.W
abbrev sSom : Stmt := top1 24
/-- all but what stands at p is kept -/
def KB (p : Addr) (H H' : Hp) : Prop := ∀ b o, b ≠ p → H b = some o → H' b = some o
theorem KB.trans {p : Addr} {H H' H'' : Hp} (a : KB p H H') (b : KB p H' H'') : KB p H H'' := fun x o n e => b x o n (a x o n e)
theorem KB.wo {p : Addr} {H H' : Hp} (k : KB p H H') : Same (wod p H) (wod p H') := fun b o e => by
  unfold wod at e ⊢
  split at e
  · cases e
  · rename_i h
    rw [if_neg h]
    exact k b o h e
theorem KB.same {p : Addr} {H H' : Hp} (s : Same H H') : KB p H H' := fun b o _ e => s b o e
/-- the law's pen among the built-ins -/
structure Bi4 (mg : Str → Option Value) : Prop extends Bi3 mg where
  min : mg "min" = none
def spSom (α : Type) [DecidableEq α] [DatumOrd α] (K : PySem.W.Frag) : Sp := fun vs H Q _ => ∃ (p a l : Addr) (ns : List Int) (i n m : Int) (ys : List V) (as : List α), vs = [.ref p, .ref l, .int m] ∧ Pen H p a ns i n ∧ i ≤ 100000000 ∧ SqL K H l ys ∧ DvAll K (wod p H) ys (as.map Datum.toD) ∧ 0 ≤ m ∧ m ≤ 1000 ∧ as.length ≤ 300 ∧
  ∀ (H' : Hp) (q : Addr) (zs : List V) (bs rs : List α) (i' n' : Int), Pen H' p a ns i' n' → i' ≤ i + 1 + as.length → KB p H H' → H q = none → H' q = some (.lst zs) → DvAll K (wod p H) zs (bs.map Datum.toD) → (bs ++ rs).Perm as → (bs.length : Int) ≤ m → Q (.ref q) H'
section
variable {P : Program} {w : World} {K : PySem.W.Frag} {mg : Str → Option Value} {base : Heap}
abbrev CalDr (P : Program) (w : World) (K : PySem.W.Frag) (mg : Str → Option Value) (base : Heap) : Prop := Cal P w K mg base CX0 2 "_law_draw" ["pen", "under"] spDraw
theorem DvAll.erase {H : Hp} : ∀ {vs : List V} {ds : List PyData} (k : Nat), DvAll K H vs ds → DvAll K H (vs.eraseIdx k) (ds.eraseIdx k)
  | [], [], _, .nil => .nil
  | _ :: _, _ :: _, 0, .cons _ r => r
  | _ :: _, _ :: _, k + 1, .cons h r => .cons h (DvAll.erase k r)
theorem map_erase {α β : Type} (f : α → β) : ∀ (l : List α) (k : Nat), (l.map f).eraseIdx k = (l.eraseIdx k).map f
  | [], _ => rfl
  | _ :: _, 0 => rfl
  | x :: l, k + 1 => congrArg (f x :: ·) (map_erase f l k)
theorem erase_perm {α : Type} : ∀ {l : List α} {k : Nat} {g : α}, l[k]? = some g → (g :: l.eraseIdx k).Perm l
  | [], _, _, h => by simp at h
  | x :: l, 0, g, h => by
    have e : x = g := Option.some.inj h
    rw [e]
    exact .refl _
  | x :: l, k + 1, g, h => by
    have h' : l[k]? = some g := by simpa using h
    exact (List.Perm.swap x g _).trans ((erase_perm h').cons x)
theorem pen_fresh {H : Hp} {p a D : Addr} {ns : List Int} {i n : Int} {o : HO} (L : Pen H p a ns i n) (h : H D = none) : Pen (upd H D o) p a ns i n :=
  ⟨by rw [upd_ne (ne_of_none L.hp h)]; exact L.hp, by rw [upd_ne (ne_of_none L.ha h)]; exact L.ha, L.len, L.hi, L.hn⟩
theorem pen_upd {H : Hp} {p a D : Addr} {ns : List Int} {i n : Int} {o : HO} (L : Pen H p a ns i n) (h1 : D ≠ p) (h2 : D ≠ a) : Pen (upd H D o) p a ns i n :=
  ⟨by rw [upd_ne h1.symm]; exact L.hp, by rw [upd_ne h2.symm]; exact L.ha, L.len, L.hi, L.hn⟩
theorem sc_som : FnScope ["pen", "pool", "most", "rest", "turn"] ["pen", "pool", "most"] (defScope sSom) := ⟨rfl, rfl, rfl, by decide +kernel, rfl, by decide +kernel, by decide +kernel⟩
theorem ok_som {α : Type} [DecidableEq α] [DatumOrd α] {f : Addr} {fd : FuncData} (F : Fun K "_law_some" "_law_some" sSom f fd) (T : Bi4 mg) (CD : CalDr P w K mg base) : FnOk P w K mg base CX0 3 f fd ["pen", "pool", "most"] (spSom α K) := by
  obtain ⟨fD, fdD, GD, gD, kD, bD⟩ := CD
  refine F.ok sc_som (fun vs H Q E h => ?_) (fun cdv A outer s H vs Q E hr h => ?_)
  · obtain ⟨p, a, l, ns, i, n, m, ys, as, rfl, _⟩ := h
    rfl
  · obtain ⟨p, a, l, ns, i, n, m, ys, as, rfl, L, hi9, hl, hy, m0, m9, hlen, k⟩ := h
    have hrD : Room 2 _ := hr
    refine ⟨_, (pss_cons (ps_set (i := 3) sc_som.nd rfl (.inr rfl) (pe_callTy call_list_of (by rfl) T.list (by decide +kernel) (pa_cons (pv 1) pa_nil)))
        (pss_one (ps_ret (pe_lc (te := tBM K "list" rPopAt (tVar 3) (tCons (tCall spDraw [] E0 (tCons (tVar 0) (tCons (tCB (fun xs H_1 Q => ∃ q ys, xs = [V.ref q] ∧ (SqL K H_1 q ys ∨ SqT K H_1 q ys) ∧ Q (V.int (ys.length : Nat)) H_1) (tCons (tVar 3) tNil)) tNil))) tNil)) (own := [("turn", 4)]) (g := gName 4) rfl sc_som.nd (pi_range1 (by rfl) T.range (pa_cons (pe_call GD hrD (by rfl) gD kD bD .nil pass0 (pa_cons (pv 0) (pa_cons (pe_op op_add (pe_callB (call_min2 rfl) (by rfl) T.min (by decide +kernel) (pa_cons (pv 2) (pa_cons (pe_callB call_len_seq (by rfl) T.len PySem.boot_len (pa_cons (pv 3) pa_nil)) pa_nil))) (pe_int)) pa_nil))) pa_nil)) (blkOk_by (N := ["pen", "pool", "most", "rest", "turn"]) (sc := defScope sSom) (by decide +kernel)) (fun _ _ _ _ _ => (pg_name (i := 4) sc_som.nd rfl (.inl rfl))) (fun _ _ _ _ _ => pts_nil) (fun _ _ _ _ _ => (pe_bm PySem.F.plainAttrs_list PySem.F.slot_list_pop PySem.F.type_list_pop mt_popAt (pv 3) (pa_cons (pe_call GD hrD (by rfl) gD kD bD .nil pass0 (pa_cons (pv 0) (pa_cons (pe_callB call_len_seq (by rfl) T.len PySem.boot_len (pa_cons (pv 3) pa_nil)) pa_nil))) pa_nil))))))), ?_⟩
    refine ⟨_, rfl, l, ys, rfl, .inl hl, fun r hr0 => ?_⟩
    have ly := hy.len
    rw [List.length_map] at ly
    have s0 : Same H (upd H r (.lst ys)) := sameN hr0
    have hr1 : (upd H r (.lst ys)) r = some (.lst ys) := upd_same
    have nrp : r ≠ p := (ne_of_none L.hp hr0).symm
    have L0 : Pen (upd H r (.lst ys)) p a ns i n := ⟨s0 _ _ L.hp, s0 _ _ L.ha, L.len, L.hi, L.hn⟩
    have mm : ∃ t : Nat, (if (ys.length : Int) < m then (ys.length : Int) else m) = t ∧ t ≤ as.length ∧ (t : Int) ≤ m := by
      by_cases h : (ys.length : Int) < m
      · exact ⟨ys.length, if_pos h, by omega, by omega⟩
      · exact ⟨m.toNat, by rw [if_neg h]; omega, by omega, by omega⟩
    obtain ⟨t, et, t1, t2⟩ := mm
    refine ⟨_, rfl, _, rfl, _, rfl, r, ys, rfl, .inl (SqL.of hr1), _, _, rfl, _, _, rfl, rfl, p, a, ns, i, n, _, rfl, L0, by omega, by rw [et]; omega, by rw [et]; omega, fun d i1 n1 H1 d0 du L1 hi1 kb1 => ?_⟩
    rw [et] at du
    have kb0 : KB p H H1 := (KB.same s0).trans kb1
    have hr2 : H1 r = some (.lst ys) := kb1 _ _ nrp hr1
    refine ⟨d, rfl, by omega, by omega, fun D hD => ?_⟩
    have nrD : r ≠ D := ne_of_none hr2 hD
    have hD0 : H D = none := by
      cases q : H D with
      | none => rfl
      | some o =>
        by_cases e : D = p
        · rw [e, L1.hp] at hD; cases hD
        · rw [kb0 _ _ e q] at hD; cases hD
    have hrH : H r = none := hr0
    refine lc_range (lo := 0) (n := d.toNat) (fun j H' => ∃ (acc rest : List V) (bs rs : List α) (i' n' : Int), Pen H' p a ns i' n' ∧ i' ≤ i + 1 + j ∧ H' D = some (.lst acc) ∧ H' r = some (.lst rest) ∧ DvAll K (wod p H) acc (bs.map Datum.toD) ∧ DvAll K (wod p H) rest (rs.map Datum.toD) ∧ (bs ++ rs).Perm as ∧ bs.length = j ∧ KB p H H')
      ⟨[], ys, [], as, i1, n1, pen_fresh L1 hD, by omega, upd_same, by rw [upd_ne nrD]; exact hr2, .nil, hy, .refl _, rfl, kb0.trans (KB.same (sameN hD))⟩ ?_ ?_
    · rintro j H2 hj ⟨acc, rest, bs, rs, i2, n2, L2, hi2, hD2, hr3, dv1, dv2, pm, lb, kb2⟩
      have lrest := dv2.len
      have lpm := pm.length_eq
      rw [List.length_map] at lrest
      rw [List.length_append] at lpm
      have hjt : (j : Int) < t := by omega
      refine ⟨rfl, _, rfl, .inl ⟨rfl, rest, SqL.of hr3⟩, _, rfl, _, rfl, r, rest, rfl, .inl (SqL.of hr3), p, a, ns, i2, n2, _, rfl, L2, by omega, by omega, by omega, fun e i3 n3 H3 e0 eu L3 hi3 kb3 => ?_⟩
      have hr4 : H3 r = some (.lst rest) := kb3 _ _ nrp hr3
      have nDp : D ≠ p := fun z => by rw [z, L.hp] at hD0; cases hD0
      have hD4 : H3 D = some (.lst acc) := kb3 _ _ nDp hD2
      have hk : e.toNat < rest.length := by omega
      obtain ⟨y, ey⟩ : ∃ y, rest[e.toNat]? = some y := ⟨_, List.getElem?_eq_getElem hk⟩
      obtain ⟨dy, edy, hdy⟩ := dv2.get ey
      rw [List.getElem?_map] at edy
      obtain ⟨g, eg, rfl⟩ := Option.map_eq_some_iff.mp edy
      have lacc := dv1.len
      rw [List.length_map] at lacc
      refine ⟨r, rest, e, e.toNat, y, rfl, rfl, hr4, by omega, by omega, seqIndex_of e0 eu, ey, acc, by rw [upd_ne nrD.symm]; exact hD4, ?_, acc ++ [y], rest.eraseIdx e.toNat, bs ++ [g], rs.eraseIdx e.toNat, i3, n3, ?_, by omega, upd_same, ?_, ?_, ?_, ?_, by rw [List.length_append, lb]; rfl, ?_⟩
      · exact Nat.lt_of_lt_of_le (show acc.length < 1000 by omega) (by decide : 1000 ≤ sizeLine)
      · exact pen_upd (pen_upd L3 nrp (fun z => by rw [z, L.ha] at hrH; cases hrH)) nDp (fun z => by rw [z, L.ha] at hD0; cases hD0)
      · rw [upd_ne nrD, upd_same]
      · rw [List.map_append]; exact dv1.snoc hdy
      · rw [← map_erase]; exact dv2.erase _
      · refine List.Perm.trans ?_ pm
        rw [List.append_assoc]
        exact List.Perm.append_left bs (erase_perm eg)
      · intro x o nx ex
        rw [upd_ne (ne_of_none ex hD0), upd_ne (ne_of_none ex hrH)]
        exact kb3 _ _ nx (kb2 _ _ nx ex)
    · rintro H2 ⟨acc, rest, bs, rs, i2, n2, L2, hi2, hD2, hr3, dv1, dv2, pm, lb, kb2⟩
      have lpm := pm.length_eq
      rw [List.length_append] at lpm
      exact k H2 D acc bs rs i2 n2 L2 (by omega) kb2 hD0 hD2 dv1 pm (by omega)
end
end Own
/-! The law's list of all shapes. -/
namespace Own
open PySem PySem.Spec PyProof.Rows L2
abbrev sFgs : Stmt := top1 25
/-- tuples of ints -/
def TupsAt (H : Hp) : List V → List (List Int) → Prop
  | [], [] => True
  | v :: vs, k :: r => (∃ p, v = .ref p ∧ H p = some (.tup (k.map V.int))) ∧ TupsAt H vs r
  | _, _ => False
theorem TupsAt.more {H : Hp} {v : V} {k : List Int} (h : ∃ p, v = .ref p ∧ H p = some (.tup (k.map V.int))) : ∀ {vs : List V} {r : List (List Int)}, TupsAt H vs r → TupsAt H (vs ++ [v]) (r ++ [k])
  | [], [], _ => ⟨h, trivial⟩
  | _ :: _, _ :: _, ⟨a, b⟩ => ⟨a, TupsAt.more h b⟩
  | [], _ :: _, z => z.elim
  | _ :: _, [], z => z.elim
theorem TupsAt.keep {H H' : Hp} (k : ∀ p xs, H p = some (.tup xs) → H' p = some (.tup xs)) : ∀ {vs : List V} {r : List (List Int)}, TupsAt H vs r → TupsAt H' vs r
  | [], [], _ => trivial
  | _ :: _, _ :: _, ⟨⟨p, e, h⟩, b⟩ => ⟨⟨p, e, k _ _ h⟩, TupsAt.keep k b⟩
  | [], _ :: _, z => z.elim
  | _ :: _, [], z => z.elim
theorem TupsAt.same {H H' : Hp} (s : Same H H') {vs : List V} {r : List (List Int)} (h : TupsAt H vs r) : TupsAt H' vs r := h.keep fun p xs e => s _ _ e
theorem TupsAt.len {H : Hp} : ∀ {vs : List V} {r : List (List Int)}, TupsAt H vs r → vs.length = r.length
  | [], [], _ => rfl
  | _ :: _, _ :: _, ⟨_, b⟩ => congrArg (· + 1) (TupsAt.len b)
  | [], _ :: _, z => z.elim
  | _ :: _, [], z => z.elim
theorem TupsAt.app {H : Hp} : ∀ {vs us : List V} {r q : List (List Int)}, TupsAt H vs r → TupsAt H us q → TupsAt H (vs ++ us) (r ++ q)
  | [], _, [], _, _, h => h
  | _ :: _, _, _ :: _, _, ⟨a, b⟩, h => ⟨a, TupsAt.app b h⟩
  | [], _, _ :: _, _, z, _ => z.elim
  | _ :: _, _, [], _, z, _ => z.elim
theorem TupsAt.get {H : Hp} : ∀ {vs : List V} {r : List (List Int)} {i : Nat}, TupsAt H vs r → i < r.length → ∃ p k, vs[i]? = some (.ref p) ∧ r[i]? = some k ∧ H p = some (.tup (k.map V.int))
  | _ :: _, _ :: _, 0, ⟨⟨p, e, h⟩, _⟩, _ => ⟨p, _, by rw [e]; rfl, rfl, h⟩
  | _ :: _, _ :: _, i + 1, ⟨_, b⟩, l => by
    obtain ⟨p, k, h1, h2, h3⟩ := TupsAt.get (i := i) b (by simpa using l)
    exact ⟨p, k, by simpa using h1, by simpa using h2, h3⟩
  | [], [], _, _, l => absurd l (by simp)
  | [], _ :: _, _, z, _ => z.elim
  | _ :: _, [], _, z, _ => z.elim
theorem dv_ints {K : PySem.W.Frag} {H : Hp} : ∀ k : List Int, DvAll K H (k.map V.int) (k.map PyData.int)
  | [] => .nil
  | i :: r => .cons (.int i) (dv_ints r)
/-- the shapes: of one table, of two tables with the first t -/
def onesTo (j : Nat) : List (List Int) := (List.range j).map fun t : Nat => [(t : Int)]
def pairsOf (t j : Nat) : List (List Int) := ((List.range j).filter fun o => decide (o ≠ t)).map fun o : Nat => [(t : Int), (o : Int)]
def figsTo (i : Nat) : List (List Int) := onesTo 6 ++ (List.range i).flatMap fun t => pairsOf t 6
theorem onesTo_more (j : Nat) : onesTo (j + 1) = onesTo j ++ [[(j : Int)]] := by
  unfold onesTo
  rw [List.range_succ, List.map_append]
  rfl
theorem pairsOf_same {t : Nat} : pairsOf t (t + 1) = pairsOf t t := by
  unfold pairsOf
  rw [List.range_succ, List.filter_append]
  simp
theorem pairsOf_more {t j : Nat} (h : j ≠ t) : pairsOf t (j + 1) = pairsOf t j ++ [[(t : Int), (j : Int)]] := by
  unfold pairsOf
  rw [List.range_succ, List.filter_append, List.map_append]
  simp [h]
theorem pairsOf_len (t j : Nat) : (pairsOf t j).length ≤ j := by
  unfold pairsOf
  rw [List.length_map]
  exact Nat.le_trans (List.length_filter_le _ _) (by rw [List.length_range]; exact Nat.le_refl _)
theorem figsTo_more (i : Nat) : figsTo (i + 1) = figsTo i ++ pairsOf i 6 := by
  unfold figsTo
  rw [List.range_succ, List.flatMap_append, ← List.append_assoc]
  simp
theorem figsTo_len : ∀ i, (figsTo i).length ≤ 6 + i * 6
  | 0 => by decide
  | i + 1 => by
    rw [figsTo_more, List.length_append]
    have h1 := figsTo_len i
    have h2 := pairsOf_len i 6
    omega
theorem figs_fig : ∀ k < 36, ∃ l, (figsTo 6)[k]? = some l ∧ isFig (.tuple (l.map PyData.int)) = true := by decide +kernel
def spFgs : Sp := fun vs H Q _ => vs = [] ∧ ∀ H' D xs, Same H H' → H D = none → H' D = some (.lst xs) → TupsAt H' xs (figsTo 6) → Q (.ref D) H'
section
variable {P : Program} {w : World} {K : PySem.W.Frag} {mg : Str → Option Value} {base : Heap}
theorem sc_fgs : FnScope ["one", "found", "other"] [] (defScope sFgs) := ⟨rfl, rfl, rfl, by decide +kernel, rfl, by decide +kernel, by decide +kernel⟩
theorem ok_fgs {f : Addr} {fd : FuncData} (F : Fun K "_law_figures" "_law_figures" sFgs f fd) (T : Bi1 mg) : FnOk P w K mg base CX0 1 f fd [] spFgs := by
  refine F.ok sc_fgs (fun vs H Q E h => ?_) (fun cdv A outer s H vs Q E hr h => ?_)
  · obtain ⟨rfl, _⟩ := h
    rfl
  · obtain ⟨rfl, k⟩ := h
    refine ⟨_, (pss_cons (ps_setLc (i := 1) (own := [("one", 0)]) (g := gName 0) rfl sc_fgs.nd rfl rfl (sw_true rfl rfl rfl (by decide +kernel)) (pi_range1 (by rfl) T.range (pa_cons (pe_int) pa_nil)) (blkOk_by (N := ["one", "found", "other"]) (sc := defScope sFgs) (by decide +kernel)) (fun _ _ _ _ _ => (pg_name (i := 0) sc_fgs.nd rfl (.inl rfl))) (fun _ _ _ _ _ => pts_nil) (fun _ _ _ _ _ => (pe_tup (pa_cons (pv 0) pa_nil))))
        (pss_cons (ps_for PassesOwn.never rfl (pi_range1 (by rfl) T.range (pa_cons (pe_int) pa_nil)) (pg_name (i := 0) sc_fgs.nd rfl (.inr rfl)) (pss_one (ps_set (i := 1) sc_fgs.nd rfl (.inl rfl) (pe_op op_cat (pv 1) (pe_lc (own := [("other", 2)]) (g := gName 2) rfl sc_fgs.nd (pi_range1 (by rfl) T.range (pa_cons (pe_int) pa_nil)) (blkOk_by (N := ["one", "found", "other"]) (sc := defScope sFgs) (by decide +kernel)) (fun _ _ _ _ _ => (pg_name (i := 2) sc_fgs.nd rfl (.inl rfl))) (fun _ _ _ _ _ => (pts_one (pt_cmpR op_ne (pv 2) (pv 0) (nomark _)))) (fun _ _ _ _ _ => (pe_tup (pa_cons (pv 0) (pa_cons (pv 2) pa_nil)))))))))
        (pss_one (ps_ret (pv 1))))), ?_⟩
    refine ⟨_, rfl, by decide, by decide, fun D hD => lc_range (lo := 0) (n := 6) (fun j H' => ∃ acc, H' D = some (.lst acc) ∧ TupsAt H' acc (onesTo j) ∧ Same H H') ⟨[], upd_same, trivial, sameN hD⟩ ?_ ?_⟩
    · rintro j H1 hj ⟨ac, y1, y2, y3⟩
      refine ⟨rfl, _, rfl, by show 1 ≤ sizeLine; decide, fun p hp => ⟨ac, ?_, ?_, ac ++ [.ref p], upd_same, ?_, ?_⟩⟩
      · rw [upd_ne (ne_of_none y1 hp)]
        exact y1
      · rw [y2.len]
        unfold onesTo
        rw [List.length_map, List.length_range]
        exact Nat.lt_of_lt_of_le (show j < 1000 by omega) (by decide : 1000 ≤ sizeLine)
      · rw [onesTo_more]
        have npD : p ≠ D := fun z => by rw [z, y1] at hp; cases hp
        refine TupsAt.more ⟨p, rfl, ?_⟩ (y2.keep fun b ys e => ?_)
        · rw [upd_ne npD, upd_same, Int.zero_add]
          rfl
        · rw [upd_ne (fun z => by rw [z, y1] at e; cases e), upd_ne (ne_of_none e hp)]
          exact e
      · intro b o e
        rw [upd_ne (ne_of_none e hD), upd_ne (ne_of_none (y3 _ _ e) hp)]
        exact y3 _ _ e
    · rintro H1 ⟨ac1, x1, x2, x3⟩
      refine ⟨_, rfl, by decide, by decide, ?_⟩
      refine for_range (n := 6) (fun i σ H' => ∃ l acc v, σ = [v, some (.ref l), none] ∧ H' l = some (.lst acc) ∧ TupsAt H' acc (figsTo i) ∧ Same H H' ∧ H l = none) ⟨D, ac1, none, rfl, x1, x2, x3, hD⟩ ?_ ?_
      · rintro i σ H1 hi ⟨l, acc, v, rfl, h1, h2, s1, hl0⟩
        refine ⟨_, rfl, _, rfl, by decide, by decide, fun D2 hD2 => ?_⟩
        have nlD : l ≠ D2 := ne_of_none h1 hD2
        refine lc_range (lo := 0) (n := 6) (fun j H3 => ∃ ac, H3 D2 = some (.lst ac) ∧ TupsAt H3 ac (pairsOf i j) ∧ Same H1 H3) ⟨[], upd_same, trivial, sameN hD2⟩ ?_ ?_
        · rintro j H3 hj ⟨ac, y1, y2, y3⟩
          refine ⟨rfl, _, rfl, _, rfl, rfl, _, rfl, ?_⟩
          by_cases hji : j = i
          · subst hji
            refine iteNb (by simp) ⟨ac, y1, ?_, y3⟩
            rw [pairsOf_same]
            exact y2
          · have n1 : ¬ (j : Int) = (i : Int) := by omega
            refine iteYb (by simp [n1]) ⟨_, rfl, _, rfl, by show 2 ≤ sizeLine; decide, fun p hp => ⟨ac, ?_, ?_, ac ++ [.ref p], upd_same, ?_, ?_⟩⟩
            · rw [upd_ne (ne_of_none y1 hp)]
              exact y1
            · rw [y2.len]
              have l1 := pairsOf_len i j
              exact Nat.lt_of_lt_of_le (show (pairsOf i j).length < 1000 by omega) (by decide : 1000 ≤ sizeLine)
            · rw [pairsOf_more hji]
              have npD : p ≠ D2 := fun z => by rw [z, y1] at hp; cases hp
              refine TupsAt.more ⟨p, rfl, ?_⟩ (y2.keep fun b ys e => ?_)
              · rw [upd_ne npD, upd_same, Int.zero_add, Int.zero_add]
                rfl
              · rw [upd_ne (fun z => by rw [z, y1] at e; cases e), upd_ne (ne_of_none e hp)]
                exact e
            · intro b o e
              rw [upd_ne (ne_of_none e hD2), upd_ne (ne_of_none (y3 _ _ e) hp)]
              exact y3 _ _ e
        · rintro H3 ⟨ac, y1, y2, y3⟩
          refine ⟨l, D2, acc, ac, rfl, rfl, y3 _ _ h1, y1, ?_, fun p hp => ?_⟩
          · rw [h2.len, y2.len]
            have l1 := figsTo_len i
            have l2 := pairsOf_len i 6
            exact Nat.le_trans (show (figsTo i).length + (pairsOf i 6).length ≤ 1000 by omega) (by decide : 1000 ≤ sizeLine)
          · have s4 : Same H3 (upd H3 p (.lst (acc ++ ac))) := sameN hp
            refine ⟨p, acc ++ ac, _, rfl, upd_same, ?_, (s1.trans y3).trans s4, ?_⟩
            · rw [figsTo_more]
              exact (h2.same (y3.trans s4)).app (y2.same s4)
            · cases z : H p with
              | none => rfl
              | some o =>
                have z2 := (s1.trans y3) _ _ z
                rw [hp] at z2
                cases z2
      · rintro σ H1 ⟨l, acc, v, rfl, h1, h2, s1, hl0⟩
        exact ⟨_, rfl, k H1 l acc s1 hl0 h1 h2⟩
end
end Own
/-! A road is made. -/
namespace Own
open PySem PySem.Spec PyProof.Rows L2 PySem.W
abbrev sRoad : Stmt := top1 17
abbrev sIni : Stmt := inClass sRoad 0
/-- items as data that are tuples with something in them -/
def Full {α : Type} [DecidableEq α] [DatumOrd α] (as : List α) : Prop := ∀ a ∈ as, ∃ x r, (Datum.toD a : PyData) = .tuple (x :: r)
theorem full_F {fs : List Fg} (h : ∀ f ∈ fs, fOk f) : Full fs := fun f hf => by
  obtain ⟨i, r, er⟩ := fig_cons (h f hf)
  exact ⟨.int i, r.map Datum.toD, by show PyData.tuple (f.items.map Datum.toD) = _; rw [er]; rfl⟩
theorem full_C (cs : List Ch) : Full cs := fun c _ => ⟨dF c.1, [dF c.2], rfl⟩
/-- sorted of a list of such -/
theorem rsort {α : Type} [DecidableEq α] [DatumOrd α] {K : PySem.W.Frag} {H0 H : Hp} {Q : VK} {as : List α} {a : Addr} {vs : List V} (s : Same H0 H) (hd : Datum.depth α ≤ 40) (hf : Full as) (hl : as.length ≤ sizeLine) (ha : SqL K H a vs) (hv : DvAll K H0 vs (as.map Datum.toD))
    (k : ∀ p zs, H p = none → DvAll K H0 zs ((sortT as).map Datum.toD) → Q (.ref p) (upd H p (.lst zs))) : rSortD K [.ref a] H Q := by
  obtain ⟨bs, e1, e2, e3⟩ := dats_of hv
  have lb : bs.length = as.length := by
    have z := congrArg List.length e2
    rwa [List.length_map, List.length_map] at z
  refine ⟨a, bs, rfl, by rw [e1]; exact ha, fun b hb => ⟨(e3 b hb).same s, ?_⟩, ?_, ?_, by omega, fun p hp => k p _ hp ?_⟩
  · have z : b.2 ∈ bs.map (·.2) := List.mem_map.mpr ⟨b, hb, rfl⟩
    rw [e2] at z
    obtain ⟨x, _, e⟩ := List.mem_map.mp z
    rw [← e]
    exact Nat.le_trans (Datum.depth_le x) hd
  · rw [e2]
    intro x hx y hy
    obtain ⟨f1, _, rfl⟩ := List.mem_map.mp hx
    obtain ⟨f2, _, rfl⟩ := List.mem_map.mp hy
    exact DatumOrd.alike f1 f2
  · rw [e2]
    refine .inl fun x hx => ?_
    obtain ⟨f1, hf1, rfl⟩ := List.mem_map.mp hx
    exact hf f1 hf1
  · have z := dvs_of (K := K) (H := H0) (bs := sortD bs) fun b hb => e3 b ((List.mergeSort_perm _ _).mem_iff.mp hb)
    rw [sortD_T e2] at z
    exact z
/-- lists that make a road -/
def WfR (fs : List Fg) (cs : List Ch) : Prop := AreF (.list (fs.map Datum.toD)) fs ∧ AreC (.list (cs.map Datum.toD)) cs ∧ fs.length + 2 * cs.length < 290
/-- a road at r, of these shapes to begin with and these changes -/
structure RoadAt (P : Program) (w : World) (K : PySem.W.Frag) (C : Addr) (H : Hp) (r : Addr) (fs : List Fg) (cs : List Ch) : Prop where
  ex : ∃ dx fl b c d, H r = some (.ins C dx fl) ∧ fl.lookup ("_begin" : Str) = some (.ref b) ∧ fl.lookup ("_changes" : Str) = some (.ref c) ∧ fl.lookup ("_behind" : Str) = some (.ref d) ∧
    Dv K H (.ref b) (.list ((sortT fs).map Datum.toD)) ∧ Dv K H (.ref c) (.list ((sortT cs).map Datum.toD)) ∧ BehAt P w K H d fs cs
  wf : WfR fs cs
  nm : ∀ D dx fl, H r = some (.ins D dx fl) → ∀ m : Str, m ≠ "_begin" → m ≠ "_changes" → m ≠ "_behind" → fl.lookup m = none
def spIni (P : Program) (w : World) (K : PySem.W.Frag) (C cR : Addr) : Sp := fun vs H Q E => ∃ (r dx : Addr) (v u : V) (d e : PyData), vs = [.ref r, v, u] ∧ H r = some (.ins C dx []) ∧ Cls K C ∧ NoAttr K C "_begin" ∧ NoAttr K C "_changes" ∧ NoAttr K C "_behind" ∧
  Dv K (wod r H) v d ∧ Dv K (wod r H) u e ∧ lenD d + 2 * lenD e < 290 ∧
  (∀ fs cs, AreF d fs → AreC e cs → ∀ H', Same (wod r H) H' → RoadAt P w K C (nol H H') r fs cs → Q .non H') ∧
  (((∀ fs, ¬ AreF d fs) ∨ ∀ cs, ¬ AreC e cs) → ∀ H', Same H H' → E (.ref cR) none H')
theorem same_r {H H' : Hp} {r : Addr} {o : HO} (s : Same (wod r H) H') : Same (wod r H) (upd H' r o) := fun b u e => by
  by_cases h : b = r
  · subst h
    unfold wod at e
    rw [if_pos rfl] at e
    cases e
  · rw [upd_ne h]
    exact s _ _ e
theorem TupK.ins {H : Hp} {r C dx : Addr} {fl : List (Str × V)} {o : HO} (e : H r = some (.ins C dx fl)) : TupK H (upd H r o) := fun p xs h => by
  have ne : p ≠ r := by
    rintro rfl
    rcases h with h | ⟨o, h⟩
    · rw [e] at h; cases h
    · rw [e] at h; cases h
  rcases h with h | ⟨u, h⟩
  · exact .inl (by rw [upd_ne ne]; exact h)
  · exact .inr ⟨u, by rw [upd_ne ne]; exact h⟩
theorem rd_wod {H : Hp} {r C dx a : Addr} {fl : List (Str × V)} {o : HO} (e : H r = some (.ins C dx fl)) (no : ∀ C dx fl, o ≠ .ins C dx fl) (h : Rd H a o) : Rd (wod r H) a o := by
  have ne : a ≠ r := by
    rintro rfl
    rcases h with h | ⟨u, h⟩
    · rw [e] at h; injection h with h; exact no _ _ _ h.symm
    · rw [e] at h; cases h
  rcases h with h | ⟨u, h⟩
  · exact .inl (by rw [wod_ne ne]; exact h)
  · exact .inr ⟨u, by rw [wod_ne ne]; exact h⟩
theorem sqL_wod {K : PySem.W.Frag} {H : Hp} {r C dx a : Addr} {fl : List (Str × V)} {xs : List V} (e : H r = some (.ins C dx fl)) (h : SqL K H a xs) : SqL K (wod r H) a xs := h.elim (fun z => .inl (rd_wod e (fun _ _ _ z => nomatch z) z)) .inr
theorem sqT_wod {K : PySem.W.Frag} {H : Hp} {r C dx a : Addr} {fl : List (Str × V)} {xs : List V} (e : H r = some (.ins C dx fl)) (h : SqT K H a xs) : SqT K (wod r H) a xs := h.elim (fun z => .inl (rd_wod e (fun _ _ _ z => nomatch z) z)) .inr
theorem dk_wod {H : Hp} {r C dx a : Addr} {fl : List (Str × V)} {kvs : List (Key × V)} (e : H r = some (.ins C dx fl)) (h : H a = some (.dK kvs)) : wod r H a = some (.dK kvs) := by
  rw [wod_ne (ne_of h e (fun z => nomatch z))]
  exact h
mutual
/-- data doesn't hang on an instance -/
theorem dv_wod {K : PySem.W.Frag} {H : Hp} {r C dx : Addr} {fl : List (Str × V)} (e : H r = some (.ins C dx fl)) : ∀ {v : V} {d : PyData}, Dv K H v d → Dv K (Own.wod r H) v d
  | _, _, .non => .non
  | _, _, .bl b => .bl b
  | _, _, .int i => .int i
  | _, _, .str x => .str x
  | _, _, .lst h q => .lst (sqL_wod e h) (dvs_wod e q)
  | _, _, .tup h q => .tup (sqT_wod e h) (dvs_wod e q)
  | _, _, .dct h q => .dct (dk_wod e h) (dvs_wod e q)
theorem dvs_wod {K : PySem.W.Frag} {H : Hp} {r C dx : Addr} {fl : List (Str × V)} (e : H r = some (.ins C dx fl)) : ∀ {vs : List V} {ds : List PyData}, DvAll K H vs ds → DvAll K (Own.wod r H) vs ds
  | _, _, .nil => .nil
  | _, _, .cons h q => .cons (dv_wod e h) (dvs_wod e q)
end
theorem wod_to {H : Hp} {r : Addr} {o : HO} : Same (wod r H) (upd H r o) := same_r wod_same
theorem beh_r {P : Program} {w : World} {K : PySem.W.Frag} {H : Hp} {r C dx d : Addr} {fl : List (Str × V)} {o : HO} {fs : List Fg} {cs : List Ch} (e : H r = some (.ins C dx fl)) (B : BehAt P w K H d fs cs) : BehAt P w K (upd H r o) d fs cs := by
  obtain ⟨rows, D, p⟩ := B
  refine ⟨rows, D.keep ?_ (.ins e), paired_imp p fun f row h => ⟨h.1, (dv_wod e h.2.1).same wod_to, ?_⟩⟩
  · rw [upd_ne (ne_of D.at_ e (fun z => by have z' : HO.ext _ = HO.ins _ _ _ := z; cases z'))]
    exact D.at_
  · obtain ⟨l, e2, h2⟩ := h.2.2
    exact ⟨l, e2, (dv_wod e h2).same wod_to⟩
section
variable {P : Program} {w : World} {K : PySem.W.Frag} {mg : Str → Option Value} {base : Heap}
theorem BehAt.same {H H' : Hp} {d : Addr} {fs : List Fg} {cs : List Ch} (B : BehAt P w K H d fs cs) (s : Same H H') : BehAt P w K H' d fs cs := by
  obtain ⟨rows, D, p⟩ := B
  exact ⟨rows, D.keep (s _ _ D.at_) (.of_same s), paired_imp p fun _ _ h => h.same s⟩
abbrev CalBeh (P : Program) (w : World) (K : PySem.W.Frag) (mg : Str → Option Value) (base : Heap) : Prop := Cal P w K mg base CX0 1 "shapes_behind" ["begin", "changes"] (spBeh P w K)
theorem sc_ini : FnScope ["self", "begin", "changes"] ["self", "begin", "changes"] (defScope sIni) := ⟨rfl, rfl, rfl, by decide +kernel, rfl, by decide +kernel, by decide +kernel⟩
theorem ok_ini {f C cR : Addr} {fd : FuncData} (F : Fun K "__init__" "Road.__init__" sIni f fd) (T : Bi3 mg) (CA : CalArS P w K mg base) (CC : CalArC P w K mg base) (CB : CalBeh P w K mg base) (TInvalidRoad : ErC K mg "InvalidRoad" cR) :
    FnOk P w K mg base (L2.CX P w) 7 f fd ["self", "begin", "changes"] (spIni P w K C cR) := by
  obtain ⟨fA, fdA, GA, gA, kA, bA⟩ := CA
  obtain ⟨fC, fdC, GC, gC, kC, bC⟩ := CC
  obtain ⟨fB, fdB, GB, gB, kB, bB⟩ := CB
  refine F.okX sc_ini (fun vs H Q E h => ?_) (fun cdv A outer s H vs Q E hr h => ?_)
  · obtain ⟨r, dx, v, u, d, e, rfl, _⟩ := h
    rfl
  · obtain ⟨r, dx, v, u, d, e, rfl, hr0, hC, n1, n2, n3, hv, hu2, hl, k1, k2⟩ := h
    have hu := hr.units
    have hrC : Room 6 _ := hr
    have hrA : Room 5 _ := hr.mono (by decide)
    have hrB : Room 1 _ := hr.mono (by decide)
    have hv1 := hv.same (wod_same (d := r))
    have hu1 := hu2.same (wod_same (d := r))
    have lD : lenD d < 300 := by omega
    have lE : lenD e < 300 := by omega
    refine ⟨_, (pss_cons (ps_if (PW.pt (pw_or (pt_not (pt_val (pe_call GA hrA (by rfl) gA kA bA .nil pass0 (pa_cons (pv 1) pa_nil)))) (pw_or1 (pt_not (pt_val (pe_call GC hrC (by rfl) gC kC bC .nil pass0 (pa_cons (pv 2) pa_nil))))))) (pss_one (ps_raise rfl (takes_of rfl rfl rfl rfl) (pmk_own PySem.F.excBase_ValueError TInvalidRoad.q TInvalidRoad.g TInvalidRoad.k (raises_own TInvalidRoad.b TInvalidRoad.t) rfl))) pss_nil)
        (pss_cons (ps_fld (pv 0) (pe_callB (call_sortD hu) (by rfl) T.sorted (by decide +kernel) (pa_cons (pv 1) pa_nil)) (by rfl))
        (pss_cons (ps_fld (pv 0) (pe_callB (call_sortD hu) (by rfl) T.sorted (by decide +kernel) (pa_cons (pv 2) pa_nil)) (by rfl))
        (pss_one (ps_fld (pv 0) (pe_call GB hrB (by rfl) gB kB bB .nil pass0 (pa_cons (pv 1) (pa_cons (pv 2) pa_nil))) (by rfl)))))), ?_⟩
    refine ⟨_, rfl, v, d, rfl, hv1, lD, fun H1 s1 => ⟨fun z => ⟨_, rfl, iteYb rfl (k2 (.inl z) H1 s1)⟩, fun fs hfs => ⟨_, rfl, iteNb rfl ?_⟩⟩⟩
    refine ⟨_, rfl, u, e, rfl, hu1.same s1, lE, fun H2 s2 => ⟨fun z => ⟨_, rfl, iteYb rfl (k2 (.inr z) H2 (s1.trans s2))⟩, fun cs hcs => ⟨_, rfl, iteNb rfl ?_⟩⟩⟩
    have s12 := s1.trans s2
    have w2 : Same (wod r H) H2 := wod_same.trans s12
    have hr2 := s12 _ _ hr0
    obtain ⟨rfl, okf, _, _⟩ := id hfs
    obtain ⟨rfl, okc, _⟩ := id hcs
    obtain ⟨b, xs, rfl, hb, hx⟩ := hv.lst_inv
    obtain ⟨c, ys, rfl, hc, hy⟩ := hu2.lst_inv
    have ef : lenD (.list (fs.map Datum.toD)) = fs.length := List.length_map ..
    have ec : lenD (.list (cs.map Datum.toD)) = cs.length := List.length_map ..
    rw [ef] at lD
    rw [ec] at lE
    rw [ef, ec] at hl
    have h300 : 300 ≤ sizeLine := by decide
    refine ⟨_, rfl, ?_⟩
    dsimp only [tNil]
    refine rsort w2 (by decide) (full_F okf) (by omega) (w2.seq hb) hx fun p zs hp hz => ⟨_, rfl, r, C, dx, [], rfl, ?_, hC, n1, by decide, ?_⟩
    · rw [upd_ne (ne_of_none hr2 hp)]
      exact hr2
    have npr : p ≠ r := (ne_of_none hr2 hp).symm
    have w3 : Same (wod r H) (upd (upd H2 p (.lst zs)) r (.ins C dx (putF "_begin" (.ref p) []))) := same_r (w2.trans (sameN hp))
    have hr3 : (upd (upd H2 p (.lst zs)) r (.ins C dx (putF "_begin" (.ref p) []))) r = some (.ins C dx (putF "_begin" (.ref p) [])) := upd_same
    have hp3 : (upd (upd H2 p (.lst zs)) r (.ins C dx (putF "_begin" (.ref p) []))) p = some (.lst zs) := by rw [upd_ne npr, upd_same]
    generalize (upd (upd H2 p (.lst zs)) r (.ins C dx (putF "_begin" (.ref p) []))) = H3 at w3 hr3 hp3 ⊢
    refine ⟨_, rfl, ?_⟩
    dsimp only [tNil]
    refine rsort w3 (by decide) (full_C cs) (by omega) (w3.seq hc) hy fun q us hq hu => ⟨_, rfl, r, C, dx, putF "_begin" (.ref p) [], rfl, ?_, hC, n2, by show 1 < 1000; decide, ?_⟩
    · rw [upd_ne (ne_of_none hr3 hq)]
      exact hr3
    have nqr : q ≠ r := (ne_of_none hr3 hq).symm
    have w4 : Same (wod r H) (upd (upd H3 q (.lst us)) r (.ins C dx (putF "_changes" (.ref q) (putF "_begin" (.ref p) [])))) := same_r (w3.trans (sameN hq))
    have hr4 : (upd (upd H3 q (.lst us)) r (.ins C dx (putF "_changes" (.ref q) (putF "_begin" (.ref p) [])))) r = some (.ins C dx (putF "_changes" (.ref q) (putF "_begin" (.ref p) []))) := upd_same
    have hp4 : (upd (upd H3 q (.lst us)) r (.ins C dx (putF "_changes" (.ref q) (putF "_begin" (.ref p) [])))) p = some (.lst zs) := by rw [upd_ne npr, upd_ne (ne_of_none hp3 hq)]; exact hp3
    have hq4 : (upd (upd H3 q (.lst us)) r (.ins C dx (putF "_changes" (.ref q) (putF "_begin" (.ref p) [])))) q = some (.lst us) := by rw [upd_ne nqr, upd_same]
    generalize (upd (upd H3 q (.lst us)) r (.ins C dx (putF "_changes" (.ref q) (putF "_begin" (.ref p) [])))) = H4 at w4 hr4 hp4 hq4 ⊢
    refine ⟨_, rfl, _, rfl, .ref b, .ref c, fs, cs, rfl, hv.same w4, hu2.same w4, hl, okf, okc, fun H5 d s5 hd hB => ⟨_, rfl, r, C, dx, putF "_changes" (.ref q) (putF "_begin" (.ref p) []), rfl, s5 _ _ hr4, hC, n3, by show 2 < 1000; decide, ?_⟩⟩
    have w5 : Same (wod r H) (upd H5 r (.ins C dx (putF "_behind" (.ref d) (putF "_changes" (.ref q) (putF "_begin" (.ref p) []))))) := same_r (w4.trans s5)
    have none_of : ∀ {b : Addr} {G : Hp}, Same (wod r H) G → G b = none → b ≠ r → H b = none := fun {b G} s hb nb => by
      cases z : H b with
      | none => rfl
      | some o => rw [s b o (by rw [wod_ne nb]; exact z)] at hb; cases hb
    have hpH := none_of w2 hp npr
    have hqH := none_of w3 hq nqr
    have rH : ∀ xs, H r ≠ some (.lst xs) := fun xs z => by rw [hr0] at z; cases z
    have tk : TupK (wod r H) (nol H (upd H5 r (.ins C dx (putF "_behind" (.ref d) (putF "_changes" (.ref q) (putF "_begin" (.ref p) [])))))) := fun b us h => by
      rcases h with h | ⟨o, h⟩
      · refine .inl (nol_at (fun ys z => ?_) (w5 _ _ h))
        have nb : b ≠ r := fun z => by rw [z] at h; unfold wod at h; rw [if_pos rfl] at h; cases h
        rw [wod_ne nb, z] at h
        cases h
      · refine .inr ⟨o, nol_at (fun ys z => ?_) (w5 _ _ h)⟩
        have nb : b ≠ r := fun z => by rw [z] at h; unfold wod at h; rw [if_pos rfl] at h; cases h
        rw [wod_ne nb, z] at h
        cases h
    have e4 : nol H4 H5 r = some (.ins C dx (putF "_changes" (.ref q) (putF "_begin" (.ref p) []))) := nol_at (fun xs z => by rw [hr4] at z; cases z) (s5 _ _ hr4)
    have toN : Same (upd (nol H4 H5) r (.ins C dx (putF "_behind" (.ref d) (putF "_changes" (.ref q) (putF "_begin" (.ref p) []))))) (nol H (upd H5 r (.ins C dx (putF "_behind" (.ref d) (putF "_changes" (.ref q) (putF "_begin" (.ref p) [])))))) := fun b o h => by
      by_cases nb : b = r
      · subst nb
        rw [upd_same] at h
        exact nol_at rH (by rw [upd_same]; exact h)
      · rw [upd_ne nb] at h
        obtain ⟨g1, g2⟩ := nol_some h
        refine nol_at (fun ys z => g2 ys (w4 _ _ (by rw [wod_ne nb]; exact z))) (by rw [upd_ne nb]; exact g1)
    refine k1 fs cs hfs hcs _ w5 ⟨⟨dx, _, p, q, d, nol_at rH upd_same, rfl, rfl, rfl, .lst (SqL.of (nol_new hpH ?_)) (tks_as tk hz), .lst (SqL.of (nol_new hqH ?_)) (tks_as tk hu), (beh_r e4 hB).same toN⟩, ⟨hfs, hcs, hl⟩, fun D dx' fl e m n1 n2 n3 => ?_⟩
    · rw [upd_ne npr]; exact s5 _ _ hp4
    · rw [upd_ne nqr]; exact s5 _ _ hq4
    · have e := nol_le _ _ e
      rw [upd_same] at e
      injection e with e
      injection e with _ _ e
      subst e
      show List.lookup m [("_begin", V.ref p), ("_changes", V.ref q), ("_behind", V.ref d)] = none
      simp [List.lookup, beq_eq_false_iff_ne.mpr n1, beq_eq_false_iff_ne.mpr n2, beq_eq_false_iff_ne.mpr n3]
end
end Own
/-! What a road shows. -/
namespace Own
open PySem PySem.Spec PyProof.Rows L2 PySem.W
abbrev sBeg : Stmt := inClass sRoad 1
abbrev sChg : Stmt := inClass sRoad 2
abbrev sShs : Stmt := inClass sRoad 3
abbrev sBhd : Stmt := inClass sRoad 4
/-- what the module's end says of the class -/
structure TRoad (K : PySem.W.Frag) (C : Addr) : Prop where
  c : Cls K C
  n1 : NoAttr K C "_begin"
  n2 : NoAttr K C "_changes"
  n3 : NoAttr K C "_behind"
  ha : PySem.W.findIn K (.ref C) "__class__" = some (some (.builtin "object.__class__"))
  hn : PySem.W.specialIn K (.builtin "object.__class__") "__get__" = some (some (.builtin "getset_descriptor.__get__"))
  ht : PySem.W.takesIn K (.builtin "object.__class__") = some true
  hm : PySem.W.mroIn K C (.type "object") = some true
  kit : PySem.W.kitOne K (.ref C) (.ref C) = some true
def spBeg (P : Program) (w : World) (K : PySem.W.Frag) (C : Addr) : Sp := fun vs H Q _ => ∃ r fs cs, vs = [.ref r] ∧ RoadAt P w K C H r fs cs ∧ ∀ q zs, H q = none → DvAll K H zs ((sortT fs).map Datum.toD) → Q (.ref q) (upd H q (.lst zs))
def spChg (P : Program) (w : World) (K : PySem.W.Frag) (C : Addr) : Sp := fun vs H Q _ => ∃ r fs cs, vs = [.ref r] ∧ RoadAt P w K C H r fs cs ∧ ∀ q zs, H q = none → DvAll K H zs ((sortT cs).map Datum.toD) → Q (.ref q) (upd H q (.lst zs))
def spShs (P : Program) (w : World) (K : PySem.W.Frag) (C : Addr) : Sp := fun vs H Q _ => ∃ r fs cs, vs = [.ref r] ∧ RoadAt P w K C H r fs cs ∧ ∀ q zs, H q = none → DvAll K H zs ((behKeys fs cs).map Datum.toD) → Q (.ref q) (upd H q (.lst zs))
def spBhd (P : Program) (w : World) (K : PySem.W.Frag) (C cU : Addr) : Sp := fun vs H Q E => ∃ (r : Addr) (v : V) (d : PyData) (fs : List Fg) (cs : List Ch), vs = [.ref r, v] ∧ RoadAt P w K C H r fs cs ∧ Dv K H v d ∧
  (∀ f, d = dF f → fOk f → f ∈ behKeys fs cs → ∀ H' q zs, Same H H' → H' q = none → DvAll K H' zs ((sortT (laters cs f)).map Datum.toD) → Q (.ref q) (upd H' q (.lst zs))) ∧
  ((∀ f, d = dF f → fOk f → f ∉ behKeys fs cs) → ∀ H', Same H H' → E (.ref cU) none H')
section
variable {P : Program} {w : World} {K : PySem.W.Frag} {mg : Str → Option Value} {base : Heap}
theorem sc_beg : FnScope ["self"] ["self"] (defScope sBeg) := ⟨rfl, rfl, rfl, by decide +kernel, rfl, by decide +kernel, by decide +kernel⟩
theorem sc_chg : FnScope ["self"] ["self"] (defScope sChg) := ⟨rfl, rfl, rfl, by decide +kernel, rfl, by decide +kernel, by decide +kernel⟩
theorem sc_shs : FnScope ["self"] ["self"] (defScope sShs) := ⟨rfl, rfl, rfl, by decide +kernel, rfl, by decide +kernel, by decide +kernel⟩
theorem sc_bhd : FnScope ["self", "shape"] ["self", "shape"] (defScope sBhd) := ⟨rfl, rfl, rfl, by decide +kernel, rfl, by decide +kernel, by decide +kernel⟩
theorem ok_beg {f C : Addr} {fd : FuncData} (F : Fun K "begin" "Road.begin" sBeg f fd) (T : Bi3 mg) (TR : TRoad K C) : FnOk P w K mg base CX0 1 f fd ["self"] (spBeg P w K C) := by
  refine F.ok sc_beg (fun vs H Q E h => ?_) (fun cdv A outer s H vs Q E hr h => ?_)
  · obtain ⟨r, fs, cs, rfl, _⟩ := h
    rfl
  · obtain ⟨r, fs, cs, rfl, R, k⟩ := h
    obtain ⟨dx, fl, b, c, d, e0, e1, e2, e3, h1, h2, h3⟩ := R.ex
    obtain ⟨b', xs, eb, hb, hx⟩ := h1.lst_inv
    cases eb
    refine ⟨_, (pss_one (ps_ret (pe_callTy call_list_of (by rfl) T.list (by decide +kernel) (pa_cons (pe_fld (pv 0) rfl) pa_nil)))), ?_⟩
    refine ⟨_, rfl, r, C, dx, fl, _, rfl, e0, TR.c, TR.n1, e1, ?_⟩
    exact ⟨b, xs, rfl, .inl hb, fun q hq => k q xs hq hx⟩
theorem ok_chg {f C : Addr} {fd : FuncData} (F : Fun K "changes" "Road.changes" sChg f fd) (T : Bi3 mg) (TR : TRoad K C) : FnOk P w K mg base CX0 1 f fd ["self"] (spChg P w K C) := by
  refine F.ok sc_chg (fun vs H Q E h => ?_) (fun cdv A outer s H vs Q E hr h => ?_)
  · obtain ⟨r, fs, cs, rfl, _⟩ := h
    rfl
  · obtain ⟨r, fs, cs, rfl, R, k⟩ := h
    obtain ⟨dx, fl, b, c, d, e0, e1, e2, e3, h1, h2, h3⟩ := R.ex
    obtain ⟨b', xs, eb, hb, hx⟩ := h2.lst_inv
    cases eb
    refine ⟨_, (pss_one (ps_ret (pe_callTy call_list_of (by rfl) T.list (by decide +kernel) (pa_cons (pe_fld (pv 0) rfl) pa_nil)))), ?_⟩
    refine ⟨_, rfl, r, C, dx, fl, _, rfl, e0, TR.c, TR.n2, e2, ?_⟩
    exact ⟨c, xs, rfl, .inl hb, fun q hq => k q xs hq hx⟩
theorem ent_vals {H : Hp} {cs : List Ch} : ∀ {fs : List Fg} {rows : List Row}, Paired (EntR K H cs) fs rows → DvAll K H (rows.map fun r => V.ref r.2.1) (fs.map Datum.toD)
  | _, _, .nil => .nil
  | _, _, .cons h t => .cons h.2.1 (ent_vals t)
theorem ok_shs {f C : Addr} {fd : FuncData} (F : Fun K "shapes" "Road.shapes" sShs f fd) (T : Bi3 mg) (TR : TRoad K C) : FnOk P w K mg base CX0 1 f fd ["self"] (spShs P w K C) := by
  refine F.ok sc_shs (fun vs H Q E h => ?_) (fun cdv A outer s H vs Q E hr h => ?_)
  · obtain ⟨r, fs, cs, rfl, _⟩ := h
    rfl
  · obtain ⟨r, fs, cs, rfl, R, k⟩ := h
    obtain ⟨dx, fl, b, c, d, e0, e1, e2, e3, h1, h2, rows, D, pr⟩ := R.ex
    refine ⟨_, (pss_one (ps_ret (pe_callTy (call_listN rfl) (by rfl) T.list (by decide +kernel) (pa_cons (pe_fld (pv 0) rfl) pa_nil)))), ?_⟩
    refine ⟨_, rfl, r, C, dx, fl, _, rfl, e0, TR.c, TR.n3, e3, ?_⟩
    exact ⟨d, rows, rfl, D, fun q hq => k q _ hq (ent_vals pr)⟩
theorem RoadAt.same {C : Addr} {H H' : Hp} {r : Addr} {fs : List Fg} {cs : List Ch} (R : RoadAt P w K C H r fs cs) (s : Same H H') : RoadAt P w K C H' r fs cs := by
  obtain ⟨dx, fl, b, c, d, e0, e1, e2, e3, h1, h2, h3⟩ := R.ex
  exact ⟨⟨dx, fl, b, c, d, s _ _ e0, e1, e2, e3, h1.same s, h2.same s, h3.same s⟩, R.wf, fun D dx' fl' e => by
    rw [s _ _ e0] at e
    exact R.nm D dx' fl' (e0.trans e)⟩
theorem ent_val {H : Hp} {cs : List Ch} {f : Fg} : ∀ {fs : List Fg} {rows : List Row}, Paired (EntR K H cs) fs rows → f ∈ fs → ∃ l, valR rows (kF f) = some (.ref l) ∧ Dv K H (.ref l) (.list ((sortT (laters cs f)).map Datum.toD))
  | _, _, .nil, h => nomatch h
  | g :: fs, r :: rows, .cons h t, hm => by
    by_cases e : g = f
    · subst e
      obtain ⟨l, e2, h2⟩ := h.2.2
      exact ⟨l, by rw [valR_pos h.1, e2], h2⟩
    · have hm' : f ∈ fs := (List.mem_cons.mp hm).resolve_left fun z => e z.symm
      obtain ⟨l, e2, h2⟩ := ent_val t hm'
      exact ⟨l, by rw [valR_neg (by rw [h.1]; exact fun z => e (kF_inj z))]; exact e2, h2⟩
theorem ent_none {H : Hp} {cs : List Ch} {f : Fg} {fs : List Fg} {rows : List Row} (p : Paired (EntR K H cs) fs rows) (h : f ∉ fs) : valR rows (kF f) = none := by
  cases e : valR rows (kF f) with
  | none => rfl
  | some z =>
    have h1 := valR_some.mp (show (valR rows (kF f)).isSome = true by rw [e]; rfl)
    rw [ent_keys p] at h1
    obtain ⟨g, hg, eg⟩ := List.mem_map.mp h1
    exact absurd (kF_inj eg ▸ hg) h
theorem toF_inj {f g : Fg} (h : dF f = dF g) : f = g := by
  have e : PyData.eqv (dF f) (dF g) = decide (f = g) := Datum.eqv f g
  rw [h] at e
  have e2 : PyData.eqv (dF g) (dF g) = decide (g = g) := Datum.eqv g g
  rw [e2, decide_eq_true rfl] at e
  exact of_decide_eq_true e.symm
theorem ok_bhd {f C cU : Addr} {fd : FuncData} (F : Fun K "behind" "Road.behind" sBhd f fd) (T : Bi3 mg) (TR : TRoad K C) (CS : CalShp P w K mg base) (TUnknownShape : ErC K mg "UnknownShape" cU) : FnOk P w K mg base (L2.CX P w) 5 f fd ["self", "shape"] (spBhd P w K C cU) := by
  obtain ⟨fS, fdS, GS, gS, kS, bS⟩ := CS
  refine F.okX sc_bhd (fun vs H Q E h => ?_) (fun cdv A outer s H vs Q E hr h => ?_)
  · obtain ⟨r, v, d, fs, cs, rfl, _⟩ := h
    rfl
  · obtain ⟨r, v, d, fs, cs, rfl, R, hd, k1, k2⟩ := h
    have hu := hr.units
    have hrS : Room 4 _ := hr
    refine ⟨_, (pss_cons (ps_if (PW.pt (pw_or (pt_not (pt_val (pe_call GS hrS (by rfl) gS kS bS .nil pass0 (pa_cons (pv 1) pa_nil)))) (pw_or1 (pt_cmp (pc_nnotin hu (pv 1) (pe_fld (pv 0) rfl)) rfl)))) (pss_one (ps_raise rfl (takes_of rfl rfl rfl rfl) (pmk_own PySem.F.excBase_ValueError TUnknownShape.q TUnknownShape.g TUnknownShape.k (raises_own TUnknownShape.b TUnknownShape.t) rfl))) pss_nil)
        (pss_one (ps_ret (pe_callTy call_list_of (by rfl) T.list (by decide +kernel) (pa_cons (pe_nget hu (pe_fld (pv 0) rfl) (pv 1) (fun _ _ => rfl)) pa_nil))))), ?_⟩
    refine ⟨_, rfl, v, d, rfl, hd, fun H1 s1 => ⟨_, rfl, ?_⟩⟩
    cases q : isFig d with
    | false => exact iteYb rfl (k2 (fun f e ok => by rw [e] at q; rw [ok] at q; cases q) H1 s1)
    | true =>
      obtain ⟨f, rfl, okf⟩ := fig_ex q
      have hd1 := hd.same s1
      obtain ⟨dx, fl, b, c, dd, e0, e1, e2, e3, h1, h2, rows, D, pr⟩ := (R.same s1).ex
      have hv : ∃ a, v = .ref a := by
        have hd' : Dv K H v (.tuple (f.items.map Datum.toD)) := hd
        obtain ⟨a, _, e, _⟩ := hd'.tup_inv
        exact ⟨a, e⟩
      obtain ⟨a, rfl⟩ := hv
      have hk : KeyAt K H1 (.ref a) (kF f) := keyAt_dv _ _ (by rw [kF_data]; exact hd1)
      have kd : (kF f).depth ≤ 8 := by rw [kF_depth]; decide
      refine iteNb rfl ⟨_, rfl, _, rfl, r, C, dx, fl, _, rfl, e0, TR.c, TR.n3, e3, dd, _, rfl, ⟨rows, kF f, a, D, rfl, hk, kd, rfl⟩, _, rfl, ?_⟩
      by_cases hm : f ∈ behKeys fs cs
      · obtain ⟨l, el, hl⟩ := ent_val pr hm
        obtain ⟨l', zs, e', hz, hzs⟩ := hl.lst_inv
        cases e'
        refine iteNb (by rw [el]; rfl) ⟨_, rfl, r, C, dx, fl, _, rfl, e0, TR.c, TR.n3, e3, _, rfl, dd, .ref l, rfl, ⟨rows, kF f, a, D, rfl, hk, kd, el.symm⟩, l, zs, rfl, .inl hz, fun p hp => ?_⟩
        exact k1 f rfl okf hm H1 p zs s1 hp (hzs.same (Same.refl _))
      · refine iteYb (by rw [ent_none pr hm]; rfl) (k2 (fun g e _ => ?_) H1 s1)
        rw [← toF_inj e]
        exact hm
end
end Own
/-! Roads made of roads. -/
namespace Own
open PySem PySem.Spec PyProof.Rows L2 PySem.W
abbrev sWot : Stmt := inClass sRoad 5
abbrev sWch : Stmt := inClass sRoad 6
abbrev sFul : Stmt := top1 18
section
variable {P : Program} {w : World} {K : PySem.W.Frag} {mg : Str → Option Value} {base : Heap}
/-- Road(..) of what stands in the heap: nothing of it is a list that stood there -/
theorem mk_roadN {C cR : Addr} {H1 : Hp} {Q : VK} {E : XK} {v u : V} {d e : PyData} (TR : TRoad K C) (hv : Dv K H1 v d) (hu : Dv K H1 u e) (hl : lenD d + 2 * lenD e < 290)
    (k1 : ∀ fs cs, AreF d fs → AreC e cs → ∀ H' r, Same H1 H' → H1 r = none → RoadAt P w K C (nol H1 H') r fs cs → Q (.ref r) H')
    (k2 : ((∀ fs, ¬ AreF d fs) ∨ ∀ cs, ¬ AreC e cs) → ∀ H', Same H1 H' → E (.ref cR) none H') :
    ∀ x dx, H1 x = none → H1 dx = none → dx ≠ x → spIni P w K C cR (.ref x :: ([v, u] ++ [])) (upd (upd H1 dx (.own x)) x (.ins C dx [])) (fun v H2 => v = .non ∧ Q (.ref x) H2) E := by
  intro x dx hx hdx ne
  have s1 : Same H1 (upd (upd H1 dx (.own x)) x (.ins C dx [])) := fun b o e => by
    rw [upd_ne (ne_of_none e hx), upd_ne (ne_of_none e hdx)]
    exact e
  have s2 : Same H1 (wod x (upd (upd H1 dx (.own x)) x (.ins C dx []))) := same_wod s1 hx
  exact ⟨x, dx, v, u, d, e, rfl, upd_same, TR.c, TR.n1, TR.n2, TR.n3, hv.same s2, hu.same s2, hl, fun fs cs h1 h2 H' s3 R => ⟨rfl, k1 fs cs h1 h2 H' x (s2.trans s3) hx (R.same fun b o z => nol_at (fun xs y => (nol_some z).2 xs (s1 _ _ y)) (nol_some z).1)⟩, fun z H' s3 => k2 z H' (s1.trans s3)⟩
/-- Road(..) of what stands in the heap -/
theorem mk_road {C cR : Addr} {H1 : Hp} {Q : VK} {E : XK} {v u : V} {d e : PyData} (TR : TRoad K C) (hv : Dv K H1 v d) (hu : Dv K H1 u e) (hl : lenD d + 2 * lenD e < 290)
    (k1 : ∀ fs cs, AreF d fs → AreC e cs → ∀ H' r, Same H1 H' → H1 r = none → RoadAt P w K C H' r fs cs → Q (.ref r) H')
    (k2 : ((∀ fs, ¬ AreF d fs) ∨ ∀ cs, ¬ AreC e cs) → ∀ H', Same H1 H' → E (.ref cR) none H') :
    ∀ x dx, H1 x = none → H1 dx = none → dx ≠ x → spIni P w K C cR (.ref x :: ([v, u] ++ [])) (upd (upd H1 dx (.own x)) x (.ins C dx [])) (fun v H2 => v = .non ∧ Q (.ref x) H2) E :=
  mk_roadN TR hv hu hl (fun fs cs h1 h2 H' r s n R => k1 fs cs h1 h2 H' r s n (R.same nol_le)) k2
/-- a road is one of the same shapes and changes in any order -/
theorem RoadAt.perm {C : Addr} {H : Hp} {r : Addr} {fs gs : List Fg} {cs ds : List Ch} (R : RoadAt P w K C H r fs cs) (p : gs.Perm fs) (q : ds.Perm cs) : RoadAt P w K C H r gs ds := by
  obtain ⟨dx, fl, b, c, d, e0, e1, e2, e3, h1, h2, rows, D, pr⟩ := R.ex
  have bk : behKeys fs cs = behKeys gs ds := by
    refine sortT_set (uniq_nodup _) (uniq_nodup _) fun x => ?_
    rw [uniq_mem, uniq_mem, List.mem_append, List.mem_append, p.mem_iff]
    unfold partsC
    rw [List.mem_flatMap, List.mem_flatMap]
    refine or_congr Iff.rfl ⟨fun ⟨a, h, z⟩ => ⟨a, q.mem_iff.mpr h, z⟩, fun ⟨a, h, z⟩ => ⟨a, q.mem_iff.mp h, z⟩⟩
  have lt : ∀ f, sortT (laters cs f) = sortT (laters ds f) := fun f => sortT_perm (((q.symm.filter _).map _).cons f)
  refine ⟨⟨dx, fl, b, c, d, e0, e1, e2, e3, by rw [sortT_perm p]; exact h1, by rw [sortT_perm q]; exact h2, rows, D, ?_⟩, ?_, R.nm⟩
  · rw [← bk]
    exact paired_imp pr fun f row h => ⟨h.1, h.2.1, let ⟨l, e, z⟩ := h.2.2; ⟨l, e, by rw [← lt f]; exact z⟩⟩
  · obtain ⟨⟨_, a2, a3, a4⟩, ⟨_, b2, b3⟩, l⟩ := R.wf
    refine ⟨⟨rfl, fun f hf => a2 f (p.mem_iff.mp hf), fun z => a3 (by rw [z] at p; exact p.symm.eq_nil), p.nodup_iff.mpr a4⟩, ⟨rfl, fun c hc => b2 c (q.mem_iff.mp hc), q.nodup_iff.mpr b3⟩, ?_⟩
    rw [p.length_eq, q.length_eq]
    exact l
/-- the class, where it stands -/
def CalRd (P : Program) (w : World) (K : PySem.W.Frag) (mg : Str → Option Value) (base : Heap) (C cR : Addr) : Prop :=
  ∃ (f : Addr) (fd : FuncData), FnOk P w K mg base (L2.CX P w) 7 f fd ["self", "begin", "changes"] (spIni P w K C cR) ∧ Mk K C f ∧ mg "Road" = some (.ref C) ∧ Binds K fd ["self", "begin", "changes"] []
def spWch (P : Program) (w : World) (K : PySem.W.Frag) (C cR : Addr) : Sp := fun vs H Q E => ∃ (r : Addr) (v : V) (d : PyData) (fs : List Fg) (cs : List Ch), vs = [.ref r, v] ∧ RoadAt P w K C H r fs cs ∧ Dv K H v d ∧ fs.length + 2 * (cs.length + 1) < 290 ∧
  (∀ c, d = dC c → cOk c → c ∉ cs → ∀ H' q, Same H H' → H q = none → RoadAt P w K C H' q fs (cs ++ [c]) → Q (.ref q) H') ∧
  ((∀ c, d = dC c → cOk c → c ∈ cs) → ∀ H', Same H H' → E (.ref cR) none H')
theorem sc_wch : FnScope ["self", "change"] ["self", "change"] (defScope sWch) := ⟨rfl, rfl, rfl, by decide +kernel, rfl, by decide +kernel, by decide +kernel⟩
theorem toC_inj {c d : Ch} (h : dC c = dC d) : c = d := by
  have e : PyData.eqv (dC c) (dC d) = decide (c = d) := Datum.eqv c d
  rw [h] at e
  have e2 : PyData.eqv (dC d) (dC d) = decide (d = d) := Datum.eqv d d
  rw [e2, decide_eq_true rfl] at e
  exact of_decide_eq_true e.symm
theorem split_last {cs es : List Ch} {d : PyData} (h : cs.map Datum.toD ++ [d] = es.map Datum.toD) : ∃ ch, es = cs ++ [ch] ∧ d = dC ch := by
  induction cs generalizing es with
  | nil =>
    cases es with
    | nil => cases h
    | cons e es =>
      cases es with
      | nil =>
        injection h with h1 _
        exact ⟨e, rfl, h1⟩
      | cons e2 es =>
        injection h with _ h2
        cases h2
  | cons c cs ih =>
    cases es with
    | nil => cases h
    | cons e es =>
      rw [List.map_cons, List.map_cons, List.cons_append] at h
      injection h with h1 h2
      obtain ⟨ch, e1, e2⟩ := ih h2
      exact ⟨ch, by rw [e1, toC_inj h1]; rfl, e2⟩
theorem ok_wch {f C cR : Addr} {fd : FuncData} (F : Fun K "with_change" "Road.with_change" sWch f fd) (TR : TRoad K C) (CR : CalRd P w K mg base C cR) : FnOk P w K mg base (L2.CX P w) 9 f fd ["self", "change"] (spWch P w K C cR) := by
  obtain ⟨fI, fdI, GR, MR, gR, bR⟩ := CR
  refine F.okX sc_wch (fun vs H Q E h => ?_) (fun cdv A outer s H vs Q E hr h => ?_)
  · obtain ⟨r, v, d, fs, cs, rfl, _⟩ := h
    rfl
  · obtain ⟨r, v, d, fs, cs, rfl, R, hd, hl, k1, k2⟩ := h
    have hu := hr.units
    have hrR : Room 8 _ := hr
    obtain ⟨dx, fl, b, c, dd, e0, e1, e2, e3, h1, h2, h3⟩ := R.ex
    obtain ⟨⟨_, a2, a3, a4⟩, ⟨_, b2, b3⟩, _⟩ := R.wf
    obtain ⟨c', ys, ec, hc, hy⟩ := h2.lst_inv
    cases ec
    have ly := hy.len
    rw [List.length_map, sortT_len] at ly
    have h300 : 300 ≤ sizeLine := by decide
    refine ⟨_, (pss_one (ps_ret (pe_make MR GR hrR (by rfl) gR bR .nil (passes_call (takes_of rfl rfl rfl rfl) fun _ _ _ _ h => h) (pa_cons (pe_fld (pv 0) rfl) (pa_cons (pe_op op_catL (pe_fld (pv 0) rfl) (pe_lst (pa_cons (pv 1) pa_nil))) pa_nil))))), ?_⟩
    refine ⟨_, rfl, r, C, dx, fl, _, rfl, e0, TR.c, TR.n1, e1, _, rfl, r, C, dx, fl, _, rfl, e0, TR.c, TR.n2, e2, _, rfl, by show 1 ≤ sizeLine; decide, fun l hl2 => ⟨c, l, ys, [v], rfl, rfl, ?_, SqL.of upd_same, by rw [List.length_singleton]; omega, fun p hp => ?_⟩⟩
    · exact (sameN hl2).seq hc
    · have s1 : Same H (upd (upd H l (.lst [v])) p (.lst (ys ++ [v]))) := (sameN hl2).trans (sameN hp)
      have hlist : Dv K (upd (upd H l (.lst [v])) p (.lst (ys ++ [v]))) (.ref p) (.list ((sortT cs).map Datum.toD ++ [d])) := .lst (SqL.of upd_same) ((hy.snoc hd).same s1)
      have lens : lenD (.list ((sortT fs).map Datum.toD)) + 2 * lenD (.list ((sortT cs).map Datum.toD ++ [d])) < 290 := by
        show ((sortT fs).map Datum.toD).length + 2 * ((sortT cs).map Datum.toD ++ [d]).length < 290
        rw [List.length_map, List.length_append, List.length_map, sortT_len, sortT_len, List.length_singleton]
        exact hl
      refine mk_road TR (h1.same s1) hlist lens (fun gs es hg he H' q s2 hq RR => ?_) fun z H' s2 => k2 (fun ch e ok => ?_) H' (s1.trans s2)
      · obtain ⟨eg, _⟩ := hg
        injection eg with eg
        have eg2 := map_inj eg
        subst eg2
        obtain ⟨ee, ok, nd⟩ := he
        injection ee with ee
        obtain ⟨ch, hch, e⟩ : ∃ ch, es = sortT cs ++ [ch] ∧ d = dC ch := split_last ee
        subst hch e
        rw [List.nodup_append] at nd
        have hqn : H q = none := by
          cases z : H q with
          | none => rfl
          | some o => rw [s1 _ _ z] at hq; cases hq
        refine k1 ch rfl (ok ch (List.mem_append_right _ List.mem_cons_self)) (fun hm => nd.2.2 ch (sortT_mem.mpr hm) ch List.mem_cons_self rfl) H' q (s1.trans s2) hqn (RR.perm (sortT_same fs).symm ((sortT_same cs).symm.append_right [ch]))
      · by_cases hm : ch ∈ cs
        · exact hm
        · exfalso
          rcases z with z | z
          · exact z (sortT fs) ⟨rfl, fun f hf => a2 f (sortT_mem.mp hf), fun e => a3 (by have := sortT_len fs; rw [e] at this; exact List.eq_nil_of_length_eq_zero this.symm), (sortT_same fs).nodup_iff.mpr a4⟩
          · refine z (sortT cs ++ [ch]) ⟨by rw [List.map_append, e]; rfl, fun c hc => ?_, ?_⟩
            · rcases List.mem_append.mp hc with y | y
              · exact b2 c (sortT_mem.mp y)
              · rw [List.mem_singleton.mp y]; exact ok
            · refine List.nodup_append.mpr ⟨(sortT_same cs).nodup_iff.mpr b3, by simp, fun x hx y hy e => ?_⟩
              rw [List.mem_singleton.mp hy] at e
              exact hm (e ▸ sortT_mem.mp hx)
end
end Own
/-! The full road of some shapes. -/
namespace Own
open PySem PySem.Spec PyProof.Rows L2 PySem.W
def rowC (fs : List Fg) (a : Fg) : List Ch := (fs.filter fun b => !decide (a = b)).map fun b => (a, b)
def allCh (fs : List Fg) : List Ch := fs.flatMap (rowC fs)
theorem rowC_len (fs : List Fg) (a : Fg) : (rowC fs a).length ≤ fs.length := by
  unfold rowC
  rw [List.length_map]
  exact List.length_filter_le _ _
theorem rowC_len1 {fs : List Fg} {a : Fg} (h : a ∈ fs) : (rowC fs a).length + 1 ≤ fs.length := by
  unfold rowC
  rw [List.length_map]
  induction fs with
  | nil => cases h
  | cons b fs ih =>
    rw [List.filter_cons]
    by_cases e : a = b
    · rw [if_neg (by simp [e])]
      have z := List.length_filter_le (fun b => !decide (a = b)) fs
      rw [List.length_cons]
      omega
    · rw [if_pos (by simp [e])]
      have z := ih ((List.mem_cons.mp h).resolve_left e)
      rw [List.length_cons, List.length_cons]
      omega
theorem flat_len (fs : List Fg) : ∀ gs : List Fg, (∀ g ∈ gs, g ∈ fs) → (gs.flatMap (rowC fs)).length + gs.length ≤ gs.length * fs.length
  | [], _ => Nat.le_of_eq (by simp)
  | g :: gs, h => by
    rw [List.flatMap_cons, List.length_append, List.length_cons]
    have h1 := rowC_len1 (h g List.mem_cons_self)
    have h2 := flat_len fs gs fun x hx => h x (List.mem_cons_of_mem _ hx)
    rw [Nat.add_mul, Nat.one_mul]
    omega
theorem allCh_ok {fs : List Fg} (h : ∀ f ∈ fs, fOk f) : ∀ c ∈ allCh fs, cOk c := fun c hc => by
  obtain ⟨a, ha, hr⟩ := List.mem_flatMap.mp hc
  obtain ⟨b, hb, rfl⟩ := List.mem_map.mp hr
  obtain ⟨hb1, hb2⟩ := List.mem_filter.mp hb
  exact ⟨h a ha, h b hb1, fun e => by
    have e2 : a = b := e
    simp [e2] at hb2⟩
theorem allCh_nodup {fs : List Fg} (n : fs.Nodup) : (allCh fs).Nodup := by
  have key : ∀ gs : List Fg, gs.Nodup → (gs.flatMap (rowC fs)).Nodup := fun gs => by
    induction gs with
    | nil => intro _; exact List.nodup_nil
    | cons g gs ih =>
      intro hn
      obtain ⟨h1, h2⟩ := List.nodup_cons.mp hn
      rw [List.flatMap_cons]
      refine List.nodup_append.mpr ⟨?_, ih h2, fun x hx y hy e => ?_⟩
      · exact List.Pairwise.map _ (fun a b hne e => hne (by injection e)) (n.filter _)
      · subst e
        obtain ⟨b, _, rfl⟩ := List.mem_map.mp hx
        obtain ⟨a, ha, hr⟩ := List.mem_flatMap.mp hy
        obtain ⟨b2, _, e⟩ := List.mem_map.mp hr
        injection e with e1 _
        exact h1 (e1 ▸ ha)
  exact key fs n
def spFul (P : Program) (w : World) (K : PySem.W.Frag) (C cR : Addr) : Sp := fun vs H Q E => ∃ (v : V) (d : PyData), vs = [v] ∧ Dv K H v d ∧ lenD d ≤ 12 ∧
  (∀ fs, AreF d fs → ∀ H' q, Same H H' → H q = none → RoadAt P w K C H' q fs (allCh fs) → Q (.ref q) H') ∧ ((∀ fs, ¬ AreF d fs) → ∀ H', Same H H' → E (.ref cR) none H')
section
variable {P : Program} {w : World} {K : PySem.W.Frag} {mg : Str → Option Value} {base : Heap}
theorem sc_ful : FnScope ["shapes", "shape", "other"] ["shapes"] (defScope sFul) := ⟨rfl, rfl, rfl, by decide +kernel, rfl, by decide +kernel, by decide +kernel⟩
theorem ok_ful {f C cR : Addr} {fd : FuncData} (F : Fun K "full_road" "full_road" sFul f fd) (T : Bi3 mg) (TR : TRoad K C) (CR : CalRd P w K mg base C cR) (CA : CalArS P w K mg base) (TInvalidRoad : ErC K mg "InvalidRoad" cR) : FnOk P w K mg base (L2.CX P w) 9 f fd ["shapes"] (spFul P w K C cR) := by
  obtain ⟨fI, fdI, GR, MR, gR, bR⟩ := CR
  obtain ⟨fA, fdA, GA, gA, kA, bA⟩ := CA
  refine F.okX sc_ful (fun vs H Q E h => ?_) (fun cdv A outer s H vs Q E hr h => ?_)
  · obtain ⟨v, d, rfl, _⟩ := h
    rfl
  · obtain ⟨v, d, rfl, hd, hl, k1, k2⟩ := h
    have hu := hr.units
    have hrR : Room 8 _ := hr
    have hrA : Room 5 _ := hr.mono (by decide)
    refine ⟨_, (pss_cons (ps_if (pt_not (pt_val (pe_call GA hrA (by rfl) gA kA bA .nil pass0 (pa_cons (pv 0) pa_nil)))) (pss_one (ps_raise rfl (takes_of rfl rfl rfl rfl) (pmk_own PySem.F.excBase_ValueError TInvalidRoad.q TInvalidRoad.g TInvalidRoad.k (raises_own TInvalidRoad.b TInvalidRoad.t) rfl))) pss_nil)
        (pss_one (ps_ret (pe_make MR GR hrR (by rfl) gR bR .nil (passes_call (takes_of rfl rfl rfl rfl) fun _ _ _ _ h => h) (pa_cons (pv 0) (pa_cons (pe_lc2 (wi1 := iList K (tVar 0)) (own := [("shape", 1), ("other", 2)]) (vs1 := [2]) (g := gName 1) (g1 := gName 2) rfl sc_ful.nd (pi_list (pv 0)) (blkOk_by (N := ["shapes", "shape", "other"]) (sc := defScope sFul) (by decide +kernel)) (by decide) (fun _ _ _ _ _ => (pg_name (i := 1) sc_ful.nd rfl (.inl rfl))) (fun _ _ _ _ _ => pts_nil) (fun _ _ _ _ _ => (pi_list (pv 0))) (fun _ _ _ _ _ => (pg_name (i := 2) sc_ful.nd rfl (.inl rfl))) (fun _ _ _ _ _ => (pts_one (pt_cmpR (show OpR _ _ (rNeD K) from op_neD hu) (pv 1) (pv 2) (nomark _)))) (fun _ _ _ _ _ => (pe_tup (pa_cons (pv 1) (pa_cons (pv 2) pa_nil))))) pa_nil)))))), ?_⟩
    refine ⟨_, rfl, v, d, rfl, hd, by omega, fun H1 s1 => ⟨fun z => ⟨_, rfl, iteYb rfl (k2 z H1 s1)⟩, fun fs hfs => ⟨_, rfl, iteNb rfl ?_⟩⟩⟩
    obtain ⟨rfl, okf, hne, hnd⟩ := id hfs
    obtain ⟨b, xs, rfl, hb, hx⟩ := hd.lst_inv
    have lx := hx.len
    have ll : lenD (.list (fs.map Datum.toD)) = fs.length := List.length_map ..
    rw [ll] at hl
    rw [List.length_map] at lx
    have h300 : 300 ≤ sizeLine := by decide
    have hb1 := s1.seq hb
    refine ⟨_, rfl, _, rfl, b, rfl, ⟨xs, hb1⟩, fun D hD => ?_⟩
    have hDH : H D = none := by
      cases q : H D with
      | none => rfl
      | some o => rw [s1 _ _ q] at hD; cases hD
    refine out_list (xs := xs) (fun i H' => ∃ acc, H' D = some (.lst acc) ∧ DvAll K (wod D H') acc (((fs.take i).flatMap (rowC fs)).map Datum.toD) ∧ Same H1 H') ⟨[], upd_same, .nil, sameN hD⟩ (fun i H' _ ⟨_, _, _, s2⟩ => s2.seq hb1) (fun i x H' hi ⟨acc, h1, h2, s2⟩ => ?_) (fun H2 ⟨acc, h1, h2, s2⟩ => ?_)
    · obtain ⟨dx, ex, hdx⟩ := hx.get hi
      rw [List.getElem?_map] at ex
      obtain ⟨a, ea, rfl⟩ := Option.map_eq_some_iff.mp ex
      refine ⟨rfl, _, rfl, b, rfl, ⟨xs, s2.seq hb1⟩, out_list (xs := xs) (fun j H' => ∃ acc, H' D = some (.lst acc) ∧ DvAll K (wod D H') acc (((fs.take i).flatMap (rowC fs) ++ rowC (fs.take j) a).map Datum.toD) ∧ Same H1 H') ⟨acc, h1, ?_, s2⟩ (fun j H' _ ⟨_, _, _, s3⟩ => s3.seq hb1) (fun j y H' hj ⟨acc, h1, h2, s2⟩ => ?_) (fun H2 ⟨acc, h1, h2, s2⟩ => ⟨acc, h1, ?_, s2⟩)⟩
      · rw [List.take_zero, show rowC [] a = [] from rfl, List.append_nil]
        exact h2
      · obtain ⟨dy, ey, hdy⟩ := hx.get hj
        rw [List.getElem?_map] at ey
        obtain ⟨g, eg, rfl⟩ := Option.map_eq_some_iff.mp ey
        have s3 := s1.trans s2
        refine ⟨rfl, _, rfl, _, rfl, dF a, dF g, dp_plain (hdx.same s3) (Datum.plain a), dp_plain (hdy.same s3) (Datum.plain g), shp_F a, shp_F g, _, rfl, ?_⟩
        have ev : PyData.eqv (dF a) (dF g) = decide (a = g) := Datum.eqv a g
        have more : rowC (fs.take (j + 1)) a = rowC (fs.take j) a ++ rowC [g] a := by
          rw [take_one eg]
          unfold rowC
          rw [List.filter_append, List.map_append]
        rw [ev, more]
        by_cases hag : a = g
        · have e1 : rowC [g] a = [] := by simp [rowC, hag]
          rw [e1, List.append_nil]
          exact iteNb (by simp [hag]) ⟨acc, h1, h2, s2⟩
        · have e1 : rowC [g] a = [(a, g)] := by simp [rowC, hag]
          rw [e1]
          refine iteYb (by simp [hag]) ⟨_, rfl, _, rfl, by show 2 ≤ sizeLine; decide, fun p hp => ⟨acc, ?_, ?_, acc ++ [.ref p], upd_same, ?_, fun z o e => ?_⟩⟩
          · rw [upd_ne (ne_of_none h1 hp)]
            exact h1
          · have la := h2.len
            rw [List.length_map, List.length_append] at la
            have l1 := flat_len fs (fs.take i) fun x hx => List.mem_of_mem_take hx
            have l2 := rowC_len (fs.take j) a
            rw [List.length_take] at l1 l2
            have m1 : min i fs.length ≤ 12 := by omega
            have m2 : min i fs.length * fs.length ≤ 12 * 12 := Nat.mul_le_mul m1 hl
            omega
          · rw [wod_upd, ← List.append_assoc, List.map_append]
            have npD : p ≠ D := (ne_of_none h1 hp).symm
            have s4 := wod_mono (d := D) (sameN (o := .tup [x, y]) hp)
            have s5 : Same H (wod D H') := same_wod s3 hDH
            refine (h2.same s4).snoc ?_
            show Dv K _ (.ref p) (.tuple [dF a, dF g])
            refine .tup (SqT.of ?_) (.cons (hdx.same (s5.trans s4)) (.cons (hdy.same (s5.trans s4)) .nil))
            rw [wod_ne npD, upd_same]
          · rw [upd_ne (ne_of_none e hD), upd_ne (ne_of_none (s2 _ _ e) hp)]
            exact s2 _ _ e
      · rw [take_one ea, List.flatMap_append]
        rw [show xs.length = fs.length from lx, List.take_length] at h2
        simpa using h2
    · rw [show xs.length = fs.length from lx, List.take_length] at h2
      have s3 := s1.trans s2
      have le := flat_len fs fs fun x hx => hx
      have m2 : fs.length * fs.length ≤ 12 * fs.length := Nat.mul_le_mul_right _ hl
      have wf : AreC (.list ((allCh fs).map Datum.toD)) (allCh fs) := ⟨rfl, allCh_ok okf, allCh_nodup hnd⟩
      have lens : lenD (.list (fs.map Datum.toD)) + 2 * lenD (.list ((allCh fs).map Datum.toD)) < 290 := by
        show (fs.map Datum.toD).length + 2 * ((allCh fs).map Datum.toD).length < 290
        rw [List.length_map, List.length_map]
        unfold allCh
        omega
      have hlD : Dv K H2 (.ref D) (.list ((allCh fs).map Datum.toD)) := .lst (SqL.of h1) (h2.same wod_same)
      refine mk_road TR (hd.same s3) hlD lens (fun gs es hg he H' q s4 hq RR => ?_) fun z H' s4 => ?_
      · obtain ⟨eg, _⟩ := hg
        injection eg with eg
        obtain ⟨ee, _⟩ := he
        injection ee with ee
        rw [← map_inj eg, ← map_inj ee] at RR
        have hqn : H q = none := by
          cases z : H q with
          | none => rfl
          | some o => rw [s3 _ _ z] at hq; cases hq
        exact k1 fs hfs H' q (s3.trans s4) hqn RR
      · rcases z with z | z
        · exact absurd hfs (z fs)
        · exact absurd wf (z _)
end
end Own
/-! The law's figures, all changes between them. -/
namespace Own
open PySem PySem.Spec PyProof.Rows L2 PySem.W
abbrev sAll : Stmt := top1 30
/-- all shapes -/
def figs : List Fg := (figsTo 6).map Tup.mk
theorem tups_dv {K : PySem.W.Frag} {H : Hp} : ∀ {vs : List V} {r : List (List Int)}, TupsAt H vs r → DvAll K H vs ((r.map Tup.mk).map (Datum.toD (α := Fg)))
  | [], [], _ => .nil
  | _ :: _, k :: _, ⟨⟨p, e, h⟩, b⟩ => .cons (by rw [e]; exact .tup (SqT.of h) (dv_ints k)) (tups_dv b)
  | [], _ :: _, z => z.elim
  | _ :: _, [], z => z.elim
theorem figs_ok : ∀ f ∈ figs, fOk f := by
  have h : figs.all (fun f => isFig (dF f)) = true := by decide +kernel
  exact fun f hf => List.all_eq_true.mp h f hf
theorem figs_nodup : figs.Nodup := by decide +kernel
theorem figs_len : figs.length = 36 := by decide +kernel
theorem rowC_comm (fs : List Fg) (a : Fg) : rowC fs a = (fs.filter fun b => !decide (b = a)).map fun b => (a, b) := by
  unfold rowC
  congr 1
  refine List.filter_congr fun b _ => ?_
  rw [show decide (a = b) = decide (b = a) from decide_eq_decide.mpr eq_comm]
def spAll (K : PySem.W.Frag) : Sp := fun vs H Q _ => ∃ (v : V) (fs : List Fg), vs = [v] ∧ Dv K H v (.list (fs.map Datum.toD)) ∧ fs.length ≤ 12 ∧
  ∀ H' q zs, Same H H' → H q = none → H' q = some (.lst zs) → DvAll K (wod q H') zs ((allCh fs).map Datum.toD) → Q (.ref q) H'
theorem same_new {A B : Hp} {p : Addr} {o : HO} (s : Same A B) (h : B p = none) : Same A (wod p (upd B p o)) := fun b u e => by
  have z := s _ _ e
  rw [wod_upd, wod_ne (ne_of_none z h)]
  exact z
section
variable {P : Program} {w : World} {K : PySem.W.Frag} {mg : Str → Option Value} {base : Heap}
theorem sc_all : FnScope ["figures", "found", "one", "other"] ["figures"] (defScope sAll) := ⟨rfl, rfl, rfl, by decide +kernel, rfl, by decide +kernel, by decide +kernel⟩
theorem ok_all {f : Addr} {fd : FuncData} (F : Fun K "_law_all_changes" "_law_all_changes" sAll f fd) : FnOk P w K mg base CX0 1 f fd ["figures"] (spAll K) := by
  refine F.ok sc_all (fun vs H Q E h => ?_) (fun cdv A outer s H vs Q E hr h => ?_)
  · obtain ⟨v, fs, rfl, _⟩ := h
    rfl
  · obtain ⟨v, fs, rfl, hv, hl, k⟩ := h
    have hu := hr.units
    obtain ⟨b, xs, rfl, hb, hx⟩ := hv.lst_inv
    have lx := hx.len
    rw [List.length_map] at lx
    have h1000 : 1000 ≤ sizeLine := by decide
    refine ⟨_, (pss_cons (ps_set (i := 1) sc_all.nd rfl (.inl rfl) (pe_lst pa_nil))
        (pss_cons (ps_for PassesOwn.never rfl (pi_list (pv 0)) (pg_name (i := 2) sc_all.nd rfl (.inr rfl)) (pss_one (ps_set (i := 1) sc_all.nd rfl (.inl rfl) (pe_op op_cat (pv 1) (pe_lc (own := [("other", 3)]) (g := gName 3) rfl sc_all.nd (pi_list (pv 0)) (blkOk_by (N := ["figures", "found", "one", "other"]) (sc := defScope sAll) (by decide +kernel)) (fun _ _ _ _ _ => (pg_name (i := 3) sc_all.nd rfl (.inl rfl))) (fun _ _ _ _ _ => (pts_one (pt_cmpR (show OpR _ _ (rNeD K) from op_neD hu) (pv 3) (pv 2) (nomark _)))) (fun _ _ _ _ _ => (pe_tup (pa_cons (pv 2) (pa_cons (pv 3) pa_nil)))))))))
        (pss_one (ps_ret (pv 1))))), ?_⟩
    refine ⟨by decide, fun q0 hq0 => ?_⟩
    refine ⟨_, rfl, b, rfl, ⟨xs, (sameN hq0).seq hb⟩, ?_⟩
    refine for_list (xs := xs) (fun i σ H' => ∃ l acc v, σ = [some (.ref b), some (.ref l), v, none] ∧ H' l = some (.lst acc) ∧ H l = none ∧ DvAll K (wod l H') acc (((fs.take i).flatMap (rowC fs)).map Datum.toD) ∧ Same H H') ⟨q0, [], none, rfl, upd_same, hq0, .nil, sameN hq0⟩ (fun i σ H' _ ⟨_, _, _, _, _, _, _, s1⟩ => s1.seq hb) ?_ ?_
    · rintro i x σ H2 hi ⟨l, acc, v, rfl, hl2, hlH, dv, s2⟩
      obtain ⟨dx, ex, hdx⟩ := hx.get hi
      rw [List.getElem?_map] at ex
      obtain ⟨a, ea, rfl⟩ := Option.map_eq_some_iff.mp ex
      refine ⟨_, rfl, _, rfl, b, rfl, ⟨xs, s2.seq hb⟩, fun D hD => lc_list (xs := xs) (fun j H3 => ∃ ac, H3 D = some (.lst ac) ∧ DvAll K (wod D H3) ac ((rowC (fs.take j) a).map Datum.toD) ∧ Same H2 H3) ⟨[], upd_same, .nil, sameN hD⟩ (fun j H3 _ ⟨_, _, _, s3⟩ => (s2.trans s3).seq hb) (fun j y H3 hj ⟨ac, h1, h2, s3⟩ => ?_) (fun H3 ⟨ac, h1, h2, s3⟩ => ?_)⟩
      · obtain ⟨dy, ey, hdy⟩ := hx.get hj
        rw [List.getElem?_map] at ey
        obtain ⟨g, eg, rfl⟩ := Option.map_eq_some_iff.mp ey
        have s4 := s2.trans s3
        refine ⟨rfl, _, rfl, _, rfl, dF g, dF a, dp_plain (hdy.same s4) (Datum.plain g), dp_plain (hdx.same s4) (Datum.plain a), shp_F g, shp_F a, _, rfl, ?_⟩
        have ev : PyData.eqv (dF g) (dF a) = decide (g = a) := Datum.eqv g a
        have more : rowC (fs.take (j + 1)) a = rowC (fs.take j) a ++ rowC [g] a := by
          rw [take_one eg]
          unfold rowC
          rw [List.filter_append, List.map_append]
        rw [ev, more]
        by_cases hag : g = a
        · have e1 : rowC [g] a = [] := by simp [rowC, hag]
          rw [e1, List.append_nil]
          exact iteNb (by simp [hag]) ⟨ac, h1, h2, s3⟩
        · have e1 : rowC [g] a = [(a, g)] := by
            have z : ¬ a = g := fun e => hag e.symm
            simp [rowC, z]
          rw [e1]
          refine iteYb (by simp [hag]) ⟨_, rfl, _, rfl, by show 2 ≤ sizeLine; decide, fun p hp => ⟨ac, ?_, ?_, ac ++ [.ref p], upd_same, ?_, fun z o e => ?_⟩⟩
          · rw [upd_ne (ne_of_none h1 hp)]
            exact h1
          · have la := h2.len
            rw [List.length_map] at la
            have l2 := rowC_len (fs.take j) a
            rw [List.length_take] at l2
            omega
          · rw [wod_upd, List.map_append]
            have npD : p ≠ D := (ne_of_none h1 hp).symm
            have hDH : H D = none := by
              cases q : H D with
              | none => rfl
              | some o => rw [s2 _ _ q] at hD; cases hD
            have s5 := wod_mono (d := D) (sameN (o := .tup [x, y]) hp)
            have s6 : Same H (wod D H3) := same_wod s4 hDH
            refine (h2.same s5).snoc ?_
            show Dv K _ (.ref p) (.tuple [dF a, dF g])
            refine .tup (SqT.of ?_) (.cons (hdx.same (s6.trans s5)) (.cons (hdy.same (s6.trans s5)) .nil))
            rw [wod_ne npD, upd_same]
          · rw [upd_ne (ne_of_none e hD), upd_ne (ne_of_none (s3 _ _ e) hp)]
            exact s3 _ _ e
      · rw [show xs.length = fs.length from lx, List.take_length] at h2
        have la := dv.len
        have lb := h2.len
        rw [List.length_map] at la lb
        have l1 := flat_len fs (fs.take i) fun x hx => List.mem_of_mem_take hx
        have l2 := rowC_len fs a
        rw [List.length_take] at l1
        have m1 : min i fs.length ≤ 12 := by omega
        have m2 : min i fs.length * fs.length ≤ 12 * 12 := Nat.mul_le_mul m1 hl
        refine ⟨l, D, acc, ac, rfl, rfl, s3 _ _ hl2, h1, by omega, fun p hp => ⟨p, acc ++ ac, some x, rfl, upd_same, ?_, ?_, (s2.trans s3).trans (sameN hp)⟩⟩
        · cases q : H p with
          | none => rfl
          | some o => rw [s3 _ _ (s2 _ _ q)] at hp; cases hp
        · rw [take_one ea, List.flatMap_append, List.map_append]
          have e1 : [a].flatMap (rowC fs) = rowC fs a := by simp
          rw [e1]
          exact (dv.same (same_new (wod_same.trans s3) hp)).app (h2.same (same_new wod_same hp))
    · rintro σ H2 ⟨l, acc, v, rfl, hl2, hlH, dv, s2⟩
      rw [show xs.length = fs.length from lx, List.take_length] at dv
      exact ⟨_, rfl, k H2 l acc s2 hlH hl2 dv⟩
end
end Own
/-! The shapes of a road, by the law. -/
namespace Own
open PySem PySem.Spec PyProof.Rows L2 PySem.W
abbrev sKno : Stmt := top1 32
/-- sorted(set(xs)) -/
theorem rsetsort {α : Type} [DecidableEq α] [DatumOrd α] [AsKey α] [Tri α] {w : World} {K : PySem.W.Frag} {H0 H : Hp} {Q : VK} {as : List α} {a : Addr} {vs : List V} (s : Same H0 H) (hd : Datum.depth α ≤ 40) (hf : Full as) (hl : as.length < 300) (ha : SqL K H a vs) (hv : DvAll K H0 vs (as.map Datum.toD))
    (k : ∀ H' T zs, Same H H' → H' T = none → DvAll K H0 zs ((sortT (uniq as)).map Datum.toD) → Q (.ref T) (upd H' T (.lst zs))) : rSetN w K [.ref a] H fun y H1 => rSortS w K [y] H1 Q := by
  obtain ⟨ks, e1, e2, e3⟩ := keysOf hv
  have lk : ks.length = as.length := by
    have z := congrArg List.length e2
    rwa [List.length_map, List.length_map] at z
  refine ⟨a, ks, rfl, by rw [← e1]; exact ha, fun q hq => (e3 q hq).1.keep (.of_same s), by omega, fun S L hS g nd => ?_⟩
  have s4 : Same H0 (upd H S (NsO w S L)) := s.trans (sameN hS)
  have inks : ∀ q ∈ L, q ∈ ks := fun q hq => g.sub q hq
  have dat : ∀ q ∈ ks, ∃ f : α, f ∈ as ∧ q.2 = AsKey.toK f := fun q hq => by
    have z : q.2 ∈ ks.map (·.2) := List.mem_map.mpr ⟨q, hq, rfl⟩
    rw [e2] at z
    obtain ⟨f, hf, e⟩ := List.mem_map.mp z
    exact ⟨f, hf, e.symm⟩
  refine ⟨S, L, rfl, upd_same, fun q hq => ⟨(e3 q (inks q hq)).1.keep (.of_same s4), (e3 q (inks q hq)).2.same s4, ?_⟩, ?_, ?_, fun L' T pL nd' hT => ?_⟩
  · obtain ⟨f, _, e⟩ := dat q (inks q hq)
    rw [e, AsKey.data]
    exact Nat.le_trans (Datum.depth_le f) hd
  · intro x hx y hy
    obtain ⟨q, hq, rfl⟩ := List.mem_map.mp hx
    obtain ⟨r, hr, rfl⟩ := List.mem_map.mp hy
    obtain ⟨f, _, e⟩ := dat q (inks q hq)
    obtain ⟨f', _, e'⟩ := dat r (inks r hr)
    rw [e, e', AsKey.data, AsKey.data]
    exact DatumOrd.alike f f'
  · refine .inl fun x hx => ?_
    obtain ⟨q, hq, rfl⟩ := List.mem_map.mp hx
    obtain ⟨f, hm, e⟩ := dat q (inks q hq)
    rw [e, AsKey.data]
    exact hf f hm
  · refine k _ T _ (sameN hS) hT ?_
    have z := dvs_of (K := K) (H := H0) (bs := sortD (L'.map datN)) fun b hb => by
      obtain ⟨q, hq, rfl⟩ := List.mem_map.mp ((List.mergeSort_perm _ _).mem_iff.mp hb)
      exact (e3 q (inks q (pL.mem_iff.mp hq))).2
    rw [held_sort (α := α) e2 g pL nd'] at z
    exact z
/-- the pair of the lists of a road -/
def PairR (K : PySem.W.Frag) (H : Hp) (v : V) (fs : List Fg) (cs : List Ch) : Prop := Dv K H v (.tuple [.list (fs.map Datum.toD), .list (cs.map Datum.toD)])
theorem PairR.inv {K : PySem.W.Frag} {H : Hp} {v : V} {fs : List Fg} {cs : List Ch} (h : PairR K H v fs cs) : ∃ a x y, v = .ref a ∧ SqT K H a [x, y] ∧ Dv K H x (.list (fs.map Datum.toD)) ∧ Dv K H y (.list (cs.map Datum.toD)) := by
  have h' : Dv K H v (.tuple [.list (fs.map Datum.toD), .list (cs.map Datum.toD)]) := h
  obtain ⟨a, xs, e, ha, hx⟩ := h'.tup_inv
  generalize PyData.list (fs.map Datum.toD) = d1 at hx ⊢
  generalize PyData.list (cs.map Datum.toD) = d2 at hx ⊢
  cases hx with
  | cons h1 hr =>
    cases hr with
    | cons h2 hr2 =>
      cases hr2 with
      | nil => exact ⟨a, _, _, e, ha, h1, h2⟩
def spKno (K : PySem.W.Frag) : Sp := fun vs H Q _ => ∃ (v : V) (fs : List Fg) (cs : List Ch), vs = [v] ∧ PairR K H v fs cs ∧ fs.length + 2 * cs.length < 290 ∧ (∀ f ∈ fs, fOk f) ∧ (∀ c ∈ cs, cOk c) ∧
  ∀ H' q zs, Same H H' → H' q = none → DvAll K H zs ((behKeys fs cs).map Datum.toD) → Q (.ref q) (upd H' q (.lst zs))
section
variable {P : Program} {w : World} {K : PySem.W.Frag} {mg : Str → Option Value} {base : Heap}
theorem sc_kno : FnScope ["road_here", "found", "one", "other"] ["road_here"] (defScope sKno) := ⟨rfl, rfl, rfl, by decide +kernel, rfl, by decide +kernel, by decide +kernel⟩
theorem ok_kno {f : Addr} {fd : FuncData} (F : Fun K "_law_known" "_law_known" sKno f fd) (T : Bi3 mg) : FnOk P w K mg base CX0 1 f fd ["road_here"] (spKno K) := by
  refine F.ok sc_kno (fun vs H Q E h => ?_) (fun cdv A outer s H vs Q E hr h => ?_)
  · obtain ⟨v, fs, cs, rfl, _⟩ := h
    rfl
  · obtain ⟨v, fs, cs, rfl, hv, hl, okf, okc, k⟩ := h
    have hu := hr.units
    obtain ⟨a, x0, y0, rfl, ha, h1, h2⟩ := hv.inv
    obtain ⟨b, xs, rfl, hb, hx⟩ := h1.lst_inv
    obtain ⟨c, ys, rfl, hc, hy⟩ := h2.lst_inv
    have lx := hx.len
    have ly := hy.len
    rw [List.length_map] at lx ly
    have h300 : 300 ≤ sizeLine := by decide
    refine ⟨_, (pss_cons (ps_set (i := 1) sc_kno.nd rfl (.inl rfl) (pe_callTy call_list_of (by rfl) T.list (by decide +kernel) (pa_cons (pe_ix ix_tup (pv 0) (pe_int) (fun _ _ => rfl)) pa_nil)))
        (pss_cons (ps_for PassesOwn.never rfl (pi_list (pe_ix ix_tup (pv 0) (pe_int) (fun _ _ => rfl))) (pg_tup rfl (pgs_cons (pg_name (i := 2) sc_kno.nd rfl (.inl rfl)) (pgs_cons (pg_name (i := 3) sc_kno.nd rfl (.inl rfl)) pgs_nil))) (pss_one (ps_set (i := 1) sc_kno.nd rfl (.inl rfl) (pe_op op_cat (pv 1) (pe_lst (pa_cons (pv 2) (pa_cons (pv 3) pa_nil)))))))
        (pss_one (ps_ret (pe_callB (call_sortS rfl hu) (by rfl) T.sorted (by decide +kernel) (pa_cons (pe_callTy (call_setN rfl hu) (by rfl) T.set (by decide +kernel) (pa_cons (pv 1) pa_nil)) pa_nil)))))), ?_⟩
    refine ⟨_, rfl, a, _, 0, _, rfl, rfl, ha, atI_nat (j := 0) rfl, b, xs, rfl, .inl hb, fun l hl0 => ?_⟩
    have s0 : Same H (upd H l (.lst xs)) := sameN hl0
    refine ⟨_, rfl, a, _, 1, _, rfl, rfl, sqT_same s0 ha, atI_nat (j := 1) rfl, c, rfl, ⟨ys, s0.seq hc⟩, ?_⟩
    refine for_list (xs := ys) (fun i σ H' => ∃ l acc v1 v2, σ = [some (.ref a), some (.ref l), v1, v2] ∧ H' l = some (.lst acc) ∧ DvAll K H acc ((fs ++ partsC (cs.take i)).map Datum.toD) ∧ Same H H') ⟨l, xs, none, none, rfl, upd_same, by rw [List.take_zero, show partsC [] = [] from rfl, List.append_nil]; exact hx, s0⟩ (fun i σ H' _ ⟨_, _, _, _, _, _, _, s1⟩ => s1.seq hc) ?_ ?_
    · rintro i x σ H2 hi ⟨l, acc, v1, v2, rfl, hl2, dv, s2⟩
      obtain ⟨dx, ex, hdx⟩ := hy.get hi
      rw [List.getElem?_map] at ex
      obtain ⟨ch, ech, rfl⟩ := Option.map_eq_some_iff.mp ex
      obtain ⟨t, x1, x2, rfl, ht, hd1, hd2⟩ := dv_ch hdx
      have la := dv.len
      rw [List.length_map, List.length_append, parts_len, List.length_take] at la
      have m1 := Nat.min_le_right i cs.length
      refine ⟨t, _, rfl, sqT_same s2 ht, rfl, x1, _, rfl, x2, _, rfl, rfl, _, rfl, _, rfl, _, rfl, by show 2 ≤ sizeLine; decide, fun m hm => ⟨l, m, acc, [x1, x2], rfl, rfl, ?_, upd_same, by show acc.length + 2 ≤ _; omega, fun p hp => ⟨p, acc ++ [x1, x2], some x1, some x2, rfl, upd_same, ?_, (s2.trans (sameN hm)).trans (sameN hp)⟩⟩⟩
      · rw [upd_ne (ne_of_none hl2 hm)]
        exact hl2
      · rw [parts_take ech, ← List.append_assoc, List.map_append]
        exact dv.app (.cons hd1 (.cons hd2 .nil))
    · rintro σ H2 ⟨l, acc, v1, v2, rfl, hl2, dv, s2⟩
      rw [show ys.length = cs.length from ly, List.take_length] at dv
      have lp : (fs ++ partsC cs).length < 300 := by
        rw [List.length_append, parts_len]
        omega
      refine ⟨_, rfl, ?_⟩
      exact rsetsort (w := w) s2 (by decide) (full_F (fp_ok okf okc)) lp (SqL.of hl2) dv fun H' T zs s3 hT hz => k H' T zs (s2.trans s3) hT hz
end
end Own
/-! A road without some of its changes. -/
namespace Own
open PySem PySem.Spec PyProof.Rows L2 PySem.W
theorem any_in {cs : List Ch} (c : Ch) : (((cs.map Datum.toD) : List PyData).any fun z => PyData.eqv z (dC c)) = decide (c ∈ cs) := by
  rw [List.any_map]
  rw [Bool.eq_iff_iff, decide_eq_true_iff, List.any_eq_true]
  constructor
  · rintro ⟨x, hx, e⟩
    have z : PyData.eqv (dC x) (dC c) = decide (x = c) := Datum.eqv x c
    have e' : PyData.eqv (dC x) (dC c) = true := e
    rw [z, decide_eq_true_iff] at e'
    exact e' ▸ hx
  · intro h
    refine ⟨c, h, ?_⟩
    have z : PyData.eqv (dC c) (dC c) = decide (c = c) := Datum.eqv c c
    show PyData.eqv (dC c) (dC c) = true
    rw [z, decide_eq_true rfl]
theorem dec_sort {cs : List Ch} (c : Ch) : decide (c ∈ sortT cs) = decide (c ∈ cs) := decide_eq_decide.mpr sortT_mem
def spWot (P : Program) (w : World) (K : PySem.W.Frag) (C cU : Addr) : Sp := fun vs H Q E => ∃ (r : Addr) (v : V) (d : PyData) (fs : List Fg) (cs : List Ch), vs = [.ref r, v] ∧ RoadAt P w K C H r fs cs ∧ Dv K H v d ∧ lenD d < 300 ∧
  (∀ ls, AreC d ls → (∀ c ∈ ls, c ∈ cs) → ∀ H' q, Same H H' → H q = none → RoadAt P w K C H' q fs (cs.filter fun c => !decide (c ∈ ls)) → Q (.ref q) H') ∧
  ((∀ ls, AreC d ls → ¬ ∀ c ∈ ls, c ∈ cs) → ∀ H', Same H H' → E (.ref cU) none H')
section
variable {P : Program} {w : World} {K : PySem.W.Frag} {mg : Str → Option Value} {base : Heap}
theorem sc_wot : FnScope ["self", "changes", "change"] ["self", "changes"] (defScope sWot) := ⟨rfl, rfl, rfl, by decide +kernel, rfl, by decide +kernel, by decide +kernel⟩
theorem ok_wot {f C cR cU : Addr} {fd : FuncData} (F : Fun K "without" "Road.without" sWot f fd) (T : Bi3 mg) (TR : TRoad K C) (CR : CalRd P w K mg base C cR) (CC : CalArC P w K mg base) (TUnknownChange : ErC K mg "UnknownChange" cU) : FnOk P w K mg base (L2.CX P w) 9 f fd ["self", "changes"] (spWot P w K C cU) := by
  obtain ⟨fI, fdI, GR, MR, gR, bR⟩ := CR
  obtain ⟨fC, fdC, GC, gC, kC, bC⟩ := CC
  refine F.okX sc_wot (fun vs H Q E h => ?_) (fun cdv A outer s H vs Q E hr h => ?_)
  · obtain ⟨r, v, d, fs, cs, rfl, _⟩ := h
    rfl
  · obtain ⟨r, v, d, fs, cs, rfl, R, hd, hl, k1, k2⟩ := h
    have hu := hr.units
    have hu5 : (A.deeper (envOfC "Road.without" (defScope sWot) s.heap.objs.size f cdv)).units + 65 < cLine := by
      have z := hr.un
      omega
    have hrR : Room 8 _ := hr
    have hrC : Room 6 _ := hr.mono (by decide)
    refine ⟨_, (pss_cons (ps_if (PW.pt (pw_or (pt_not (pt_val (pe_call GC hrC (by rfl) gC kC bC .nil pass0 (pa_cons (pv 1) pa_nil)))) (pw_or1 (pt_not (pt_val (pe_callB (cr_all rfl) (by rfl) T.all (by decide +kernel) (pa_cons (pe_lc (own := [("change", 2)]) (g := gName 2) rfl sc_wot.nd (pi_list (pv 1)) (blkOk_by (N := ["self", "changes", "change"]) (sc := defScope sWot) (by decide +kernel)) (fun _ _ _ _ _ => (pg_name (i := 2) sc_wot.nd rfl (.inl rfl))) (fun _ _ _ _ _ => pts_nil) (fun _ _ _ _ _ => (pe_cmpR (show OpR _ _ (rInD K) from op_inD hu5) (pv 2) (show PE _ _ (tFld K (tVar 0) "_changes") from pe_fld (pv 0) rfl) (by rfl)))) pa_nil))))))) (pss_one (ps_raise rfl (takes_of rfl rfl rfl rfl) (pmk_own PySem.F.excBase_ValueError TUnknownChange.q TUnknownChange.g TUnknownChange.k (raises_own TUnknownChange.b TUnknownChange.t) rfl))) pss_nil)
        (pss_one (ps_ret (pe_make MR GR hrR (by rfl) gR bR .nil (passes_call (takes_of rfl rfl rfl rfl) fun _ _ _ _ h => h) (pa_cons (pe_fld (pv 0) rfl) (pa_cons (pe_lc (own := [("change", 2)]) (g := gName 2) rfl sc_wot.nd (pi_list (pe_fld (pv 0) rfl)) (blkOk_by (N := ["self", "changes", "change"]) (sc := defScope sWot) (by decide +kernel)) (fun _ _ _ _ _ => (pg_name (i := 2) sc_wot.nd rfl (.inl rfl))) (fun _ _ _ _ _ => (pts_one (pt_cmpR (show OpR _ _ (rNotInD K) from op_notInD hu5) (pv 2) (pv 1) (by rfl)))) (fun _ _ _ _ _ => (pv 2))) pa_nil)))))), ?_⟩
    refine ⟨_, rfl, v, d, rfl, hd, hl, fun H1 s1 => ⟨fun z => ⟨_, rfl, iteYb rfl (k2 (fun ls h => absurd h (z ls)) H1 s1)⟩, fun ls hls => ⟨_, rfl, iteNb rfl ?_⟩⟩⟩
    obtain ⟨rfl, okl, ndl⟩ := id hls
    obtain ⟨b, xs, rfl, hb, hx⟩ := hd.lst_inv
    obtain ⟨dx, fl, bb, c, dd, e0, e1, e2, e3, h1, h2, h3⟩ := R.ex
    obtain ⟨⟨_, a2, a3, a4⟩, ⟨_, b2, b3⟩, wl⟩ := R.wf
    have ll : lenD (.list (ls.map Datum.toD)) = ls.length := List.length_map ..
    rw [ll] at hl
    have lx := hx.len
    rw [List.length_map] at lx
    have h300 : 300 ≤ sizeLine := by decide
    have pc : ∀ c : Ch, (Datum.toD c : PyData).plain = true := Datum.plain
    have pcs : ∀ cs : List Ch, (PyData.list (cs.map Datum.toD)).plain = true := fun cs => Datum.plain (α := List Ch) cs
    refine ⟨_, rfl, b, rfl, ⟨xs, s1.seq hb⟩, fun D hD => lc_list (xs := xs) (fun i H' => H' D = some (.lst (((ls.take i).map fun c => decide (c ∈ cs)).map V.bl)) ∧ Same H1 H') ⟨upd_same, sameN hD⟩ (fun i H' _ ⟨_, s2⟩ => (s1.trans s2).seq hb) (fun i x H' hi ⟨g1, s2⟩ => ?_) (fun H2 ⟨g1, s2⟩ => ?_)⟩
    · obtain ⟨dy, ex, hdx⟩ := hx.get hi
      rw [List.getElem?_map] at ex
      obtain ⟨ch, ech, rfl⟩ := Option.map_eq_some_iff.mp ex
      have s3 := s1.trans s2
      refine ⟨rfl, _, rfl, _, rfl, r, C, dx, fl, _, rfl, s3 _ _ e0, TR.c, TR.n2, e2, dC ch, _, dp_plain (hdx.same s3) (pc ch), dp_plain (h2.same s3) (pcs _), shp_C ch, shp_Cs _, _, g1, ?_, ?_, ?_⟩
      · rw [List.length_map, List.length_map, List.length_take]
        have z := Nat.min_le_right i ls.length
        omega
      · rw [any_in, dec_sort, take_one ech, List.map_append, List.map_append]
        exact upd_same
      · intro x o e
        rw [upd_ne (ne_of_none e hD)]
        exact s2 _ _ e
    · rw [show xs.length = ls.length from lx, List.take_length] at g1
      have s3 := s1.trans s2
      refine ⟨D, _, rfl, SqL.of g1, _, rfl, ?_⟩
      by_cases hall : ∀ c ∈ ls, c ∈ cs
      · have e1' : ((ls.map fun c => decide (c ∈ cs)).all id) = true := by
          rw [List.all_map]
          exact List.all_eq_true.mpr fun c hc => decide_eq_true (hall c hc)
        refine iteNb (by rw [e1']; rfl) ?_
        obtain ⟨c', ys, ec, hc, hy⟩ := h2.lst_inv
        cases ec
        have ly := hy.len
        rw [List.length_map] at ly
        have ls2 := sortT_len cs
        refine ⟨_, rfl, r, C, dx, fl, _, rfl, s3 _ _ e0, TR.c, TR.n1, e1, _, rfl, r, C, dx, fl, _, rfl, s3 _ _ e0, TR.c, TR.n2, e2, c, rfl, ⟨ys, s3.seq hc⟩, fun D2 hD2 => lc_list (xs := ys) (fun i H' => ∃ acc, H' D2 = some (.lst acc) ∧ DvAll K H acc ((((sortT cs).take i).filter fun c => !decide (c ∈ ls)).map Datum.toD) ∧ Same H2 H') ⟨[], upd_same, .nil, sameN hD2⟩ (fun i H' _ ⟨_, _, _, s4⟩ => (s3.trans s4).seq hc) (fun i x H' hi ⟨acc, g1, g2, s4⟩ => ?_) (fun H3 ⟨acc, g1, g2, s4⟩ => ?_)⟩
        · obtain ⟨dy, ex, hdx⟩ := hy.get hi
          rw [List.getElem?_map] at ex
          obtain ⟨ch, ech, rfl⟩ := Option.map_eq_some_iff.mp ex
          have s5 := s3.trans s4
          refine ⟨rfl, _, rfl, _, rfl, dC ch, _, dp_plain (hdx.same s5) (pc ch), dp_plain (hd.same s5) (pcs ls), shp_C ch, shp_Cs ls, _, rfl, ?_⟩
          rw [any_in, take_one ech, List.filter_append, List.map_append]
          by_cases hm : ch ∈ ls
          · have z : [ch].filter (fun c => !decide (c ∈ ls)) = [] := by simp [hm]
            rw [z]
            exact iteNb (by simp [hm]) ⟨acc, g1, by simpa using g2, s4⟩
          · have z : [ch].filter (fun c => !decide (c ∈ ls)) = [ch] := by simp [hm]
            rw [z]
            refine iteYb (by simp [hm]) ⟨_, rfl, acc, g1, ?_, acc ++ [x], upd_same, g2.snoc hdx, fun y o e => ?_⟩
            · have la := g2.len
              rw [List.length_map] at la
              have lf := List.length_filter_le (fun c : Ch => !decide (c ∈ ls)) ((sortT cs).take i)
              rw [List.length_take] at lf
              have z := Nat.min_le_right i (sortT cs).length
              omega
            · rw [upd_ne (ne_of_none e hD2)]
              exact s4 _ _ e
        · rw [show ys.length = (sortT cs).length from ly, List.take_length] at g2
          have s5 := s3.trans s4
          have lf := List.length_filter_le (fun c : Ch => !decide (c ∈ ls)) (sortT cs)
          have hlD : Dv K H3 (.ref D2) (.list (((sortT cs).filter fun c => !decide (c ∈ ls)).map Datum.toD)) := .lst (SqL.of g1) (g2.same s5)
          have lens : lenD (.list ((sortT fs).map Datum.toD)) + 2 * lenD (.list (((sortT cs).filter fun c => !decide (c ∈ ls)).map Datum.toD)) < 290 := by
            show ((sortT fs).map Datum.toD).length + 2 * (((sortT cs).filter fun c => !decide (c ∈ ls)).map Datum.toD).length < 290
            rw [List.length_map, List.length_map, sortT_len]
            omega
          refine mk_road TR (h1.same s5) hlD lens (fun gs es hg he H' q s6 hq RR => ?_) fun z H' s6 => ?_
          · obtain ⟨eg, _⟩ := hg
            injection eg with eg
            obtain ⟨ee, _⟩ := he
            injection ee with ee
            rw [← map_inj eg, ← map_inj ee] at RR
            have hqn : H q = none := by
              cases z : H q with
              | none => rfl
              | some o => rw [s5 _ _ z] at hq; cases hq
            exact k1 ls hls hall H' q (s5.trans s6) hqn (RR.perm (sortT_same fs).symm ((sortT_same cs).symm.filter _))
          · exfalso
            rcases z with z | z
            · exact z (sortT fs) ⟨rfl, fun f hf => a2 f (sortT_mem.mp hf), fun e => a3 (by have := sortT_len fs; rw [e] at this; exact List.eq_nil_of_length_eq_zero this.symm), (sortT_same fs).nodup_iff.mpr a4⟩
            · exact z _ ⟨rfl, fun c hc => b2 c (sortT_mem.mp (List.mem_filter.mp hc).1), ((sortT_same cs).nodup_iff.mpr b3).filter _⟩
      · have e1' : ((ls.map fun c => decide (c ∈ cs)).all id) = false := by
          refine Bool.eq_false_iff.mpr fun z => hall fun c hc => ?_
          rw [List.all_map] at z
          exact of_decide_eq_true (List.all_eq_true.mp z c hc)
        refine iteYb (by rw [e1']; rfl) (k2 (fun ls2 h2 hz => ?_) H2 s3)
        obtain ⟨ee, _⟩ := h2
        injection ee with ee
        rw [← map_inj ee] at hz
        exact hall hz
end
end Own
/-! Two roads compared. -/
namespace Own
open PySem PySem.Spec PyProof.Rows L2 PySem.W
abbrev sREq : Stmt := inClass sRoad 7
theorem eqv_Fs (fs gs : List Fg) : PyData.eqv (.list (fs.map Datum.toD)) (.list (gs.map Datum.toD)) = decide (fs = gs) := Datum.eqv (α := List Fg) fs gs
theorem eqv_Cs (cs ds : List Ch) : PyData.eqv (.list (cs.map Datum.toD)) (.list (ds.map Datum.toD)) = decide (cs = ds) := Datum.eqv (α := List Ch) cs ds
def spREq (P : Program) (w : World) (K : PySem.W.Frag) (C : Addr) : Sp := fun vs H Q _ => ∃ (r : Addr) (o : V) (fs : List Fg) (cs : List Ch), vs = [.ref r, o] ∧ RoadAt P w K C H r fs cs ∧
  ((∃ q gs ds, o = .ref q ∧ RoadAt P w K C H q gs ds ∧ Q (.bl (decide (sortT fs = sortT gs) && decide (sortT cs = sortT ds))) H) ∨
   ∃ t, TyX K H o t ∧ PySem.W.kitOne K t (.ref C) = some false ∧ Q (.bl false) H)
section
variable {P : Program} {w : World} {K : PySem.W.Frag} {mg : Str → Option Value} {base : Heap}
theorem sc_req : FnScope ["self", "other"] ["self", "other"] (defScope sREq) := ⟨rfl, rfl, rfl, by decide +kernel, rfl, by decide +kernel, by decide +kernel⟩
theorem ok_req {f C : Addr} {fd : FuncData} (F : Fun K "__eq__" "Road.__eq__" sREq f fd) (T : Bi3 mg) (TR : TRoad K C) (gR : mg "Road" = some (.ref C)) : FnOk P w K mg base CX0 1 f fd ["self", "other"] (spREq P w K C) := by
  refine F.ok sc_req (fun vs H Q E h => ?_) (fun cdv A outer s H vs Q E hr h => ?_)
  · obtain ⟨r, o, fs, cs, rfl, _⟩ := h
    rfl
  · obtain ⟨r, o, fs, cs, rfl, R, k⟩ := h
    have hu := hr.units
    refine ⟨_, (pss_one (ps_ret (pe_and (pe_callB call_isi (by rfl) T.isinstance (by decide +kernel) (pa_cons (pv 1) (pa_cons (pe_glob (v := .ref C) (by rfl) gR rfl) pa_nil))) (pe_and (pe_cmpR (op_eqD hu) (pe_fld (pv 0) rfl) (pe_fld (pv 1) rfl) (nomark _)) (pe_one (pe_cmpR (op_eqD hu) (pe_fld (pv 0) rfl) (pe_fld (pv 1) rfl) (nomark _))))))), ?_⟩
    rcases k with ⟨q, gs, ds, rfl, R2, k⟩ | ⟨t, ht, kt, k⟩
    · obtain ⟨dx, fl, b, c, dd, e0, e1, e2, e3, h1, h2, h3⟩ := R.ex
      obtain ⟨dx', fl', b', c', dd', e0', e1', e2', e3', h1', h2', h3'⟩ := R2.ex
      have pf : ∀ fs : List Fg, (PyData.list (fs.map Datum.toD)).plain = true := fun fs => Datum.plain (α := List Fg) fs
      have pc : ∀ cs : List Ch, (PyData.list (cs.map Datum.toD)).plain = true := fun cs => Datum.plain (α := List Ch) cs
      refine ⟨_, rfl, .ref q, .ref C, .ref C, .ref C, true, rfl, .own _, .base (.ins e0' TR.c TR.ha TR.hn TR.ht TR.hm), TR.kit, true, rfl, iteT ?_⟩
      refine ⟨_, rfl, r, C, dx, fl, _, rfl, e0, TR.c, TR.n1, e1, _, rfl, q, C, dx', fl', _, rfl, e0', TR.c, TR.n1, e1', _, _, dp_plain h1 (pf _), dp_plain h1' (pf _), shp_Fs _, shp_Fs _, _, rfl, ?_⟩
      rw [eqv_Fs]
      cases e : decide (sortT fs = sortT gs) with
      | false =>
        rw [e] at k
        exact iteF k
      | true =>
        rw [e] at k
        refine iteT ⟨_, rfl, r, C, dx, fl, _, rfl, e0, TR.c, TR.n2, e2, _, rfl, q, C, dx', fl', _, rfl, e0', TR.c, TR.n2, e2', _, _, dp_plain h2 (pc _), dp_plain h2' (pc _), shp_Cs _, shp_Cs _, ?_⟩
        rw [eqv_Cs]
        exact k
    · exact ⟨_, rfl, o, .ref C, t, .ref C, false, rfl, .own _, ht, kt, false, rfl, iteF k⟩
end
end Own
/-! A road drawn. -/
namespace Own
open PySem PySem.Spec PyProof.Rows L2 PySem.W
abbrev sDrn : Stmt := top1 31
def spDrn (K : PySem.W.Frag) : Sp := fun vs H Q _ => ∃ (p a : Addr) (ns : List Int) (i n : Int), vs = [.ref p] ∧ Pen H p a ns i n ∧ i ≤ 10000000 ∧
  ∀ (H' : Hp) (q : Addr) (fs : List Fg) (cs : List Ch) (i' n' : Int), Pen H' p a ns i' n' → i' ≤ i + 300 → KB p H H' → PairR K (wod p H') (.ref q) fs cs → WfR fs cs → fs.length ≤ 4 → cs.length ≤ 12 → Q (.ref q) H'
theorem cut_one (x : V) (t : List V) : cutV (x :: t) none (some 1) = [x] := by
  unfold cutV HT.sIx
  simp
theorem tupk_wods {H : Hp} {p q : Addr} {xs : List V} (e : H p = some (.lst xs)) : TupK (wod q H) (wod p H) := fun b ys h => by
  have h' : Rd H b (.tup ys) := by
    rcases h with h | ⟨o, h⟩
    · exact .inl (wod_same _ _ h)
    · exact .inr ⟨o, wod_same _ _ h⟩
  have nb : b ≠ p := by
    rintro rfl
    rcases h' with h | ⟨o, h⟩
    · rw [e] at h; cases h
    · rw [e] at h; cases h
  rcases h' with h | ⟨o, h⟩
  · exact .inl (by rw [wod_ne nb]; exact h)
  · exact .inr ⟨o, by rw [wod_ne nb]; exact h⟩
mutual
theorem dv_key {K : PySem.W.Frag} {H H' : Hp} (t : TupK H H') : ∀ (k : NestedKey) (v : V), Dv K H v k.data → Dv K H' v k.data
  | .none, _, h => by cases h; exact .non
  | .num i, _, h => by cases h; exact .int i
  | .text x, _, h => by cases h; exact .str x
  | .tup ks, _, h => by
    cases h with
    | tup s r => exact .tup (t.sq s) (dvs_keys t ks _ r)
theorem dvs_keys {K : PySem.W.Frag} {H H' : Hp} (t : TupK H H') : ∀ (ks : List NestedKey) (vs : List V), DvAll K H vs (NestedKey.datas ks) → DvAll K H' vs (NestedKey.datas ks)
  | [], _, h => by cases h; exact .nil
  | k :: ks, _, h => by
    cases h with
    | cons h1 h2 => exact .cons (dv_key t k _ h1) (dvs_keys t ks _ h2)
end
theorem dvs_key {α : Type} [DecidableEq α] [DatumOrd α] [AsKey α] {K : PySem.W.Frag} {H H' : Hp} {vs : List V} {as : List α} (h : DvAll K H vs (as.map Datum.toD)) (t : TupK H H') : DvAll K H' vs (as.map Datum.toD) := by
  have e : as.map Datum.toD = NestedKey.datas (as.map AsKey.toK) := by
    induction as generalizing vs with
    | nil => rfl
    | cons a as ih =>
      cases h with
      | cons h1 h2 => rw [List.map_cons, List.map_cons, NestedKey.datas, ih h2, AsKey.data]
  rw [e] at h ⊢
  exact dvs_keys t _ _ h
section
variable {P : Program} {w : World} {K : PySem.W.Frag} {mg : Str → Option Value} {base : Heap}
abbrev CalSom (α : Type) [DecidableEq α] [DatumOrd α] (P : Program) (w : World) (K : PySem.W.Frag) (mg : Str → Option Value) (base : Heap) : Prop := Cal P w K mg base CX0 3 "_law_some" ["pen", "pool", "most"] (spSom α K)
abbrev CalFgs (P : Program) (w : World) (K : PySem.W.Frag) (mg : Str → Option Value) (base : Heap) : Prop := Cal P w K mg base CX0 1 "_law_figures" [] spFgs
abbrev CalAll (P : Program) (w : World) (K : PySem.W.Frag) (mg : Str → Option Value) (base : Heap) : Prop := Cal P w K mg base CX0 1 "_law_all_changes" ["figures"] (spAll K)
theorem sc_drn : FnScope ["pen", "pool", "figures", "begin_here", "turn"] ["pen"] (defScope sDrn) := ⟨rfl, rfl, rfl, by decide +kernel, rfl, by decide +kernel, by decide +kernel⟩
theorem ok_drn {f : Addr} {fd : FuncData} (F : Fun K "_law_drawn" "_law_drawn" sDrn f fd) (T : Bi4 mg) (CD : CalDr P w K mg base) (CF : CalFgs P w K mg base) (CS : CalSom Fg P w K mg base) (CS2 : CalSom Ch P w K mg base) (CL : CalAll P w K mg base) : FnOk P w K mg base CX0 4 f fd ["pen"] (spDrn K) := by
  obtain ⟨fD, fdD, GD, gD, kD, bD⟩ := CD
  obtain ⟨fF, fdF, GF, gF, kF', bF⟩ := CF
  obtain ⟨fS, fdS, GS, gS, kS, bS⟩ := CS
  obtain ⟨fS2, fdS2, GS2, gS2, kS2, bS2⟩ := CS2
  obtain ⟨fL, fdL, GL, gL, kL, bL⟩ := CL
  refine F.ok sc_drn (fun vs H Q E h => ?_) (fun cdv A outer s H vs Q E hr h => ?_)
  · obtain ⟨p, a, ns, i, n, rfl, _⟩ := h
    rfl
  · obtain ⟨p, a, ns, i, n, rfl, L, hi9, k⟩ := h
    have hu := hr.units
    have hrS : Room 3 _ := hr
    have hrD : Room 2 _ := hr.mono (by decide)
    have hrF : Room 1 _ := hr.mono (by decide)
    refine ⟨_, (pss_cons (ps_set (i := 1) sc_drn.nd rfl (.inr rfl) (pe_call0 GF hrF (by rfl) gF kF' bF .nil pass0))
        (pss_cons (ps_setLc (te := tBM K "list" rPopAt (tVar 1) (tCons (tCall spDraw [] E0 (tCons (tVar 0) (tCons (tCB (fun xs H_1 Q => ∃ q ys, xs = [V.ref q] ∧ (SqL K H_1 q ys ∨ SqT K H_1 q ys) ∧ Q (V.int (ys.length : Nat)) H_1) (tCons (tVar 1) tNil)) tNil))) tNil)) (i := 2) (own := [("turn", 4)]) (g := gName 4) rfl sc_drn.nd rfl rfl (sw_true rfl rfl rfl (by decide +kernel)) (pi_range1 (by rfl) T.range (pa_cons (pe_op op_add (pe_int) (pe_call GD hrD (by rfl) gD kD bD .nil pass0 (pa_cons (pv 0) (pa_cons (pe_int) pa_nil)))) pa_nil)) (blkOk_by (N := ["pen", "pool", "figures", "begin_here", "turn"]) (sc := defScope sDrn) (by decide +kernel)) (fun _ _ _ _ _ => (pg_name (i := 4) sc_drn.nd rfl (.inl rfl))) (fun _ _ _ _ _ => pts_nil) (fun _ _ _ _ _ => (pe_bm PySem.F.plainAttrs_list PySem.F.slot_list_pop PySem.F.type_list_pop mt_popAt (pv 1) (pa_cons (pe_call GD hrD (by rfl) gD kD bD .nil pass0 (pa_cons (pv 0) (pa_cons (pe_callB call_len_seq (by rfl) T.len PySem.boot_len (pa_cons (pv 1) pa_nil)) pa_nil))) pa_nil))))
        (pss_cons (ps_set (i := 3) sc_drn.nd rfl (.inl rfl) (pe_call GS hrS (by rfl) gS kS bS .nil pass0 (pa_cons (pv 0) (pa_cons (pv 2) (pa_cons (pe_int) pa_nil)))))
        (pss_one (ps_ret (pe_tup (pa_cons (pe_ifExp (pt_cmpR (op_neD hu) (pv 3) (pe_lst pa_nil) (nomark _)) (pv 3) (pe_slice sl_list (pv 2) po_none (po_some (pe_int)))) (pa_cons (pe_call GS2 hrS (by rfl) gS2 kS2 bS2 .nil pass0 (pa_cons (pv 0) (pa_cons (pe_call GL hrF (by rfl) gL kL bL .nil pass0 (pa_cons (pv 2) pa_nil)) (pa_cons pe_int pa_nil)))) pa_nil)))))))), ?_⟩
    refine ⟨rfl, fun H0 r ys s0 hrH hr0 tp => ?_⟩
    have nrp : r ≠ p := (ne_of_none L.hp hrH).symm
    have L0 : Pen H0 p a ns i n := ⟨s0 _ _ L.hp, s0 _ _ L.ha, L.len, L.hi, L.hn⟩
    have dv0 : DvAll K (wod p H0) ys (figs.map Datum.toD) := by
      have z := tups_dv (K := K) (tp.keep (H' := wod p H0) fun b xs e => by rw [wod_ne (ne_of e L0.hp (fun z => nomatch z))]; exact e)
      exact z
    have ly := dv0.len
    rw [List.length_map, figs_len] at ly
    refine ⟨_, rfl, p, a, ns, i, n, 4, rfl, L0, by omega, by decide, by decide, fun d i1 n1 H1 d0 du L1 hi1 kb1 => ⟨_, _, rfl, rfl, _, rfl, by omega, by omega, fun D hD => ?_⟩⟩
    have hr2 : H1 r = some (.lst ys) := kb1 _ _ nrp hr0
    have nrD : r ≠ D := ne_of_none hr2 hD
    have hD0 : H0 D = none := by
      cases q : H0 D with
      | none => rfl
      | some o =>
        by_cases e : D = p
        · rw [e, L1.hp] at hD; cases hD
        · rw [kb1 _ _ e q] at hD; cases hD
    have nDp : D ≠ p := fun z => by rw [z, L0.hp] at hD0; cases hD0
    have nDa : D ≠ a := fun z => by rw [z, L0.ha] at hD0; cases hD0
    have nra : r ≠ a := (ne_of_none L.ha hrH).symm
    refine lc_range (lo := 0) (n := (1 + d).toNat) (fun j H' => ∃ (acc rest : List V) (bs rs : List Fg) (i' n' : Int), Pen H' p a ns i' n' ∧ i' ≤ i + 1 + j ∧ H' D = some (.lst acc) ∧ H' r = some (.lst rest) ∧ DvAll K (wod p H0) acc (bs.map Datum.toD) ∧ DvAll K (wod p H0) rest (rs.map Datum.toD) ∧ (bs ++ rs).Perm figs ∧ bs.length = j ∧ (∀ b o, b ≠ p → b ≠ r → H0 b = some o → H' b = some o))
      ⟨[], ys, [], figs, i1, n1, pen_fresh L1 hD, by omega, upd_same, by rw [upd_ne nrD]; exact hr2, .nil, dv0, .refl _, rfl, fun b o n1 _ e => by rw [upd_ne (ne_of_none e hD0)]; exact kb1 _ _ n1 e⟩ ?_ ?_
    · rintro j H2 hj ⟨acc, rest, bs, rs, i2, n2, L2, hi2, hD2, hr3, dv1, dv2, pm, lb, kb2⟩
      have lrest := dv2.len
      have lpm := pm.length_eq
      rw [List.length_map] at lrest
      rw [List.length_append, figs_len] at lpm
      refine ⟨rfl, _, rfl, .inl ⟨rfl, rest, SqL.of hr3⟩, _, rfl, _, rfl, r, rest, rfl, .inl (SqL.of hr3), p, a, ns, i2, n2, _, rfl, L2, by omega, by omega, by omega, fun e i3 n3 H3 e0 eu L3 hi3 kb3 => ?_⟩
      have hr4 : H3 r = some (.lst rest) := kb3 _ _ nrp hr3
      have hD4 : H3 D = some (.lst acc) := kb3 _ _ nDp hD2
      have hk : e.toNat < rest.length := by omega
      obtain ⟨y, ey⟩ : ∃ y, rest[e.toNat]? = some y := ⟨_, List.getElem?_eq_getElem hk⟩
      obtain ⟨dy, edy, hdy⟩ := dv2.get ey
      rw [List.getElem?_map] at edy
      obtain ⟨g, eg, rfl⟩ := Option.map_eq_some_iff.mp edy
      have lacc := dv1.len
      rw [List.length_map] at lacc
      refine ⟨r, rest, e, e.toNat, y, rfl, rfl, hr4, by omega, by omega, seqIndex_of e0 eu, ey, acc, by rw [upd_ne nrD.symm]; exact hD4, ?_, acc ++ [y], rest.eraseIdx e.toNat, bs ++ [g], rs.eraseIdx e.toNat, i3, n3, ?_, by omega, upd_same, ?_, ?_, ?_, ?_, by rw [List.length_append, lb]; rfl, ?_⟩
      · exact Nat.lt_of_lt_of_le (show acc.length < 1000 by omega) (by decide : 1000 ≤ sizeLine)
      · exact pen_upd (pen_upd L3 nrp nra) nDp nDa
      · rw [upd_ne nrD, upd_same]
      · rw [List.map_append]; exact dv1.snoc hdy
      · rw [← map_erase]; exact dv2.erase _
      · refine List.Perm.trans ?_ pm
        rw [List.append_assoc]
        exact List.Perm.append_left bs (erase_perm eg)
      · intro x o nx nr ex
        rw [upd_ne (ne_of_none ex hD0), upd_ne nr]
        exact kb3 _ _ nx (kb2 _ _ nx nr ex)
    · rintro H2 ⟨acc, rest, bs, rs, i2, n2, L2, hi2, hD2, hr3, dv1, dv2, pm, lb, kb2⟩
      have lpm := pm.length_eq
      rw [List.length_append, figs_len] at lpm
      have tk2 : TupK (wod p H0) (wod p H2) := fun b xs h => by
        have nb : b ≠ p := by
          rintro rfl
          rcases h with h | ⟨o, h⟩
          · unfold wod at h; rw [if_pos rfl] at h; cases h
          · unfold wod at h; rw [if_pos rfl] at h; cases h
        have nr : b ≠ r := by
          rintro rfl
          rcases h with h | ⟨o, h⟩
          · rw [wod_ne nb, hr0] at h; cases h
          · rw [wod_ne nb, hr0] at h; cases h
        rcases h with h | ⟨o, h⟩
        · rw [wod_ne nb] at h
          exact .inl (by rw [wod_ne nb]; exact kb2 _ _ nb nr h)
        · rw [wod_ne nb] at h
          exact .inr ⟨o, by rw [wod_ne nb]; exact kb2 _ _ nb nr h⟩
      have dv2' : DvAll K (wod p H2) acc (bs.map Datum.toD) := dvs_key dv1 tk2
      have nbs : bs.Nodup := (List.nodup_append.mp ((pm.nodup_iff).mpr figs_nodup)).1
      have okb : ∀ f ∈ bs, fOk f := fun f hf => figs_ok f (pm.mem_iff.mp (List.mem_append_left _ hf))
      have lacc := dv1.len
      rw [List.length_map] at lacc
      have kbH2 : KB p H H2 := fun b o nb e => kb2 b o nb (ne_of_none e hrH) (s0 _ _ e)
      refine ⟨_, rfl, _, rfl, p, a, D, ns, i2, n2, 4, acc, bs, rfl, L2, by omega, SqL.of hD2, dv2', by decide, by decide, by omega, fun H3 q1 z1 b1 r1 i3 n3 L3 hi3 kb3 hq1 hz1 dz1 pm1 lb1 => ?_⟩
      have hD3 : H3 D = some (.lst acc) := kb3 _ _ nDp hD2
      have nqp : q1 ≠ p := (ne_of_none L2.hp hq1).symm
      have dz3 : DvAll K (wod p H3) z1 (b1.map Datum.toD) := dz1.same kb3.wo
      have dacc3 : DvAll K (wod p H3) acc (bs.map Datum.toD) := dv2'.same kb3.wo
      have sub1 : ∀ f ∈ b1, f ∈ bs := fun f hf => pm1.mem_iff.mp (List.mem_append_left _ hf)
      have nb1 : b1.Nodup := (List.nodup_append.mp (pm1.nodup_iff.mpr nbs)).1
      refine ⟨_, rfl, Nat.zero_le _, fun e he => ?_⟩
      have sG : Same H3 (upd H3 e (.lst [])) := sameN he
      have LG : Pen (upd H3 e (.lst [])) p a ns i3 n3 := pen_fresh L3 he
      have hDG : (upd H3 e (.lst [])) D = some (.lst acc) := sG _ _ hD3
      have dG := dacc3.same (wod_mono (d := p) sG)
      -- what is left, from whichever list the road begins with
      have fin : ∀ (G : Hp) (qb : Addr) (zb : List V) (fb : List Fg), KB p (upd H3 e (.lst [])) G → Pen G p a ns i3 n3 → G qb = some (.lst zb) → qb ≠ p → DvAll K (wod p G) zb (fb.map Datum.toD) → fb ≠ [] → fb.Nodup → (∀ f ∈ fb, fOk f) → fb.length ≤ 4 → KB p H G →
          ∀ (H' : Hp) (q : Addr) (z2 : List V) (b2 : List Ch) (r2 : List Ch) (i' n' : Int), Pen H' p a ns i' n' → i' ≤ i3 + 1 + (allCh bs).length → KB p G H' → H' q = some (.lst z2) → q ≠ p → DvAll K (wod p H') z2 (b2.map Datum.toD) → (b2 ++ r2).Perm (allCh bs) → b2.length ≤ 12 →
          ∀ t, H' t = none → Q (.ref t) (upd H' t (.tup [.ref qb, .ref q])) := by
        intro G qb zb fb kbG LG2 hqb nqb dzb ne nb okf lf kbHG H' q z2 b2 r2 i' n' L' hi' kb' hq nq dz2 pm2 lb2 t ht
        have nodC : b2.Nodup := (List.nodup_append.mp (pm2.nodup_iff.mpr (allCh_nodup nbs))).1
        have okC : ∀ c ∈ b2, cOk c := fun c hc => allCh_ok okb c (pm2.mem_iff.mp (List.mem_append_left _ hc))
        have ntp : t ≠ p := fun z => by rw [z, L'.hp] at ht; cases ht
        have s9 := wod_mono (d := p) (sameN (o := .tup [.ref qb, .ref q]) ht)
        have l36 := flat_len bs bs fun x hx => hx
        have lbs : bs.length ≤ 4 := by omega
        have m2 : bs.length * bs.length ≤ 4 * 4 := Nat.mul_le_mul lbs lbs
        have lall : (allCh bs).length ≤ 16 := by unfold allCh; omega
        have hqb' : H' qb = some (.lst zb) := kb' _ _ nqb hqb
        have hpair : PairR K (wod p (upd H' t (.tup [.ref qb, .ref q]))) (.ref t) fb b2 := by
          refine .tup (SqT.of (by rw [wod_ne ntp, upd_same])) (.cons (.lst (SqL.of ?_) ((dzb.same kb'.wo).same s9)) (.cons (.lst (SqL.of ?_) (dz2.same s9)) .nil))
          · rw [wod_ne nqb, upd_ne (ne_of_none hqb' ht)]; exact hqb'
          · rw [wod_ne nq, upd_ne (ne_of_none hq ht)]; exact hq
        refine k _ t fb b2 i' n' (pen_fresh L' ht) (by omega) ((kbHG.trans kb').trans (KB.same (sameN ht))) hpair ⟨⟨rfl, okf, ne, nb⟩, ⟨rfl, okC, nodC⟩, by omega⟩ lf lb2
      have lbs4 : bs.length ≤ 4 := by omega
      have pFs : ∀ fs : List Fg, (PyData.list (fs.map Datum.toD)).plain = true := fun fs => Datum.plain (α := List Fg) fs
      refine ⟨.list (b1.map Datum.toD), .list ([].map Datum.toD), dp_plain (.lst (SqL.of (sG _ _ hz1)) ((dz3.same (wod_mono (d := p) sG)).same wod_same)) (pFs b1), dp_plain (.lst (SqL.of upd_same) .nil) (pFs []), shp_Fs b1, shp_Fs [], _, rfl, ?_⟩
      rw [eqv_Fs]
      have kbHG : KB p H (upd H3 e (.lst [])) := (kbH2.trans kb3).trans (KB.same sG)
      by_cases hb1 : b1 = []
      · refine iteNb (by simp [hb1]) ⟨_, rfl, _, rfl, D, acc, rfl, SqL.of hDG, fun qn hqn => ?_⟩
        have s6 : Same (upd H3 e (.lst [])) (upd (upd H3 e (.lst [])) qn (.lst (cutV acc none (some 1)))) := sameN hqn
        have hDX := s6 _ _ hDG
        have dX := dG.same (wod_mono (d := p) s6)
        have LX := pen_fresh (o := .lst (cutV acc none (some 1))) LG hqn
        have kbX := kbHG.trans (KB.same s6)
        have nqn : qn ≠ p := (ne_of_none LG.hp hqn).symm
        obtain ⟨f0, t0, ef⟩ : ∃ f0 t0, bs = f0 :: t0 := by
          cases bs with
          | nil => simp at lb; omega
          | cons f0 t0 => exact ⟨f0, t0, rfl⟩
        have ecut : ∃ x, cutV acc none (some 1) = [x] ∧ Dv K (wod p (upd (upd H3 e (.lst [])) qn (.lst (cutV acc none (some 1))))) x (Datum.toD f0) := by
          rw [ef] at dX
          cases acc with
          | nil => cases dX
          | cons x t =>
            cases dX with
            | cons h1 _ => exact ⟨x, cut_one x t, h1⟩
        obtain ⟨x0, ecut, dx0⟩ := ecut
        refine ⟨_, rfl, _, rfl, .ref D, bs, rfl, .lst (SqL.of hDX) (dX.same wod_same), by omega, fun H5 q2 zs2 s5 hq2 hz2 dz2 => ?_⟩
        have L5 : Pen H5 p a ns i3 n3 := ⟨s5 _ _ LX.hp, s5 _ _ LX.ha, LX.len, LX.hi, LX.hn⟩
        have l36 := flat_len bs bs fun x hx => hx
        have m2 : bs.length * bs.length ≤ 4 * 4 := Nat.mul_le_mul lbs4 lbs4
        have lall : (allCh bs).length ≤ 16 := by unfold allCh; omega
        have dz5 : DvAll K (wod p H5) zs2 ((allCh bs).map Datum.toD) := dvs_key dz2 (tupk_wods L5.hp)
        refine ⟨p, a, q2, ns, i3, n3, 12, zs2, allCh bs, rfl, L5, by omega, SqL.of hz2, dz5, by decide, by decide, by omega, fun H6 q3 z3 b3 r3 i6 n6 L6 hi6 kb6 hq3 hz3 dz6 pm3 lb3 => ⟨by show 2 ≤ sizeLine; decide, fun t ht => ?_⟩⟩
        have nq3 : q3 ≠ p := (ne_of_none L5.hp hq3).symm
        exact fin _ qn _ [f0] (KB.same s6) LX upd_same nqn (by rw [ecut] at dx0 ⊢; exact .cons dx0 .nil) (by simp) (by simp) (fun f hf => by rw [List.mem_singleton.mp hf]; exact okb f0 (by rw [ef]; exact List.mem_cons_self)) (by simp) kbX H6 q3 z3 b3 r3 i6 n6 L6 hi6 ((KB.same s5).trans kb6) hz3 nq3 (dz6.same kb6.wo) pm3 (by omega) t ht
      · refine iteYb (by simp [hb1]) ⟨_, rfl, ?_⟩
        have hDX := hDG
        have dX := dG
        have LX := LG
        have kbX := kbHG
        refine ⟨_, rfl, _, rfl, .ref D, bs, rfl, .lst (SqL.of hDX) (dX.same wod_same), by omega, fun H5 q2 zs2 s5 hq2 hz2 dz2 => ?_⟩
        have L5 : Pen H5 p a ns i3 n3 := ⟨s5 _ _ LX.hp, s5 _ _ LX.ha, LX.len, LX.hi, LX.hn⟩
        have l36 := flat_len bs bs fun x hx => hx
        have m2 : bs.length * bs.length ≤ 4 * 4 := Nat.mul_le_mul lbs4 lbs4
        have lall : (allCh bs).length ≤ 16 := by unfold allCh; omega
        have dz5 : DvAll K (wod p H5) zs2 ((allCh bs).map Datum.toD) := dvs_key dz2 (tupk_wods L5.hp)
        refine ⟨p, a, q2, ns, i3, n3, 12, zs2, allCh bs, rfl, L5, by omega, SqL.of hz2, dz5, by decide, by decide, by omega, fun H6 q3 z3 b3 r3 i6 n6 L6 hi6 kb6 hq3 hz3 dz6 pm3 lb3 => ⟨by show 2 ≤ sizeLine; decide, fun t ht => ?_⟩⟩
        have nq3 : q3 ≠ p := (ne_of_none L5.hp hq3).symm
        exact fin _ q1 z1 b1 (fun _ _ _ e => e) LX (sG _ _ hz1) nqp (dz3.same (wod_mono (d := p) sG)) hb1 nb1 (fun f hf => okb f (sub1 f hf)) (by omega) kbX H6 q3 z3 b3 r3 i6 n6 L6 hi6 ((KB.same s5).trans kb6) hz3 nq3 (dz6.same kb6.wo) pm3 (by omega) t ht
end
end Own
/-! Two pairs of ints that are shown alike are the same. -/
namespace Own
open PySem PySem.Spec PyProof.Rows
theorem cps_inj : ∀ {a b : List Char}, a.map Char.toNat = b.map Char.toNat → a = b
  | [], [], _ => rfl
  | [], _ :: _, h => by cases h
  | _ :: _, [], h => by cases h
  | x :: a, y :: b, h => by
    rw [List.map_cons, List.map_cons] at h
    injection h with h1 h2
    rw [cps_inj h2, Char.toNat_inj.mp h1]
theorem text_inj {a b : String} (h : (Str.ofString a).cps.toList = (Str.ofString b).cps.toList) : a = b := by
  rw [Str.ofString_eq_toList, Str.ofString_eq_toList] at h
  exact String.toList_inj.mp (cps_inj (by simpa using h))
theorem num_inj {i j : Int} (h : (Str.ofString (toString i)).cps.toList = (Str.ofString (toString j)).cps.toList) : i = j := Int.repr_injective (text_inj h)
theorem split_at {c : Nat} : ∀ {a b x y : List Nat}, c ∉ a → c ∉ b → a ++ c :: x = b ++ c :: y → a = b ∧ x = y
  | [], [], _, _, _, _, h => by
    injection h with _ h2
    exact ⟨rfl, h2⟩
  | [], v :: _, _, _, _, hb, h => by
    injection h with h1 _
    exact absurd (by rw [h1]; exact List.mem_cons_self) hb
  | u :: _, [], _, _, ha, _, h => by
    injection h with h1 _
    exact absurd (by rw [← h1]; exact List.mem_cons_self) ha
  | u :: a, v :: b, _, _, ha, hb, h => by
    injection h with h1 h2
    obtain ⟨e1, e2⟩ := split_at (fun z => ha (List.mem_cons_of_mem _ z)) (fun z => hb (List.mem_cons_of_mem _ z)) h2
    exact ⟨by rw [h1, e1], e2⟩
theorem pair_cps (t k : Int) : (PyData.tuple [.int t, .int k]).shown.cps.toList = 40 :: ((Str.ofString (toString t)).cps.toList ++ 44 :: 32 :: ((Str.ofString (toString k)).cps.toList ++ [41])) := by
  have app : ∀ a b : Str, (a ++ b).cps.toList = a.cps.toList ++ b.cps.toList := fun a b => Array.toList_append
  rw [PyData.shown_tuple]
  simp only [PyData.shownAll_cons, PyData.shownAll_nil, PyData.shown_int]
  show ((("(" : Str) ++ (Str.ofString (toString t) ++ ", " ++ Str.ofString (toString k))) ++ Str.ofString ")").cps.toList = _
  rw [app, app, app, app]
  have e1 : (Str.ofString "(").cps.toList = [40] := by decide +kernel
  have e2 : (Str.ofString ", ").cps.toList = [44, 32] := by decide +kernel
  have e3 : (Str.ofString ")").cps.toList = [41] := by decide +kernel
  rw [e1, e2, e3]
  simp
theorem pair_inj {t k t' k' : Int} (h : (PyData.tuple [.int t, .int k]).shown = (PyData.tuple [.int t', .int k']).shown) : t = t' ∧ k = k' := by
  have z := congrArg (fun x : Str => x.cps.toList) h
  simp only [pair_cps] at z
  injection z with _ z
  obtain ⟨e1, e2⟩ := split_at (fun q => (intText_free_44 t).mp q) (fun q => (intText_free_44 t').mp q) z
  injection e2 with _ e2
  exact ⟨num_inj e1, num_inj (List.append_cancel_right e2)⟩
end Own
/-! The law's question whether an object is a shape: by its text. -/
namespace Own
open PySem PySem.Spec PyProof.Rows L2 PySem.W
abbrev sIsF : Stmt := top1 26
/-- what one def does that may show data, where it stands -/
def CalG (P : Program) (w : World) (K : PySem.W.Frag) (mg : Str → Option Value) (base : Heap) (CX : CXT) (k : Nat) (x : Str) (ps : List Str) (sp : Sp) : Prop :=
  ∃ (f : Addr) (fd : FuncData), GFn P w K mg base CX k f fd ps sp ∧ mg x = some (.ref f) ∧ PySem.W.keepIn K (.ref f) = true ∧ Binds K fd ps []
def OkR (d : PyData) : Prop := okD d = true ∧ d.shown.length ≤ sizeLine ∧ d.depth ≤ 40
def showV (d : PyData) : V := .str d.shown
/-- data that is shown as a shape only if it is that shape -/
def FigD (d : PyData) : Prop := ∀ f ∈ figs, d.shown = (dF f).shown → d = dF f
theorem figs_all {f : Fg} (h : fOk f) : f ∈ figs := by
  have key : ∀ a : Fin 6, (⟨[(a.val : Int)]⟩ : Fg) ∈ figs := by decide +kernel
  have key2 : ∀ a b : Fin 6, a ≠ b → (⟨[(a.val : Int), (b.val : Int)]⟩ : Fg) ∈ figs := by decide +kernel
  obtain ⟨is⟩ := f
  match is, h with
  | [], h => cases h
  | [a], h =>
    have h' : isFig (.tuple [.int a]) = true := h
    rw [fig_one] at h'
    obtain ⟨i, e, h0, h5⟩ := numIn_some h'
    injection e with e
    subst e
    have z := key ⟨a.toNat, by omega⟩
    have e2 : ((a.toNat : Nat) : Int) = a := Int.toNat_of_nonneg h0
    simp only [e2] at z
    exact z
  | [a, b], h =>
    have h' : isFig (.tuple [.int a, .int b]) = true := h
    rw [fig_two, Bool.and_eq_true, Bool.and_eq_true, decide_eq_true_iff] at h'
    obtain ⟨i, e, h0, h5⟩ := numIn_some h'.1.1
    injection e with e
    subst e
    obtain ⟨j, e, g0, g5⟩ := numIn_some h'.1.2
    injection e with e
    subst e
    have ne : a ≠ b := h'.2
    have z := key2 ⟨a.toNat, by omega⟩ ⟨b.toNat, by omega⟩ (fun e => ne (by
      have z := congrArg Fin.val e
      have z' : a.toNat = b.toNat := z
      omega))
    have e1 : ((a.toNat : Nat) : Int) = a := Int.toNat_of_nonneg h0
    have e2 : ((b.toNat : Nat) : Int) = b := Int.toNat_of_nonneg g0
    simp only [e1, e2] at z
    exact z
  | a :: b :: c :: r, h => cases h
theorem figs_shown : ∀ f ∈ figs, okD (dF f) = true ∧ (dF f).shown.length ≤ 10 ∧ (dF f).depth ≤ 40 := by
  have h : figs.all (fun f => okD (dF f) && decide ((dF f).shown.length ≤ 10) && decide ((dF f).depth ≤ 40)) = true := by decide +kernel
  intro f hf
  have z := List.all_eq_true.mp h f hf
  rw [Bool.and_eq_true, Bool.and_eq_true, decide_eq_true_iff, decide_eq_true_iff] at z
  exact ⟨z.1.1, z.1.2, z.2⟩
theorem fig_in {d : PyData} (h : FigD d) : inV (.str d.shown) (figs.map fun f => showV (dF f)) = isFig d := by
  cases q : isFig d with
  | true =>
    obtain ⟨f, rfl, ok⟩ := fig_ex q
    refine List.any_eq_true.mpr ⟨showV (dF f), List.mem_map.mpr ⟨f, figs_all ok, rfl⟩, ?_⟩
    show ((dF f).shown == (dF f).shown) = true
    exact beq_self_eq_true _
  | false =>
    refine Bool.eq_false_iff.mpr fun z => ?_
    obtain ⟨x, hx, e⟩ := List.any_eq_true.mp z
    obtain ⟨f, hf, rfl⟩ := List.mem_map.mp hx
    have e' : ((dF f).shown == d.shown) = true := e
    have ed := h f hf (beq_iff_eq.mp e').symm
    have ok : isFig (dF f) = true := figs_ok f hf
    rw [← ed, q] at ok
    cases ok
def spIsF (K : PySem.W.Frag) : Sp := fun vs H Q _ => ∃ (v : V) (d : PyData), vs = [v] ∧ Dv K H v d ∧ OkR d ∧ FigD d ∧ ∀ H', Same H H' → Q (.bl (isFig d)) H'
section
variable {P : Program} {w : World} {K : PySem.W.Frag} {mg : Str → Option Value} {base : Heap}
theorem sc_isf : FnScope ["thing", "one"] ["thing"] (defScope sIsF) := ⟨rfl, rfl, rfl, by decide +kernel, rfl, by decide +kernel, by decide +kernel⟩
theorem ok_isf {f : Addr} {fd : FuncData} (F : Fun K "_law_is_figure" "_law_is_figure" sIsF f fd) (T : Bi4 mg) (CF : CalFgs P w K mg base) : GFn P w K mg base CX0 2 f fd ["thing"] (spIsF K) := by
  obtain ⟨fF, fdF, GF, gF, kF', bF⟩ := CF
  refine Fun.gok F sc_isf (fun vs H Q E h => ?_) (fun cdv A outer s H vs Q E hg hr h => ?_)
  · obtain ⟨v, d, rfl, _⟩ := h
    rfl
  · obtain ⟨v, d, rfl, hd, ok, fd, k⟩ := h
    have hu2 := hr.units
    have hrF : Room 1 _ := hr
    have hg2 : (A.deeper (envOfC "_law_is_figure" (defScope sIsF) s.heap.objs.size f cdv)).guards = some [] := hg
    refine ⟨_, (pss_one (ps_ret (pe_cmpR op_in_seq (pe_callB (call_repr hg2 hu2) (by rfl) T.repr (by decide +kernel) (pa_cons (pv 0) pa_nil)) (pe_lc (own := [("one", 1)]) (g := gName 1) rfl sc_isf.nd (pi_list (pe_call0 GF hrF (by rfl) gF kF' bF .nil pass0)) (blkOk_by (N := ["thing", "one"]) (sc := defScope sIsF) (by decide +kernel)) (fun _ _ _ _ _ => (pg_name (i := 1) sc_isf.nd rfl (.inl rfl))) (fun _ _ _ _ _ => pts_nil) (fun _ _ _ _ _ => (pe_callB (id := "repr") (show CallR _ (.builtin "repr") (rRepr K) from by refine call_repr ?_ ?_ <;> first | exact hg2 | exact hu2) (by rfl) T.repr (by decide +kernel) (pa_cons (pv 1) pa_nil)))) (by rfl)))), ?_⟩
    refine ⟨_, rfl, v, d, rfl, hd, ok.1, ok.2.1, ok.2.2, rfl, fun H1 r ys s1 hrH hr1 tp => ⟨r, rfl, ⟨ys, SqL.of hr1⟩, fun D hD => ?_⟩⟩
    have dv0 := tups_dv (K := K) tp
    have ly := dv0.len
    rw [List.length_map] at ly
    have l36 : ((figsTo 6).map Tup.mk).length = 36 := figs_len
    rw [l36] at ly
    refine lc_list (xs := ys) (fun i H' => H' D = some (.lst ((figs.take i).map fun f => showV (dF f))) ∧ Same H1 H') ⟨upd_same, sameN hD⟩ (fun i H' _ ⟨_, s2⟩ => s2.seq (SqL.of hr1)) (fun i x H' hi ⟨h1, s2⟩ => ?_) (fun H2 ⟨h1, s2⟩ => ?_)
    · obtain ⟨di, ei, hdi⟩ := dv0.get hi
      rw [List.getElem?_map] at ei
      obtain ⟨g, eg, rfl⟩ := Option.map_eq_some_iff.mp ei
      have eg' : figs[i]? = some g := eg
      have og := figs_shown g (List.mem_of_getElem? eg')
      refine ⟨rfl, _, rfl, x, dF g, rfl, hdi.same s2, og.1, Nat.le_trans og.2.1 (by decide), og.2.2, _, h1, ?_, ?_, ?_⟩
      · rw [List.length_map, List.length_take]
        have z := Nat.min_le_right i figs.length
        rw [figs_len] at z
        exact Nat.lt_of_lt_of_le (show min i figs.length < 100 by rw [figs_len]; omega) (by decide : 100 ≤ sizeLine)
      · rw [upd_same, take_one eg', List.map_append]
        rfl
      · intro b o e
        rw [upd_ne (ne_of_none e hD)]
        exact s2 _ _ e
    · rw [ly, show figs.take 36 = figs from List.take_of_length_le (Nat.le_of_eq figs_len)] at h1
      have fl : (figs.map fun f => showV (dF f)).all flatV = true := by
        rw [List.all_eq_true]
        intro w hw
        obtain ⟨d, _, rfl⟩ := List.mem_map.mp hw
        rfl
      refine ⟨D, _, rfl, .inl (SqL.of h1), rfl, fl, ?_⟩
      rw [fig_in fd]
      exact k H2 (s1.trans s2)
end
end Own
/-! The law's questions whether an object is a change, a list of different changes. -/
namespace Own
open PySem PySem.Spec PyProof.Rows L2 PySem.W
abbrev sLic : Stmt := top1 28
abbrev sLac : Stmt := top1 29
/-- its parts are shown as shapes only if they are these -/
def PartsOk (d : PyData) : Prop := ∀ ds, d = .tuple ds → ∀ e ∈ ds, OkR e ∧ FigD e
def lenT : PyData → Nat
  | .tuple ds => ds.length
  | _ => 0
theorem len_two {α : Type} {ds : List α} (h : ds.length = 2) : ∃ d e, ds = [d, e] := by
  cases ds with
  | nil => cases h
  | cons d ds =>
    cases ds with
    | nil => cases h
    | cons e ds =>
      cases ds with
      | nil => exact ⟨d, e, rfl⟩
      | cons g ds => simp at h
theorem dvs_two {K : PySem.W.Frag} {H : Hp} {xs : List V} {d e : PyData} (h : DvAll K H xs [d, e]) : ∃ x y, xs = [x, y] ∧ Dv K H x d ∧ Dv K H y e := by
  cases h with
  | cons h1 hr =>
    cases hr with
    | cons h2 hr2 =>
      cases hr2 with
      | nil => exact ⟨_, _, rfl, h1, h2⟩
def spLic (K : PySem.W.Frag) : Sp := fun vs H Q _ => ∃ (v : V) (d : PyData), vs = [v] ∧ Dv K H v d ∧ PartsOk d ∧ lenT d < 300 ∧ ∀ H', Same H H' → Q (.bl (isCh d)) H'
section
variable {P : Program} {w : World} {K : PySem.W.Frag} {mg : Str → Option Value} {base : Heap}
abbrev CalIsF (P : Program) (w : World) (K : PySem.W.Frag) (mg : Str → Option Value) (base : Heap) : Prop := CalG P w K mg base CX0 2 "_law_is_figure" ["thing"] (spIsF K)
theorem sc_lic : FnScope ["thing", "one"] ["thing"] (defScope sLic) := ⟨rfl, rfl, rfl, by decide +kernel, rfl, by decide +kernel, by decide +kernel⟩
theorem ok_lic {f : Addr} {fd : FuncData} (F : Fun K "_law_is_change" "_law_is_change" sLic f fd) (T : Bi4 mg) (CI : CalIsF P w K mg base) : GFn P w K mg base CX0 3 f fd ["thing"] (spLic K) := by
  obtain ⟨fI, fdI, GI, gI, kI, bI⟩ := CI
  refine Fun.gok F sc_lic (fun vs H Q E h => ?_) (fun cdv A outer s H vs Q E hg hr h => ?_)
  · obtain ⟨v, d, rfl, _⟩ := h
    rfl
  · obtain ⟨v, d, rfl, hd, hp, hl, k⟩ := h
    have hu := hr.units
    have hrI : Room 2 _ := hr
    have hg2 : (A.deeper (envOfC "_law_is_change" (defScope sLic) s.heap.objs.size f cdv)).guards = some [] := hg
    refine ⟨_, (pss_cons (ps_if (PW.pt (pw_or (pt_not (pt_val (pe_callB call_isi (by rfl) T.isinstance (by decide +kernel) (pa_cons (pv 0) (pa_cons (pe_bltn (v := .ty "tuple") (by rfl) T.tuple (by decide +kernel) rfl) pa_nil))))) (pw_or (pt_cmpR op_ne (pe_callB call_len_seq (by rfl) T.len PySem.boot_len (pa_cons (pv 0) pa_nil)) (pe_int) (nomark _)) (pw_or1 (pt_not (pt_val (pe_callB (cr_all rfl) (by rfl) T.all (by decide +kernel) (pa_cons (pe_lc (own := [("one", 1)]) (g := gName 1) rfl sc_lic.nd (pi_tup (pv 0)) (blkOk_by (N := ["thing", "one"]) (sc := defScope sLic) (by decide +kernel)) (fun _ _ _ _ _ => (pg_name (i := 1) sc_lic.nd rfl (.inl rfl))) (fun _ _ _ _ _ => pts_nil) (fun _ _ _ _ _ => (pe_callG GI hg2 hrI (by rfl) gI kI bI .nil pass0 (pa_cons (pv 1) pa_nil)))) pa_nil)))))))) (pss_one (ps_ret (pe_bl))) pss_nil)
        (pss_one (ps_ret (pe_cmpR (op_neD hu) (pe_ix ix_tup (pv 0) (pe_int) (fun _ _ => rfl)) (pe_ix ix_tup (pv 0) (pe_int) (fun _ _ => rfl)) (nomark _))))), ?_⟩
    refine ⟨_, rfl, v, .ty "tuple", .type (tyD d), .type "tuple", _, rfl, .ty _, hd.ty, kit_ty (kit_tuple d), _, rfl, ?_⟩
    cases ht : isT d with
    | false =>
      have z := k H (Same.refl _)
      rw [ch_not ht] at z
      exact z
    | true =>
      obtain ⟨ds, rfl⟩ := isT_some ht
      obtain ⟨a, xs, rfl, ha, hx⟩ := hd.tup_inv
      have hlen := hx.len
      refine ⟨_, rfl, a, xs, rfl, .inr ha, rfl, _, rfl, ?_⟩
      by_cases h2 : ds.length = 2
      · have n1 : (!decide (V.int (xs.length : Nat) = V.int 2)) = false := by
          rw [hlen, h2]
          rfl
        refine iteNb n1 ⟨_, rfl, a, rfl, ⟨xs, ha⟩, fun D hD => lc_tup (xs := xs) (fun i H' => H' D = some (.lst (bsT isFig ds i)) ∧ Same H H') ⟨upd_same, sameN hD⟩ (fun i H' _ ⟨_, s2⟩ => sqT_same s2 ha) (fun i x H' hi ⟨h1, s2⟩ => ?_) (fun H' ⟨h1, s2⟩ => ?_)⟩
        · obtain ⟨dx, ex, hdx⟩ := hx.get hi
          have okx := hp ds rfl dx (List.mem_of_getElem? ex)
          refine ⟨rfl, _, rfl, x, dx, rfl, hdx.same s2, okx.1, okx.2, fun H4 s4 => ⟨_, s4 _ _ h1, bsT_len hl, ?_, ?_⟩⟩
          · rw [upd_same, bsT_more ex]
          · intro b o e
            rw [upd_ne (ne_of_none e hD)]
            exact s4 _ _ (s2 _ _ e)
        · rw [hlen, bsT_all] at h1
          refine ⟨D, _, rfl, SqL.of h1, _, rfl, ?_⟩
          obtain ⟨d, e, rfl⟩ := len_two h2
          obtain ⟨x, y, rfl, hdx, hdy⟩ := dvs_two hx
          · have kk := k H' s2
            rw [ch_two] at kk
            cases q1 : isFig d with
            | false =>
              rw [q1] at kk
              exact iteYb (by rw [all_map, List.all_cons, q1]; rfl) kk
            | true =>
              cases q2 : isFig e with
              | false =>
                rw [q1, q2] at kk
                exact iteYb (by rw [all_map, List.all_cons, List.all_cons, q1, q2]; rfl) kk
              | true =>
                rw [q1, q2, Bool.true_and, Bool.true_and] at kk
                obtain ⟨g1, rfl, _⟩ := fig_ex q1
                obtain ⟨g2, rfl, _⟩ := fig_ex q2
                refine iteNb (by rw [all_map, List.all_cons, List.all_cons, List.all_nil, q1, q2]; rfl) ⟨_, rfl, a, _, 0, _, rfl, rfl, sqT_same s2 ha, atI_nat (j := 0) rfl, _, rfl, a, _, 1, _, rfl, rfl, sqT_same s2 ha, atI_nat (j := 1) rfl, dF g1, dF g2, dp_plain (hdx.same s2) (Datum.plain g1), dp_plain (hdy.same s2) (Datum.plain g2), shp_F g1, shp_F g2, ?_⟩
                exact kk
      · have kk := k H (Same.refl _)
        rw [ch_len h2] at kk
        refine iteYb ?_ kk
        rw [hlen]
        have z : ¬ V.int (ds.length : Nat) = V.int 2 := fun e => by
          injection e with e
          omega
        simpa using z
end
end Own
/-! The law's questions whether an object is a list of different shapes, of different changes. -/
namespace Own
open PySem PySem.Spec PyProof.Rows L2 PySem.W
abbrev sLaf : Stmt := top1 27
theorem uniq_len {α : Type} [DecidableEq α] : ∀ xs : List α, (uniq xs).length ≤ xs.length ∧ ((uniq xs).length = xs.length ↔ xs.Nodup)
  | [] => ⟨Nat.le_refl _, fun _ => List.nodup_nil, fun _ => rfl⟩
  | x :: xs => by
    obtain ⟨h1, h2⟩ := uniq_len xs
    unfold uniq
    rw [List.nodup_cons]
    split
    · rename_i h
      refine ⟨by rw [List.length_cons]; omega, fun e => ?_, fun ⟨n, _⟩ => absurd (uniq_mem.mp h) n⟩
      rw [List.length_cons] at e
      omega
    · rename_i h
      rw [List.length_cons, List.length_cons]
      refine ⟨by omega, fun e => ⟨fun z => h (uniq_mem.mpr z), h2.mp (by omega)⟩, fun ⟨_, n⟩ => by rw [h2.mpr n]⟩
theorem uniq_dec {α : Type} [DecidableEq α] [DatumOrd α] (xs : List α) (n : Nat) (h : n = xs.length) : decide (V.int ((sortT (uniq xs)).length : Nat) = V.int (n : Nat)) = decide xs.Nodup := by
  rw [sortT_len, h]
  obtain ⟨_, h2⟩ := uniq_len xs
  by_cases hn : xs.Nodup
  · rw [h2.mpr hn, decide_eq_true rfl, decide_eq_true hn]
  · rw [decide_eq_false hn, decide_eq_false]
    intro e
    injection e with e
    exact hn (h2.mp (by omega))
theorem eqv_nil : ∀ ds : List PyData, PyData.eqv (.list ds) (.list []) = ds.isEmpty
  | [] => by decide +kernel
  | d :: ds => by simp [PyData.eqv, PyData.eqvAll]
/-- a list's parts: plain, shown as shapes only if they are these -/
def PartsF (d : PyData) : Prop := ∀ ds, d = .list ds → d.plain = true ∧ SeqAt.shaped d = true ∧ ∀ e ∈ ds, OkR e ∧ FigD e
def PartsC (d : PyData) : Prop := ∀ ds, d = .list ds → ∀ e ∈ ds, PartsOk e ∧ lenT e < 300
def spLaf (K : PySem.W.Frag) : Sp := fun vs H Q _ => ∃ (v : V) (d : PyData), vs = [v] ∧ Dv K H v d ∧ PartsF d ∧ lenD d < 300 ∧ ∀ H', Same H H' → ((∀ fs, ¬ AreF d fs) → Q (.bl false) H') ∧ ∀ fs, AreF d fs → Q (.bl true) H'
def spLac (K : PySem.W.Frag) : Sp := fun vs H Q _ => ∃ (v : V) (d : PyData), vs = [v] ∧ Dv K H v d ∧ PartsC d ∧ lenD d < 300 ∧ ∀ H', Same H H' → ((∀ cs, ¬ AreC d cs) → Q (.bl false) H') ∧ ∀ cs, AreC d cs → Q (.bl true) H'
section
variable {P : Program} {w : World} {K : PySem.W.Frag} {mg : Str → Option Value} {base : Heap}
abbrev CalIsC' (P : Program) (w : World) (K : PySem.W.Frag) (mg : Str → Option Value) (base : Heap) : Prop := CalG P w K mg base CX0 3 "_law_is_change" ["thing"] (spLic K)
theorem sc_laf : FnScope ["thing", "one"] ["thing"] (defScope sLaf) := ⟨rfl, rfl, rfl, by decide +kernel, rfl, by decide +kernel, by decide +kernel⟩
theorem sc_lac : FnScope ["thing", "one"] ["thing"] (defScope sLac) := ⟨rfl, rfl, rfl, by decide +kernel, rfl, by decide +kernel, by decide +kernel⟩
theorem ok_laf {f : Addr} {fd : FuncData} (F : Fun K "_law_are_figures" "_law_are_figures" sLaf f fd) (T : Bi4 mg) (CI : CalIsF P w K mg base) : GFn P w K mg base CX0 3 f fd ["thing"] (spLaf K) := by
  obtain ⟨fI, fdI, GI, gI, kI, bI⟩ := CI
  refine Fun.gok F sc_laf (fun vs H Q E h => ?_) (fun cdv A outer s H vs Q E hg hr h => ?_)
  · obtain ⟨v, d, rfl, _⟩ := h
    rfl
  · obtain ⟨v, d, rfl, hd, hp, hl, k⟩ := h
    have hu := hr.units
    have hrI : Room 2 _ := hr
    have hg2 : (A.deeper (envOfC "_law_are_figures" (defScope sLaf) s.heap.objs.size f cdv)).guards = some [] := hg
    refine ⟨_, (pss_cons (ps_if (PW.pt (pw_or (pt_not (pt_val (pe_callB call_isi (by rfl) T.isinstance (by decide +kernel) (pa_cons (pv 0) (pa_cons (pe_bltn (v := .ty "list") (by rfl) T.list (by decide +kernel) rfl) pa_nil))))) (pw_or (pt_cmpR (op_eqD hu) (pv 0) (pe_lst pa_nil) (nomark _)) (pw_or1 (pt_not (pt_val (pe_callB (cr_all rfl) (by rfl) T.all (by decide +kernel) (pa_cons (pe_lc (own := [("one", 1)]) (g := gName 1) rfl sc_laf.nd (pi_list (pv 0)) (blkOk_by (N := ["thing", "one"]) (sc := defScope sLaf) (by decide +kernel)) (fun _ _ _ _ _ => (pg_name (i := 1) sc_laf.nd rfl (.inl rfl))) (fun _ _ _ _ _ => pts_nil) (fun _ _ _ _ _ => (pe_callG GI hg2 hrI (by rfl) gI kI bI .nil pass0 (pa_cons (pv 1) pa_nil)))) pa_nil)))))))) (pss_one (ps_ret (pe_bl))) pss_nil)
        (pss_one (ps_ret (pe_cmpR op_eq (pe_callB call_len_seq (by rfl) T.len PySem.boot_len (pa_cons (pe_callB (call_sortS rfl hu) (by rfl) T.sorted (by decide +kernel) (pa_cons (pe_callTy (call_setN rfl hu) (by rfl) T.set (by decide +kernel) (pa_cons (pv 0) pa_nil)) pa_nil)) pa_nil)) (pe_callB call_len_seq (by rfl) T.len PySem.boot_len (pa_cons (pv 0) pa_nil)) (nomark _))))), ?_⟩
    refine ⟨_, rfl, v, .ty "list", .type (tyD d), .type "list", _, rfl, .ty _, hd.ty, kit_ty (kit_list d), _, rfl, ?_⟩
    cases ht : isL d with
    | false => exact (k H (Same.refl _)).1 (aref_not ht)
    | true =>
      obtain ⟨ds, rfl⟩ := isL_some ht
      obtain ⟨pl, sh, hp⟩ := hp ds rfl
      obtain ⟨a, xs, rfl, ha, hx⟩ := hd.lst_inv
      have hlen := hx.len
      refine iteNb rfl ⟨_, rfl, by show 0 ≤ sizeLine; decide, fun p0 hp0 => ?_⟩
      have s0 : Same H (upd H p0 (.lst [])) := sameN hp0
      refine ⟨.list ds, .list [], dp_plain (hd.same s0) pl, .lst (SqL.of upd_same) .nil, sh, rfl, ?_⟩
      rw [eqv_nil]
      refine ⟨_, rfl, ?_⟩
      cases hn : ds.isEmpty with
      | true =>
        have e : ds = [] := List.isEmpty_iff.mp hn
        subst e
        refine iteYb rfl ((k _ s0).1 fun fs z => ?_)
        obtain ⟨e, _, n, _⟩ := z
        injection e with e
        exact n (List.map_eq_nil_iff.mp e.symm)
      | false =>
        have hne : ds ≠ [] := fun e => by rw [e] at hn; cases hn
        have ha0 := s0.seq ha
        refine iteNb rfl ⟨_, rfl, a, rfl, ⟨xs, ha0⟩, fun D hD => lc_list (xs := xs) (fun i H' => H' D = some (.lst (bsT isFig ds i)) ∧ Same (upd H p0 (.lst [])) H') ⟨upd_same, sameN hD⟩ (fun i H' _ ⟨_, s2⟩ => s2.seq ha0) (fun i x H' hi ⟨h1, s2⟩ => ?_) (fun H' ⟨h1, s2⟩ => ?_)⟩
        · obtain ⟨dx, ex, hdx⟩ := hx.get hi
          have okx := hp dx (List.mem_of_getElem? ex)
          refine ⟨rfl, _, rfl, x, dx, rfl, hdx.same (s0.trans s2), okx.1, okx.2, fun H4 s4 => ⟨_, s4 _ _ h1, bsT_len hl, ?_, ?_⟩⟩
          · rw [upd_same, bsT_more ex]
          · intro b o e
            rw [upd_ne (ne_of_none e hD)]
            exact s4 _ _ (s2 _ _ e)
        · rw [hlen, bsT_all] at h1
          have s3 := s0.trans s2
          refine ⟨D, _, rfl, SqL.of h1, _, rfl, ?_⟩
          cases q1 : ds.all isFig with
          | false =>
            refine iteYb (by rw [all_map, q1]; rfl) ((k H' s3).1 fun fs z => ?_)
            rw [aref_all z] at q1
            cases q1
          | true =>
            refine iteNb (by rw [all_map, q1]; rfl) ?_
            obtain ⟨fs, rfl, hfs⟩ := all_ex (α := Fg) (ok := fOk) fig_ex q1
            have lx : xs.length = fs.length := by rw [hlen, List.length_map]
            have l3 : fs.length < 300 := by
              have z : (fs.map Datum.toD).length < 300 := hl
              rwa [List.length_map] at z
            refine ⟨_, rfl, ?_⟩
            dsimp only [tCB, tCons, tNil, tVar]
            refine rsetsort (w := w) (H0 := H) (α := Fg) s3 (by decide) (full_F hfs) l3 (s3.seq ha) hx fun H5 T5 zs s5 hT5 hz => ?_
            have lz := hz.len
            rw [List.length_map] at lz
            have s6 : Same H (upd H5 T5 (.lst zs)) := (s3.trans s5).trans (sameN hT5)
            refine ⟨T5, zs, rfl, .inl (SqL.of upd_same), _, rfl, a, xs, rfl, .inl (s6.seq ha), rfl, ?_⟩
            have fin : decide (V.int (zs.length : Nat) = V.int (xs.length : Nat)) = decide fs.Nodup := by
              rw [lz]
              exact uniq_dec fs xs.length lx
            show Q (.bl (decide (V.int (zs.length : Nat) = V.int (xs.length : Nat)))) _
            rw [fin]
            have hfn : fs ≠ [] := fun e => hne (by rw [e]; rfl)
            by_cases nd : fs.Nodup
            · rw [decide_eq_true nd]
              exact (k _ s6).2 fs ⟨rfl, hfs, hfn, nd⟩
            · rw [decide_eq_false nd]
              refine (k _ s6).1 fun gs z => ?_
              obtain ⟨e, _, _, n⟩ := z
              injection e with e
              rw [map_inj e] at nd
              exact nd n
theorem ok_lac {f : Addr} {fd : FuncData} (F : Fun K "_law_are_changes" "_law_are_changes" sLac f fd) (T : Bi4 mg) (CC : CalIsC' P w K mg base) : GFn P w K mg base CX0 4 f fd ["thing"] (spLac K) := by
  obtain ⟨fC, fdC, GC, gC, kC, bC⟩ := CC
  refine Fun.gok F sc_lac (fun vs H Q E h => ?_) (fun cdv A outer s H vs Q E hg hr h => ?_)
  · obtain ⟨v, d, rfl, _⟩ := h
    rfl
  · obtain ⟨v, d, rfl, hd, hp, hl, k⟩ := h
    have hu := hr.units
    have hrC : Room 3 _ := hr
    have hg2 : (A.deeper (envOfC "_law_are_changes" (defScope sLac) s.heap.objs.size f cdv)).guards = some [] := hg
    refine ⟨_, (pss_cons (ps_if (PW.pt (pw_or (pt_not (pt_val (pe_callB call_isi (by rfl) T.isinstance (by decide +kernel) (pa_cons (pv 0) (pa_cons (pe_bltn (v := .ty "list") (by rfl) T.list (by decide +kernel) rfl) pa_nil))))) (pw_or1 (pt_not (pt_val (pe_callB (cr_all rfl) (by rfl) T.all (by decide +kernel) (pa_cons (pe_lc (own := [("one", 1)]) (g := gName 1) rfl sc_lac.nd (pi_list (pv 0)) (blkOk_by (N := ["thing", "one"]) (sc := defScope sLac) (by decide +kernel)) (fun _ _ _ _ _ => (pg_name (i := 1) sc_lac.nd rfl (.inl rfl))) (fun _ _ _ _ _ => pts_nil) (fun _ _ _ _ _ => (pe_callG GC hg2 hrC (by rfl) gC kC bC .nil pass0 (pa_cons (pv 1) pa_nil)))) pa_nil))))))) (pss_one (ps_ret (pe_bl))) pss_nil)
        (pss_one (ps_ret (pe_cmpR op_eq (pe_callB call_len_seq (by rfl) T.len PySem.boot_len (pa_cons (pe_callB (call_sortS rfl hu) (by rfl) T.sorted (by decide +kernel) (pa_cons (pe_callTy (call_setN rfl hu) (by rfl) T.set (by decide +kernel) (pa_cons (pv 0) pa_nil)) pa_nil)) pa_nil)) (pe_callB call_len_seq (by rfl) T.len PySem.boot_len (pa_cons (pv 0) pa_nil)) (nomark _))))), ?_⟩
    refine ⟨_, rfl, v, .ty "list", .type (tyD d), .type "list", _, rfl, .ty _, hd.ty, kit_ty (kit_list d), _, rfl, ?_⟩
    cases ht : isL d with
    | false => exact (k H (Same.refl _)).1 (arec_not ht)
    | true =>
      obtain ⟨ds, rfl⟩ := isL_some ht
      have hp := hp ds rfl
      obtain ⟨a, xs, rfl, ha, hx⟩ := hd.lst_inv
      have hlen := hx.len
      refine iteNb rfl ⟨_, rfl, a, rfl, ⟨xs, ha⟩, fun D hD => lc_list (xs := xs) (fun i H' => H' D = some (.lst (bsT isCh ds i)) ∧ Same H H') ⟨upd_same, sameN hD⟩ (fun i H' _ ⟨_, s2⟩ => s2.seq ha) (fun i x H' hi ⟨h1, s2⟩ => ?_) (fun H' ⟨h1, s2⟩ => ?_)⟩
      · obtain ⟨dx, ex, hdx⟩ := hx.get hi
        have okx := hp dx (List.mem_of_getElem? ex)
        refine ⟨rfl, _, rfl, x, dx, rfl, hdx.same s2, okx.1, okx.2, fun H4 s4 => ⟨_, s4 _ _ h1, bsT_len hl, ?_, ?_⟩⟩
        · rw [upd_same, bsT_more ex]
        · intro b o e
          rw [upd_ne (ne_of_none e hD)]
          exact s4 _ _ (s2 _ _ e)
      · rw [hlen, bsT_all] at h1
        refine ⟨D, _, rfl, SqL.of h1, _, rfl, ?_⟩
        cases q1 : ds.all isCh with
        | false =>
          refine iteYb (by rw [all_map, q1]; rfl) ((k H' s2).1 fun fs z => ?_)
          rw [arec_all z] at q1
          cases q1
        | true =>
          refine iteNb (by rw [all_map, q1]; rfl) ?_
          obtain ⟨cs, rfl, hcs⟩ := all_ex (α := Ch) (ok := cOk) ch_ex q1
          have lx : xs.length = cs.length := by rw [hlen, List.length_map]
          have l3 : cs.length < 300 := by
            have z : (cs.map Datum.toD).length < 300 := hl
            rwa [List.length_map] at z
          refine ⟨_, rfl, ?_⟩
          dsimp only [tCB, tCons, tNil, tVar]
          refine rsetsort (w := w) (H0 := H) (α := Ch) s2 (by decide) (full_C cs) l3 (s2.seq ha) hx fun H5 T5 zs s5 hT5 hz => ?_
          have lz := hz.len
          rw [List.length_map] at lz
          have s6 : Same H (upd H5 T5 (.lst zs)) := (s2.trans s5).trans (sameN hT5)
          refine ⟨T5, zs, rfl, .inl (SqL.of upd_same), _, rfl, a, xs, rfl, .inl (s6.seq ha), rfl, ?_⟩
          have fin : decide (V.int (zs.length : Nat) = V.int (xs.length : Nat)) = decide cs.Nodup := by
            rw [lz]
            exact uniq_dec cs xs.length lx
          show Q (.bl (decide (V.int (zs.length : Nat) = V.int (xs.length : Nat)))) _
          rw [fin]
          by_cases nd : cs.Nodup
          · rw [decide_eq_true nd]
            exact (k _ s6).2 cs ⟨rfl, hcs, nd⟩
          · rw [decide_eq_false nd]
            refine (k _ s6).1 fun gs z => ?_
            obtain ⟨e, _, n⟩ := z
            injection e with e
            rw [map_inj e] at nd
            exact nd n
end
end Own
/-! The law's word for what a call comes to. -/
namespace Own
open PySem PySem.Spec PyProof.Rows L2
abbrev sWrd : Stmt := top1 33
def eqBv (k : Bool) : Value → Bool
  | .bool b => b == k
  | _ => false
theorem vals_bls : ∀ {bs : List Bool} {us : List Value}, Vals (bs.map V.bl) us → us = bs.map Value.bool
  | [], _, .nil => rfl
  | _ :: _, _, .cons r t => by
    have h1 := vals_bls t
    cases r
    rw [h1]
    rfl
theorem count_eqBv (k : Bool) : ∀ bs : List Bool, (bs.map Value.bool).countP (eqBv k) = bs.count k
  | [] => rfl
  | b :: r => by
    rw [List.map_cons, List.countP_cons, List.count_cons, count_eqBv k r]
    rfl
def rCntB (K : PySem.W.Frag) : V → List V → Hp → VK → Prop := fun x xs H Q => ∃ (p : Addr) (bs : List Bool) (k : Bool), x = .ref p ∧ xs = [.bl k] ∧ SqL K H p (bs.map V.bl) ∧ Q (.int (bs.count k : Nat)) H
theorem mt_lcountB {X : Cx} : MtR X "list.count" (rCntB X.K) := by
  intro pins s σ H x xs v us Q I rx rxs h
  obtain ⟨p, bs, k, rfl, rfl, hs, q⟩ := h
  cases rx
  obtain ⟨u, rfl, ru⟩ := rxs.one
  cases ru
  obtain ⟨its, rv, ⟨⟨cls, dd, data, sl⟩, n, ho, hc, hdn, hd⟩, hlen⟩ := I.list hs
  simp only at hc hd
  subst hc hd
  have ei := vals_bls rv
  subst ei
  refine call_meets PySem.F.slot_list_count ⟨_, ho, rfl⟩ PySem.F.entry_list_count (PySem.F.args_list_count_2 _ _)
    (SeqAt.list_countAt p (bs.map Value.bool).toArray n dd sl (.bool k) (eqBv k)) ⟨ho, fun y hy => ?_, ?_⟩
  · obtain ⟨b, _, rfl⟩ := List.mem_map.mp (show y ∈ bs.map Value.bool by simpa using hy)
    exact eqAt_V (y := .bl b) (x := .bl k) rfl rfl rfl rfl
  · refine ⟨.int (bs.count k : Nat), H, I.tok _, ⟨s.toks, ?_⟩, q⟩
    show Value.int (((bs.map Value.bool).toArray.toList.countP (eqBv k) : Nat) : Int) s.toks = Value.int ((bs.count k : Nat) : Int) s.toks
    rw [List.toList_toArray, count_eqBv]
/-- the slots stay as many -/
theorem takes_len {X : Cx} {W : WX} (tk : Takes X W) : Takes X fun cls d σ H => σ.length = X.N.length → W cls d σ H := by
  rintro u s ⟨a, B, sI, pins, σ, H, cls, d, e, I, nb, up, sky, na, os, ag, h⟩
  exact tk u s ⟨a, B, sI, pins, σ, H, cls, d, e, I, nb, up, sky, na, os, ag, h I.len⟩
def nmE (i : Nat) : Str := (["InvalidRoad", "UnknownShape", "UnknownChange"] : List Str).getD i ""
def wdE (i : Nat) : Str := (["road", "shape", "change"] : List Str).getD i ""
/-- what the module's end says of the errors -/
structure TWd (K : PySem.W.Frag) (mg : Str → Option Value) (c : Nat → Addr) (cE : Addr) : Prop where
  g : ∀ i, i < 3 → mg (nmE i) = some (.ref (c i))
  gE : mg "CursorError" = some (.ref cE)
  ex : ∀ i, i < 3 → ExcC K (c i)
  ki : ∀ i j, i < 3 → j < 3 → PySem.W.kitOne K (.ref (c i)) (.ref (c j)) = some (decide (i = j))
  kn : ∀ j, j < 3 → PySem.W.kitOne K (.type "NoneType") (.ref (c j)) = some false
  kv : ∀ i, i < 3 → PySem.W.kitOne K (.ref (c i)) (.type "ValueError") = some true
  xm : ∀ i, i < 3 → PySem.W.exmOne K (.ref (c i)) (.ref cE) = some true
  isinstance : mg "isinstance" = none
  ve : mg "ValueError" = none
/-- what is new: a tuple of the word and what was given -/
def NewT (Q : VK) (x y : V) (H : Hp) : Prop := ∀ H2 p, Same H H2 → H p = none → H2 p = some (.tup [x, y]) → Q (.ref p) H2
theorem NewT.at {Q : VK} {x y : V} {H H1 : Hp} {p : Addr} (k : NewT Q x y H) (s : Same H H1) (hp : H1 p = none) : Q (.ref p) (upd H1 p (.tup [x, y])) := by
  refine k _ p (s.trans (sameN hp)) ?_ upd_same
  cases q : H p with
  | none => rfl
  | some o => rw [s _ _ q] at hp; cases hp
def TWrd (K : PySem.W.Frag) (c : Nat → Addr) : (XK → Hp → VK → Prop) → Hp → VK → Prop := fun tl H Q =>
  ∀ H0, Same H H0 → ∀ (E1 : XK) (Q1 : VK), (∀ i H1, i < 3 → NewT Q (.str (wdE i)) .non H1 → E1 (.ref (c i)) none H1) → (∀ v H1, NewT Q (.str "") v H1 → Q1 v H1) → tl E1 H0 Q1
theorem sc_wrd : FnScope ["act", "caught", "found", "e", "kinds", "is_odd"] ["act"] (defScope sWrd) := ⟨rfl, rfl, rfl, by decide +kernel, rfl, by decide +kernel, by decide +kernel⟩
theorem wrd_gives {X : Cx} {q : Str} {g cE : Addr} {c : Nat → Addr} {cdg : Value} (T : TWd X.K X.mg c cE) :
    LamX.GivesTo X ["act", "caught", "found", "e", "kinds", "is_odd"] "_law_word" (defScope sWrd) g cdg (defBody sWrd) "act" q (TWrd X.K c) := by
  intro f c1 s H Q tl act hc h
  have hb : ∀ (W : WX) (pn : List (Addr × Obj)) (xe : Value → Shared → Prop), Takes ((cxOf C8.CX0 X.prog X.w X.K X.mg X.base ["act", "caught", "found", "e", "kinds", "is_odd"] "_law_word" (defScope sWrd) g cdg X.A X.stack s H C8.E0).nox.tr pn xe) W → ∀ {np p1 p2 p3 : Pos},
      PSs ((cxOf C8.CX0 X.prog X.w X.K X.mg X.base ["act", "caught", "found", "e", "kinds", "is_odd"] "_law_word" (defScope sWrd) g cdg X.A X.stack s H C8.E0).nox.tr pn xe) [.Assign [.Name "found" np] (.Call (.Name "act" p1) [] [] p2) p3] (fun D σ H => ∃ Ech : XK, (∀ cls d σ1 H1, σ1.length = 6 → Ech cls d H1 → W cls d σ1 H1) ∧ σ[0]? = some (some (.ref f)) ∧ H c1 = some (LamX.CodeO c1 q) ∧ tl Ech H fun v H1 => D.nx (σ.set 2 (some v)) H1) := by
    intro W pn xe tk np p1 p2 p3
    refine ⟨fun pins s1 σ H1 D I h1 => ?_⟩
    obtain ⟨Ech, hW, g1, g2, g3⟩ := h1
    have hp := act (fun cls d σ H => σ.length = 6 → W cls d σ H) pn xe Ech p1 p2 (takes_len tk) fun cls d σ1 H1 he hl => hW cls d σ1 H1 hl he
    have hq := pss_one (ps_set (i := 2) (pos := p3) (pos' := np) sc_wrd.nd rfl (.inl rfl) hp)
    exact hq.run pins s1 σ H1 D I ⟨g1, g2, g3⟩
  refine ⟨_, (pss_cons (ps_asg (pe_tup (pa_cons (pe_non) (pa_cons (pe_non) pa_nil))) (pg_tup rfl (pgs_cons (pg_name (i := 1) sc_wrd.nd rfl (.inl rfl)) (pgs_cons (pg_name (i := 2) sc_wrd.nd rfl (.inl rfl)) pgs_nil))))
        (pss_cons (ps_try_keep (c := .ref cE) (i := 3) (tb := fun W D σ H => ∃ Ech : XK, (∀ cls d σ1 H1, σ1.length = 6 → Ech cls d H1 → W cls d σ1 H1) ∧ σ[0]? = some (some (.ref f)) ∧ H c1 = some (LamX.CodeO c1 q) ∧ tl Ech H fun v H1 => D.nx (σ.set 2 (some v)) H1) rfl rfl sc_wrd.nd rfl rfl rfl ⟨by rfl, by decide, .inl T.gE⟩ LamX.takes0 (fun W pn xe tk _ => hb W pn xe tk) (fun a oe cls d pn hz hf => pss_one (ps_set (i := 1) sc_wrd.nd rfl (.inl rfl) (pv 3))))
        (pss_cons (ps_set (i := 4) sc_wrd.nd rfl (.inl rfl) (pe_lst (pa_cons (pe_callB call_isC (by rfl) T.isinstance (by decide +kernel) (pa_cons (pv 1) (pa_cons (pe_glob (v := .ref (c 0)) (by rfl) (T.g 0 (by decide)) rfl) pa_nil))) (pa_cons (pe_callB call_isC (by rfl) T.isinstance (by decide +kernel) (pa_cons (pv 1) (pa_cons (pe_glob (v := .ref (c 1)) (by rfl) (T.g 1 (by decide)) rfl) pa_nil))) (pa_cons (pe_callB call_isC (by rfl) T.isinstance (by decide +kernel) (pa_cons (pv 1) (pa_cons (pe_glob (v := .ref (c 2)) (by rfl) (T.g 2 (by decide)) rfl) pa_nil))) pa_nil)))))
        (pss_cons (ps_if (pt_cmp (pc_isN (pv 1)) rfl) (pss_one (ps_ret (pe_tup (pa_cons (pe_str) (pa_cons (pv 2) pa_nil))))) pss_nil)
        (pss_cons (ps_set (i := 5) sc_wrd.nd rfl (.inl rfl) (pe_or (pe_cmpR op_ne (pe_bm PySem.F.plainAttrs_list PySem.F.slot_list_count PySem.F.type_list_count mt_lcountB (pv 4) (pa_cons pe_bl pa_nil)) (pe_int) (nomark _)) (pe_one (pe_not (pe_callB call_isC (by rfl) T.isinstance (by decide +kernel) (pa_cons (pv 1) (pa_cons (pe_bltn (v := .ty "ValueError") (by rfl) T.ve (by decide +kernel) rfl) pa_nil)))))))
        (pss_one (ps_ret (pe_tup (pa_cons (pe_ifExp (pt_val (pv 5)) (pe_str) (pe_ix ix_list (pe_lst (pa_cons (pe_str) (pa_cons (pe_str) (pa_cons (pe_str) pa_nil)))) (pe_bm PySem.F.plainAttrs_list PySem.F.slot_list_index PySem.F.type_list_index mt_index (pv 4) (pa_cons pe_bl pa_nil)) (fun _ _ => rfl))) (pa_cons (pe_non) pa_nil)))))))))), ?_⟩
  refine ⟨by show 2 ≤ sizeLine; decide, fun p hp => ⟨p, _, rfl, SqT.of upd_same, rfl, _, _, rfl, _, _, rfl, rfl, ?_⟩⟩
  have s1 : Same H (upd H p (.tup [.non, .non])) := sameN hp
  have hc1 := s1 _ _ hc
  have h0 := h _ s1
  generalize upd H p (.tup [.non, .non]) = H1 at s1 hc1 h0 ⊢
  have T0 := T.kn 0 (by decide)
  have T1 := T.kn 1 (by decide)
  have T2 := T.kn 2 (by decide)
  refine ⟨fun cls d H1 => ∃ i, i < 3 ∧ cls = .ref (c i) ∧ d = none ∧ NewT Q (.str (wdE i)) .non H1, ?_, rfl, hc1, h0 _ _ (fun i H2 hi k => ⟨i, hi, rfl, rfl, k⟩) fun v H2 k => ?_⟩
  rotate_left
  · refine ⟨_, rfl, .non, .ref (c 0), .ref (c 0), false, rfl, .own _, .inl ⟨rfl, T0⟩, _, rfl, .non, .ref (c 1), .ref (c 1), false, rfl, .own _, .inl ⟨rfl, T1⟩, _, rfl, .non, .ref (c 2), .ref (c 2), false, rfl, .own _, .inl ⟨rfl, T2⟩, by show 3 ≤ sizeLine; decide, fun l hl => ?_⟩
    have s3 : Same H2 (upd H2 l (.lst [.bl false, .bl false, .bl false])) := sameN hl
    refine ⟨_, rfl, _, rfl, _, rfl, by show 2 ≤ sizeLine; decide, fun r hr => k.at s3 hr⟩
  · rintro cls d σ1 H2 hl ⟨i, hi, rfl, rfl, k⟩
    obtain ⟨x0, x1, x2, x3, x4, x5, rfl⟩ : ∃ x0 x1 x2 x3 x4 x5, σ1 = [x0, x1, x2, x3, x4, x5] := by
      match σ1, hl with
      | [x0, x1, x2, x3, x4, x5], _ => exact ⟨x0, x1, x2, x3, x4, x5, rfl⟩
    refine ⟨true, T.xm i hi, fun _ a ha => ?_, fun z => nomatch z⟩
    have s2 : Same H2 (upd H2 a (CauE (.ref (c i)) none a)) := sameN ha
    have ea : upd H2 a (CauE (.ref (c i)) none a) a = some (CauE (.ref (c i)) none a) := upd_same
    refine ⟨_, rfl, ?_⟩
    refine ⟨_, rfl, .ref a, .ref (c 0), .ref (c 0), _, rfl, .own _, .inr ⟨a, c i, rfl, ea, T.ex i hi, T.ki i 0 hi (by decide)⟩, _, rfl, .ref a, .ref (c 1), .ref (c 1), _, rfl, .own _, .inr ⟨a, c i, rfl, ea, T.ex i hi, T.ki i 1 hi (by decide)⟩,
      _, rfl, .ref a, .ref (c 2), .ref (c 2), _, rfl, .own _, .inr ⟨a, c i, rfl, ea, T.ex i hi, T.ki i 2 hi (by decide)⟩, by show 3 ≤ sizeLine; decide, fun l hl => ?_⟩
    have nal : a ≠ l := ne_of_none ea hl
    have el : (upd (upd H2 a (CauE (.ref (c i)) none a)) l (.lst [.bl (decide (i = 0)), .bl (decide (i = 1)), .bl (decide (i = 2))])) l = some (.lst (([decide (i = 0), decide (i = 1), decide (i = 2)] : List Bool).map V.bl)) := upd_same
    have ea3 : (upd (upd H2 a (CauE (.ref (c i)) none a)) l (.lst [.bl (decide (i = 0)), .bl (decide (i = 1)), .bl (decide (i = 2))])) a = some (CauE (.ref (c i)) none a) := by
      rw [upd_ne nal]
      exact ea
    have s3 : Same H2 (upd (upd H2 a (CauE (.ref (c i)) none a)) l (.lst [.bl (decide (i = 0)), .bl (decide (i = 1)), .bl (decide (i = 2))])) := s2.trans (sameN hl)
    generalize (upd (upd H2 a (CauE (.ref (c i)) none a)) l (.lst [.bl (decide (i = 0)), .bl (decide (i = 1)), .bl (decide (i = 2))])) = H3 at el ea3 s3 ⊢
    refine ⟨_, rfl, _, rfl, iteNb rfl ?_⟩
    have cnt : ([decide (i = 0), decide (i = 1), decide (i = 2)] : List Bool).count true = 1 := by
      rcases (show i = 0 ∨ i = 1 ∨ i = 2 by omega) with rfl | rfl | rfl <;> rfl
    refine ⟨_, rfl, .inl ⟨rfl, _, SqL.of el⟩, l, _, true, rfl, rfl, SqL.of el, ?_⟩
    rw [cnt]
    refine ⟨rfl, _, rfl, iteNb rfl ?_⟩
    refine ⟨_, rfl, .ref a, .ty "ValueError", .type "ValueError", _, rfl, .ty _, .inr ⟨a, c i, rfl, ea3, T.ex i hi, T.kv i hi⟩, _, rfl, ?_⟩
    refine ⟨_, rfl, _, rfl, iteNb rfl ?_⟩
    refine ⟨by show 3 ≤ sizeLine; decide, fun r hr3 => ?_⟩
    have nlr : l ≠ r := ne_of_none el hr3
    have s4 : Same H2 (upd H3 r (.lst [.str "road", .str "shape", .str "change"])) := s3.trans (sameN hr3)
    have el4 : (upd H3 r (.lst [.str "road", .str "shape", .str "change"])) l = some (.lst (([decide (i = 0), decide (i = 1), decide (i = 2)] : List Bool).map V.bl)) := by
      rw [upd_ne nlr]
      exact el
    have at_ : (([decide (i = 0), decide (i = 1), decide (i = 2)] : List Bool).map V.bl)[i]? = some (.bl true) := by
      rcases (show i = 0 ∨ i = 1 ∨ i = 2 by omega) with rfl | rfl | rfl <;> rfl
    have first : ∀ (m : Nat) (z : V), m < i → (([decide (i = 0), decide (i = 1), decide (i = 2)] : List Bool).map V.bl)[m]? = some z → eqV z (.bl true) = false := by
      intro m z hm e
      rcases (show i = 0 ∨ i = 1 ∨ i = 2 by omega) with rfl | rfl | rfl <;>
        rcases (show m = 0 ∨ m = 1 by omega) with rfl | rfl <;>
          first | omega | (cases e; rfl)
    have it : ([.str "road", .str "shape", .str "change"] : List V)[i]? = some (.str (wdE i)) := by
      rcases (show i = 0 ∨ i = 1 ∨ i = 2 by omega) with rfl | rfl | rfl <;> rfl
    refine ⟨_, rfl, .inl ⟨rfl, _, SqL.of el4⟩, l, _, .bl true, i, .bl true, rfl, rfl, SqL.of el4, rfl, rfl, at_, rfl, first, ?_⟩
    refine ⟨r, _, _, _, rfl, rfl, SqL.of upd_same, atI_nat it, ?_⟩
    exact ⟨by show 2 ≤ sizeLine; decide, fun t ht => k.at s4 ht⟩
end Own
/-! Data of a size that is shown. -/
namespace Own
open PySem PySem.Spec PyProof.Rows L2
/-- at most b parts and signs, at most m levels, short leaves -/
structure Sz (b m : Nat) (d : PyData) : Prop where
  ok : okD d = true
  sh : d.leavesShort 45 = true
  bk : d.bulk ≤ b
  dp : d.depth ≤ m
structure SzL (b m : Nat) (ds : List PyData) : Prop where
  ok : okAll ds = true
  sh : PyData.leavesShortAll 45 ds = true
  bk : PyData.bulkAll ds ≤ b
  dp : PyData.depthAll ds ≤ m
theorem Sz.mono {b m b' m' : Nat} {d : PyData} (h : Sz b m d) (hb : b ≤ b') (hm : m ≤ m') : Sz b' m' d := ⟨h.ok, h.sh, Nat.le_trans h.bk hb, Nat.le_trans h.dp hm⟩
theorem SzL.nil : SzL 0 0 [] := ⟨rfl, rfl, Nat.le_refl _, Nat.le_refl _⟩
theorem SzL.cons {b m b' m' : Nat} {d : PyData} {ds : List PyData} (h : Sz b m d) (r : SzL b' m' ds) : SzL (b + 1 + b') (max m m') (d :: ds) := by
  refine ⟨?_, ?_, ?_, ?_⟩
  · rw [okAll, h.ok, r.ok]
    rfl
  · rw [PyData.leavesShortAll, h.sh, r.sh]
    rfl
  · rw [PyData.bulkAll]
    have h1 := h.bk
    have h2 := r.bk
    omega
  · rw [PyData.depthAll]
    have h1 := h.dp
    have h2 := r.dp
    omega
theorem Sz.lst {b m : Nat} {ds : List PyData} (h : SzL b m ds) : Sz b (m + 1) (.list ds) := by
  refine ⟨?_, ?_, ?_, ?_⟩
  · rw [okD]
    exact h.ok
  · rw [PyData.leavesShort]
    exact h.sh
  · rw [PyData.bulk]
    exact h.bk
  · rw [PyData.depth]
    exact Nat.succ_le_succ h.dp
theorem Sz.tup {b m : Nat} {ds : List PyData} (h : SzL b m ds) : Sz b (m + 1) (.tuple ds) := by
  refine ⟨?_, ?_, ?_, ?_⟩
  · rw [okD]
    exact h.ok
  · rw [PyData.leavesShort]
    exact h.sh
  · rw [PyData.bulk]
    exact h.bk
  · rw [PyData.depth]
    exact Nat.succ_le_succ h.dp
theorem SzL.all {b m : Nat} : ∀ {ds : List PyData}, (∀ d ∈ ds, Sz b m d) → SzL ((b + 1) * ds.length) m ds
  | [], _ => ⟨rfl, rfl, Nat.zero_le _, Nat.zero_le _⟩
  | d :: ds, h => by
    have z := SzL.cons (h d List.mem_cons_self) (SzL.all fun e he => h e (List.mem_cons_of_mem _ he))
    refine ⟨z.ok, z.sh, ?_, ?_⟩
    · have z2 := z.bk
      rw [List.length_cons, Nat.mul_succ]
      omega
    · have z2 := z.dp
      rwa [Nat.max_self] at z2
theorem Sz.fits {b m : Nat} {d : PyData} (h : Sz b m d) (hb : b ≤ 100000) (hm : m ≤ 40) : okD d = true ∧ d.shown.length ≤ sizeLine ∧ d.depth ≤ 40 := by
  refine ⟨h.ok, ?_, Nat.le_trans h.dp hm⟩
  have z := PyData.shown_le_bulk 45 (by decide) d h.sh
  have h2 : (45 + 2) * d.bulk ≤ 47 * 100000 := Nat.mul_le_mul (by decide) (Nat.le_trans h.bk hb)
  exact Nat.le_trans (Nat.le_trans z (Nat.add_le_add_right h2 45)) (by decide)
/-- by one check -/
def szB (b m : Nat) (d : PyData) : Bool := okD d && d.leavesShort 45 && decide (d.bulk ≤ b) && decide (d.depth ≤ m)
theorem sz_of {b m : Nat} {d : PyData} (h : szB b m d = true) : Sz b m d := by
  unfold szB at h
  rw [Bool.and_eq_true, Bool.and_eq_true, Bool.and_eq_true, decide_eq_true_iff, decide_eq_true_iff] at h
  exact ⟨h.1.1.1, h.1.1.2, h.1.2, h.2⟩
theorem sz_all {b m : Nat} {ds : List PyData} (h : ds.all (szB b m) = true) : ∀ d ∈ ds, Sz b m d := fun d hd => sz_of (List.all_eq_true.mp h d hd)
end Own
/-! xs[::-1] of a list, of a tuple: a new one. -/
namespace Own
open PySem PySem.Spec PyProof.Rows L2
section
variable {X : Cx} {e : Expr} {te : TE} {pos p2 : Pos}
/-- what a slice from the back is of a value: the slice object stands at sl -/
def BkR (X : Cx) (r : V → Hp → VK → Prop) : Prop :=
  ∀ (pins : List (Addr × Obj)) (s : Shared) (σ : L2.St) (H : Hp) (x : V) (v vl vu vs : Value) (sl : Addr) (Q : VK), Inv X pins σ H s → RelV x v → s.heap.IsSliceOf sl vl vu vs → IsPart vl none → IsPart vu none → IsPart vs (some (-1)) → r x H Q →
    ∃ T id, typeLookup (.type T) "__getitem__" = pure (some (.builtin id)) ∧ s.TypeIs v T ∧ wpAny (model X.prog X.w) X.A (getItem v (.ref sl)) (EP X pins σ Q) X.xe s
def tBk (r : V → Hp → VK → Prop) (te : TE) : TE := fun σ H Q => te σ H fun x H1 => r x H1 Q
theorem pe_back {r : V → Hp → VK → Prop} {st : Expr} {k : TE} (hr : BkR X r) (he : PE X e te) (hst : PE X st k) (hk : ∀ σ H Q, Q (.int (-1)) H → k σ H Q) : PE X (.Subscript e (.Slice none none (some st) p2) pos) (tBk r te) := by
  refine ⟨fun pins s σ H Q I h => ?_⟩
  refine Subscript_ (thn (he.run pins s σ H _ I h) fun v s1 ⟨x, H1, I1, r1, q1⟩ => ?_)
  refine wpAny_Slice ?_
  rw [evalPart_none]
  refine wpAny_pure ?_
  refine wpAny_pure ?_
  rw [evalPart_some]
  refine thn (hst.run pins s1 σ H1 (fun y H2 => y = .int (-1) ∧ H2 = H1) I1 (hk _ _ _ ⟨rfl, rfl⟩)) fun vs s2 ⟨y, H2, I2, r2, q2⟩ => ?_
  obtain ⟨rfl, rfl⟩ := q2
  obtain ⟨t, rfl⟩ := r2
  have I4 : Inv X pins σ H2 { s2 with heap := s2.heap.push { cls := .type "slice", data := .fields #[.none, .none, .int (-1) t] } } := I2.kept (t' := s2.toks) fun b ob q => Heap.get?_push_of_some _ q
  obtain ⟨T, id, hT, ht, hg⟩ := hr pins { s2 with heap := s2.heap.push { cls := .type "slice", data := .fields #[.none, .none, .int (-1) t] } } σ H2 x v .none .none (.int (-1) t) s2.heap.objs.size Q I4 r1 (Heap.IsSliceOf.new ..) .none .none (.int _ t) q1
  show wpAny (model X.prog X.w) X.A (subscriptTail e (.Slice none none (some st) p2) v (.ref s2.heap.objs.size)) (EP X pins σ Q) X.xe { s2 with heap := s2.heap.push { cls := .type "slice", data := .fields #[.none, .none, .int (-1) t] } }
  exact tail_any (ops := [v, .ref s2.heap.objs.size]) ht hT hg (by with_unfolding_all rfl)
def rBkL (K : PySem.W.Frag) : V → Hp → VK → Prop := fun x H Q => ∃ a xs, x = .ref a ∧ SqL K H a xs ∧ ∀ p, H p = none → Q (.ref p) (upd H p (.lst xs.reverse))
def rBkT (K : PySem.W.Frag) : V → Hp → VK → Prop := fun x H Q => ∃ a xs, x = .ref a ∧ SqT K H a xs ∧ ∀ p, H p = none → Q (.ref p) (upd H p (.tup xs.reverse))
theorem vals_reverse : ∀ {xs : List V} {us : List Value}, Vals xs us → Vals xs.reverse us.reverse
  | [], _, .nil => .nil
  | x :: xs, _, .cons r t => by
    rw [List.reverse_cons, List.reverse_cons]
    exact (vals_reverse t).append (.cons r .nil)
theorem bk_list : BkR X (rBkL X.K) := by
  intro pins s σ H x v vl vu vs sl Q I rx hs pl pu ps h
  obtain ⟨a, xs, rfl, hx, q⟩ := h
  cases rx
  obtain ⟨its, r, ht, hz⟩ := I.list hx
  have hlen := r.length
  refine ⟨"list", _, slot_list_getitem.lookup, ht.isList.typeIs, ?_⟩
  refine wpAny_getItem_list_slice ht.isList hs pl pu ps (by decide) ?_ (by rw [List.size_toArray] <;> omega)
  rw [PySem.W.krv_pick, List.toList_toArray]
  refine ⟨.ref s.heap.objs.size, _, I.laid (t' := s.toks) (o := .lst xs.reverse) (fun b ob q => Heap.get?_push_of_some _ q) (Nat.le_refl _) ?_, rfl, q _ (I.hok.fresh (Nat.le_refl _))⟩
  exact ⟨by rw [List.length_reverse]; exact hz, _, 0, vals_reverse r, Heap.get?_push_size _ rfl⟩
theorem places_back (n : Nat) : Builtin.Slice.slicePlaces ((n : Int) - 1) (-1) (-1) = n := by
  unfold Builtin.Slice.slicePlaces
  rw [if_neg (by decide)]
  by_cases h : (n : Int) - 1 > -1
  · rw [if_pos h, show (- -1 : Int) = 1 by decide, Int.ediv_one]
    omega
  · rw [if_neg h]
    omega
theorem adjust_back (n : Nat) : Builtin.Slice.sliceAdjust none none (-1) (n : Int) = ((n : Int) - 1, -1) := by
  unfold Builtin.Slice.sliceAdjust
  simp
section
variable {prog : Program} {w : World} {A : Around} {E : Value → Shared → Prop} {s : Shared}
theorem sliceApplied_back {sl : Addr} {vl vu vs : Value} {n : Nat} {Q : Int × Int × Nat → Shared → Prop} (hs : s.heap.IsSliceOf sl vl vu vs) (pl : IsPart vl none) (pu : IsPart vu none) (ps : IsPart vs (some (-1)))
    (h : Q (((n : Int) - 1), -1, n) s) : wpAny (model prog w) A (Builtin.Slice.sliceApplied (.ref sl) (pure (n : Int))) Q E s := by
  obtain ⟨os, hos, hcs, hds⟩ := id hs
  unfold Builtin.Slice.sliceApplied Builtin.Slice.sliceFields
  refine wpAny_bind (wpAny_bind (wpAny_field hos hds (x := vl) rfl (wpAny_bind (wpAny_field hos hds (x := vu) rfl (wpAny_bind (wpAny_field hos hds (x := vs) rfl (wpAny_pure ?_)))))))
  refine wpAny_bind (HT.slicePart_ ps ?_)
  show wpAny _ _ (if ((-1 : Int) == 0) = true then _ else _) _ _ s
  rw [if_neg (by decide)]
  refine wpAny_bind (HT.slicePart_ pl (wpAny_bind (HT.slicePart_ pu (wpAny_bind (wpAny_pure ?_)))))
  show wpAny _ _ (match Builtin.Slice.sliceAdjust none none (-1) (n : Int) with | (lo, hi) => pure (lo, (-1 : Int), Builtin.Slice.slicePlaces lo hi (-1))) _ _ s
  rw [adjust_back]
  show wpAny _ _ (pure (((n : Int) - 1), (-1 : Int), Builtin.Slice.slicePlaces ((n : Int) - 1) (-1) (-1))) _ _ s
  rw [places_back]
  exact wpAny_pure h
theorem fm_congr {α β : Type} {f g : α → Option β} : ∀ {l : List α}, (∀ x ∈ l, f x = g x) → l.filterMap f = l.filterMap g
  | [], _ => rfl
  | x :: l, h => by
    rw [List.filterMap_cons, List.filterMap_cons, h x List.mem_cons_self, fm_congr fun y hy => h y (List.mem_cons_of_mem _ hy)]
theorem pick_back (xs : Array Value) : ((List.range xs.size).filterMap fun (m : Nat) => xs[(((xs.size : Int) - 1) + (m : Int) * (-1)).toNat]?).toArray = xs.toList.reverse.toArray := by
  have e : (List.range xs.size).filterMap (fun (m : Nat) => xs[(((xs.size : Int) - 1) + (m : Int) * (-1)).toNat]?) = ((List.range xs.size).map fun k => xs.size - 1 - k).filterMap (xs[·]?) := by
    rw [List.filterMap_map]
    refine fm_congr fun m hm => ?_
    have h := List.mem_range.mp hm
    have z : (((xs.size : Int) - 1) + (m : Int) * (-1)).toNat = xs.size - 1 - m := by omega
    rw [z]
    rfl
  rw [e, PySem.W.krv_range, List.filterMap_reverse, PySem.W.krv_all]
theorem getItem_tuple_back {t sl : Addr} {items : Array Value} {vl vu vs : Value} {Q : Value → Shared → Prop} (ht : IsTup s.heap t items) (hs : s.heap.IsSliceOf sl vl vu vs) (pl : IsPart vl none) (pu : IsPart vu none) (ps : IsPart vs (some (-1)))
    (h : Q (.ref s.heap.objs.size) { s with heap := s.heap.push { cls := .type "tuple", data := .seq items.toList.reverse.toArray } })
    (hsz : items.size ≤ sizeLine) : wpAny (model prog w) A (getItem (.ref t) (.ref sl)) Q E s := by
  have htake : sizeOk (.seq items.toList.reverse.toArray) := by
    show items.toList.reverse.toArray.size ≤ sizeLine
    rw [List.size_toArray, List.length_reverse, Array.length_toList]
    exact hsz
  obtain ⟨os, hos, hcs, hds⟩ := id hs
  have hTs : s.TypeIs (.ref sl) "slice" := ⟨os, hos, hcs⟩
  unfold getItem
  try with_reducible refine wpAny_holding ?_
  first | refine wpAny_bind (wpAny_pure ?_) | skip
  refine wpAny_bind (wpAny_sequenceKey ht.typeIs (by decide) ?_)
  refine wpAny_bind (wpAny_callSpecial?_slot (name := Str.ofString "__getitem__") ht.typeIs PyProof.Rows.slot_tuple_getitem
    (wpAny_call_entry PyProof.Rows.slot_tuple_getitem ht.typeIs entry_tuple_getitem ?_ (args_tuple_getitem _ _)))
  show wpAny _ _ (Builtin.Tuple.tupleItemsOf (.ref t) >>= _) _ _ s
  refine wpAny_bind (tupleItemsOf_ ht ?_)
  refine wpAny_bind (wpAny_typeOf hTs ?_)
  rw [if_pos (by decide)]
  refine wpAny_bind (sliceApplied_back hs pl pu ps ?_)
  show wpAny _ _ (if ((((items.size : Int) - 1) == 0 && (-1 : Int) == 1 && items.size == items.size) = true) then _ else _) _ _ s
  rw [if_neg (by simp), pick_back]
  first
    | exact wpAny_bind (m := Builtin.Tuple.tupleExact _) (wpAny_newObj_type (wpAny_pure ⟨_, rfl, wpAny_pure h⟩) htake)
    | exact wpAny_bind (m := Builtin.Tuple.tupleExact _) (wpAny_newObj_type (wpAny_bind (wpAny_pure (wpAny_pure ⟨_, rfl, wpAny_pure h⟩))) htake)
    | exact wpAny_bind (wpAny_bind (m := Builtin.Tuple.tupleExact _) (wpAny_newObj_type (wpAny_pure (wpAny_pure ⟨_, rfl, wpAny_pure h⟩)) htake))
    | exact wpAny_bind (wpAny_bind (m := Builtin.Tuple.tupleExact _) (wpAny_newObj_type (wpAny_pure ⟨_, rfl, wpAny_pure h⟩) htake))
end
theorem bk_tup : BkR X (rBkT X.K) := by
  intro pins s σ H x v vl vu vs sl Q I rx hs pl pu ps h
  obtain ⟨a, xs, rfl, hx, q⟩ := h
  cases rx
  obtain ⟨its, r, ht, hz⟩ := I.tuple hx
  have hlen := r.length
  refine ⟨"tuple", _, PyProof.Rows.slot_tuple_getitem.lookup, ht.typeIs, ?_⟩
  refine getItem_tuple_back ht hs pl pu ps ?_ (by rw [List.size_toArray, ← hlen]; exact hz)
  rw [List.toList_toArray]
  refine ⟨.ref s.heap.objs.size, _, I.laid (t' := s.toks) (o := .tup xs.reverse) (fun b ob q => Heap.get?_push_of_some _ q) (Nat.le_refl _) ?_, rfl, q _ (I.hok.fresh (Nat.le_refl _))⟩
  exact ⟨by rw [List.length_reverse]; exact hz, _, vals_reverse r, IsTup.new _ _⟩
end
end Own
/-! Expressions that make data of data: one rule, one check. -/
namespace Own
open PySem PySem.Spec PyProof.Rows L2
/-- what is asked of the places that hold data -/
def EnvD (K : PySem.W.Frag) (env : List (Nat × PyData)) (σ : L2.St) (H : Hp) : Prop := ∀ p ∈ env, ∃ v, σ[p.1]? = some (some v) ∧ Dv K H v p.2
/-- a heap without some objects -/
def woE (E : Addr → Bool) (H : Hp) : Hp := fun b => if E b = true then none else H b
def LivE (E : Addr → Bool) (H : Hp) : Prop := ∀ b, E b = true → ∃ o, H b = some o
theorem woE_some {E : Addr → Bool} {H : Hp} {b : Addr} {o : HO} (h : woE E H b = some o) : E b = false ∧ H b = some o := by
  unfold woE at h
  cases e : E b with
  | true =>
    rw [e, if_pos rfl] at h
    cases h
  | false =>
    rw [e, if_neg (by decide)] at h
    exact ⟨rfl, h⟩
theorem woE_le {E : Addr → Bool} {H : Hp} : Same (woE E H) H := fun b o h => (woE_some h).2
theorem woE_same {E : Addr → Bool} {H H' : Hp} (s : Same H H') : Same (woE E H) (woE E H') := fun b o h => by
  obtain ⟨h1, h2⟩ := woE_some h
  unfold woE
  rw [h1, if_neg (by decide)]
  exact s _ _ h2
theorem LivE.same {E : Addr → Bool} {H H' : Hp} (l : LivE E H) (s : Same H H') : LivE E H' := fun b h => by
  obtain ⟨o, e⟩ := l b h
  exact ⟨o, s _ _ e⟩
theorem woE_new {E : Addr → Bool} {H : Hp} {p : Addr} {o : HO} (l : LivE E H) (hp : H p = none) : woE E (upd H p o) p = some o := by
  unfold woE
  cases e : E p with
  | true =>
    obtain ⟨u, h⟩ := l p e
    rw [hp] at h
    cases h
  | false => rw [if_neg (by decide), upd_same]
def tLit (K : PySem.W.Frag) (E : Addr → Bool) (env : List (Nat × PyData)) (d : PyData) : TE := fun σ H Q => LivE E H ∧ EnvD K env σ (woE E H) ∧ ∀ v H', Same H H' → Dv K (woE E H') v d → Q v H'
def tLits (K : PySem.W.Frag) (E : Addr → Bool) (env : List (Nat × PyData)) (ds : List PyData) : TA := fun σ H Q => LivE E H ∧ EnvD K env σ (woE E H) ∧ ∀ vs H', Same H H' → DvAll K (woE E H') vs ds → Q vs H'
def isStar : Expr → Bool
  | .Starred _ _ => true
  | _ => false
theorem star_eq {e : Expr} {es : List Expr} {env : Env} (h : isStar e = false) : starEach (e :: es) env = (false, eval e env) :: starEach es env := by
  cases e <;> first | rfl | cases h
def cInt : Expr → Option Int
  | .Constant (.int i) _ _ => some i
  | .UnaryOp .USub (.Constant (.int i) _ _) _ => some (-i)
  | _ => none
def idxS (x : Str) : List Str → Option Nat
  | [] => none
  | y :: ys => if y = x then some 0 else (idxS x ys).map (· + 1)
theorem idxS_get {x : Str} : ∀ {N : List Str} {i : Nat}, idxS x N = some i → N[i]? = some x
  | [], _, h => by cases h
  | y :: ys, i, h => by
    unfold idxS at h
    split at h
    · rename_i e
      cases h
      rw [e]
      rfl
    · obtain ⟨j, hj, rfl⟩ := Option.map_eq_some_iff.mp h
      have z := idxS_get hj
      exact z
def visB (sc : Scope) (x : Str) : Bool := decide (sc.names.lookup x = some .local) || decide (sc.names.lookup x = some .cell) || decide (sc.names.lookup x = some .free)
theorem visB_ok {sc : Scope} {x : Str} (h : visB sc x = true) : Vis sc x := by
  unfold visB at h
  rw [Bool.or_eq_true, Bool.or_eq_true, decide_eq_true_iff, decide_eq_true_iff, decide_eq_true_iff] at h
  rcases h with (h | h) | h
  · exact .inl h
  · exact .inr (.inl h)
  · exact .inr (.inr h)
def envAt (env : List (Nat × PyData)) (i : Nat) : Option PyData := match env with
  | [] => none
  | p :: r => if p.1 = i then some p.2 else envAt r i
theorem envAt_mem {i : Nat} {d : PyData} : ∀ {env : List (Nat × PyData)}, envAt env i = some d → (i, d) ∈ env
  | [], h => by cases h
  | p :: r, h => by
    unfold envAt at h
    split at h
    · rename_i e
      cases h
      rw [← e]
      exact List.mem_cons_self
    · exact List.mem_cons_of_mem _ (envAt_mem h)
section
variable (N : List Str) (sc : Scope) (B : List Str) (env : List (Nat × PyData))
def nameD (x : Str) : Option PyData :=
  if (x == ("__debug__" : Str)) = false ∧ (x == ("__classdict__" : Str)) = false ∧ visB sc x = true then (idxS x N).bind (envAt env) else none
def constD : Const → Option PyData
  | .none => some .none
  | .bool b => some (.bool b)
  | .int i => some (.int i)
  | .str x => some (.str x)
  | _ => none
def addD : PyData → PyData → Option PyData
  | .int i, .int j => some (.int (i + j))
  | .list xs, .list ys => if xs.length + ys.length ≤ 1000 then some (.list (xs ++ ys)) else none
  | .tuple xs, .tuple ys => if xs.length + ys.length ≤ 1000 ∧ xs ≠ [] then some (.tuple (xs ++ ys)) else none
  | _, _ => none
def powD : PyData → PyData → Option PyData
  | .int i, .int j => if 0 ≤ j ∧ j ≤ 1000000 ∧ i.natAbs < 2 ^ 64 then some (.int (i ^ j.toNat)) else none
  | _, _ => none
def oInt : Option Expr → Option (Option Int)
  | none => some none
  | some e => (cInt e).map some
def cutD (xs : List PyData) (lo hi : Option Int) : List PyData := (xs.drop (HT.sIx xs.length 0 lo)).take (HT.sIx xs.length xs.length hi - HT.sIx xs.length 0 lo)
def ixL (ds : List PyData) : Int → Option PyData
  | .ofNat n => ds[n]?
  | .negSucc n => atI ds (.negSucc n)
theorem ixL_at {ds : List PyData} {i : Int} {d : PyData} (h : ixL ds i = some d) : atI ds i = some d := by
  cases i with
  | ofNat n => exact atI_nat h
  | negSucc n => exact h
def ixD : PyData → Int → Option PyData
  | .tuple ds, i => ixL ds i
  | .list ds, i => ixL ds i
  | _, _ => none
def slD : PyData → Option Int → Option Int → Option PyData
  | .list ds, lo, hi => some (.list (cutD ds lo hi))
  | .tuple ds, lo, hi => if HT.sIx ds.length 0 lo = 0 ∧ HT.sIx ds.length ds.length hi = ds.length then none else some (.tuple (cutD ds lo hi))
  | _, _, _ => none
def bkD : PyData → Option PyData
  | .list ds => some (.list ds.reverse)
  | .tuple ds => some (.tuple ds.reverse)
  | _ => none
def lstD : PyData → Option PyData
  | .list ds => some (.list ds)
  | .tuple ds => some (.list ds)
  | _ => none
def tupD : PyData → Option PyData
  | .list ds => some (.tuple ds)
  | .tuple ds => some (.tuple ds)
  | _ => none
def litEs (f : Expr → Option PyData) : List Expr → Option (List PyData)
  | [] => some []
  | e :: es => if isStar e = false then (f e).bind fun d => (litEs f es).map (d :: ·) else none
def glB (f : Str) : Bool := decide (sc.names.lookup f = some .globalImplicit) && B.contains f
def litStep (f : Expr → Option PyData) : Expr → Option PyData
  | .Constant c _ _ => constD c
  | .UnaryOp .USub e _ => (f e).bind fun | .int i => some (.int (-i)) | _ => none
  | .BinOp a .Add b _ => (f a).bind fun x => (f b).bind fun y => addD x y
  | .BinOp a .Pow b _ => (f a).bind fun x => (f b).bind fun y => powD x y
  | .List es _ => (litEs f es).bind fun ds => if ds.length ≤ 1000 then some (.list ds) else none
  | .Tuple es _ _ => (litEs f es).bind fun ds => if ds.length ≤ 1000 then some (.tuple ds) else none
  | .Dict [] [] _ => some (.dict [])
  | .Name x _ => nameD N sc env x
  | .Subscript e (.Constant (.int i) _ _) _ => (f e).bind fun d => ixD d i
  | .Subscript e (.UnaryOp .USub (.Constant (.int i) _ _) _) _ => (f e).bind fun d => ixD d (-i)
  | .Subscript e (.Slice lo hi none _) _ => (f e).bind fun d => (oInt lo).bind fun l => (oInt hi).bind fun h => slD d l h
  | .Subscript e (.Slice none none (some (.UnaryOp .USub (.Constant (.int 1) _ _) _)) _) _ => (f e).bind bkD
  | .Call (.Name g _) [a] [] _ => if isStar a = false then if g = ("list" : Str) ∧ glB sc B g = true then (f a).bind lstD else if g = ("tuple" : Str) ∧ glB sc B g = true then (f a).bind tupD else none else none
  | _ => none
def litE : Nat → Expr → Option PyData
  | 0, _ => none
  | n + 1, e => litStep N sc B env (litE n) e
end
theorem get_dv {K : PySem.W.Frag} {H : Hp} : ∀ {xs : List V} {ds : List PyData} {j : Nat} {d : PyData}, DvAll K H xs ds → ds[j]? = some d → ∃ v, xs[j]? = some v ∧ Dv K H v d
  | [], [], _, _, _, z => by simp at z
  | x :: _, e :: _, 0, _, .cons hv _, z => by
    have z' := Option.some.inj z
    subst z'
    exact ⟨x, rfl, hv⟩
  | x :: xs, e :: ds, j + 1, d, .cons _ hr, z => by
    have z' : ds[j]? = some d := by simpa using z
    have y := get_dv hr z'
    exact y
theorem at_dv {K : PySem.W.Frag} {H : Hp} {xs : List V} {ds : List PyData} {i : Int} {d : PyData} (h : DvAll K H xs ds) (e : atI ds i = some d) : ∃ v, atI xs i = some v ∧ Dv K H v d := by
  unfold atI at e ⊢
  obtain ⟨j, h1, h2⟩ := Option.bind_eq_some_iff.mp e
  rw [h.len, h1]
  exact get_dv h h2
theorem dv_drop {K : PySem.W.Frag} {H : Hp} : ∀ {xs : List V} {ds : List PyData} (k : Nat), DvAll K H xs ds → DvAll K H (xs.drop k) (ds.drop k)
  | _, _, 0, h => h
  | [], [], _ + 1, .nil => .nil
  | _ :: _, _ :: _, k + 1, .cons _ r => dv_drop k r
theorem dv_take {K : PySem.W.Frag} {H : Hp} : ∀ {xs : List V} {ds : List PyData} (k : Nat), DvAll K H xs ds → DvAll K H (xs.take k) (ds.take k)
  | _, _, 0, _ => .nil
  | [], [], _ + 1, .nil => .nil
  | _ :: _, _ :: _, k + 1, .cons h r => .cons h (dv_take k r)
theorem dv_app {K : PySem.W.Frag} {H : Hp} : ∀ {xs ys : List V} {ds es : List PyData}, DvAll K H xs ds → DvAll K H ys es → DvAll K H (xs ++ ys) (ds ++ es)
  | [], _, [], _, .nil, h => h
  | _ :: _, _, _ :: _, _, .cons h r, q => .cons h (dv_app r q)
theorem dv_rev {K : PySem.W.Frag} {H : Hp} : ∀ {xs : List V} {ds : List PyData}, DvAll K H xs ds → DvAll K H xs.reverse ds.reverse
  | [], [], .nil => .nil
  | x :: xs, d :: ds, .cons h r => by
    rw [List.reverse_cons, List.reverse_cons]
    exact dv_app (dv_rev r) (.cons h .nil)
theorem dv_cut {K : PySem.W.Frag} {H : Hp} {xs : List V} {ds : List PyData} {lo hi : Option Int} (h : DvAll K H xs ds) : DvAll K H (cutV xs lo hi) (cutD ds lo hi) := by
  unfold cutV cutD
  rw [h.len]
  exact dv_take _ (dv_drop _ h)
theorem EnvD.same {K : PySem.W.Frag} {env : List (Nat × PyData)} {σ : L2.St} {H H' : Hp} (e : EnvD K env σ H) (s : Same H H') : EnvD K env σ H' := fun p hp => by
  obtain ⟨v, h1, h2⟩ := e p hp
  exact ⟨v, h1, h2.same s⟩
theorem pe_mono {X : Cx} {e : Expr} {t t' : TE} (h : PE X e t) (k : ∀ σ H Q, t' σ H Q → t σ H Q) : PE X e t' := ⟨fun pins s σ H Q I q => h.run pins s σ H Q I (k _ _ _ q)⟩
theorem pa_mono {X : Cx} {es : List Expr} {t t' : TA} (h : PA X es t) (k : ∀ σ H Q, t' σ H Q → t σ H Q) : PA X es t' := ⟨fun pos pins s σ H Q I q => h.run pos pins s σ H Q I (k _ _ _ q)⟩
theorem lst_inv' {K : PySem.W.Frag} {H : Hp} {v : V} {ds : List PyData} (h : Dv K H v (.list ds)) : ∃ a xs, v = .ref a ∧ SqL K H a xs ∧ DvAll K H xs ds := by
  cases h with
  | lst s r => exact ⟨_, _, rfl, s, r⟩
theorem tup_inv' {K : PySem.W.Frag} {H : Hp} {v : V} {ds : List PyData} (h : Dv K H v (.tuple ds)) : ∃ a xs, v = .ref a ∧ SqT K H a xs ∧ DvAll K H xs ds := by
  cases h with
  | tup s r => exact ⟨_, _, rfl, s, r⟩
theorem int_inv' {K : PySem.W.Frag} {H : Hp} {v : V} {i : Int} (h : Dv K H v (.int i)) : v = .int i := by
  cases h
  rfl
theorem len1000 {n : Nat} (h : n ≤ 1000) : n ≤ sizeLine := Nat.le_trans h (by decide)
theorem sameT {K : PySem.W.Frag} {H H' : Hp} {a : Addr} {xs : List V} (s : Same H H') (h : SqT K H a xs) : SqT K H' a xs := by
  rcases h with (h | ⟨o, h⟩) | h
  · exact .inl (.inl (s _ _ h))
  · exact .inl (.inr ⟨o, s _ _ h⟩)
  · exact .inr h
theorem sameN' {H : Hp} {p : Addr} {o : HO} (h : H p = none) : Same H (upd H p o) := fun b u e => by
  rw [upd_ne (ne_of_none e h)]
  exact e
section
variable {K : PySem.W.Frag} {E : Addr → Bool} {env : List (Nat × PyData)} {σ : L2.St} {H H1 H2 : Hp} {Q : VK} {d : PyData}
/-- what follows, and what is kept till then -/
structure Lk (K : PySem.W.Frag) (E : Addr → Bool) (env : List (Nat × PyData)) (d : PyData) (σ : L2.St) (H : Hp) (Q : VK) : Prop where
  l : LivE E H
  e : EnvD K env σ (woE E H)
  k : ∀ v H', Same H H' → Dv K (woE E H') v d → Q v H'
theorem Lk.of (q : tLit K E env d σ H Q) : Lk K E env d σ H Q := ⟨q.1, q.2.1, q.2.2⟩
theorem Lk.go (L : Lk K E env d σ H Q) (s : Same H H1) : LivE E H1 ∧ EnvD K env σ (woE E H1) := ⟨L.l.same s, L.e.same (woE_same s)⟩
theorem Lk.here {v : V} (L : Lk K E env d σ H Q) (s : Same H H1) (h : Dv K (woE E H1) v d) : Q v H1 := L.k v H1 s h
theorem Lk.lst {p : Addr} {xs : List V} {ds : List PyData} (L : Lk K E env (.list ds) σ H Q) (s : Same H H1) (hp : H1 p = none) (h : DvAll K (woE E H1) xs ds) : Q (.ref p) (upd H1 p (.lst xs)) :=
  L.k _ _ (s.trans (sameN' hp)) (.lst (SqL.of (woE_new (L.l.same s) hp)) (h.same (woE_same (sameN' hp))))
theorem Lk.tup {p : Addr} {xs : List V} {ds : List PyData} (L : Lk K E env (.tuple ds) σ H Q) (s : Same H H1) (hp : H1 p = none) (h : DvAll K (woE E H1) xs ds) : Q (.ref p) (upd H1 p (.tup xs)) :=
  L.k _ _ (s.trans (sameN' hp)) (.tup (SqT.of (woE_new (L.l.same s) hp)) (h.same (woE_same (sameN' hp))))
end
section
variable {X : Cx} {N : List Str} {sc : Scope} {B : List Str} {env : List (Nat × PyData)} {E : Addr → Bool}
theorem lits_pa {f : Expr → Option PyData} (ih : ∀ e d, f e = some d → PE X e (tLit X.K E env d)) : ∀ (es : List Expr) (ds : List PyData), litEs f es = some ds → PA X es (tLits X.K E env ds)
  | [], ds, h => by
    cases h
    exact pa_mono pa_nil fun σ H Q q => q.2.2 [] H (Same.refl _) .nil
  | e :: es, ds, h => by
    unfold litEs at h
    split at h
    · rename_i hst
      obtain ⟨d, h1, h2⟩ := Option.bind_eq_some_iff.mp h
      obtain ⟨r, h3, rfl⟩ := Option.map_eq_some_iff.mp h2
      refine pa_mono (pa_cons (ih e d h1) (lits_pa ih es r h3) (star_eq hst)) fun σ H Q q => ?_
      exact ⟨q.1, q.2.1, fun v H1 s1 hv => ⟨q.1.same s1, q.2.1.same (woE_same s1), fun vs H2 s2 hvs => q.2.2 (v :: vs) H2 (s1.trans s2) (.cons (hv.same (woE_same s2)) hvs)⟩⟩
    · cases h
theorem name_pe (hN : X.N = N) (hs : X.env.scope = sc) {x : Str} {p : Pos} {d : PyData} (h : nameD N sc env x = some d) : PE X (.Name x p) (tLit X.K E env d) := by
  unfold nameD at h
  split at h
  · rename_i hc
    obtain ⟨i, h1, h2⟩ := Option.bind_eq_some_iff.mp h
    refine pe_mono (pe_var (i := i) (by rw [hN]; exact idxS_get h1) (by rw [hs]; exact visB_ok hc.2.2) hc.1 hc.2.1) fun σ H Q q => ?_
    obtain ⟨v, e1, e2⟩ := q.2.1 _ (envAt_mem h2)
    exact ⟨v, e1, q.2.2 v H (Same.refl _) e2⟩
  · cases h
theorem const_pe {c : Const} {k : Nat} {p : Pos} {d : PyData} (h : constD c = some d) : PE X (.Constant c k p) (tLit X.K E env d) := by
  cases c <;> first | cases h | skip
  · exact pe_mono pe_non fun σ H Q q => q.2.2 _ H (Same.refl _) .non
  · exact pe_mono pe_bl fun σ H Q q => q.2.2 _ H (Same.refl _) (.bl _)
  · exact pe_mono pe_int fun σ H Q q => q.2.2 _ H (Same.refl _) (.int _)
  · exact pe_mono pe_str fun σ H Q q => q.2.2 _ H (Same.refl _) (.str _)
theorem add_pe {a b : Expr} {p : Pos} {x y d : PyData} (ha : PE X a (tLit X.K E env x)) (hb : PE X b (tLit X.K E env y)) (h : addD x y = some d) : PE X (.BinOp a .Add b p) (tLit X.K E env d) := by
  unfold addD at h
  split at h
  · cases h
    refine pe_mono (pe_op op_add ha hb) fun σ H Q q => ?_
    have L := Lk.of q
    refine ⟨L.l, L.e, fun v H1 s1 hv => ⟨(L.go s1).1, (L.go s1).2, fun u H2 s2 hu => ?_⟩⟩
    exact ⟨_, _, int_inv' hv, int_inv' hu, L.here (s1.trans s2) (.int _)⟩
  · split at h
    · rename_i hl
      cases h
      refine pe_mono (pe_op op_catL ha hb) fun σ H Q q => ?_
      have L := Lk.of q
      refine ⟨L.l, L.e, fun v H1 s1 hv => ⟨(L.go s1).1, (L.go s1).2, fun u H2 s2 hu => ?_⟩⟩
      obtain ⟨l, xs, rfl, hl1, hx⟩ := lst_inv' (hv.same (woE_same s2))
      obtain ⟨m, ys, rfl, hm1, hy⟩ := lst_inv' hu
      exact ⟨l, m, xs, ys, rfl, rfl, woE_le.seq hl1, woE_le.seq hm1, by rw [hx.len, hy.len]; exact len1000 hl, fun p hp => L.lst (s1.trans s2) hp (dv_app hx hy)⟩
    · cases h
  · split at h
    · rename_i hl
      cases h
      refine pe_mono (pe_op op_catT ha hb) fun σ H Q q => ?_
      have L := Lk.of q
      refine ⟨L.l, L.e, fun v H1 s1 hv => ⟨(L.go s1).1, (L.go s1).2, fun u H2 s2 hu => ?_⟩⟩
      obtain ⟨l, xs, rfl, hl1, hx⟩ := tup_inv' (hv.same (woE_same s2))
      obtain ⟨m, ys, rfl, hm1, hy⟩ := tup_inv' hu
      refine ⟨l, m, xs, ys, rfl, rfl, sameT woE_le hl1, sameT woE_le hm1, fun e => ?_, by rw [hx.len, hy.len]; exact len1000 hl.1, fun e => ?_, fun _ p hp => L.tup (s1.trans s2) hp (dv_app hx hy)⟩
      · subst e
        have z := hx.len
        exact hl.2 (List.eq_nil_of_length_eq_zero z.symm)
      · subst e
        have z := hy.len
        have z2 := List.eq_nil_of_length_eq_zero z.symm
        rw [z2, List.append_nil] at L
        exact L.here (s1.trans s2) (hv.same (woE_same s2))
    · cases h
  · cases h
theorem pow_pe {a b : Expr} {p : Pos} {x y d : PyData} (ha : PE X a (tLit X.K E env x)) (hb : PE X b (tLit X.K E env y)) (h : powD x y = some d) : PE X (.BinOp a .Pow b p) (tLit X.K E env d) := by
  unfold powD at h
  split at h
  · split at h
    · rename_i hc
      cases h
      refine pe_mono (pe_op op_pow ha hb) fun σ H Q q => ?_
      have L := Lk.of q
      refine ⟨L.l, L.e, fun v H1 s1 hv => ⟨(L.go s1).1, (L.go s1).2, fun u H2 s2 hu => ?_⟩⟩
      exact ⟨_, _, int_inv' hv, int_inv' hu, hc, L.here (s1.trans s2) (.int _)⟩
    · cases h
  · cases h
theorem ix_pe {a b : Expr} {p : Pos} {x d : PyData} {i : Int} (ha : PE X a (tLit X.K E env x)) (hb : PE X b (tLit X.K E env (.int i))) (pl : PlainIx b) (h : ixD x i = some d) : PE X (.Subscript a b p) (tLit X.K E env d) := by
  unfold ixD at h
  split at h
  · refine pe_mono (pe_ix ix_tup ha hb pl) fun σ H Q q => ?_
    have L := Lk.of q
    refine ⟨L.l, L.e, fun v H1 s1 hv => ⟨(L.go s1).1, (L.go s1).2, fun u H2 s2 hu => ?_⟩⟩
    obtain ⟨l, xs, rfl, hl1, hx⟩ := tup_inv' (hv.same (woE_same s2))
    obtain ⟨w, e1, e2⟩ := at_dv hx (ixL_at h)
    exact ⟨l, xs, i, w, rfl, int_inv' hu, sameT woE_le hl1, e1, L.here (s1.trans s2) e2⟩
  · refine pe_mono (pe_ix ix_list ha hb pl) fun σ H Q q => ?_
    have L := Lk.of q
    refine ⟨L.l, L.e, fun v H1 s1 hv => ⟨(L.go s1).1, (L.go s1).2, fun u H2 s2 hu => ?_⟩⟩
    obtain ⟨l, xs, rfl, hl1, hx⟩ := lst_inv' (hv.same (woE_same s2))
    obtain ⟨w, e1, e2⟩ := at_dv hx (ixL_at h)
    exact ⟨l, xs, i, w, rfl, int_inv' hu, woE_le.seq hl1, e1, L.here (s1.trans s2) e2⟩
  · cases h
theorem cInt_pe {e : Expr} {i : Int} (h : cInt e = some i) : PE X e (tC (.int i)) := by
  unfold cInt at h
  split at h
  · cases h
    exact pe_int
  · cases h
    exact pe_mono (pe_un un_neg pe_int) fun σ H Q q => ⟨_, rfl, q⟩
  · cases h
theorem oInt_po {e : Option Expr} {o : Option Int} (h : oInt e = some o) : PO X e (fun _ H Q => Q o H) := by
  cases e with
  | none =>
    cases h
    exact po_none
  | some e =>
    obtain ⟨i, hi, rfl⟩ := Option.map_eq_some_iff.mp h
    have z := po_some (cInt_pe (X := X) hi)
    exact ⟨fun pins s σ H Q I q => z.run pins s σ H Q I ⟨i, rfl, q⟩⟩
theorem sl_pe {a : Expr} {lo hi : Option Expr} {p p2 : Pos} {x d : PyData} {l h : Option Int} (ha : PE X a (tLit X.K E env x)) (hl : oInt lo = some l) (hh : oInt hi = some h) (hd : slD x l h = some d) : PE X (.Subscript a (.Slice lo hi none p2) p) (tLit X.K E env d) := by
  unfold slD at hd
  split at hd
  · cases hd
    refine pe_mono (pe_slice sl_list ha (oInt_po hl) (oInt_po hh)) fun σ H Q q => ?_
    have L := Lk.of q
    refine ⟨L.l, L.e, fun v H1 s1 hv => ?_⟩
    obtain ⟨m, xs, rfl, hm1, hx⟩ := lst_inv' hv
    exact ⟨m, xs, rfl, woE_le.seq hm1, fun p hp => L.lst s1 hp (dv_cut hx)⟩
  · split at hd
    · cases hd
    · rename_i hw
      cases hd
      refine pe_mono (pe_slice sl_tup ha (oInt_po hl) (oInt_po hh)) fun σ H Q q => ?_
      have L := Lk.of q
      refine ⟨L.l, L.e, fun v H1 s1 hv => ?_⟩
      obtain ⟨m, xs, rfl, hm1, hx⟩ := tup_inv' hv
      exact ⟨m, xs, rfl, sameT woE_le hm1, by rw [hx.len]; exact hw, fun p hp => L.tup s1 hp (dv_cut hx)⟩
  · cases hd
theorem bk_pe {a st : Expr} {p p2 : Pos} {x d : PyData} (ha : PE X a (tLit X.K E env x)) (hst : cInt st = some (-1)) (hd : bkD x = some d) : PE X (.Subscript a (.Slice none none (some st) p2) p) (tLit X.K E env d) := by
  unfold bkD at hd
  split at hd
  · cases hd
    refine pe_mono (pe_back bk_list ha (cInt_pe hst) fun _ _ _ q => q) fun σ H Q q => ?_
    have L := Lk.of q
    refine ⟨L.l, L.e, fun v H1 s1 hv => ?_⟩
    obtain ⟨m, xs, rfl, hm1, hx⟩ := lst_inv' hv
    exact ⟨m, xs, rfl, woE_le.seq hm1, fun p hp => L.lst s1 hp (dv_rev hx)⟩
  · cases hd
    refine pe_mono (pe_back bk_tup ha (cInt_pe hst) fun _ _ _ q => q) fun σ H Q q => ?_
    have L := Lk.of q
    refine ⟨L.l, L.e, fun v H1 s1 hv => ?_⟩
    obtain ⟨m, xs, rfl, hm1, hx⟩ := tup_inv' hv
    exact ⟨m, xs, rfl, sameT woE_le hm1, fun p hp => L.tup s1 hp (dv_rev hx)⟩
  · cases hd
theorem glB_ok (hs : X.env.scope = sc) (hB : ∀ x ∈ B, X.mg x = none) {g : Str} (h : glB sc B g = true) : Gl X g ∧ X.mg g = none := by
  unfold glB at h
  rw [Bool.and_eq_true, decide_eq_true_iff] at h
  refine ⟨?_, hB g (List.contains_iff_mem.mp h.2)⟩
  show X.env.scope.names.lookup g = _
  rw [hs]
  exact h.1
theorem callL_pe {a : Expr} {p p2 : Pos} {x d : PyData} (ha : PE X a (tLit X.K E env x)) (hst : isStar a = false) (hg : Gl X "list" ∧ X.mg "list" = none) (hd : lstD x = some d) : PE X (.Call (.Name "list" p) [a] [] p2) (tLit X.K E env d) := by
  have base := pe_callTy (pos := p2) (p := p) call_list_of hg.1 hg.2 (by decide +kernel) (pa_cons ha pa_nil (star_eq hst)) (he := star_eq hst)
  unfold lstD at hd
  split at hd
  · cases hd
    refine pe_mono base fun σ H Q q => ?_
    have L := Lk.of q
    refine ⟨L.l, L.e, fun v H1 s1 hv => ?_⟩
    obtain ⟨m, xs, rfl, hm1, hx⟩ := lst_inv' hv
    exact ⟨m, xs, rfl, .inl (woE_le.seq hm1), fun p hp => L.lst s1 hp hx⟩
  · cases hd
    refine pe_mono base fun σ H Q q => ?_
    have L := Lk.of q
    refine ⟨L.l, L.e, fun v H1 s1 hv => ?_⟩
    obtain ⟨m, xs, rfl, hm1, hx⟩ := tup_inv' hv
    exact ⟨m, xs, rfl, .inr (sameT woE_le hm1), fun p hp => L.lst s1 hp hx⟩
  · cases hd
theorem callT_pe {a : Expr} {p p2 : Pos} {x d : PyData} (ha : PE X a (tLit X.K E env x)) (hst : isStar a = false) (hg : Gl X "tuple" ∧ X.mg "tuple" = none) (hd : tupD x = some d) : PE X (.Call (.Name "tuple" p) [a] [] p2) (tLit X.K E env d) := by
  have base := pe_callTy (pos := p2) (p := p) call_tuple_of hg.1 hg.2 (by decide +kernel) (pa_cons ha pa_nil (star_eq hst)) (he := star_eq hst)
  unfold tupD at hd
  split at hd
  · cases hd
    refine pe_mono base fun σ H Q q => ?_
    have L := Lk.of q
    refine ⟨L.l, L.e, fun v H1 s1 hv => ?_⟩
    obtain ⟨m, xs, rfl, hm1, hx⟩ := lst_inv' hv
    exact ⟨m, xs, rfl, .inl ⟨woE_le.seq hm1, fun p hp => L.tup s1 hp hx⟩⟩
  · cases hd
    refine pe_mono base fun σ H Q q => ?_
    have L := Lk.of q
    refine ⟨L.l, L.e, fun v H1 s1 hv => ?_⟩
    obtain ⟨m, xs, rfl, hm1, hx⟩ := tup_inv' hv
    exact ⟨m, xs, rfl, .inr ⟨sameT woE_le hm1, L.here s1 hv⟩⟩
  · cases hd
/-- data made of data -/
theorem lit_pe' (hN : X.N = N) (hs : X.env.scope = sc) (hB : ∀ x ∈ B, X.mg x = none) : ∀ (n : Nat) (e : Expr) (d : PyData), litE N sc B env n e = some d → PE X e (tLit X.K E env d)
  | 0, _, _, h => by cases h
  | n + 1, e, d, h => by
    have ih := lit_pe' hN hs hB n
    have h' : litStep N sc B env (litE N sc B env n) e = some d := h
    unfold litStep at h'
    split at h'
    · exact const_pe h'
    · obtain ⟨x, h1, h2⟩ := Option.bind_eq_some_iff.mp h'
      split at h2
      · cases h2
        refine pe_mono (pe_un un_neg (ih _ _ h1)) fun σ H Q q => ?_
        exact ⟨q.1, q.2.1, fun v H1 s1 hv => ⟨_, int_inv' hv, q.2.2 _ _ s1 (.int _)⟩⟩
      · cases h2
    · obtain ⟨x, h1, h2⟩ := Option.bind_eq_some_iff.mp h'
      obtain ⟨y, h3, h4⟩ := Option.bind_eq_some_iff.mp h2
      exact add_pe (ih _ _ h1) (ih _ _ h3) h4
    · obtain ⟨x, h1, h2⟩ := Option.bind_eq_some_iff.mp h'
      obtain ⟨y, h3, h4⟩ := Option.bind_eq_some_iff.mp h2
      exact pow_pe (ih _ _ h1) (ih _ _ h3) h4
    · obtain ⟨ds, h1, h2⟩ := Option.bind_eq_some_iff.mp h'
      split at h2
      · rename_i hl
        cases h2
        refine pe_mono (pe_lst (lits_pa ih _ _ h1)) fun σ H Q q => ?_
        have L := Lk.of q
        exact ⟨L.l, L.e, fun vs H1 s1 hv => ⟨by rw [hv.len]; exact len1000 hl, fun p hp => L.lst s1 hp hv⟩⟩
      · cases h2
    · obtain ⟨ds, h1, h2⟩ := Option.bind_eq_some_iff.mp h'
      split at h2
      · rename_i hl
        cases h2
        refine pe_mono (pe_tup (lits_pa ih _ _ h1)) fun σ H Q q => ?_
        have L := Lk.of q
        exact ⟨L.l, L.e, fun vs H1 s1 hv => ⟨by rw [hv.len]; exact len1000 hl, fun p hp => L.tup s1 hp hv⟩⟩
      · cases h2
    · cases h'
      refine pe_mono pe_dnewK fun σ H Q q => ?_
      exact fun p hp => q.2.2 _ _ (sameN' hp) (Dv.dct (kvs := []) (ds := []) (woE_new q.1 hp) .nil)
    · exact name_pe hN hs h'
    · obtain ⟨x, h1, h2⟩ := Option.bind_eq_some_iff.mp h'
      exact ix_pe (ih _ _ h1) (const_pe rfl) (fun _ _ => rfl) h2
    · obtain ⟨x, h1, h2⟩ := Option.bind_eq_some_iff.mp h'
      exact ix_pe (ih _ _ h1) (pe_mono (pe_un un_neg pe_int) fun σ H Q q => ⟨_, rfl, q.2.2 _ _ (Same.refl _) (.int _)⟩) (fun _ _ => rfl) h2
    · obtain ⟨x, h1, h2⟩ := Option.bind_eq_some_iff.mp h'
      obtain ⟨l, h3, h4⟩ := Option.bind_eq_some_iff.mp h2
      obtain ⟨u, h5, h6⟩ := Option.bind_eq_some_iff.mp h4
      exact sl_pe (ih _ _ h1) h3 h5 h6
    · obtain ⟨x, h1, h2⟩ := Option.bind_eq_some_iff.mp h'
      exact bk_pe (ih _ _ h1) rfl h2
    · split at h'
      · rename_i hst
        split at h'
        · rename_i hg
          obtain ⟨x, h1, h2⟩ := Option.bind_eq_some_iff.mp h'
          rw [hg.1]
          exact callL_pe (ih _ _ h1) hst (hg.1 ▸ glB_ok hs hB hg.2) h2
        · split at h'
          · rename_i hg
            obtain ⟨x, h1, h2⟩ := Option.bind_eq_some_iff.mp h'
            rw [hg.1]
            exact callT_pe (ih _ _ h1) hst (hg.1 ▸ glB_ok hs hB hg.2) h2
          · cases h'
      · cases h'
    · cases h'
theorem lit_pe {n : Nat} {e : Expr} {d : PyData} (hN : X.N = N) (hs : X.env.scope = sc) (hB : ∀ x ∈ B, X.mg x = none) (h : litE N sc B env n e = some d) : PE X e (tLit X.K E env d) := lit_pe' hN hs hB n e d h
/-- data made of data that is not known yet -/
def tLitX {α : Type} (K : PySem.W.Frag) (Es : α → Addr → Bool) (env : α → List (Nat × PyData)) (d : α → PyData) : TE := fun σ H Q => ∃ x, tLit K (Es x) (env x) (d x) σ H Q
theorem lit_peX {α : Type} {Es : α → Addr → Bool} {envs : α → List (Nat × PyData)} {ds : α → PyData} {n : Nat} {e : Expr} (hN : X.N = N) (hs : X.env.scope = sc) (hB : ∀ x ∈ B, X.mg x = none) (h : ∀ x, litE N sc B (envs x) n e = some (ds x)) : PE X e (tLitX X.K Es envs ds) :=
  ⟨fun pins s σ H Q I ⟨x, q⟩ => (lit_pe' (E := Es x) hN hs hB n e (ds x) (h x)).run pins s σ H Q I q⟩
/-- nothing left out -/
theorem lit0 {K : PySem.W.Frag} {d : PyData} {σ : L2.St} {H : Hp} {Q : VK} (e : EnvD K env σ H) (k : ∀ v H', Same H H' → Dv K H' v d → Q v H') : tLit K (fun _ => false) env d σ H Q :=
  ⟨fun _ z => Bool.noConfusion z, e, k⟩
end
end Own
/-! Shapes and changes are shown. -/
namespace Own
open PySem PySem.Spec PyProof.Rows L2 PySem.W
theorem figs_sz : ∀ f ∈ figs, Sz 2 1 (dF f) := by
  have h : figs.all (fun f => szB 2 1 (dF f)) = true := by decide +kernel
  exact fun f hf => sz_of (List.all_eq_true.mp h f hf)
theorem sz_F {f : Fg} (h : fOk f) : Sz 2 1 (dF f) := figs_sz f (figs_all h)
theorem sz_C {c : Ch} (h : cOk c) : Sz 6 2 (dC c) := (Sz.tup (.cons (sz_F h.1) (.cons (sz_F h.2.1) .nil))).mono (by decide) (by decide)
theorem sz_map {α : Type} [DecidableEq α] [DatumOrd α] {ok : α → Prop} {b m : Nat} (h : ∀ a, ok a → Sz b m (Datum.toD a)) {as : List α} (ha : ∀ a ∈ as, ok a) : SzL ((b + 1) * as.length) m (as.map Datum.toD) := by
  have z := SzL.all (b := b) (m := m) (ds := as.map Datum.toD) fun d hd => by
    obtain ⟨a, hm, rfl⟩ := List.mem_map.mp hd
    exact h a (ha a hm)
  rwa [List.length_map] at z
theorem sz_Fs {fs : List Fg} (h : ∀ f ∈ fs, fOk f) (l : fs.length ≤ 1000) : Sz 3000 2 (.list (fs.map Datum.toD)) := (Sz.lst (sz_map (fun _ => sz_F) h)).mono (by omega) (Nat.le_refl _)
theorem sz_Cs {cs : List Ch} (h : ∀ c ∈ cs, cOk c) (l : cs.length ≤ 1000) : Sz 7000 3 (.list (cs.map Datum.toD)) := (Sz.lst (sz_map (fun _ => sz_C) h)).mono (by omega) (Nat.le_refl _)
end Own
/-! The law's question what a road shows. -/
namespace Own
open PySem PySem.Spec PyProof.Rows L2 PySem.W
abbrev sShw : Stmt := top1 34
theorem passNo {X : Cx} : Passes (L2.CX X.prog X.w) X (fun _ _ _ => False) := fun _ _ _ _ _ _ _ h => by
  obtain ⟨_, _, _, _, _, _, _, _, _, _, _, _, z⟩ := h
  exact z.elim
/-- a property, where it stands -/
def CalPr (P : Program) (w : World) (K : PySem.W.Frag) (mg : Str → Option Value) (base : Heap) (C : Addr) (k : Nat) (x : Str) (sp : Sp) : Prop :=
  ∃ (p g : Addr) (fd : FuncData), PropOf K C x p g ∧ FnOk P w K mg base CX0 k g fd ["self"] sp ∧ Binds K fd ["self"] []
/-- a method, where it stands -/
def CalMe (P : Program) (w : World) (K : PySem.W.Frag) (mg : Str → Option Value) (base : Heap) (CX : CXT) (C : Addr) (k : Nat) (x : Str) (ps : List Str) (sp : Sp) : Prop :=
  ∃ (f : Addr) (fd : FuncData), Meth K C x f ∧ FnOk P w K mg base CX k f fd ps sp ∧ Binds K fd ps []
/-- what a road shows -/
def dueD (fs : List Fg) (cs : List Ch) : PyData := .tuple [.list ((sortT fs).map Datum.toD), .list ((sortT cs).map Datum.toD), .list ((behKeys fs cs).map Datum.toD)]
theorem behKeys_len (fs : List Fg) (cs : List Ch) : (behKeys fs cs).length ≤ fs.length + 2 * cs.length := by
  unfold behKeys
  rw [sortT_len]
  have z := (uniq_len (fs ++ partsC cs)).1
  rw [List.length_append, parts_len] at z
  exact z
theorem behKeys_mem {fs : List Fg} {cs : List Ch} {f : Fg} : f ∈ behKeys fs cs ↔ f ∈ fs ++ partsC cs := by
  unfold behKeys
  rw [sortT_mem, uniq_mem]
theorem due_sz {fs : List Fg} {cs : List Ch} (h : WfR fs cs) : Sz 20000 4 (dueD fs cs) := by
  obtain ⟨⟨_, okf, _, _⟩, ⟨_, okc, _⟩, hl⟩ := h
  have h1 := sz_Fs (fs := sortT fs) (fun f hf => okf f (sortT_mem.mp hf)) (by rw [sortT_len]; omega)
  have h2 := sz_Cs (cs := sortT cs) (fun c hc => okc c (sortT_mem.mp hc)) (by rw [sortT_len]; omega)
  have h3 := sz_Fs (fs := behKeys fs cs) (fun f hf => fp_ok okf okc f (behKeys_mem.mp hf)) (by have := behKeys_len fs cs; omega)
  exact (Sz.tup (.cons h1 (.cons h2 (.cons h3 .nil)))).mono (by decide) (by decide)
theorem laters_ok {fs : List Fg} {cs : List Ch} {f : Fg} (h1 : ∀ f ∈ fs, fOk f) (h2 : ∀ c ∈ cs, cOk c) (hf : f ∈ behKeys fs cs) : ∀ g ∈ laters cs f, fOk g := fun g hg => by
  rcases List.mem_cons.mp hg with e | e
  · rw [e]
    exact fp_ok h1 h2 f (behKeys_mem.mp hf)
  · obtain ⟨c1, hc1, rfl⟩ := List.mem_map.mp e
    exact (h2 c1 (List.mem_filter.mp hc1).1).2.1
theorem laters_len (cs : List Ch) (f : Fg) : (laters cs f).length ≤ cs.length + 1 := by
  have lf := List.length_filter_le (fun c : Ch => decide (c.1 = f)) cs
  show (((cs.filter fun c => decide (c.1 = f)).map (·.2)).length + 1) ≤ _
  rw [List.length_map]
  omega
theorem fresh_of {H H' : Hp} {p : Addr} (s : Same H H') (h : H' p = none) : H p = none := by
  cases q : H p with
  | none => rfl
  | some o => rw [s _ _ q] at h; cases h
def spShw (P : Program) (w : World) (K : PySem.W.Frag) (C : Addr) : Sp := fun vs H Q _ => ∃ (r : Addr) (v : V) (fs : List Fg) (cs : List Ch), vs = [.ref r, v] ∧ RoadAt P w K C H r fs cs ∧ PairR K H v fs cs ∧ ∀ H', Same H H' → Q (.bl true) H'
section
variable {P : Program} {w : World} {K : PySem.W.Frag} {mg : Str → Option Value} {base : Heap}
abbrev CalKno (P : Program) (w : World) (K : PySem.W.Frag) (mg : Str → Option Value) (base : Heap) : Prop := Cal P w K mg base CX0 1 "_law_known" ["road_here"] (spKno K)
theorem sc_shw : FnScope ["one", "road_here", "due", "again", "told", "lot", "figure", "later", "found", "begun", "other"] ["one", "road_here"] (defScope sShw) := ⟨rfl, rfl, rfl, by decide +kernel, rfl, by decide +kernel, by decide +kernel⟩
theorem ok_shw {f C cU : Addr} {fd : FuncData} (F : Fun K "_law_shows" "_law_shows" sShw f fd) (T : Bi4 mg) (TR : TRoad K C) (CK : CalKno P w K mg base) (CB : CalPr P w K mg base C 1 "begin" (spBeg P w K C)) (CC : CalPr P w K mg base C 1 "changes" (spChg P w K C)) (CS : CalPr P w K mg base C 1 "shapes" (spShs P w K C))
    (CM : CalMe P w K mg base (L2.CX P w) C 5 "behind" ["self", "shape"] (spBhd P w K C cU)) : GFn P w K mg base CX0 6 f fd ["one", "road_here"] (spShw P w K C) := by
  obtain ⟨fK, fdK, GK, gK, kK, bK⟩ := CK
  obtain ⟨pB, fB, fdB, PB, GB, bB⟩ := CB
  obtain ⟨pC, fC, fdC, PC', GC, bC⟩ := CC
  obtain ⟨pS, fS, fdS, PS', GS, bS⟩ := CS
  obtain ⟨fM, fdM, MM, GM, bM⟩ := CM
  refine Fun.gok F sc_shw (fun vs H Q E h => ?_) (fun cdv A outer s H vs Q E hg hr h => ?_)
  · obtain ⟨r, v, fs, cs, rfl, _⟩ := h
    rfl
  · obtain ⟨r, v, fs, cs, rfl, R, hv, k⟩ := h
    have hu := hr.units
    have hrM : Room 5 _ := hr
    have hr2 : Room 2 _ := hr.mono (by decide)
    have hr1 : Room 1 _ := hr.mono (by decide)
    have hg2 : (A.deeper (envOfC "_law_shows" (defScope sShw) s.heap.objs.size f cdv)).guards = some [] := hg
    obtain ⟨a, x0, y0, rfl, ha, h1, h2⟩ := hv.inv
    obtain ⟨b, xs, rfl, hb, hx⟩ := h1.lst_inv
    obtain ⟨c, ys, rfl, hc, hy⟩ := h2.lst_inv
    have lx := hx.len
    have ly := hy.len
    rw [List.length_map] at lx ly
    have h300 : 1000 ≤ sizeLine := by decide
    obtain ⟨⟨_, okf, fne, fnd⟩, ⟨_, okc, cnd⟩, hl⟩ := id R.wf
    have sz := (due_sz R.wf).fits (by decide) (by decide)
    refine ⟨_, (pss_cons (ps_set (i := 2) sc_shw.nd rfl (.inl rfl) (pe_callB (call_repr hg2 hu) (by rfl) T.repr (by decide +kernel) (pa_cons (pe_tup (pa_cons (pe_callB (call_sortD hu) (by rfl) T.sorted (by decide +kernel) (pa_cons (pe_ix ix_tup (pv 1) (pe_int) (fun _ _ => rfl)) pa_nil)) (pa_cons (pe_callB (call_sortD hu) (by rfl) T.sorted (by decide +kernel) (pa_cons (pe_ix ix_tup (pv 1) (pe_int) (fun _ _ => rfl)) pa_nil)) (pa_cons (pe_call GK hr1 (by rfl) gK kK bK .nil pass0 (pa_cons (pv 1) pa_nil)) pa_nil)))) pa_nil)))
        (pss_cons (ps_for PassesOwn.never rfl (pi_range1 (by rfl) T.range (pa_cons (pe_int) pa_nil)) (pg_name (i := 3) sc_shw.nd rfl (.inl rfl)) (pss_cons (ps_set (i := 4) sc_shw.nd rfl (.inl rfl) (pe_tup (pa_cons (pe_prop (pv 0) TR.c PB GB hr2 bB .nil pass0 (by rfl)) (pa_cons (pe_prop (pv 0) TR.c PC' GC hr2 bC .nil pass0 (by rfl)) (pa_cons (pe_prop (pv 0) TR.c PS' GS hr2 bS .nil pass0 (by rfl)) pa_nil)))))
        (pss_cons (ps_if (pt_cmpR op_ne (pe_callB (call_repr hg2 hu) (by rfl) T.repr (by decide +kernel) (pa_cons (pv 4) pa_nil)) (pv 2) (nomark _)) (pss_one (ps_ret (pe_bl))) pss_nil)
        (pss_cons (ps_for PassesOwn.never rfl (pi_tup (pv 4)) (pg_name (i := 5) sc_shw.nd rfl (.inl rfl)) (pss_one (ps_expr (pe_bm PySem.F.plainAttrs_list PySem.F.slot_list_append PySem.F.type_list_append mt_append (pv 5) (pa_cons (pe_non) pa_nil)))))
        (pss_one (ps_for PassesOwn.never rfl (pi_list (pe_call GK hr1 (by rfl) gK kK bK .nil pass0 (pa_cons (pv 1) pa_nil))) (pg_name (i := 6) sc_shw.nd rfl (.inr rfl)) (pss_cons (ps_set (i := 7) sc_shw.nd rfl (.inl rfl) (pe_callB (call_sortD hu) (by rfl) T.sorted (by decide +kernel) (pa_cons (pe_op op_catL (pe_lst (pa_cons (pv 6) pa_nil)) (pe_lc (own := [("begun", 9), ("other", 10)]) (g := (gTup K 2 (gCons (gName 9) (gCons (gName 10) gNil)))) rfl sc_shw.nd (pi_list (pe_ix ix_tup (pv 1) (pe_int) (fun _ _ => rfl))) (blkOk_by (N := ["one", "road_here", "due", "again", "told", "lot", "figure", "later", "found", "begun", "other"]) (sc := defScope sShw) (by decide +kernel)) (fun _ _ _ _ _ => (pg_tup rfl (pgs_cons (pg_name (i := 9) sc_shw.nd rfl (.inl rfl)) (pgs_cons (pg_name (i := 10) sc_shw.nd rfl (.inl rfl)) pgs_nil)))) (fun _ _ _ _ _ => (pts_one (pt_cmpR (show OpR _ _ (rEqD K) from op_eqD hu) (pv 9) (pv 6) (nomark _)))) (fun _ _ _ _ _ => (pv 10)))) pa_nil)))
        (pss_cons (ps_set (i := 8) sc_shw.nd rfl (.inl rfl) (pe_meth (pv 0) TR.c MM GM hrM bM .nil passNo (pa_cons (pv 6) pa_nil)))
        (pss_cons (ps_if (pt_cmpR (op_neD hu) (pv 8) (pv 7) (nomark _)) (pss_one (ps_ret (pe_bl))) pss_nil)
        (pss_one (ps_expr (pe_bm0 PySem.F.plainAttrs_list PySem.F.slot_list_clear PySem.F.type_list_clear mt_clear (pv 8)))))))))))))
        (pss_one (ps_ret (pe_bl))))), ?_⟩
    -- due
    refine ⟨_, rfl, a, _, 0, _, rfl, rfl, ha, atI_nat (j := 0) rfl, ?_⟩
    dsimp only [tNil]
    refine rsort (H0 := H) (α := Fg) (Same.refl _) (by decide) (full_F okf) (by omega) hb hx fun p1 z1 hp1 dz1 => ?_
    have s1 : Same H (upd H p1 (.lst z1)) := sameN hp1
    have e1 : (upd H p1 (.lst z1)) p1 = some (.lst z1) := upd_same
    generalize upd H p1 (.lst z1) = H1 at s1 e1 ⊢
    refine ⟨_, rfl, a, _, 1, _, rfl, rfl, sqT_same s1 ha, atI_nat (j := 1) rfl, ?_⟩
    dsimp only [tNil]
    refine rsort (H0 := H) (α := Ch) s1 (by decide) (full_C cs) (by omega) (s1.seq hc) hy fun p2 z2 hp2 dz2 => ?_
    have s2 : Same H (upd H1 p2 (.lst z2)) := s1.trans (sameN hp2)
    have e2 : (upd H1 p2 (.lst z2)) p2 = some (.lst z2) := upd_same
    have e1 := sameN (o := .lst z2) hp2 _ _ e1
    generalize upd H1 p2 (.lst z2) = H2 at s2 e1 e2 ⊢
    refine ⟨_, rfl, .ref a, fs, cs, rfl, Dv.same s2 hv, hl, okf, okc, fun H3 p3 z3 s3 hp3 dz3 => ?_⟩
    have s4 : Same H2 (upd H3 p3 (.lst z3)) := s3.trans (sameN hp3)
    have e3 : (upd H3 p3 (.lst z3)) p3 = some (.lst z3) := upd_same
    have e1 := s4 _ _ e1
    have e2 := s4 _ _ e2
    have dz3 := dz3.same s4
    have s5 := s2.trans s4
    generalize upd H3 p3 (.lst z3) = H4 at s5 e1 e2 e3 dz3 ⊢
    refine ⟨by show 3 ≤ sizeLine; decide, fun t ht => ?_⟩
    have st : Same H4 (upd H4 t (.tup [.ref p1, .ref p2, .ref p3])) := sameN ht
    have s6 := s5.trans st
    refine ⟨.ref t, dueD fs cs, rfl, .tup (SqT.of upd_same) (.cons (.lst (SqL.of (st _ _ e1)) (dz1.same s6)) (.cons (.lst (SqL.of (st _ _ e2)) (dz2.same s6)) (.cons (.lst (SqL.of (st _ _ e3)) (dz3.same st)) .nil))), sz.1, sz.2.1, sz.2.2, ?_⟩
    generalize upd H4 t (.tup [.ref p1, .ref p2, .ref p3]) = H5 at s6 ⊢
    -- twice
    refine ⟨2, rfl, by decide, by decide, for_range (n := 2) (fun i σ H' => (∃ v3 v4 v5 v6 v7 v8, σ = [some (.ref r), some (.ref a), some (.str (dueD fs cs).shown), v3, v4, v5, v6, v7, v8, none, none]) ∧ Same H H') ⟨⟨_, _, _, _, _, _, rfl⟩, s6⟩ ?_ ?_⟩
    · rintro i σ H6 hi ⟨⟨v3, v4, v5, v6, v7, v8, rfl⟩, s7⟩
      obtain ⟨dx, fl, b1, c1, d1, q0, q1, q2, q3, q4, q5, q6⟩ := (R.same s7).ex
      refine ⟨_, rfl, r, dx, fl, rfl, q0, r, fs, cs, rfl, R.same s7, fun p1 z1 hp1 dz1 => ?_⟩
      have t1 : Same H6 (upd H6 p1 (.lst z1)) := sameN hp1
      have n1 := fresh_of s7 hp1
      have g1 : (upd H6 p1 (.lst z1)) p1 = some (.lst z1) := upd_same
      have m1 := dz1.len
      rw [List.length_map, sortT_len] at m1
      generalize upd H6 p1 (.lst z1) = H7 at t1 g1 ⊢
      have s8 := s7.trans t1
      refine ⟨_, rfl, r, dx, fl, rfl, t1 _ _ q0, r, fs, cs, rfl, R.same s8, fun p2 z2 hp2 dz2 => ?_⟩
      have t2 : Same H7 (upd H7 p2 (.lst z2)) := sameN hp2
      have n2 := fresh_of s8 hp2
      have g2 : (upd H7 p2 (.lst z2)) p2 = some (.lst z2) := upd_same
      have m2 := dz2.len
      rw [List.length_map, sortT_len] at m2
      have g1 := t2 _ _ g1
      generalize upd H7 p2 (.lst z2) = H8 at t2 g1 g2 ⊢
      have s9 := s8.trans t2
      refine ⟨_, rfl, r, dx, fl, rfl, t2 _ _ (t1 _ _ q0), r, fs, cs, rfl, R.same s9, fun p3 z3 hp3 dz3 => ?_⟩
      have t3 : Same H8 (upd H8 p3 (.lst z3)) := sameN hp3
      have n3 := fresh_of s9 hp3
      have g3 : (upd H8 p3 (.lst z3)) p3 = some (.lst z3) := upd_same
      have m3 := dz3.len
      rw [List.length_map] at m3
      have m3' := behKeys_len fs cs
      have g1 := t3 _ _ g1
      have g2 := t3 _ _ g2
      generalize upd H8 p3 (.lst z3) = H9 at t3 g1 g2 g3 ⊢
      have s10 := s9.trans t3
      refine ⟨by show 3 ≤ sizeLine; decide, fun t ht => ?_⟩
      have st : Same H9 (upd H9 t (.tup [.ref p1, .ref p2, .ref p3])) := sameN ht
      have et : (upd H9 t (.tup [.ref p1, .ref p2, .ref p3])) t = some (.tup [.ref p1, .ref p2, .ref p3]) := upd_same
      have s11 := s10.trans st
      have g1 := st _ _ g1
      have g2 := st _ _ g2
      have g3 := st _ _ g3
      have D1 := dz1.same (((t1.trans t2).trans t3).trans st)
      have D2 := dz2.same ((t2.trans t3).trans st)
      have D3 := dz3.same (t3.trans st)
      have nt := fresh_of s10 ht
      have ne1 : p1 ≠ t := ne_of g1 et (fun z => nomatch z)
      have ne2 : p2 ≠ t := ne_of g2 et (fun z => nomatch z)
      have ne3 : p3 ≠ t := ne_of g3 et (fun z => nomatch z)
      generalize upd H9 t (.tup [.ref p1, .ref p2, .ref p3]) = H10 at s11 et g1 g2 g3 D1 D2 D3 ⊢
      refine ⟨_, rfl, .ref t, dueD fs cs, rfl, .tup (SqT.of et) (.cons (.lst (SqL.of g1) D1) (.cons (.lst (SqL.of g2) D2) (.cons (.lst (SqL.of g3) D3) .nil))), sz.1, sz.2.1, sz.2.2, _, rfl, rfl, _, rfl, iteNb (by simp) ?_⟩
      -- the lists are changed
      refine ⟨_, rfl, t, rfl, ⟨_, SqT.of et⟩, for_tup (K := K) (xs := [p1, p2, p3].map V.ref) (fun i σ H' => (∃ v3 v5 v6 v7 v8, σ = [some (.ref r), some (.ref a), some (.str (dueD fs cs).shown), v3, some (.ref t), v5, v6, v7, v8, none, none]) ∧ Same H H' ∧ H' t = some (.tup ([p1, p2, p3].map V.ref)) ∧ ∀ q ∈ [p1, p2, p3], ∃ l, H' q = some (.lst l) ∧ l.length ≤ 300 + i) ⟨⟨_, _, _, _, _, rfl⟩, s11, et, ?_⟩ (fun i σ H' _ ⟨_, _, h, _⟩ => SqT.of h) ?_ ?_⟩
      · intro q hq
        rcases List.mem_cons.mp hq with rfl | hq
        · exact ⟨z1, g1, by omega⟩
        · rcases List.mem_cons.mp hq with rfl | hq
          · exact ⟨z2, g2, by omega⟩
          · rcases List.mem_cons.mp hq with rfl | hq
            · exact ⟨z3, g3, by omega⟩
            · cases hq
      · rintro j x σ H11 hj ⟨⟨v3, v5, v6, v7, v8, rfl⟩, s12, et2, al⟩
        have jl : j < 3 := (List.getElem?_eq_some_iff.mp hj).1
        rw [List.getElem?_map] at hj
        obtain ⟨q, eq, rfl⟩ := Option.map_eq_some_iff.mp hj
        have hq := List.mem_of_getElem? eq
        obtain ⟨l, el, ll⟩ := al q hq
        have nq : q ≠ t ∧ H q = none := by
          rcases List.mem_cons.mp hq with rfl | hq
          · exact ⟨ne1, n1⟩
          · rcases List.mem_cons.mp hq with rfl | hq
            · exact ⟨ne2, n2⟩
            · rcases List.mem_cons.mp hq with rfl | hq
              · exact ⟨ne3, n3⟩
              · cases hq
        refine ⟨_, rfl, .inl ⟨rfl, _, SqL.of el⟩, q, l, _, rfl, rfl, el, by omega, ⟨_, _, _, _, _, rfl⟩, fun b o e => ?_, ?_, fun q' hq' => ?_⟩
        · rw [upd_ne (ne_of_none e nq.2)]
          exact s12 _ _ e
        · rw [upd_ne nq.1.symm]
          exact et2
        · by_cases e : q' = q
          · subst e
            exact ⟨_, upd_same, by rw [List.length_append, List.length_singleton]; omega⟩
          · obtain ⟨l', el', ll'⟩ := al q' hq'
            exact ⟨l', by rw [upd_ne e]; exact el', by omega⟩
      · rintro σ H11 ⟨⟨v3, v5, v6, v7, v8, rfl⟩, s12, _, _⟩
        -- what may follow
        refine ⟨_, rfl, .ref a, fs, cs, rfl, Dv.same s12 hv, hl, okf, okc, fun H12 T1 zs s13 hT1 dzs => ?_⟩
        have sT : Same H11 (upd H12 T1 (.lst zs)) := s13.trans (sameN hT1)
        have eT : (upd H12 T1 (.lst zs)) T1 = some (.lst zs) := upd_same
        have s14 := s12.trans sT
        have dzs := dzs.same sT
        generalize upd H12 T1 (.lst zs) = H13 at s14 eT dzs ⊢
        refine ⟨T1, rfl, ⟨_, SqL.of eT⟩, ?_⟩
        refine for_list (xs := zs) (fun i σ H' => (∃ v3 v4 v5 v6 v7 v8, σ = [some (.ref r), some (.ref a), some (.str (dueD fs cs).shown), v3, v4, v5, v6, v7, v8, none, none]) ∧ Same H13 H') ⟨⟨_, _, _, _, _, _, rfl⟩, Same.refl _⟩ (fun i σ H' _ ⟨_, s15⟩ => SqL.of (s15 _ _ eT)) ?_ ?_
        · rintro j x σ H14 hj ⟨⟨v3, v4, v5, v6, v7, v8, rfl⟩, s15⟩
          obtain ⟨dx', ex, hdx⟩ := dzs.get hj
          rw [List.getElem?_map] at ex
          obtain ⟨g, eg, rfl⟩ := Option.map_eq_some_iff.mp ex
          have hgm := List.mem_of_getElem? eg
          have s16 := s14.trans s15
          refine ⟨_, rfl, by show 1 ≤ sizeLine; decide, fun l hl0 => ?_⟩
          have s17 : Same H14 (upd H14 l (.lst [x])) := sameN hl0
          have hl7 : (upd H14 l (.lst [x])) l = some (.lst [x]) := upd_same
          have hq := hdx.same s15
          generalize upd H14 l (.lst [x]) = H15 at s17 hl7 ⊢
          have s18 := s16.trans s17
          refine ⟨_, rfl, a, _, 1, _, rfl, rfl, sqT_same s18 ha, atI_nat (j := 1) rfl, c, rfl, ⟨ys, s18.seq hc⟩, fun D4 hD4 => out_list (xs := ys) (fun j H' => ∃ ac, H' D4 = some (.lst ac) ∧ DvAll K H ac ((((cs.take j).filter fun c => decide (c.1 = g)).map (·.2)).map Datum.toD) ∧ Same H15 H') ⟨[], upd_same, .nil, sameN hD4⟩ (fun j H' _ ⟨_, _, _, s8⟩ => (s18.trans s8).seq hc) (fun j x1 H' hj ⟨ac, h1, h2, s8⟩ => ?_) (fun H8 ⟨ac, h1, h2, s8⟩ => ?_)⟩
          · obtain ⟨dx, ex, hdx⟩ := hy.get hj
            rw [List.getElem?_map] at ex
            obtain ⟨ch, ech, rfl⟩ := Option.map_eq_some_iff.mp ex
            obtain ⟨a', x1, x2, rfl, ha', hd1, hd2⟩ := dv_ch hdx
            have s9 := s18.trans s8
            refine ⟨a', _, rfl, sqT_same s9 ha', rfl, x1, _, rfl, x2, _, rfl, rfl, rfl, _, rfl, _, rfl, dF ch.1, dF g, dp_plain (hd1.same s9) (Datum.plain ch.1), dp_plain (hq.same (s17.trans s8)) (Datum.plain g), shp_F ch.1, shp_F g, _, rfl, ?_⟩
            have ev : PyData.eqv (dF ch.1) (dF g) = decide (ch.1 = g) := Datum.eqv ch.1 g
            rw [ev, take_one ech, List.filter_append, List.map_append, List.map_append]
            by_cases hcf : ch.1 = g
            · have e1 : [ch].filter (fun c => decide (c.1 = g)) = [ch] := by simp [hcf]
              rw [e1]
              refine iteYb (decide_eq_true hcf) ⟨_, rfl, ac, h1, ?_, ac ++ [x2], upd_same, h2.snoc hd2, fun y o e => ?_⟩
              · have la := h2.len
                rw [List.length_map, List.length_map] at la
                have lf := List.length_filter_le (fun c : Ch => decide (c.1 = g)) (cs.take j)
                rw [List.length_take] at lf
                have lm := Nat.min_le_right j cs.length
                omega
              · rw [upd_ne (ne_of_none e hD4)]
                exact s8 _ _ e
            · have e1 : [ch].filter (fun c => decide (c.1 = g)) = [] := by simp [hcf]
              rw [e1]
              exact iteNb (decide_eq_false hcf) ⟨ac, h1, by simpa using h2, s8⟩
          · rw [show ys.length = cs.length from ly, List.take_length] at h2
            have la := h2.len
            have lf := List.length_filter_le (fun c : Ch => decide (c.1 = g)) cs
            rw [List.length_map, List.length_map] at la
            refine ⟨l, D4, [x], ac, rfl, rfl, SqL.of (s8 _ _ hl7), SqL.of h1, by rw [List.length_singleton]; omega, fun p2 hp2 => ?_⟩
            have s19 := s17.trans s8
            have s20 : Same H14 (upd H8 p2 (.lst ([x] ++ ac))) := s19.trans (sameN hp2)
            have hall2 : DvAll K H14 ([x] ++ ac) ((laters cs g).map Datum.toD) := .cons hq (h2.same s16)
            have ep2 : (upd H8 p2 (.lst ([x] ++ ac))) p2 = some (.lst ([x] ++ ac)) := upd_same
            generalize upd H8 p2 (.lst ([x] ++ ac)) = H16 at s20 ep2 ⊢
            have okl := laters_ok okf okc hgm
            have lll := laters_len cs g
            dsimp only [tNil]
            refine rsort (H0 := H14) (α := Fg) s20 (by decide) (full_F okl) (by omega) (SqL.of ep2) hall2 fun p5 z5 hp5 dz5 => ?_
            have s21 : Same H14 (upd H16 p5 (.lst z5)) := s20.trans (sameN hp5)
            have e5 : (upd H16 p5 (.lst z5)) p5 = some (.lst z5) := upd_same
            have dz5 := dz5.same s21
            generalize upd H16 p5 (.lst z5) = H17 at s21 e5 dz5 ⊢
            have s22 := s16.trans s21
            have R2 := R.same s22
            obtain ⟨dx, fl, b1, c1, d1, q0, _⟩ := R2.ex
            refine ⟨_, rfl, r, dx, fl, rfl, q0, R2.nm _ _ _ q0 "behind" (by decide) (by decide) (by decide), _, rfl, r, x, dF g, fs, cs, rfl, R2, hq.same s21, fun g' eg' _ _ H18 p6 z6 s23 hp6 dz6 => ?_, fun z => absurd hgm (z g rfl (fp_ok okf okc g (behKeys_mem.mp hgm)))⟩
            rw [← toF_inj eg'] at dz6
            have s24 : Same H17 (upd H18 p6 (.lst z6)) := s23.trans (sameN hp6)
            have e6 : (upd H18 p6 (.lst z6)) p6 = some (.lst z6) := upd_same
            have dz6 := dz6.same (sameN (o := .lst z6) hp6)
            have n6 : H13 p6 = none := fresh_of s15 (fresh_of s21 (fresh_of s23 hp6))
            generalize upd H18 p6 (.lst z6) = H19 at s24 e6 dz6 ⊢
            have pf : ∀ fs : List Fg, (PyData.list (fs.map Datum.toD)).plain = true := fun fs => Datum.plain (α := List Fg) fs
            have ev : PyData.eqv (.list ((sortT (laters cs g)).map Datum.toD)) (.list ((sortT (laters cs g)).map Datum.toD)) = true := by
              rw [eqv_Fs]
              exact decide_eq_true rfl
            refine ⟨_, rfl, _, rfl, _, _, dp_plain (.lst (SqL.of e6) dz6) (pf _), dp_plain ((Dv.lst (SqL.of e5) dz5).same s24) (pf _), shp_Fs _, shp_Fs _, _, rfl, iteNb (by rw [ev]; rfl) ?_⟩
            refine ⟨_, rfl, .inl ⟨rfl, _, SqL.of e6⟩, p6, z6, rfl, rfl, e6, ⟨_, _, _, _, _, _, rfl⟩, fun b o e => ?_⟩
            rw [upd_ne (ne_of_none e n6)]
            exact s24 _ _ (s21 _ _ (s15 _ _ e))
        · rintro σ H14 ⟨⟨v3, v4, v5, v6, v7, v8, rfl⟩, s15⟩
          exact ⟨⟨_, _, _, _, _, _, rfl⟩, s14.trans s15⟩
    · rintro σ H6 ⟨⟨v3, v4, v5, v6, v7, v8, rfl⟩, s7⟩
      exact k _ s7
end
end Own
/-! Odd changes, drawn. -/
namespace Own
open PySem PySem.Spec PyProof.Rows L2 PySem.W
abbrev sOdc : Stmt := top1 35
/-- a text begins as a shape does -/
def lookB (x : Str) : Bool := match x.cps.toList with
  | a :: b :: _ => (a == 40) && decide (48 ≤ b) && decide (b ≤ 57)
  | _ => false
def figB (d : PyData) : Bool := isFig d || !lookB d.shown || figs.all fun f => !(d.shown == (dF f).shown)
theorem figs_look : ∀ f ∈ figs, lookB (dF f).shown = true := by
  have h : figs.all (fun f => lookB (dF f).shown) = true := by decide +kernel
  exact fun f hf => List.all_eq_true.mp h f hf
theorem figs_inj : ∀ f ∈ figs, ∀ g ∈ figs, (dF f).shown = (dF g).shown → f = g := by
  have h : figs.all (fun f => figs.all fun g => decide (f = g) || !((dF f).shown == (dF g).shown)) = true := by decide +kernel
  intro f hf g hg e
  have z := List.all_eq_true.mp (List.all_eq_true.mp h f hf) g hg
  rw [e, beq_self_eq_true, Bool.not_true, Bool.or_false, decide_eq_true_iff] at z
  exact z
theorem figD_of {d : PyData} (h : figB d = true) : FigD d := by
  intro f hf e
  unfold figB at h
  rw [Bool.or_eq_true, Bool.or_eq_true, Bool.not_eq_true'] at h
  rcases h with (h | h) | h
  · obtain ⟨g, rfl, ok⟩ := fig_ex h
    rw [figs_inj g (figs_all ok) f hf e]
  · rw [e, figs_look f hf] at h
    cases h
  · have z := List.all_eq_true.mp h f hf
    rw [e, beq_self_eq_true] at z
    cases z
/-- what may stand among changes -/
structure ElC (d : PyData) : Prop where
  parts : PartsOk d
  len : lenT d < 300
  sz : Sz 200 6 d
def elB (d : PyData) : Bool := decide (lenT d < 300) && szB 200 6 d && match d with
  | .tuple ps => ps.all fun x => szB 200 6 x && figB x
  | _ => true
theorem elC_of {d : PyData} (h : elB d = true) : ElC d := by
  unfold elB at h
  rw [Bool.and_eq_true, Bool.and_eq_true, decide_eq_true_iff] at h
  refine ⟨fun ds e x hx => ?_, h.1.1, sz_of h.1.2⟩
  subst e
  have z := List.all_eq_true.mp h.2 x hx
  rw [Bool.and_eq_true] at z
  exact ⟨(sz_of z.1).fits (by decide) (by decide), figD_of z.2⟩
theorem elC_C {c : Ch} (h : cOk c) : ElC (dC c) := by
  refine ⟨fun ds e x hx => ?_, by show 2 < 300; decide, (sz_C h).mono (by decide) (by decide)⟩
  have e' : PyData.tuple [dF c.1, dF c.2] = .tuple ds := e
  injection e' with e'
  subst e'
  rcases List.mem_cons.mp hx with rfl | hx
  · exact ⟨(sz_F h.1).fits (by decide) (by decide), figD_of (by unfold figB; rw [show isFig (dF c.1) = true from h.1]; rfl)⟩
  · rcases List.mem_cons.mp hx with rfl | hx
    · exact ⟨(sz_F h.2.1).fits (by decide) (by decide), figD_of (by unfold figB; rw [show isFig (dF c.2) = true from h.2.1]; rfl)⟩
    · cases hx
/-- what is known of odd changes -/
structure OddC (d : PyData) : Prop where
  sz : Sz 200 6 d
  lst : ∀ ds, d = .list ds → d.plain = true ∧ SeqAt.shaped d = true ∧ ds.length ≤ 2 ∧ ∀ e ∈ ds, ElC e
  non : isL d = false → ElC d
def oddB (d : PyData) : Bool := szB 200 6 d && match d with
  | .list ds => d.plain && SeqAt.shaped d && decide (ds.length ≤ 2) && ds.all elB
  | d => elB d
theorem oddC_of {d : PyData} (h : oddB d = true) : OddC d := by
  unfold oddB at h
  rw [Bool.and_eq_true] at h
  refine ⟨sz_of h.1, fun ds e => ?_, fun hn => ?_⟩
  · subst e
    have z := h.2
    simp only [Bool.and_eq_true, decide_eq_true_iff] at z
    exact ⟨z.1.1.1, z.1.1.2, z.1.2, fun e he => elC_of (List.all_eq_true.mp z.2 e he)⟩
  · cases d with
    | list ds => cases hn
    | _ => exact elC_of h.2
def oddA (f g : PyData) : List PyData := [.none, .int 0, .str "", .tuple [], .dict [], .list [.none], .list [.tuple [f, g], .tuple [f, g]], .list [.list [f, g]], .list [.tuple [f]], .list [.tuple [f, g, f]], .tuple [.tuple [f, g]], .list [f]]
def oddA2 (f g : PyData) : List PyData := [.list [.tuple [f, f]], .list [.tuple [.tuple [.int 6], .tuple [.int 0]]], .list [.tuple [.tuple [.bool true], .tuple [.int 0]]], .list [.tuple [f, g], .tuple [g, f]], .list [.tuple [g, .none]], .list [.list []]]
def oddA3 (f g : PyData) : List PyData := [.list [.tuple [.tuple [.int 0], .tuple [.int 6]]], .list [.tuple [.tuple [.int 0], .tuple [.bool true]]], .list [.tuple [.tuple [.int 0], .tuple [.int 1, .int 1]]], .list [.tuple [.tuple [.int 0], .tuple []]], .list [.tuple [f, .list [.int 1]]], .list [.tuple [.tuple [.int 0], .str "a"]]]
def oddCs (f g : PyData) : List PyData := oddA f g ++ oddA2 f g ++ oddA3 f g
theorem odd_all : ((figs.take 6).all fun f => (figs.drop 6).all fun g => (oddCs (dF f) (dF g)).all oddB) = true := by decide +kernel
theorem odd_ok {f g : Fg} (hf : f ∈ figs.take 6) (hg : g ∈ figs.drop 6) {d : PyData} (h : d ∈ oddCs (dF f) (dF g)) : OddC d :=
  oddC_of (List.all_eq_true.mp (List.all_eq_true.mp (List.all_eq_true.mp odd_all f hf) g hg) d h)
/-! ### data made beside the pen -/
theorem woE_p (p : Addr) (H : Hp) : woE (fun b => decide (b = p)) H = wod p H := by
  funext b
  unfold woE wod
  by_cases h : b = p
  · rw [if_pos (decide_eq_true h), if_pos h]
  · rw [if_neg (by simp [h]), if_neg h]
abbrev notP (p : Addr) : Addr → Bool := fun b => decide (b = p)
theorem litP {K : PySem.W.Frag} {env : List (Nat × PyData)} {p a : Addr} {ns : List Int} {i n : Int} {d : PyData} {σ : L2.St} {H : Hp} {Q : VK} (L : Pen H p a ns i n) (e : EnvD K env σ (wod p H)) (k : ∀ v H', Same H H' → Pen H' p a ns i n → Dv K (wod p H') v d → Q v H') : tLit K (notP p) env d σ H Q := by
  refine ⟨fun b z => ⟨_, (congrArg H (of_decide_eq_true z)).trans L.hp⟩, (woE_p p H).symm ▸ e, fun v H' s h => ?_⟩
  have h : Dv K (wod p H') v d := woE_p p H' ▸ h
  exact k v H' s ⟨s _ _ L.hp, s _ _ L.ha, L.len, L.hi, L.hn⟩ h
theorem env1 {K : PySem.W.Frag} {σ : L2.St} {H : Hp} {i : Nat} {v : V} {d : PyData} (h : σ[i]? = some (some v)) (hv : Dv K H v d) : EnvD K [(i, d)] σ H := fun q hq => by
  rw [List.mem_singleton.mp hq]
  exact ⟨v, h, hv⟩
theorem envC {K : PySem.W.Frag} {σ : L2.St} {H : Hp} {i : Nat} {v : V} {d : PyData} {env : List (Nat × PyData)} (h : σ[i]? = some (some v)) (hv : Dv K H v d) (r : EnvD K env σ H) : EnvD K ((i, d) :: env) σ H := fun q hq => by
  rcases List.mem_cons.mp hq with e | e
  · rw [e]
    exact ⟨v, h, hv⟩
  · exact r q e
def spOdc (K : PySem.W.Frag) : Sp := fun vs H Q _ => ∃ (p a : Addr) (ns : List Int) (i n : Int), vs = [.ref p] ∧ Pen H p a ns i n ∧ i ≤ 100000000 ∧
  ∀ (H' : Hp) (v : V) (d : PyData) (i' n' : Int), Pen H' p a ns i' n' → i' ≤ i + 3 → KB p H H' → Dv K (wod p H') v d → OddC d → Q v H'
section
variable {P : Program} {w : World} {K : PySem.W.Frag} {mg : Str → Option Value} {base : Heap}
theorem sc_odc : FnScope ["pen", "good", "some"] ["pen"] (defScope sOdc) := ⟨rfl, rfl, rfl, by decide +kernel, rfl, by decide +kernel, by decide +kernel⟩
theorem fig_at {K : PySem.W.Frag} {H : Hp} {xs : List V} {j : Int} (dv : DvAll K H xs (figs.map Datum.toD)) (h0 : 0 ≤ j) (h9 : j < 36) : ∃ v f, atI xs j = some v ∧ Dv K H v (dF f) ∧ figs[j.toNat]? = some f := by
  have ly := dv.len
  rw [List.length_map, figs_len] at ly
  have hk : j.toNat < xs.length := by omega
  obtain ⟨y, ey⟩ : ∃ y, xs[j.toNat]? = some y := ⟨_, List.getElem?_eq_getElem hk⟩
  obtain ⟨dy, edy, hdy⟩ := dv.get ey
  rw [List.getElem?_map] at edy
  obtain ⟨g, eg, rfl⟩ := Option.map_eq_some_iff.mp edy
  refine ⟨y, g, ?_, hdy, eg⟩
  have z := atI_nat (xs := xs) ey
  rwa [Int.toNat_of_nonneg h0] at z
theorem ok_odc {f : Addr} {fd : FuncData} (F : Fun K "_law_odd_changes" "_law_odd_changes" sOdc f fd) (T : Bi4 mg) (CD : CalDr P w K mg base) (CF : CalFgs P w K mg base) : FnOk P w K mg base CX0 3 f fd ["pen"] (spOdc K) := by
  obtain ⟨fD, fdD, GD, gD, kD, bD⟩ := CD
  obtain ⟨fF, fdF, GF, gF, kF', bF⟩ := CF
  refine F.ok sc_odc (fun vs H Q E h => ?_) (fun cdv A outer s H vs Q E hr h => ?_)
  · obtain ⟨p, a, ns, i, n, rfl, _⟩ := h
    rfl
  · obtain ⟨p, a, ns, i, n, rfl, L, hi9, k⟩ := h
    have hrD : Room 2 _ := hr
    have hrF : Room 1 _ := hr.mono (by decide)
    have hB : ∀ x ∈ (["list"] : List Str), mg x = none := fun x hx => by
      rw [List.mem_singleton.mp hx]
      exact T.list
    refine ⟨_, (pss_cons (ps_set (i := 1) sc_odc.nd rfl (.inl rfl) (pe_tup (pa_cons (pe_ix ix_list (pe_call0 GF hrF (by rfl) gF kF' bF .nil pass0) (pe_call GD hrD (by rfl) gD kD bD .nil pass0 (pa_cons (pv 0) (pa_cons (pe_int) pa_nil))) (fun _ _ => rfl)) (pa_cons (pe_ix ix_list (pe_call0 GF hrF (by rfl) gF kF' bF .nil pass0) (pe_op op_add (pe_int) (pe_call GD hrD (by rfl) gD kD bD .nil pass0 (pa_cons (pv 0) (pa_cons (pe_int) pa_nil)))) (fun _ _ => rfl)) pa_nil))))
        (pss_cons (ps_set (i := 2) sc_odc.nd rfl (.inl rfl) (lit_peX (α := PyData × PyData) (n := 12) (N := ["pen", "good", "some"]) (sc := defScope sOdc) (B := ["list"]) (Es := fun _ => notP p) (envs := fun x => [(1, .tuple [x.1, x.2])]) (ds := fun x => .list (oddA x.1 x.2)) rfl rfl hB (fun x => by kernel_rfl)))
        (pss_cons (ps_set (i := 2) sc_odc.nd rfl (.inl rfl) (lit_peX (α := PyData × PyData) (n := 12) (N := ["pen", "good", "some"]) (sc := defScope sOdc) (B := ["list"]) (Es := fun _ => notP p) (envs := fun x => [(1, .tuple [x.1, x.2]), (2, .list (oddA x.1 x.2))]) (ds := fun x => .list (oddA x.1 x.2 ++ oddA2 x.1 x.2)) rfl rfl hB (fun x => by kernel_rfl)))
        (pss_cons (ps_set (i := 2) sc_odc.nd rfl (.inl rfl) (lit_peX (α := PyData × PyData) (n := 12) (N := ["pen", "good", "some"]) (sc := defScope sOdc) (B := ["list"]) (Es := fun _ => notP p) (envs := fun x => [(1, .tuple [x.1, x.2]), (2, .list (oddA x.1 x.2 ++ oddA2 x.1 x.2))]) (ds := fun x => .list (oddCs x.1 x.2)) rfl rfl hB (fun x => by kernel_rfl)))
        (pss_one (ps_ret (pe_ix ix_list (pv 2) (pe_call GD hrD (by rfl) gD kD bD .nil pass0 (pa_cons (pv 0) (pa_cons (pe_callB call_len_seq (by rfl) T.len PySem.boot_len (pa_cons (pv 2) pa_nil)) pa_nil))) (fun _ _ => rfl)))))))), ?_⟩
    refine ⟨rfl, fun H0 r ys s0 hrH hr0 tp => ?_⟩
    have nrp : r ≠ p := (ne_of_none L.hp hrH).symm
    have L0 : Pen H0 p a ns i n := ⟨s0 _ _ L.hp, s0 _ _ L.ha, L.len, L.hi, L.hn⟩
    have dv0 : DvAll K (wod p H0) ys (figs.map Datum.toD) := by
      have z := tups_dv (K := K) (tp.keep (H' := wod p H0) fun b xs e => by rw [wod_ne (ne_of e L0.hp (fun z => nomatch z))]; exact e)
      exact z
    refine ⟨_, rfl, p, a, ns, i, n, 6, rfl, L0, by omega, by decide, by decide, fun d i1 n1 H1 d0 du L1 hi1 kb1 => ?_⟩
    obtain ⟨v1, f1, at1, hv1, ef1⟩ := fig_at dv0 d0 (by omega)
    refine ⟨r, ys, d, v1, rfl, rfl, SqL.of (kb1 _ _ nrp hr0), at1, rfl, fun H2 r2 ys2 s2 hrH2 hr2 tp2 => ?_⟩
    have kb2 : KB p H0 H2 := KB.trans kb1 (KB.same s2)
    have L2 : Pen H2 p a ns i1 n1 := ⟨s2 _ _ L1.hp, s2 _ _ L1.ha, L1.len, L1.hi, L1.hn⟩
    have nrp2 : r2 ≠ p := (ne_of_none L1.hp hrH2).symm
    have dv2 : DvAll K (wod p H2) ys2 (figs.map Datum.toD) := by
      have z := tups_dv (K := K) (tp2.keep (H' := wod p H2) fun b xs e => by rw [wod_ne (ne_of e L2.hp (fun z => nomatch z))]; exact e)
      exact z
    refine ⟨_, rfl, p, a, ns, i1, n1, 30, rfl, L2, by omega, by decide, by decide, fun e i3 n3 H3 e0 eu L3 hi3 kb3 => ⟨_, _, rfl, rfl, ?_⟩⟩
    obtain ⟨v2, f2, at2, hv2, ef2⟩ := fig_at (j := 6 + e) dv2 (by omega) (by omega)
    refine ⟨r2, ys2, _, v2, rfl, rfl, SqL.of (kb3 _ _ nrp2 hr2), at2, by show 2 ≤ sizeLine; decide, fun t ht => ?_⟩
    have sm1 : f1 ∈ figs.take 6 := by
      refine List.mem_of_getElem? (i := d.toNat) ?_
      rw [List.getElem?_take_of_lt (by omega)]
      exact ef1
    have sm2 : f2 ∈ figs.drop 6 := by
      refine List.mem_of_getElem? (i := e.toNat) ?_
      rw [List.getElem?_drop, ← ef2]
      congr 1
      omega
    have kbH3 : KB p H H3 := ((KB.same s0).trans kb2).trans kb3
    have ntp : t ≠ p := (ne_of_none L3.hp ht).symm
    have st : Same H3 (upd H3 t (.tup [v1, v2])) := sameN ht
    have L4 := pen_fresh (o := .tup [v1, v2]) L3 ht
    have hg : Dv K (wod p (upd H3 t (.tup [v1, v2]))) (.ref t) (.tuple [dF f1, dF f2]) := by
      refine .tup (SqT.of (by rw [wod_ne ntp, upd_same])) (.cons ?_ (.cons ?_ .nil))
      · exact ((hv1.same (KB.wo kb2)).same (KB.wo kb3)).same (wod_mono st)
      · exact (hv2.same (KB.wo kb3)).same (wod_mono st)
    have kb4 : KB p H (upd H3 t (.tup [v1, v2])) := kbH3.trans (KB.same st)
    generalize upd H3 t (.tup [v1, v2]) = H4 at L4 hg kb4 ⊢
    clear st ht
    refine ⟨(dF f1, dF f2), litP L4 (env1 rfl hg) fun v5 H5 s5 L5 hv5 => ?_⟩
    have hg5 := hg.same (wod_mono (d := p) s5)
    refine ⟨(dF f1, dF f2), litP L5 (envC rfl hg5 (env1 rfl hv5)) fun v6 H6 s6 L6 hv6 => ?_⟩
    have hg6 := hg5.same (wod_mono (d := p) s6)
    refine ⟨(dF f1, dF f2), litP L6 (envC rfl hg6 (env1 rfl hv6)) fun v7 H7 s7 L7 hv7 => ?_⟩
    have kb7 : KB p H H7 := kb4.trans (KB.same ((s5.trans s6).trans s7))
    have hv7' : Dv K (wod p H7) v7 (.list (oddCs (dF f1) (dF f2))) := hv7
    obtain ⟨m, zs, rfl, hm, hz⟩ := hv7'.lst_inv
    have lz := hz.len
    have l24 : zs.length = 24 := lz
    refine ⟨_, rfl, _, rfl, _, rfl, m, zs, rfl, .inl (wod_same.seq hm), p, a, ns, i3, n3, _, rfl, L7, by omega, by omega, by omega, fun u i8 n8 H8 u0 uu L8 hi8 kb8 => ?_⟩
    obtain ⟨y, ey⟩ : ∃ y, zs[u.toNat]? = some y := ⟨_, List.getElem?_eq_getElem (by omega)⟩
    obtain ⟨dy, edy, hdy⟩ := hz.get ey
    have at3 : atI zs u = some y := by
      have z := atI_nat (xs := zs) ey
      rwa [Int.toNat_of_nonneg u0] at z
    refine ⟨m, zs, u, y, rfl, rfl, wod_same.seq ((KB.wo kb8).seq hm), at3, k H8 y dy i8 n8 L8 (by omega) (kb7.trans kb8) (hdy.same (KB.wo kb8)) (odd_ok sm1 sm2 (List.mem_of_getElem? edy))⟩
end
end Own
/-! A road's lists, bent. -/
namespace Own
open PySem PySem.Spec PyProof.Rows L2 PySem.W
abbrev sBnt : Stmt := top1 36
/-- two objects left out -/
abbrev notP2 (p l : Addr) : Addr → Bool := fun b => decide (b = p) || decide (b = l)
abbrev wo2 (p l : Addr) (H : Hp) : Hp := woE (notP2 p l) H
theorem wo2_le {p l : Addr} {H : Hp} : Same (wo2 p l H) (wod p H) := fun b o h => by
  obtain ⟨h1, h2⟩ := woE_some h
  have e : (decide (b = p) || decide (b = l)) = false := h1
  rw [Bool.or_eq_false_iff, decide_eq_false_iff_not] at e
  rw [wod_ne e.1]
  exact h2
theorem wo2_keep {p l : Addr} {H H' : Hp} (k : ∀ b o, b ≠ p → b ≠ l → H b = some o → H' b = some o) : Same (wo2 p l H) (wo2 p l H') := fun b o h => by
  obtain ⟨h1, h2⟩ := woE_some h
  have e : (decide (b = p) || decide (b = l)) = false := h1
  show (if notP2 p l b = true then none else H' b) = some o
  rw [h1, if_neg (by decide)]
  rw [Bool.or_eq_false_iff, decide_eq_false_iff_not, decide_eq_false_iff_not] at e
  exact k b o e.1 e.2 h2
theorem litP2 {K : PySem.W.Frag} {p a l : Addr} {ns : List Int} {i n : Int} {d : PyData} {σ : L2.St} {H : Hp} {Q : VK} {o : HO} (L : Pen H p a ns i n) (hl : H l = some o) (k : ∀ v H', Same H H' → Pen H' p a ns i n → Dv K (wo2 p l H') v d → Q v H') : tLit K (notP2 p l) [] d σ H Q := by
  refine ⟨fun b z => ?_, fun q hq => absurd hq (by simp), fun v H' s h => k v H' s ⟨s _ _ L.hp, s _ _ L.ha, L.len, L.hi, L.hn⟩ h⟩
  have e : (decide (b = p) || decide (b = l)) = true := z
  rw [Bool.or_eq_true, decide_eq_true_iff, decide_eq_true_iff] at e
  rcases e with e | e
  · exact ⟨_, (congrArg H e).trans L.hp⟩
  · exact ⟨_, (congrArg H e).trans hl⟩
/-- what may stand among shapes -/
structure ElF (d : PyData) : Prop where
  fig : FigD d
  sz : Sz 3000 4 d
  pl : d.plain = true
  lay : d.canLay0 = true
structure BentF (d : PyData) : Prop where
  parts : PartsF d
  len : lenD d ≤ 12
  sz : Sz 40000 6 d
structure BentC (d : PyData) : Prop where
  parts : PartsC d
  len : lenD d ≤ 20
  sz : Sz 20000 8 d
theorem elF_F {f : Fg} (h : fOk f) : ElF (dF f) := ⟨figD_of (by unfold figB; rw [show isFig (dF f) = true from h]; rfl), (sz_F h).mono (by decide) (by decide), Datum.plain f, lay_F f⟩
def elFB (d : PyData) : Bool := figB d && szB 3000 4 d && d.plain && d.canLay0
theorem elF_of {d : PyData} (h : elFB d = true) : ElF d := by
  unfold elFB at h
  rw [Bool.and_eq_true, Bool.and_eq_true, Bool.and_eq_true] at h
  exact ⟨figD_of h.1.1.1, sz_of h.1.1.2, h.1.2, h.2⟩
theorem bentF_not {d : PyData} (h : isL d = false) (s : Sz 40000 6 d) : BentF d := by
  refine ⟨fun ds e => (by rw [e] at h; cases h), ?_, s⟩
  cases d with
  | list ds => cases h
  | _ => exact Nat.zero_le _
theorem plain_all : ∀ {ds : List PyData}, (∀ d ∈ ds, d.plain = true) → PyData.plainAll ds = true
  | [], _ => rfl
  | d :: ds, h => by
    rw [PyData.plainAll, h d List.mem_cons_self, plain_all fun e he => h e (List.mem_cons_of_mem _ he)]
    rfl
theorem canlay_all : ∀ {ds : List PyData}, (∀ d ∈ ds, d.canLay0 = true) → PyData.canLayAll0 ds = true
  | [], _ => rfl
  | d :: ds, h => by
    rw [PyData.canLayAll0, h d List.mem_cons_self, canlay_all fun e he => h e (List.mem_cons_of_mem _ he)]
    rfl
theorem bentF_list {ds : List PyData} (h : ∀ d ∈ ds, ElF d) (l : ds.length ≤ 12) : BentF (.list ds) := by
  have sz : Sz 40000 6 (.list ds) := (Sz.lst (SzL.all fun d hd => (h d hd).sz)).mono (by omega) (by decide)
  refine ⟨fun es e => ?_, l, sz⟩
  injection e with e
  subst e
  refine ⟨?_, ?_, fun d hd => ⟨(h d hd).sz.fits (by decide) (by decide), (h d hd).fig⟩⟩
  · rw [PyData.plain]
    exact plain_all fun d hd => (h d hd).pl
  · unfold SeqAt.shaped
    rw [PyData.canLay0, canlay_all fun d hd => (h d hd).lay, Bool.true_and, decide_eq_true_iff]
    exact Nat.le_trans sz.dp (by decide)
theorem bentC_list {ds : List PyData} (h : ∀ d ∈ ds, ElC d) (l : ds.length ≤ 20) : BentC (.list ds) := by
  refine ⟨fun es e => ?_, l, (Sz.lst (SzL.all fun d hd => (h d hd).sz)).mono (by omega) (by decide)⟩
  injection e with e
  subst e
  exact fun d hd => ⟨(h d hd).parts, (h d hd).len⟩
theorem bentC_odd {d : PyData} (h : OddC d) : BentC d := by
  refine ⟨fun ds e x hx => ?_, ?_, h.sz.mono (by decide) (by decide)⟩
  · obtain ⟨_, _, _, z⟩ := h.lst ds e
    exact ⟨(z x hx).parts, (z x hx).len⟩
  · cases d with
    | list ds =>
      obtain ⟨_, _, z, _⟩ := h.lst ds rfl
      exact Nat.le_trans z (by decide)
    | _ => exact Nat.zero_le _
theorem front_get : ∀ (ts : List Str) (k : Nat) (acc : Str), ∃ r : Str, textFrom k acc ts = acc ++ r
  | [], k, acc => ⟨Str.empty, (PySem.Str.append_empty acc).symm⟩
  | t :: ts, k, acc => by
    obtain ⟨r, e⟩ := front_get ts (k + 1) (acc ++ (if k > 0 then ", " else "" : String) ++ t)
    refine ⟨((if k > 0 then ", " else "" : String) : Str) ++ t ++ r, ?_⟩
    show textFrom (k + 1) (acc ++ (if k > 0 then ", " else "" : String) ++ t) ts = _
    rw [e]
    simp only [PySem.Str.append_assoc]
theorem look_list (ds : List PyData) : lookB (PyData.list ds).shown = false := by
  obtain ⟨r, e⟩ := front_get (PyData.shownAll ds) 0 "["
  have h : (PyData.list ds).shown = ("[" : Str) ++ (r ++ "]") := by
    rw [PyData.shown]
    unfold listText
    rw [e, PySem.Str.append_assoc]
  rw [h]
  unfold lookB
  have z : (("[" : Str) ++ (r ++ "]")).cps.toList = 91 :: (r ++ ("]" : Str)).cps.toList := by
    rw [PySem.Str.cps_append, Array.toList_append]
    rfl
  rw [z]
  cases (r ++ ("]" : Str)).cps.toList <;> rfl
theorem elF_lst {ds : List PyData} (h : ∀ d ∈ ds, Sz 2 1 d ∧ d.plain = true ∧ d.canLay0 = true) (l : ds.length ≤ 12) : ElF (.list ds) := by
  refine ⟨figD_of (by unfold figB; rw [look_list]; rw [Bool.not_false, Bool.or_true, Bool.true_or]), (Sz.lst (SzL.all fun d hd => (h d hd).1)).mono (by omega) (by decide), ?_, ?_⟩
  · rw [PyData.plain]
    exact plain_all fun d hd => (h d hd).2.1
  · rw [PyData.canLay0]
    exact canlay_all fun d hd => (h d hd).2.2
def oddF (f : PyData) : List PyData := [.tuple [.int 6], .tuple [.int 1, .int 1], .tuple [.bool true], .none, .list [.int 0], .int 0, f, .tuple [], .tuple [.int 0, .int 1, .int 2], .tuple [.int 5, .int 4]]
def oddB8 (fs : List PyData) : List PyData := [.none, .list [], .tuple [], .tuple fs, .int 0, .dict [], .str "", .list [.list fs]]
theorem oddF_ok {f : Fg} (h : fOk f) : ∀ d ∈ oddF (dF f), ElF d := by
  have z : (oddF .none).all elFB = true := by decide +kernel
  intro d hd
  by_cases e : d = dF f
  · rw [e]
    exact elF_F h
  · refine elF_of (List.all_eq_true.mp z d ?_)
    unfold oddF at hd ⊢
    simp only [List.mem_cons, List.not_mem_nil, or_false] at hd ⊢
    rcases hd with h | h | h | h | h | h | h | h | h | h <;> first | (exact absurd h e) | (simp [h])
theorem oddB8_ok {fs : List Fg} (h : ∀ f ∈ fs, fOk f) (l : fs.length ≤ 12) : ∀ d ∈ oddB8 (fs.map Datum.toD), BentF d := by
  intro d hd
  have sz := sz_Fs h (Nat.le_trans l (by decide))
  unfold oddB8 at hd
  simp only [List.mem_cons, List.not_mem_nil, or_false] at hd
  rcases hd with rfl | rfl | rfl | rfl | rfl | rfl | rfl | rfl
  · exact bentF_not rfl (sz_of (by decide +kernel))
  · exact bentF_list (fun d hd => nomatch hd) (by decide)
  · exact bentF_not rfl (sz_of (by decide +kernel))
  · exact bentF_not rfl ((Sz.tup (sz_map (fun _ => sz_F) h)).mono (by omega) (by decide))
  · exact bentF_not rfl (sz_of (by decide +kernel))
  · exact bentF_not rfl (sz_of (by decide +kernel))
  · exact bentF_not rfl (sz_of (by decide +kernel))
  · refine bentF_list (fun d hd => ?_) (by show 1 ≤ 12; decide)
    rw [List.mem_singleton.mp hd]
    refine elF_lst (fun e he => ?_) (by rw [List.length_map]; exact l)
    obtain ⟨f, hf, rfl⟩ := List.mem_map.mp he
    exact ⟨sz_F (h f hf), Datum.plain f, lay_F f⟩
theorem cut_to {xs : List V} {i : Int} (h0 : 0 ≤ i) : cutV xs none (some i) = xs.take i.toNat := by
  obtain ⟨k, rfl⟩ : ∃ k : Nat, i = k := ⟨i.toNat, (Int.toNat_of_nonneg h0).symm⟩
  unfold cutV
  rw [HT.sIx_none, HT.sIx_nat, List.drop_zero, Int.toNat_natCast, Nat.sub_zero]
  by_cases h : k ≤ xs.length
  · rw [Nat.min_eq_left h]
  · rw [Nat.min_eq_right (by omega), List.take_length, List.take_of_length_le (by omega)]
theorem cut_from {xs : List V} {i : Int} (h0 : 0 ≤ i) : cutV xs (some i) none = xs.drop i.toNat := by
  obtain ⟨k, rfl⟩ : ∃ k : Nat, i = k := ⟨i.toNat, (Int.toNat_of_nonneg h0).symm⟩
  unfold cutV
  rw [HT.sIx_none, HT.sIx_nat, Int.toNat_natCast]
  by_cases h : k ≤ xs.length
  · rw [Nat.min_eq_left h, List.take_of_length_le (by rw [List.length_drop]; exact Nat.le_refl _)]
  · rw [Nat.min_eq_right (by omega), List.drop_length, List.drop_eq_nil_of_le (by omega)]
    simp
theorem DvAll.take {K : PySem.W.Frag} {H : Hp} {xs : List V} {ds : List PyData} (k : Nat) (h : DvAll K H xs ds) : DvAll K H (xs.take k) (ds.take k) := dv_take k h
def spBnt (K : PySem.W.Frag) : Sp := fun vs H Q _ => ∃ (p a : Addr) (ns : List Int) (i n : Int) (v : V) (fs : List Fg) (cs : List Ch), vs = [.ref p, v] ∧ Pen H p a ns i n ∧ i ≤ 50000000 ∧ PairR K (wod p H) v fs cs ∧ WfR fs cs ∧ fs.length ≤ 4 ∧ cs.length ≤ 12 ∧
  ∀ (H' : Hp) (u : V) (d e : PyData) (i' n' : Int), Pen H' p a ns i' n' → i' ≤ i + 6 → KB p H H' → Dv K (wod p H') u (.tuple [d, e]) → BentF d → BentC e → Q u H'
section
variable {P : Program} {w : World} {K : PySem.W.Frag} {mg : Str → Option Value} {base : Heap}
abbrev CalOdc (P : Program) (w : World) (K : PySem.W.Frag) (mg : Str → Option Value) (base : Heap) : Prop := Cal P w K mg base CX0 3 "_law_odd_changes" ["pen"] (spOdc K)
theorem sc_bnt : FnScope ["pen", "road_here", "begin_here", "changes_here", "road", "odd", "more", "spot"] ["pen", "road_here"] (defScope sBnt) := ⟨rfl, rfl, rfl, by decide +kernel, rfl, by decide +kernel, by decide +kernel⟩
theorem dvs_at {K : PySem.W.Frag} {H : Hp} {xs : List V} {ds : List PyData} {j : Int} (dv : DvAll K H xs ds) (h0 : 0 ≤ j) (h9 : j < xs.length) : ∃ v d, atI xs j = some v ∧ Dv K H v d ∧ d ∈ ds := by
  have hk : j.toNat < xs.length := by omega
  obtain ⟨y, ey⟩ : ∃ y, xs[j.toNat]? = some y := ⟨_, List.getElem?_eq_getElem hk⟩
  obtain ⟨dy, edy, hdy⟩ := dv.get ey
  refine ⟨y, dy, ?_, hdy, List.mem_of_getElem? edy⟩
  have z := atI_nat (xs := xs) ey
  rwa [Int.toNat_of_nonneg h0] at z
theorem ok_bnt {f : Addr} {fd : FuncData} (F : Fun K "_law_bent" "_law_bent" sBnt f fd) (T : Bi4 mg) (CD : CalDr P w K mg base) (CO : CalOdc P w K mg base) : FnOk P w K mg base CX0 4 f fd ["pen", "road_here"] (spBnt K) := by
  obtain ⟨fD, fdD, GD, gD, kD, bD⟩ := CD
  obtain ⟨fO, fdO, GO, gO, kO, bO⟩ := CO
  refine F.ok sc_bnt (fun vs H Q E h => ?_) (fun cdv A outer s H vs Q E hr h => ?_)
  · obtain ⟨p, a, ns, i, n, v, fs, cs, rfl, _⟩ := h
    rfl
  · obtain ⟨p, a, ns, i, n, v, fs, cs, rfl, L, hi9, hv, wf, lf, lc, k⟩ := h
    have hrO : Room 3 _ := hr
    have hrD : Room 2 _ := hr.mono (by decide)
    have hB : ∀ x ∈ (["list", "tuple"] : List Str), mg x = none := fun x hx => by
      rcases List.mem_cons.mp hx with rfl | hx
      · exact T.list
      · rw [List.mem_singleton.mp hx]
        exact T.tuple
    obtain ⟨⟨_, okf, fne, fnd⟩, ⟨_, okc, cnd⟩, hl⟩ := id wf
    obtain ⟨b, x0, y0, rfl, hb, h1, h2⟩ := hv.inv
    obtain ⟨bx, xs, rfl, hbx, hx⟩ := h1.lst_inv
    obtain ⟨by_, ys, rfl, hby, hy⟩ := h2.lst_inv
    have lx := hx.len
    have ly := hy.len
    rw [List.length_map] at lx ly
    have h300 : 1000 ≤ sizeLine := by decide
    refine ⟨_, (pss_cons (ps_par (i := 2) (j := 3) rfl sc_bnt.nd rfl rfl (by decide) rfl rfl (pa_cons (pe_callTy call_list_of (by rfl) T.list (by decide +kernel) (pa_cons (pe_ix ix_tup (pv 1) pe_int (fun _ _ => rfl)) pa_nil)) (pa_cons (pe_callTy call_list_of (by rfl) T.list (by decide +kernel) (pa_cons (pe_ix ix_tup (pv 1) pe_int (fun _ _ => rfl)) pa_nil)) pa_nil)) (by rfl))
        (pss_cons (ps_set (i := 4) sc_bnt.nd rfl (.inl rfl) (pe_call GD hrD (by rfl) gD kD bD .nil pass0 (pa_cons (pv 0) (pa_cons (pe_int) pa_nil))))
        (pss_cons (ps_if (pt_cmpR op_eq (pv 4) (pe_int) (nomark _)) (pss_cons (ps_set (i := 5) sc_bnt.nd rfl (.inl rfl) (pe_lst (pa_cons (lit_peX (α := Addr) (n := 12) (N := ["pen", "road_here", "begin_here", "changes_here", "road", "odd", "more", "spot"]) (sc := defScope sBnt) (B := ["list", "tuple"]) (Es := fun x => notP2 p x) (envs := fun x => []) (ds := fun x => .tuple [.int 6]) rfl rfl hB (fun x => by kernel_rfl)) (pa_cons (lit_peX (α := Addr) (n := 12) (N := ["pen", "road_here", "begin_here", "changes_here", "road", "odd", "more", "spot"]) (sc := defScope sBnt) (B := ["list", "tuple"]) (Es := fun x => notP2 p x) (envs := fun x => []) (ds := fun x => .tuple [.int 1, .int 1]) rfl rfl hB (fun x => by kernel_rfl)) (pa_cons (lit_peX (α := Addr) (n := 12) (N := ["pen", "road_here", "begin_here", "changes_here", "road", "odd", "more", "spot"]) (sc := defScope sBnt) (B := ["list", "tuple"]) (Es := fun x => notP2 p x) (envs := fun x => []) (ds := fun x => .tuple [.bool true]) rfl rfl hB (fun x => by kernel_rfl)) (pa_cons (lit_peX (α := Addr) (n := 12) (N := ["pen", "road_here", "begin_here", "changes_here", "road", "odd", "more", "spot"]) (sc := defScope sBnt) (B := ["list", "tuple"]) (Es := fun x => notP2 p x) (envs := fun x => []) (ds := fun x => .none) rfl rfl hB (fun x => by kernel_rfl)) (pa_cons (lit_peX (α := Addr) (n := 12) (N := ["pen", "road_here", "begin_here", "changes_here", "road", "odd", "more", "spot"]) (sc := defScope sBnt) (B := ["list", "tuple"]) (Es := fun x => notP2 p x) (envs := fun x => []) (ds := fun x => .list [.int 0]) rfl rfl hB (fun x => by kernel_rfl)) (pa_cons (lit_peX (α := Addr) (n := 12) (N := ["pen", "road_here", "begin_here", "changes_here", "road", "odd", "more", "spot"]) (sc := defScope sBnt) (B := ["list", "tuple"]) (Es := fun x => notP2 p x) (envs := fun x => []) (ds := fun x => .int 0) rfl rfl hB (fun x => by kernel_rfl)) (pa_cons (pe_ix ix_list (pv 2) pe_int (fun _ _ => rfl)) (pa_cons (lit_peX (α := Addr) (n := 12) (N := ["pen", "road_here", "begin_here", "changes_here", "road", "odd", "more", "spot"]) (sc := defScope sBnt) (B := ["list", "tuple"]) (Es := fun x => notP2 p x) (envs := fun x => []) (ds := fun x => .tuple []) rfl rfl hB (fun x => by kernel_rfl)) (pa_cons (lit_peX (α := Addr) (n := 12) (N := ["pen", "road_here", "begin_here", "changes_here", "road", "odd", "more", "spot"]) (sc := defScope sBnt) (B := ["list", "tuple"]) (Es := fun x => notP2 p x) (envs := fun x => []) (ds := fun x => .tuple [.int 0, .int 1, .int 2]) rfl rfl hB (fun x => by kernel_rfl)) (pa_cons (lit_peX (α := Addr) (n := 12) (N := ["pen", "road_here", "begin_here", "changes_here", "road", "odd", "more", "spot"]) (sc := defScope sBnt) (B := ["list", "tuple"]) (Es := fun x => notP2 p x) (envs := fun x => []) (ds := fun x => .tuple [.int 5, .int 4]) rfl rfl hB (fun x => by kernel_rfl)) pa_nil))))))))))))
        (pss_one (ps_expr (pe_bm PySem.F.plainAttrs_list PySem.F.slot_list_insert PySem.F.type_list_insert mt_insert (pv 2) (pa_cons (pe_call GD hrD (by rfl) gD kD bD .nil pass0 (pa_cons (pv 0) (pa_cons (pe_op op_add (pe_callB call_len_seq (by rfl) T.len PySem.boot_len (pa_cons (pv 2) pa_nil)) pe_int) pa_nil))) (pa_cons (pe_ix ix_list (pv 5) (pe_call GD hrD (by rfl) gD kD bD .nil pass0 (pa_cons (pv 0) (pa_cons pe_int pa_nil))) (fun _ _ => rfl)) pa_nil)))))) (pss_one (ps_if (pt_cmpR op_eq (pv 4) (pe_int) (nomark _)) (pss_one (ps_set (i := 2) sc_bnt.nd rfl (.inl rfl) (pe_ix ix_list ((lit_peX (α := List PyData) (n := 12) (N := ["pen", "road_here", "begin_here", "changes_here", "road", "odd", "more", "spot"]) (sc := defScope sBnt) (B := ["list", "tuple"]) (Es := fun x => notP p) (envs := fun x => [(2, .list x)]) (ds := fun x => .list (oddB8 x)) rfl rfl hB (fun x => by kernel_rfl))) (pe_call GD hrD (by rfl) gD kD bD .nil pass0 (pa_cons (pv 0) (pa_cons (pe_int) pa_nil))) (fun _ _ => rfl)))) (pss_one (ps_if (pt_cmpR op_eq (pv 4) (pe_int) (nomark _)) (pss_one (ps_set (i := 3) sc_bnt.nd rfl (.inl rfl) (pe_call GO hrO (by rfl) gO kO bO .nil pass0 (pa_cons (pv 0) pa_nil)))) (pss_one (ps_if (pt_cmpR op_eq (pv 4) (pe_int) (nomark _)) (pss_cons (ps_set (i := 6) sc_bnt.nd rfl (.inl rfl) (pe_call GO hrO (by rfl) gO kO bO .nil pass0 (pa_cons (pv 0) pa_nil)))
        (pss_cons (ps_set (i := 7) sc_bnt.nd rfl (.inl rfl) (pe_call GD hrD (by rfl) gD kD bD .nil pass0 (pa_cons (pv 0) (pa_cons (pe_op op_add (pe_callB call_len_seq (by rfl) T.len PySem.boot_len (pa_cons (pv 3) pa_nil)) (pe_int)) pa_nil))))
        (pss_one (ps_set (i := 3) sc_bnt.nd rfl (.inl rfl) (pe_op op_catL (pe_op op_catL (pe_slice sl_list (pv 3) po_none (po_some (pv 7))) (pe_ifExp (pt_val (pe_callB call_isi (by rfl) T.isinstance (by decide +kernel) (pa_cons (pv 6) (pa_cons (pe_bltn (v := .ty "list") (by rfl) T.list (by decide +kernel) rfl) pa_nil)))) (pv 6) (pe_lst (pa_cons (pv 6) pa_nil)))) (pe_slice sl_list (pv 3) (po_some (pv 7)) po_none)))))) pss_nil)))))))
        (pss_one (ps_ret (pe_tup (pa_cons (pv 2) (pa_cons (pv 3) pa_nil)))))))), ?_⟩
    have fin : ∀ (G : Hp) (vb vc : V) (db dc : PyData) (i' n' : Int), Pen G p a ns i' n' → i' ≤ i + 6 → KB p H G → Dv K (wod p G) vb db → BentF db → Dv K (wod p G) vc dc → BentC dc → ∀ t, G t = none → Q (.ref t) (upd G t (.tup [vb, vc])) := by
      intro G vb vc db dc i' n' L' hi' kb' hb' bf hc' bc t ht
      have nt : t ≠ p := (ne_of_none L'.hp ht).symm
      have s9 := wod_mono (d := p) (sameN (o := .tup [vb, vc]) ht)
      exact k _ _ db dc i' n' (pen_fresh L' ht) hi' (kb'.trans (KB.same (sameN ht))) (.tup (SqT.of (by rw [wod_ne nt, upd_same])) (.cons (hb'.same s9) (.cons (hc'.same s9) .nil))) bf bc
    refine ⟨_, rfl, b, _, 0, _, rfl, rfl, sqT_same wod_same hb, atI_nat (j := 0) rfl, bx, xs, rfl, .inl (wod_same.seq hbx), fun l1 hl1 => ?_⟩
    have s1 : Same H (upd H l1 (.lst xs)) := sameN hl1
    have n1 : l1 ≠ p := (ne_of_none L.hp hl1).symm
    have e1 : (upd H l1 (.lst xs)) l1 = some (.lst xs) := upd_same
    have L1 := pen_fresh (o := .lst xs) L hl1
    generalize upd H l1 (.lst xs) = H1 at s1 e1 L1 ⊢
    refine ⟨_, rfl, b, _, 1, _, rfl, rfl, sqT_same (wod_same.trans s1) hb, atI_nat (j := 1) rfl, by_, ys, rfl, .inl ((wod_same.trans s1).seq hby), fun l2 hl2 => ?_⟩
    have s2 : Same H1 (upd H1 l2 (.lst ys)) := sameN hl2
    have n2 : l2 ≠ p := (ne_of_none L1.hp hl2).symm
    have n21 : l1 ≠ l2 := ne_of_none e1 hl2
    have hl2H : H l2 = none := fresh_of s1 hl2
    have e2 : (upd H1 l2 (.lst ys)) l2 = some (.lst ys) := upd_same
    have e1 := s2 _ _ e1
    have L2 := pen_fresh (o := .lst ys) L1 hl2
    have s3 := s1.trans s2
    generalize upd H1 l2 (.lst ys) = H2 at s3 e1 e2 L2 ⊢
    clear s2
    refine ⟨_, _, rfl, ?_⟩
    refine ⟨_, rfl, p, a, ns, i, n, 6, rfl, L2, by omega, by decide, by decide, fun d i3 n3 H3 d0 du L3 hi3 kb3 => ?_⟩
    have kbH3 : KB p H H3 := (KB.same s3).trans kb3
    have e1 := kb3 _ _ n1 e1
    have e2 := kb3 _ _ n2 e2
    have dx3 : DvAll K (wod p H3) xs (fs.map Datum.toD) := hx.same kbH3.wo
    have dy3 : DvAll K (wod p H3) ys (cs.map Datum.toD) := hy.same kbH3.wo
    have db3 : Dv K (wod p H3) (.ref l1) (.list (fs.map Datum.toD)) := .lst (SqL.of (by rw [wod_ne n1]; exact e1)) dx3
    have dc3 : Dv K (wod p H3) (.ref l2) (.list (cs.map Datum.toD)) := .lst (SqL.of (by rw [wod_ne n2]; exact e2)) dy3
    have bF : BentF (.list (fs.map Datum.toD)) := bentF_list (fun d hd => by
      obtain ⟨f, hf, rfl⟩ := List.mem_map.mp hd
      exact elF_F (okf f hf)) (by rw [List.length_map]; omega)
    have bC : BentC (.list (cs.map Datum.toD)) := bentC_list (fun d hd => by
      obtain ⟨c, hc, rfl⟩ := List.mem_map.mp hd
      exact elC_C (okc c hc)) (by rw [List.length_map]; omega)
    refine ⟨_, rfl, rfl, _, rfl, ?_⟩
    by_cases q0 : d = 0
    · refine iteYb (by simp [q0]) ?_
      obtain ⟨f0, fr, rfl⟩ : ∃ f0 fr, fs = f0 :: fr := by
        cases fs with
        | nil => exact absurd rfl fne
        | cons f0 fr => exact ⟨f0, fr, rfl⟩
      obtain ⟨x0, xr, rfl⟩ : ∃ x0 xr, xs = x0 :: xr := by
        cases xs with
        | nil => cases hx
        | cons x0 xr => exact ⟨x0, xr, rfl⟩
      have hx0 : Dv K (wod p H) x0 (dF f0) := by
        cases hx with
        | cons h _ => exact h
      have kbl : Same (wod p H) (wod p H3) ∧ Same (wod p H) (wo2 p l1 H3) := by
        refine ⟨kbH3.wo, fun b o h => ?_⟩
        have nb : b ≠ p := by
          rintro rfl
          unfold wod at h
          rw [if_pos rfl] at h
          cases h
        rw [wod_ne nb] at h
        have nl : b ≠ l1 := ne_of_none h hl1
        show (if notP2 p l1 b = true then none else H3 b) = some o
        rw [show notP2 p l1 b = false by simp [nb, nl], if_neg (by decide)]
        exact kbH3 b o nb h
      have A : DvAll K (wo2 p l1 H3) [] [] := .nil
      have S : Same H3 H3 := Same.refl _
      have M := L3
      refine ⟨l1, litP2 M (S _ _ e1) fun u1 G1 t1 M1 hu1 => ?_⟩
      have A := DvAll.snoc (A.same (wo2_keep fun b o _ _ e => t1 b o e)) hu1
      have S := S.trans t1
      have M := M1
      refine ⟨l1, litP2 M (S _ _ e1) fun u2 G2 t2 M2 hu2 => ?_⟩
      have A := DvAll.snoc (A.same (wo2_keep fun b o _ _ e => t2 b o e)) hu2
      have S := S.trans t2
      have M := M2
      refine ⟨l1, litP2 M (S _ _ e1) fun u3 G3 t3 M3 hu3 => ?_⟩
      have A := DvAll.snoc (A.same (wo2_keep fun b o _ _ e => t3 b o e)) hu3
      have S := S.trans t3
      have M := M3
      refine ⟨l1, litP2 M (S _ _ e1) fun u4 G4 t4 M4 hu4 => ?_⟩
      have A := DvAll.snoc (A.same (wo2_keep fun b o _ _ e => t4 b o e)) hu4
      have S := S.trans t4
      have M := M4
      refine ⟨l1, litP2 M (S _ _ e1) fun u5 G5 t5 M5 hu5 => ?_⟩
      have A := DvAll.snoc (A.same (wo2_keep fun b o _ _ e => t5 b o e)) hu5
      have S := S.trans t5
      have M := M5
      refine ⟨l1, litP2 M (S _ _ e1) fun u6 G6 t6 M6 hu6 => ?_⟩
      have A := DvAll.snoc (A.same (wo2_keep fun b o _ _ e => t6 b o e)) hu6
      have S := S.trans t6
      have M := M6
      refine ⟨_, rfl, l1, _, 0, _, rfl, rfl, SqL.of (S _ _ e1), atI_nat (j := 0) rfl, ?_⟩
      have A := DvAll.snoc A ((hx0.same kbl.2).same (wo2_keep fun b o n _ e => S b o e))
      refine ⟨l1, litP2 M (S _ _ e1) fun u7 G7 t7 M7 hu7 => ?_⟩
      have A := DvAll.snoc (A.same (wo2_keep fun b o _ _ e => t7 b o e)) hu7
      have S := S.trans t7
      have M := M7
      refine ⟨l1, litP2 M (S _ _ e1) fun u8 G8 t8 M8 hu8 => ?_⟩
      have A := DvAll.snoc (A.same (wo2_keep fun b o _ _ e => t8 b o e)) hu8
      have S := S.trans t8
      have M := M8
      refine ⟨l1, litP2 M (S _ _ e1) fun u9 G9 t9 M9 hu9 => ?_⟩
      have A := DvAll.snoc (A.same (wo2_keep fun b o _ _ e => t9 b o e)) hu9
      have S := S.trans t9
      have M := M9
      refine ⟨by show 10 ≤ sizeLine; decide, fun q hq => ?_⟩
      have t := sameN (o := .lst [u1, u2, u3, u4, u5, u6, x0, u7, u8, u9]) hq
      have eq : (upd G9 q (.lst [u1, u2, u3, u4, u5, u6, x0, u7, u8, u9])) q = some (.lst [u1, u2, u3, u4, u5, u6, x0, u7, u8, u9]) := upd_same
      have A := A.same (wo2_keep (p := p) (l := l1) fun b o _ _ e => t b o e)
      have nqp : q ≠ p := (ne_of_none M.hp hq).symm
      have nql : q ≠ l1 := (ne_of_none (S _ _ e1) hq).symm
      have M := pen_fresh (o := .lst [u1, u2, u3, u4, u5, u6, x0, u7, u8, u9]) M hq
      have S := S.trans t
      generalize upd G9 q (.lst [u1, u2, u3, u4, u5, u6, x0, u7, u8, u9]) = G at S eq A M ⊢
      have A : DvAll K (wo2 p l1 G) [u1, u2, u3, u4, u5, u6, x0, u7, u8, u9] (oddF (dF f0)) := A
      have lu : [u1, u2, u3, u4, u5, u6, x0, u7, u8, u9].length = 10 := rfl
      generalize [u1, u2, u3, u4, u5, u6, x0, u7, u8, u9] = us at eq A lu ⊢
      have kbG : KB p H G := kbH3.trans (KB.same S)
      refine ⟨_, rfl, .inl ⟨rfl, _, SqL.of (S _ _ e1)⟩, _, rfl, _, rfl, l1, _, rfl, .inl (SqL.of (S _ _ e1)), _, _, rfl, rfl, p, a, ns, i3, n3, _, rfl, M, by omega, by omega, by omega, fun j i4 n4 H4 j0 ju L4 hi4 kb4 => ?_⟩
      refine ⟨_, rfl, _, rfl, p, a, ns, i4, n4, 10, rfl, L4, by omega, by decide, by decide, fun u i5 n5 H5 u0 uu L5 hi5 kb5 => ?_⟩
      have kb45 : KB p G H5 := KB.trans kb4 kb5
      obtain ⟨y, dy, aty, hdy, my⟩ := dvs_at A u0 (by omega)
      refine ⟨q, us, u, y, rfl, rfl, SqL.of (kb45 _ _ nqp eq), aty, l1, _, j, y, rfl, rfl, kb45 _ _ n1 (S _ _ e1), by omega, j0, by omega, ?_⟩
      have hdy5 : Dv K (wo2 p l1 H5) y dy := hdy.same (wo2_keep fun b o n _ e => kb45 b o n e)
      have kbH5 : KB p H H5 := kbG.trans kb45
      have e5 : H5 l1 = some (.lst (x0 :: xr)) := kb45 _ _ n1 (S _ _ e1)
      have nla : l1 ≠ a := fun e => by
        rw [e, L.ha] at hl1
        cases hl1
      have kb6 : KB p H (upd H5 l1 (.lst ((x0 :: xr).take j.toNat ++ [y] ++ (x0 :: xr).drop j.toNat))) := fun b o n e => by
        rw [upd_ne (ne_of_none e hl1)]
        exact kbH5 b o n e
      have w6 : Same (wo2 p l1 H5) (wod p (upd H5 l1 (.lst ((x0 :: xr).take j.toNat ++ [y] ++ (x0 :: xr).drop j.toNat)))) := (wo2_keep fun b o n nl e => by
        rw [upd_ne nl]
        exact e).trans wo2_le
      have hxs := hx.same kb6.wo
      have ny := (List.length_append (as := (x0 :: xr).take j.toNat) (bs := [y]))
      refine ⟨_, rfl, _, rfl, by show 2 ≤ sizeLine; decide, fun t ht => fin _ (.ref l1) (.ref l2) (.list (((f0 :: fr).map Datum.toD).take j.toNat ++ [dy] ++ ((f0 :: fr).map Datum.toD).drop j.toNat)) (.list (cs.map Datum.toD)) i5 n5 (pen_upd L5 n1 nla) (by omega) kb6 ?_ ?_ ?_ bC t ht⟩
      · exact .lst (SqL.of (by rw [wod_ne n1, upd_same])) (dv_app (dv_app (dv_take _ hxs) (.cons (hdy5.same w6) .nil)) (dv_drop _ hxs))
      · refine bentF_list (fun z hz => ?_) ?_
        · rcases List.mem_append.mp hz with hz | hz
          · rcases List.mem_append.mp hz with hz | hz
            · obtain ⟨f, hf, rfl⟩ := List.mem_map.mp (List.mem_of_mem_take hz)
              exact elF_F (okf f hf)
            · rw [List.mem_singleton.mp hz]
              exact oddF_ok (okf f0 List.mem_cons_self) dy my
          · obtain ⟨f, hf, rfl⟩ := List.mem_map.mp (List.mem_of_mem_drop hz)
            exact elF_F (okf f hf)
        · rw [List.length_append, List.length_append, List.length_take, List.length_drop, List.length_map, List.length_singleton]
          omega
      · refine .lst (SqL.of ?_) (hy.same kb6.wo)
        rw [wod_ne n2, upd_ne n21.symm]
        exact kb45 _ _ n2 (S _ _ e2)
    · refine iteNb (by simp [q0]) ?_
      refine ⟨_, rfl, rfl, _, rfl, ?_⟩
      by_cases q1 : d = 1
      · refine iteYb (by simp [q1]) ?_
        refine ⟨fs.map Datum.toD, litP L3 (env1 rfl db3) fun v5 H5 s5 L5 hv5 => ?_⟩
        obtain ⟨m, zs, rfl, hm, hz⟩ := hv5.lst_inv
        have lz : zs.length = 8 := hz.len
        refine ⟨_, rfl, p, a, ns, i3, n3, 8, rfl, L5, by omega, by decide, by decide, fun e i6 n6 H6 e0 eu L6 hi6 kb6 => ?_⟩
        obtain ⟨y, dy, aty, hdy, my⟩ := dvs_at hz e0 (by omega)
        refine ⟨m, zs, e, y, rfl, rfl, wod_same.seq ((KB.wo kb6).seq hm), aty, ?_⟩
        refine ⟨_, rfl, _, rfl, by show 2 ≤ sizeLine; decide, fun t ht => fin H6 y (.ref l2) dy _ i6 n6 L6 (by omega) ((kbH3.trans (KB.same s5)).trans kb6) (hdy.same (KB.wo kb6)) (oddB8_ok okf (by omega) dy my) ((dc3.same (wod_mono s5)).same (KB.wo kb6)) bC t ht⟩
      · refine iteNb (by simp [q1]) ?_
        refine ⟨_, rfl, rfl, _, rfl, ?_⟩
        by_cases q2 : d = 2
        · refine iteYb (by simp [q2]) ?_
          refine ⟨_, rfl, p, a, ns, i3, n3, rfl, L3, by omega, fun H6 v6 d6 i6 n6 L6 hi6 kb6 hv6 od6 => ?_⟩
          exact ⟨_, rfl, _, rfl, by show 2 ≤ sizeLine; decide, fun t ht => fin H6 (.ref l1) v6 _ d6 i6 n6 L6 (by omega) (kbH3.trans kb6) (db3.same (KB.wo kb6)) bF hv6 (bentC_odd od6) t ht⟩
        · refine iteNb (by simp [q2]) ?_
          refine ⟨_, rfl, rfl, _, rfl, ?_⟩
          by_cases q3 : d = 3
          · refine iteYb (by simp [q3]) ?_
            refine ⟨_, rfl, p, a, ns, i3, n3, rfl, L3, by omega, fun H6 v6 d6 i6 n6 L6 hi6 kb6 hv6 od6 => ?_⟩
            have e26 := kb6 _ _ n2 e2
            refine ⟨_, rfl, _, rfl, l2, ys, rfl, .inl (SqL.of e26), _, _, rfl, rfl, p, a, ns, i6, n6, _, rfl, L6, by omega, by omega, by omega, fun e i7 n7 H7 e0 eu L7 hi7 kb7 => ?_⟩
            have e27 := kb7 _ _ n2 e26
            have hv7 := hv6.same (KB.wo kb7)
            have kbH7 : KB p H H7 := (kbH3.trans kb6).trans kb7
            have db7 := (db3.same (KB.wo kb6)).same (KB.wo kb7)
            have dy7 : DvAll K (wod p H7) ys (cs.map Datum.toD) := hy.same kbH7.wo
            refine ⟨_, rfl, _, rfl, _, rfl, l2, ys, rfl, SqL.of e27, fun r1 hr1 => ?_⟩
            have f1 : Same H7 (upd H7 r1 (.lst (cutV ys none (some e)))) := sameN hr1
            have g1 : (upd H7 r1 (.lst (cutV ys none (some e)))) r1 = some (.lst (cutV ys none (some e))) := upd_same
            have P1 := pen_fresh (o := .lst (cutV ys none (some e))) L7 hr1
            rw [cut_to e0] at f1 g1 P1 ⊢
            generalize upd H7 r1 (.lst (ys.take e.toNat)) = J1 at f1 g1 P1 ⊢
            have hv8 := hv7.same (wod_mono (d := p) f1)
            -- the list that is put in
            have put : ∀ (J : Hp) (zs : List V) (es : List PyData), Same J1 J → Pen J p a ns i7 n7 → DvAll K (wod p J) zs es → (∀ z ∈ es, ElC z) → es.length ≤ 2 → ∀ r3, J r3 = none → ∀ r4, (upd J r3 (.lst (ys.take e.toNat ++ zs))) r4 = none → ∀ r5, (upd (upd J r3 (.lst (ys.take e.toNat ++ zs))) r4 (.lst (ys.drop e.toNat))) r5 = none →
                ∀ t, (upd (upd (upd J r3 (.lst (ys.take e.toNat ++ zs))) r4 (.lst (ys.drop e.toNat))) r5 (.lst (ys.take e.toNat ++ zs ++ ys.drop e.toNat))) t = none →
                Q (.ref t) (upd (upd (upd (upd J r3 (.lst (ys.take e.toNat ++ zs))) r4 (.lst (ys.drop e.toNat))) r5 (.lst (ys.take e.toNat ++ zs ++ ys.drop e.toNat))) t (.tup [.ref l1, .ref r5])) := by
              intro J zs es sJ PJ hz ok l2' r3 h3 r4 h4 r5 h5 t ht
              have S3 : Same J (upd (upd (upd J r3 (.lst (ys.take e.toNat ++ zs))) r4 (.lst (ys.drop e.toNat))) r5 (.lst (ys.take e.toNat ++ zs ++ ys.drop e.toNat))) := ((sameN h3).trans (sameN h4)).trans (sameN h5)
              have P5 := pen_fresh (o := .lst (ys.take e.toNat ++ zs ++ ys.drop e.toNat)) (pen_fresh (o := .lst (ys.drop e.toNat)) (pen_fresh (o := .lst (ys.take e.toNat ++ zs)) PJ h3) h4) h5
              have n5 : r5 ≠ p := (ne_of_none (pen_fresh (o := .lst (ys.drop e.toNat)) (pen_fresh (o := .lst (ys.take e.toNat ++ zs)) PJ h3) h4).hp h5).symm
              have W : Same (wod p H7) (wod p (upd (upd (upd J r3 (.lst (ys.take e.toNat ++ zs))) r4 (.lst (ys.drop e.toNat))) r5 (.lst (ys.take e.toNat ++ zs ++ ys.drop e.toNat)))) := wod_mono (f1.trans (sJ.trans S3))
              have dys := dy7.same W
              refine fin _ (.ref l1) (.ref r5) (.list (fs.map Datum.toD)) (.list ((cs.map Datum.toD).take e.toNat ++ es ++ (cs.map Datum.toD).drop e.toNat)) i7 n7 P5 (by omega) (kbH7.trans (KB.same (f1.trans (sJ.trans S3)))) (db7.same W) bF ?_ ?_ t ht
              · exact .lst (SqL.of (by rw [wod_ne n5, upd_same])) (dv_app (dv_app (dv_take _ dys) (hz.same (wod_mono (d := p) S3))) (dv_drop _ dys))
              · refine bentC_list (fun z hz => ?_) ?_
                · rcases List.mem_append.mp hz with hz | hz
                  · rcases List.mem_append.mp hz with hz | hz
                    · obtain ⟨c, hc, rfl⟩ := List.mem_map.mp (List.mem_of_mem_take hz)
                      exact elC_C (okc c hc)
                    · exact ok z hz
                  · obtain ⟨c, hc, rfl⟩ := List.mem_map.mp (List.mem_of_mem_drop hz)
                    exact elC_C (okc c hc)
                · rw [List.length_append, List.length_append, List.length_take, List.length_drop, List.length_map]
                  omega
            have lt1 : (ys.take e.toNat).length ≤ 12 := by
              rw [List.length_take]
              omega
            have ld1 : (ys.drop e.toNat).length ≤ 12 := by
              rw [List.length_drop]
              omega
            refine ⟨_, rfl, v6, .ty "list", .type (tyD d6), .type "list", _, rfl, .ty _, (hv8.same wod_same).ty, kit_ty (kit_list d6), _, rfl, ?_⟩
            cases htl : isL d6 with
            | true =>
              obtain ⟨es, rfl⟩ := isL_some htl
              obtain ⟨m, zs, rfl, hm, hz⟩ := hv8.lst_inv
              obtain ⟨_, _, le, oke⟩ := od6.lst es rfl
              have lz := hz.len
              refine iteYb rfl ⟨_, rfl, r1, m, ys.take e.toNat, zs, rfl, rfl, SqL.of g1, wod_same.seq hm, by omega, fun r3 h3 => ?_⟩
              refine ⟨_, rfl, _, rfl, _, rfl, l2, ys, rfl, SqL.of ((sameN h3) _ _ (f1 _ _ e27)), fun r4 h4 => ?_⟩
              rw [cut_from e0]
              refine ⟨r3, r4, _, _, rfl, rfl, SqL.of ((sameN h4) _ _ upd_same), SqL.of upd_same, by rw [List.length_append]; omega, fun r5 h5 => ⟨_, rfl, _, rfl, by show 2 ≤ sizeLine; decide, fun t ht => ?_⟩⟩
              exact put J1 zs es (Same.refl _) P1 hz oke le r3 h3 r4 h4 r5 h5 t ht
            | false =>
              refine iteNb rfl ⟨_, rfl, by show 1 ≤ sizeLine; decide, fun r2 h2 => ⟨r1, r2, ys.take e.toNat, [v6], rfl, rfl, SqL.of ((sameN h2) _ _ g1), SqL.of upd_same, by rw [List.length_singleton]; omega, fun r3 h3 => ?_⟩⟩
              have f2 : Same J1 (upd J1 r2 (.lst [v6])) := sameN h2
              refine ⟨_, rfl, _, rfl, _, rfl, l2, ys, rfl, SqL.of ((sameN h3) _ _ (f2 _ _ (f1 _ _ e27))), fun r4 h4 => ?_⟩
              rw [cut_from e0]
              refine ⟨r3, r4, _, _, rfl, rfl, SqL.of ((sameN h4) _ _ upd_same), SqL.of upd_same, by rw [List.length_append, List.length_singleton]; omega, fun r5 h5 => ⟨_, rfl, _, rfl, by show 2 ≤ sizeLine; decide, fun t ht => ?_⟩⟩
              exact put (upd J1 r2 (.lst [v6])) [v6] [d6] f2 (pen_fresh P1 h2) (.cons (hv8.same (wod_mono (d := p) f2)) .nil) (fun z hz => by rw [List.mem_singleton.mp hz]; exact od6.non htl) (by show 1 ≤ 2; decide) r3 h3 r4 h4 r5 h5 t ht
          · refine iteNb (by simp [q3]) ?_
            exact ⟨_, rfl, _, rfl, by show 2 ≤ sizeLine; decide, fun t ht => fin H3 (.ref l1) (.ref l2) _ _ i3 n3 L3 (by omega) kbH3 db3 bF dc3 bC t ht⟩
end
end Own
/-! The heap without the pen and without the tables of code; defs that make lambdas. -/
namespace Own
open PySem PySem.Spec PyProof.Rows L2
/-- a def of the top, its code object too -/
structure FunC (K : PySem.W.Frag) (x : Str) (st : Stmt) (f : Addr) (fd : FuncData) (c : Addr) : Prop where
  ex : ∃ (oc : Value) (od : Option Addr) (kV doc pm : Value) (an : Option Addr) (ct : Value) (osl : Array (Option Value)),
    fd = PySem.W.fnOf x x (defArgs st) (defBody st) (defScope st) .none kV doc pm an (.ref c) ct ∧ K.lookup f = some ⟨oc, od, .func fd, osl⟩ ∧ PySem.W.codeIn K (.ref c) x = true
  kp : PySem.W.keepIn K (.ref f) = true
section
variable {CX : CXT} {P : Program} {w : World} {K : PySem.W.Frag} {mg : Str → Option Value} {base : Heap} {k : Nat} {f c : Addr}
theorem FunC.gok {x : Str} {st : Stmt} {fd : FuncData} {N ps : List Str} {sp : Sp} (F : FunC K x st f fd c) (S : FnScope N ps (defScope st)) (len : ∀ vs H Q E, sp vs H Q E → vs.length = ps.length)
    (hb : ∀ (A : Around) (outer : List Env) (s : Shared) (H : Hp) (vs : List V) (Q : VK) (E : XK), A.guards = some [] → Room k (A.deeper (envOfC x (defScope st) s.heap.objs.size f (.ref c))) → sp vs H Q E →
      ∃ t, PSs (cxOf CX0 P w K mg base N x (defScope st) f (.ref c) A outer s H E).nox (defBody st) t ∧ t { nx := fun _ H' => Q .non H', rt := Q } (L2.start N vs) H) : GFn P w K mg base CX0 (k + 1) f fd ps sp := by
  obtain ⟨oc, od, kV, doc, pm, an, ct, osl, rfl, lk, hcd⟩ := F.ex
  refine ⟨len, fun A outer s H args us vs Q E hg hr e0 hbd r hsp => ?_⟩
  exact LamX.run_ofS (CX := CX0) lk hcd S hr e0 hbd r (len _ _ _ _ hsp) fun hr2 => by
    obtain ⟨t, ht, hq⟩ := hb A outer s H vs Q E hg hr2 hsp
    exact ⟨t, ht.nox, hq⟩
end
/-- the heap without what stands at p and without tables -/
def cor (p : Addr) (H : Hp) : Hp := fun b => if b = p then none else match H b with
  | some (.tbl _) => none
  | o => o
theorem cor_of {p b : Addr} {H : Hp} {o : HO} (n : b ≠ p) (h : H b = some o) (t : ∀ ps, o ≠ .tbl ps) : cor p H b = some o := by
  unfold cor
  rw [if_neg n, h]
  cases o <;> first | rfl | exact absurd rfl (t _)
theorem cor_some {p b : Addr} {H : Hp} {o : HO} (h : cor p H b = some o) : b ≠ p ∧ H b = some o ∧ ∀ ps, o ≠ .tbl ps := by
  unfold cor at h
  by_cases e : b = p
  · rw [if_pos e] at h
    cases h
  · rw [if_neg e] at h
    refine ⟨e, ?_⟩
    cases q : H b with
    | none =>
      rw [q] at h
      cases h
    | some u =>
      rw [q] at h
      cases u with
      | tbl ps => cases h
      | _ =>
        have h' := Option.some.inj h
        subst h'
        exact ⟨rfl, fun ps z => by cases z⟩
theorem cor_le {p : Addr} {H : Hp} : Same (cor p H) H := fun b o h => (cor_some h).2.1
/-- all but the pen and the tables stays -/
def KX (p : Addr) (H H' : Hp) : Prop := ∀ b o, b ≠ p → H b = some o → (∀ ps, o ≠ .tbl ps) → H' b = some o
theorem KX.trans {p : Addr} {H H1 H2 : Hp} (a : KX p H H1) (b : KX p H1 H2) : KX p H H2 := fun x o n e t => b x o n (a x o n e t) t
theorem KX.cor {p : Addr} {H H' : Hp} (k : KX p H H') : Same (Own.cor p H) (Own.cor p H') := fun b o h => by
  obtain ⟨h1, h2, h3⟩ := cor_some h
  exact cor_of h1 (k b o h1 h2 h3) h3
theorem KX.same {p : Addr} {H H' : Hp} (s : Same H H') : KX p H H' := fun b o _ e _ => s b o e
theorem KX.ext {p : Addr} {H H' : Hp} (s : LamX.ExtN H H') : KX p H H' := fun b o _ e t => s b o e t
theorem KX.keep {p : Addr} {H H' : Hp} (s : ∀ b o, b ≠ p → H b = some o → H' b = some o) : KX p H H' := fun b o n e _ => s b o n e
theorem cor_same {p : Addr} {H H' : Hp} (s : Same H H') : Same (cor p H) (cor p H') := (KX.same s).cor
theorem cor_ext {p : Addr} {H H' : Hp} (s : LamX.ExtN H H') : Same (cor p H) (cor p H') := (KX.ext s).cor
theorem extN_same {H H' : Hp} (s : Same H H') : LamX.ExtN H H' := fun b o e _ => s b o e
theorem cor_new {p q : Addr} {H : Hp} {o : HO} (n : q ≠ p) (t : ∀ ps, o ≠ .tbl ps) : cor p (upd H q o) q = some o := cor_of n upd_same t
def intD : PyData → Bool
  | .int _ => true
  | _ => false
def penL : List PyData → Bool
  | [_, b, c] => intD b && intD c
  | _ => false
mutual
/-- no list in it looks as the pen does -/
def noPen : PyData → Bool
  | .list ds => !penL ds && noPenAll ds
  | .tuple ds => noPenAll ds
  | .dict kvs => noPenKv kvs
  | _ => true
def noPenAll : List PyData → Bool
  | [] => true
  | d :: ds => noPen d && noPenAll ds
def noPenKv : List (PyData × PyData) → Bool
  | [] => true
  | (_, d) :: r => noPen d && noPenKv r
end
theorem noPen_zip : ∀ {ks ds : List PyData}, ks.length = ds.length → noPenKv (ks.zip ds) = true → noPenAll ds = true
  | [], [], _, _ => rfl
  | k :: ks, d :: ds, e, h => by
    rw [List.zip_cons_cons, noPenKv, Bool.and_eq_true] at h
    rw [noPenAll, h.1, noPen_zip (by simpa using e) h.2]
    rfl
  | [], _ :: _, e, _ => by cases e
  | _ :: _, [], e, _ => by cases e
theorem noPen_all {ds : List PyData} (h : ∀ d ∈ ds, noPen d = true) : noPenAll ds = true := by
  induction ds with
  | nil => rfl
  | cons d ds ih =>
    rw [noPenAll, h d List.mem_cons_self, ih fun e he => h e (List.mem_cons_of_mem _ he)]
    rfl
section
variable {K : PySem.W.Frag} {H : Hp} {p : Addr} {x : V} {i n : Int}
theorem cor_seq (hp : H p = some (.lst [x, .int i, .int n])) {a : Addr} {xs : List V} (h : SqL K H a xs) (e : xs ≠ [x, .int i, .int n]) : SqL K (cor p H) a xs := by
  rcases h with (h | ⟨o, h⟩) | h
  · refine .inl (.inl (cor_of (fun z => e ?_) h fun ps z => by cases z))
    rw [z, hp] at h
    injection h with h
    injection h with h
    exact h.symm
  · exact .inl (.inr ⟨o, cor_of (ne_of h hp fun z => nomatch z) h fun ps z => by cases z⟩)
  · exact .inr h
theorem cor_tup (hp : H p = some (.lst [x, .int i, .int n])) {a : Addr} {xs : List V} (h : SqT K H a xs) : SqT K (cor p H) a xs := by
  rcases h with (h | ⟨o, h⟩) | h
  · exact .inl (.inl (cor_of (ne_of h hp fun z => nomatch z) h fun ps z => by cases z))
  · exact .inl (.inr ⟨o, cor_of (ne_of h hp fun z => nomatch z) h fun ps z => by cases z⟩)
  · exact .inr h
theorem not_pen {xs : List V} {ds : List PyData} (h : DvAll K H xs ds) (e : xs = [x, .int i, .int n]) : ∃ d, ds = [d, .int i, .int n] := by
  subst e
  cases h with
  | cons h1 r =>
    cases r with
    | cons h2 r =>
      cases r with
      | cons h3 r =>
        cases r
        cases h2
        cases h3
        exact ⟨_, rfl⟩
mutual
theorem Dv.cor (hp : H p = some (.lst [x, .int i, .int n])) : ∀ {v : V} {d : PyData}, Dv K H v d → noPen d = true → Dv K (Own.cor p H) v d
  | _, _, .non, _ => .non
  | _, _, .bl b, _ => .bl b
  | _, _, .int i, _ => .int i
  | _, _, .str x, _ => .str x
  | _, .list ds, .lst h r, q => by
    rw [noPen, Bool.and_eq_true] at q
    refine .lst (cor_seq hp h fun e => ?_) (DvAll.cor hp r q.2)
    obtain ⟨d, e2⟩ := not_pen r e
    have z := q.1
    rw [e2] at z
    exact Bool.noConfusion z
  | _, .tuple ds, .tup h r, q => by
    rw [noPen] at q
    exact .tup (cor_tup hp h) (DvAll.cor hp r q)
  | _, _, .dct h r, q => by
    rw [noPen] at q
    refine .dct (cor_of (ne_of h hp fun z => nomatch z) h fun ps z => by cases z) (DvAll.cor hp r (noPen_zip ?_ q))
    rw [List.length_map, ← r.len, List.length_map]
theorem DvAll.cor (hp : H p = some (.lst [x, .int i, .int n])) : ∀ {vs : List V} {ds : List PyData}, DvAll K H vs ds → noPenAll ds = true → DvAll K (Own.cor p H) vs ds
  | _, _, .nil, _ => .nil
  | _, _, .cons h r, q => by
    rw [noPenAll, Bool.and_eq_true] at q
    exact .cons (Dv.cor hp h q.1) (DvAll.cor hp r q.2)
end
theorem tupK_cor (hp : H p = some (.lst [x, .int i, .int n])) : TupK H (cor p H) := fun b xs h => by
  rcases h with h | ⟨o, h⟩
  · exact .inl (cor_of (ne_of h hp fun z => nomatch z) h fun ps z => by cases z)
  · exact .inr ⟨o, cor_of (ne_of h hp fun z => nomatch z) h fun ps z => by cases z⟩
end
end Own
/-! What stands fast between draws and lambdas. -/
namespace Own
open PySem PySem.Spec PyProof.Rows L2 PySem.W
/-- the code object of the word's def, where it stands -/
structure WdAt (K : PySem.W.Frag) (mg : Str → Option Value) : Prop where
  ex : ∃ (g : Addr) (oc : Value) (od : Option Addr) (kV doc pm : Value) (an : Option Addr) (cdv ct : Value) (osl : Array (Option Value)),
    mg "_law_word" = some (.ref g) ∧ PySem.W.keepIn K (.ref g) = true ∧ K.lookup g = some ⟨oc, od, .func (PySem.W.fnOf "_law_word" "_law_word" (defArgs sWrd) (defBody sWrd) (defScope sWrd) .none kV doc pm an cdv ct), osl⟩ ∧ PySem.W.codeIn K cdv "_law_word" = true ∧
    Binds K (PySem.W.fnOf "_law_word" "_law_word" (defArgs sWrd) (defBody sWrd) (defScope sWrd) .none kV doc pm an cdv ct) ["act"] []
theorem noPen_F (f : Fg) : noPen (dF f) = true := by
  show noPen (.tuple (f.items.map Datum.toD)) = true
  rw [noPen]
  exact noPen_all fun d hd => by
    obtain ⟨i, _, rfl⟩ := List.mem_map.mp hd
    rfl
theorem noPen_C (c : Ch) : noPen (dC c) = true := by
  show noPen (.tuple [dF c.1, dF c.2]) = true
  rw [noPen, noPenAll, noPenAll, noPenAll, noPen_F, noPen_F]
  rfl
theorem noPen_map {α : Type} [DecidableEq α] [DatumOrd α] (h : ∀ a : α, noPen (Datum.toD a) = true) (t : ∀ (a : α) (i : Int), (Datum.toD a : PyData) ≠ .int i) (as : List α) : noPen (.list (as.map Datum.toD)) = true := by
  rw [noPen, noPen_all fun d hd => by
    obtain ⟨a, _, rfl⟩ := List.mem_map.mp hd
    exact h a]
  match as with
  | [] => rfl
  | [_] => rfl
  | [_, _] => rfl
  | _ :: _ :: _ :: _ :: _ => rfl
  | [a, b, c] =>
    have hb := t b
    show (!penL [Datum.toD a, Datum.toD b, Datum.toD c] && true) = true
    cases q : (Datum.toD b : PyData) with
    | int i => exact absurd q (hb i)
    | _ => rfl
theorem noPen_Fs (fs : List Fg) : noPen (.list (fs.map Datum.toD)) = true := noPen_map noPen_F (fun a i z => nomatch z) fs
theorem noPen_Cs (cs : List Ch) : noPen (.list (cs.map Datum.toD)) = true := noPen_map noPen_C (fun a i z => nomatch z) cs
theorem RoadAt.cor {P : Program} {w : World} {K : PySem.W.Frag} {C p r : Addr} {H : Hp} {x : V} {i n : Int} {fs : List Fg} {cs : List Ch} (hp : H p = some (.lst [x, .int i, .int n])) (R : RoadAt P w K C H r fs cs) : RoadAt P w K C (Own.cor p H) r fs cs := by
  obtain ⟨dx, fl, b, c, d, e0, e1, e2, e3, h1, h2, rows, D, pr⟩ := R.ex
  have nd : d ≠ p := ne_of D.at_ hp fun z => by
    unfold DnO at z
    cases z
  refine ⟨⟨dx, fl, b, c, d, cor_of (ne_of e0 hp fun z => nomatch z) e0 (fun ps z => nomatch z), e1, e2, e3, h1.cor hp (noPen_Fs _), h2.cor hp (noPen_Cs _), rows, D.keep (cor_of nd D.at_ fun ps z => by unfold DnO at z; cases z) (tupK_cor hp), paired_imp pr fun f row h => ?_⟩, R.wf, fun D dx fl e => R.nm D dx fl (cor_le _ _ e)⟩
  obtain ⟨l, el, hl⟩ := h.2.2
  exact ⟨h.1, h.2.1.cor hp (noPen_F f), l, el, hl.cor hp (noPen_Fs _)⟩
/-- the pen and the tables -/
structure St (TT : List (Addr × Str)) (p a : Addr) (ns : List Int) (i : Int) (H : Hp) : Prop where
  pen : ∃ n, Pen H p a ns i n
  tabs : LamX.Tabs TT (wod p H)
theorem Pen.same {H H' : Hp} {p a : Addr} {ns : List Int} {i n : Int} (L : Pen H p a ns i n) (s : Same H H') : Pen H' p a ns i n := ⟨s _ _ L.hp, s _ _ L.ha, L.len, L.hi, L.hn⟩
theorem Pen.ext {H H' : Hp} {p a : Addr} {ns : List Int} {i n : Int} (L : Pen H p a ns i n) (s : LamX.ExtN H H') : Pen H' p a ns i n := ⟨s _ _ L.hp (fun _ z => nomatch z), s _ _ L.ha (fun _ z => nomatch z), L.len, L.hi, L.hn⟩
theorem tabs_wod {TT : List (Addr × Str)} {H : Hp} {p : Addr} {xs : List V} (hp : H p = some (.lst xs)) (t : LamX.Tabs TT H) : LamX.Tabs TT (wod p H) := fun q hq => by
  obtain ⟨ps, h1, h2, h3⟩ := t q hq
  refine ⟨ps, ?_, h2, fun pos cv hc => ?_⟩
  · rw [wod_ne (ne_of h1 hp (fun z => nomatch z))]
    exact h1
  · obtain ⟨c, e1, e2⟩ := h3 pos cv hc
    refine ⟨c, e1, ?_⟩
    rw [wod_ne (ne_of e2 hp (fun z => by have z' : HO.ext _ = HO.lst xs := z; cases z'))]
    exact e2
theorem St.same {TT : List (Addr × Str)} {p a : Addr} {ns : List Int} {i : Int} {H H' : Hp} (S : St TT p a ns i H) (s : Same H H') : St TT p a ns i H' := by
  obtain ⟨n, L⟩ := S.pen
  exact ⟨⟨n, L.same s⟩, S.tabs.ext (wod_mono s)⟩
theorem St.ext {TT : List (Addr × Str)} {p a : Addr} {ns : List Int} {i : Int} {H H' : Hp} (S : St TT p a ns i H) (s : LamX.ExtN H H') (t : LamX.Tabs TT H') : St TT p a ns i H' := by
  obtain ⟨n, L⟩ := S.pen
  exact ⟨⟨n, L.ext s⟩, tabs_wod (L.ext s).hp t⟩
theorem St.draw {TT : List (Addr × Str)} {p a : Addr} {ns : List Int} {i i' n' : Int} {H H' : Hp} (S : St TT p a ns i H) (L : Pen H' p a ns i' n') (k : KB p H H') : St TT p a ns i' H' := ⟨⟨n', L⟩, S.tabs.ext k.wo⟩
theorem St.all {TT : List (Addr × Str)} {p a : Addr} {ns : List Int} {i : Int} {H : Hp} (S : St TT p a ns i H) : LamX.Tabs TT H := S.tabs.ext wod_same
theorem cor_wod {p : Addr} {H : Hp} : Same (cor p H) (wod p H) := fun b o h => by
  obtain ⟨h1, h2, _⟩ := cor_some h
  rw [wod_ne h1]
  exact h2
theorem KB.kx {p : Addr} {H H' : Hp} (k : KB p H H') : KX p H H' := KX.keep k
theorem cor_at {p b : Addr} {H : Hp} {o : HO} (h : wod p H b = some o) (t : ∀ ps, o ≠ .tbl ps) : cor p H b = some o := by
  by_cases e : b = p
  · unfold wod at h
    rw [if_pos e] at h
    cases h
  · rw [wod_ne e] at h
    exact cor_of e h t
mutual
/-- data that is read beside the pen is read beside the tables, too -/
theorem Dv.ofW {K : PySem.W.Frag} {p : Addr} {H : Hp} : ∀ {v : V} {d : PyData}, Dv K (wod p H) v d → Dv K (Own.cor p H) v d
  | _, _, .non => .non
  | _, _, .bl b => .bl b
  | _, _, .int i => .int i
  | _, _, .str x => .str x
  | _, _, .lst h r => .lst (by
      rcases h with (h | ⟨o, h⟩) | h
      · exact .inl (.inl (cor_at h fun ps z => nomatch z))
      · exact .inl (.inr ⟨o, cor_at h fun ps z => nomatch z⟩)
      · exact .inr h) (DvAll.ofW r)
  | _, _, .tup h r => .tup (by
      rcases h with (h | ⟨o, h⟩) | h
      · exact .inl (.inl (cor_at h fun ps z => nomatch z))
      · exact .inl (.inr ⟨o, cor_at h fun ps z => nomatch z⟩)
      · exact .inr h) (DvAll.ofW r)
  | _, _, .dct h r => .dct (cor_at h fun ps z => nomatch z) (DvAll.ofW r)
theorem DvAll.ofW {K : PySem.W.Frag} {p : Addr} {H : Hp} : ∀ {vs : List V} {ds : List PyData}, DvAll K (wod p H) vs ds → DvAll K (Own.cor p H) vs ds
  | _, _, .nil => .nil
  | _, _, .cons h r => .cons (Dv.ofW h) (DvAll.ofW r)
end
end Own
set_option maxHeartbeats 8000000
/-! The law's question of a road without some changes. -/
namespace Own
open PySem PySem.Spec PyProof.Rows L2 PySem.W
abbrev sLes : Stmt := top1 37
/-- a road of the law, and the law's lists of it -/
structure RR (P : Program) (w : World) (K : PySem.W.Frag) (C p : Addr) (H : Hp) (r : Addr) (v : V) (fs : List Fg) (cs : List Ch) : Prop where
  road : RoadAt P w K C (cor p H) r fs cs
  pair : PairR K (cor p H) v fs cs
  lf : fs.length ≤ 4
  lc : cs.length ≤ 12
theorem RR.keep {P : Program} {w : World} {K : PySem.W.Frag} {C p : Addr} {H H' : Hp} {r : Addr} {v : V} {fs : List Fg} {cs : List Ch} (R : RR P w K C p H r v fs cs) (k : KX p H H') : RR P w K C p H' r v fs cs := ⟨R.road.same k.cor, Dv.same k.cor R.pair, R.lf, R.lc⟩
/-- all that may be left out -/
def DueW (d : PyData) (cs : List Ch) : Prop := ∃ ls, AreC d ls ∧ ∀ c ∈ ls, c ∈ cs
theorem areC_eq {d : PyData} {ls ms : List Ch} (h : AreC d ls) (g : AreC d ms) : ls = ms := by
  obtain ⟨rfl, _⟩ := h
  obtain ⟨e, _⟩ := g
  injection e with e
  exact map_inj e
def spLes (P : Program) (w : World) (K : PySem.W.Frag) (C : Addr) (TT : List (Addr × Str)) : Sp := fun vs H Q _ => ∃ (p a : Addr) (ns : List Int) (i : Int) (r : Addr) (v : V) (fs : List Fg) (cs : List Ch), vs = [.ref p, .ref r, v] ∧ St TT p a ns i H ∧ i ≤ 10000000 ∧ RR P w K C p H r v fs cs ∧
  ∀ (H' : Hp) (i' : Int), St TT p a ns i' H' → i' ≤ i + 100 → KX p H H' → Q (.bl true) H'
section
variable {P : Program} {w : World} {K : PySem.W.Frag} {mg : Str → Option Value} {base : Heap}
abbrev CalLac (P : Program) (w : World) (K : PySem.W.Frag) (mg : Str → Option Value) (base : Heap) : Prop := CalG P w K mg base CX0 4 "_law_are_changes" ["thing"] (spLac K)
abbrev CalShw (P : Program) (w : World) (K : PySem.W.Frag) (mg : Str → Option Value) (base : Heap) (C : Addr) : Prop := CalG P w K mg base CX0 6 "_law_shows" ["one", "road_here"] (spShw P w K C)
theorem sc_les : FnScope ["pen", "one", "road_here", "road", "is_due", "seen", "word", "found", "rest", "lost", "change"] ["pen", "one", "road_here"] (defScope sLes) := ⟨rfl, rfl, rfl, by decide +kernel, rfl, by decide +kernel, by decide +kernel⟩
theorem ok_les {f c TP cE C cU : Addr} {cc : Nat → Addr} {TT : List (Addr × Str)} {fd : FuncData} (F : FunC K "_law_less_right" sLes f fd c) (T : Bi4 mg) (TW : TWd K mg cc cE) (WD : WdAt K mg) (TB : LamX.TabB base mg c TP) (TR : TRoad K C)
    (hmT : (TP, ("_law_less_right" : Str) ++ ".<locals>." ++ "<lambda>") ∈ TT) (huT : ∀ q ∈ TT, q.1 = TP → q.2 = ("_law_less_right" : Str) ++ ".<locals>." ++ "<lambda>")
    (CD : CalDr P w K mg base) (CS : CalSom Ch P w K mg base) (CO : CalOdc P w K mg base) (CL : CalLac P w K mg base) (CH : CalShw P w K mg base C) (CM : CalMe P w K mg base (L2.CX P w) C 9 "without" ["self", "changes"] (spWot P w K C (cc 2))) :
    GFn P w K mg base CX0 12 f fd ["pen", "one", "road_here"] (spLes P w K C TT) := by
  obtain ⟨fD, fdD, GD, gD, kD, bD⟩ := CD
  obtain ⟨fS, fdS, GS, gS, kS, bS⟩ := CS
  obtain ⟨fO, fdO, GO, gO, kO, bO⟩ := CO
  obtain ⟨fL, fdL, GL, gL, kL, bL⟩ := CL
  obtain ⟨fH, fdH, GH, gH, kH, bH⟩ := CH
  obtain ⟨fM, fdM, MM, GM, bM⟩ := CM
  obtain ⟨gw, oc, od, kV, doc, pm, an, cdw, ct, osl, gWd, kWd, lkWd, hcWd, bWd⟩ := WD
  refine F.gok sc_les (fun vs H Q E h => ?_) (fun A outer s H vs Q E hg hr h => ?_)
  · obtain ⟨p, a, ns, i, r, v, fs, cs, rfl, _⟩ := h
    rfl
  · obtain ⟨p, a, ns, i, r, v, fs, cs, rfl, S, hi9, RH, k⟩ := h
    have hu := hr.units
    have hu5 : (A.deeper (envOfC "_law_less_right" (defScope sLes) s.heap.objs.size f (.ref c))).units + 65 < cLine := by
      have z := hr.un
      omega
    have hrL : Room 11 _ := hr
    have hrH : Room 6 _ := hr.mono (by decide)
    have hr4 : Room 4 _ := hr.mono (by decide)
    have hrO : Room 3 _ := hr.mono (by decide)
    have hrS : Room 3 _ := hrO
    have hrD : Room 2 _ := hr.mono (by decide)
    have hg2 : (A.deeper (envOfC "_law_less_right" (defScope sLes) s.heap.objs.size f (.ref c))).guards = some [] := hg
    have h1000 : 1000 ≤ sizeLine := by decide
    refine ⟨_, (pss_cons (ps_set (i := 9) sc_les.nd rfl (.inr rfl) (pe_call GS hrS (by rfl) gS kS bS .nil pass0 (pa_cons (pv 0) (pa_cons (pe_ix ix_tup (pv 2) (pe_int) (fun _ _ => rfl)) (pa_cons (pe_int) pa_nil)))))
        (pss_cons (ps_set (i := 3) sc_les.nd rfl (.inl rfl) (pe_call GD hrD (by rfl) gD kD bD .nil pass0 (pa_cons (pv 0) (pa_cons (pe_int) pa_nil))))
        (C8.pss_cut (ps_if (pt_cmpR op_eq (pv 3) (pe_int) (nomark _)) (pss_one (ps_set (i := 9) sc_les.nd rfl (.inr rfl) (pe_call GO hrO (by rfl) gO kO bO .nil pass0 (pa_cons (pv 0) pa_nil)))) (pss_one (ps_if (PW.pt (pw_and (pt_cmpR op_eq (pv 3) (pe_int) (nomark _)) (pw_and1 (pt_cmpR (op_neD hu) (pe_ix ix_tup (pv 2) (pe_int) (fun _ _ => rfl)) (pe_lst pa_nil) (nomark _))))) (pss_one (ps_expr (pe_bm PySem.F.plainAttrs_list PySem.F.slot_list_insert PySem.F.type_list_insert mt_insert (pv 9) (pa_cons (pe_call GD hrD (by rfl) gD kD bD .nil pass0 (pa_cons (pv 0) (pa_cons (pe_op op_add (pe_callB call_len_seq (by rfl) T.len PySem.boot_len (pa_cons (pv 9) pa_nil)) pe_int) pa_nil))) (pa_cons (pe_ix ix_list (pe_ix ix_tup (pv 2) pe_int (fun _ _ => rfl)) (pe_call GD hrD (by rfl) gD kD bD .nil pass0 (pa_cons (pv 0) (pa_cons (pe_callB call_len_seq (by rfl) T.len PySem.boot_len (pa_cons (pe_ix ix_tup (pv 2) pe_int (fun _ _ => rfl)) pa_nil)) pa_nil))) (fun _ _ => rfl)) pa_nil))))) pss_nil)))
        (C8.pss_cut (ps_set (i := 4) sc_les.nd rfl (.inl rfl) (pe_and (pe_callG GL hg2 hr4 (by rfl) gL kL bL .nil pass0 (pa_cons (pv 9) pa_nil)) (pe_one (pe_callB (cr_all rfl) (by rfl) T.all (by decide +kernel) (pa_cons (pe_lc (own := [("change", 10)]) (g := gName 10) rfl sc_les.nd (pi_list (pv 9)) (blkOk_by (N := ["pen", "one", "road_here", "road", "is_due", "seen", "word", "found", "rest", "lost", "change"]) (sc := defScope sLes) (by decide +kernel)) (fun _ _ _ _ _ => (pg_name (i := 10) sc_les.nd rfl (.inl rfl))) (fun _ _ _ _ _ => pts_nil) (fun _ _ _ _ _ => (pe_cmpR (show OpR _ _ (rInD K) from op_inD hu5) (pv 10) (show PE _ _ (tOp (rIxT K) (tVar 2) (tC (.int 1))) from pe_ix ix_tup (pv 2) pe_int (fun _ _ => rfl)) (by rfl)))) pa_nil)))))
        (pss_cons (ps_set (i := 5) sc_les.nd rfl (.inl rfl) (pe_callB (call_repr hg2 hu) (by rfl) T.repr (by decide +kernel) (pa_cons (pv 9) pa_nil)))
        (C8.pss_cut (ps_asg (LamX.pe_lamcall (T := TT) (k := 9) (by rfl) gWd kWd lkWd hcWd bWd sc_wrd rfl (.inl rfl) (wrd_gives TW) TB rfl hmT huT hrL (LamX.lamS_by (sc := defScope sLes) (by decide +kernel)) rfl (fun _ _ _ _ _ => rfl) (fun A outer s H E f c1 hr5 => pe_meth (pv 1) TR.c MM GM hr5 bM .nil (passes_call (takes_of rfl rfl rfl rfl) fun _ _ _ _ h => h) (pa_cons (pv 9) pa_nil))) (pg_tup rfl (pgs_cons (pg_name (i := 6) sc_les.nd rfl (.inl rfl)) (pgs_cons (pg_name (i := 7) sc_les.nd rfl (.inl rfl)) pgs_nil))))
        (pss_cons (ps_if (PW.pt (pw_or (pt_cmpR op_ne (pv 6) (pe_ifExp (pt_val (pv 4)) (pe_str) (pe_str)) (nomark _)) (pw_or1 (pt_cmpR op_ne (pe_callB (call_repr hg2 hu) (by rfl) T.repr (by decide +kernel) (pa_cons (pv 9) pa_nil)) (pv 5) (nomark _))))) (pss_one (ps_ret (pe_bl))) pss_nil)
        (pss_cons (ps_if (pt_not (pt_val (pv 4))) (pss_one (ps_ret (pe_bl))) pss_nil)
        (pss_cons (ps_setLc (i := 8) (own := [("change", 10)]) (g := gName 10) rfl sc_les.nd rfl rfl (sw_true rfl rfl rfl (by decide +kernel)) (pi_list (pe_ix ix_tup (pv 2) (pe_int) (fun _ _ => rfl))) (blkOk_by (N := ["pen", "one", "road_here", "road", "is_due", "seen", "word", "found", "rest", "lost", "change"]) (sc := defScope sLes) (by decide +kernel)) (fun _ _ _ _ _ => (pg_name (i := 10) sc_les.nd rfl (.inl rfl))) (fun _ _ _ _ _ => (pts_one (pt_cmpR (show OpR _ _ (rNotInD K) from op_notInD hu5) (pv 10) (pv 9) (by rfl)))) (fun _ _ _ _ _ => (pv 10)))
        (pss_one (ps_ret (pe_callG GH hg2 hrH (by rfl) gH kH bH .nil pass0 (pa_cons (pv 7) (pa_cons (pe_tup (pa_cons (pe_ix ix_tup (pv 2) (pe_int) (fun _ _ => rfl)) (pa_cons (pv 8) pa_nil))) pa_nil)))))))))))))), ?_⟩
    obtain ⟨n, L⟩ := S.pen
    obtain ⟨bb, x0, y0, rfl, hb, h1, h2⟩ := RH.pair.inv
    obtain ⟨bx, xs, rfl, hbx, hx⟩ := h1.lst_inv
    obtain ⟨by_, ys, rfl, hby, hy⟩ := h2.lst_inv
    have lx := hx.len
    have ly := hy.len
    rw [List.length_map] at lx ly
    obtain ⟨⟨_, okf, fne, fnd⟩, ⟨_, okc, cnd⟩, hl⟩ := id RH.road.wf
    have lf := RH.lf
    have lc := RH.lc
    have pcs : ∀ cs : List Ch, (PyData.list (cs.map Datum.toD)).plain = true := fun cs => Datum.plain (α := List Ch) cs
    have pc : ∀ c : Ch, (Datum.toD c : PyData).plain = true := Datum.plain
    -- what is to be left out
    refine ⟨_, rfl, _, rfl, bb, _, 1, _, rfl, rfl, sqT_same cor_le hb, atI_nat (j := 1) rfl, p, a, by_, ns, i, n, 4, ys, cs, rfl, L, by omega, cor_le.seq hby, hy.same cor_wod, by decide, by decide, by omega, fun H1 q zs bs rs i1 n1 L1 hi1 kb1 hq hzq dz pm lb => ?_⟩
    have nqp : q ≠ p := (ne_of_none L.hp hq).symm
    have nqa : q ≠ a := (ne_of_none L.ha hq).symm
    refine ⟨_, rfl, p, a, ns, i1, n1, 4, rfl, L1, by omega, by decide, by decide, fun d i2 n2 H2 d0 du L2 hi2 kb2 => ?_⟩
    have kbH2 : KB p H H2 := KB.trans kb1 kb2
    have S2 : St TT p a ns i2 H2 := (S.draw L1 kb1).draw L2 kb2
    have hzq2 := kb2 _ _ nqp hzq
    have dz2 : DvAll K (wod p H2) zs (bs.map Datum.toD) := (dz.same (KB.wo kb1)).same (KB.wo kb2)
    have R2 := RH.keep kbH2.kx
    have w2 : Same (cor p H) (cor p H2) := kbH2.kx.cor
    have okb : ∀ c ∈ bs, cOk c := fun c hc => okc c (pm.mem_iff.mp (List.mem_append_left _ hc))
    have lbs : bs.length ≤ 4 := by omega
    have lzs : zs.length = bs.length := by
      have z := dz.len
      rwa [List.length_map] at z
    refine ⟨fun σ G => ∃ v9 e i', σ = [some (.ref p), some (.ref r), some (.ref bb), some (.int d), none, none, none, none, none, some v9, none] ∧ St TT p a ns i' G ∧ i' ≤ i + 60 ∧ KX p H G ∧ Dv K (cor p G) v9 e ∧ BentC e, ?_, ?_⟩
    · refine ⟨_, rfl, rfl, _, rfl, ?_⟩
      by_cases q0 : d = 0
      · refine iteYb (by simp [q0]) ?_
        exact ⟨_, rfl, p, a, ns, i2, n2, rfl, L2, by omega, fun H3 v3 e3 i3 n3 L3 hi3 kb3 hv3 od => ⟨v3, e3, i3, rfl, S2.draw L3 kb3, by omega, (kbH2.trans kb3).kx, hv3.ofW, bentC_odd od⟩⟩
      · refine iteNb (by simp [q0]) ?_
        have bC : BentC (.list (bs.map Datum.toD)) := bentC_list (fun e he => by
          obtain ⟨c, hc, rfl⟩ := List.mem_map.mp he
          exact elC_C (okb c hc)) (by rw [List.length_map]; omega)
        refine ⟨_, rfl, rfl, _, rfl, ?_⟩
        have stay : ∃ v9 e i', [some (V.ref p), some (.ref r), some (.ref bb), some (.int d), none, none, none, none, none, some (.ref q), none] = [some (.ref p), some (.ref r), some (.ref bb), some (.int d), none, none, none, none, none, some v9, none] ∧ St TT p a ns i' H2 ∧ i' ≤ i + 60 ∧ KX p H H2 ∧ Dv K (cor p H2) v9 e ∧ BentC e :=
          ⟨.ref q, .list (bs.map Datum.toD), i2, rfl, S2, by omega, kbH2.kx, Dv.ofW (.lst (SqL.of (by rw [wod_ne nqp]; exact hzq2)) dz2), bC⟩
        by_cases q1 : d = 1
        · refine iteYb (by simp [q1]) ?_
          refine ⟨_, rfl, bb, _, 1, _, rfl, rfl, sqT_same (w2.trans cor_le) hb, atI_nat (j := 1) rfl, by show 0 ≤ sizeLine; decide, fun l hl0 => ?_⟩
          have s3 : Same H2 (upd H2 l (.lst [])) := sameN hl0
          have e3 : (upd H2 l (.lst [])) l = some (.lst []) := upd_same
          have L3 := L2.same s3
          have S3 := S2.same s3
          have hzq3 := s3 _ _ hzq2
          have dz3 := dz2.same (wod_mono (d := p) s3)
          have k3 : KX p H (upd H2 l (.lst [])) := kbH2.kx.trans (KX.same s3)
          have nl := fresh_of (Same.refl _) hl0
          generalize upd H2 l (.lst []) = H3 at s3 e3 L3 S3 hzq3 dz3 k3 ⊢
          have w3 : Same (cor p H) (cor p H3) := k3.cor
          refine ⟨_, _, dp_plain ((h2.same w3).same cor_le) (pcs cs), .lst (SqL.of e3) .nil, shp_Cs cs, rfl, _, rfl, ?_⟩
          rw [eqv_nil]
          cases hn : (cs.map Datum.toD : List PyData).isEmpty with
          | true =>
            refine iteNb rfl ?_
            exact ⟨.ref q, .list (bs.map Datum.toD), i2, rfl, S3, by omega, k3, Dv.ofW (.lst (SqL.of (by rw [wod_ne nqp]; exact hzq3)) dz3), bC⟩
          | false =>
            have lcs : 0 < cs.length := by
              cases cs with
              | nil => cases hn
              | cons c t => exact Nat.succ_pos _
            refine iteYb rfl ?_
            refine ⟨_, rfl, .inl ⟨rfl, _, SqL.of hzq3⟩, _, rfl, _, rfl, q, zs, rfl, .inl (SqL.of hzq3), _, _, rfl, rfl, p, a, ns, i2, n2, _, rfl, L3, by omega, by omega, by omega, fun j i4 n4 H4 j0 ju L4 hi4 kb4 => ?_⟩
            have k4 := k3.trans (KB.kx kb4)
            refine ⟨_, rfl, bb, _, 1, _, rfl, rfl, sqT_same (k4.cor.trans cor_le) hb, atI_nat (j := 1) rfl, _, rfl, _, rfl, bb, _, 1, _, rfl, rfl, sqT_same (k4.cor.trans cor_le) hb, atI_nat (j := 1) rfl, by_, ys, rfl, .inl ((k4.cor.trans cor_le).seq hby), p, a, ns, i4, n4, _, rfl, L4, by omega, by omega, by omega, fun u i5 n5 H5 u0 uu L5 hi5 kb5 => ?_⟩
            have k5 := k4.trans (KB.kx kb5)
            obtain ⟨y, ey⟩ : ∃ y, ys[u.toNat]? = some y := ⟨_, List.getElem?_eq_getElem (by omega)⟩
            have aty : atI ys u = some y := by
              have z := atI_nat (xs := ys) ey
              rwa [Int.toNat_of_nonneg u0] at z
            have kb45 : KB p H3 H5 := KB.trans kb4 kb5
            have hzq5 := kb45 _ _ nqp hzq3
            refine ⟨by_, ys, u, y, rfl, rfl, (k5.cor.trans cor_le).seq hby, aty, q, zs, j, y, rfl, rfl, hzq5, by omega, j0, by omega, ?_⟩
            have kbq : KB p H (upd H5 q (.lst (zs.take j.toNat ++ [y] ++ zs.drop j.toNat))) := fun b o nb e => by
              rw [upd_ne (ne_of_none e hq)]
              exact kb45 b o nb (s3 _ _ (kbH2 b o nb e))
            have Sq : St TT p a ns i5 (upd H5 q (.lst (zs.take j.toNat ++ [y] ++ zs.drop j.toNat))) := S.draw (pen_upd L5 nqp nqa) kbq
            have hyq := hy.same kbq.kx.cor
            have dzq := (dz.same kbq.wo).ofW
            obtain ⟨dy, edy, hdy⟩ := hyq.get ey
            rw [List.getElem?_map] at edy
            obtain ⟨ch, ech, rfl⟩ := Option.map_eq_some_iff.mp edy
            refine ⟨.ref q, .list ((bs.map Datum.toD).take j.toNat ++ [Datum.toD ch] ++ (bs.map Datum.toD).drop j.toNat), i5, rfl, Sq, by omega, kbq.kx, .lst (SqL.of (cor_new nqp fun ps z => nomatch z)) (dv_app (dv_app (dv_take _ dzq) (.cons hdy .nil)) (dv_drop _ dzq)), ?_⟩
            refine bentC_list (fun e he => ?_) ?_
            · rcases List.mem_append.mp he with he | he
              · rcases List.mem_append.mp he with he | he
                · obtain ⟨c, hc, rfl⟩ := List.mem_map.mp (List.mem_of_mem_take he)
                  exact elC_C (okb c hc)
                · rw [List.mem_singleton.mp he]
                  exact elC_C (okc ch (List.mem_of_getElem? ech))
              · obtain ⟨c, hc, rfl⟩ := List.mem_map.mp (List.mem_of_mem_drop he)
                exact elC_C (okb c hc)
            · rw [List.length_append, List.length_append, List.length_take, List.length_drop, List.length_map, List.length_singleton]
              omega
        · exact iteNb (by simp [q1]) stay
    · rintro σ G ⟨v9, e, i9, rfl, S9, hi9', k9, hv9, bC⟩
      -- whether it may be
      have okC := bC.parts
      have leC := bC.len
      have szC := bC.sz.fits (by decide) (by decide)
      refine ⟨fun σ G2 => ∃ b, σ = [some (.ref p), some (.ref r), some (.ref bb), some (.int d), some (.bl b), none, none, none, none, some v9, none] ∧ Same G G2 ∧ (b = true → DueW e cs) ∧ (b = false → ¬ DueW e cs), ?_, ?_⟩
      · refine ⟨_, rfl, v9, e, rfl, hv9.same cor_le, okC, by omega, fun H1 s1 => ⟨fun z => ⟨_, rfl, ?_⟩, fun ls hls => ⟨_, rfl, ?_⟩⟩⟩
        · exact iteF ⟨false, rfl, s1, (fun z => Bool.noConfusion z), fun _ ⟨ls, h, _⟩ => z ls h⟩
        · refine iteT ?_
          obtain ⟨rfl, okl, ndl⟩ := id hls
          obtain ⟨m, us, rfl, hm, hus⟩ := (hv9.same cor_le).lst_inv
          have lus := hus.len
          rw [List.length_map] at lus
          have ll : lenD (.list (ls.map Datum.toD)) = ls.length := List.length_map ..
          rw [ll] at leC
          refine ⟨_, rfl, m, rfl, ⟨us, s1.seq hm⟩, fun D hD => lc_list (xs := us) (fun i H' => H' D = some (.lst (((ls.take i).map fun c => decide (c ∈ cs)).map V.bl)) ∧ Same H1 H') ⟨upd_same, sameN hD⟩ (fun i H' _ ⟨_, s2⟩ => (s1.trans s2).seq hm) (fun i x H' hi ⟨g1, s2⟩ => ?_) (fun H2 ⟨g1, s2⟩ => ?_)⟩
          · obtain ⟨dy, ex, hdx⟩ := hus.get hi
            rw [List.getElem?_map] at ex
            obtain ⟨ch, ech, rfl⟩ := Option.map_eq_some_iff.mp ex
            have s3 := s1.trans s2
            have w3 : Same (cor p H) (cor p H') := (k9.trans (KX.same s3)).cor
            refine ⟨rfl, _, rfl, _, rfl, bb, _, 1, _, rfl, rfl, sqT_same (w3.trans cor_le) hb, atI_nat (j := 1) rfl, dC ch, _, dp_plain (hdx.same s3) (pc ch), dp_plain ((h2.same w3).same cor_le) (pcs cs), shp_C ch, shp_Cs cs, _, g1, ?_, ?_, ?_⟩
            · rw [List.length_map, List.length_map, List.length_take]
              have z := Nat.min_le_right i ls.length
              omega
            · rw [any_in, take_one ech, List.map_append, List.map_append]
              exact upd_same
            · intro x o e
              rw [upd_ne (ne_of_none e hD)]
              exact s2 _ _ e
          · rw [show us.length = ls.length from lus, List.take_length] at g1
            have s3 := s1.trans s2
            refine ⟨D, _, rfl, SqL.of g1, ?_⟩
            by_cases hall : ∀ c ∈ ls, c ∈ cs
            · have e1' : ((ls.map fun c => decide (c ∈ cs)).all id) = true := by
                rw [List.all_map]
                exact List.all_eq_true.mpr fun c hc => decide_eq_true (hall c hc)
              rw [e1']
              exact ⟨true, rfl, s3, fun _ => ⟨ls, hls, hall⟩, fun z => nomatch z⟩
            · have e1' : ((ls.map fun c => decide (c ∈ cs)).all id) = false := by
                refine Bool.eq_false_iff.mpr fun z => hall fun c hc => ?_
                rw [List.all_map] at z
                exact of_decide_eq_true (List.all_eq_true.mp z c hc)
              rw [e1']
              refine ⟨false, rfl, s3, (fun z => Bool.noConfusion z), fun _ ⟨ms, h, hz⟩ => hall ?_⟩
              rw [areC_eq hls h]
              exact hz
      · rintro σ G2 ⟨b, rfl, s2, due1, due2⟩
        have S10 := S9.same s2
        have k10 := k9.trans (KX.same s2)
        have hv10 := hv9.same (cor_same (p := p) s2)
        clear hv9 S9 k9 s2
        refine ⟨_, rfl, v9, e, rfl, hv10.same cor_le, szC.1, szC.2.1, szC.2.2, ?_⟩
        -- the call
        refine ⟨fun σ G3 => St TT p a ns i9 G3 ∧ KX p G2 G3 ∧ ((b = false ∧ σ = [some (.ref p), some (.ref r), some (.ref bb), some (.int d), some (.bl b), some (.str e.shown), some (.str "change"), some .non, none, some v9, none]) ∨
          (b = true ∧ ∃ q ls, AreC e ls ∧ σ = [some (.ref p), some (.ref r), some (.ref bb), some (.int d), some (.bl b), some (.str e.shown), some (.str ""), some (.ref q), none, some v9, none] ∧ RoadAt P w K C G3 q fs (cs.filter fun c => !decide (c ∈ ls)))), ?_, ?_⟩
        · refine ⟨S10.all, fun H3 x3 t3 H0 s0 E1 Q1 he hq1 => ?_⟩
          have kx3 : KX p G2 H0 := (KX.ext x3).trans (KX.same s0)
          have R0 : RoadAt P w K C H0 r fs cs := ((RH.road.same (k10.trans kx3).cor)).same cor_le
          obtain ⟨dx, fl, _, _, _, q0, _⟩ := R0.ex
          have hv0 := (hv10.same kx3.cor).same cor_le
          refine ⟨_, rfl, r, dx, fl, rfl, q0, R0.nm _ _ _ q0 "without" (by decide) (by decide) (by decide), _, rfl, r, v9, e, fs, cs, rfl, R0, hv0, by omega, fun ls hls hall H4 q1 s4 hq4 RR4 => ?_, fun z H4 s4 => ?_⟩
          · have hb : b = true := by
              cases b with
              | true => rfl
              | false => exact absurd ⟨ls, hls, hall⟩ (due2 rfl)
            refine hq1 _ _ fun H5 t s5 ht5 et => ?_
            have s05 := s0.trans (s4.trans s5)
            refine ⟨t, _, rfl, SqT.of et, rfl, .str "", _, rfl, .ref q1, _, rfl, rfl, (S10.ext x3 t3).same s05, (KX.ext x3).trans (KX.same s05), .inr ⟨hb, q1, ls, hls, rfl, RR4.same s5⟩⟩
          · have hb : b = false := by
              cases b with
              | false => rfl
              | true =>
                obtain ⟨ls, hls, hall⟩ := due1 rfl
                exact absurd hall (z ls hls)
            refine he 2 _ (by decide) fun H5 t s5 ht5 et => ?_
            have s05 := s0.trans (s4.trans s5)
            exact ⟨t, _, rfl, SqT.of et, rfl, .str "change", _, rfl, .non, _, rfl, rfl, (S10.ext x3 t3).same s05, (KX.ext x3).trans (KX.same s05), .inl ⟨hb, rfl⟩⟩
        · rintro σ G3 ⟨S11, k23, hh⟩
          have k11 := k10.trans k23
          have hv11 := hv10.same k23.cor
          rcases hh with ⟨rfl, rfl⟩ | ⟨rfl, q, ls, hls, rfl, R11⟩
          · refine ⟨_, rfl, _, rfl, _, rfl, iteF ⟨rfl, _, rfl, iteNb (by simp) ?_⟩⟩
            refine ⟨_, rfl, v9, e, rfl, hv11.same cor_le, szC.1, szC.2.1, szC.2.2, _, rfl, rfl, _, rfl, iteNb (by simp) ?_⟩
            refine ⟨_, rfl, _, rfl, iteYb rfl ?_⟩
            exact k G3 i9 S11 (by omega) k11
          · refine ⟨_, rfl, _, rfl, _, rfl, iteT ⟨rfl, _, rfl, iteNb (by simp) ?_⟩⟩
            refine ⟨_, rfl, v9, e, rfl, hv11.same cor_le, szC.1, szC.2.1, szC.2.2, _, rfl, rfl, _, rfl, iteNb (by simp) ?_⟩
            refine ⟨_, rfl, _, rfl, iteNb rfl ?_⟩
            obtain ⟨rfl, okl, ndl⟩ := id hls
            have w11 : Same (cor p H) (cor p G3) := k11.cor
            refine ⟨_, rfl, bb, _, 1, _, rfl, rfl, sqT_same (w11.trans cor_le) hb, atI_nat (j := 1) rfl, by_, rfl, ⟨ys, (w11.trans cor_le).seq hby⟩, fun D hD => lc_list (xs := ys) (fun i H' => ∃ acc, H' D = some (.lst acc) ∧ DvAll K G3 acc (((cs.take i).filter fun c => !decide (c ∈ ls)).map Datum.toD) ∧ Same G3 H') ⟨[], upd_same, .nil, sameN hD⟩ (fun i H' _ ⟨_, _, _, s4⟩ => s4.seq ((w11.trans cor_le).seq hby)) (fun i x H' hi ⟨acc, g1, g2, s4⟩ => ?_) (fun H5 ⟨acc, g1, g2, s4⟩ => ?_)⟩
            · obtain ⟨dy, ex, hdx⟩ := (hy.same (w11.trans cor_le)).get hi
              rw [List.getElem?_map] at ex
              obtain ⟨ch, ech, rfl⟩ := Option.map_eq_some_iff.mp ex
              refine ⟨rfl, _, rfl, _, rfl, dC ch, _, dp_plain (hdx.same s4) (pc ch), dp_plain ((hv11.same cor_le).same s4) (pcs ls), shp_C ch, shp_Cs ls, _, rfl, ?_⟩
              rw [any_in, take_one ech, List.filter_append, List.map_append]
              by_cases hm : ch ∈ ls
              · have z : [ch].filter (fun c => !decide (c ∈ ls)) = [] := by simp [hm]
                rw [z]
                exact iteNb (by simp [hm]) ⟨acc, g1, by simpa using g2, s4⟩
              · have z : [ch].filter (fun c => !decide (c ∈ ls)) = [ch] := by simp [hm]
                rw [z]
                refine iteYb (by simp [hm]) ⟨_, rfl, acc, g1, ?_, acc ++ [x], upd_same, g2.snoc hdx, fun y o e => ?_⟩
                · have la := g2.len
                  rw [List.length_map] at la
                  have lf := List.length_filter_le (fun c : Ch => !decide (c ∈ ls)) (cs.take i)
                  rw [List.length_take] at lf
                  have z := Nat.min_le_right i cs.length
                  omega
                · rw [upd_ne (ne_of_none e hD)]
                  exact s4 _ _ e
            · rw [show ys.length = cs.length from ly, List.take_length] at g2
              have R12 := R11.same s4
              have w12 : Same (cor p H) H5 := (w11.trans cor_le).trans s4
              refine ⟨_, rfl, _, rfl, bb, _, 0, _, rfl, rfl, sqT_same w12 hb, atI_nat (j := 0) rfl, _, rfl, by show 2 ≤ sizeLine; decide, fun t ht => ?_⟩
              have st : Same H5 (upd H5 t (.tup [.ref bx, .ref D])) := sameN ht
              refine ⟨q, .ref t, fs, cs.filter fun c => !decide (c ∈ ls), rfl, R12.same st, .tup (SqT.of upd_same) (.cons ((h1.same w12).same st) (.cons (.lst (SqL.of (st _ _ g1)) ((g2.same s4).same st)) .nil)), fun H6 s6 => ?_⟩
              have s56 := s4.trans (st.trans s6)
              exact k H6 i9 (S11.same s56) (by omega) (k11.trans (KX.same s56))
end
end Own
/-! x == y, x != y of two instances of a class with an own __eq__ that returns a bool. -/
namespace Own
open PySem PySem.Spec PyProof.Rows L2
/-- what == of two instances of C promises, by its own def's promise -/
def rEqI (C : Addr) (sp : Sp) (E : XK) : R2 := fun x y H Q => ∃ a b dx dy fs gs, x = .ref a ∧ y = .ref b ∧ H a = some (.ins C dx fs) ∧ H b = some (.ins C dy gs) ∧ sp [.ref a, .ref b] H (fun v H' => ∃ k, v = .bl k ∧ Q (.bl k) H') E
def rNeI (C : Addr) (sp : Sp) (E : XK) : R2 := fun x y H Q => ∃ a b dx dy fs gs, x = .ref a ∧ y = .ref b ∧ H a = some (.ins C dx fs) ∧ H b = some (.ins C dy gs) ∧ sp [.ref a, .ref b] H (fun v H' => ∃ k, v = .bl k ∧ Q (.bl (!k)) H') E
section
variable {X : Cx} {CX : CXT} {C f : Addr} {fd : FuncData} {ps : List Str} {sp : Sp} {E : XK} {n : Nat}
theorem op_eqI (F : FnOk X.prog X.w X.K X.mg X.base CX n f fd ps sp) (hs : PySem.W.findIn X.K (.ref C) "__eq__" = some (some (.ref f))) (hf : PySem.W.isFn X.K (.ref f) = true) (hb : Binds X.K fd ps []) (hr : Room n X.A) (hx : Passes CX X E) : OpR X (compareOp .Eq) (rEqI C sp E) := by
  intro pins s σ H x y u v Q I rx ry h
  obtain ⟨a, b, dx, dy, fs, gs, rfl, rfl, ha, hb', hsp⟩ := h
  cases rx
  cases ry
  obtain ⟨mA, J, _⟩ := ins_get I.hok ha
  obtain ⟨mB, J', _⟩ := ins_get I.hok hb'
  obtain ⟨od, J, _⟩ := J.look
  obtain ⟨od', J', _⟩ := J'.look
  obtain ⟨m, hF⟩ := I.fr
  refine PySem.W.cmp_K (op := .Eq) (tb := .ref C) hr.units0 hF I.ok.mod.kin J J'.type (by simp [PySem.W.notFirst]) hs hf ?_
  refine wpAny_mono (run_fn (us := [.ref a, .ref b]) (vs := [.ref a, .ref b]) F hr hb .nil hx I (.cons rfl (.cons rfl .nil)) hsp) (fun r s' z => ?_) fun _ _ e => e
  obtain ⟨w', H', I', r', k, rfl, q⟩ := z
  cases r'
  exact ⟨.bl k, H', I', rfl, q⟩
theorem ifBound_objNe {M : Model} {A : Around} {E : Value → Shared → Prop} {s : Shared} {K : PySem.W.Frag} {x C : Addr} {ox : Obj} {od : Option Obj} {args : List Value} {Q : Option Value → Shared → Prop} (Z : K.In s.heap) (I : PySem.W.InstAt s.heap x ox C od) (hs : PySem.W.findIn K (.ref C) "__ne__" = some (some (.builtin "object.__ne__")))
    (h : wpAny M A (call (.builtin "object.__ne__") (.ref x :: args)) (fun v => Q (some v)) E s) : wpAny M A (callSpecialIfBound? (.ref x) "__ne__" args) Q E s := by
  simp only [callSpecialIfBound?, bindSpecialIfBound?]
  refine wpAny_holding (wpAny_bind (wpAny_bind (wpAny_bind (I.type.here ((PySem.W.looks_findIn Z hs).here ?_)))))
  refine wpAny_bind (wpAny_askSetting (wpAny_ite ?_))
  have fin : wpAny M A (call (.builtin "object.__ne__") ([.ref x] ++ args) >>= fun v => pure (some v)) Q E s := wpAny_bind (wpAny_mono h (fun v s' h' => wpAny_pure h') fun _ _ h' => h')
  split
  · exact wpAny_bind (wpAny_of_eq (F.cmp_object.ne.bind _) (wpAny_pure (by exact fin)))
  · exact wpAny_tryCatch (wpAny_bind (wpAny_of_eq (F.cmp_object.ne.bind _) (wpAny_pure (by exact fin))))
theorem op_neI (F : FnOk X.prog X.w X.K X.mg X.base CX n f fd ps sp) (hs : PySem.W.findIn X.K (.ref C) "__eq__" = some (some (.ref f))) (hn : PySem.W.findIn X.K (.ref C) "__ne__" = some (some (.builtin "object.__ne__"))) (hm : PySem.W.mroIn X.K C (.type "object") = some true)
    (hf : PySem.W.isFn X.K (.ref f) = true) (hb : Binds X.K fd ps []) (hr : Room (n + 1) X.A) (hx : Passes CX X E) : OpR X (compareOp .NotEq) (rNeI C sp E) := by
  intro pins s σ H x y u v Q I rx ry h
  obtain ⟨a, b, dx, dy, fs, gs, rfl, rfl, ha, hb', hsp⟩ := h
  cases rx
  cases ry
  obtain ⟨mA, J, _⟩ := ins_get I.hok ha
  obtain ⟨mB, J', _⟩ := ins_get I.hok hb'
  obtain ⟨od, J, _⟩ := J.look
  obtain ⟨od', J', _⟩ := J'.look
  have hl := F.len _ _ _ _ hsp
  have callee : wpAny (model X.prog X.w) X.A.in1 (call (.ref f) [.ref a, .ref b]) (fun r s' => ∃ k, r = .bool k ∧ EP X pins σ Q (.bool (!k)) s') X.xe s := by
    refine wpAny_call (codeAny_mono (F.run X.A.in1 X.stack s H ⟨[.ref a, .ref b], []⟩ [.ref a, .ref b] [.ref a, .ref b] _ E hr.in1 I.env0.in1 (by
      have z := hb s [.ref a, .ref b] I.kIn (by simpa using hl)
      simpa using z) (.cons rfl (.cons rfl .nil)) hsp) fun r s' hq => ?_)
    cases r with
    | error e => exact hx pins σ H s e s' I hq
    | ok fl =>
      cases fl with
      | ret w' =>
        obtain ⟨z, H', I', rz, k, rfl, q⟩ := I.after hq
        cases rz
        exact ⟨k, rfl, .bl (!k), H', I', rfl, q⟩
      | next => exact False.elim hq
      | brk => exact False.elim hq
      | cont => exact False.elim hq
  have entry : wpAny (model X.prog X.w) X.A.in1 (Builtin.«object.__ne__» ⟨[.ref a, .ref b], []⟩) (fun fin s' => ∃ k, fin = .done (.ret (.bool (!k))) ∧ EP X pins σ Q (.bool (!k)) s') X.xe s := by
    unfold Builtin.«object.__ne__»
    have hu : X.A.in1.units < cLine := hr.in1.units0
    repeat (first
      | with_reducible refine wpAny_cRoomFor hu ?_
      | (refine wpAny_bind (m := callSpecialIfBound? (.ref a) (Str.ofString "__eq__") [.ref b]) (PySem.W.ifBound_K I.kIn J hs hf (wpAny_mono callee (fun r s' hr => by
          obtain ⟨k, rfl, hq⟩ := hr
          repeat (first | exact ⟨k, rfl, hq⟩ | exact wpAny_pure ⟨k, rfl, hq⟩ | refine wpAny_truthy_bool ?_ | (refine wpAny_bind (m := truthy (.bool _)) (wpAny_truthy_bool ?_)) | wp_step)) fun _ _ e => e)))
      | wp_step)
  have one : wpAny (model X.prog X.w) X.A (tryCompare (.ref a) "__ne__" (.ref b)) (fun r s' => ∃ k, r = some (.bool (!k)) ∧ EP X pins σ Q (.bool (!k)) s') X.xe s := by
    unfold tryCompare
    refine wpAny_bind (ifBound_objNe I.kIn J hn (wpAny_call (codeAny_call_builtin PySem.F.cmp_object.ne.plain PySem.F.cmpEntry_ne (PySem.W.check_slot PySem.F.cmpKind_ne PySem.F.cmpSplit_ne (J.type.andThen (PySem.W.looks_mroIn I.kIn hm)) (PySem.F.cmpArgs_ne _ _) (wpAny_mono entry (fun fin s' z => ?_) fun _ _ e => e)))))
    obtain ⟨k, rfl, q⟩ := z
    exact wpAny_pure ⟨k, rfl, q⟩
  show wpAny (model X.prog X.w) X.A (richCompare .NotEq (.ref a) (.ref b)) (EP X pins σ Q) X.xe s
  unfold richCompare
  simp only [oneThing_ref]
  refine wpAny_holding (wpAny_bind (wpAny_cRoomFor hr.units0 ?_))
  refine wpAny_bind (J.type.here (wpAny_bind (J'.type.here ?_)))
  split
  · rename_i q
    simp at q
  · refine wpAny_bind (wpAny_pure ?_)
    simp only [Bool.false_eq_true, if_false]
    refine wpAny_bind (wpAny_mono one (fun r s' z => ?_) fun _ _ e => e)
    obtain ⟨k, rfl, hq⟩ := z
    exact wpAny_pure hq
end
end Own
/-! The law's question of a road with a further change. -/
namespace Own
open PySem PySem.Spec PyProof.Rows L2 PySem.W
abbrev sMor : Stmt := top1 38
theorem elC_pair {f g : Fg} (hf : fOk f) (hg : fOk g) : ElC (dC (f, g)) := by
  refine ⟨fun ds e x hx => ?_, by show 2 < 300; decide, (Sz.tup (.cons (sz_F hf) (.cons (sz_F hg) .nil))).mono (by decide) (by decide)⟩
  have e' : PyData.tuple [dF f, dF g] = .tuple ds := e
  injection e' with e'
  subst e'
  rcases List.mem_cons.mp hx with rfl | hx
  · exact ⟨(sz_F hf).fits (by decide) (by decide), figD_of (by unfold figB; rw [show isFig (dF f) = true from hf]; rfl)⟩
  · rcases List.mem_cons.mp hx with rfl | hx
    · exact ⟨(sz_F hg).fits (by decide) (by decide), figD_of (by unfold figB; rw [show isFig (dF g) = true from hg]; rfl)⟩
    · cases hx
/-- a change that may be put in -/
def DueM (d : PyData) (cs : List Ch) : Prop := ∃ c, d = dC c ∧ cOk c ∧ c ∉ cs
def spMor (P : Program) (w : World) (K : PySem.W.Frag) (C : Addr) (TT : List (Addr × Str)) : Sp := spLes P w K C TT
def more3 : List Fg := [⟨[5]⟩, ⟨[0, 5]⟩, ⟨[3, 1]⟩]
theorem more3_ok : ∀ f ∈ more3, fOk f := by
  have h : more3.all (fun f => isFig (dF f)) = true := by decide +kernel
  exact fun f hf => List.all_eq_true.mp h f hf
section
variable {P : Program} {w : World} {K : PySem.W.Frag} {mg : Str → Option Value} {base : Heap}
/-- a road's own question of equality, where it stands -/
def EqAtR (P : Program) (w : World) (K : PySem.W.Frag) (mg : Str → Option Value) (base : Heap) (C : Addr) : Prop :=
  ∃ (f : Addr) (fd : FuncData), FnOk P w K mg base CX0 1 f fd ["self", "other"] (spREq P w K C) ∧ PySem.W.findIn K (.ref C) "__eq__" = some (some (.ref f)) ∧ PySem.W.findIn K (.ref C) "__ne__" = some (some (.builtin "object.__ne__")) ∧ PySem.W.isFn K (.ref f) = true ∧ Binds K fd ["self", "other"] []
theorem sc_mor : FnScope ["pen", "one", "road_here", "figures", "more", "is_due", "seen", "word", "found", "change"] ["pen", "one", "road_here"] (defScope sMor) := ⟨rfl, rfl, rfl, by decide +kernel, rfl, by decide +kernel, by decide +kernel⟩
theorem ok_mor {f c TP cE C : Addr} {cc : Nat → Addr} {TT : List (Addr × Str)} {fd : FuncData} (F : FunC K "_law_more_right" sMor f fd c) (T : Bi4 mg) (TW : TWd K mg cc cE) (WD : WdAt K mg) (TB : LamX.TabB base mg c TP) (TR : TRoad K C)
    (hmT : (TP, ("_law_more_right" : Str) ++ ".<locals>." ++ "<lambda>") ∈ TT) (huT : ∀ q ∈ TT, q.1 = TP → q.2 = ("_law_more_right" : Str) ++ ".<locals>." ++ "<lambda>")
    (CD : CalDr P w K mg base) (CK : CalKno P w K mg base) (CO : CalOdc P w K mg base) (CI : CalIsC' P w K mg base) (CH : CalShw P w K mg base C) (CM : CalMe P w K mg base (L2.CX P w) C 9 "with_change" ["self", "change"] (spWch P w K C (cc 0))) (CE : EqAtR P w K mg base C) :
    GFn P w K mg base CX0 12 f fd ["pen", "one", "road_here"] (spMor P w K C TT) := by
  obtain ⟨fD, fdD, GD, gD, kD, bD⟩ := CD
  obtain ⟨fK, fdK, GK, gK, kK, bK⟩ := CK
  obtain ⟨fO, fdO, GO, gO, kO, bO⟩ := CO
  obtain ⟨fI, fdI, GI, gI, kI, bI⟩ := CI
  obtain ⟨fH, fdH, GH, gH, kH, bH⟩ := CH
  obtain ⟨fM, fdM, MM, GM, bM⟩ := CM
  obtain ⟨fE, fdE, GE, e1E, e2E, e3E, bE⟩ := CE
  obtain ⟨gw, oc, od, kV, doc, pm, an, cdw, ct, osl, gWd, kWd, lkWd, hcWd, bWd⟩ := WD
  refine F.gok sc_mor (fun vs H Q E h => ?_) (fun A outer s H vs Q E hg hr h => ?_)
  · obtain ⟨p, a, ns, i, r, v, fs, cs, rfl, _⟩ := h
    rfl
  · obtain ⟨p, a, ns, i, r, v, fs, cs, rfl, S, hi9, RH, k⟩ := h
    have hu := hr.units
    have hu5 : (A.deeper (envOfC "_law_more_right" (defScope sMor) s.heap.objs.size f (.ref c))).units + 65 < cLine := by
      have z := hr.un
      omega
    have hrL : Room 11 _ := hr
    have hrH : Room 6 _ := hr.mono (by decide)
    have hrO : Room 3 _ := hr.mono (by decide)
    have hrI : Room 3 _ := hrO
    have hrD : Room 2 _ := hr.mono (by decide)
    have hr1 : Room 1 _ := hr.mono (by decide)
    have hg2 : (A.deeper (envOfC "_law_more_right" (defScope sMor) s.heap.objs.size f (.ref c))).guards = some [] := hg
    have h1000 : 1000 ≤ sizeLine := by decide
    have hB : ∀ x ∈ ([] : List Str), mg x = none := fun x hx => nomatch hx
    refine ⟨_, (pss_cons (ps_set (i := 3) sc_mor.nd rfl (.inl rfl) (pe_op op_catL (pe_call GK hr1 (by rfl) gK kK bK .nil pass0 (pa_cons (pv 2) pa_nil)) (lit_peX (α := Unit) (n := 12) (N := ["pen", "one", "road_here", "figures", "more", "is_due", "seen", "word", "found", "change"]) (sc := defScope sMor) (B := []) (Es := fun _ => fun _ => false) (envs := fun _ => []) (ds := fun _ => .list (more3.map Datum.toD)) rfl rfl hB (fun x => by kernel_rfl))))
        (pss_cons (ps_set (i := 9) sc_mor.nd rfl (.inr rfl) (pe_tup (pa_cons (pe_ix ix_list (pv 3) (pe_call GD hrD (by rfl) gD kD bD .nil pass0 (pa_cons (pv 0) (pa_cons (pe_callB call_len_seq (by rfl) T.len PySem.boot_len (pa_cons (pv 3) pa_nil)) pa_nil))) (fun _ _ => rfl)) (pa_cons (pe_ix ix_list (pv 3) (pe_call GD hrD (by rfl) gD kD bD .nil pass0 (pa_cons (pv 0) (pa_cons (pe_callB call_len_seq (by rfl) T.len PySem.boot_len (pa_cons (pv 3) pa_nil)) pa_nil))) (fun _ _ => rfl)) pa_nil))))
        (C8.pss_cut (ps_if (pt_cmpR op_eq (pe_call GD hrD (by rfl) gD kD bD .nil pass0 (pa_cons (pv 0) (pa_cons (pe_int) pa_nil))) (pe_int) (nomark _)) (pss_cons (ps_set (i := 4) sc_mor.nd rfl (.inl rfl) (pe_call GO hrO (by rfl) gO kO bO .nil pass0 (pa_cons (pv 0) pa_nil)))
        (pss_one (ps_set (i := 9) sc_mor.nd rfl (.inr rfl) (pe_ifExp (PW.pt (pw_and (pt_val (pe_callB call_isi (by rfl) T.isinstance (by decide +kernel) (pa_cons (pv 4) (pa_cons (pe_bltn (v := .ty "list") (by rfl) T.list (by decide +kernel) rfl) pa_nil)))) (pw_and1 (pt_cmpR (op_neD hu) (pv 4) (pe_lst pa_nil) (nomark _))))) (pe_ix ix_list (pv 4) (pe_int) (fun _ _ => rfl)) (pv 4))))) pss_nil)
        (C8.pss_cut (ps_par (i := 5) (j := 6) rfl sc_mor.nd rfl rfl (by decide) rfl rfl (pa_cons (pe_and (pe_callG GI hg2 hrI (by rfl) gI kI bI .nil pass0 (pa_cons (pv 9) pa_nil)) (pe_one (pe_cmpR (show OpR _ _ (rNotInD K) from op_notInD hu5) (pv 9) (show PE _ _ (tOp (rIxT K) (tVar 2) (tC (.int 1))) from pe_ix ix_tup (pv 2) pe_int (fun _ _ => rfl)) (by rfl)))) (pa_cons (pe_callB (call_repr hg2 hu) (by rfl) T.repr (by decide +kernel) (pa_cons (pv 9) pa_nil)) pa_nil)) (by rfl))
        (C8.pss_cut (ps_asg (LamX.pe_lamcall (T := TT) (k := 9) (by rfl) gWd kWd lkWd hcWd bWd sc_wrd rfl (.inl rfl) (wrd_gives TW) TB rfl hmT huT hrL (LamX.lamS_by (sc := defScope sMor) (by decide +kernel)) rfl (fun _ _ _ _ _ => rfl) (fun A outer s H E f c1 hr5 => pe_meth (pv 1) TR.c MM GM hr5 bM .nil (passes_call (takes_of rfl rfl rfl rfl) fun _ _ _ _ h => h) (pa_cons (pv 9) pa_nil))) (pg_tup rfl (pgs_cons (pg_name (i := 7) sc_mor.nd rfl (.inl rfl)) (pgs_cons (pg_name (i := 8) sc_mor.nd rfl (.inl rfl)) pgs_nil))))
        (pss_cons (ps_if (PW.pt (pw_or (pt_cmpR op_ne (pv 7) (pe_ifExp (pt_val (pv 5)) (pe_str) (pe_str)) (nomark _)) (pw_or1 (pt_cmpR op_ne (pe_callB (call_repr hg2 hu) (by rfl) T.repr (by decide +kernel) (pa_cons (pv 9) pa_nil)) (pv 6) (nomark _))))) (pss_one (ps_ret (pe_bl))) pss_nil)
        (pss_one (ps_ret (pe_or (pe_not (pv 5)) (pe_one (pe_and (pe_callG GH hg2 hrH (by rfl) gH kH bH .nil pass0 (pa_cons (pv 8) (pa_cons (pe_tup (pa_cons (pe_ix ix_tup (pv 2) pe_int (fun _ _ => rfl)) (pa_cons (pe_op op_catL (pe_ix ix_tup (pv 2) pe_int (fun _ _ => rfl)) (pe_lst (pa_cons (pv 9) pa_nil))) pa_nil))) pa_nil))) (pe_one (pe_cmpR (op_neI GE e1E e2E TR.hm e3E bE hrD pass0) (pv 8) (pv 1) (nomark _)))))))))))))), ?_⟩
    obtain ⟨n, L⟩ := S.pen
    obtain ⟨bb, x0, y0, rfl, hb, h1, h2⟩ := RH.pair.inv
    obtain ⟨bx, xs, rfl, hbx, hx⟩ := h1.lst_inv
    obtain ⟨by_, ys, rfl, hby, hy⟩ := h2.lst_inv
    have lx := hx.len
    have ly := hy.len
    rw [List.length_map] at lx ly
    obtain ⟨⟨_, okf, fne, fnd⟩, ⟨_, okc, cnd⟩, hl⟩ := id RH.road.wf
    have lf := RH.lf
    have lc := RH.lc
    have pcs : ∀ cs : List Ch, (PyData.list (cs.map Datum.toD)).plain = true := fun cs => Datum.plain (α := List Ch) cs
    have pc : ∀ c : Ch, (Datum.toD c : PyData).plain = true := Datum.plain
    -- the shapes to draw from
    refine ⟨_, rfl, .ref bb, fs, cs, rfl, Dv.same cor_le RH.pair, hl, okf, okc, fun H1 q1 z1 s1 hq1 dz1 => ?_⟩
    have t1 : Same H1 (upd H1 q1 (.lst z1)) := sameN hq1
    have e1 : (upd H1 q1 (.lst z1)) q1 = some (.lst z1) := upd_same
    have s2 := s1.trans t1
    have nq1 : q1 ≠ p := (ne_of_none (s1 _ _ L.hp) hq1).symm
    have dz1 : DvAll K H z1 ((behKeys fs cs).map Datum.toD) := dz1
    generalize upd H1 q1 (.lst z1) = H2 at s2 e1 ⊢
    refine ⟨(), lit0 (fun q hq => absurd hq (by simp)) fun v2 H3 s3 hv2 => ?_⟩
    obtain ⟨m2, z2, rfl, hm2, dz2⟩ := hv2.lst_inv
    have e1 := s3 _ _ e1
    have l1 := dz1.len
    have l2 : z2.length = 3 := dz2.len
    have lk := behKeys_len fs cs
    rw [List.length_map] at l1
    have s4 := s2.trans s3
    refine ⟨q1, m2, z1, z2, rfl, rfl, SqL.of e1, hm2, by omega, fun q hq => ?_⟩
    have t5 : Same H3 (upd H3 q (.lst (z1 ++ z2))) := sameN hq
    have eq : (upd H3 q (.lst (z1 ++ z2))) q = some (.lst (z1 ++ z2)) := upd_same
    have s5 := s4.trans t5
    have L5 := L.same s5
    have nqp : q ≠ p := (ne_of_none (s4 _ _ L.hp) hq).symm
    have dz : DvAll K (upd H3 q (.lst (z1 ++ z2))) (z1 ++ z2) ((behKeys fs cs ++ more3).map Datum.toD) := by
      rw [List.map_append]
      exact dv_app (dz1.same s5) (dz2.same t5)
    have ok3 : ∀ f ∈ behKeys fs cs ++ more3, fOk f := fun f hf => by
      rcases List.mem_append.mp hf with hf | hf
      · exact fp_ok okf okc f (behKeys_mem.mp hf)
      · exact more3_ok f hf
    have lz : (z1 ++ z2).length ≤ 50 := by
      rw [List.length_append]
      omega
    have lz0 : 0 < (z1 ++ z2).length := by
      rw [List.length_append]
      omega
    have S5 := S.same s5
    have k5 : KX p H (upd H3 q (.lst (z1 ++ z2))) := KX.same s5
    have dzw : DvAll K (wod p (upd H3 q (.lst (z1 ++ z2)))) (z1 ++ z2) ((behKeys fs cs ++ more3).map Datum.toD) := dvs_key dz (by
      intro b us h
      rcases h with h | ⟨o, h⟩
      · exact .inl (by rw [wod_ne (ne_of h L5.hp fun z => nomatch z)]; exact h)
      · exact .inr ⟨o, by rw [wod_ne (ne_of h L5.hp fun z => nomatch z)]; exact h⟩)
    generalize upd H3 q (.lst (z1 ++ z2)) = H5 at t5 eq s5 L5 dz S5 k5 dzw ⊢
    generalize z1 ++ z2 = zs at eq lz lz0 dz dzw ⊢
    -- two of them
    refine ⟨_, rfl, _, rfl, _, rfl, q, zs, rfl, .inl (SqL.of eq), p, a, ns, i, n, _, rfl, L5, by omega, by omega, by omega, fun d1 i6 n6 H6 d0 du L6 hi6 kb6 => ?_⟩
    obtain ⟨w1, f1, at1, hw1, m1⟩ : ∃ v f, atI zs d1 = some v ∧ Dv K (wod p H6) v (dF f) ∧ f ∈ behKeys fs cs ++ more3 := by
      obtain ⟨v, d, a1, a2, a3⟩ := dvs_at (dzw.same (KB.wo kb6)) d0 (by omega)
      obtain ⟨f, hf, rfl⟩ := List.mem_map.mp a3
      exact ⟨v, f, a1, a2, hf⟩
    refine ⟨q, zs, d1, w1, rfl, rfl, SqL.of (kb6 _ _ nqp eq), at1, ?_⟩
    refine ⟨_, rfl, _, rfl, _, rfl, q, zs, rfl, .inl (SqL.of (kb6 _ _ nqp eq)), p, a, ns, i6, n6, _, rfl, L6, by omega, by omega, by omega, fun d2 i7 n7 H7 e0 eu L7 hi7 kb7 => ?_⟩
    have kb67 : KB p H5 H7 := KB.trans kb6 kb7
    obtain ⟨w2, f2, at2, hw2, m2'⟩ : ∃ v f, atI zs d2 = some v ∧ Dv K (wod p H7) v (dF f) ∧ f ∈ behKeys fs cs ++ more3 := by
      obtain ⟨v, d, a1, a2, a3⟩ := dvs_at (dzw.same kb67.wo) e0 (by omega)
      obtain ⟨f, hf, rfl⟩ := List.mem_map.mp a3
      exact ⟨v, f, a1, a2, hf⟩
    refine ⟨q, zs, d2, w2, rfl, rfl, SqL.of (kb67 _ _ nqp eq), at2, by show 2 ≤ sizeLine; decide, fun t ht => ?_⟩
    have st : Same H7 (upd H7 t (.tup [w1, w2])) := sameN ht
    have ntp : t ≠ p := (ne_of_none L7.hp ht).symm
    have S7 := (S5.draw L7 kb67).same st
    have L8 := L7.same st
    have k8 : KX p H (upd H7 t (.tup [w1, w2])) := (k5.trans kb67.kx).trans (KX.same st)
    have hch : Dv K (wod p (upd H7 t (.tup [w1, w2]))) (.ref t) (dC (f1, f2)) := by
      show Dv K _ (.ref t) (.tuple [dF f1, dF f2])
      exact .tup (SqT.of (by rw [wod_ne ntp, upd_same])) (.cons ((hw1.same (KB.wo kb7)).same (wod_mono st)) (.cons (hw2.same (wod_mono st)) .nil))
    generalize upd H7 t (.tup [w1, w2]) = H8 at S7 L8 k8 hch ⊢
    -- or an odd one
    refine ⟨fun σ G => ∃ x4 v9 e i', σ = [some (.ref p), some (.ref r), some (.ref bb), some (.ref q), x4, none, none, none, none, some v9] ∧ St TT p a ns i' G ∧ i' ≤ i + 60 ∧ KX p H G ∧ Dv K (cor p G) v9 e ∧ ElC e, ?_, ?_⟩
    · refine ⟨_, rfl, p, a, ns, i7, n7, 4, rfl, L8, by omega, by decide, by decide, fun d9 i9 n9 H9 g0 gu L9 hi9' kb9 => ?_⟩
      have k9 := k8.trans (KB.kx kb9)
      have S9 := S7.draw L9 kb9
      refine ⟨rfl, _, rfl, ?_⟩
      by_cases q0 : d9 = 0
      · refine iteYb (by simp [q0]) ?_
        refine ⟨_, rfl, p, a, ns, i9, n9, rfl, L9, by omega, fun H10 v10 e10 i10 n10 L10 hi10 kb10 hv10 od => ?_⟩
        have k10 := k9.trans (KB.kx kb10)
        have S10 := S9.draw L10 kb10
        have hvF := hv10.same wod_same
        refine ⟨_, rfl, v10, .ty "list", .type (tyD e10), .type "list", _, rfl, .ty _, hvF.ty, kit_ty (kit_list e10), _, rfl, ?_⟩
        cases htl : isL e10 with
        | false => exact iteF ⟨_, rfl, _, v10, e10, i10, rfl, S10, by omega, k10, hv10.ofW, od.non htl⟩
        | true =>
          obtain ⟨es, rfl⟩ := isL_some htl
          obtain ⟨pl, sh, le, oke⟩ := od.lst es rfl
          refine iteT ⟨_, rfl, by show 0 ≤ sizeLine; decide, fun l hl0 => ?_⟩
          have s11 : Same H10 (upd H10 l (.lst [])) := sameN hl0
          refine ⟨_, _, dp_plain (hvF.same s11) pl, .lst (SqL.of upd_same) .nil, sh, rfl, _, rfl, ?_⟩
          rw [eqv_nil]
          have hv11 := hv10.same (wod_mono (d := p) s11)
          cases es with
          | nil => exact iteNb rfl ⟨_, rfl, _, v10, _, i10, rfl, S10.same s11, by omega, k10.trans (KX.same s11), hv11.ofW, elC_of (by decide +kernel)⟩
          | cons e0 er =>
            obtain ⟨m, us, rfl, hm, hus⟩ := hv11.lst_inv
            obtain ⟨u0, ur, rfl⟩ : ∃ u0 ur, us = u0 :: ur := by
              cases us with
              | nil => cases hus
              | cons u0 ur => exact ⟨u0, ur, rfl⟩
            have hu0 : Dv K (wod p (upd H10 l (.lst []))) u0 e0 := by
              cases hus with
              | cons h _ => exact h
            exact iteYb rfl ⟨_, rfl, m, _, 0, _, rfl, rfl, wod_same.seq hm, atI_nat (j := 0) rfl, _, u0, e0, i10, rfl, S10.same s11, by omega, k10.trans (KX.same s11), hu0.ofW, oke e0 List.mem_cons_self⟩
      · exact iteNb (by simp [q0]) ⟨none, .ref t, dC (f1, f2), i9, rfl, S9, by omega, k9, (hch.same (KB.wo kb9)).ofW, elC_pair (ok3 f1 m1) (ok3 f2 m2')⟩
    · rintro σ G ⟨x4, v9, e, i9, rfl, S9, hi9', k9, hv9, el⟩
      have sz := el.sz.fits (by decide) (by decide)
      -- whether it may be
      refine ⟨fun σ G2 => ∃ b, σ = [some (.ref p), some (.ref r), some (.ref bb), some (.ref q), x4, some (.bl b), some (.str e.shown), none, none, some v9] ∧ Same G G2 ∧ (b = true → DueM e cs) ∧ (b = false → ¬ DueM e cs), ?_, ?_⟩
      · refine ⟨_, rfl, v9, e, rfl, hv9.same cor_le, el.parts, el.len, fun H1 s1 => ⟨_, rfl, ?_⟩⟩
        have hv1 := (hv9.same cor_le).same s1
        cases qc : isCh e with
        | false =>
          refine iteF ⟨_, rfl, v9, e, rfl, hv1, sz.1, sz.2.1, sz.2.2, _, _, rfl, false, rfl, s1, (fun z => Bool.noConfusion z), fun _ ⟨c, ec, okc', _⟩ => ?_⟩
          rw [ec, cOk_ch okc'] at qc
          cases qc
        | true =>
          obtain ⟨ch, rfl, okch⟩ := ch_ex qc
          have w1 : Same (cor p H) (cor p H1) := (k9.trans (KX.same s1)).cor
          refine iteT ⟨_, rfl, _, rfl, bb, _, 1, _, rfl, rfl, sqT_same (w1.trans cor_le) hb, atI_nat (j := 1) rfl, dC ch, _, dp_plain hv1 (pc ch), dp_plain ((h2.same w1).same cor_le) (pcs cs), shp_C ch, shp_Cs cs, _, rfl, v9, dC ch, rfl, hv1, sz.1, sz.2.1, sz.2.2, _, _, rfl, !decide (ch ∈ cs), ?_, s1, fun z => ?_, fun z => ?_⟩
          · rw [any_in]
            rfl
          · exact ⟨ch, rfl, okch, by simpa using z⟩
          · rintro ⟨c, ec, _, hc⟩
            rw [← toC_inj ec] at hc
            simp [hc] at z
      · rintro σ G2 ⟨b, rfl, s2, due1, due2⟩
        have S10 := S9.same s2
        have k10 := k9.trans (KX.same s2)
        have hv10 := hv9.same (cor_same (p := p) s2)
        clear hv9 S9 k9 s2
        -- the call
        refine ⟨fun σ G3 => St TT p a ns i9 G3 ∧ KX p G2 G3 ∧ ((b = false ∧ σ = [some (.ref p), some (.ref r), some (.ref bb), some (.ref q), x4, some (.bl b), some (.str e.shown), some (.str "road"), some .non, some v9]) ∨
          (b = true ∧ ∃ y ch, e = dC ch ∧ cOk ch ∧ ch ∉ cs ∧ σ = [some (.ref p), some (.ref r), some (.ref bb), some (.ref q), x4, some (.bl b), some (.str e.shown), some (.str ""), some (.ref y), some v9] ∧ RoadAt P w K C G3 y fs (cs ++ [ch]))), ?_, ?_⟩
        · refine ⟨S10.all, fun H3 x3 t3 H0 s0 E1 Q1 he hq1 => ?_⟩
          have kx3 : KX p G2 H0 := (KX.ext x3).trans (KX.same s0)
          have R0 : RoadAt P w K C H0 r fs cs := ((RH.road.same (k10.trans kx3).cor)).same cor_le
          obtain ⟨dx, fl, _, _, _, q0, _⟩ := R0.ex
          have hv0 := (hv10.same kx3.cor).same cor_le
          refine ⟨_, rfl, r, dx, fl, rfl, q0, R0.nm _ _ _ q0 "with_change" (by decide) (by decide) (by decide), _, rfl, r, v9, e, fs, cs, rfl, R0, hv0, by omega, fun ch ec okch nch H4 q4 s4 hq4 RR4 => ?_, fun z H4 s4 => ?_⟩
          · have hb : b = true := by
              cases b with
              | true => rfl
              | false => exact absurd ⟨ch, ec, okch, nch⟩ (due2 rfl)
            refine hq1 _ _ fun H5 t s5 ht5 et => ?_
            have s05 := s0.trans (s4.trans s5)
            exact ⟨t, _, rfl, SqT.of et, rfl, .str "", _, rfl, .ref q4, _, rfl, rfl, (S10.ext x3 t3).same s05, (KX.ext x3).trans (KX.same s05), .inr ⟨hb, q4, ch, ec, okch, nch, rfl, RR4.same s5⟩⟩
          · have hb : b = false := by
              cases b with
              | false => rfl
              | true =>
                obtain ⟨ch, ec, okch, nch⟩ := due1 rfl
                exact absurd (z ch ec okch) nch
            refine he 0 _ (by decide) fun H5 t s5 ht5 et => ?_
            have s05 := s0.trans (s4.trans s5)
            exact ⟨t, _, rfl, SqT.of et, rfl, .str "road", _, rfl, .non, _, rfl, rfl, (S10.ext x3 t3).same s05, (KX.ext x3).trans (KX.same s05), .inl ⟨hb, rfl⟩⟩
        · rintro σ G3 ⟨S11, k23, hh⟩
          have k11 := k10.trans k23
          have hv11 := hv10.same k23.cor
          have w11 : Same (cor p H) (cor p G3) := k11.cor
          rcases hh with ⟨rfl, rfl⟩ | ⟨rfl, y, ch, rfl, okch, nch, rfl, R11⟩
          · refine ⟨_, rfl, _, rfl, _, rfl, iteF ⟨rfl, _, rfl, iteNb (by simp) ?_⟩⟩
            refine ⟨_, rfl, v9, e, rfl, hv11.same cor_le, sz.1, sz.2.1, sz.2.2, _, rfl, rfl, _, rfl, iteNb (by simp) ?_⟩
            exact ⟨_, rfl, _, rfl, _, rfl, iteT (k G3 i9 S11 (by omega) k11)⟩
          · refine ⟨_, rfl, _, rfl, _, rfl, iteT ⟨rfl, _, rfl, iteNb (by simp) ?_⟩⟩
            refine ⟨_, rfl, v9, _, rfl, hv11.same cor_le, sz.1, sz.2.1, sz.2.2, _, rfl, rfl, _, rfl, iteNb (by simp) ?_⟩
            refine ⟨_, rfl, _, rfl, _, rfl, iteF ?_⟩
            refine ⟨_, rfl, _, rfl, bb, _, 0, _, rfl, rfl, sqT_same (w11.trans cor_le) hb, atI_nat (j := 0) rfl, _, rfl, bb, _, 1, _, rfl, rfl, sqT_same (w11.trans cor_le) hb, atI_nat (j := 1) rfl, _, rfl, by show 1 ≤ sizeLine; decide, fun l hl0 => ?_⟩
            have s12 : Same G3 (upd G3 l (.lst [v9])) := sameN hl0
            refine ⟨by_, l, ys, [v9], rfl, rfl, s12.seq ((w11.trans cor_le).seq hby), SqL.of upd_same, by rw [List.length_singleton]; omega, fun m hm => ?_⟩
            have s13 : Same G3 (upd (upd G3 l (.lst [v9])) m (.lst (ys ++ [v9]))) := s12.trans (sameN hm)
            have em : (upd (upd G3 l (.lst [v9])) m (.lst (ys ++ [v9]))) m = some (.lst (ys ++ [v9])) := upd_same
            generalize upd (upd G3 l (.lst [v9])) m (.lst (ys ++ [v9])) = G4 at s13 em ⊢
            have w13 : Same (cor p H) G4 := (w11.trans cor_le).trans s13
            refine ⟨by show 2 ≤ sizeLine; decide, fun t ht => ?_⟩
            have st : Same G4 (upd G4 t (.tup [.ref bx, .ref m])) := sameN ht
            have s14 := s13.trans st
            have dcs : DvAll K G4 (ys ++ [v9]) ((cs ++ [ch]).map Datum.toD) := by
              rw [List.map_append]
              exact dv_app (hy.same w13) (.cons ((hv11.same cor_le).same s13) .nil)
            refine ⟨y, .ref t, fs, cs ++ [ch], rfl, R11.same s14, .tup (SqT.of upd_same) (.cons ((h1.same w13).same st) (.cons (.lst (SqL.of (st _ _ em)) (dcs.same st)) .nil)), fun G5 s15 => ⟨_, rfl, iteT ?_⟩⟩
            have s16 := s14.trans s15
            have Ra := R11.same s16
            have Rb : RoadAt P w K C G5 r fs cs := (RH.road.same (w11.trans cor_le)).same s16
            obtain ⟨dxa, fla, _, _, _, qa, _⟩ := id Ra.ex
            obtain ⟨dxb, flb, _, _, _, qb, _⟩ := id Rb.ex
            have ne : (decide (sortT fs = sortT fs) && decide (sortT (cs ++ [ch]) = sortT cs)) = false := by
              rw [decide_eq_true rfl, Bool.true_and, decide_eq_false_iff_not]
              intro z
              have z2 := congrArg List.length z
              rw [sortT_len, sortT_len, List.length_append, List.length_singleton] at z2
              omega
            refine ⟨_, rfl, _, rfl, y, r, dxa, dxb, fla, flb, rfl, rfl, qa, qb, y, .ref r, fs, cs ++ [ch], rfl, Ra, .inl ⟨r, fs, cs, rfl, Rb, _, rfl, ?_⟩⟩
            rw [ne]
            exact k G5 i9 (S11.same s16) (by omega) (k11.trans (KX.same s16))
end
end Own
/-! The law's question of a full road. -/
namespace Own
open PySem PySem.Spec PyProof.Rows L2 PySem.W
abbrev sFrr : Stmt := top1 39
def spFrr (P : Program) (w : World) (K : PySem.W.Frag) (C : Addr) (TT : List (Addr × Str)) : Sp := fun vs H Q _ => ∃ (p a : Addr) (ns : List Int) (i : Int) (v : V) (fs : List Fg) (cs : List Ch), vs = [.ref p, v] ∧ St TT p a ns i H ∧ i ≤ 10000000 ∧ PairR K (cor p H) v fs cs ∧ WfR fs cs ∧ fs.length ≤ 4 ∧ cs.length ≤ 12 ∧
  ∀ (H' : Hp) (i' : Int), St TT p a ns i' H' → i' ≤ i + 100 → KX p H H' → Q (.bl true) H'
theorem areF_eq {d : PyData} {ls ms : List Fg} (h : AreF d ls) (g : AreF d ms) : ls = ms := by
  obtain ⟨rfl, _⟩ := h
  obtain ⟨e, _⟩ := g
  injection e with e
  exact map_inj e
section
variable {P : Program} {w : World} {K : PySem.W.Frag} {mg : Str → Option Value} {base : Heap}
abbrev CalBnt (P : Program) (w : World) (K : PySem.W.Frag) (mg : Str → Option Value) (base : Heap) : Prop := Cal P w K mg base CX0 4 "_law_bent" ["pen", "road_here"] (spBnt K)
abbrev CalLaf (P : Program) (w : World) (K : PySem.W.Frag) (mg : Str → Option Value) (base : Heap) : Prop := CalG P w K mg base CX0 3 "_law_are_figures" ["thing"] (spLaf K)
theorem sc_frr : FnScope ["pen", "road_here", "is_due", "seen", "word", "found", "figures"] ["pen", "road_here"] (defScope sFrr) := ⟨rfl, rfl, rfl, by decide +kernel, rfl, by decide +kernel, by decide +kernel⟩
theorem ok_frr {f c TP cE C : Addr} {cc : Nat → Addr} {TT : List (Addr × Str)} {fd : FuncData} (F : FunC K "_law_full_right" sFrr f fd c) (T : Bi4 mg) (TW : TWd K mg cc cE) (WD : WdAt K mg) (TB : LamX.TabB base mg c TP)
    (hmT : (TP, ("_law_full_right" : Str) ++ ".<locals>." ++ "<lambda>") ∈ TT) (huT : ∀ q ∈ TT, q.1 = TP → q.2 = ("_law_full_right" : Str) ++ ".<locals>." ++ "<lambda>")
    (CN : CalBnt P w K mg base) (CI : CalLaf P w K mg base) (CH : CalShw P w K mg base C) (CL : CalAll P w K mg base) (CM : Cal P w K mg base (L2.CX P w) 9 "full_road" ["shapes"] (spFul P w K C (cc 0))) :
    GFn P w K mg base CX0 12 f fd ["pen", "road_here"] (spFrr P w K C TT) := by
  obtain ⟨fN, fdN, GN, gN, kN, bN⟩ := CN
  obtain ⟨fI, fdI, GI, gI, kI, bI⟩ := CI
  obtain ⟨fH, fdH, GH, gH, kH, bH⟩ := CH
  obtain ⟨fL, fdL, GL, gL, kL, bL⟩ := CL
  obtain ⟨fM, fdM, GM, gM, kM, bM⟩ := CM
  obtain ⟨gw, oc, od, kV, doc, pm, an, cdw, ct, osl, gWd, kWd, lkWd, hcWd, bWd⟩ := WD
  refine F.gok sc_frr (fun vs H Q E h => ?_) (fun A outer s H vs Q E hg hr h => ?_)
  · obtain ⟨p, a, ns, i, v, fs, cs, rfl, _⟩ := h
    rfl
  · obtain ⟨p, a, ns, i, v, fs, cs, rfl, S, hi9, hv, wf, lf, lc, k⟩ := h
    have hu := hr.units
    have hrL : Room 11 _ := hr
    have hrH : Room 6 _ := hr.mono (by decide)
    have hrN : Room 4 _ := hr.mono (by decide)
    have hrI : Room 3 _ := hr.mono (by decide)
    have hr1 : Room 1 _ := hr.mono (by decide)
    have hg2 : (A.deeper (envOfC "_law_full_right" (defScope sFrr) s.heap.objs.size f (.ref c))).guards = some [] := hg
    refine ⟨_, (C8.pss_cut (ps_set (i := 6) sc_frr.nd rfl (.inr rfl) (pe_ix ix_tup (pe_call GN hrN (by rfl) gN kN bN .nil pass0 (pa_cons (pv 0) (pa_cons (pv 1) pa_nil))) (pe_int) (fun _ _ => rfl)))
        (C8.pss_cut (ps_par (i := 2) (j := 3) rfl sc_frr.nd rfl rfl (by decide) rfl rfl (pa_cons (pe_callG GI hg2 hrI (by rfl) gI kI bI .nil pass0 (pa_cons (pv 6) pa_nil)) (pa_cons (pe_callB (call_repr hg2 hu) (by rfl) T.repr (by decide +kernel) (pa_cons (pv 6) pa_nil)) pa_nil)) (by rfl))
        (C8.pss_cut (ps_asg (LamX.pe_lamcall (T := TT) (k := 9) (by rfl) gWd kWd lkWd hcWd bWd sc_wrd rfl (.inl rfl) (wrd_gives TW) TB rfl hmT huT hrL (LamX.lamS_by (sc := defScope sFrr) (by decide +kernel)) rfl (fun _ _ _ _ _ => rfl) (fun A outer s H E f c1 hr5 => pe_call GM hr5 (by rfl) gM kM bM .nil (passes_call (takes_of rfl rfl rfl rfl) fun _ _ _ _ h => h) (pa_cons (pv 6) pa_nil))) (pg_tup rfl (pgs_cons (pg_name (i := 4) sc_frr.nd rfl (.inl rfl)) (pgs_cons (pg_name (i := 5) sc_frr.nd rfl (.inl rfl)) pgs_nil))))
        (pss_cons (ps_if (PW.pt (pw_or (pt_cmpR op_ne (pv 4) (pe_ifExp (pt_val (pv 2)) (pe_str) (pe_str)) (nomark _)) (pw_or1 (pt_cmpR op_ne (pe_callB (call_repr hg2 hu) (by rfl) T.repr (by decide +kernel) (pa_cons (pv 6) pa_nil)) (pv 3) (nomark _))))) (pss_one (ps_ret (pe_bl))) pss_nil)
        (pss_one (ps_ret (pe_or (pe_not (pv 2)) (pe_one (pe_callG GH hg2 hrH (by rfl) gH kH bH .nil pass0 (pa_cons (pv 5) (pa_cons (pe_tup (pa_cons (pv 6) (pa_cons (pe_call GL hr1 (by rfl) gL kL bL .nil pass0 (pa_cons (pv 6) pa_nil)) pa_nil))) pa_nil))))))))))), ?_⟩
    obtain ⟨n, L⟩ := S.pen
    refine ⟨fun σ G => ∃ v6 e i', σ = [some (.ref p), some v, none, none, none, none, some v6] ∧ St TT p a ns i' G ∧ i' ≤ i + 60 ∧ KX p H G ∧ Dv K (cor p G) v6 e ∧ BentF e, ?_, ?_⟩
    · refine ⟨_, rfl, _, rfl, p, a, ns, i, n, v, fs, cs, rfl, L, by omega, Dv.same cor_wod hv, wf, lf, lc, fun H1 u d e i1 n1 L1 hi1 kb1 hu1 bF bC => ?_⟩
      obtain ⟨m, zs, rfl, hm, hz⟩ := hu1.tup_inv
      obtain ⟨y, y2, rfl, hy, _⟩ := dvs_two hz
      exact ⟨m, _, 0, _, rfl, rfl, sqT_same wod_same hm, atI_nat (j := 0) rfl, y, d, i1, rfl, S.draw L1 kb1, by omega, kb1.kx, hy.ofW, bF⟩
    · rintro σ G ⟨v6, e, i9, rfl, S9, hi9', k9, hv9, bF⟩
      have sz := bF.sz.fits (by decide) (by decide)
      have le := bF.len
      refine ⟨fun σ G2 => ∃ b, σ = [some (.ref p), some v, some (.bl b), some (.str e.shown), none, none, some v6] ∧ Same G G2 ∧ (b = true → ∃ gs, AreF e gs) ∧ (b = false → ∀ gs, ¬ AreF e gs), ?_, ?_⟩
      · refine ⟨_, rfl, v6, e, rfl, hv9.same cor_le, bF.parts, by omega, fun H1 s1 => ⟨fun z => ?_, fun gs hgs => ?_⟩⟩
        · exact ⟨_, rfl, v6, e, rfl, (hv9.same cor_le).same s1, sz.1, sz.2.1, sz.2.2, _, _, rfl, false, rfl, s1, (fun z => Bool.noConfusion z), fun _ => z⟩
        · exact ⟨_, rfl, v6, e, rfl, (hv9.same cor_le).same s1, sz.1, sz.2.1, sz.2.2, _, _, rfl, true, rfl, s1, (fun _ => ⟨gs, hgs⟩), fun z => Bool.noConfusion z⟩
      · rintro σ G2 ⟨b, rfl, s2, due1, due2⟩
        have S10 := S9.same s2
        have k10 := k9.trans (KX.same s2)
        have hv10 := hv9.same (cor_same (p := p) s2)
        clear hv9 S9 k9 s2
        refine ⟨fun σ G3 => St TT p a ns i9 G3 ∧ KX p G2 G3 ∧ ((b = false ∧ σ = [some (.ref p), some v, some (.bl b), some (.str e.shown), some (.str "road"), some .non, some v6]) ∨
          (b = true ∧ ∃ y gs, AreF e gs ∧ σ = [some (.ref p), some v, some (.bl b), some (.str e.shown), some (.str ""), some (.ref y), some v6] ∧ RoadAt P w K C G3 y gs (allCh gs))), ?_, ?_⟩
        · refine ⟨S10.all, fun H3 x3 t3 H0 s0 E1 Q1 he hq1 => ?_⟩
          have kx3 : KX p G2 H0 := (KX.ext x3).trans (KX.same s0)
          have hv0 := (hv10.same kx3.cor).same cor_le
          refine ⟨_, rfl, v6, e, rfl, hv0, le, fun gs hgs H4 q4 s4 hq4 RR4 => ?_, fun z H4 s4 => ?_⟩
          · have hb : b = true := by
              cases b with
              | true => rfl
              | false => exact absurd hgs (due2 rfl gs)
            refine hq1 _ _ fun H5 t s5 ht5 et => ?_
            have s05 := s0.trans (s4.trans s5)
            exact ⟨t, _, rfl, SqT.of et, rfl, .str "", _, rfl, .ref q4, _, rfl, rfl, (S10.ext x3 t3).same s05, (KX.ext x3).trans (KX.same s05), .inr ⟨hb, q4, gs, hgs, rfl, RR4.same s5⟩⟩
          · have hb : b = false := by
              cases b with
              | false => rfl
              | true =>
                obtain ⟨gs, hgs⟩ := due1 rfl
                exact absurd hgs (z gs)
            refine he 0 _ (by decide) fun H5 t s5 ht5 et => ?_
            have s05 := s0.trans (s4.trans s5)
            exact ⟨t, _, rfl, SqT.of et, rfl, .str "road", _, rfl, .non, _, rfl, rfl, (S10.ext x3 t3).same s05, (KX.ext x3).trans (KX.same s05), .inl ⟨hb, rfl⟩⟩
        · rintro σ G3 ⟨S11, k23, hh⟩
          have k11 := k10.trans k23
          have hv11 := hv10.same k23.cor
          rcases hh with ⟨rfl, rfl⟩ | ⟨rfl, y, gs, hgs, rfl, R11⟩
          · refine ⟨_, rfl, _, rfl, _, rfl, iteF ⟨rfl, _, rfl, iteNb (by simp) ?_⟩⟩
            refine ⟨_, rfl, v6, e, rfl, hv11.same cor_le, sz.1, sz.2.1, sz.2.2, _, rfl, rfl, _, rfl, iteNb (by simp) ?_⟩
            exact ⟨_, rfl, _, rfl, _, rfl, iteT (k G3 i9 S11 (by omega) k11)⟩
          · refine ⟨_, rfl, _, rfl, _, rfl, iteT ⟨rfl, _, rfl, iteNb (by simp) ?_⟩⟩
            refine ⟨_, rfl, v6, _, rfl, hv11.same cor_le, sz.1, sz.2.1, sz.2.2, _, rfl, rfl, _, rfl, iteNb (by simp) ?_⟩
            refine ⟨_, rfl, _, rfl, _, rfl, iteF ?_⟩
            obtain ⟨rfl, okg, gne, gnd⟩ := id hgs
            have lg : gs.length ≤ 12 := by
              have z : lenD (.list (gs.map Datum.toD)) = gs.length := List.length_map ..
              omega
            refine ⟨_, rfl, _, rfl, _, rfl, v6, gs, rfl, hv11.same cor_le, lg, fun H5 q5 z5 s5 hq5 hz5 dz5 => ?_⟩
            refine ⟨by show 2 ≤ sizeLine; decide, fun t ht => ?_⟩
            have st : Same H5 (upd H5 t (.tup [v6, .ref q5])) := sameN ht
            have s6 := s5.trans st
            refine ⟨y, .ref t, gs, allCh gs, rfl, R11.same s6, .tup (SqT.of upd_same) (.cons ((hv11.same cor_le).same s6) (.cons (.lst (SqL.of (st _ _ hz5)) ((dz5.same wod_same).same st)) .nil)), fun G5 s15 => ?_⟩
            have s16 := s6.trans s15
            exact k G5 i9 (S11.same s16) (by omega) (k11.trans (KX.same s16))
end
end Own
/-! The law's question of other beginnings. -/
namespace Own
open PySem PySem.Spec PyProof.Rows L2 PySem.W
abbrev sBgr : Stmt := top1 40
def swp (c : Ch) : Ch := (c.2, c.1)
theorem swp_ok {c : Ch} (h : cOk c) : cOk (swp c) := ⟨h.2.1, h.1, fun e => h.2.2 e.symm⟩
theorem swp_nd {cs : List Ch} (h : cs.Nodup) : (cs.map swp).Nodup := List.Pairwise.map _ (fun a b hne e => hne (by
  obtain ⟨a1, a2⟩ := a
  obtain ⟨b1, b2⟩ := b
  injection e with e1 e2
  subst e1
  subst e2
  rfl)) h
/-- a list of shapes that a road may begin with -/
structure Bg (bs : List Fg) : Prop where
  ok : ∀ f ∈ bs, fOk f
  ne : bs ≠ []
  nd : bs.Nodup
  le : bs.length ≤ 40
theorem Bg.are {bs : List Fg} (b : Bg bs) : AreF (.list (bs.map Datum.toD)) bs := ⟨rfl, b.ok, b.ne, b.nd⟩
theorem Bg.sub {bs gs : List Fg} (b : Bg bs) (s : gs.Sublist bs) (ne : gs ≠ []) : Bg gs := ⟨fun f hf => b.ok f (s.subset hf), ne, s.nodup b.nd, Nat.le_trans s.length_le b.le⟩
def cutT {α : Type} (xs : List α) (lo hi : Option Int) : List α := (xs.drop (HT.sIx xs.length 0 lo)).take (HT.sIx xs.length xs.length hi - HT.sIx xs.length 0 lo)
theorem cutD_map {α : Type} (f : α → PyData) (xs : List α) (lo hi : Option Int) : cutD (xs.map f) lo hi = (cutT xs lo hi).map f := by
  unfold cutD cutT
  rw [List.length_map, List.map_take, List.map_drop]
theorem cutT_sub {α : Type} (xs : List α) (lo hi : Option Int) : (cutT xs lo hi).Sublist xs := (List.take_sublist _ _).trans (List.drop_sublist _ _)
theorem cutT_last {α : Type} {xs : List α} (h : xs ≠ []) : cutT xs (some (-1)) none ≠ [] := by
  have l := List.length_pos_iff.mpr h
  unfold cutT
  intro e
  have z := congrArg List.length e
  rw [List.length_take, List.length_drop] at z
  have e1 : HT.sIx xs.length 0 (some (-1)) = xs.length - 1 := by
    unfold HT.sIx
    show (if (-1 : Int) < 0 then ((-1 : Int) + (xs.length : Int)).toNat else _) = _
    rw [if_pos (by decide)]
    omega
  rw [e1, HT.sIx_none] at z
  simp only [List.length_nil] at z
  omega
theorem cutT_one {α : Type} {xs : List α} (h : xs ≠ []) : cutT xs none (some 1) ≠ [] := by
  have l := List.length_pos_iff.mpr h
  unfold cutT
  intro e
  have z := congrArg List.length e
  rw [List.length_take, List.length_drop, HT.sIx_none] at z
  have e1 : HT.sIx xs.length xs.length (some 1) = min 1 xs.length := HT.sIx_nat _ _ 1
  rw [e1] at z
  simp only [List.length_nil] at z
  omega
theorem dec_comm {α : Type} [DecidableEq α] (a b : α) : decide (a = b) = decide (b = a) := by
  by_cases h : a = b
  · subst h
    rfl
  · rw [decide_eq_false h, decide_eq_false (fun e => h e.symm)]
theorem sortT_ne {cs : List Ch} : decide (sortT cs = sortT (cs.drop 1)) = decide (cs = []) := by
  cases cs with
  | nil => simp
  | cons c t =>
    have h1 : ¬ sortT (c :: t) = sortT ((c :: t).drop 1) := fun e => by
      have z := congrArg List.length e
      rw [sortT_len, sortT_len] at z
      simp at z
    have h2 : ¬ (c :: t : List Ch) = [] := fun e => nomatch e
    rw [decide_eq_false h1, decide_eq_false h2]
def spBgr (P : Program) (w : World) (K : PySem.W.Frag) (C : Addr) : Sp := fun vs H Q _ => ∃ (r : Addr) (v : V) (fs : List Fg) (cs : List Ch), vs = [.ref r, v] ∧ RoadAt P w K C H r fs cs ∧ PairR K H v fs cs ∧ fs.length ≤ 4 ∧ cs.length ≤ 12 ∧ ∀ H', Same H H' → Q (.bl true) H'
theorem sz_bool (b : Bool) : Sz 1 1 (.bool b) := sz_of (by cases b <;> decide +kernel)
section
variable {P : Program} {w : World} {K : PySem.W.Frag} {mg : Str → Option Value} {base : Heap}
/-- Road(..) of what stands in the heap, whatever follows -/
theorem mk_roadA {C cR : Addr} {H1 : Hp} {Qa : Addr → Hp → Prop} {E : XK} {v u : V} {d e : PyData} (TR : TRoad K C) (hv : Dv K H1 v d) (hu : Dv K H1 u e) (hl : lenD d + 2 * lenD e < 290)
    (k1 : ∀ fs cs, AreF d fs → AreC e cs → ∀ H' r, Same H1 H' → H1 r = none → RoadAt P w K C H' r fs cs → Qa r H')
    (k2 : ((∀ fs, ¬ AreF d fs) ∨ ∀ cs, ¬ AreC e cs) → ∀ H', Same H1 H' → E (.ref cR) none H') :
    ∀ x dx, H1 x = none → H1 dx = none → dx ≠ x → spIni P w K C cR (.ref x :: ([v, u] ++ [])) (upd (upd H1 dx (.own x)) x (.ins C dx [])) (fun v H2 => v = .non ∧ Qa x H2) E := by
  intro x dx hx hdx ne
  have z := mk_road (P := P) (w := w) (cR := cR) (Q := fun v H' => ∃ r, v = .ref r ∧ Qa r H') (E := E) TR hv hu hl (fun fs cs h1 h2 H' r s hr R => ⟨r, rfl, k1 fs cs h1 h2 H' r s hr R⟩) k2 x dx hx hdx ne
  have e : (fun (v : V) (H2 : Hp) => v = V.non ∧ ∃ r, V.ref x = V.ref r ∧ Qa r H2) = fun v H2 => v = .non ∧ Qa x H2 := by
    funext v H2
    refine propext ⟨fun ⟨h1, r, h2, h3⟩ => ?_, fun ⟨h1, h2⟩ => ⟨h1, x, rfl, h2⟩⟩
    injection h2 with h2
    subst h2
    exact ⟨h1, h3⟩
  rw [← e]
  exact z
theorem sc_bgr : FnScope ["one", "road_here", "known", "begun", "less", "swapped", "change"] ["one", "road_here"] (defScope sBgr) := ⟨rfl, rfl, rfl, by decide +kernel, rfl, by decide +kernel, by decide +kernel⟩
theorem ok_bgr {f C cR : Addr} {fd : FuncData} (F : Fun K "_law_begins_right" "_law_begins_right" sBgr f fd) (T : Bi4 mg) (TR : TRoad K C) (CK : CalKno P w K mg base) (CR : CalRd P w K mg base C cR) (CE : EqAtR P w K mg base C) :
    GFn P w K mg base CX0 9 f fd ["one", "road_here"] (spBgr P w K C) := by
  obtain ⟨fK, fdK, GK, gK, kK, bK⟩ := CK
  obtain ⟨fI, fdI, GR, MR, gR, bR⟩ := CR
  obtain ⟨fE, fdE, GE, e1E, e2E, e3E, bE⟩ := CE
  refine Fun.gok F sc_bgr (fun vs H Q E h => ?_) (fun cdv A outer s H vs Q E hg hr h => ?_)
  · obtain ⟨r, v, fs, cs, rfl, _⟩ := h
    rfl
  · obtain ⟨r, v, fs, cs, rfl, R, hv, lf, lc, k⟩ := h
    have hu := hr.units
    have hrR : Room 8 _ := hr
    have hr1 : Room 1 _ := hr.mono (by decide)
    have hg2 : (A.deeper (envOfC "_law_begins_right" (defScope sBgr) s.heap.objs.size f cdv)).guards = some [] := hg
    have h1000 : 1000 ≤ sizeLine := by decide
    refine ⟨_, (pss_cons (ps_set (i := 2) sc_bgr.nd rfl (.inl rfl) (pe_call GK hr1 (by rfl) gK kK bK .nil pass0 (pa_cons (pv 1) pa_nil)))
        (C8.pss_cut (ps_for PassesOwn.never rfl (pi_list (pe_lst (pa_cons (pv 2) (pa_cons (pe_slice sl_list (pv 2) po_none (po_some (pe_int))) (pa_cons (pe_slice sl_list (pv 2) (po_some (pe_un un_neg pe_int)) po_none) (pa_cons (pe_back bk_list (pe_ix ix_tup (pv 1) pe_int (fun _ _ => rfl)) (pe_un un_neg pe_int) (fun _ _ _ q => ⟨_, rfl, q⟩)) pa_nil)))))) (pg_name (i := 3) sc_bgr.nd rfl (.inl rfl)) (pss_one (ps_if (pt_cmpR op_ne (pe_callB (call_repr hg2 hu) (by rfl) T.repr (by decide +kernel) (pa_cons (pe_cmpR (op_eqI GE e1E e3E bE hr1 pass0) (pv 0) (pe_make MR GR hrR (by rfl) gR bR .nil passNo (pa_cons (pv 3) (pa_cons (pe_ix ix_tup (pv 1) (pe_int) (fun _ _ => rfl)) pa_nil))) (nomark _)) pa_nil)) (pe_callB (call_repr hg2 hu) (by rfl) T.repr (by decide +kernel) (pa_cons (pe_cmpR (op_eqD hu) (pe_callB (call_sortD hu) (by rfl) T.sorted (by decide +kernel) (pa_cons (pv 3) pa_nil)) (pe_callB (call_sortD hu) (by rfl) T.sorted (by decide +kernel) (pa_cons (pe_ix ix_tup (pv 1) (pe_int) (fun _ _ => rfl)) pa_nil)) (nomark _)) pa_nil)) (nomark _)) (pss_one (ps_ret (pe_bl))) pss_nil)))
        (C8.pss_cut (ps_par (i := 4) (j := 5) rfl sc_bgr.nd rfl rfl (by decide) rfl rfl (pa_cons (pe_make MR GR hrR (by rfl) gR bR .nil passNo (pa_cons (pe_ix ix_tup (pv 1) pe_int (fun _ _ => rfl)) (pa_cons (pe_slice sl_list (pe_ix ix_tup (pv 1) pe_int (fun _ _ => rfl)) (po_some pe_int) po_none) pa_nil))) (pa_cons (pe_lc (te := tBk (rBkT K) (tVar 6)) (own := [("change", 6)]) (g := gName 6) rfl sc_bgr.nd (pi_list (pe_ix ix_tup (pv 1) pe_int (fun _ _ => rfl))) (blkOk_by (N := ["one", "road_here", "known", "begun", "less", "swapped", "change"]) (sc := defScope sBgr) (by decide +kernel)) (fun _ _ _ _ _ => (pg_name (i := 6) sc_bgr.nd rfl (.inl rfl))) (fun _ _ _ _ _ => pts_nil) (fun _ _ _ _ _ => (show PE _ _ (tBk (rBkT K) (tVar 6)) from pe_back bk_tup (pv 6) (pe_un un_neg pe_int) (fun _ _ _ q => ⟨_, rfl, q⟩)))) pa_nil)) (by rfl))
        (C8.pss_cut (ps_if (pt_cmpR op_ne (pe_callB (call_repr hg2 hu) (by rfl) T.repr (by decide +kernel) (pa_cons (pe_cmpR (op_eqI GE e1E e3E bE hr1 pass0) (pv 0) (pe_make MR GR hrR (by rfl) gR bR .nil passNo (pa_cons (pe_ix ix_tup (pv 1) (pe_int) (fun _ _ => rfl)) (pa_cons (pv 5) pa_nil))) (nomark _)) pa_nil)) (pe_callB (call_repr hg2 hu) (by rfl) T.repr (by decide +kernel) (pa_cons (pe_cmpR (op_eqD hu) (pe_callB (call_sortD hu) (by rfl) T.sorted (by decide +kernel) (pa_cons (pe_ix ix_tup (pv 1) (pe_int) (fun _ _ => rfl)) pa_nil)) (pe_callB (call_sortD hu) (by rfl) T.sorted (by decide +kernel) (pa_cons (pv 5) pa_nil)) (nomark _)) pa_nil)) (nomark _)) (pss_one (ps_ret (pe_bl))) pss_nil)
        (pss_one (ps_ret (pe_cmpR op_eq (pe_callB (call_repr hg2 hu) (by rfl) T.repr (by decide +kernel) (pa_cons (pe_lst (pa_cons (pe_cmpR (op_eqI GE e1E e3E bE hr1 pass0) (pv 0) (pv 4) (nomark _)) (pa_cons (pe_cmpR (op_eqI GE e1E e3E bE hr1 pass0) (pv 4) (pv 0) (nomark _)) pa_nil))) pa_nil)) (pe_callB (call_repr hg2 hu) (by rfl) T.repr (by decide +kernel) (pa_cons (pe_op op_rep (pe_lst (pa_cons (pe_cmpR (op_eqD hu) (pe_ix ix_tup (pv 1) pe_int (fun _ _ => rfl)) (pe_lst pa_nil) (nomark _)) pa_nil)) pe_int) pa_nil)) (nomark _)))))))), ?_⟩
    obtain ⟨a, x0, y0, rfl, ha, h1, h2⟩ := hv.inv
    obtain ⟨b, xs, rfl, hb, hx⟩ := h1.lst_inv
    obtain ⟨c, ys, rfl, hc, hy⟩ := h2.lst_inv
    have lx := hx.len
    have ly := hy.len
    rw [List.length_map] at lx ly
    obtain ⟨⟨_, okf, fne, fnd⟩, ⟨_, okc, cnd⟩, hl⟩ := id R.wf
    have pfs : ∀ fs : List Fg, (PyData.list (fs.map Datum.toD)).plain = true := fun fs => Datum.plain (α := List Fg) fs
    have pcs : ∀ cs : List Ch, (PyData.list (cs.map Datum.toD)).plain = true := fun cs => Datum.plain (α := List Ch) cs
    have lD : ∀ fs : List Fg, lenD (.list (fs.map Datum.toD)) = fs.length := fun fs => List.length_map ..
    have lC : ∀ cs : List Ch, lenD (.list (cs.map Datum.toD)) = cs.length := fun cs => List.length_map ..
    have szb : ∀ b : Bool, okD (.bool b) = true ∧ (PyData.bool b).shown.length ≤ sizeLine ∧ (PyData.bool b).depth ≤ 40 := fun b => (sz_bool b).fits (by decide) (by decide)
    have bgK : Bg (behKeys fs cs) := by
      refine ⟨fun f hf => fp_ok okf okc f (behKeys_mem.mp hf), fun e => fne ?_, (sortT_same _).nodup_iff.mpr (uniq_nodup _), ?_⟩
      · cases fs with
        | nil => rfl
        | cons f t =>
          have z : f ∈ behKeys (f :: t) cs := behKeys_mem.mpr (List.mem_append_left _ List.mem_cons_self)
          rw [e] at z
          cases z
      · have z := behKeys_len fs cs
        omega
    have bgF : Bg fs := ⟨okf, fne, fnd, by omega⟩
    -- what it begins with
    refine ⟨_, rfl, .ref a, fs, cs, rfl, hv, hl, okf, okc, fun H1 q1 z1 s1 hq1 dz1 => ?_⟩
    have s2 : Same H (upd H1 q1 (.lst z1)) := s1.trans (sameN hq1)
    have e1 : (upd H1 q1 (.lst z1)) q1 = some (.lst z1) := upd_same
    have dz1 := dz1.same s2
    generalize upd H1 q1 (.lst z1) = H2 at s2 e1 dz1 ⊢
    refine ⟨fun σ G => (∃ v3, σ = [some (.ref r), some (.ref a), some (.ref q1), v3, none, none, none]) ∧ Same H G, ?_, ?_⟩
    · refine ⟨_, rfl, _, rfl, _, rfl, q1, z1, rfl, SqL.of e1, fun k1 hk1 => ?_⟩
      have t1 : Same H2 (upd H2 k1 (.lst (cutV z1 none (some 1)))) := sameN hk1
      have g1 : (upd H2 k1 (.lst (cutV z1 none (some 1)))) k1 = some (.lst (cutV z1 none (some 1))) := upd_same
      generalize upd H2 k1 (.lst (cutV z1 none (some 1))) = H3 at t1 g1 ⊢
      refine ⟨_, rfl, _, rfl, _, rfl, q1, z1, rfl, SqL.of (t1 _ _ e1), fun k2 hk2 => ?_⟩
      have t2 : Same H3 (upd H3 k2 (.lst (cutV z1 (some (-1)) none))) := sameN hk2
      have g2 : (upd H3 k2 (.lst (cutV z1 (some (-1)) none))) k2 = some (.lst (cutV z1 (some (-1)) none)) := upd_same
      have g1 := t2 _ _ g1
      generalize upd H3 k2 (.lst (cutV z1 (some (-1)) none)) = H4 at t2 g1 g2 ⊢
      have s4 := (s2.trans t1).trans t2
      refine ⟨_, rfl, a, _, 0, _, rfl, rfl, sqT_same s4 ha, atI_nat (j := 0) rfl, b, xs, rfl, s4.seq hb, fun k3 hk3 => ?_⟩
      have t3 : Same H4 (upd H4 k3 (.lst xs.reverse)) := sameN hk3
      have g3 : (upd H4 k3 (.lst xs.reverse)) k3 = some (.lst xs.reverse) := upd_same
      have g1 := t3 _ _ g1
      have g2 := t3 _ _ g2
      have e1 := t3 _ _ (t2 _ _ (t1 _ _ e1))
      have s5 := s4.trans t3
      have t03 := (t1.trans t2).trans t3
      generalize upd H4 k3 (.lst xs.reverse) = H5 at s5 e1 g1 g2 g3 t03 ⊢
      have dz5 := dz1.same t03
      have dx5 := hx.same s5
      refine ⟨by show 4 ≤ sizeLine; decide, fun l hl0 => ?_⟩
      have t6 : Same H5 (upd H5 l (.lst [.ref q1, .ref k1, .ref k2, .ref k3])) := sameN hl0
      have el : (upd H5 l (.lst [.ref q1, .ref k1, .ref k2, .ref k3])) l = some (.lst [.ref q1, .ref k1, .ref k2, .ref k3]) := upd_same
      have s6 := s5.trans t6
      have all : DvAll K (upd H5 l (.lst [.ref q1, .ref k1, .ref k2, .ref k3])) [.ref q1, .ref k1, .ref k2, .ref k3] ([behKeys fs cs, cutT (behKeys fs cs) none (some 1), cutT (behKeys fs cs) (some (-1)) none, fs.reverse].map fun bs => PyData.list (bs.map Datum.toD)) := by
        refine DvAll.same t6 (.cons (.lst (SqL.of e1) dz5) (.cons (.lst (SqL.of g1) ?_) (.cons (.lst (SqL.of g2) ?_) (.cons (.lst (SqL.of g3) ?_) .nil))))
        · rw [← cutD_map]
          exact dv_cut dz5
        · rw [← cutD_map]
          exact dv_cut dz5
        · rw [List.map_reverse]
          exact dv_rev dx5
      have bgs : ∀ bs ∈ [behKeys fs cs, cutT (behKeys fs cs) none (some 1), cutT (behKeys fs cs) (some (-1)) none, fs.reverse], Bg bs := by
        intro bs hbs
        simp only [List.mem_cons, List.not_mem_nil, or_false] at hbs
        rcases hbs with rfl | rfl | rfl | rfl
        · exact bgK
        · exact bgK.sub (cutT_sub _ _ _) (cutT_one bgK.ne)
        · exact bgK.sub (cutT_sub _ _ _) (cutT_last bgK.ne)
        · exact ⟨fun f hf => okf f (List.mem_reverse.mp hf), by simpa using fne, (List.reverse_perm fs).nodup_iff.mpr fnd, by rw [List.length_reverse]; omega⟩
      generalize upd H5 l (.lst [.ref q1, .ref k1, .ref k2, .ref k3]) = H6 at s6 el all ⊢
      generalize ([.ref q1, .ref k1, .ref k2, .ref k3] : List V) = us at el all
      generalize [behKeys fs cs, cutT (behKeys fs cs) none (some 1), cutT (behKeys fs cs) (some (-1)) none, fs.reverse] = gss at all bgs
      refine ⟨l, rfl, ⟨_, SqL.of el⟩, for_list (xs := us) (fun i σ H' => (∃ v3, σ = [some (.ref r), some (.ref a), some (.ref q1), v3, none, none, none]) ∧ Same H6 H') ⟨⟨_, rfl⟩, Same.refl _⟩ (fun i σ H' _ ⟨_, s7⟩ => SqL.of (s7 _ _ el)) ?_ (fun σ H' ⟨⟨v3, e⟩, s7⟩ => ⟨⟨v3, e⟩, s6.trans s7⟩)⟩
      rintro i x σ H7 hi ⟨⟨v3, rfl⟩, s7⟩
      obtain ⟨dx, ex, hdx⟩ := all.get hi
      rw [List.getElem?_map] at ex
      obtain ⟨bs, ebs, rfl⟩ := Option.map_eq_some_iff.mp ex
      have bg := bgs bs (List.mem_of_getElem? ebs)
      have s8 := s6.trans s7
      have hdx := hdx.same s7
      refine ⟨_, rfl, _, rfl, _, rfl, a, _, 1, _, rfl, rfl, sqT_same s8 ha, atI_nat (j := 1) rfl, ?_⟩
      dsimp only [tNil, tCons]
      refine mk_roadA TR hdx (h2.same s8) (by rw [lD, lC]; have := bg.le; omega) (fun gs es hgs hes H8 q8 s9 hq8 RR => ?_) fun z _ _ => ?_
      · rw [areF_eq hgs bg.are, areC_eq hes ⟨rfl, okc, cnd⟩] at RR
        have R8 := R.same (s8.trans s9)
        obtain ⟨dxa, fla, _, _, _, qa, _⟩ := id R8.ex
        obtain ⟨dxb, flb, _, _, _, qb, _⟩ := id RR.ex
        refine ⟨r, q8, dxa, dxb, fla, flb, rfl, rfl, qa, qb, r, .ref q8, fs, cs, rfl, R8, .inl ⟨q8, bs, cs, rfl, RR, _, rfl, ?_⟩⟩
        refine ⟨.bl _, .bool _, rfl, .bl _, (szb _).1, (szb _).2.1, (szb _).2.2, ?_⟩
        obtain ⟨bb, us2, rfl, hbb, hus2⟩ := (hdx.same s9).lst_inv
        refine ⟨_, rfl, ?_⟩
        dsimp only [tNil]
        refine rsort (H0 := H8) (α := Fg) (Same.refl _) (by decide) (full_F bg.ok) (by have := bg.le; omega) hbb hus2 fun p2 z2 hp2 dz2 => ?_
        have t9 : Same H8 (upd H8 p2 (.lst z2)) := sameN hp2
        have ep2 : (upd H8 p2 (.lst z2)) p2 = some (.lst z2) := upd_same
        generalize upd H8 p2 (.lst z2) = H9 at t9 ep2 ⊢
        have s10 := (s8.trans s9).trans t9
        refine ⟨_, rfl, a, _, 0, _, rfl, rfl, sqT_same s10 ha, atI_nat (j := 0) rfl, ?_⟩
        dsimp only [tNil]
        refine rsort (H0 := H) (α := Fg) s10 (by decide) (full_F okf) (by omega) (s10.seq hb) hx fun p3 z3 hp3 dz3 => ?_
        have t10 : Same H9 (upd H9 p3 (.lst z3)) := sameN hp3
        have ep3 : (upd H9 p3 (.lst z3)) p3 = some (.lst z3) := upd_same
        refine ⟨_, _, dp_plain (.lst (SqL.of (t10 _ _ ep2)) (dz2.same (t9.trans t10))) (pfs _), dp_plain (.lst (SqL.of ep3) (dz3.same (s10.trans t10))) (pfs _), shp_Fs _, shp_Fs _, ?_⟩
        rw [eqv_Fs]
        refine ⟨.bl _, .bool _, rfl, .bl _, (szb _).1, (szb _).2.1, (szb _).2.2, rfl, _, rfl, iteNb ?_ ⟨⟨_, rfl⟩, (s7.trans (s9.trans (t9.trans t10)))⟩⟩
        rw [decide_eq_true (p := sortT cs = sortT cs) rfl, Bool.and_true, dec_comm (sortT bs)]
        simp
      · rcases z with z | z
        · exact (z bs bg.are).elim
        · exact (z cs ⟨rfl, okc, cnd⟩).elim
    · rintro σ G ⟨⟨v3, rfl⟩, sG⟩
      have okD1 : ∀ c ∈ cs.drop 1, cOk c := fun c hc => okc c (List.mem_of_mem_drop hc)
      have okS : ∀ c ∈ cs.map swp, cOk c := fun c hc => by
        obtain ⟨d, hd, rfl⟩ := List.mem_map.mp hc
        exact swp_ok (okc d hd)
      have arS : AreC (.list ((cs.map swp).map Datum.toD)) (cs.map swp) := ⟨rfl, okS, swp_nd cnd⟩
      -- less changes, changes turned about
      refine ⟨fun σ G2 => ∃ v4 D, σ = [some (.ref r), some (.ref a), some (.ref q1), v3, some (.ref v4), some (.ref D), none] ∧ Same H G2 ∧ RoadAt P w K C G2 v4 fs (cs.drop 1) ∧ Dv K G2 (.ref D) (.list ((cs.map swp).map Datum.toD)), ?_, ?_⟩
      · refine ⟨_, rfl, a, _, 0, _, rfl, rfl, sqT_same sG ha, atI_nat (j := 0) rfl, _, rfl, a, _, 1, _, rfl, rfl, sqT_same sG ha, atI_nat (j := 1) rfl, _, rfl, c, ys, rfl, sG.seq hc, fun m hm => ?_⟩
        have t1 : Same G (upd G m (.lst (cutV ys (some 1) none))) := sameN hm
        have em : (upd G m (.lst (cutV ys (some 1) none))) m = some (.lst (cutV ys (some 1) none)) := upd_same
        rw [cut_from (by decide)] at t1 em ⊢
        have hmD : Dv K (upd G m (.lst (ys.drop (1 : Int).toNat))) (.ref m) (.list ((cs.drop 1).map Datum.toD)) := by
          refine .lst (SqL.of em) ?_
          rw [List.map_drop]
          exact dv_drop 1 (hy.same (sG.trans t1))
        generalize upd G m (.lst (ys.drop (1 : Int).toNat)) = G1 at t1 em hmD ⊢
        have s1' := sG.trans t1
        dsimp only [tNil, tCons]
        refine mk_roadA TR (h1.same s1') hmD (by rw [lD, lC, List.length_drop]; omega) (fun gs es hgs hes H8 q8 s9 hq8 RR => ?_) fun z _ _ => ?_
        · rw [areF_eq hgs bgF.are, areC_eq hes ⟨rfl, okD1, cnd.sublist (List.drop_sublist _ _)⟩] at RR
          have s8 := s1'.trans s9
          refine ⟨_, rfl, a, _, 1, _, rfl, rfl, sqT_same s8 ha, atI_nat (j := 1) rfl, c, rfl, ⟨ys, s8.seq hc⟩, fun D hD => lc_list (xs := ys) (fun i H' => ∃ acc, H' D = some (.lst acc) ∧ DvAll K (wod D H') acc (((cs.take i).map swp).map Datum.toD) ∧ Same H8 H') ⟨[], upd_same, .nil, sameN hD⟩ (fun i H' _ ⟨_, _, _, s4⟩ => (s8.trans s4).seq hc) (fun i x H' hi ⟨acc, g1, g2, s4⟩ => ?_) (fun H5 ⟨acc, g1, g2, s4⟩ => ?_)⟩
          · obtain ⟨dx, ex, hdx⟩ := hy.get hi
            rw [List.getElem?_map] at ex
            obtain ⟨ch, ech, rfl⟩ := Option.map_eq_some_iff.mp ex
            obtain ⟨t, x1, x2, rfl, ht, hd1, hd2⟩ := dv_ch hdx
            have s5 := s8.trans s4
            refine ⟨rfl, _, rfl, t, _, rfl, sqT_same s5 ht, fun p hp => ⟨acc, ?_, ?_, acc ++ [.ref p], upd_same, ?_, fun z o e => ?_⟩⟩
            · rw [upd_ne (ne_of_none g1 hp)]
              exact g1
            · have la := g2.len
              rw [List.length_map, List.length_map, List.length_take] at la
              have z := Nat.min_le_right i cs.length
              omega
            · rw [wod_upd, take_one ech, List.map_append, List.map_append]
              have npD : p ≠ D := (ne_of_none g1 hp).symm
              have w4 := wod_mono (d := D) (sameN (o := .tup ([x1, x2] : List V).reverse) hp)
              have hDH : H D = none := fresh_of s8 hD
              have w5 : Same H (wod D H') := same_wod s5 hDH
              refine (g2.same w4).snoc ?_
              show Dv K _ (.ref p) (.tuple [dF ch.2, dF ch.1])
              refine .tup (SqT.of ?_) (.cons (hd2.same (w5.trans w4)) (.cons (hd1.same (w5.trans w4)) .nil))
              rw [wod_ne npD, upd_same]
              rfl
            · rw [upd_ne (ne_of_none e hD), upd_ne (ne_of_none (s4 _ _ e) hp)]
              exact s4 _ _ e
          · rw [show ys.length = cs.length from ly, List.take_length] at g2
            exact ⟨_, _, rfl, q8, D, rfl, s8.trans s4, RR.same s4, .lst (SqL.of g1) (g2.same wod_same)⟩
        · rcases z with z | z
          · exact (z fs bgF.are).elim
          · exact (z (cs.drop 1) ⟨rfl, okD1, cnd.sublist (List.drop_sublist _ _)⟩).elim
      · rintro σ G2 ⟨v4, D, rfl, s2G, R4, hD⟩
        -- the changes turned about
        refine ⟨fun σ G3 => σ = [some (.ref r), some (.ref a), some (.ref q1), v3, some (.ref v4), some (.ref D), none] ∧ Same G2 G3, ?_, ?_⟩
        · refine ⟨_, rfl, _, rfl, a, _, 0, _, rfl, rfl, sqT_same s2G ha, atI_nat (j := 0) rfl, _, rfl, ?_⟩
          dsimp only [tNil, tCons]
          refine mk_roadA TR (h1.same s2G) hD (by rw [lD, lC, List.length_map]; omega) (fun gs es hgs hes H8 q8 s9 hq8 RR => ?_) fun z _ _ => ?_
          · rw [areF_eq hgs bgF.are, areC_eq hes arS] at RR
            have s8 := s2G.trans s9
            have R8 := R.same s8
            obtain ⟨dxa, fla, _, _, _, qa, _⟩ := id R8.ex
            obtain ⟨dxb, flb, _, _, _, qb, _⟩ := id RR.ex
            refine ⟨r, q8, dxa, dxb, fla, flb, rfl, rfl, qa, qb, r, .ref q8, fs, cs, rfl, R8, .inl ⟨q8, fs, cs.map swp, rfl, RR, _, rfl, ?_⟩⟩
            refine ⟨.bl _, .bool _, rfl, .bl _, (szb _).1, (szb _).2.1, (szb _).2.2, ?_⟩
            refine ⟨_, rfl, a, _, 1, _, rfl, rfl, sqT_same s8 ha, atI_nat (j := 1) rfl, ?_⟩
            dsimp only [tNil]
            refine rsort (H0 := H) (α := Ch) s8 (by decide) (full_C cs) (by omega) (s8.seq hc) hy fun p2 z2 hp2 dz2 => ?_
            have t9 : Same H8 (upd H8 p2 (.lst z2)) := sameN hp2
            have ep2 : (upd H8 p2 (.lst z2)) p2 = some (.lst z2) := upd_same
            generalize upd H8 p2 (.lst z2) = H9 at t9 ep2 ⊢
            have s10 := s8.trans t9
            obtain ⟨bb, us2, eb, hbb, hus2⟩ := hD.lst_inv
            cases eb
            refine ⟨_, rfl, ?_⟩
            dsimp only [tNil]
            refine rsort (H0 := G2) (α := Ch) (s9.trans t9) (by decide) (full_C _) (by rw [List.length_map]; omega) ((s9.trans t9).seq hbb) hus2 fun p3 z3 hp3 dz3 => ?_
            have t10 : Same H9 (upd H9 p3 (.lst z3)) := sameN hp3
            have ep3 : (upd H9 p3 (.lst z3)) p3 = some (.lst z3) := upd_same
            refine ⟨_, _, dp_plain (.lst (SqL.of (t10 _ _ ep2)) (dz2.same (s10.trans t10))) (pcs _), dp_plain (.lst (SqL.of ep3) (dz3.same ((s9.trans t9).trans t10))) (pcs _), shp_Cs _, shp_Cs _, ?_⟩
            rw [eqv_Cs]
            refine ⟨.bl _, .bool _, rfl, .bl _, (szb _).1, (szb _).2.1, (szb _).2.2, rfl, _, rfl, iteNb ?_ ⟨rfl, (s9.trans (t9.trans t10))⟩⟩
            rw [decide_eq_true (p := sortT fs = sortT fs) rfl, Bool.true_and]
            simp
          · rcases z with z | z
            · exact (z fs bgF.are).elim
            · exact (z _ arS).elim
        · rintro σ G3 ⟨rfl, s23⟩
          -- less changes
          have s3 := s2G.trans s23
          have R8 := R.same s3
          have R9 := R4.same s23
          obtain ⟨dxa, fla, _, _, _, qa, _⟩ := id R8.ex
          obtain ⟨dxb, flb, _, _, _, qb, _⟩ := id R9.ex
          have b1 : (decide (sortT fs = sortT fs) && decide (sortT cs = sortT (cs.drop 1))) = decide (cs = []) := by
            rw [decide_eq_true (p := sortT fs = sortT fs) rfl, Bool.true_and, sortT_ne]
          have b2 : (decide (sortT fs = sortT fs) && decide (sortT (cs.drop 1) = sortT cs)) = decide (cs = []) := by
            rw [decide_eq_true (p := sortT fs = sortT fs) rfl, Bool.true_and, dec_comm, sortT_ne]
          refine ⟨_, rfl, _, rfl, r, v4, dxa, dxb, fla, flb, rfl, rfl, qa, qb, r, .ref v4, fs, cs, rfl, R8, .inl ⟨v4, fs, cs.drop 1, rfl, R9, _, rfl, ?_⟩⟩
          refine ⟨_, rfl, _, rfl, v4, r, dxb, dxa, flb, fla, rfl, rfl, qb, qa, v4, .ref r, fs, cs.drop 1, rfl, R9, .inl ⟨r, fs, cs, rfl, R8, _, rfl, ?_⟩⟩
          rw [b1, b2]
          refine ⟨by show 2 ≤ sizeLine; decide, fun l hl0 => ?_⟩
          have t1 : Same G3 (upd G3 l (.lst [.bl (decide (cs = [])), .bl (decide (cs = []))])) := sameN hl0
          have szl := (Sz.lst (.cons (sz_bool (decide (cs = []))) (.cons (sz_bool (decide (cs = []))) .nil))).fits (by decide) (by decide)
          refine ⟨.ref l, .list [.bool (decide (cs = [])), .bool (decide (cs = []))], rfl, .lst (SqL.of upd_same) (.cons (.bl _) (.cons (.bl _) .nil)), szl.1, szl.2.1, szl.2.2, ?_⟩
          generalize upd G3 l (.lst [.bl (decide (cs = [])), .bl (decide (cs = []))]) = G4 at t1 ⊢
          have s4 := s3.trans t1
          refine ⟨_, rfl, a, _, 1, _, rfl, rfl, sqT_same s4 ha, atI_nat (j := 1) rfl, by show 0 ≤ sizeLine; decide, fun m hm => ?_⟩
          have t2 : Same G4 (upd G4 m (.lst [])) := sameN hm
          have s5 := s4.trans t2
          refine ⟨_, _, dp_plain (h2.same s5) (pcs cs), .lst (SqL.of upd_same) .nil, shp_Cs cs, rfl, ?_⟩
          rw [eqv_nil]
          have e3 : (cs.map Datum.toD : List PyData).isEmpty = decide (cs = []) := by
            cases cs <;> rfl
          rw [e3]
          generalize upd G4 m (.lst []) = G5 at t2 s5 ⊢
          refine ⟨by show 1 ≤ sizeLine; decide, fun q hq => ?_⟩
          have t3 : Same G5 (upd G5 q (.lst [.bl (decide (cs = []))])) := sameN hq
          refine ⟨q, 2, _, rfl, rfl, upd_same, by decide, by decide, by show 1 * 2 ≤ sizeLine; decide, fun y hy0 => ?_⟩
          have t4 : Same (upd G5 q (.lst [.bl (decide (cs = []))])) (upd (upd G5 q (.lst [.bl (decide (cs = []))])) y (.lst (List.replicate (2 : Int).toNat [.bl (decide (cs = []))]).flatten)) := sameN hy0
          refine ⟨.ref y, .list [.bool (decide (cs = [])), .bool (decide (cs = []))], rfl, .lst (SqL.of upd_same) (.cons (.bl _) (.cons (.bl _) .nil)), szl.1, szl.2.1, szl.2.2, rfl, ?_⟩
          have kk := k _ ((s5.trans t3).trans t4)
          simpa using kk
end
end Own
/-! An instance with an own == among things of other kinds: x in [None, 0, a tuple, a list]. -/
namespace Own
open PySem PySem.Spec PyProof.Rows L2 PySem.SeqAt
open AutoSeq1 (wpAny_loadPart')
open MeetsSeq
theorem int_declines (b : Int) (u : Tok) (x C dx : Addr) :
    Meets (Builtin.«int.__eq__» ⟨[.int b u, .ref x], []⟩) (fun _ R s => s.heap.get? x = some (PySem.W.instObj C dx) ∧ R (.ok (.ret .notImplemented)) s) :=
  .of_wp fun prog w A R s h => by
    obtain ⟨hp, g, d, tk, os⟩ := s
    obtain ⟨hl, h⟩ := h
    wp_walk using wpAny_loadPart' hl, wpAny_load hl
    exact ⟨_, rfl, h⟩
section
variable {prog : Program} {w : World} {A : Around} {E : Value → Shared → Prop} {s : Shared}
theorem list_declines {l x C dx : Addr} {items : Array Value} {Q : Value → Shared → Prop} (hl : s.heap.IsList l items) (hx : s.heap.get? x = some (PySem.W.instObj C dx)) (hi : PySem.W.Looks (model prog w) s.heap (isSubtype (.ref C) (.type "list")) false) (h : Q .notImplemented s) :
    wpAny (model prog w) A (call (.builtin "list.__eq__") [.ref l, .ref x]) Q E s := by
  obtain ⟨⟨cls, dd, data, sl⟩, ho, hc, n, hd⟩ := id hl
  simp only at hc hd
  subst hc hd
  refine GQ.call_here F.slot_list_eq ⟨_, ho, rfl⟩ F.entry_list_eq (F.args_list_eq_2 _ _) ?_
  unfold PySem.W.instObj at hx
  wp_walk using wpAny_loadPart' hx
  refine hi.here ?_
  wp_walk
  exact h
theorem tuple_declines {l x C dx : Addr} {items : Array Value} {Q : Value → Shared → Prop} (hl : s.heap.IsTuple l items) (hx : s.heap.get? x = some (PySem.W.instObj C dx)) (hi : PySem.W.Looks (model prog w) s.heap (isSubtype (.ref C) (.type "tuple")) false) (h : Q .notImplemented s) :
    wpAny (model prog w) A (call (.builtin "tuple.__eq__") [.ref l, .ref x]) Q E s := by
  obtain ⟨⟨cls, dd, data, sl⟩, ho, hc, n, hd⟩ := id hl
  simp only at hc hd
  subst hc hd
  refine GQ.call_here F.slot_tuple_eq ⟨_, ho, rfl⟩ F.entry_tuple_eq (F.args_tuple_eq_2 _ _) ?_
  unfold PySem.W.instObj at hx
  wp_walk using wpAny_loadPart' hx
  refine hi.here ?_
  wp_walk
  exact h
/-- u == o where u's own == declines and o has one of its own -/
theorem rc_reflected {K : PySem.W.Frag} {u : Value} {T id : String} {o C dx f : Addr} {od : Option Obj} {Q : Value → Shared → Prop} (hu : A.units < cLine) (X : K.In s.heap) (ha : s.TypeIs u T) (I : PySem.W.InstAt s.heap o (PySem.W.instObj C dx) C od)
    (hsub : PySem.W.subIn K (.ref C) (.type T) = some false) (h1 : Slot T "__eq__" id) (hc1 : ∀ Q' : Value → Shared → Prop, Q' .notImplemented s → wpAny (model prog w) A (call (.builtin id) [u, .ref o]) Q' E s)
    (hs : PySem.W.findIn K (.ref C) "__eq__" = some (some (.ref f))) (hf : PySem.W.isFn K (.ref f) = true)
    (h : wpAny (model prog w) A (call (.ref f) [.ref o, u]) (PySem.W.CmpBack Q) E s) : wpAny (model prog w) A (richCompare .Eq u (.ref o)) Q E s := by
  have one : wpAny (model prog w) A (tryCompare (.ref o) "__eq__" u) (fun r s' => ∃ v, r = some v ∧ Q v s') E s := by
    unfold tryCompare
    refine wpAny_bind (PySem.W.ifBound_K X I hs hf (wpAny_mono h (fun v s' hv => ?_) fun _ _ e => e))
    cases v <;> first | exact hv.elim | exact wpAny_pure ⟨_, rfl, hv⟩
  rcases hi : cmpInfo CmpOp.Eq with ⟨sym, g, r⟩
  have hg : g = "__eq__" := by
    have z : (cmpInfo CmpOp.Eq).2.1 = g := by rw [hi]
    rw [← z]
    rfl
  have hr : r = "__eq__" := by
    have z : (cmpInfo CmpOp.Eq).2.2 = r := by rw [hi]
    rw [← z]
    rfl
  subst hg hr
  simp only [richCompare, hi, ha.oneThing_none]
  try with_reducible refine wpAny_holding ?_
  refine wpAny_bind (wpAny_cRoomFor_or (.inr hu) ?_)
  refine wpAny_bind (wpAny_typeOf ha (wpAny_bind (I.type.here ?_)))
  rw [if_pos (by simp)]
  refine wpAny_bind ((PySem.W.looks_subIn X hsub).here ?_)
  simp only [Bool.false_eq_true, if_false, Bool.not_false, if_true]
  refine wpAny_bind (m := tryCompare u _ (.ref o)) (wpAny_tryCompare_declines ha h1 (hc1 _ ⟨rfl, ?_⟩))
  refine wpAny_bind (wpAny_mono one (fun r s' z => ?_) fun _ _ e => e)
  obtain ⟨v, rfl, hq⟩ := z
  exact wpAny_pure hq
/-- the loop of x in xs, where the list is read anew each time and each item asked -/
theorem contains_loopG {R : Result → Shared → Prop} (l : Addr) (x : Value) (N : Nat) (I : Shared → Prop)
    (hget : ∀ s, I s → ∃ (items : Array Value) (n : Nat), s.heap.get? l = some { cls := .type "list", data := .seq items n } ∧ items.size = N ∧
      ∀ i (h : i < items.size), wpAny (model prog w) A.in1 (eqBool items[i] x) (fun r s' => r = false ∧ I s') (fun e s' => R (.error e) s') s)
    (fin : ∀ s, I s → R (.ok (.ret (.bool false))) s) (k : Nat) : ∀ i : Nat, N - i = k → ∀ s, I s →
      wpAny (model prog w) A.in1 (Builtin.«list.__contains__.loop» ⟨[.ref l, x, rawInt i], []⟩) (GQ.FinOf prog w A R) (fun e s' => R (.error e) s') s := by
  induction k with
  | zero =>
    intro i hk s h
    obtain ⟨items, n, hl, hN, _⟩ := hget s h
    have hR := fin s h
    obtain ⟨hp, g, d, tk, os⟩ := s
    wp_walk using wpAny_loadPart' hl
    have hi : items[((i : Nat) : Int).toNat]? = none := by simp; omega
    rw [hi]
    wp_walk
    exact hR
  | succ k ih =>
    intro i hk s h
    obtain ⟨items, n, hl, hN, turn⟩ := hget s h
    have hlt : i < items.size := by omega
    have ht := turn i hlt
    obtain ⟨hp, g, d, tk, os⟩ := s
    wp_walk using wpAny_loadPart' hl
    have hi : items[((i : Nat) : Int).toNat]? = some items[i] := by simp [hlt]
    rw [hi]
    refine wpAny_bind (wpAny_mono ht (fun r s2 h2 => ?_) fun _ _ x => x)
    obtain ⟨hr, h2⟩ := h2
    subst hr
    have hrec := ih (i + 1) (by omega) s2 h2
    obtain ⟨hp2, g2, d2, tk2, os2⟩ := s2
    have hc : ((i : Int) + 1) = ((i + 1 : Nat) : Int) := by omega
    wp_walk
    rw [hc]
    exact ⟨plainId_quiet plain_contains_loop _, codeAny_builtin entry_contains_loop (by
      rw [Around.under_plainId plain_contains_loop _]
      exact hrec)⟩
theorem in_listG {l : Addr} {x : Value} {N : Nat} {Q : Value → Shared → Prop} (I : Shared → Prop)
    (hget : ∀ s, I s → ∃ (items : Array Value) (n : Nat), s.heap.get? l = some { cls := .type "list", data := .seq items n } ∧ items.size = N ∧
      ∀ i (h : i < items.size), wpAny (model prog w) A.in1 (eqBool items[i] x) (fun r s' => r = false ∧ I s') E s)
    (fin : ∀ s, I s → Q (.bool false) s) (h : I s) : wpAny (model prog w) A (compareOp .In x (.ref l)) Q E s := by
  obtain ⟨items, n, hl, _, _⟩ := hget s h
  show wpAny _ A (do return .bool (← contains (.ref l) x)) Q E s
  refine wpAny_bind (wpAny_contains_slot (T := "list") ⟨_, hl, rfl⟩ F.slot_list_contains (GQ.call_here F.slot_list_contains ⟨_, hl, rfl⟩ F.entry_list_contains (F.args_list_contains_2 _ _) ?_))
  have hrec := contains_loopG (A := A) (R := wants (fun v s' => wpAny (model prog w) A (truthy v) (fun b s' => wpAny (model prog w) A (pure (.bool b)) Q E s') E s') E) l x N I hget (fun s' q => wpAny_truthy_bool (wpAny_pure (fin s' q))) _ 0 rfl s h
  obtain ⟨hp, g, d, tk, os⟩ := s
  wp_walk using wpAny_loadPart' hl
  exact ⟨plainId_quiet plain_contains_loop _, codeAny_builtin entry_contains_loop (by
    rw [Around.under_plainId plain_contains_loop _]
    exact hrec)⟩
theorem eqBool_of {a b : Value} {Q : Bool → Shared → Prop} (hne : (a == b) = false) (hf : ∀ x t y u, ¬ (a = .float x t ∧ b = .float y u)) (h : wpAny (model prog w) A (richCompare .Eq a b) (fun v s' => v = .bool false ∧ Q false s') E s) : wpAny (model prog w) A (eqBool a b) Q E s := by
  unfold eqBool
  refine wpAny_holding ?_
  rw [hne]
  refine wpAny_ite_split (fun hab => Bool.noConfusion hab) (fun _ => ?_)
  have key : wpAny (model prog w) A (richCompare .Eq a b >>= fun v => truthOfDropped v) Q E s := by
    refine wpAny_bind (wpAny_mono h (fun v s' hv => ?_) fun _ _ x => x)
    obtain ⟨rfl, q⟩ := hv
    exact wpAny_truthy_bool q
  split
  · rename_i heq
    injection heq with h1 h2
    exact absurd ⟨h1, h2⟩ (hf _ _ _ _)
  · exact key
end
/-- a thing of a kind of its own: None, an int, a tuple, a list -/
def Oth (K : PySem.W.Frag) (H : Hp) (v : V) : Prop := v = .non ∨ (∃ i, v = .int i) ∨ (∃ a xs, v = .ref a ∧ SqT K H a xs) ∨ ∃ a xs, v = .ref a ∧ SqL K H a xs
theorem Oth.ext {K : PySem.W.Frag} {H H' : Hp} {v : V} (h : Oth K H v) (e : Ext H H') : Oth K H' v := by
  rcases h with h | h | ⟨a, xs, h, q⟩ | ⟨a, xs, h, q⟩
  · exact .inl h
  · exact .inr (.inl h)
  · exact .inr (.inr (.inl ⟨a, xs, h, q.ext e⟩))
  · exact .inr (.inr (.inr ⟨a, xs, h, q.ext e⟩))
/-- what the text's end says of the class beside its == -/
structure ClsO (K : PySem.W.Frag) (C : Addr) : Prop where
  none : PySem.W.subIn K (.ref C) (.type "NoneType") = some false
  int : PySem.W.subIn K (.ref C) (.type "int") = some false
  tuple : PySem.W.subIn K (.ref C) (.type "tuple") = some false
  list : PySem.W.subIn K (.ref C) (.type "list") = some false
def rInO (K : PySem.W.Frag) (C : Addr) (sp : Sp) (E : XK) : R2 := fun x y H Q => ∃ o dx fs l ys, x = .ref o ∧ y = .ref l ∧ H o = some (.ins C dx fs) ∧ H l = some (.lst ys) ∧
  (∀ v ∈ ys, Oth K H v ∧ ∀ H', Ext H H' → sp [.ref o, v] H' (fun r H2 => r = .bl false ∧ Ext H' H2) E) ∧ ∀ H', Ext H H' → Q (.bl false) H'
section
variable {X : Cx} {CX : CXT} {n : Nat} {C f : Addr} {fd : FuncData} {ps : List Str} {sp : Sp} {E : XK}
theorem op_inO (Fq : FnOk X.prog X.w X.K X.mg X.base CX n f fd ps sp) (hs : PySem.W.findIn X.K (.ref C) "__eq__" = some (some (.ref f))) (hf : PySem.W.isFn X.K (.ref f) = true) (hb : L2.Binds X.K fd ps []) (hx : Passes CX X E) (hc : ClsO X.K C) (hr : Room (n + 1) X.A) : OpR X (compareOp .In) (rInO X.K C sp E) := by
  intro pins s σ H x y v u Q I rx ry h
  obtain ⟨o, dx, fs, l, ys, rfl, rfl, ho, hl, hy, q⟩ := h
  cases rx
  cases ry
  have hr1 : Room n X.A.in1 := hr.in1
  refine in_listG (N := ys.length) (fun s' => ∃ H', Inv X pins σ H' s' ∧ Ext H H') (fun s' ⟨H1, I1, e1⟩ => ?_) (fun s' ⟨H1, I1, e1⟩ => ⟨.bl false, H1, I1, rfl, q H1 e1⟩) ⟨H, I, Ext.rfl'⟩
  obtain ⟨z, its, k, r, e⟩ := I1.hok l _ (e1 _ _ hl)
  refine ⟨its.toArray, k, e, by rw [List.size_toArray, ← r.length], fun i hi => ?_⟩
  have hi' : i < ys.length := by
    rw [List.size_toArray, ← r.length] at hi
    exact hi
  obtain ⟨t, ht, rt⟩ := r.get (List.getElem?_eq_getElem hi')
  have et : its.toArray[i] = t := by
    have h1 : i < its.length := by rw [← r.length]; exact hi'
    have z := ht
    rw [List.getElem?_eq_getElem h1] at z
    simpa using Option.some.inj z
  rw [et]
  obtain ⟨oth, hsp⟩ := hy _ (List.getElem_mem hi')
  have oth := oth.ext e1
  have ho1 := e1 _ _ ho
  obtain ⟨mA, J0, _⟩ := ins_get I1.hok ho1
  obtain ⟨od, J, _⟩ := J0.look
  have e0 : Env0 X.prog X.w X.K X.mg X.base X.A.in1 X.stack s' H1 := by
    have e := I1.env0
    exact ⟨e.frames, e.mod, e.bs, e.bsz, e.funs, e.frf, e.hok, e.bare⟩
  -- the own question
  have own : wpAny (model X.prog X.w) X.A.in1 (call (.ref f) [.ref o, t]) (PySem.W.CmpBack fun v s2 => v = .bool false ∧ ∃ H', Inv X pins σ H' s2 ∧ Ext H H') X.xe s' := by
    have hq := hsp H1 e1
    have hlen := Fq.len _ _ _ _ hq
    have r2 : Vals [V.ref o, ys[i]] [Value.ref o, t] := .cons rfl (.cons rt .nil)
    refine wpAny_call (codeAny_mono (Fq.run X.A.in1 X.stack s' H1 ⟨[.ref o, t], []⟩ [.ref o, t] [.ref o, ys[i]] _ E hr1 e0 (by
      have z := hb s' [.ref o, t] I1.kIn (by simpa using hlen)
      simpa using z) r2 hq) fun rr s2 hq => ?_)
    cases rr with
    | error er => exact hx pins σ H1 s' er s2 I1 hq
    | ok fl =>
      cases fl with
      | ret w' =>
        obtain ⟨z, H', I', rz, ez, ex⟩ := I1.after hq
        subst ez
        cases rz
        exact ⟨rfl, H', I', e1.trans ex⟩
      | next => exact False.elim hq
      | brk => exact False.elim hq
      | cont => exact False.elim hq
  have back : wpAny (model X.prog X.w) X.A.in1 (call (.ref f) [.ref o, t]) (PySem.W.CmpBack fun v s2 => v = .bool false ∧ (false = false ∧ ∃ H', Inv X pins σ H' s2 ∧ Ext H H')) X.xe s' := wpAny_mono own (fun v s2 hv => by
    cases v <;> first | exact hv.elim | exact ⟨hv.1, rfl, hv.2⟩) fun _ _ e => e
  have hcr : X.A.in1.units < cLine := hr1.units0
  rcases oth with ev | ⟨j, ev⟩ | ⟨a, xs, ev, hq⟩ | ⟨a, xs, ev, hq⟩
  · rw [ev] at rt
    cases rt
    exact eqBool_of rfl (fun _ _ _ _ z => nomatch z.1) (rc_reflected hcr I1.kIn (T := "NoneType") rfl J hc.none F.slot_NoneType_eq (fun _ hq => call_gives F.slot_NoneType_eq rfl F.entry_NoneType_eq (F.args_NoneType_eq_2 _ _) (NoneType___eq___none_ref_0 o) hq) hs hf back)
  · rw [ev] at rt
    obtain ⟨tk, rfl⟩ := rt
    exact eqBool_of rfl (fun _ _ _ _ z => nomatch z.1) (rc_reflected hcr I1.kIn (T := "int") rfl J hc.int F.slot_int_eq (fun _ hq => call_meets F.slot_int_eq rfl F.entry_int_eq (F.args_int_eq_2 _ _) (int_declines j tk o C dx) ⟨J.at_, hq⟩) hs hf back)
  · rw [ev] at rt
    cases rt
    obtain ⟨its2, _, p2, _⟩ := I1.tuple hq
    have ne : a ≠ o := fun e => by
      obtain ⟨ob, hob, hcl, _⟩ := p2
      rw [e, J.at_] at hob
      cases hob
      cases hcl
    exact eqBool_of (by simpa using ne) (fun _ _ _ _ z => nomatch z.1) (rc_reflected hcr I1.kIn (T := "tuple") p2.typeIs J hc.tuple F.slot_tuple_eq (fun _ hq => tuple_declines p2 J.at_ (PySem.W.looks_subIn I1.kIn hc.tuple) hq) hs hf back)
  · rw [ev] at rt
    cases rt
    obtain ⟨its2, _, p2, _⟩ := I1.list hq
    have ne : a ≠ o := fun e => by
      obtain ⟨ob, m, hob, hcl, _⟩ := p2
      rw [e, J.at_] at hob
      cases hob
      cases hcl
    exact eqBool_of (by simpa using ne) (fun _ _ _ _ z => nomatch z.1) (rc_reflected hcr I1.kIn (T := "list") p2.isList.typeIs J hc.list F.slot_list_eq (fun _ hq => list_declines p2.isList J.at_ (PySem.W.looks_subIn I1.kIn hc.list) hq) hs hf back)
end
end Own
/-! The law of roads. -/
namespace Own
open PySem PySem.Spec PyProof.Rows L2 PySem.W
abbrev sLaw : Stmt := top1 41
def lit9 : List PyData := [.none, .int 0, .str "a", .tuple [.int 7], .tuple [.bool true], .list [.int 0], .tuple [], .dict [], .tuple [.int 0, .int 0]]
def spLw3 (K : PySem.W.Frag) (TT : List (Addr × Str)) : Sp := fun vs H Q _ => ∃ (a : Addr) (ns : List Int), vs = [.ref a] ∧ SqL K H a (ns.map V.int) ∧ LamX.Tabs TT H ∧ ∀ H', Q (.bl true) H'
theorem known_in {ks : List Fg} {d : PyData} (ok : ∀ f ∈ ks, fOk f) (h : FigD d) : inV (.str d.shown) (ks.map fun f => showV (dF f)) = true ↔ ∃ f ∈ ks, d = dF f := by
  constructor
  · intro z
    obtain ⟨x, hx, e⟩ := List.any_eq_true.mp z
    obtain ⟨f, hf, rfl⟩ := List.mem_map.mp hx
    have e' : ((dF f).shown == d.shown) = true := e
    exact ⟨f, hf, h f (figs_all (ok f hf)) (beq_iff_eq.mp e').symm⟩
  · rintro ⟨f, hf, rfl⟩
    refine List.any_eq_true.mpr ⟨showV (dF f), List.mem_map.mpr ⟨f, hf, rfl⟩, ?_⟩
    show ((dF f).shown == (dF f).shown) = true
    exact beq_self_eq_true _
/-- what is asked of the road -/
structure Ask (d : PyData) : Prop where
  fig : FigD d
  sz : Sz 3000 4 d
  np : noPen d = true
def askB (d : PyData) : Bool := figB d && szB 3000 4 d && noPen d
theorem ask_of {d : PyData} (h : askB d = true) : Ask d := by
  unfold askB at h
  rw [Bool.and_eq_true, Bool.and_eq_true] at h
  exact ⟨figD_of h.1.1, sz_of h.1.2, h.2⟩
theorem ask9 : ∀ d ∈ lit9, Ask d := by
  have h : lit9.all askB = true := by decide +kernel
  exact fun d hd => ask_of (List.all_eq_true.mp h d hd)
theorem ask_F {f : Fg} (h : fOk f) : Ask (dF f) := ⟨(elF_F h).fig, (elF_F h).sz, noPen_F f⟩
theorem known_ok {fs : List Fg} {cs : List Ch} (h1 : ∀ f ∈ fs, fOk f) (h2 : ∀ c ∈ cs, cOk c) : ∀ f ∈ behKeys fs cs, fOk f := fun f hf => fp_ok h1 h2 f (behKeys_mem.mp hf)
section
variable {P : Program} {w : World} {K : PySem.W.Frag} {mg : Str → Option Value} {base : Heap}
abbrev CalPen3 (P : Program) (w : World) (K : PySem.W.Frag) (mg : Str → Option Value) (base : Heap) : Prop := Cal P w K mg base CX0 1 "_law_pen" ["script"] (spPen K)
/-- Road(..), whatever follows, with nothing of the lists that stood there -/
theorem mk_roadNA {C cR : Addr} {H1 : Hp} {Qa : Addr → Hp → Prop} {E : XK} {v u : V} {d e : PyData} (TR : TRoad K C) (hv : Dv K H1 v d) (hu : Dv K H1 u e) (hl : lenD d + 2 * lenD e < 290)
    (k1 : ∀ fs cs, AreF d fs → AreC e cs → ∀ H' r, Same H1 H' → H1 r = none → RoadAt P w K C (nol H1 H') r fs cs → Qa r H')
    (k2 : ((∀ fs, ¬ AreF d fs) ∨ ∀ cs, ¬ AreC e cs) → ∀ H', Same H1 H' → E (.ref cR) none H') :
    ∀ x dx, H1 x = none → H1 dx = none → dx ≠ x → spIni P w K C cR (.ref x :: ([v, u] ++ [])) (upd (upd H1 dx (.own x)) x (.ins C dx [])) (fun v H2 => v = .non ∧ Qa x H2) E := by
  intro x dx hx hdx ne
  have z := mk_roadN (P := P) (w := w) (cR := cR) (Q := fun v H' => ∃ r, v = .ref r ∧ Qa r H') (E := E) TR hv hu hl (fun fs cs h1 h2 H' r s hr R => ⟨r, rfl, k1 fs cs h1 h2 H' r s hr R⟩) k2 x dx hx hdx ne
  have e : (fun (v : V) (H2 : Hp) => v = V.non ∧ ∃ r, V.ref x = V.ref r ∧ Qa r H2) = fun v H2 => v = .non ∧ Qa x H2 := by
    funext v H2
    refine propext ⟨fun ⟨h1, r, h2, h3⟩ => ?_, fun ⟨h1, h2⟩ => ⟨h1, x, rfl, h2⟩⟩
    injection h2 with h2
    subst h2
    exact ⟨h1, h3⟩
  rw [← e]
  exact z
theorem nol_out {H H5 H6 : Hp} (s : Same H H5) : Same (nol H5 H6) (nol H H6) := fun b o h => nol_at (fun xs e => (nol_some h).2 xs (s _ _ e)) (nol_some h).1
theorem nol_upd2 {H H7 : Hp} {g g' : Addr} {xs ys : List V} {o o' : HO} (e : H g = some (.lst xs)) (e' : H g' = some (.lst ys)) : Same (nol H H7) (upd (upd H7 g o) g' o') := fun b u h => by
  have n : b ≠ g := fun z => (nol_some h).2 xs (z ▸ e)
  have n' : b ≠ g' := fun z => (nol_some h).2 ys (z ▸ e')
  rw [upd_ne n', upd_ne n]
  exact (nol_some h).1
theorem nol_upd {H H7 : Hp} {g : Addr} {xs : List V} {o : HO} (e : H g = some (.lst xs)) : Same (nol H H7) (upd H7 g o) := fun b u h => by
  have n : b ≠ g := fun z => (nol_some h).2 xs (z ▸ e)
  rw [upd_ne n]
  exact (nol_some h).1
theorem sc_lw3 : FnScope ["script", "pen", "turn", "road_here", "given", "same", "known", "odd", "due", "again", "seen", "is_due", "word", "found", "figures", "begin_here", "changes_here", "figure", "one", "other"] ["script"] (defScope sLaw) := ⟨rfl, rfl, rfl, by decide +kernel, rfl, by decide +kernel, by decide +kernel⟩
/-- what the end says of other kinds -/
structure KitO (K : PySem.W.Frag) (C : Addr) : Prop where
  none : PySem.W.kitOne K (.type "NoneType") (.ref C) = some false
  int : PySem.W.kitOne K (.type "int") (.ref C) = some false
  tuple : PySem.W.kitOne K (.type "tuple") (.ref C) = some false
  list : PySem.W.kitOne K (.type "list") (.ref C) = some false
theorem ok_lw3 {f c TP cE C : Addr} {cc : Nat → Addr} {TT : List (Addr × Str)} {fd : FuncData} (F : FunC K "law" sLaw f fd c) (T : Bi4 mg) (TW : TWd K mg cc cE) (WD : WdAt K mg) (TB : LamX.TabB base mg c TP) (TR : TRoad K C) (CO : ClsO K C) (KO : KitO K C)
    (hmT : (TP, ("law" : Str) ++ ".<locals>." ++ "<lambda>") ∈ TT) (huT : ∀ q ∈ TT, q.1 = TP → q.2 = ("law" : Str) ++ ".<locals>." ++ "<lambda>")
    (CP : CalPen3 P w K mg base) (CD : CalDr P w K mg base) (CN0 : Cal P w K mg base CX0 4 "_law_drawn" ["pen"] (spDrn K)) (CF : CalFgs P w K mg base) (CK : CalKno P w K mg base)
    (CLe : CalG P w K mg base CX0 12 "_law_less_right" ["pen", "one", "road_here"] (spLes P w K C TT)) (CMo : CalG P w K mg base CX0 12 "_law_more_right" ["pen", "one", "road_here"] (spMor P w K C TT)) (CFr : CalG P w K mg base CX0 12 "_law_full_right" ["pen", "road_here"] (spFrr P w K C TT))
    (CN : CalBnt P w K mg base) (CI : CalLaf P w K mg base) (CC : CalLac P w K mg base) (CH : CalShw P w K mg base C) (CB : CalG P w K mg base CX0 9 "_law_begins_right" ["one", "road_here"] (spBgr P w K C)) (CA : CalAll P w K mg base)
    (CFu : Cal P w K mg base (L2.CX P w) 9 "full_road" ["shapes"] (spFul P w K C (cc 0))) (CM : CalMe P w K mg base (L2.CX P w) C 5 "behind" ["self", "shape"] (spBhd P w K C (cc 1))) (CE : EqAtR P w K mg base C) (CR : CalRd P w K mg base C (cc 0)) :
    GFn P w K mg base CX0 13 f fd ["script"] (spLw3 K TT) := by
  obtain ⟨fP, fdP, GP, gP, kP, bP⟩ := CP
  obtain ⟨fD, fdD, GD, gD, kD, bD⟩ := CD
  obtain ⟨fDn, fdDn, GDn, gDn, kDn, bDn⟩ := CN0
  obtain ⟨fF, fdF, GF, gF, kF, bF⟩ := CF
  obtain ⟨fK, fdK, GK, gK, kK, bK⟩ := CK
  obtain ⟨fLe, fdLe, GLe, gLe, kLe, bLe⟩ := CLe
  obtain ⟨fMo, fdMo, GMo, gMo, kMo, bMo⟩ := CMo
  obtain ⟨fFr, fdFr, GFr, gFr, kFr, bFr⟩ := CFr
  obtain ⟨fN, fdN, GN, gN, kN, bN⟩ := CN
  obtain ⟨fI, fdI, GI, gI, kI, bI⟩ := CI
  obtain ⟨fC, fdC, GC, gC, kC, bC⟩ := CC
  obtain ⟨fH, fdH, GH, gH, kH, bH⟩ := CH
  obtain ⟨fB, fdB, GB, gB, kB, bB⟩ := CB
  obtain ⟨fA, fdA, GA, gA, kA, bA⟩ := CA
  obtain ⟨fFu, fdFu, GFu, gFu, kFu, bFu⟩ := CFu
  obtain ⟨fM, fdM, MM, GM, bM⟩ := CM
  obtain ⟨fE, fdE, GE, e1E, e2E, e3E, bE⟩ := CE
  obtain ⟨fRd, fdRd, GR, MR, gR, bR⟩ := CR
  obtain ⟨gw, oc, od, kV, doc, pm, an, cdw, ct, osl, gWd, kWd, lkWd, hcWd, bWd⟩ := WD
  refine F.gok sc_lw3 (fun vs H Q E h => ?_) (fun A outer s H vs Q E hg hr h => ?_)
  · obtain ⟨a, ns, rfl, _⟩ := h
    rfl
  · obtain ⟨sa, ns0, rfl, hsq, htab, k⟩ := h
    have hu := hr.units
    have hrG : Room 12 _ := hr
    have hrL : Room 11 _ := hr.mono (by decide)
    have hrB : Room 9 _ := hr.mono (by decide)
    have hrR : Room 8 _ := hr.mono (by decide)
    have hrH : Room 6 _ := hr.mono (by decide)
    have hrN : Room 4 _ := hr.mono (by decide)
    have hrN3 : Room 3 _ := hr.mono (by decide)
    have hrD : Room 2 _ := hr.mono (by decide)
    have hr1 : Room 1 _ := hr.mono (by decide)
    have hg2 : (A.deeper (envOfC "law" (defScope sLaw) s.heap.objs.size f (.ref c))).guards = some [] := hg
    have h1000 : 1000 ≤ sizeLine := by decide
    have hB : ∀ x ∈ ([] : List Str), mg x = none := fun x hx => nomatch hx
    refine ⟨_, (pss_cons (ps_set (i := 1) sc_lw3.nd rfl (.inl rfl) (pe_call GP hr1 (by rfl) gP kP bP .nil pass0 (pa_cons (pv 0) pa_nil)))
        (C8.pss_cut (ps_for PassesOwn.never rfl (pi_range1 (by rfl) T.range (pa_cons (pe_int) pa_nil)) (pg_name (i := 2) sc_lw3.nd rfl (.inl rfl)) (pss_cons (ps_set (i := 3) sc_lw3.nd rfl (.inl rfl) (pe_call GDn hrN (by rfl) gDn kDn bDn .nil pass0 (pa_cons (pv 1) pa_nil)))
        (pss_cons (ps_set (i := 4) sc_lw3.nd rfl (.inl rfl) (pe_lst (pa_cons (pe_back bk_list (pe_callTy call_list_of (by rfl) T.list (by decide +kernel) (pa_cons (pe_ix ix_tup (pv 3) pe_int (fun _ _ => rfl)) pa_nil)) (pe_un un_neg pe_int) (fun _ _ _ q => ⟨_, rfl, q⟩)) (pa_cons (pe_back bk_list (pe_callTy call_list_of (by rfl) T.list (by decide +kernel) (pa_cons (pe_ix ix_tup (pv 3) pe_int (fun _ _ => rfl)) pa_nil)) (pe_un un_neg pe_int) (fun _ _ _ q => ⟨_, rfl, q⟩)) pa_nil))))
        (pss_cons (ps_asg (pe_tup (pa_cons ((pe_make MR GR hrR (by rfl) gR bR .nil passNo (pa_cons (pe_ix ix_list (pv 4) pe_int (fun _ _ => rfl)) (pa_cons (pe_ix ix_list (pv 4) pe_int (fun _ _ => rfl)) pa_nil)))) (pa_cons ((pe_make MR GR hrR (by rfl) gR bR .nil passNo (pa_cons (pe_ix ix_tup (pv 3) pe_int (fun _ _ => rfl)) (pa_cons (pe_ix ix_tup (pv 3) pe_int (fun _ _ => rfl)) pa_nil)))) pa_nil))) (pg_tup rfl (pgs_cons (pg_name (i := 18) sc_lw3.nd rfl (.inr rfl)) (pgs_cons (pg_name (i := 5) sc_lw3.nd rfl (.inl rfl)) pgs_nil))))
        (pss_cons (ps_expr (pe_bm0 PySem.F.plainAttrs_list PySem.F.slot_list_clear PySem.F.type_list_clear mt_clear (pe_ix ix_list (pv 4) pe_int (fun _ _ => rfl))))
        (C8.pss_cut (ps_expr (pe_bm PySem.F.plainAttrs_list PySem.F.slot_list_append PySem.F.type_list_append mt_append (pe_ix ix_list (pv 4) pe_int (fun _ _ => rfl)) (pa_cons pe_non pa_nil)))
        (C8.pss_cut (ps_setLc (i := 7) (own := [("known", 6)]) (g := gName 6) rfl sc_lw3.nd rfl rfl (sw_true rfl rfl rfl (by decide +kernel)) (pi_list (pe_call0 GF hr1 (by rfl) gF kF bF .nil pass0)) (blkOk_by (N := ["script", "pen", "turn", "road_here", "given", "same", "known", "odd", "due", "again", "seen", "is_due", "word", "found", "figures", "begin_here", "changes_here", "figure", "one", "other"]) (sc := defScope sLaw) (by decide +kernel)) (fun _ _ _ _ _ => (pg_name (i := 6) sc_lw3.nd rfl (.inl rfl))) (fun _ _ _ _ _ => (pts_one (show PT _ _ (tTest (tOp rEq (tOp (rIxT K) (tVar 6) (tC (.int 0))) (tC (.int 5)))) from pt_cmpR op_eq (pe_ix ix_tup (pv 6) pe_int (fun _ _ => rfl)) pe_int (nomark _)))) (fun _ _ _ _ _ => (pv 6)))
        (C8.pss_cut (ps_for PassesOwn.never rfl (pi_list (pe_op op_catL (pv 7) (lit_peX (α := Unit) (n := 12) (N := ["script", "pen", "turn", "road_here", "given", "same", "known", "odd", "due", "again", "seen", "is_due", "word", "found", "figures", "begin_here", "changes_here", "figure", "one", "other"]) (sc := defScope sLaw) (B := []) (Es := fun _ => fun _ => false) (envs := fun _ => []) (ds := fun _ => .list lit9) rfl rfl hB (fun x => by kernel_rfl)))) (pg_name (i := 17) sc_lw3.nd rfl (.inr rfl)) (C8.pss_cut (ps_setLc (i := 6) (own := [("other", 19)]) (g := gName 19) rfl sc_lw3.nd rfl rfl (sw_true rfl rfl rfl (by decide +kernel)) (pi_list (pe_call GK hr1 (by rfl) gK kK bK .nil pass0 (pa_cons (pv 3) pa_nil))) (blkOk_by (N := ["script", "pen", "turn", "road_here", "given", "same", "known", "odd", "due", "again", "seen", "is_due", "word", "found", "figures", "begin_here", "changes_here", "figure", "one", "other"]) (sc := defScope sLaw) (by decide +kernel)) (fun _ _ _ _ _ => (pg_name (i := 19) sc_lw3.nd rfl (.inl rfl))) (fun _ _ _ _ _ => pts_nil) (fun _ _ _ _ _ => (pe_callB (id := "repr") (show CallR _ (.builtin "repr") (rRepr K) from by refine call_repr ?_ ?_ <;> first | exact hg2 | exact hu) (by rfl) T.repr (by decide +kernel) (pa_cons (pv 19) pa_nil))))
        (C8.pss_cut (ps_set (i := 8) sc_lw3.nd rfl (.inl rfl) (pe_ifExp (pt_cmpR op_in_seq (pe_callB (call_repr hg2 hu) (by rfl) T.repr (by decide +kernel) (pa_cons (pv 17) pa_nil)) (pv 6) (by rfl)) (pe_str) (pe_str)))
        (pss_one (ps_if (pt_cmpR op_ne (pe_ix ix_tup (LamX.pe_lamcall (T := TT) (k := 9) (by rfl) gWd kWd lkWd hcWd bWd sc_wrd rfl (.inl rfl) (wrd_gives TW) TB rfl hmT huT hrL (LamX.lamS_by (sc := defScope sLaw) (by decide +kernel)) rfl (fun _ _ _ _ _ => rfl) (fun A outer s H E f c1 hr5 => pe_meth (pv 18) TR.c MM GM (hr5.mono (by decide)) bM .nil (passes_call (takes_of rfl rfl rfl rfl) fun _ _ _ _ h => h) (pa_cons (pv 17) pa_nil))) (pe_int) (fun _ _ => rfl)) (pv 8) (nomark _)) (pss_one (ps_ret (pe_bl))) pss_nil)))))
        (C8.pss_cut (ps_for PassesOwn.never rfl (pi_range1 (by rfl) T.range (pa_cons (pe_int) pa_nil)) (pg_name (i := 9) sc_lw3.nd rfl (.inl rfl)) (C8.pss_cut (ps_if (pt_not (pt_val (pe_callG GLe hg2 hrG (by rfl) gLe kLe bLe .nil pass0 (pa_cons (pv 1) (pa_cons (pv 18) (pa_cons (pv 3) pa_nil)))))) (pss_one (ps_ret (pe_bl))) pss_nil)
        (C8.pss_cut (ps_if (pt_not (pt_val (pe_callG GMo hg2 hrG (by rfl) gMo kMo bMo .nil pass0 (pa_cons (pv 1) (pa_cons (pv 18) (pa_cons (pv 3) pa_nil)))))) (pss_one (ps_ret (pe_bl))) pss_nil)
        (C8.pss_cut (ps_asg (pe_call GN hrN (by rfl) gN kN bN .nil pass0 (pa_cons (pv 1) (pa_cons (pv 3) pa_nil))) (pg_tup rfl (pgs_cons (pg_name (i := 15) sc_lw3.nd rfl (.inr rfl)) (pgs_cons (pg_name (i := 16) sc_lw3.nd rfl (.inr rfl)) pgs_nil))))
        (pss_cons (ps_set (i := 10) sc_lw3.nd rfl (.inl rfl) (pe_callB (call_repr hg2 hu) (by rfl) T.repr (by decide +kernel) (pa_cons (pe_lst (pa_cons (pv 15) (pa_cons (pv 16) pa_nil))) pa_nil)))
        (C8.pss_cut (ps_set (i := 11) sc_lw3.nd rfl (.inl rfl) (pe_and (pe_callG GI hg2 hrN3 (by rfl) gI kI bI .nil pass0 (pa_cons (pv 15) pa_nil)) (pe_one (pe_callG GC hg2 hrN (by rfl) gC kC bC .nil pass0 (pa_cons (pv 16) pa_nil)))))
        (C8.pss_cut (ps_asg (LamX.pe_lamcall (T := TT) (k := 9) (by rfl) gWd kWd lkWd hcWd bWd sc_wrd rfl (.inl rfl) (wrd_gives TW) TB rfl hmT huT hrL (LamX.lamS_by (sc := defScope sLaw) (by decide +kernel)) rfl (fun _ _ _ _ _ => rfl) (fun A outer s H E f c1 hr5 => pe_make MR GR (hr5.mono (by decide)) (by rfl) gR bR .nil (passes_call (takes_of rfl rfl rfl rfl) fun _ _ _ _ h => h) (pa_cons (pv 15) (pa_cons (pv 16) pa_nil)))) (pg_tup rfl (pgs_cons (pg_name (i := 12) sc_lw3.nd rfl (.inl rfl)) (pgs_cons (pg_name (i := 13) sc_lw3.nd rfl (.inl rfl)) pgs_nil))))
        (C8.pss_cut (ps_if (PW.pt (pw_or (pt_cmpR op_ne (pv 12) (pe_ifExp (pt_val (pv 11)) (pe_str) (pe_str)) (nomark _)) (pw_or1 (pt_cmpR op_ne (pe_callB (call_repr hg2 hu) (by rfl) T.repr (by decide +kernel) (pa_cons (pe_lst (pa_cons (pv 15) (pa_cons (pv 16) pa_nil))) pa_nil)) (pv 10) (nomark _))))) (pss_one (ps_ret (pe_bl))) pss_nil)
        (C8.pss_cut (ps_if (PW.pt (pw_and (pt_val (pv 11)) (pw_and1 (pt_not (pt_val (pe_callG GH hg2 hrH (by rfl) gH kH bH .nil pass0 (pa_cons (pv 13) (pa_cons (pe_tup (pa_cons (pv 15) (pa_cons (pv 16) pa_nil))) pa_nil)))))))) (pss_one (ps_ret (pe_bl))) pss_nil)
        (pss_one (ps_if (pt_not (pt_val (pe_callG GFr hg2 hrG (by rfl) gFr kFr bFr .nil pass0 (pa_cons (pv 1) (pa_cons (pv 3) pa_nil))))) (pss_one (ps_ret (pe_bl))) pss_nil)))))))))))
        (pss_cons (ps_if (PW.pt (pw_or (pt_not (pt_val (pe_callG GH hg2 hrH (by rfl) gH kH bH .nil pass0 (pa_cons (pv 18) (pa_cons (pv 3) pa_nil))))) (pw_or1 (pt_cmpR (op_neI GE e1E e2E TR.hm e3E bE hrD pass0) (pv 18) (pv 5) (nomark _))))) (pss_one (ps_ret (pe_bl))) pss_nil)
        (pss_cons (ps_if (pt_not (pt_val (pe_callG GB hg2 hrB (by rfl) gB kB bB .nil pass0 (pa_cons (pv 18) (pa_cons (pv 3) pa_nil))))) (pss_one (ps_ret (pe_bl))) pss_nil)
        (pss_one (ps_if (pt_cmpR (op_inO GE e1E e3E bE pass0 CO hrD) (pv 18) (pe_lst (pa_cons (pe_non) (pa_cons (pe_int) (pa_cons (pv 3) (pa_cons (pe_ix ix_tup (pv 3) (pe_int) (fun _ _ => rfl)) pa_nil))))) (by rfl)) (pss_one (ps_ret (pe_bl))) pss_nil)))))))))))))
        (pss_cons (ps_set (i := 14) sc_lw3.nd rfl (.inl rfl) (pe_slice sl_list (pe_slice sl_list (pe_call0 GF hr1 (by rfl) gF kF bF .nil pass0) (po_some (pe_call GD hrD (by rfl) gD kD bD .nil pass0 (pa_cons (pv 1) (pa_cons (pe_int) pa_nil)))) po_none) po_none (po_some (pe_int))))
        (pss_one (ps_ret (pe_callG GH hg2 hrH (by rfl) gH kH bH .nil pass0 (pa_cons (pe_call GFu hrB (by rfl) gFu kFu bFu .nil passNo (pa_cons (pv 14) pa_nil)) (pa_cons (pe_tup (pa_cons (pv 14) (pa_cons (pe_call GA hr1 (by rfl) gA kA bA .nil pass0 (pa_cons (pv 14) pa_nil)) pa_nil))) pa_nil)))))))), ?_⟩
    refine ⟨_, rfl, sa, ns0, rfl, hsq, fun H0 p a ns hp s0 L0 => ?_⟩
    have S0 : St TT p a ns 0 H0 := ⟨⟨0, L0⟩, tabs_wod L0.hp (htab.ext s0)⟩
    refine ⟨fun σ G => (∃ x2 x3 x4 x5 x6 x7 x8 x9 x10 x11 x12 x13 x15 x16 x17 x18, σ = [some (.ref sa), some (.ref p), x2, x3, x4, x5, x6, x7, x8, x9, x10, x11, x12, x13, none, x15, x16, x17, x18, none]) ∧ ∃ i, St TT p a ns i G ∧ i ≤ 100000, ?_, ?_⟩
    · refine ⟨_, rfl, by decide, by decide, for_range (lo := 0) (n := 6) (fun t σ G => (∃ x2 x3 x4 x5 x6 x7 x8 x9 x10 x11 x12 x13 x15 x16 x17 x18, σ = [some (.ref sa), some (.ref p), x2, x3, x4, x5, x6, x7, x8, x9, x10, x11, x12, x13, none, x15, x16, x17, x18, none]) ∧ ∃ i, St TT p a ns i G ∧ i ≤ 10000 * t) ⟨⟨none, none, none, none, none, none, none, none, none, none, none, none, none, none, none, none, rfl⟩, 0, S0, by decide⟩ ?_ (fun σ G ⟨e, i, S, hi⟩ => ⟨e, i, S, by omega⟩)⟩
      rintro t σ H ht ⟨⟨x2, x3, x4, x5, x6, x7, x8, x9, x10, x11, x12, x13, x15, x16, x17, x18, rfl⟩, i, S, hi⟩
      obtain ⟨n, L⟩ := S.pen
      refine ⟨_, rfl, p, a, ns, i, n, rfl, L, by omega, fun H1 bb fs cs i1 n1 L1 hi1 kb1 hpair wf lf lc => ?_⟩
      have S1 := S.draw L1 kb1
      have hi6 : i1 ≤ 61000 := by omega
      have hit : i1 ≤ 10000 * (t : Int) + 300 := by omega
      clear S L hi
      obtain ⟨bb', x0, y0, e, hb, h1, h2⟩ := hpair.inv
      cases e
      obtain ⟨bx, xs, rfl, hbx, hx⟩ := h1.lst_inv
      obtain ⟨by_, ys, rfl, hby, hy⟩ := h2.lst_inv
      have w1 : Same (wod p H1) H1 := wod_same
      -- given
      refine ⟨_, rfl, bb, _, 0, _, rfl, rfl, w1.trans (Same.refl _) |> fun z => sqT_same z hb, atI_nat (j := 0) rfl, bx, xs, rfl, .inl (w1.seq hbx), fun l1 hl1 => ?_⟩
      have t1 : Same H1 (upd H1 l1 (.lst xs)) := sameN hl1
      refine ⟨l1, xs, rfl, SqL.of upd_same, fun g0 hg0 => ?_⟩
      have t2 := t1.trans (sameN (o := .lst xs.reverse) hg0)
      have eg0 : (upd (upd H1 l1 (.lst xs)) g0 (.lst xs.reverse)) g0 = some (.lst xs.reverse) := upd_same
      have ng0 : H1 g0 = none := fresh_of t1 hg0
      generalize upd (upd H1 l1 (.lst xs)) g0 (.lst xs.reverse) = H2 at t2 eg0 ⊢
      refine ⟨_, rfl, bb, _, 1, _, rfl, rfl, sqT_same (w1.trans t2) hb, atI_nat (j := 1) rfl, by_, ys, rfl, .inl ((w1.trans t2).seq hby), fun l2 hl2 => ?_⟩
      have t3 : Same H2 (upd H2 l2 (.lst ys)) := sameN hl2
      refine ⟨l2, ys, rfl, SqL.of upd_same, fun g1 hg1 => ?_⟩
      have t4 := t3.trans (sameN (o := .lst ys.reverse) hg1)
      have eg1 : (upd (upd H2 l2 (.lst ys)) g1 (.lst ys.reverse)) g1 = some (.lst ys.reverse) := upd_same
      have ng1 : H1 g1 = none := fresh_of t2 (fresh_of t3 hg1)
      have n01 : g0 ≠ g1 := ne_of_none (t3 _ _ eg0) hg1
      have eg0 := t4 _ _ eg0
      have t5 := t2.trans t4
      generalize upd (upd H2 l2 (.lst ys)) g1 (.lst ys.reverse) = H3 at t5 eg0 eg1 ⊢
      clear t4 t3 t2 t1
      refine ⟨by show 2 ≤ sizeLine; decide, fun gl hgl => ?_⟩
      have t6 := t5.trans (sameN (o := .lst [.ref g0, .ref g1]) hgl)
      have egl : (upd H3 gl (.lst [.ref g0, .ref g1])) gl = some (.lst [.ref g0, .ref g1]) := upd_same
      have nl0 : gl ≠ g0 := (ne_of_none eg0 hgl).symm
      have nl1 : gl ≠ g1 := (ne_of_none eg1 hgl).symm
      have eg0 := (sameN (o := .lst [.ref g0, .ref g1]) hgl) _ _ eg0
      have eg1 := (sameN (o := .lst [.ref g0, .ref g1]) hgl) _ _ eg1
      generalize upd H3 gl (.lst [.ref g0, .ref g1]) = H4 at t6 eg0 eg1 egl ⊢
      clear t5
      -- one, same
      obtain ⟨⟨_, okf, fne, fnd⟩, ⟨_, okc, cnd⟩, hl⟩ := id wf
      have lD : ∀ fs : List Fg, lenD (.list (fs.map Datum.toD)) = fs.length := fun fs => List.length_map ..
      have lC : ∀ cs : List Ch, lenD (.list (cs.map Datum.toD)) = cs.length := fun cs => List.length_map ..
      have v0 : Dv K H4 (.ref g0) (.list (fs.reverse.map Datum.toD)) := by
        rw [List.map_reverse]
        exact .lst (SqL.of eg0) (dv_rev (hx.same (w1.trans t6)))
      have v1 : Dv K H4 (.ref g1) (.list (cs.reverse.map Datum.toD)) := by
        rw [List.map_reverse]
        exact .lst (SqL.of eg1) (dv_rev (hy.same (w1.trans t6)))
      have arF : AreF (.list (fs.reverse.map Datum.toD)) fs.reverse := ⟨rfl, fun f hf => okf f (List.mem_reverse.mp hf), by simpa using fne, (List.reverse_perm fs).nodup_iff.mpr fnd⟩
      have arC : AreC (.list (cs.reverse.map Datum.toD)) cs.reverse := ⟨rfl, fun c hc => okc c (List.mem_reverse.mp hc), (List.reverse_perm cs).nodup_iff.mpr cnd⟩
      refine ⟨_, rfl, gl, _, 0, _, rfl, rfl, SqL.of egl, atI_nat (j := 0) rfl, _, rfl, gl, _, 1, _, rfl, rfl, SqL.of egl, atI_nat (j := 1) rfl, ?_⟩
      dsimp only [tNil, tCons]
      refine mk_roadNA TR v0 v1 (by rw [lD, lC, List.length_reverse, List.length_reverse]; omega) (fun gs es hgs hes H5 r s5 hr5 RR5 => ?_) fun z _ _ => ?_
      · rw [areF_eq hgs arF, areC_eq hes arC] at RR5
        have R5 := RR5.perm (List.reverse_perm fs).symm (List.reverse_perm cs).symm
        clear RR5 hgs hes
        have t7 := t6.trans s5
        refine ⟨_, rfl, bb, _, 0, _, rfl, rfl, sqT_same (w1.trans t7) hb, atI_nat (j := 0) rfl, _, rfl, bb, _, 1, _, rfl, rfl, sqT_same (w1.trans t7) hb, atI_nat (j := 1) rfl, ?_⟩
        dsimp only [tNil, tCons]
        refine mk_roadNA TR (h1.same (w1.trans t7)) (h2.same (w1.trans t7)) (by rw [lD, lC]; omega) (fun gs es hgs hes H6 q s6 hq6 RR6 => ?_) fun z _ _ => ?_
        · rw [areF_eq hgs ⟨rfl, okf, fne, fnd⟩, areC_eq hes ⟨rfl, okc, cnd⟩] at RR6
          have R6r := R5.same (nol_mono (H := H4) s6)
          have R6q := RR6.same (nol_out (H := H4) (H5 := H5) (H6 := H6) s5)
          refine ⟨by show 2 ≤ sizeLine; decide, fun t ht => ?_⟩
          have s7 : Same H6 (upd H6 t (.tup [.ref r, .ref q])) := sameN ht
          have et : (upd H6 t (.tup [.ref r, .ref q])) t = some (.tup [.ref r, .ref q]) := upd_same
          have R7r := R6r.same (nol_mono (H := H4) s7)
          have R7q := R6q.same (nol_mono (H := H4) s7)
          have t8 := (t7.trans s6).trans s7
          have egl := s7 _ _ (s6 _ _ (s5 _ _ egl))
          have f0 := eg0
          have f1 := eg1
          have eg0 := s7 _ _ (s6 _ _ (s5 _ _ eg0))
          have eg1 := s7 _ _ (s6 _ _ (s5 _ _ eg1))
          generalize upd H6 t (.tup [.ref r, .ref q]) = H7 at s7 et R7r R7q t8 egl eg0 eg1 ⊢
          clear R6r R6q R5 RR6 hgs hes
          refine ⟨t, _, rfl, SqT.of et, rfl, .ref r, _, rfl, .ref q, _, rfl, rfl, ?_⟩
          -- the lists that were given change
          refine ⟨_, rfl, gl, _, 0, _, rfl, rfl, SqL.of egl, atI_nat (j := 0) rfl, .inl ⟨rfl, _, SqL.of eg0⟩, g0, _, rfl, rfl, eg0, ?_⟩
          refine ⟨fun σ G => (∃ x2 x5' x6 x7 x8 x9 x10 x11 x12 x13 x15 x16 x17, x5' = V.ref q ∧ σ = [some (.ref sa), some (.ref p), x2, some (.ref bb), some (.ref gl), some x5', x6, x7, x8, x9, x10, x11, x12, x13, none, x15, x16, x17, some (.ref r), none]) ∧ Same H1 G ∧ RoadAt P w K C G r fs cs ∧ RoadAt P w K C G q fs cs, ?_, ?_⟩
          · have c0 : Same (nol H4 H7) (upd H7 g0 (.lst [])) := nol_upd f0
            have egl2 : (upd H7 g0 (.lst [])) gl = some (.lst [.ref g0, .ref g1]) := by rw [upd_ne nl0]; exact egl
            refine ⟨_, rfl, gl, _, 1, _, rfl, rfl, SqL.of egl2, atI_nat (j := 1) rfl, .inl ⟨rfl, _, SqL.of (xs := ys.reverse) (by rw [upd_ne n01.symm]; exact eg1)⟩, g1, ys.reverse, .non, rfl, rfl, by rw [upd_ne n01.symm]; exact eg1, ?_, ?_⟩
            · have z := hy.len
              rw [List.length_map] at z
              rw [List.length_reverse]
              omega
            · refine ⟨⟨_, _, x6, x7, x8, x9, x10, x11, x12, x13, x15, x16, x17, rfl, rfl⟩, ?_, R7r.same ?_, R7q.same ?_⟩
              · exact fun b o e => by rw [upd_ne (ne_of_none e ng1), upd_ne (ne_of_none e ng0)]; exact t8 _ _ e
              · exact nol_upd2 f0 f1
              · exact nol_upd2 f0 f1
          · rintro σ G ⟨⟨x2, x5, x6, x7, x8, x9, x10, x11, x12, x13, x15, x16, x17, rfl, rfl⟩, s1G, RGr, RGq⟩
            have L := L1.same s1G
            have S := S1.same s1G
            have RH : RR P w K C p G r (.ref bb) fs cs := ⟨RGr.cor L.hp, Dv.ofW (hpair.same (wod_mono s1G)), lf, lc⟩
            have RQ : RoadAt P w K C (cor p G) q fs cs := RGq.cor L.hp
            clear RGr RGq s1G S1 R7r R7q t8 eg0 eg1 egl f0 f1 et s7 s6 hq6 s5 hr5 t7 t6
            -- the figures that begin with 5
            refine ⟨fun σ G2 => (∃ x6 x8 x9 x10 x11 x12 x13 x15 x16 x17 od, σ = [some (.ref sa), some (.ref p), x2, some (.ref bb), some (.ref gl), some (.ref q), x6, some (.ref od), x8, x9, x10, x11, x12, x13, none, x15, x16, x17, some (.ref r), none] ∧ ∃ os : List Fg, Dv K G2 (.ref od) (.list (os.map Datum.toD)) ∧ (∀ f ∈ os, fOk f) ∧ os.length ≤ 36) ∧ Same G G2, ?_, ?_⟩
            · refine ⟨rfl, fun H2 fa yf s2 hfa hf2 tp => ⟨fa, rfl, ⟨yf, SqL.of hf2⟩, fun D hD => ?_⟩⟩
              have dv0 := tups_dv (K := K) tp
              have ly := dv0.len
              rw [List.length_map] at ly
              have l36 : ((figsTo 6).map Tup.mk).length = 36 := figs_len
              rw [l36] at ly
              refine lc_list (xs := yf) (fun i H' => ∃ (acc : List V) (os : List Fg), H' D = some (.lst acc) ∧ DvAll K H2 acc (os.map Datum.toD) ∧ (∀ f ∈ os, fOk f) ∧ os.length ≤ i ∧ Same H2 H') ⟨[], [], upd_same, .nil, (fun _ z => nomatch z), Nat.le_refl _, sameN hD⟩ (fun i H' _ ⟨_, _, _, _, _, _, s3⟩ => s3.seq (SqL.of hf2)) (fun i x H' hi ⟨acc, os, h1, h2, h3, h4, s3⟩ => ?_) (fun H5 ⟨acc, os, h1, h2, h3, h4, s3⟩ => ?_)
              · obtain ⟨di, ei, hdi⟩ := dv0.get hi
                rw [List.getElem?_map] at ei
                obtain ⟨g, eg, rfl⟩ := Option.map_eq_some_iff.mp ei
                have okg : fOk g := figs_ok g (List.mem_of_getElem? eg)
                obtain ⟨i0, rr, er⟩ := fig_cons okg
                have hdi' : Dv K H2 x (.tuple (g.items.map Datum.toD)) := hdi
                rw [er] at hdi'
                obtain ⟨a9, zs, rfl, ha9, hz9⟩ := hdi'.tup_inv
                have lz := hz9.len
                rw [List.length_map, List.length_cons] at lz
                obtain ⟨v0, ev0⟩ : ∃ v0, zs[0]? = some v0 := ⟨_, List.getElem?_eq_getElem (by omega)⟩
                obtain ⟨d0, ed0, hd0⟩ := hz9.get ev0
                have ed1 : d0 = .int i0 := (Option.some.inj ed0).symm
                rw [ed1] at hd0
                have ev1 : v0 = .int i0 := by cases hd0; rfl
                rw [ev1] at ev0
                have lacc := h2.len
                rw [List.length_map] at lacc
                have hi36 := (List.getElem?_eq_some_iff.mp hi).1
                refine ⟨rfl, _, rfl, a9, zs, 0, _, rfl, rfl, sqT_same s3 ha9, atI_nat (j := 0) ev0, rfl, _, rfl, ?_⟩
                by_cases h5 : i0 = 5
                · refine iteYb (decide_eq_true (by rw [h5])) ⟨_, rfl, acc, h1, by omega, acc ++ [.ref a9], os ++ [g], upd_same, ?_, ?_, by rw [List.length_append, List.length_singleton]; omega, fun b o e => ?_⟩
                  · rw [List.map_append]
                    exact h2.snoc hdi
                  · intro f hf
                    rcases List.mem_append.mp hf with hf | hf
                    · exact h3 f hf
                    · rw [List.mem_singleton.mp hf]
                      exact okg
                  · rw [upd_ne (ne_of_none e hD)]
                    exact s3 _ _ e
                · exact iteNb (decide_eq_false fun e => h5 (by injection e)) ⟨acc, os, h1, h2, h3, by omega, s3⟩
              · exact ⟨⟨x6, x8, x9, x10, x11, x12, x13, x15, x16, x17, D, rfl, os, .lst (SqL.of h1) (h2.same s3), h3, by omega⟩, s2.trans s3⟩
            · rintro σ G2 ⟨⟨x6, x8, x9, x10, x11, x12, x13, x15, x16, x17, od, rfl, os, hod, oko, lo⟩, sG2⟩
              have L := L.same sG2
              have S := S.same sG2
              have RH := RH.keep (KX.same sG2)
              have RQ := RQ.same (cor_same (p := p) sG2)
              clear sG2
              obtain ⟨od', z1, eo, hz1, dz1⟩ := hod.lst_inv
              cases eo
              have hks := known_ok okf okc
              have lks := behKeys_len fs cs
              -- what is behind
              refine ⟨fun σ G3 => (∃ x4 x6 x7 x8 x9 x10 x11 x12 x13 x15 x16 x17, σ = [some (.ref sa), some (.ref p), x2, some (.ref bb), x4, some (.ref q), x6, x7, x8, x9, x10, x11, x12, x13, none, x15, x16, x17, some (.ref r), none]) ∧ St TT p a ns i1 G3 ∧ RR P w K C p G3 r (.ref bb) fs cs ∧ RoadAt P w K C (cor p G3) q fs cs, ?_, ?_⟩
              · refine ⟨_, rfl, (), lit0 (fun q hq => absurd hq (by simp)) fun v2 H3 s3 hv2 => ?_⟩
                obtain ⟨m2, z2, rfl, hm2, dz2⟩ := hv2.lst_inv
                have ll1 := dz1.len
                have ll2 : z2.length = 9 := dz2.len
                rw [List.length_map] at ll1
                refine ⟨od, m2, z1, z2, rfl, rfl, s3.seq hz1, hm2, by omega, fun fl hfl => ?_⟩
                have t4 : Same H3 (upd H3 fl (.lst (z1 ++ z2))) := sameN hfl
                have efl : (upd H3 fl (.lst (z1 ++ z2))) fl = some (.lst (z1 ++ z2)) := upd_same
                have s4 := s3.trans t4
                have dz : DvAll K (upd H3 fl (.lst (z1 ++ z2))) (z1 ++ z2) (os.map Datum.toD ++ lit9) := dv_app (dz1.same s4) (dz2.same t4)
                have ask : ∀ d ∈ os.map Datum.toD ++ lit9, Ask d := fun d hd => by
                  rcases List.mem_append.mp hd with hd | hd
                  · obtain ⟨f, hf, rfl⟩ := List.mem_map.mp hd
                    exact ask_F (oko f hf)
                  · exact ask9 d hd
                have S4 := S.same s4
                have R4 := RH.keep (KX.same s4)
                have Q4 := RQ.same (cor_same (p := p) s4)
                have L4 := L.same s4
                have dzc : DvAll K (cor p (upd H3 fl (.lst (z1 ++ z2)))) (z1 ++ z2) (os.map Datum.toD ++ lit9) := DvAll.cor L4.hp dz (noPen_all fun d hd => (ask d hd).np)
                have nfp : fl ≠ p := (ne_of_none (s3 _ _ L.hp) hfl).symm
                generalize upd H3 fl (.lst (z1 ++ z2)) = H4 at efl S4 R4 Q4 dzc ⊢
                generalize z1 ++ z2 = zs at efl dzc
                generalize os.map Datum.toD ++ lit9 = ds at dzc ask
                refine ⟨fl, rfl, ⟨_, SqL.of efl⟩, for_list (xs := zs) (fun j σ G => (∃ x6 x8 x17, σ = [some (.ref sa), some (.ref p), x2, some (.ref bb), some (.ref gl), some (.ref q), x6, some (.ref od), x8, x9, x10, x11, x12, x13, none, x15, x16, x17, some (.ref r), none]) ∧ St TT p a ns i1 G ∧ KX p H4 G) ⟨⟨_, _, _, rfl⟩, S4, KX.same (Same.refl _)⟩ (fun j σ G _ ⟨_, _, kx⟩ => SqL.of (kx _ _ nfp efl (fun _ z => nomatch z))) ?_ (fun σ G ⟨⟨x6, x8, x17, e⟩, S, kx⟩ => ⟨⟨_, _, _, _, _, _, _, _, _, _, _, _, e⟩, S, R4.keep kx, Q4.same kx.cor⟩)⟩
                rintro j x σ G hj ⟨⟨x6', x8', x17', rfl⟩, S5, kx5⟩
                obtain ⟨d, ed, hd⟩ := dzc.get hj
                have hd := hd.same kx5.cor
                have ak := ask d (List.mem_of_getElem? ed)
                have sz := ak.sz.fits (by decide) (by decide)
                have R5 := R4.keep kx5
                -- what is known
                refine ⟨fun σ G2 => (∃ kn, σ = [some (.ref sa), some (.ref p), x2, some (.ref bb), some (.ref gl), some (.ref q), some (.ref kn), some (.ref od), x8', x9, x10, x11, x12, x13, none, x15, x16, some x, some (.ref r), none] ∧ G2 kn = some (.lst ((behKeys fs cs).map fun f => showV (dF f)))) ∧ Same G G2, ?_, ?_⟩
                · refine ⟨_, rfl, .ref bb, fs, cs, rfl, Dv.same cor_le R5.pair, hl, okf, okc, fun H6 q6 z6 s6 hq6 dz6 => ⟨q6, rfl, ⟨z6, SqL.of upd_same⟩, fun D hD => ?_⟩⟩
                  have t6 := s6.trans (sameN (o := .lst z6) hq6)
                  have eq6 : (upd H6 q6 (.lst z6)) q6 = some (.lst z6) := upd_same
                  have dz6 := dz6.same t6
                  have l6 := dz6.len
                  rw [List.length_map] at l6
                  generalize upd H6 q6 (.lst z6) = H7 at t6 eq6 dz6 hD ⊢
                  refine lc_list (xs := z6) (fun i H' => H' D = some (.lst (((behKeys fs cs).take i).map fun f => showV (dF f))) ∧ Same H7 H') ⟨upd_same, sameN hD⟩ (fun i H' _ ⟨_, s7⟩ => s7.seq (SqL.of eq6)) (fun i y H' hi ⟨h1, s7⟩ => ?_) (fun H8 ⟨h1, s7⟩ => ?_)
                  · obtain ⟨di, ei, hdi⟩ := dz6.get hi
                    rw [List.getElem?_map] at ei
                    obtain ⟨g, eg, rfl⟩ := Option.map_eq_some_iff.mp ei
                    have og := (sz_F (hks g (List.mem_of_getElem? eg))).fits (by decide) (by decide)
                    refine ⟨rfl, _, rfl, y, dF g, rfl, hdi.same s7, og.1, og.2.1, og.2.2, _, h1, ?_, ?_, ?_⟩
                    · rw [List.length_map, List.length_take]
                      have z := Nat.min_le_right i (behKeys fs cs).length
                      omega
                    · rw [upd_same, take_one eg, List.map_append]
                      rfl
                    · intro b o e
                      rw [upd_ne (ne_of_none e hD)]
                      exact s7 _ _ e
                  · rw [l6, List.take_length] at h1
                    exact ⟨⟨D, rfl, h1⟩, t6.trans s7⟩
                · rintro σ G6 ⟨⟨kn, rfl, hkn⟩, s6⟩
                  have S6 := S5.same s6
                  have kx6 := kx5.trans (KX.same s6)
                  have hd6 := hd.same (cor_same (p := p) s6)
                  have R6 := R5.keep (KX.same s6)
                  clear S5 kx5 hd R5 s6
                  have fl1 : ((behKeys fs cs).map fun f => showV (dF f)).all flatV = true := by
                    rw [List.all_eq_true]
                    intro w hw
                    obtain ⟨d, _, rfl⟩ := List.mem_map.mp hw
                    rfl
                  -- what is due
                  refine ⟨fun σ G2 => (∃ du : Str, σ = [some (.ref sa), some (.ref p), x2, some (.ref bb), some (.ref gl), some (.ref q), some (.ref kn), some (.ref od), some (.str du), x9, x10, x11, x12, x13, none, x15, x16, some x, some (.ref r), none] ∧ ((du = "" ∧ ∃ f ∈ behKeys fs cs, d = dF f) ∨ (du = "shape" ∧ ¬ ∃ f ∈ behKeys fs cs, d = dF f))) ∧ G2 = G6, ?_, ?_⟩
                  · refine ⟨_, rfl, x, d, rfl, hd6.same cor_le, sz.1, sz.2.1, sz.2.2, _, rfl, kn, _, rfl, .inl (SqL.of hkn), rfl, fl1, _, rfl, ?_⟩
                    by_cases hin : ∃ f ∈ behKeys fs cs, d = dF f
                    · exact iteYb ((known_in hks ak.fig).mpr hin) ⟨⟨"", rfl, .inl ⟨rfl, hin⟩⟩, rfl⟩
                    · exact iteNb (Bool.eq_false_iff.mpr fun z => hin ((known_in hks ak.fig).mp z)) ⟨⟨"shape", rfl, .inr ⟨rfl, hin⟩⟩, rfl⟩
                  · rintro σ G7 ⟨⟨du, rfl, hdu⟩, rfl⟩
                    refine ⟨S6.all, fun H8 x8 t8 H0' s8 E1 Q1 he hq1 => ?_⟩
                    have kx8 : KX p G7 H0' := (KX.ext x8).trans (KX.same s8)
                    have R0 : RoadAt P w K C H0' r fs cs := (R6.road.same kx8.cor).same cor_le
                    obtain ⟨dx, fl, _, _, _, q0, _⟩ := R0.ex
                    refine ⟨_, rfl, r, dx, fl, rfl, q0, R0.nm _ _ _ q0 "behind" (by decide) (by decide) (by decide), _, rfl, r, x, d, fs, cs, rfl, R0, (hd6.same kx8.cor).same cor_le, fun f ef okf' hm H9 q9 z9 s9 hq9 dz9 => ?_, fun z H9 s9 => ?_⟩
                    · rcases hdu with ⟨rfl, _⟩ | ⟨_, hdu⟩
                      · refine hq1 _ _ fun H10 t s10 ht10 et => ?_
                        have s05 := s8.trans (s9.trans ((sameN hq9).trans s10))
                        exact ⟨t, _, 0, _, rfl, rfl, SqT.of et, atI_nat (j := 0) rfl, _, rfl, rfl, _, rfl, iteNb (by simp) ⟨⟨_, _, _, rfl⟩, (S6.ext x8 t8).same s05, kx6.trans ((KX.ext x8).trans (KX.same s05))⟩⟩
                      · exact absurd ⟨f, hm, ef⟩ hdu
                    · rcases hdu with ⟨_, f, hf, e⟩ | ⟨rfl, hdu⟩
                      · exact absurd hf (z f e (hks f hf))
                      · refine he 1 _ (by decide) fun H10 t s10 ht10 et => ?_
                        have s05 := s8.trans (s9.trans s10)
                        exact ⟨t, _, 0, _, rfl, rfl, SqT.of et, atI_nat (j := 0) rfl, _, rfl, rfl, _, rfl, iteNb (by simp; rfl) ⟨⟨_, _, _, rfl⟩, (S6.ext x8 t8).same s05, kx6.trans ((KX.ext x8).trans (KX.same s05))⟩⟩
              · rintro σ G3 ⟨⟨x4, x6, x7, x8, x9, x10, x11, x12, x13, x15, x16, x17, rfl⟩, S3, R3, Q3⟩
                clear S RH RQ L hod hz1 dz1
                -- three rounds
                refine ⟨fun σ G => (∃ x4 x6 x7 x8 x9 x10 x11 x12 x13 x15 x16 x17, σ = [some (.ref sa), some (.ref p), x2, some (.ref bb), x4, some (.ref q), x6, x7, x8, x9, x10, x11, x12, x13, none, x15, x16, x17, some (.ref r), none]) ∧ ∃ i', St TT p a ns i' G ∧ i' ≤ i1 + 3000 ∧ RR P w K C p G r (.ref bb) fs cs ∧ RoadAt P w K C (cor p G) q fs cs, ?_, ?_⟩
                · refine ⟨_, rfl, by decide, by decide, for_range (lo := 0) (n := 3) (fun j σ G => (∃ x9 x10 x11 x12 x13 x15 x16, σ = [some (.ref sa), some (.ref p), x2, some (.ref bb), x4, some (.ref q), x6, x7, x8, x9, x10, x11, x12, x13, none, x15, x16, x17, some (.ref r), none]) ∧ ∃ i', St TT p a ns i' G ∧ i' ≤ i1 + 1000 * j ∧ KX p G3 G) ⟨⟨_, _, _, _, _, _, _, rfl⟩, i1, S3, by omega, KX.same (Same.refl _)⟩ ?_ (fun σ G ⟨⟨x9, x10, x11, x12, x13, x15, x16, e⟩, i', S, hi, kx⟩ => ⟨⟨_, _, _, _, _, _, _, _, _, _, _, _, e⟩, i', S, by omega, R3.keep kx, Q3.same kx.cor⟩)⟩
                  rintro j σ G hj ⟨⟨x9, x10, x11, x12, x13, x15, x16, rfl⟩, i2, S4, hi2, kx4⟩
                  have R4 := R3.keep kx4
                  -- less
                  refine ⟨fun σ G' => (∃ x9, σ = [some (.ref sa), some (.ref p), x2, some (.ref bb), x4, some (.ref q), x6, x7, x8, x9, x10, x11, x12, x13, none, x15, x16, x17, some (.ref r), none]) ∧ ∃ i', St TT p a ns i' G' ∧ i' ≤ i2 + 100 ∧ KX p G3 G', ?_, ?_⟩
                  · refine ⟨_, rfl, _, rfl, _, rfl, p, a, ns, i2, r, .ref bb, fs, cs, rfl, S4, by omega, R4, fun H5 i5 S5 hi5 kx5 => ?_⟩
                    exact ⟨_, rfl, iteF ⟨⟨_, rfl⟩, i5, S5, hi5, kx4.trans kx5⟩⟩
                  · rintro σ G' ⟨⟨x9, rfl⟩, i5, S5, hi5, kx5⟩
                    clear S4 kx4 R4
                    have R5 := R3.keep kx5
                    -- more
                    refine ⟨fun σ G' => σ = [some (.ref sa), some (.ref p), x2, some (.ref bb), x4, some (.ref q), x6, x7, x8, x9, x10, x11, x12, x13, none, x15, x16, x17, some (.ref r), none] ∧ ∃ i', St TT p a ns i' G' ∧ i' ≤ i2 + 200 ∧ KX p G3 G', ?_, ?_⟩
                    · refine ⟨_, rfl, _, rfl, _, rfl, p, a, ns, i5, r, .ref bb, fs, cs, rfl, S5, by omega, R5, fun H6 i6 S6 hi6 kx6 => ?_⟩
                      exact ⟨_, rfl, iteF ⟨rfl, i6, S6, by omega, kx5.trans kx6⟩⟩
                    · rintro σ G6 ⟨rfl, i6, S6, hi6, kx6⟩
                      clear S5 kx5 R5
                      have R6 := R3.keep kx6
                      obtain ⟨n6, L6⟩ := S6.pen
                      -- bent
                      refine ⟨fun σ G' => ∃ v15 v16 e1 e2, σ = [some (.ref sa), some (.ref p), x2, some (.ref bb), x4, some (.ref q), x6, x7, x8, x9, x10, x11, x12, x13, none, some v15, some v16, x17, some (.ref r), none] ∧ Dv K (cor p G') v15 e1 ∧ Dv K (cor p G') v16 e2 ∧ BentF e1 ∧ BentC e2 ∧ ∃ i', St TT p a ns i' G' ∧ i' ≤ i2 + 300 ∧ KX p G3 G', ?_, ?_⟩
                      · refine ⟨_, rfl, _, rfl, p, a, ns, i6, n6, .ref bb, fs, cs, rfl, L6, by omega, Dv.same cor_wod R6.pair, R6.road.wf, lf, lc, fun H7 u d e i7 n7 L7 hi7 kb7 hu7 bF bC => ?_⟩
                        obtain ⟨m, zs, rfl, hm, hz⟩ := hu7.tup_inv
                        obtain ⟨y1, y2, rfl, hy1, hy2⟩ := dvs_two hz
                        exact ⟨m, _, rfl, sqT_same wod_same hm, rfl, y1, _, rfl, y2, _, rfl, rfl, y1, y2, d, e, rfl, hy1.ofW, hy2.ofW, bF, bC, i7, S6.draw L7 kb7, by omega, kx6.trans kb7.kx⟩
                      · rintro σ G7 ⟨v15, v16, e1, e2, rfl, hv1, hv2, bF, bC, i7, S7, hi7, kx7⟩
                        clear S6 kx6 R6 L6
                        have sz2 := ((Sz.lst (.cons bF.sz (.cons bC.sz .nil))).mono (b' := 100000) (m' := 40) (by decide) (by decide)).fits (by decide) (by decide)
                        -- the text before
                        refine ⟨_, rfl, _, rfl, by show 2 ≤ sizeLine; decide, fun l8 hl8 => ?_⟩
                        have s8 : Same G7 (upd G7 l8 (.lst [v15, v16])) := sameN hl8
                        have hv1 := hv1.same (cor_same (p := p) s8)
                        have hv2 := hv2.same (cor_same (p := p) s8)
                        have S8 := S7.same s8
                        have kx8 := kx7.trans (KX.same s8)
                        refine ⟨.ref l8, .list [e1, e2], rfl, .lst (SqL.of upd_same) (.cons (hv1.same cor_le) (.cons (hv2.same cor_le) .nil)), sz2.1, sz2.2.1, sz2.2.2, ?_⟩
                        generalize upd G7 l8 (.lst [v15, v16]) = G8 at hv1 hv2 S8 kx8 ⊢
                        clear S7 kx7 s8
                        -- whether it may be
                        refine ⟨fun σ G' => (∃ b, σ = [some (.ref sa), some (.ref p), x2, some (.ref bb), x4, some (.ref q), x6, x7, x8, x9, some (.str (PyData.list [e1, e2]).shown), some (.bl b), x12, x13, none, some v15, some v16, x17, some (.ref r), none] ∧ (b = true → ∃ gs ls, AreF e1 gs ∧ AreC e2 ls) ∧ (b = false → (∀ gs, ¬ AreF e1 gs) ∨ ∀ ls, ¬ AreC e2 ls)) ∧ Same G8 G', ?_, ?_⟩
                        · have lenF := bF.len
                          have lenC := bC.len
                          refine ⟨_, rfl, v15, e1, rfl, hv1.same cor_le, bF.parts, by omega, fun H9 s9 => ⟨fun z => ⟨_, rfl, ?_⟩, fun gs hgs => ⟨_, rfl, ?_⟩⟩⟩
                          · exact iteF ⟨⟨false, rfl, (fun z => Bool.noConfusion z), fun _ => .inl z⟩, s9⟩
                          · refine iteT ⟨_, rfl, v16, e2, rfl, (hv2.same cor_le).same s9, bC.parts, by omega, fun H10 s10 => ⟨fun z => ?_, fun ls hls => ?_⟩⟩
                            · exact ⟨⟨false, rfl, (fun z => Bool.noConfusion z), fun _ => .inr z⟩, s9.trans s10⟩
                            · exact ⟨⟨true, rfl, (fun _ => ⟨gs, ls, hgs, hls⟩), fun z => Bool.noConfusion z⟩, s9.trans s10⟩
                        · rintro σ G9 ⟨⟨b, rfl, due1, due2⟩, s9⟩
                          have hv1 := hv1.same (cor_same (p := p) s9)
                          have hv2 := hv2.same (cor_same (p := p) s9)
                          have S9 := S8.same s9
                          have kx9 := kx8.trans (KX.same s9)
                          clear S8 kx8 s9
                          -- the road
                          refine ⟨fun σ G' => St TT p a ns i7 G' ∧ KX p G9 G' ∧ ((b = false ∧ σ = [some (.ref sa), some (.ref p), x2, some (.ref bb), x4, some (.ref q), x6, x7, x8, x9, some (.str (PyData.list [e1, e2]).shown), some (.bl b), some (.str "road"), some .non, none, some v15, some v16, x17, some (.ref r), none]) ∨
                            (b = true ∧ ∃ y gs ls, AreF e1 gs ∧ AreC e2 ls ∧ σ = [some (.ref sa), some (.ref p), x2, some (.ref bb), x4, some (.ref q), x6, x7, x8, x9, some (.str (PyData.list [e1, e2]).shown), some (.bl b), some (.str ""), some (.ref y), none, some v15, some v16, x17, some (.ref r), none] ∧ RoadAt P w K C G' y gs ls)), ?_, ?_⟩
                          · refine ⟨S9.all, fun H10 x10' t10 H0' s10 E1 Q1 he hq1 => ?_⟩
                            have kx10 : KX p G9 H0' := (KX.ext x10').trans (KX.same s10)
                            refine ⟨_, rfl, _, rfl, ?_⟩
                            dsimp only [tNil, tCons]
                            refine mk_roadA TR ((hv1.same kx10.cor).same cor_le) ((hv2.same kx10.cor).same cor_le) (by have := bF.len; have := bC.len; omega) (fun gs ls hgs hls H11 y s11 hy11 RR11 => ?_) fun z H11 s11 => ?_
                            · have hb : b = true := by
                                cases b with
                                | true => rfl
                                | false =>
                                  rcases due2 rfl with z | z
                                  · exact absurd hgs (z gs)
                                  · exact absurd hls (z ls)
                              refine hq1 _ _ fun H12 t s12 ht12 et => ?_
                              have s05 := s10.trans (s11.trans s12)
                              exact ⟨t, _, rfl, SqT.of et, rfl, .str "", _, rfl, .ref y, _, rfl, rfl, (S9.ext x10' t10).same s05, (KX.ext x10').trans (KX.same s05), .inr ⟨hb, y, gs, ls, hgs, hls, rfl, RR11.same s12⟩⟩
                            · have hb : b = false := by
                                cases b with
                                | false => rfl
                                | true =>
                                  obtain ⟨gs, ls, hgs, hls⟩ := due1 rfl
                                  rcases z with z | z
                                  · exact absurd hgs (z gs)
                                  · exact absurd hls (z ls)
                              refine he 0 _ (by decide) fun H12 t s12 ht12 et => ?_
                              have s05 := s10.trans (s11.trans s12)
                              exact ⟨t, _, rfl, SqT.of et, rfl, .str "road", _, rfl, .non, _, rfl, rfl, (S9.ext x10' t10).same s05, (KX.ext x10').trans (KX.same s05), .inl ⟨hb, rfl⟩⟩
                          · rintro σ G10 ⟨S10, k10, hh⟩
                            have hv1 := hv1.same k10.cor
                            have hv2 := hv2.same k10.cor
                            have kx10 := kx9.trans k10
                            clear S9 kx9 k10
                            -- the word, and the lists as they were
                            refine ⟨fun σ G' => Same G10 G' ∧ ((b = false ∧ σ = [some (.ref sa), some (.ref p), x2, some (.ref bb), x4, some (.ref q), x6, x7, x8, x9, some (.str (PyData.list [e1, e2]).shown), some (.bl b), some (.str "road"), some .non, none, some v15, some v16, x17, some (.ref r), none]) ∨
                              (b = true ∧ ∃ y gs ls, AreF e1 gs ∧ AreC e2 ls ∧ σ = [some (.ref sa), some (.ref p), x2, some (.ref bb), x4, some (.ref q), x6, x7, x8, x9, some (.str (PyData.list [e1, e2]).shown), some (.bl b), some (.str ""), some (.ref y), none, some v15, some v16, x17, some (.ref r), none] ∧ RoadAt P w K C G' y gs ls)), ?_, ?_⟩
                            · rcases hh with ⟨rfl, rfl⟩ | ⟨rfl, y, gs, ls, hgs, hls, rfl, R11⟩
                              · refine ⟨_, rfl, _, rfl, _, rfl, iteF ⟨rfl, _, rfl, iteNb (by simp) ?_⟩⟩
                                refine ⟨_, rfl, _, rfl, by show 2 ≤ sizeLine; decide, fun l9 hl9 => ?_⟩
                                have s11 : Same G10 (upd G10 l9 (.lst [v15, v16])) := sameN hl9
                                exact ⟨.ref l9, .list [e1, e2], rfl, .lst (SqL.of upd_same) (.cons ((hv1.same cor_le).same s11) (.cons ((hv2.same cor_le).same s11) .nil)), sz2.1, sz2.2.1, sz2.2.2, _, rfl, rfl, _, rfl, iteNb (by simp) ⟨s11, .inl ⟨rfl, rfl⟩⟩⟩
                              · refine ⟨_, rfl, _, rfl, _, rfl, iteT ⟨rfl, _, rfl, iteNb (by simp) ?_⟩⟩
                                refine ⟨_, rfl, _, rfl, by show 2 ≤ sizeLine; decide, fun l9 hl9 => ?_⟩
                                have s11 : Same G10 (upd G10 l9 (.lst [v15, v16])) := sameN hl9
                                exact ⟨.ref l9, .list [e1, e2], rfl, .lst (SqL.of upd_same) (.cons ((hv1.same cor_le).same s11) (.cons ((hv2.same cor_le).same s11) .nil)), sz2.1, sz2.2.1, sz2.2.2, _, rfl, rfl, _, rfl, iteNb (by simp) ⟨s11, .inr ⟨rfl, y, gs, ls, hgs, hls, rfl, R11.same s11⟩⟩⟩
                            · rintro σ G11 ⟨s11, hh⟩
                              have hv1 := hv1.same (cor_same (p := p) s11)
                              have hv2 := hv2.same (cor_same (p := p) s11)
                              have S11 := S10.same s11
                              have kx11 := kx10.trans (KX.same s11)
                              clear S10 kx10 s11
                              refine ⟨fun σ G' => (∃ x11 x12 x13, σ = [some (.ref sa), some (.ref p), x2, some (.ref bb), x4, some (.ref q), x6, x7, x8, x9, some (.str (PyData.list [e1, e2]).shown), x11, x12, x13, none, some v15, some v16, x17, some (.ref r), none]) ∧ Same G11 G', ?_, ?_⟩
                              · rcases hh with ⟨rfl, rfl⟩ | ⟨rfl, y, gs, ls, hgs, hls, rfl, R11⟩
                                · exact ⟨_, rfl, _, rfl, iteF ⟨⟨_, _, _, rfl⟩, Same.refl _⟩⟩
                                · refine ⟨_, rfl, _, rfl, iteT ⟨_, rfl, _, rfl, _, rfl, by show 2 ≤ sizeLine; decide, fun t ht => ?_⟩⟩
                                  have st : Same G11 (upd G11 t (.tup [v15, v16])) := sameN ht
                                  obtain ⟨rfl, _⟩ := id hgs
                                  obtain ⟨rfl, _⟩ := id hls
                                  refine ⟨y, .ref t, gs, ls, rfl, R11.same st, .tup (SqT.of upd_same) (.cons ((hv1.same cor_le).same st) (.cons ((hv2.same cor_le).same st) .nil)), fun G12 s12 => ?_⟩
                                  exact ⟨_, rfl, iteF ⟨⟨_, _, _, rfl⟩, st.trans s12⟩⟩
                              · rintro σ G12 ⟨⟨x11, x12, x13, rfl⟩, s12⟩
                                have S12 := S11.same s12
                                have kx12 := kx11.trans (KX.same s12)
                                have R12 := R3.keep kx12
                                refine ⟨_, rfl, _, rfl, p, a, ns, i7, .ref bb, fs, cs, rfl, S12, by omega, R12.pair, R12.road.wf, lf, lc, fun H13 i13 S13 hi13 kx13 => ?_⟩
                                exact ⟨_, rfl, iteF ⟨⟨_, _, _, _, _, _, _, rfl⟩, i13, S13, by omega, kx12.trans kx13⟩⟩
                · rintro σ G4 ⟨⟨x4', x6', x7', x8', x9', x10', x11', x12', x13', x15', x16', x17', rfl⟩, i4, S4, hi4, R4, Q4⟩
                  clear S3 R3 Q3
                  -- what it shows, and that it is the same
                  have R5 : RoadAt P w K C G4 r fs cs := R4.road.same cor_le
                  refine ⟨_, rfl, _, rfl, r, .ref bb, fs, cs, rfl, R5, Dv.same cor_le R4.pair, fun H5 s5 => ⟨_, rfl, iteF ?_⟩⟩
                  have Ra := R5.same s5
                  have Rb : RoadAt P w K C H5 q fs cs := (Q4.same cor_le).same s5
                  obtain ⟨dxa, fla, _, _, _, qa, _⟩ := id Ra.ex
                  obtain ⟨dxb, flb, _, _, _, qb, _⟩ := id Rb.ex
                  have eqq : (decide (sortT fs = sortT fs) && decide (sortT cs = sortT cs)) = true := by
                    rw [decide_eq_true rfl, decide_eq_true rfl]
                    rfl
                  refine ⟨_, rfl, _, rfl, r, q, dxa, dxb, fla, flb, rfl, rfl, qa, qb, r, .ref q, fs, cs, rfl, Ra, .inl ⟨q, fs, cs, rfl, Rb, _, rfl, ?_⟩⟩
                  rw [eqq]
                  refine ⟨_, rfl, iteNb rfl ?_⟩
                  have k5 : KX p G4 H5 := KX.same s5
                  have S5 := S4.same s5
                  have P5 : PairR K H5 (.ref bb) fs cs := (Dv.same cor_le R4.pair).same s5
                  refine ⟨_, rfl, _, rfl, r, .ref bb, fs, cs, rfl, Ra, P5, lf, lc, fun H6 s6 => ⟨_, rfl, iteF ?_⟩⟩
                  have S6 := S5.same s6
                  have R6 := Ra.same s6
                  have P6 : PairR K H6 (.ref bb) fs cs := P5.same s6
                  clear S5 Ra P5 qa qb k5 Rb R5 S4 R4 Q4
                  obtain ⟨bb', x0, y0, e, hb, h1, h2⟩ := P6.inv
                  cases e
                  obtain ⟨bx', xs', rfl, hbx', hx'⟩ := h1.lst_inv
                  refine ⟨_, rfl, _, rfl, _, rfl, bb, _, 0, _, rfl, rfl, hb, atI_nat (j := 0) rfl, by show 4 ≤ sizeLine; decide, fun l hl => ?_⟩
                  have s7 : Same H6 (upd H6 l (.lst [.non, .int 0, .ref bb, .ref bx'])) := sameN hl
                  have R7 := R6.same s7
                  obtain ⟨dxa, fla, _, _, _, qa, _⟩ := id R7.ex
                  refine ⟨r, dxa, fla, l, _, rfl, rfl, qa, upd_same, fun v hv => ?_, fun H8 s8 => ⟨_, rfl, iteNb rfl ⟨⟨_, _, _, _, _, _, _, _, _, _, _, _, _, _, _, _, rfl⟩, i4, (S6.same s7).same s8, by omega⟩⟩⟩
                  have dv : ∃ d, Dv K (upd H6 l (.lst [.non, .int 0, .ref bb, .ref bx'])) v d ∧ PySem.W.kitOne K (.type (tyD d)) (.ref C) = some false ∧ Oth K (upd H6 l (.lst [.non, .int 0, .ref bb, .ref bx'])) v := by
                    simp only [List.mem_cons, List.not_mem_nil, or_false] at hv
                    rcases hv with rfl | rfl | rfl | rfl
                    · exact ⟨.none, .non, KO.none, .inl rfl⟩
                    · exact ⟨.int 0, .int 0, KO.int, .inr (.inl ⟨0, rfl⟩)⟩
                    · exact ⟨_, P6.same s7, KO.tuple, .inr (.inr (.inl ⟨bb, _, rfl, sqT_same s7 hb⟩))⟩
                    · exact ⟨_, h1.same s7, KO.list, .inr (.inr (.inr ⟨bx', _, rfl, s7.seq hbx'⟩))⟩
                  obtain ⟨d, hd, kd, oth⟩ := dv
                  exact ⟨oth, fun H8 e8 => ⟨r, v, fs, cs, rfl, R7.same e8, .inr ⟨_, (hd.same e8).ty, kd, rfl, Ext.rfl'⟩⟩⟩
        · rcases z with z | z
          · exact (z fs ⟨rfl, okf, fne, fnd⟩).elim
          · exact (z cs ⟨rfl, okc, cnd⟩).elim
      · rcases z with z | z
        · exact (z _ arF).elim
        · exact (z _ arC).elim
    · rintro σ G ⟨⟨x2, x3, x4, x5, x6, x7, x8, x9, x10, x11, x12, x13, x15, x16, x17, x18, rfl⟩, i, S, hi⟩
      obtain ⟨n, L⟩ := S.pen
      refine ⟨rfl, fun H1 fa yf s1 hfa hf1 tp => ?_⟩
      have L1 := L.same s1
      refine ⟨_, rfl, p, a, ns, i, n, 25, rfl, L1, by omega, by decide, by decide, fun d i2 n2 H2 d0 du L2 hi2 kb2 => ?_⟩
      have nfp : fa ≠ p := (ne_of_none L.hp hfa).symm
      have hf2 : H2 fa = some (.lst yf) := kb2 _ _ nfp hf1
      have dv0 : DvAll K (wod p H1) yf (figs.map Datum.toD) := by
        have z := tups_dv (K := K) (tp.keep (H' := wod p H1) fun b xs e => by rw [wod_ne (ne_of e L1.hp (fun z => nomatch z))]; exact e)
        exact z
      have dv2 := (dv0.same (KB.wo kb2)).same wod_same
      have ly := dv0.len
      rw [List.length_map, figs_len] at ly
      refine ⟨_, rfl, fa, yf, rfl, SqL.of hf2, fun k1 hk1 => ?_⟩
      have t1 : Same H2 (upd H2 k1 (.lst (cutV yf (some d) none))) := sameN hk1
      have e1 : (upd H2 k1 (.lst (cutV yf (some d) none))) k1 = some (.lst (cutV yf (some d) none)) := upd_same
      rw [cut_from d0] at t1 e1 ⊢
      generalize upd H2 k1 (.lst (yf.drop d.toNat)) = H3 at t1 e1 ⊢
      refine ⟨_, rfl, k1, _, rfl, SqL.of e1, fun k2 hk2 => ?_⟩
      have t2 : Same H3 (upd H3 k2 (.lst (cutV (yf.drop d.toNat) none (some 12)))) := sameN hk2
      have e2 : (upd H3 k2 (.lst (cutV (yf.drop d.toNat) none (some 12)))) k2 = some (.lst (cutV (yf.drop d.toNat) none (some 12))) := upd_same
      rw [cut_to (by decide)] at t2 e2 ⊢
      have dv4 : DvAll K (upd H3 k2 (.lst ((yf.drop d.toNat).take (12 : Int).toNat))) ((yf.drop d.toNat).take (12 : Int).toNat) (((figs.drop d.toNat).take (12 : Int).toNat).map Datum.toD) := by
        rw [List.map_take, List.map_drop]
        exact dv_take _ (dv_drop _ (dv2.same (t1.trans t2)))
      generalize upd H3 k2 (.lst ((yf.drop d.toNat).take (12 : Int).toNat)) = H4 at t2 e2 dv4 ⊢
      have okg : ∀ f ∈ (figs.drop d.toNat).take (12 : Int).toNat, fOk f := fun f hf => figs_ok f (List.mem_of_mem_drop (List.mem_of_mem_take hf))
      have ndg : ((figs.drop d.toNat).take (12 : Int).toNat).Nodup := ((List.take_sublist _ _).trans (List.drop_sublist _ _)).nodup figs_nodup
      have lg : ((figs.drop d.toNat).take (12 : Int).toNat).length = min 12 (36 - d.toNat) := by
        rw [List.length_take, List.length_drop, figs_len]
        rfl
      generalize (figs.drop d.toNat).take (12 : Int).toNat = gs at dv4 okg ndg lg
      generalize (yf.drop d.toNat).take (12 : Int).toNat = zs at e2 dv4
      have lg12 : gs.length ≤ 12 := by omega
      have gne : gs ≠ [] := fun e => by
        rw [e] at lg
        simp only [List.length_nil] at lg
        omega
      have arG : AreF (.list (gs.map Datum.toD)) gs := ⟨rfl, okg, gne, ndg⟩
      have lD : lenD (.list (gs.map Datum.toD)) = gs.length := List.length_map ..
      -- the full road
      refine ⟨_, rfl, .ref k2, .list (gs.map Datum.toD), rfl, .lst (SqL.of e2) dv4, by omega, fun fs hfs H5 y s5 hy5 RR => ?_, fun z _ _ => (z gs arG).elim⟩
      rw [areF_eq hfs arG] at RR
      refine ⟨_, rfl, _, rfl, .ref k2, gs, rfl, (Dv.lst (SqL.of e2) dv4).same s5, lg12, fun H6 q6 z6 s6 hq6 hz6 dz6 => ?_⟩
      refine ⟨by show 2 ≤ sizeLine; decide, fun t ht => ?_⟩
      have st : Same H6 (upd H6 t (.tup [.ref k2, .ref q6])) := sameN ht
      have s7 := s6.trans st
      exact ⟨y, .ref t, gs, allCh gs, rfl, RR.same s7, .tup (SqT.of upd_same) (.cons ((Dv.lst (SqL.of e2) dv4).same (s5.trans s7)) (.cons (.lst (SqL.of (st _ _ hz6)) ((dz6.same wod_same).same st)) .nil)), fun H7 s8 => k H7⟩
end
end Own
/-! The end for a law that shows data and makes lambdas: the script and the tables are all that is tracked at the call. -/
namespace Own
open PySem PySem.Spec PyProof.Rows L2
/-- the heap that is tracked at the law's call -/
def atLaw (K : PySem.W.Frag) (a : Addr) (os : Obj) (ns : List Int) (T : List Addr) : Hp := fun b =>
  if b ∈ T then some (.tbl #[]) else if b = a ∧ K.lookup a = none then some (.frz os (.lst (ns.map V.int))) else none
section
variable {K : PySem.W.Frag} {a : Addr} {os : Obj} {ns : List Int} {T : List Addr}
theorem atLaw_tab {b : Addr} (h : b ∈ T) : atLaw K a os ns T b = some (.tbl #[]) := if_pos h
theorem atLaw_inv {b : Addr} {o : HO} (h : atLaw K a os ns T b = some o) : (b ∈ T ∧ o = .tbl #[]) ∨ (b = a ∧ K.lookup a = none ∧ o = .frz os (.lst (ns.map V.int))) := by
  by_cases m : b ∈ T
  · rw [atLaw_tab m] at h
    exact .inl ⟨m, (Option.some.inj h).symm⟩
  · by_cases e : b = a ∧ K.lookup a = none
    · have z : atLaw K a os ns T b = some (.frz os (.lst (ns.map V.int))) := (if_neg m).trans (if_pos e)
      rw [z] at h
      exact .inr ⟨e.1, e.2, (Option.some.inj h).symm⟩
    · have z : atLaw K a os ns T b = none := (if_neg m).trans (if_neg e)
      rw [z] at h
      cases h
theorem atLaw_none {b : Addr} (h1 : b ∉ T) (h2 : b ≠ a ∨ ∃ o, K.lookup b = some o) : atLaw K a os ns T b = none := by
  cases q : atLaw K a os ns T b with
  | none => rfl
  | some o =>
    rcases atLaw_inv q with ⟨m, _⟩ | ⟨e, n, _⟩
    · exact absurd m h1
    · rcases h2 with h2 | ⟨o, h2⟩
      · exact absurd e h2
      · rw [e, n] at h2
        cases h2
end
theorem law_gT {P : Program} {w : World} {K : PySem.W.Frag} {mg mb : Str → Option Value} {k : Nat} {fa a : Addr} {cs : List (Addr × Addr)} {fd : FuncData} {x : Str} {sp : Sp} {s₁ : Shared} {us : List Value} {ns : List Int}
    (KX : K.In s₁.heap) (hm : s₁.heap.Ns mainGlobals mg) (hb : s₁.heap.Ns builtinsNs mb) (hbb : ∀ y : Str, y ≠ "__name__" → mb y = bootBuiltins y) (hlim : s₁.heap.NoLimit) (hg : s₁.gens = #[])
    (tab : ∀ p ∈ cs, s₁.heap.get? p.2 = some { cls := .none, data := .fields #[] }) (ntab : ∀ p ∈ cs, K.lookup p.2 = none) (code : ∀ p ∈ cs, PySem.W.CodeHd s₁.heap p.1 p.2)
    (bmod : ∃ (bm : Addr) (ob : Obj), mg "__builtins__" = some (.ref bm) ∧ bm ≠ builtinsNs ∧ s₁.heap.get? bm = some ob ∧ ob.cls = .type "module" ∧ ob.dict = some builtinsNs ∧ ob.data = .plain)
    (ha : s₁.heap.get? a = some { cls := .type "list", data := .seq us.toArray }) (hi : IntsAre us ns) (hl : ns.length ≤ sizeLine) (hr : Room k callerA)
    (F : ∀ base : Heap, K.In base → base.Ns mainGlobals mg → (∀ p ∈ cs, LamX.TabB base mg p.1 p.2) → GFn P w K mg base CX0 k fa fd [x] sp) (hbind : ∀ (s : Shared) (u : Value), BindsTo s fd ⟨[u], []⟩ [(x, u)])
    (hsp : ∀ H : Hp, (∀ p ∈ cs, H p.2 = some (.tbl #[])) → SqL K H a (ns.map V.int) → sp [.ref a] H (fun v _ => v = .bl true) fun _ _ _ => False) :
    codeAny (model P w) callerA (.call (.ref fa) ⟨[.ref a], []⟩) (fun r s' => r = .ok (.ret (.bool true)) ∧ PySem.OldK s₁.heap s'.heap ∧ s'.os = s₁.os ∧ AllBare s'.gens) s₁ := by
  have rv := vals_ints hi
  obtain ⟨T, eT⟩ : ∃ T, T = cs.map (·.2) := ⟨_, rfl⟩
  have inT : ∀ p ∈ cs, p.2 ∈ T := fun p hp => by rw [eT]; exact List.mem_map.mpr ⟨p, hp, rfl⟩
  have ofT : ∀ b ∈ T, ∃ p ∈ cs, p.2 = b := fun b hb => by rw [eT] at hb; exact List.mem_map.mp hb
  have getT : ∀ b ∈ T, s₁.heap.get? b = some { cls := .none, data := .fields #[] } := fun b hb => by
    obtain ⟨p, hp, rfl⟩ := ofT b hb
    exact tab p hp
  have aT : a ∉ T := fun z => by
    have q := getT a z
    rw [ha] at q
    have q2 := congrArg Obj.data (Option.some.inj q)
    cases q2
  -- what is tracked is no dict, no filled record, no plain thing
  obtain ⟨H, eH⟩ : ∃ H, H = atLaw K a { cls := .type "list", data := .seq us.toArray } ns T := ⟨_, rfl⟩
  have free : ∀ {b : Addr} {o : Obj}, s₁.heap.get? b = some o → (∀ vs n, o.data ≠ .seq vs n) → o.data ≠ .fields #[] → H b = none := fun {b o} e n1 n2 => by
    rw [eH]
    refine atLaw_none (fun m => ?_) (.inl fun z => ?_)
    · rw [getT b m] at e
      cases e
      exact n2 rfl
    · rw [z, ha] at e
      cases e
      exact n1 _ _ rfl
  have freeD : ∀ {b : Addr} {o : Obj} {es : Array DictEntry} {ep : Nat}, s₁.heap.get? b = some o → o.data = .dict es ep → H b = none := fun e d => free e (fun vs n z => by rw [d] at z; cases z) fun z => by rw [d] at z; cases z
  have freeK : ∀ {b : Addr} {o : Obj}, K.lookup b = some o → H b = none := fun {b o} e => by
    rw [eH]
    refine atLaw_none (fun m => ?_) (.inr ⟨o, e⟩)
    obtain ⟨p, hp, rfl⟩ := ofT b m
    rw [ntab p hp] at e
    cases e
  have tabs : ∀ p ∈ cs, H p.2 = some (.tbl #[]) := fun p hp => by rw [eH]; exact atLaw_tab (inT p hp)
  have seq : SqL K H a (ns.map V.int) := by
    cases q : K.lookup a with
    | none => exact .inl (.inr ⟨_, by rw [eH]; exact (if_neg aT).trans (if_pos ⟨rfl, q⟩)⟩)
    | some o =>
      have e := KX a o q
      rw [ha] at e
      cases e
      exact .inr ⟨_, us.toArray, _, q, rfl, rfl, rfl, by rw [List.size_toArray, hi.length]; exact hl, by simpa using rv⟩
  have hok : HOk P w H s₁.heap := fun b u z => by
    rw [eH] at z
    rcases atLaw_inv z with ⟨m, rfl⟩ | ⟨rfl, _, rfl⟩
    · exact getT b m
    · exact ⟨ha, by rw [List.length_map]; exact hl, us, _, rv, ha⟩
  have ns2 : ∀ {b : Addr} {m : Str → Option Value}, s₁.heap.Ns b m → (hidT s₁.heap H).Ns b m := fun {b m} h => by
    obtain ⟨o, es, ep, e, d, r⟩ := h
    exact ⟨o, es, ep, hidT_get e (freeD e d), d, r⟩
  have hK : K.In (hidT s₁.heap H) := fun b o e => hidT_get (KX b o e) (freeK e)
  have hM : L2.Mod K mg (hidT s₁.heap H) := ⟨hK, ns2 hm, ⟨mb, ns2 hb, hbb⟩, by
    obtain ⟨mc, h1, h2⟩ := hlim
    exact ⟨mc, ns2 h1, h2⟩⟩
  have noGl : ∀ {b : Addr} {o : Obj}, s₁.heap.get? b = some o → (∀ es ep, o.data ≠ .dict es ep) → b ≠ mainGlobals := fun e n z => by
    obtain ⟨o', es, ep, e', d, _⟩ := hm
    rw [z, e'] at e
    cases e
    exact n _ _ d
  have TB : ∀ p ∈ cs, LamX.TabB (hidT s₁.heap H) mg p.1 p.2 := fun p hp => by
    refine ⟨?_, ?_, (noGl (tab p hp) (fun _ _ z => nomatch z)).symm⟩
    · obtain ⟨o, vs, fl, tf, fg, tg, inF, tx, tt, e1, r1, r2, r3, rest⟩ := code p hp
      refine ⟨o, vs, fl, tf, fg, tg, inF, tx, tt, hidT_get e1 (free e1 (fun vs n z => ?_) fun z => ?_), r1, r2, r3, rest⟩
      · rw [r2] at z
        cases z
      · rw [r2] at z
        cases z
        simp at r3
    · obtain ⟨bm, ob, b1, b2, b3, b4, b5, b6⟩ := bmod
      refine ⟨bm, ob, b1, b2, noGl b3 (fun _ _ z => by rw [b6] at z; cases z), fun z => ?_, hidT_get b3 (free b3 (fun vs n z => by rw [b6] at z; cases z) fun z => by rw [b6] at z; cases z), b4, b5, b6⟩
      rw [z, tab p hp] at b3
      cases b3
      cases b6
  have e0 : Env0 P w K mg (hidT s₁.heap H) callerA [] s₁ H := ⟨rfl, hM, fun b o e => of_hidT e, Nat.le_of_eq (hidT_size _ _), trivial, (by simp [frs]), hok, .of_eq hg⟩
  refine codeAny_mono ((F _ hK (ns2 hm) TB).run callerA [] s₁ H ⟨[.ref a], []⟩ [.ref a] [.ref a] _ _ rfl hr e0 (hbind s₁ (.ref a)) (.cons rfl .nil) (hsp H tabs seq)) fun r s' h => ?_
  rcases r with e | fl
  · exact False.elim h
  cases fl with
  | next => exact False.elim h
  | brk => exact False.elim h
  | cont => exact False.elim h
  | ret u =>
    obtain ⟨v, H', os, bare, un, hok', r', q⟩ := h
    obtain rfl : v = .bl true := q
    obtain rfl : u = Value.bool true := r'
    have old : ∀ b o, b ∉ T → s₁.heap.get? b = some o → s'.heap.get? b = some o := fun b o nb e => by
      cases z : H b with
      | none => exact un.keep b o e z (by simp [frs]) (by simp)
      | some y =>
        have z2 := z
        rw [eH] at z2
        rcases atLaw_inv z2 with ⟨m, _⟩ | ⟨rfl, _, rfl⟩
        · exact absurd m nb
        · rw [ha] at e
          cases e
          exact (hok' _ _ (un.frzs _ _ _ z)).1
    have grown : ∀ p ∈ cs, ∃ more : Array Value, s'.heap.get? p.2 = some { cls := .none, data := .fields more } := fun p hp => by
      obtain ⟨more, z⟩ := un.tbls p.2 #[] (tabs p hp)
      exact ⟨_, hok' p.2 _ z⟩
    refine ⟨rfl, ⟨fun b o e => ?_, fun b o e => ?_⟩, os, bare⟩
    · by_cases m : b ∈ T
      · obtain ⟨p, hp, rfl⟩ := ofT b m
        obtain ⟨more, z⟩ := grown p hp
        rw [tab p hp] at e
        cases e
        exact .inr (.inl ⟨((code p hp).tab (tab p hp)).isCodeTable, rfl, #[], more, rfl, by rw [Array.empty_append]; exact z⟩)
      · exact .inl (old b o m e)
    · by_cases m : b ∈ T
      · obtain ⟨p, hp, rfl⟩ := ofT b m
        obtain ⟨more, z⟩ := grown p hp
        exact ⟨_, z⟩
      · exact ⟨o, old b o m e⟩
/-- the end, where the written part is chosen at the law's call -/
theorem walk_gT {l : PySem.W.OpenLaw} {n k : Nat} {q : Program} {loose : List Str} {XP : (Str → Option Value) → Heap → Prop} {YP : World → Heap → Prop} {d : DefRec} {x : Str}
    (hn : l.most = some n) (hn2 : n ≤ sizeLine) (hdf : d.params.defaults = []) (hr : Room k callerA)
    (F : ∀ (w : World) (mg : Str → Option Value) (fa : Addr) (h : Heap), YP w h → h.Ns mainGlobals mg → mg d.name = some (.ref fa) →
      ∃ (K : PySem.W.Frag) (fd : FuncData) (cs : List (Addr × Addr)) (sp : Sp), K.In h ∧ (∀ p ∈ cs, h.get? p.2 = some { cls := .none, data := .fields #[] }) ∧ (∀ p ∈ cs, K.lookup p.2 = none) ∧ (∀ p ∈ cs, PySem.W.CodeHd h p.1 p.2) ∧
        (∀ (s : Shared) (u : Value), BindsTo s fd ⟨[u], []⟩ [(x, u)]) ∧
        (∀ (H : Hp) (a : Addr) (ns : List Int), ns.length ≤ n → (∀ p ∈ cs, H p.2 = some (.tbl #[])) → SqL K H a (ns.map V.int) → sp [.ref a] H (fun v _ => v = .bl true) fun _ _ _ => False) ∧
        ∀ base : Heap, K.In base → base.Ns mainGlobals mg → (∀ p ∈ cs, LamX.TabB base mg p.1 p.2) → GFn l.prog w K mg base CX0 k fa fd [x] sp) :
    PySem.W.WalkO q loose XP YP l.row.toRowW d [] (fun f vs => PySem.call f vs) := by
  refine Att.attach_callB hn hdf fun w s₀ s₁ mg mb fa o pm cd doc a vs ns G Y ho hd hcd hmg hobj hints hlen hbits hg => ?_
  obtain ⟨K, fd, cs, sp, KX, hT, nT, C, hb, hsp, hF⟩ := F w mg fa _ Y G.T.g hmg
  exact law_gT KX G.T.g G.T.b G.T.builtins G.T.nolimit hg hT nT C G.T.bmain hobj hints (Nat.le_trans hlen hn2) hr hF hb fun H hH hS => hsp H a ns hlen hH hS
end Own
namespace Own
open PySem PySem.Spec PyProof.Rows L2
def bVE1 : List Value := [.type "ValueError", .type "Exception", .type "BaseException", .type "object"]
/-- what one error class must say -/
def chkE (K : PySem.W.Frag) (C : Addr) : Bool :=
  PySem.W.keepIn K (.ref C) && PySem.W.excIn K C bVE1 "ValueError.__new__" && (PySem.W.typeIn K (.ref C) == some (.type "type")) &&
  (PySem.W.findIn K (.ref C) "__getattribute__" == some (some (.builtin "BaseException.__getattribute__"))) && (PySem.W.findIn K (.ref C) "__getattr__" == some none) && (PySem.W.subIn K (.ref C) (.type "BaseException") == some true) &&
  PySem.W.hasDictIn K C && (PySem.W.findIn K (.ref C) "__class__" == some (some (.builtin "object.__class__"))) && (PySem.W.specialIn K (.builtin "object.__class__") "__get__" == some (some (.builtin "getset_descriptor.__get__"))) &&
  (PySem.W.takesIn K (.builtin "object.__class__") == some true) && (PySem.W.mroIn K C (.type "object") == some true) && (PySem.W.kitOne K (.ref C) (.type "ValueError") == some true) && (PySem.W.kitOne K (.type "NoneType") (.ref C) == some false)
theorem chkE_k {K : PySem.W.Frag} {C : Addr} (h : chkE K C = true) : PySem.W.keepIn K (.ref C) = true ∧ PySem.W.excIn K C bVE1 "ValueError.__new__" = true ∧ PySem.W.typeIn K (.ref C) = some (.type "type") ∧ ExcC K C ∧ PySem.W.kitOne K (.ref C) (.type "ValueError") = some true ∧ PySem.W.kitOne K (.type "NoneType") (.ref C) = some false := by
  unfold chkE at h
  simp only [Bool.and_eq_true, beq_iff_eq] at h
  obtain ⟨⟨⟨⟨⟨⟨⟨⟨⟨⟨⟨⟨h1, h2⟩, h3⟩, h4⟩, h5⟩, h6⟩, h7⟩, h8⟩, h9⟩, h10⟩, h11⟩, h12⟩, h13⟩ := h
  exact ⟨h1, h2, h3, ⟨h4, h5, h6, h7, h8, h9, h10, h11⟩, h12, h13⟩
def chkEs (K : PySem.W.Frag) (Cs : List Addr) (cE : Addr) : Bool :=
  (List.range Cs.length).all fun i => chkE K (Cs.getD i 0) && (PySem.W.exmOne K (.ref (Cs.getD i 0)) (.ref cE) == some true) && (List.range Cs.length).all fun j => PySem.W.kitOne K (.ref (Cs.getD i 0)) (.ref (Cs.getD j 0)) == some (decide (i = j))
theorem chkEs_k {K : PySem.W.Frag} {Cs : List Addr} {cE : Addr} (h : chkEs K Cs cE = true) {i : Nat} (hi : i < Cs.length) : chkE K (Cs.getD i 0) = true ∧ PySem.W.exmOne K (.ref (Cs.getD i 0)) (.ref cE) = some true ∧ ∀ j, j < Cs.length → PySem.W.kitOne K (.ref (Cs.getD i 0)) (.ref (Cs.getD j 0)) = some (decide (i = j)) := by
  have z := List.all_eq_true.mp h i (List.mem_range.mpr hi)
  rw [Bool.and_eq_true, Bool.and_eq_true, beq_iff_eq] at z
  exact ⟨z.1.1, z.1.2, fun j hj => beq_iff_eq.mp (List.all_eq_true.mp z.2 j (List.mem_range.mpr hj))⟩
theorem erC_of {K : PySem.W.Frag} {mg : Str → Option Value} {x : Str} {C : Addr} (g : mg x = some (.ref C)) (h : chkE K C = true) : ErC K mg x C := by
  obtain ⟨h1, h2, h3, h4, _, _⟩ := chkE_k h
  exact ⟨h2, g, h1, h4.hs, h3⟩
/-- what the class Road must say -/
def chkR (K : PySem.W.Frag) (C : Addr) : Bool :=
  PySem.W.plainGet K C Str.empty && PySem.W.hasDictIn K C && PySem.W.plainOver K C && (PySem.W.findIn K (.ref C) "__setattr__" == some (some (.builtin "object.__setattr__"))) &&
  (PySem.W.findIn K (.ref C) "_begin" == some none) && (PySem.W.findIn K (.ref C) "_changes" == some none) && (PySem.W.findIn K (.ref C) "_behind" == some none) &&
  (PySem.W.findIn K (.ref C) "__class__" == some (some (.builtin "object.__class__"))) && (PySem.W.specialIn K (.builtin "object.__class__") "__get__" == some (some (.builtin "getset_descriptor.__get__"))) &&
  (PySem.W.takesIn K (.builtin "object.__class__") == some true) && (PySem.W.mroIn K C (.type "object") == some true) && (PySem.W.kitOne K (.ref C) (.ref C) == some true) &&
  (PySem.W.findIn K (.ref C) "__ne__" == some (some (.builtin "object.__ne__"))) && PySem.W.makesIn K C && PySem.W.keepIn K (.ref C) &&
  (PySem.W.subIn K (.ref C) (.type "NoneType") == some false) && (PySem.W.subIn K (.ref C) (.type "int") == some false) && (PySem.W.subIn K (.ref C) (.type "tuple") == some false) && (PySem.W.subIn K (.ref C) (.type "list") == some false) &&
  (PySem.W.kitOne K (.type "NoneType") (.ref C) == some false) && (PySem.W.kitOne K (.type "int") (.ref C) == some false) && (PySem.W.kitOne K (.type "tuple") (.ref C) == some false) && (PySem.W.kitOne K (.type "list") (.ref C) == some false)
theorem chkR_k {K : PySem.W.Frag} {C : Addr} (h : chkR K C = true) : TRoad K C ∧ ClsO K C ∧ KitO K C ∧ PySem.W.findIn K (.ref C) "__ne__" = some (some (.builtin "object.__ne__")) ∧ PySem.W.makesIn K C = true ∧ PySem.W.keepIn K (.ref C) = true := by
  unfold chkR at h
  simp only [Bool.and_eq_true, beq_iff_eq] at h
  obtain ⟨⟨⟨⟨⟨⟨⟨⟨⟨⟨⟨⟨⟨⟨⟨⟨⟨⟨⟨⟨⟨⟨h1, h2⟩, h3⟩, h4⟩, h5⟩, h6⟩, h7⟩, h8⟩, h9⟩, h10⟩, h11⟩, h12⟩, h13⟩, h14⟩, h15⟩, h16⟩, h17⟩, h18⟩, h19⟩, h20⟩, h21⟩, h22⟩, h23⟩ := h
  exact ⟨⟨⟨h1, h2, h3, h4⟩, h5, h6, h7, h8, h9, h10, h11, h12⟩, ⟨h16, h17, h18, h19⟩, ⟨h20, h21, h22, h23⟩, h13, h14, h15⟩
/-- what its methods must say -/
def chkM (K : PySem.W.Frag) (fs : List Addr) : Bool := fs.all fun f => PySem.W.isFn K (.ref f) && PySem.W.keepIn K (.ref f)
theorem chkM_k {K : PySem.W.Frag} {fs : List Addr} (h : chkM K fs = true) {f : Addr} (hf : f ∈ fs) : PySem.W.isFn K (.ref f) = true ∧ PySem.W.keepIn K (.ref f) = true := by
  have z := List.all_eq_true.mp h f hf
  rwa [Bool.and_eq_true] at z
/-- what its properties must say -/
def chkP (K : PySem.W.Frag) (ps : List Addr) : Bool := ps.all fun p => (PySem.W.specialIn K (.ref p) "__get__" == some (some (.builtin "property.__get__"))) && (PySem.W.takesIn K (.ref p) == some true)
theorem chkP_k {K : PySem.W.Frag} {ps : List Addr} (h : chkP K ps = true) {p : Addr} (hp : p ∈ ps) : PySem.W.specialIn K (.ref p) "__get__" = some (some (.builtin "property.__get__")) ∧ PySem.W.takesIn K (.ref p) = some true := by
  have z := List.all_eq_true.mp h p hp
  rwa [Bool.and_eq_true, beq_iff_eq, beq_iff_eq] at z

theorem all_mk {w : World} {K : PySem.W.Frag} {h : Heap} {mg : Str → Option Value} {fa C f0 f1 f2 f3 f4 f5 f6 f7 f8 f9 f10 f11 f12 f13 f14 f15 f16 f17 f18 f19 f20 f21 f22 f23 f24 f25 f26 f27 f28 f29 g0 g1 g2 g3 g4 g5 g6 g7 pp1 pp2 pp3 a0 a1 a2 a3 cx0 t0 cx1 t1 cx2 t2 cx3 t3 : Addr} (X : K.In h) (tb : ∀ P ∈ [t2, t1, t0, t3], h.get? P = some (PySem.W.tabObj #[])) (G : h.Ns mainGlobals mg) (hfa : mg "law" = some (.ref fa))
    {od0 an0 od1 an1 od2 an2 od3 an3 od4 an4 od5 an5 od6 an6 od7 an7 od8 an8 od9 an9 od10 an10 od11 an11 od12 an12 od13 an13 od14 an14 od15 an15 od16 an16 od17 an17 od18 an18 od19 an19 od20 an20 od21 an21 od22 an22 od23 an23 od24 an24 od25 an25 od26 an26 od27 an27 od28 an28 od29 an29 ode0 ane0 ode1 ane1 ode2 ane2 ode3 ane3 ode4 ane4 ode5 ane5 ode6 ane6 ode7 ane7 : Option Addr} {sl0 sl1 sl2 sl3 sl4 sl5 sl6 sl7 sl8 sl9 sl10 sl11 sl12 sl13 sl14 sl15 sl16 sl17 sl18 sl19 sl20 sl21 sl22 sl23 sl24 sl25 sl26 sl27 sl28 sl29 sle0 sle1 sle2 sle3 sle4 sle5 sle6 sle7 : Array (Option Value)} {oc0 kV0 dc0 pm0 ct0 oc1 kV1 dc1 pm1 ct1 oc2 kV2 dc2 pm2 ct2 oc3 kV3 dc3 pm3 ct3 oc4 kV4 dc4 pm4 ct4 oc5 kV5 dc5 pm5 ct5 oc6 kV6 dc6 pm6 ct6 oc7 kV7 dc7 pm7 ct7 oc8 kV8 dc8 pm8 ct8 oc9 kV9 dc9 pm9 ct9 oc10 kV10 dc10 pm10 ct10 oc11 kV11 dc11 pm11 ct11 oc12 kV12 dc12 pm12 ct12 oc13 kV13 dc13 pm13 ct13 oc14 kV14 dc14 pm14 ct14 oc15 kV15 dc15 pm15 ct15 oc16 kV16 dc16 pm16 ct16 oc17 kV17 dc17 pm17 ct17 oc18 kV18 dc18 pm18 ct18 oc19 kV19 dc19 pm19 ct19 oc20 kV20 dc20 pm20 ct20 oc21 kV21 dc21 pm21 ct21 oc22 kV22 dc22 pm22 ct22 oc23 kV23 dc23 pm23 ct23 oc24 kV24 dc24 pm24 ct24 oc25 kV25 dc25 pm25 ct25 oc26 kV26 dc26 pm26 ct26 oc27 kV27 dc27 pm27 ct27 oc28 kV28 dc28 pm28 ct28 oc29 kV29 dc29 pm29 ct29 cd0 cd1 cd2 cd3 cd4 cd5 cd6 cd7 cd8 cd9 cd10 cd11 cd12 cd13 cd14 cd15 cd16 cd17 cd18 cd19 cd20 cd21 cd22 cd23 cd24 cd28 oce0 kVe0 dce0 pme0 cte0 cde0 oce1 kVe1 dce1 pme1 cte1 cde1 oce2 kVe2 dce2 pme2 cte2 cde2 oce3 kVe3 dce3 pme3 cte3 cde3 oce4 kVe4 dce4 pme4 cte4 cde4 oce5 kVe5 dce5 pme5 cte5 cde5 oce6 kVe6 dce6 pme6 cte6 cde6 oce7 kVe7 dce7 pme7 cte7 cde7 : Value} {re1 re2 re3 : List Value} {tw : Tok}
    (n0 : PySem.W.nsIn K mainGlobals "is_int" = some (some (.ref f0))) (l0 : K.lookup f0 = some ⟨oc0, od0, .func (PySem.W.fnOf "is_int" "is_int" (defArgs sInt) (defBody sInt) (defScope sInt) .none kV0 dc0 pm0 an0 cd0 ct0), sl0⟩) (c0 : PySem.W.codeIn K cd0 "is_int" = true) (k0_ : PySem.W.keepIn K (.ref f0) = true)
    (n1 : PySem.W.nsIn K mainGlobals "is_number" = some (some (.ref f1))) (l1 : K.lookup f1 = some ⟨oc1, od1, .func (PySem.W.fnOf "is_number" "is_number" (defArgs sNum) (defBody sNum) (defScope sNum) .none kV1 dc1 pm1 an1 cd1 ct1), sl1⟩) (c1 : PySem.W.codeIn K cd1 "is_number" = true) (k1_ : PySem.W.keepIn K (.ref f1) = true)
    (n2 : PySem.W.nsIn K mainGlobals "is_width" = some (some (.ref f2))) (l2 : K.lookup f2 = some ⟨oc2, od2, .func (PySem.W.fnOf "is_width" "is_width" (defArgs sWid) (defBody sWid) (defScope sWid) .none kV2 dc2 pm2 an2 cd2 ct2), sl2⟩) (c2 : PySem.W.codeIn K cd2 "is_width" = true) (k2_ : PySem.W.keepIn K (.ref f2) = true)
    (n3 : PySem.W.nsIn K mainGlobals "is_shape" = some (some (.ref f3))) (l3 : K.lookup f3 = some ⟨oc3, od3, .func (PySem.W.fnOf "is_shape" "is_shape" (defArgs sShp) (defBody sShp) (defScope sShp) .none kV3 dc3 pm3 an3 cd3 ct3), sl3⟩) (c3 : PySem.W.codeIn K cd3 "is_shape" = true) (k3_ : PySem.W.keepIn K (.ref f3) = true)
    (n4 : PySem.W.nsIn K mainGlobals "is_change" = some (some (.ref f4))) (l4 : K.lookup f4 = some ⟨oc4, od4, .func (PySem.W.fnOf "is_change" "is_change" (defArgs sIsC) (defBody sIsC) (defScope sIsC) .none kV4 dc4 pm4 an4 cd4 ct4), sl4⟩) (c4 : PySem.W.codeIn K cd4 "is_change" = true) (k4_ : PySem.W.keepIn K (.ref f4) = true)
    (n5 : PySem.W.nsIn K mainGlobals "are_shapes" = some (some (.ref f5))) (l5 : K.lookup f5 = some ⟨oc5, od5, .func (PySem.W.fnOf "are_shapes" "are_shapes" (defArgs sArS) (defBody sArS) (defScope sArS) .none kV5 dc5 pm5 an5 cd5 ct5), sl5⟩) (c5 : PySem.W.codeIn K cd5 "are_shapes" = true) (k5_ : PySem.W.keepIn K (.ref f5) = true)
    (n6 : PySem.W.nsIn K mainGlobals "are_changes" = some (some (.ref f6))) (l6 : K.lookup f6 = some ⟨oc6, od6, .func (PySem.W.fnOf "are_changes" "are_changes" (defArgs sArC) (defBody sArC) (defScope sArC) .none kV6 dc6 pm6 an6 cd6 ct6), sl6⟩) (c6 : PySem.W.codeIn K cd6 "are_changes" = true) (k6_ : PySem.W.keepIn K (.ref f6) = true)
    (n7 : PySem.W.nsIn K mainGlobals "shapes_behind" = some (some (.ref f7))) (l7 : K.lookup f7 = some ⟨oc7, od7, .func (PySem.W.fnOf "shapes_behind" "shapes_behind" (defArgs sBeh) (defBody sBeh) (defScope sBeh) .none kV7 dc7 pm7 an7 cd7 ct7), sl7⟩) (c7 : PySem.W.codeIn K cd7 "shapes_behind" = true) (k7_ : PySem.W.keepIn K (.ref f7) = true)
    (n8 : PySem.W.nsIn K mainGlobals "full_road" = some (some (.ref f8))) (l8 : K.lookup f8 = some ⟨oc8, od8, .func (PySem.W.fnOf "full_road" "full_road" (defArgs sFul) (defBody sFul) (defScope sFul) .none kV8 dc8 pm8 an8 cd8 ct8), sl8⟩) (c8 : PySem.W.codeIn K cd8 "full_road" = true) (k8_ : PySem.W.keepIn K (.ref f8) = true)
    (n9 : PySem.W.nsIn K mainGlobals "_law_pen" = some (some (.ref f9))) (l9 : K.lookup f9 = some ⟨oc9, od9, .func (PySem.W.fnOf "_law_pen" "_law_pen" (defArgs sPen) (defBody sPen) (defScope sPen) .none kV9 dc9 pm9 an9 cd9 ct9), sl9⟩) (c9 : PySem.W.codeIn K cd9 "_law_pen" = true) (k9_ : PySem.W.keepIn K (.ref f9) = true)
    (n10 : PySem.W.nsIn K mainGlobals "_law_next" = some (some (.ref f10))) (l10 : K.lookup f10 = some ⟨oc10, od10, .func (PySem.W.fnOf "_law_next" "_law_next" (defArgs sNext) (defBody sNext) (defScope sNext) .none kV10 dc10 pm10 an10 cd10 ct10), sl10⟩) (c10 : PySem.W.codeIn K cd10 "_law_next" = true) (k10_ : PySem.W.keepIn K (.ref f10) = true)
    (n11 : PySem.W.nsIn K mainGlobals "_law_draw" = some (some (.ref f11))) (l11 : K.lookup f11 = some ⟨oc11, od11, .func (PySem.W.fnOf "_law_draw" "_law_draw" (defArgs sDraw) (defBody sDraw) (defScope sDraw) .none kV11 dc11 pm11 an11 cd11 ct11), sl11⟩) (c11 : PySem.W.codeIn K cd11 "_law_draw" = true) (k11_ : PySem.W.keepIn K (.ref f11) = true)
    (n12 : PySem.W.nsIn K mainGlobals "_law_some" = some (some (.ref f12))) (l12 : K.lookup f12 = some ⟨oc12, od12, .func (PySem.W.fnOf "_law_some" "_law_some" (defArgs sSom) (defBody sSom) (defScope sSom) .none kV12 dc12 pm12 an12 cd12 ct12), sl12⟩) (c12 : PySem.W.codeIn K cd12 "_law_some" = true) (k12_ : PySem.W.keepIn K (.ref f12) = true)
    (n13 : PySem.W.nsIn K mainGlobals "_law_figures" = some (some (.ref f13))) (l13 : K.lookup f13 = some ⟨oc13, od13, .func (PySem.W.fnOf "_law_figures" "_law_figures" (defArgs sFgs) (defBody sFgs) (defScope sFgs) .none kV13 dc13 pm13 an13 cd13 ct13), sl13⟩) (c13 : PySem.W.codeIn K cd13 "_law_figures" = true) (k13_ : PySem.W.keepIn K (.ref f13) = true)
    (n14 : PySem.W.nsIn K mainGlobals "_law_is_figure" = some (some (.ref f14))) (l14 : K.lookup f14 = some ⟨oc14, od14, .func (PySem.W.fnOf "_law_is_figure" "_law_is_figure" (defArgs sIsF) (defBody sIsF) (defScope sIsF) .none kV14 dc14 pm14 an14 cd14 ct14), sl14⟩) (c14 : PySem.W.codeIn K cd14 "_law_is_figure" = true) (k14_ : PySem.W.keepIn K (.ref f14) = true)
    (n15 : PySem.W.nsIn K mainGlobals "_law_are_figures" = some (some (.ref f15))) (l15 : K.lookup f15 = some ⟨oc15, od15, .func (PySem.W.fnOf "_law_are_figures" "_law_are_figures" (defArgs sLaf) (defBody sLaf) (defScope sLaf) .none kV15 dc15 pm15 an15 cd15 ct15), sl15⟩) (c15 : PySem.W.codeIn K cd15 "_law_are_figures" = true) (k15_ : PySem.W.keepIn K (.ref f15) = true)
    (n16 : PySem.W.nsIn K mainGlobals "_law_is_change" = some (some (.ref f16))) (l16 : K.lookup f16 = some ⟨oc16, od16, .func (PySem.W.fnOf "_law_is_change" "_law_is_change" (defArgs sLic) (defBody sLic) (defScope sLic) .none kV16 dc16 pm16 an16 cd16 ct16), sl16⟩) (c16 : PySem.W.codeIn K cd16 "_law_is_change" = true) (k16_ : PySem.W.keepIn K (.ref f16) = true)
    (n17 : PySem.W.nsIn K mainGlobals "_law_are_changes" = some (some (.ref f17))) (l17 : K.lookup f17 = some ⟨oc17, od17, .func (PySem.W.fnOf "_law_are_changes" "_law_are_changes" (defArgs sLac) (defBody sLac) (defScope sLac) .none kV17 dc17 pm17 an17 cd17 ct17), sl17⟩) (c17 : PySem.W.codeIn K cd17 "_law_are_changes" = true) (k17_ : PySem.W.keepIn K (.ref f17) = true)
    (n18 : PySem.W.nsIn K mainGlobals "_law_all_changes" = some (some (.ref f18))) (l18 : K.lookup f18 = some ⟨oc18, od18, .func (PySem.W.fnOf "_law_all_changes" "_law_all_changes" (defArgs sAll) (defBody sAll) (defScope sAll) .none kV18 dc18 pm18 an18 cd18 ct18), sl18⟩) (c18 : PySem.W.codeIn K cd18 "_law_all_changes" = true) (k18_ : PySem.W.keepIn K (.ref f18) = true)
    (n19 : PySem.W.nsIn K mainGlobals "_law_drawn" = some (some (.ref f19))) (l19 : K.lookup f19 = some ⟨oc19, od19, .func (PySem.W.fnOf "_law_drawn" "_law_drawn" (defArgs sDrn) (defBody sDrn) (defScope sDrn) .none kV19 dc19 pm19 an19 cd19 ct19), sl19⟩) (c19 : PySem.W.codeIn K cd19 "_law_drawn" = true) (k19_ : PySem.W.keepIn K (.ref f19) = true)
    (n20 : PySem.W.nsIn K mainGlobals "_law_known" = some (some (.ref f20))) (l20 : K.lookup f20 = some ⟨oc20, od20, .func (PySem.W.fnOf "_law_known" "_law_known" (defArgs sKno) (defBody sKno) (defScope sKno) .none kV20 dc20 pm20 an20 cd20 ct20), sl20⟩) (c20 : PySem.W.codeIn K cd20 "_law_known" = true) (k20_ : PySem.W.keepIn K (.ref f20) = true)
    (n21 : PySem.W.nsIn K mainGlobals "_law_word" = some (some (.ref f21))) (l21 : K.lookup f21 = some ⟨oc21, od21, .func (PySem.W.fnOf "_law_word" "_law_word" (defArgs sWrd) (defBody sWrd) (defScope sWrd) .none kV21 dc21 pm21 an21 cd21 ct21), sl21⟩) (c21 : PySem.W.codeIn K cd21 "_law_word" = true) (k21_ : PySem.W.keepIn K (.ref f21) = true)
    (n22 : PySem.W.nsIn K mainGlobals "_law_shows" = some (some (.ref f22))) (l22 : K.lookup f22 = some ⟨oc22, od22, .func (PySem.W.fnOf "_law_shows" "_law_shows" (defArgs sShw) (defBody sShw) (defScope sShw) .none kV22 dc22 pm22 an22 cd22 ct22), sl22⟩) (c22 : PySem.W.codeIn K cd22 "_law_shows" = true) (k22_ : PySem.W.keepIn K (.ref f22) = true)
    (n23 : PySem.W.nsIn K mainGlobals "_law_odd_changes" = some (some (.ref f23))) (l23 : K.lookup f23 = some ⟨oc23, od23, .func (PySem.W.fnOf "_law_odd_changes" "_law_odd_changes" (defArgs sOdc) (defBody sOdc) (defScope sOdc) .none kV23 dc23 pm23 an23 cd23 ct23), sl23⟩) (c23 : PySem.W.codeIn K cd23 "_law_odd_changes" = true) (k23_ : PySem.W.keepIn K (.ref f23) = true)
    (n24 : PySem.W.nsIn K mainGlobals "_law_bent" = some (some (.ref f24))) (l24 : K.lookup f24 = some ⟨oc24, od24, .func (PySem.W.fnOf "_law_bent" "_law_bent" (defArgs sBnt) (defBody sBnt) (defScope sBnt) .none kV24 dc24 pm24 an24 cd24 ct24), sl24⟩) (c24 : PySem.W.codeIn K cd24 "_law_bent" = true) (k24_ : PySem.W.keepIn K (.ref f24) = true)
    (n25 : PySem.W.nsIn K mainGlobals "_law_less_right" = some (some (.ref f25))) (l25 : K.lookup f25 = some ⟨oc25, od25, .func (PySem.W.fnOf "_law_less_right" "_law_less_right" (defArgs sLes) (defBody sLes) (defScope sLes) .none kV25 dc25 pm25 an25 (.ref cx0) ct25), sl25⟩) (c25 : PySem.W.codeIn K (.ref cx0) "_law_less_right" = true) (k25_ : PySem.W.keepIn K (.ref f25) = true)
    (n26 : PySem.W.nsIn K mainGlobals "_law_more_right" = some (some (.ref f26))) (l26 : K.lookup f26 = some ⟨oc26, od26, .func (PySem.W.fnOf "_law_more_right" "_law_more_right" (defArgs sMor) (defBody sMor) (defScope sMor) .none kV26 dc26 pm26 an26 (.ref cx1) ct26), sl26⟩) (c26 : PySem.W.codeIn K (.ref cx1) "_law_more_right" = true) (k26_ : PySem.W.keepIn K (.ref f26) = true)
    (n27 : PySem.W.nsIn K mainGlobals "_law_full_right" = some (some (.ref f27))) (l27 : K.lookup f27 = some ⟨oc27, od27, .func (PySem.W.fnOf "_law_full_right" "_law_full_right" (defArgs sFrr) (defBody sFrr) (defScope sFrr) .none kV27 dc27 pm27 an27 (.ref cx2) ct27), sl27⟩) (c27 : PySem.W.codeIn K (.ref cx2) "_law_full_right" = true) (k27_ : PySem.W.keepIn K (.ref f27) = true)
    (n28 : PySem.W.nsIn K mainGlobals "_law_begins_right" = some (some (.ref f28))) (l28 : K.lookup f28 = some ⟨oc28, od28, .func (PySem.W.fnOf "_law_begins_right" "_law_begins_right" (defArgs sBgr) (defBody sBgr) (defScope sBgr) .none kV28 dc28 pm28 an28 cd28 ct28), sl28⟩) (c28 : PySem.W.codeIn K cd28 "_law_begins_right" = true) (k28_ : PySem.W.keepIn K (.ref f28) = true)
    (n29 : PySem.W.nsIn K mainGlobals "law" = some (some (.ref f29))) (l29 : K.lookup f29 = some ⟨oc29, od29, .func (PySem.W.fnOf "law" "law" (defArgs sLaw) (defBody sLaw) (defScope sLaw) .none kV29 dc29 pm29 an29 (.ref cx3) ct29), sl29⟩) (c29 : PySem.W.codeIn K (.ref cx3) "law" = true) (k29_ : PySem.W.keepIn K (.ref f29) = true)
    (gC : PySem.W.nsIn K mainGlobals "Road" = some (some (.ref C))) (rC : chkR K C = true)
    (m0 : PySem.W.findIn K (.ref C) "__init__" = some (some (.ref g0)))
    (le0 : K.lookup g0 = some ⟨oce0, ode0, .func (PySem.W.fnOf "__init__" "Road.__init__" (defArgs sIni) (defBody sIni) (defScope sIni) .none kVe0 dce0 pme0 ane0 cde0 cte0), sle0⟩) (ce0 : PySem.W.codeIn K cde0 "Road.__init__" = true)
    (m1 : PySem.W.findIn K (.ref C) "begin" = some (some (.ref pp1))) (r1 : PySem.W.recIn K pp1 "property" = some (.ref g1 :: re1))
    (le1 : K.lookup g1 = some ⟨oce1, ode1, .func (PySem.W.fnOf "begin" "Road.begin" (defArgs sBeg) (defBody sBeg) (defScope sBeg) .none kVe1 dce1 pme1 ane1 cde1 cte1), sle1⟩) (ce1 : PySem.W.codeIn K cde1 "Road.begin" = true)
    (m2 : PySem.W.findIn K (.ref C) "changes" = some (some (.ref pp2))) (r2 : PySem.W.recIn K pp2 "property" = some (.ref g2 :: re2))
    (le2 : K.lookup g2 = some ⟨oce2, ode2, .func (PySem.W.fnOf "changes" "Road.changes" (defArgs sChg) (defBody sChg) (defScope sChg) .none kVe2 dce2 pme2 ane2 cde2 cte2), sle2⟩) (ce2 : PySem.W.codeIn K cde2 "Road.changes" = true)
    (m3 : PySem.W.findIn K (.ref C) "shapes" = some (some (.ref pp3))) (r3 : PySem.W.recIn K pp3 "property" = some (.ref g3 :: re3))
    (le3 : K.lookup g3 = some ⟨oce3, ode3, .func (PySem.W.fnOf "shapes" "Road.shapes" (defArgs sShs) (defBody sShs) (defScope sShs) .none kVe3 dce3 pme3 ane3 cde3 cte3), sle3⟩) (ce3 : PySem.W.codeIn K cde3 "Road.shapes" = true)
    (m4 : PySem.W.findIn K (.ref C) "behind" = some (some (.ref g4)))
    (le4 : K.lookup g4 = some ⟨oce4, ode4, .func (PySem.W.fnOf "behind" "Road.behind" (defArgs sBhd) (defBody sBhd) (defScope sBhd) .none kVe4 dce4 pme4 ane4 cde4 cte4), sle4⟩) (ce4 : PySem.W.codeIn K cde4 "Road.behind" = true)
    (m5 : PySem.W.findIn K (.ref C) "without" = some (some (.ref g5)))
    (le5 : K.lookup g5 = some ⟨oce5, ode5, .func (PySem.W.fnOf "without" "Road.without" (defArgs sWot) (defBody sWot) (defScope sWot) .none kVe5 dce5 pme5 ane5 cde5 cte5), sle5⟩) (ce5 : PySem.W.codeIn K cde5 "Road.without" = true)
    (m6 : PySem.W.findIn K (.ref C) "with_change" = some (some (.ref g6)))
    (le6 : K.lookup g6 = some ⟨oce6, ode6, .func (PySem.W.fnOf "with_change" "Road.with_change" (defArgs sWch) (defBody sWch) (defScope sWch) .none kVe6 dce6 pme6 ane6 cde6 cte6), sle6⟩) (ce6 : PySem.W.codeIn K cde6 "Road.with_change" = true)
    (m7 : PySem.W.findIn K (.ref C) "__eq__" = some (some (.ref g7)))
    (le7 : K.lookup g7 = some ⟨oce7, ode7, .func (PySem.W.fnOf "__eq__" "Road.__eq__" (defArgs sREq) (defBody sREq) (defScope sREq) .none kVe7 dce7 pme7 ane7 cde7 cte7), sle7⟩) (ce7 : PySem.W.codeIn K cde7 "Road.__eq__" = true)
    (mC : chkM K [g0, g1, g2, g3, g4, g5, g6, g7] = true) (pC : chkP K [pp1, pp2, pp3] = true)
    (ga0 : PySem.W.nsIn K mainGlobals "InvalidRoad" = some (some (.ref a0)))
    (ga1 : PySem.W.nsIn K mainGlobals "UnknownShape" = some (some (.ref a1)))
    (ga2 : PySem.W.nsIn K mainGlobals "UnknownChange" = some (some (.ref a2)))
    (ga3 : PySem.W.nsIn K mainGlobals "CursorError" = some (some (.ref a3)))
    (z_type : PySem.W.nsIn K mainGlobals "type" = some none)
    (z_isinstance : PySem.W.nsIn K mainGlobals "isinstance" = some none)
    (z_int : PySem.W.nsIn K mainGlobals "int" = some none)
    (z_bool : PySem.W.nsIn K mainGlobals "bool" = some none)
    (z_tuple : PySem.W.nsIn K mainGlobals "tuple" = some none)
    (z_len : PySem.W.nsIn K mainGlobals "len" = some none)
    (z_all : PySem.W.nsIn K mainGlobals "all" = some none)
    (z_repr : PySem.W.nsIn K mainGlobals "repr" = some none)
    (z_enumerate : PySem.W.nsIn K mainGlobals "enumerate" = some none)
    (z_range : PySem.W.nsIn K mainGlobals "range" = some none)
    (z_list : PySem.W.nsIn K mainGlobals "list" = some none)
    (z_set : PySem.W.nsIn K mainGlobals "set" = some none)
    (z_sorted : PySem.W.nsIn K mainGlobals "sorted" = some none)
    (z_min : PySem.W.nsIn K mainGlobals "min" = some none)
    (z_ValueError : PySem.W.nsIn K mainGlobals "ValueError" = some none)
    (mW : PySem.W.nsIn K mainGlobals "MOST_WIDTH" = some (some (.int 5 tw)))
    (e_ : chkEs K [a0, a1, a2] a3 = true)
    (h0_ : PySem.W.codeHdIn K cx0 t0 = true) (u0_ : K.lookup t0 = none)
    (h1_ : PySem.W.codeHdIn K cx1 t1 = true) (u1_ : K.lookup t1 = none)
    (h2_ : PySem.W.codeHdIn K cx2 t2 = true) (u2_ : K.lookup t2 = none)
    (h3_ : PySem.W.codeHdIn K cx3 t3 = true) (u3_ : K.lookup t3 = none)
    (ne01 : (t0 == t1) = false)
    (ne02 : (t0 == t2) = false)
    (ne03 : (t0 == t3) = false)
    (ne12 : (t1 == t2) = false)
    (ne13 : (t1 == t3) = false)
    (ne23 : (t2 == t3) = false)
    : ∃ (K : PySem.W.Frag) (fd : FuncData) (cs : List (Addr × Addr)) (sp : Sp), K.In h ∧ (∀ p ∈ cs, h.get? p.2 = some { cls := .none, data := .fields #[] }) ∧ (∀ p ∈ cs, K.lookup p.2 = none) ∧ (∀ p ∈ cs, PySem.W.CodeHd h p.1 p.2) ∧
      (∀ (s : Shared) (u : Value), BindsTo s fd ⟨[u], []⟩ [("script", u)]) ∧
      (∀ (H : Hp) (a : Addr) (ns : List Int), ns.length ≤ 63 → (∀ p ∈ cs, H p.2 = some (.tbl #[])) → SqL K H a (ns.map V.int) → sp [.ref a] H (fun v _ => v = .bl true) fun _ _ _ => False) ∧
      ∀ base : Heap, K.In base → base.Ns mainGlobals mg → (∀ p ∈ cs, LamX.TabB base mg p.1 p.2) → GFn PySem.Challenge.rw_seencursors_k03_roads.prog w K mg base CX0 13 fa fd ["script"] sp := by
  have e := hfa.symm.trans (PySem.W.mg_of X G n29)
  cases e
  have B1 : Bi1 mg := ⟨PySem.W.mg_none_of X G z_type, PySem.W.mg_none_of X G z_isinstance, PySem.W.mg_none_of X G z_int, PySem.W.mg_none_of X G z_bool, PySem.W.mg_none_of X G z_tuple, PySem.W.mg_none_of X G z_len, PySem.W.mg_none_of X G z_all, PySem.W.mg_none_of X G z_repr, PySem.W.mg_none_of X G z_enumerate, PySem.W.mg_none_of X G z_range⟩
  have B2 : Blt mg := ⟨PySem.W.mg_none_of X G z_list, PySem.W.mg_none_of X G z_int, PySem.W.mg_none_of X G z_len⟩
  have B3 : Bi3 mg := ⟨B1, PySem.W.mg_none_of X G z_list, PySem.W.mg_none_of X G z_set, PySem.W.mg_none_of X G z_sorted⟩
  have B4 : Bi4 mg := ⟨B3, PySem.W.mg_none_of X G z_min⟩
  have g0' := PySem.W.mg_of X G ga0
  have g1' := PySem.W.mg_of X G ga1
  have g2' := PySem.W.mg_of X G ga2
  have g3' := PySem.W.mg_of X G ga3
  have gRd := PySem.W.mg_of X G gC
  obtain ⟨TR, CO, KO, mNe, mMk, kRd⟩ := chkR_k rC
  have E0 := chkEs_k e_ (i := 0) (by show 0 < 3; decide)
  have E1 := chkEs_k e_ (i := 1) (by show 1 < 3; decide)
  have E2 := chkEs_k e_ (i := 2) (by show 2 < 3; decide)
  have x0 : ErC K mg "InvalidRoad" a0 := erC_of g0' E0.1
  have x1 : ErC K mg "UnknownShape" a1 := erC_of g1' E1.1
  have x2 : ErC K mg "UnknownChange" a2 := erC_of g2' E2.1
  obtain ⟨cc, ecc⟩ : ∃ cc : Nat → Addr, cc = fun i => ([a0, a1, a2] : List Addr).getD i 0 := ⟨_, rfl⟩
  have TW : TWd K mg cc a3 := by
    rw [ecc]
    exact ⟨fun i hi => by
      rcases (show i = 0 ∨ i = 1 ∨ i = 2 by omega) with rfl | rfl | rfl
      · exact g0'
      · exact g1'
      · exact g2', g3', fun i hi => (chkE_k (chkEs_k e_ (i := i) hi).1).2.2.2.1, fun i j hi hj => (chkEs_k e_ (i := i) hi).2.2 j hj, fun i hi => (chkE_k (chkEs_k e_ (i := i) hi).1).2.2.2.2.2, fun i hi => (chkE_k (chkEs_k e_ (i := i) hi).1).2.2.2.2.1, fun i hi => (chkEs_k e_ (i := i) hi).2.1,
      PySem.W.mg_none_of X G z_isinstance, PySem.W.mg_none_of X G z_ValueError⟩
  have c0' : cc 0 = a0 := by rw [ecc]; rfl
  have c1' : cc 1 = a1 := by rw [ecc]; rfl
  have c2' : cc 2 = a2 := by rw [ecc]; rfl
  clear ecc
  have mWd : ∃ t, mg "MOST_WIDTH" = some (.int 5 t) := ⟨_, PySem.W.mg_of X G mW⟩
  have F0 := fun_mk (st := sInt) l0 c0 k0_
  have b0 := F0.binds (ps := ["thing"]) fun _ _ _ _ _ _ us hl => match us, hl with | [_], _ => rfl
  have F1 := fun_mk (st := sNum) l1 c1 k1_
  have b1 := F1.binds (ps := ["thing", "least", "most"]) fun _ _ _ _ _ _ us hl => match us, hl with | [_, _, _], _ => rfl
  have F2 := fun_mk (st := sWid) l2 c2 k2_
  have b2 := F2.binds (ps := ["thing"]) fun _ _ _ _ _ _ us hl => match us, hl with | [_], _ => rfl
  have F3 := fun_mk (st := sShp) l3 c3 k3_
  have b3 := F3.binds (ps := ["thing"]) fun _ _ _ _ _ _ us hl => match us, hl with | [_], _ => rfl
  have F4 := fun_mk (st := sIsC) l4 c4 k4_
  have b4 := F4.binds (ps := ["thing"]) fun _ _ _ _ _ _ us hl => match us, hl with | [_], _ => rfl
  have F5 := fun_mk (st := sArS) l5 c5 k5_
  have b5 := F5.binds (ps := ["thing"]) fun _ _ _ _ _ _ us hl => match us, hl with | [_], _ => rfl
  have F6 := fun_mk (st := sArC) l6 c6 k6_
  have b6 := F6.binds (ps := ["thing"]) fun _ _ _ _ _ _ us hl => match us, hl with | [_], _ => rfl
  have F7 := fun_mk (st := sBeh) l7 c7 k7_
  have b7 := F7.binds (ps := ["begin", "changes"]) fun _ _ _ _ _ _ us hl => match us, hl with | [_, _], _ => rfl
  have F8 := fun_mk (st := sFul) l8 c8 k8_
  have b8 := F8.binds (ps := ["shapes"]) fun _ _ _ _ _ _ us hl => match us, hl with | [_], _ => rfl
  have F9 := fun_mk (st := sPen) l9 c9 k9_
  have b9 := F9.binds (ps := ["script"]) fun _ _ _ _ _ _ us hl => match us, hl with | [_], _ => rfl
  have F10 := fun_mk (st := sNext) l10 c10 k10_
  have b10 := F10.binds (ps := ["pen"]) fun _ _ _ _ _ _ us hl => match us, hl with | [_], _ => rfl
  have F11 := fun_mk (st := sDraw) l11 c11 k11_
  have b11 := F11.binds (ps := ["pen", "under"]) fun _ _ _ _ _ _ us hl => match us, hl with | [_, _], _ => rfl
  have F12 := fun_mk (st := sSom) l12 c12 k12_
  have b12 := F12.binds (ps := ["pen", "pool", "most"]) fun _ _ _ _ _ _ us hl => match us, hl with | [_, _, _], _ => rfl
  have F13 := fun_mk (st := sFgs) l13 c13 k13_
  have b13 := F13.binds (ps := []) fun _ _ _ _ _ _ us hl => match us, hl with | [], _ => rfl
  have F14 := fun_mk (st := sIsF) l14 c14 k14_
  have b14 := F14.binds (ps := ["thing"]) fun _ _ _ _ _ _ us hl => match us, hl with | [_], _ => rfl
  have F15 := fun_mk (st := sLaf) l15 c15 k15_
  have b15 := F15.binds (ps := ["thing"]) fun _ _ _ _ _ _ us hl => match us, hl with | [_], _ => rfl
  have F16 := fun_mk (st := sLic) l16 c16 k16_
  have b16 := F16.binds (ps := ["thing"]) fun _ _ _ _ _ _ us hl => match us, hl with | [_], _ => rfl
  have F17 := fun_mk (st := sLac) l17 c17 k17_
  have b17 := F17.binds (ps := ["thing"]) fun _ _ _ _ _ _ us hl => match us, hl with | [_], _ => rfl
  have F18 := fun_mk (st := sAll) l18 c18 k18_
  have b18 := F18.binds (ps := ["figures"]) fun _ _ _ _ _ _ us hl => match us, hl with | [_], _ => rfl
  have F19 := fun_mk (st := sDrn) l19 c19 k19_
  have b19 := F19.binds (ps := ["pen"]) fun _ _ _ _ _ _ us hl => match us, hl with | [_], _ => rfl
  have F20 := fun_mk (st := sKno) l20 c20 k20_
  have b20 := F20.binds (ps := ["road_here"]) fun _ _ _ _ _ _ us hl => match us, hl with | [_], _ => rfl
  have F21 := fun_mk (st := sWrd) l21 c21 k21_
  have b21 := F21.binds (ps := ["act"]) fun _ _ _ _ _ _ us hl => match us, hl with | [_], _ => rfl
  have F22 := fun_mk (st := sShw) l22 c22 k22_
  have b22 := F22.binds (ps := ["one", "road_here"]) fun _ _ _ _ _ _ us hl => match us, hl with | [_, _], _ => rfl
  have F23 := fun_mk (st := sOdc) l23 c23 k23_
  have b23 := F23.binds (ps := ["pen"]) fun _ _ _ _ _ _ us hl => match us, hl with | [_], _ => rfl
  have F24 := fun_mk (st := sBnt) l24 c24 k24_
  have b24 := F24.binds (ps := ["pen", "road_here"]) fun _ _ _ _ _ _ us hl => match us, hl with | [_, _], _ => rfl
  have F25 : FunC K "_law_less_right" sLes f25 _ cx0 := ⟨⟨_, _, _, _, _, _, _, _, rfl, l25, c25⟩, k25_⟩
  have b25 : Binds K _ ["pen", "one", "road_here"] [] := (fun_mk (st := sLes) l25 c25 k25_).binds (ps := ["pen", "one", "road_here"]) fun _ _ _ _ _ _ us hl => match us, hl with | [_, _, _], _ => rfl
  have F26 : FunC K "_law_more_right" sMor f26 _ cx1 := ⟨⟨_, _, _, _, _, _, _, _, rfl, l26, c26⟩, k26_⟩
  have b26 : Binds K _ ["pen", "one", "road_here"] [] := (fun_mk (st := sMor) l26 c26 k26_).binds (ps := ["pen", "one", "road_here"]) fun _ _ _ _ _ _ us hl => match us, hl with | [_, _, _], _ => rfl
  have F27 : FunC K "_law_full_right" sFrr f27 _ cx2 := ⟨⟨_, _, _, _, _, _, _, _, rfl, l27, c27⟩, k27_⟩
  have b27 : Binds K _ ["pen", "road_here"] [] := (fun_mk (st := sFrr) l27 c27 k27_).binds (ps := ["pen", "road_here"]) fun _ _ _ _ _ _ us hl => match us, hl with | [_, _], _ => rfl
  have F28 := fun_mk (st := sBgr) l28 c28 k28_
  have b28 := F28.binds (ps := ["one", "road_here"]) fun _ _ _ _ _ _ us hl => match us, hl with | [_, _], _ => rfl
  have F29 : FunC K "law" sLaw fa _ cx3 := ⟨⟨_, _, _, _, _, _, _, _, rfl, l29, c29⟩, k29_⟩
  have M0 := chkM_k mC (f := g0) (by simp)
  have Fm0 := fun_mk (st := sIni) le0 ce0 M0.2
  have bm0 := Fm0.binds (ps := ["self", "begin", "changes"]) fun _ _ _ _ _ _ us hl => match us, hl with | [_, _, _], _ => rfl
  have M1 := chkM_k mC (f := g1) (by simp)
  have Fm1 := fun_mk (st := sBeg) le1 ce1 M1.2
  have bm1 := Fm1.binds (ps := ["self"]) fun _ _ _ _ _ _ us hl => match us, hl with | [_], _ => rfl
  have M2 := chkM_k mC (f := g2) (by simp)
  have Fm2 := fun_mk (st := sChg) le2 ce2 M2.2
  have bm2 := Fm2.binds (ps := ["self"]) fun _ _ _ _ _ _ us hl => match us, hl with | [_], _ => rfl
  have M3 := chkM_k mC (f := g3) (by simp)
  have Fm3 := fun_mk (st := sShs) le3 ce3 M3.2
  have bm3 := Fm3.binds (ps := ["self"]) fun _ _ _ _ _ _ us hl => match us, hl with | [_], _ => rfl
  have M4 := chkM_k mC (f := g4) (by simp)
  have Fm4 := fun_mk (st := sBhd) le4 ce4 M4.2
  have bm4 := Fm4.binds (ps := ["self", "shape"]) fun _ _ _ _ _ _ us hl => match us, hl with | [_, _], _ => rfl
  have M5 := chkM_k mC (f := g5) (by simp)
  have Fm5 := fun_mk (st := sWot) le5 ce5 M5.2
  have bm5 := Fm5.binds (ps := ["self", "changes"]) fun _ _ _ _ _ _ us hl => match us, hl with | [_, _], _ => rfl
  have M6 := chkM_k mC (f := g6) (by simp)
  have Fm6 := fun_mk (st := sWch) le6 ce6 M6.2
  have bm6 := Fm6.binds (ps := ["self", "change"]) fun _ _ _ _ _ _ us hl => match us, hl with | [_, _], _ => rfl
  have M7 := chkM_k mC (f := g7) (by simp)
  have Fm7 := fun_mk (st := sREq) le7 ce7 M7.2
  have bm7 := Fm7.binds (ps := ["self", "other"]) fun _ _ _ _ _ _ us hl => match us, hl with | [_, _], _ => rfl
  have C0 : ∀ base, CalInt PySem.Challenge.rw_seencursors_k03_roads.prog w K mg base := fun base => ⟨f0, _, ok_int F0 B1, PySem.W.mg_of X G n0, k0_, b0⟩
  have C1 : ∀ base, CalNum PySem.Challenge.rw_seencursors_k03_roads.prog w K mg base := fun base => ⟨f1, _, ok_num F1 (C0 base), PySem.W.mg_of X G n1, k1_, b1⟩
  have C2 : ∀ base, CalWid PySem.Challenge.rw_seencursors_k03_roads.prog w K mg base := fun base => ⟨f2, _, ok_wid F2 (C1 base) mWd, PySem.W.mg_of X G n2, k2_, b2⟩
  have C3 : ∀ base, CalShp PySem.Challenge.rw_seencursors_k03_roads.prog w K mg base := fun base => ⟨f3, _, ok_shp F3 B1 (C2 base), PySem.W.mg_of X G n3, k3_, b3⟩
  have C4 : ∀ base, CalIsC PySem.Challenge.rw_seencursors_k03_roads.prog w K mg base := fun base => ⟨f4, _, ok_isc F4 B3 (C3 base), PySem.W.mg_of X G n4, k4_, b4⟩
  have C5 : ∀ base, CalArS PySem.Challenge.rw_seencursors_k03_roads.prog w K mg base := fun base => ⟨f5, _, ok_ars F5 B3 (C3 base), PySem.W.mg_of X G n5, k5_, b5⟩
  have C6 : ∀ base, CalArC PySem.Challenge.rw_seencursors_k03_roads.prog w K mg base := fun base => ⟨f6, _, ok_arc F6 B3 (C4 base), PySem.W.mg_of X G n6, k6_, b6⟩
  have C7 : ∀ base, CalBeh PySem.Challenge.rw_seencursors_k03_roads.prog w K mg base := fun base => ⟨f7, _, ok_beh F7 B3, PySem.W.mg_of X G n7, k7_, b7⟩
  rw [← c0'] at x0
  rw [← c1'] at x1
  rw [← c2'] at x2
  have CR : ∀ base, CalRd PySem.Challenge.rw_seencursors_k03_roads.prog w K mg base C (cc 0) := fun base => ⟨g0, _, ok_ini Fm0 B3 (C5 base) (C6 base) (C7 base) x0, ⟨mMk, m0, M0.1, kRd⟩, gRd, bm0⟩
  have C8 : ∀ base, Cal PySem.Challenge.rw_seencursors_k03_roads.prog w K mg base (L2.CX PySem.Challenge.rw_seencursors_k03_roads.prog w) 9 "full_road" ["shapes"] (spFul PySem.Challenge.rw_seencursors_k03_roads.prog w K C (cc 0)) := fun base => ⟨f8, _, ok_ful F8 B3 TR (CR base) (C5 base) x0, PySem.W.mg_of X G n8, k8_, b8⟩
  have CP1 : ∀ base, CalPr PySem.Challenge.rw_seencursors_k03_roads.prog w K mg base C 1 "begin" (spBeg PySem.Challenge.rw_seencursors_k03_roads.prog w K C) := fun base => ⟨pp1, g1, _, ⟨m1, (chkP_k pC (p := pp1) (by simp)).1, (chkP_k pC (p := pp1) (by simp)).2, ⟨_, r1⟩⟩, ok_beg Fm1 B3 TR, bm1⟩
  have CP2 : ∀ base, CalPr PySem.Challenge.rw_seencursors_k03_roads.prog w K mg base C 1 "changes" (spChg PySem.Challenge.rw_seencursors_k03_roads.prog w K C) := fun base => ⟨pp2, g2, _, ⟨m2, (chkP_k pC (p := pp2) (by simp)).1, (chkP_k pC (p := pp2) (by simp)).2, ⟨_, r2⟩⟩, ok_chg Fm2 B3 TR, bm2⟩
  have CP3 : ∀ base, CalPr PySem.Challenge.rw_seencursors_k03_roads.prog w K mg base C 1 "shapes" (spShs PySem.Challenge.rw_seencursors_k03_roads.prog w K C) := fun base => ⟨pp3, g3, _, ⟨m3, (chkP_k pC (p := pp3) (by simp)).1, (chkP_k pC (p := pp3) (by simp)).2, ⟨_, r3⟩⟩, ok_shs Fm3 B3 TR, bm3⟩
  have CP4 : ∀ base, CalMe PySem.Challenge.rw_seencursors_k03_roads.prog w K mg base (L2.CX PySem.Challenge.rw_seencursors_k03_roads.prog w) C 5 "behind" ["self", "shape"] (spBhd PySem.Challenge.rw_seencursors_k03_roads.prog w K C (cc 1)) := fun base => ⟨g4, _, ⟨m4, M4.1, M4.2⟩, ok_bhd Fm4 B3 TR (C3 base) x1, bm4⟩
  have CP5 : ∀ base, CalMe PySem.Challenge.rw_seencursors_k03_roads.prog w K mg base (L2.CX PySem.Challenge.rw_seencursors_k03_roads.prog w) C 9 "without" ["self", "changes"] (spWot PySem.Challenge.rw_seencursors_k03_roads.prog w K C (cc 2)) := fun base => ⟨g5, _, ⟨m5, M5.1, M5.2⟩, ok_wot Fm5 B3 TR (CR base) (C6 base) x2, bm5⟩
  have CP6 : ∀ base, CalMe PySem.Challenge.rw_seencursors_k03_roads.prog w K mg base (L2.CX PySem.Challenge.rw_seencursors_k03_roads.prog w) C 9 "with_change" ["self", "change"] (spWch PySem.Challenge.rw_seencursors_k03_roads.prog w K C (cc 0)) := fun base => ⟨g6, _, ⟨m6, M6.1, M6.2⟩, ok_wch Fm6 TR (CR base), bm6⟩
  have CE : ∀ base, EqAtR PySem.Challenge.rw_seencursors_k03_roads.prog w K mg base C := fun base => ⟨g7, _, ok_req Fm7 B3 TR gRd, m7, mNe, M7.1, bm7⟩
  have C9 : ∀ base, CalPen3 PySem.Challenge.rw_seencursors_k03_roads.prog w K mg base := fun base => ⟨f9, _, ok_pen F9 B2.lst, PySem.W.mg_of X G n9, k9_, b9⟩
  have G10 : ∀ base, FnOk PySem.Challenge.rw_seencursors_k03_roads.prog w K mg base CX0 1 f10 _ ["pen"] spNext := fun base => ok_next F10 B2
  have C11 : ∀ base, CalDr PySem.Challenge.rw_seencursors_k03_roads.prog w K mg base := fun base => ⟨f11, _, ok_draw F11 B2 (G10 base) (PySem.W.mg_of X G n10) k10_ b10, PySem.W.mg_of X G n11, k11_, b11⟩
  have CS1 : ∀ base, CalSom Fg PySem.Challenge.rw_seencursors_k03_roads.prog w K mg base := fun base => ⟨f12, _, ok_som (α := Fg) F12 B4 (C11 base), PySem.W.mg_of X G n12, k12_, b12⟩
  have CS2 : ∀ base, CalSom Ch PySem.Challenge.rw_seencursors_k03_roads.prog w K mg base := fun base => ⟨f12, _, ok_som (α := Ch) F12 B4 (C11 base), PySem.W.mg_of X G n12, k12_, b12⟩
  have C13 : ∀ base, CalFgs PySem.Challenge.rw_seencursors_k03_roads.prog w K mg base := fun base => ⟨f13, _, ok_fgs F13 B1, PySem.W.mg_of X G n13, k13_, b13⟩
  have C14 : ∀ base, CalIsF PySem.Challenge.rw_seencursors_k03_roads.prog w K mg base := fun base => ⟨f14, _, ok_isf F14 B4 (C13 base), PySem.W.mg_of X G n14, k14_, b14⟩
  have C15 : ∀ base, CalLaf PySem.Challenge.rw_seencursors_k03_roads.prog w K mg base := fun base => ⟨f15, _, ok_laf F15 B4 (C14 base), PySem.W.mg_of X G n15, k15_, b15⟩
  have C16 : ∀ base, CalIsC' PySem.Challenge.rw_seencursors_k03_roads.prog w K mg base := fun base => ⟨f16, _, ok_lic F16 B4 (C14 base), PySem.W.mg_of X G n16, k16_, b16⟩
  have C17 : ∀ base, CalLac PySem.Challenge.rw_seencursors_k03_roads.prog w K mg base := fun base => ⟨f17, _, ok_lac F17 B4 (C16 base), PySem.W.mg_of X G n17, k17_, b17⟩
  have C18 : ∀ base, CalAll PySem.Challenge.rw_seencursors_k03_roads.prog w K mg base := fun base => ⟨f18, _, ok_all F18, PySem.W.mg_of X G n18, k18_, b18⟩
  have C19 : ∀ base, Cal PySem.Challenge.rw_seencursors_k03_roads.prog w K mg base CX0 4 "_law_drawn" ["pen"] (spDrn K) := fun base => ⟨f19, _, ok_drn F19 B4 (C11 base) (C13 base) (CS1 base) (CS2 base) (C18 base), PySem.W.mg_of X G n19, k19_, b19⟩
  have C20 : ∀ base, CalKno PySem.Challenge.rw_seencursors_k03_roads.prog w K mg base := fun base => ⟨f20, _, ok_kno F20 B3, PySem.W.mg_of X G n20, k20_, b20⟩
  have WD : WdAt K mg := ⟨⟨_, _, _, _, _, _, _, _, _, _, PySem.W.mg_of X G n21, k21_, l21, c21, b21⟩⟩
  have C22 : ∀ base, CalShw PySem.Challenge.rw_seencursors_k03_roads.prog w K mg base C := fun base => ⟨f22, _, ok_shw F22 B4 TR (C20 base) (CP1 base) (CP2 base) (CP3 base) (CP4 base), PySem.W.mg_of X G n22, k22_, b22⟩
  have C23 : ∀ base, CalOdc PySem.Challenge.rw_seencursors_k03_roads.prog w K mg base := fun base => ⟨f23, _, ok_odc F23 B4 (C11 base) (C13 base), PySem.W.mg_of X G n23, k23_, b23⟩
  have C24 : ∀ base, CalBnt PySem.Challenge.rw_seencursors_k03_roads.prog w K mg base := fun base => ⟨f24, _, ok_bnt F24 B4 (C11 base) (C23 base), PySem.W.mg_of X G n24, k24_, b24⟩
  have C28 : ∀ base, CalG PySem.Challenge.rw_seencursors_k03_roads.prog w K mg base CX0 9 "_law_begins_right" ["one", "road_here"] (spBgr PySem.Challenge.rw_seencursors_k03_roads.prog w K C) := fun base => ⟨f28, _, ok_bgr F28 B4 TR (C20 base) (CR base) (CE base), PySem.W.mg_of X G n28, k28_, b28⟩
  have nt01 : t0 ≠ t1 := beq_eq_false_iff_ne.mp ne01
  have nt02 : t0 ≠ t2 := beq_eq_false_iff_ne.mp ne02
  have nt03 : t0 ≠ t3 := beq_eq_false_iff_ne.mp ne03
  have nt12 : t1 ≠ t2 := beq_eq_false_iff_ne.mp ne12
  have nt13 : t1 ≠ t3 := beq_eq_false_iff_ne.mp ne13
  have nt23 : t2 ≠ t3 := beq_eq_false_iff_ne.mp ne23
  obtain ⟨TT, eTT⟩ : ∃ TT : List (Addr × Str), TT = [(t0, ("_law_less_right" : Str) ++ ".<locals>." ++ "<lambda>"), (t1, ("_law_more_right" : Str) ++ ".<locals>." ++ "<lambda>"), (t2, ("_law_full_right" : Str) ++ ".<locals>." ++ "<lambda>"), (t3, ("law" : Str) ++ ".<locals>." ++ "<lambda>")] := ⟨_, rfl⟩
  refine ⟨K, PySem.W.fnOf "law" "law" (defArgs sLaw) (defBody sLaw) (defScope sLaw) .none kV29 dc29 pm29 an29 (.ref cx3) ct29, [(cx0, t0), (cx1, t1), (cx2, t2), (cx3, t3)], spLw3 K TT, X, fun p hp => ?_, fun p hp => ?_, fun p hp => ?_, fun s v => .of_eq rfl, fun H a ns hl hH hS => ⟨a, ns, rfl, hS, fun q hq => ?_, fun _ => rfl⟩, fun base hK hB hT => ?_⟩
  · simp only [List.mem_cons, List.not_mem_nil, or_false] at hp
    rcases hp with rfl | rfl | rfl | rfl
    · exact tb t0 (by simp)
    · exact tb t1 (by simp)
    · exact tb t2 (by simp)
    · exact tb t3 (by simp)
  · simp only [List.mem_cons, List.not_mem_nil, or_false] at hp
    rcases hp with rfl | rfl | rfl | rfl
    · exact u0_
    · exact u1_
    · exact u2_
    · exact u3_
  · simp only [List.mem_cons, List.not_mem_nil, or_false] at hp
    rcases hp with rfl | rfl | rfl | rfl
    · exact PySem.W.codeHd_of_K X h0_
    · exact PySem.W.codeHd_of_K X h1_
    · exact PySem.W.codeHd_of_K X h2_
    · exact PySem.W.codeHd_of_K X h3_
  · rw [eTT] at hq
    simp only [List.mem_cons, List.not_mem_nil, or_false] at hq
    rcases hq with rfl | rfl | rfl | rfl
    · exact LamX.TabS.nil (hH (cx0, t0) (by simp))
    · exact LamX.TabS.nil (hH (cx1, t1) (by simp))
    · exact LamX.TabS.nil (hH (cx2, t2) (by simp))
    · exact LamX.TabS.nil (hH (cx3, t3) (by simp))
  · have T0 := hT (cx0, t0) (by simp)
    have T1 := hT (cx1, t1) (by simp)
    have T2 := hT (cx2, t2) (by simp)
    have T3 := hT (cx3, t3) (by simp)
    have hu0 : ∀ q ∈ TT, q.1 = t0 → q.2 = ("_law_less_right" : Str) ++ ".<locals>." ++ "<lambda>" := by
      rw [eTT]
      intro p hp e
      simp only [List.mem_cons, List.not_mem_nil, or_false] at hp
      rcases hp with rfl | rfl | rfl | rfl
      · rfl
      · exact absurd e.symm nt01
      · exact absurd e.symm nt02
      · exact absurd e.symm nt03
    have hm0 : (t0, ("_law_less_right" : Str) ++ ".<locals>." ++ "<lambda>") ∈ TT := by rw [eTT]; simp
    have hu1 : ∀ q ∈ TT, q.1 = t1 → q.2 = ("_law_more_right" : Str) ++ ".<locals>." ++ "<lambda>" := by
      rw [eTT]
      intro p hp e
      simp only [List.mem_cons, List.not_mem_nil, or_false] at hp
      rcases hp with rfl | rfl | rfl | rfl
      · exact absurd e nt01
      · rfl
      · exact absurd e.symm nt12
      · exact absurd e.symm nt13
    have hm1 : (t1, ("_law_more_right" : Str) ++ ".<locals>." ++ "<lambda>") ∈ TT := by rw [eTT]; simp
    have hu2 : ∀ q ∈ TT, q.1 = t2 → q.2 = ("_law_full_right" : Str) ++ ".<locals>." ++ "<lambda>" := by
      rw [eTT]
      intro p hp e
      simp only [List.mem_cons, List.not_mem_nil, or_false] at hp
      rcases hp with rfl | rfl | rfl | rfl
      · exact absurd e nt02
      · exact absurd e nt12
      · rfl
      · exact absurd e.symm nt23
    have hm2 : (t2, ("_law_full_right" : Str) ++ ".<locals>." ++ "<lambda>") ∈ TT := by rw [eTT]; simp
    have hu3 : ∀ q ∈ TT, q.1 = t3 → q.2 = ("law" : Str) ++ ".<locals>." ++ "<lambda>" := by
      rw [eTT]
      intro p hp e
      simp only [List.mem_cons, List.not_mem_nil, or_false] at hp
      rcases hp with rfl | rfl | rfl | rfl
      · exact absurd e nt03
      · exact absurd e nt13
      · exact absurd e nt23
      · rfl
    have hm3 : (t3, ("law" : Str) ++ ".<locals>." ++ "<lambda>") ∈ TT := by rw [eTT]; simp
    have CL0 : CalG PySem.Challenge.rw_seencursors_k03_roads.prog w K mg base CX0 12 "_law_less_right" ["pen", "one", "road_here"] (spLes PySem.Challenge.rw_seencursors_k03_roads.prog w K C TT) := ⟨f25, _, ok_les (cU := a1) (TT := TT) F25 B4 TW WD T0 TR hm0 hu0 (C11 base) (CS2 base) (C23 base) (C17 base) (C22 base) (CP5 base), PySem.W.mg_of X G n25, k25_, b25⟩
    have CL1 : CalG PySem.Challenge.rw_seencursors_k03_roads.prog w K mg base CX0 12 "_law_more_right" ["pen", "one", "road_here"] (spMor PySem.Challenge.rw_seencursors_k03_roads.prog w K C TT) := ⟨f26, _, ok_mor (TT := TT) F26 B4 TW WD T1 TR hm1 hu1 (C11 base) (C20 base) (C23 base) (C16 base) (C22 base) (CP6 base) (CE base), PySem.W.mg_of X G n26, k26_, b26⟩
    have CL2 : CalG PySem.Challenge.rw_seencursors_k03_roads.prog w K mg base CX0 12 "_law_full_right" ["pen", "road_here"] (spFrr PySem.Challenge.rw_seencursors_k03_roads.prog w K C TT) := ⟨f27, _, ok_frr (TT := TT) F27 B4 TW WD T2 hm2 hu2 (C24 base) (C15 base) (C22 base) (C18 base) (C8 base), PySem.W.mg_of X G n27, k27_, b27⟩
    exact ok_lw3 (TT := TT) F29 B4 TW WD T3 TR CO KO hm3 hu3 (C9 base) (C11 base) (C19 base) (C13 base) (C20 base) CL0 CL1 CL2 (C24 base) (C15 base) (C17 base) (C22 base) (C28 base) (C18 base) (C8 base) (CP4 base) (CE base) (CR base)
end Own
open PySem PySem.W PyProof.Rows
set_option maxRecDepth 100000 in
set_option maxHeartbeats 0 in
theorem PySem.Challenge.cw_seencursors_k03_roads_holds : PySem.Challenge.rw_seencursors_k03_roads.Holds := by
  w_on; o_law; k_head; (case hw => w_witness2)
  k_fill
  refine Own.walk_gT (n := 63) (k := 13) (x := "script") rfl (by decide) rfl ⟨rfl, by decide, by decide⟩ ?F
  case F =>
    intro w mg fa h Y G hmg
    refine' Own.all_mk (km_in_of Y) (km_tabs_of Y) G hmg ?n0 ?l0 ?c0 ?k0_ ?n1 ?l1 ?c1 ?k1_ ?n2 ?l2 ?c2 ?k2_ ?n3 ?l3 ?c3 ?k3_ ?n4 ?l4 ?c4 ?k4_ ?n5 ?l5 ?c5 ?k5_ ?n6 ?l6 ?c6 ?k6_ ?n7 ?l7 ?c7 ?k7_ ?n8 ?l8 ?c8 ?k8_ ?n9 ?l9 ?c9 ?k9_ ?n10 ?l10 ?c10 ?k10_ ?n11 ?l11 ?c11 ?k11_ ?n12 ?l12 ?c12 ?k12_ ?n13 ?l13 ?c13 ?k13_ ?n14 ?l14 ?c14 ?k14_ ?n15 ?l15 ?c15 ?k15_ ?n16 ?l16 ?c16 ?k16_ ?n17 ?l17 ?c17 ?k17_ ?n18 ?l18 ?c18 ?k18_ ?n19 ?l19 ?c19 ?k19_ ?n20 ?l20 ?c20 ?k20_ ?n21 ?l21 ?c21 ?k21_ ?n22 ?l22 ?c22 ?k22_ ?n23 ?l23 ?c23 ?k23_ ?n24 ?l24 ?c24 ?k24_ ?n25 ?l25 ?c25 ?k25_ ?n26 ?l26 ?c26 ?k26_ ?n27 ?l27 ?c27 ?k27_ ?n28 ?l28 ?c28 ?k28_ ?n29 ?l29 ?c29 ?k29_ ?gC ?rC ?m0 ?le0 ?ce0 ?m1 ?r1 ?le1 ?ce1 ?m2 ?r2 ?le2 ?ce2 ?m3 ?r3 ?le3 ?ce3 ?m4 ?le4 ?ce4 ?m5 ?le5 ?ce5 ?m6 ?le6 ?ce6 ?m7 ?le7 ?ce7 ?mC ?pC ?ga0 ?ga1 ?ga2 ?ga3 ?z_type ?z_isinstance ?z_int ?z_bool ?z_tuple ?z_len ?z_all ?z_repr ?z_enumerate ?z_range ?z_list ?z_set ?z_sorted ?z_min ?z_ValueError ?mW ?e_ ?h0_ ?u0_ ?h1_ ?u1_ ?h2_ ?u2_ ?h3_ ?u3_ ?ne01 ?ne02 ?ne03 ?ne12 ?ne13 ?ne23
    (case n0 => k_is)
    (case l0 => k_is)
    (case c0 => k_is)
    (case k0_ => k_is)
    (case n1 => k_is)
    (case l1 => k_is)
    (case c1 => k_is)
    (case k1_ => k_is)
    (case n2 => k_is)
    (case l2 => k_is)
    (case c2 => k_is)
    (case k2_ => k_is)
    (case n3 => k_is)
    (case l3 => k_is)
    (case c3 => k_is)
    (case k3_ => k_is)
    (case n4 => k_is)
    (case l4 => k_is)
    (case c4 => k_is)
    (case k4_ => k_is)
    (case n5 => k_is)
    (case l5 => k_is)
    (case c5 => k_is)
    (case k5_ => k_is)
    (case n6 => k_is)
    (case l6 => k_is)
    (case c6 => k_is)
    (case k6_ => k_is)
    (case n7 => k_is)
    (case l7 => k_is)
    (case c7 => k_is)
    (case k7_ => k_is)
    (case n8 => k_is)
    (case l8 => k_is)
    (case c8 => k_is)
    (case k8_ => k_is)
    (case n9 => k_is)
    (case l9 => k_is)
    (case c9 => k_is)
    (case k9_ => k_is)
    (case n10 => k_is)
    (case l10 => k_is)
    (case c10 => k_is)
    (case k10_ => k_is)
    (case n11 => k_is)
    (case l11 => k_is)
    (case c11 => k_is)
    (case k11_ => k_is)
    (case n12 => k_is)
    (case l12 => k_is)
    (case c12 => k_is)
    (case k12_ => k_is)
    (case n13 => k_is)
    (case l13 => k_is)
    (case c13 => k_is)
    (case k13_ => k_is)
    (case n14 => k_is)
    (case l14 => k_is)
    (case c14 => k_is)
    (case k14_ => k_is)
    (case n15 => k_is)
    (case l15 => k_is)
    (case c15 => k_is)
    (case k15_ => k_is)
    (case n16 => k_is)
    (case l16 => k_is)
    (case c16 => k_is)
    (case k16_ => k_is)
    (case n17 => k_is)
    (case l17 => k_is)
    (case c17 => k_is)
    (case k17_ => k_is)
    (case n18 => k_is)
    (case l18 => k_is)
    (case c18 => k_is)
    (case k18_ => k_is)
    (case n19 => k_is)
    (case l19 => k_is)
    (case c19 => k_is)
    (case k19_ => k_is)
    (case n20 => k_is)
    (case l20 => k_is)
    (case c20 => k_is)
    (case k20_ => k_is)
    (case n21 => k_is)
    (case l21 => k_is)
    (case c21 => k_is)
    (case k21_ => k_is)
    (case n22 => k_is)
    (case l22 => k_is)
    (case c22 => k_is)
    (case k22_ => k_is)
    (case n23 => k_is)
    (case l23 => k_is)
    (case c23 => k_is)
    (case k23_ => k_is)
    (case n24 => k_is)
    (case l24 => k_is)
    (case c24 => k_is)
    (case k24_ => k_is)
    (case n25 => k_is)
    (case l25 => k_is)
    (case c25 => k_is)
    (case k25_ => k_is)
    (case n26 => k_is)
    (case l26 => k_is)
    (case c26 => k_is)
    (case k26_ => k_is)
    (case n27 => k_is)
    (case l27 => k_is)
    (case c27 => k_is)
    (case k27_ => k_is)
    (case n28 => k_is)
    (case l28 => k_is)
    (case c28 => k_is)
    (case k28_ => k_is)
    (case n29 => k_is)
    (case l29 => k_is)
    (case c29 => k_is)
    (case k29_ => k_is)
    (case gC => k_is)
    (case rC => kernel_rfl)
    (case m0 => k_is)
    (case le0 => k_is)
    (case ce0 => k_is)
    (case m1 => k_is)
    (case r1 => k_is)
    (case le1 => k_is)
    (case ce1 => k_is)
    (case m2 => k_is)
    (case r2 => k_is)
    (case le2 => k_is)
    (case ce2 => k_is)
    (case m3 => k_is)
    (case r3 => k_is)
    (case le3 => k_is)
    (case ce3 => k_is)
    (case m4 => k_is)
    (case le4 => k_is)
    (case ce4 => k_is)
    (case m5 => k_is)
    (case le5 => k_is)
    (case ce5 => k_is)
    (case m6 => k_is)
    (case le6 => k_is)
    (case ce6 => k_is)
    (case m7 => k_is)
    (case le7 => k_is)
    (case ce7 => k_is)
    (case mC => kernel_rfl)
    (case pC => kernel_rfl)
    (case ga0 => k_is)
    (case ga1 => k_is)
    (case ga2 => k_is)
    (case ga3 => k_is)
    (case z_type => k_is)
    (case z_isinstance => k_is)
    (case z_int => k_is)
    (case z_bool => k_is)
    (case z_tuple => k_is)
    (case z_len => k_is)
    (case z_all => k_is)
    (case z_repr => k_is)
    (case z_enumerate => k_is)
    (case z_range => k_is)
    (case z_list => k_is)
    (case z_set => k_is)
    (case z_sorted => k_is)
    (case z_min => k_is)
    (case z_ValueError => k_is)
    (case mW => k_is)
    (case e_ => kernel_rfl)
    (case h0_ => kernel_rfl)
    (case u0_ => kernel_rfl)
    (case h1_ => kernel_rfl)
    (case u1_ => kernel_rfl)
    (case h2_ => kernel_rfl)
    (case u2_ => kernel_rfl)
    (case h3_ => kernel_rfl)
    (case u3_ => kernel_rfl)
    (case ne01 => rfl)
    (case ne02 => rfl)
    (case ne03 => rfl)
    (case ne12 => rfl)
    (case ne13 => rfl)
    (case ne23 => rfl)
