import PyProof.Rows.All
import Wide.All
import OpenK.AllK
import Wide.FinOn
import HandS.ForMost
import HandS.Wide
import HandS.SortKw
import HandS.List
import HandS.More
import HandS.Conv
import HandS.Lambda
import PyProof.TypeEq
import HandS.SetKeys
import PyProof.InstEq
import HandS.SetBool
import HandS.Strs
import HandS.IsInst
import HandS.Walk
import HandS.Style
import HandS.Set
import HandS.TupAny
import PyProof.NeKinds
import HandS.SortInts
import KE.GoesEnumKw
import HandS.Dict
import PyProof.DictUpdate
import HandS.DictComp
import HandS.Gcd
import KE.KMathGC
import HandS.Zip
import PyProof.ReprRoads
import HandS.FStrTup
import HandS.Words
import HandS.Deep
import HandS.RaiseMore
import HandS.EndTab
import HandS.Head0
import HandS.Head1
import HandS.Head2
import HandS.Head3
import HandS.HeadEnd
import HandS.HeadHook1
import HandS.HeadHook2
import HandS.HeadHook3
import HandS.HeadHook4
import PySem.Challenge.RW_turnless_k11_rounds_and_how_often
set_option Elab.async false
set_option linter.all false
set_option maxRecDepth 100000
set_option maxHeartbeats 0
-- part: A0
namespace Toy
open PySem L2
/-! ### readings, evaluated -/
section
variable {D : Ends} {σ : St} {H : Hp} {Q : VK}
theorem e_seq {t u : TS} : tSeq t u D σ H = t { D with nx := u D } σ H := rfl
theorem e_asg {te : TE} {i : Nat} : tAsg te (gName i) D σ H = te σ H fun x H1 => D.nx (σ.set i (some x)) H1 := rfl
theorem e_asgS {te to ti : TE} {t : TSet} : tAsg te (gSub to ti t) D σ H = te σ H fun v H1 => to σ H1 fun o H2 => ti σ H2 fun i H3 => t o i v H3 fun H4 => D.nx σ H4 := rfl
theorem e_ret {te : TE} : tRet te D σ H = te σ H D.rt := rfl
theorem e_ifS {c : TT} {t u : TS} : tIfS c t u D σ H = c σ H fun b H1 => if b = true then t D σ H1 else u D σ H1 := rfl
theorem e_c {v : V} : tC v σ H Q = Q v H := rfl
theorem e_op {r : R2} {ta tb : TE} : tOp r ta tb σ H Q = ta σ H fun x H1 => tb σ H1 fun y H2 => r x y H2 Q := rfl
theorem e_test {te : TE} {q : Bool → Hp → Prop} : tTest te σ H q = te σ H fun x H1 => ∃ c, x = .bl c ∧ q c H1 := rfl
theorem e_rI0 {g : Int → Int → V} {i j : Int} : rI0 g (.int i) (.int j) H Q = Q (g i j) H := by
  refine propext ⟨?_, fun h => ⟨_, _, rfl, rfl, h⟩⟩
  rintro ⟨a, b, e1, e2, h⟩; cases e1; cases e2; exact h
theorem e_rI {C : Int → Int → Prop} {g : Int → Int → V} {i j : Int} : rI C g (.int i) (.int j) H Q = (C i j ∧ Q (g i j) H) := by
  refine propext ⟨?_, fun h => ⟨_, _, rfl, rfl, h⟩⟩
  rintro ⟨a, b, e1, e2, h⟩; cases e1; cases e2; exact h
theorem e_var0 {v : V} {s : List (Option V)} : tVar 0 (some v :: s) H Q = Q v H := by
  refine propext ⟨?_, fun h => ⟨_, rfl, h⟩⟩
  rintro ⟨a, e, h⟩; cases e; exact h
theorem e_varS {o : Option V} {n : Nat} {s : List (Option V)} : tVar (n + 1) (o :: s) H Q = tVar n s H Q := rfl
theorem e_bl {b : Bool} {q : Bool → Prop} : (∃ c, V.bl b = V.bl c ∧ q c) = q b := by
  refine propext ⟨?_, fun h => ⟨_, rfl, h⟩⟩
  rintro ⟨a, e, h⟩; cases e; exact h
theorem e_nil {q : List V → Hp → Prop} : tNil σ H q = q [] H := rfl
theorem e_cons {ta : TE} {t : TA} {q : List V → Hp → Prop} : tCons ta t σ H q = ta σ H fun x H1 => t σ H1 fun xs H2 => q (x :: xs) H2 := rfl
theorem e_call {sp : Sp} {dvs : List V} {E : XK} {t : TA} : tCall sp dvs E t σ H Q = t σ H fun vs H1 => sp (vs ++ dvs) H1 Q E := rfl
theorem e_cb {r : List V → Hp → VK → Prop} {t : TA} : tCB r t σ H Q = t σ H fun vs H1 => r vs H1 Q := rfl
theorem e_next : tNext D σ H = D.nx σ H := rfl
theorem e_bl2 {b : Bool} {q : Bool → Hp → Prop} : (∃ c, V.bl b = V.bl c ∧ q c H) = q b H := by
  refine propext ⟨?_, fun h => ⟨_, rfl, h⟩⟩
  rintro ⟨a, e, h⟩; cases e; exact h
end
section
variable {D : Ends} {σ : St} {H : Hp} {Q : VK}
theorem e_and {a b : TE} : tAndV a b σ H Q = a σ H fun x H1 => ∃ c, x = .bl c ∧ if c = true then b σ H1 Q else Q (.bl false) H1 := rfl
theorem e_chain {r r' : R2} {a b c : TE} : tChain r r' a b c σ H Q = a σ H fun x H1 => b σ H1 fun y H2 => r x y H2 fun z H3 => ∃ k, z = .bl k ∧ (if k = true then c σ H3 fun w' H4 => r' y w' H4 Q else Q (.bl false) H3) := rfl
theorem e_tif {t : TT} {a b : TE} : tIf t a b σ H Q = t σ H fun c H1 => if c = true then a σ H1 Q else b σ H1 Q := rfl
theorem e_not {t : TT} {q : Bool → Hp → Prop} : tNot t σ H q = t σ H fun c H1 => q (!c) H1 := rfl
theorem e_tb {t : TE} {q : Bool → Hp → Prop} : tB t σ H q = t σ H fun x H1 => ∃ c, x = .bl c ∧ q c H1 := rfl
theorem e_drop {te : TE} : tDrop te D σ H = te σ H fun _ H1 => D.nx σ H1 := rfl
theorem e_or {t u : TT} {q : Bool → Hp → Prop} : tOr t u σ H q = t σ H fun c H1 => if c = true then q true H1 else u σ H1 q := rfl
theorem e_andT {t u : TT} {q : Bool → Hp → Prop} : tAnd t u σ H q = t σ H fun c H1 => if c = true then u σ H1 q else q false H1 := rfl
theorem e_din {ty td : TE} : tDIn ty td σ H Q = ty σ H fun y H1 => td σ H1 fun x H2 => ∃ a o, x = .ref a ∧ DGet H2 a y o ∧ Q (.bl o.isSome) H2 := rfl
theorem e_dnotin {ty td : TE} : tDNotIn ty td σ H Q = ty σ H fun y H1 => td σ H1 fun x H2 => ∃ a o, x = .ref a ∧ DGet H2 a y o ∧ Q (.bl (!o.isSome)) H2 := rfl
theorem e_un {r : V → Hp → VK → Prop} {ta : TE} : tUn r ta σ H Q = ta σ H fun x H1 => r x H1 Q := rfl
theorem e_rU {g : Int → V} {i : Int} : rU g (.int i) H Q = Q (g i) H := by
  refine propext ⟨?_, fun h => ⟨_, rfl, h⟩⟩
  rintro ⟨a, e, h⟩; cases e; exact h
theorem e_dput {td ty tv : TE} : sDPut td ty tv D σ H = tv σ H fun v H1 => td σ H1 fun x H2 => ty σ H2 fun y H3 => ∃ a H4, x = .ref a ∧ DPut H3 a y v H4 ∧ D.nx σ H4 := rfl
theorem e_x1 {v : V} {q : V → Prop} : (∃ x, [v] = [x] ∧ q x) = q v := by
  refine propext ⟨?_, fun h => ⟨_, rfl, h⟩⟩
  rintro ⟨i, e, h⟩; cases e; exact h
theorem e_notV {a : TE} : tNotV a σ H Q = a σ H fun x H1 => ∃ c, x = .bl c ∧ Q (.bl (!c)) H1 := rfl
theorem e_orV {a b : TE} : tOrV a b σ H Q = a σ H fun x H1 => ∃ c, x = .bl c ∧ if c = true then Q (.bl true) H1 else b σ H1 Q := rfl
theorem e_fld {K : PySem.W.Frag} {ta tv : TE} {f : Str} : sFld K ta tv f D σ H = tv σ H fun y H1 => ta σ H1 fun x H2 => ∃ a C dx fs, x = .ref a ∧ H2 a = some (.ins C dx fs) ∧ Cls K C ∧ NoAttr K C f ∧ fs.length < 1000 ∧ D.nx σ (upd H2 a (.ins C dx (putF f y fs))) := rfl
theorem e_par {i j : Nat} {ta : TA} : tPar i j ta D σ H = ta σ H fun vs H1 => ∃ v w, vs = [v, w] ∧ D.nx ((σ.set i (some v)).set j (some w)) H1 := rfl
theorem e_vw {a b : V} {q : V → V → Prop} : (∃ v w, [a, b] = [v, w] ∧ q v w) = q a b := by
  refine propext ⟨?_, fun h => ⟨_, _, rfl, h⟩⟩
  rintro ⟨i, j, e, h⟩; cases e; exact h
theorem e_dnewK : tDNewK σ H Q = ∀ p, H p = none → Q (.ref p) (upd H p (.dK [])) := rfl
theorem e_gName {i : Nat} {v : V} {q : St → Hp → Prop} : gName i v σ H q = q (σ.set i (some v)) H := rfl
theorem e_bm {K : PySem.W.Frag} {T : String} {r : V → List V → Hp → VK → Prop} {to : TE} {t : TA} : tBM K T r to t σ H Q = to σ H fun x H1 => tyV K T x H1 ∧ t σ H1 fun xs H2 => r x xs H2 Q := rfl
theorem e_i1 {a : Int} {q : Int → Prop} : (∃ i, [V.int a] = [V.int i] ∧ q i) = q a := by
  refine propext ⟨?_, fun h => ⟨_, rfl, h⟩⟩
  rintro ⟨i, e, h⟩; cases e; exact h
end
theorem p_ix {K : PySem.W.Frag} {H : Hp} {Q : VK} {p : Addr} {xs : List V} {i : Int} {v : V} (h : SqL K H p xs) (e : atI xs i = some v) (q : Q v H) : rIxL K (.ref p) (.int i) H Q := ⟨p, xs, i, v, rfl, rfl, h, e, q⟩
theorem p_set {H : Hp} {Q : Hp → Prop} {p : Addr} {xs : List V} {i : Int} {j : Nat} {v : V} (h : H p = some (.lst xs)) (e : ixN xs.length i = some j) (q : Q (upd H p (.lst (xs.set j v)))) : rSetL (.ref p) (.int i) v H Q := ⟨p, xs, i, j, rfl, rfl, h, e, q⟩
theorem e_cxK {CX : CXT} {P : Program} {w : World} {K : PySem.W.Frag} {mg : Str → Option Value} {base : Heap} {N : List Str} {qual : Str} {sc : Scope} {f : Addr} {cdv : Value} {A : Around} {outer : List Env} {s : Shared} {H : Hp} {E : XK} : (cxOf CX P w K mg base N qual sc f cdv A outer s H E).K = K := rfl
theorem e_ii {a b : Int} {q : Int → Int → Prop} : (∃ i j, [V.int a, V.int b] = [V.int i, V.int j] ∧ q i j) = q a b := by
  refine propext ⟨?_, fun h => ⟨_, _, rfl, h⟩⟩
  rintro ⟨i, j, e, h⟩; cases e; exact h
theorem e_lst {t : TA} {σ : St} {H : Hp} {Q : VK} : tLst t σ H Q = t σ H fun xs H1 => xs.length ≤ sizeLine ∧ ∀ p, H1 p = none → Q (.ref p) (upd H1 p (.lst xs)) := rfl
theorem e_tup {t : TA} {σ : St} {H : Hp} {Q : VK} : tTup t σ H Q = t σ H fun xs H1 => xs.length ≤ sizeLine ∧ ∀ p, H1 p = none → Q (.ref p) (upd H1 p (.tup xs)) := rfl
theorem p_neD {K : PySem.W.Frag} {H : Hp} {Q : VK} {x y : V} {d e : PyData} (hd : Dp K H x d) (he : Dp K H y e) (sd : SeqAt.shaped d = true) (se : SeqAt.shaped e = true) (q : Q (.bl (!PyData.eqv d e)) H) : rNeD K x y H Q := ⟨d, e, hd, he, sd, se, q⟩
theorem p_eqD {K : PySem.W.Frag} {H : Hp} {Q : VK} {x y : V} {d e : PyData} (hd : Dp K H x d) (he : Dp K H y e) (sd : SeqAt.shaped d = true) (se : SeqAt.shaped e = true) (q : Q (.bl (PyData.eqv d e)) H) : rEqD K x y H Q := ⟨d, e, hd, he, sd, se, q⟩
theorem at_ints {ns : List Int} {i : Int} (h0 : 0 ≤ i) (h1 : i < ns.length) : ∃ z, atI (ns.map V.int) i = some (V.int z) := by
  obtain ⟨j, rfl⟩ := Int.eq_ofNat_of_zero_le h0
  have hj : j < ns.length := by omega
  refine ⟨ns[j], atI_nat ?_⟩
  rw [List.getElem?_map, List.getElem?_eq_getElem hj]
  rfl
theorem p_app {H : Hp} {Q : VK} {l : Addr} {xs : List V} {y : V} (h : H l = some (.lst xs)) (z : xs.length < sizeLine) (q : Q .non (upd H l (.lst (xs ++ [y])))) : rAppend (.ref l) [y] H Q := ⟨l, xs, y, rfl, rfl, h, z, q⟩
/-! ### what stands but for one object -/
def Ex (d : Addr) (H H' : Hp) : Prop := ∀ b o, H b = some o → b ≠ d → H' b = some o
theorem Ex.refl (d : Addr) (H : Hp) : Ex d H H := fun _ _ h _ => h
theorem Ex.trans {d : Addr} {H H1 H2 : Hp} (a : Ex d H H1) (b : Ex d H1 H2) : Ex d H H2 := fun c o h n => b c o (a c o h n) n
theorem Ex.new {d p : Addr} {H : Hp} {o : HO} (h : H p = none) : Ex d H (upd H p o) := fun b u e _ => by rw [upd_ne (ne_of_none e h)]; exact e
theorem Ex.at {d : Addr} {H : Hp} {o : HO} : Ex d H (upd H d o) := fun b u e n => by rw [upd_ne n]; exact e
theorem Ex.same {d : Addr} {H H' : Hp} (e : Same H H') : Ex d H H' := fun b o h _ => e b o h
theorem Ex.sql {d : Addr} {K : PySem.W.Frag} {H H' : Hp} {a : Addr} {xs : List V} (e : Ex d H H') (n : a ≠ d) (h : SqL K H a xs) : SqL K H' a xs := by
  rcases h with (h | ⟨o, h⟩) | h
  · exact .inl (.inl (e _ _ h n))
  · exact .inl (.inr ⟨o, e _ _ h n⟩)
  · exact .inr h
theorem Same.new {p : Addr} {H : Hp} {o : HO} (h : H p = none) : Same H (upd H p o) := fun b u e => by rw [upd_ne (ne_of_none e h)]; exact e
/-- the draws: a list of the script and a count -/
structure Dr (K : PySem.W.Frag) (H : Hp) (d sc : Addr) (ns : List Int) (n : Int) : Prop where
  dr : H d = some (.lst [.ref sc, .int n])
  sq : SqL K H sc (ns.map V.int)
  len : ns.length ≤ 63
  pos : 0 ≤ n
def DrOk (K : PySem.W.Frag) (H : Hp) (d : Addr) : Prop := ∃ sc ns n, Dr K H d sc ns n
theorem DrOk.same {K : PySem.W.Frag} {H H' : Hp} {d : Addr} (e : Same H H') : DrOk K H d → DrOk K H' d := fun ⟨sc, ns, n, h⟩ => ⟨sc, ns, n, e _ _ h.dr, Same.seq e h.sq, h.len, h.pos⟩
theorem DrOk.nd {K : PySem.W.Frag} {H : Hp} {d p : Addr} (h : DrOk K H d) (hp : H p = none) : p ≠ d := fun e => by
  obtain ⟨sc, ns, n, D⟩ := h
  rw [e, D.dr] at hp
  cases hp
theorem ne_ints {sc : Addr} {n : V} {ns : List Int} {r : List V} : ns.map V.int ≠ V.ref sc :: r := fun e => by
  cases ns with
  | nil => cases e
  | cons a l => cases e
theorem Dr.sqx {K : PySem.W.Frag} {H H' : Hp} {d sc : Addr} {ns : List Int} {n : Int} (D : Dr K H d sc ns n) (e : Ex d H H') : SqL K H' sc (ns.map V.int) := by
  have h := D.sq
  have hd := D.dr
  rcases h with (h | ⟨o, h⟩) | h
  · exact .inl (.inl (e _ _ h fun z => by
      rw [z, hd] at h
      exact ne_ints (n := .non) (HO.lst.inj (Option.some.inj h)).symm))
  · exact .inl (.inr ⟨o, e _ _ h fun z => by
      rw [z, hd] at h
      cases h⟩)
  · exact .inr h
def DrA (K : PySem.W.Frag) (sc : Addr) (ns : List Int) (H : Hp) (d : Addr) : Prop := ∃ n, Dr K H d sc ns n
theorem DrA.same {K : PySem.W.Frag} {sc : Addr} {ns : List Int} {H H' : Hp} {d : Addr} (e : Same H H') : DrA K sc ns H d → DrA K sc ns H' d := fun ⟨n, h⟩ => ⟨n, e _ _ h.dr, Same.seq e h.sq, h.len, h.pos⟩
theorem DrA.nd {K : PySem.W.Frag} {sc : Addr} {ns : List Int} {H : Hp} {d p : Addr} (h : DrA K sc ns H d) (hp : H p = none) : p ≠ d := DrOk.nd ⟨_, _, h⟩ hp
/-- a write to an object that was made since -/
theorem DrA.up {K : PySem.W.Frag} {sc : Addr} {ns : List Int} {H0 H : Hp} {d p : Addr} {o : HO} (h0 : DrA K sc ns H0 d) (h : DrA K sc ns H d) (e : Ex d H0 H) (hp : H0 p = none) : DrA K sc ns (upd H p o) d := by
  obtain ⟨n0, D0⟩ := h0
  obtain ⟨n, D⟩ := h
  have nd := DrA.nd ⟨n0, D0⟩ hp
  exact ⟨n, by rw [upd_ne (Ne.symm nd)]; exact D.dr, Dr.sqx D0 (fun b o hb n => by rw [upd_ne (ne_of_none hb hp)]; exact e b o hb n), D.len, D.pos⟩
theorem Ex.up {d p : Addr} {H0 H : Hp} {o : HO} (e : Ex d H0 H) (hp : H0 p = none) : Ex d H0 (upd H p o) := fun b o hb n => by rw [upd_ne (ne_of_none hb hp)]; exact e b o hb n
theorem can_ints : ∀ (l : List Int), PyData.canLayAll0 (l.map PyData.int) = true
  | [] => by simp [PyData.canLayAll0]
  | i :: r => by simp [PyData.canLayAll0, PyData.canLay0, can_ints r]
theorem dep_ints : ∀ (l : List Int), PyData.depthAll (l.map PyData.int) ≤ 1
  | [] => by simp [PyData.depthAll]
  | i :: r => by
    have h := dep_ints r
    simp [PyData.depthAll, PyData.depth] <;> omega
theorem shaped_lints (l : List Int) : SeqAt.shaped (.list (l.map PyData.int)) = true := by
  have h := dep_ints l
  unfold SeqAt.shaped
  rw [Bool.and_eq_true]
  refine ⟨by simp [PyData.canLay0, can_ints], decide_eq_true ?_⟩
  simp only [PyData.depth]
  omega
theorem dp_ints {K : PySem.W.Frag} {H : Hp} : ∀ (l : List Int), DpAll K H (l.map V.int) (l.map PyData.int)
  | [] => .nil
  | i :: r => .cons (.int i) (dp_ints r)
end Toy

-- part: SK1
namespace SrtQ
open PySem PyProof.Rows Srt SrtO
section
variable {prog : Program} {w : World} {A : Around} {E : Value → Shared → Prop} {s : Shared} {a kS : Addr} {e1 : Nat} {vs : List Value}
/-- what runs behind the keys: out is made of the pairs (key, item) in order -/
def Good (ltk : Value → Value → Bool) (ks vs out : List Value) : Prop := ∃ ps : List Keyed, Srtd (lt2 ltk) ps ∧ Stb (lt2 ltk) ps (ks.zip vs) ∧ out = ps.map (·.2)
def endH (h : Heap) (a kS : Addr) (out : List Value) : Heap := (h.update kS (Obj.mapSeq fun _ => (#[] : Array Value))).update a (Obj.mapSeq fun _ => out.toArray)
theorem zip_arr (ks vs : List Value) : (ks.toArray.zip vs.toArray).toList = ks.zip vs := by
  rw [ksk_zip]
theorem tail_ {ltk : Value → Value → Bool} {ks : List Value} {e : Nat} {st : SortSt} {R : PySem.Fin → Shared → Prop} (hka : kS ≠ a) (hk : s.heap.get? kS = some (seqObj "list" ks.toArray e)) (ha : s.heap.get? a = some (seqObj "list" #[] e1))
    (hl : ks.length = vs.length) (hz : vs.length ≤ sizeLine) (h1 : Srtd (lt2 ltk) (arrOf st).toList) (h2 : Stb (lt2 ltk) (arrOf st).toList (ks.zip vs)) (hf : failedOf st = none)
    (h : ∀ out tk, Good ltk ks vs out → R (.done (.ret .none)) { s with heap := endH s.heap a kS out, toks := tk }) :
    wpAny (model prog w) A (ksk_tail a false e1 (.ref kS) st) R E s := by
  have s1 := Heap.SameBut.update s.heap kS (Obj.mapSeq fun _ => (#[] : Array Value))
  have na1 : (s.heap.update kS (Obj.mapSeq fun _ => (#[] : Array Value))).get? a = some (seqObj "list" #[] e1) := (s1.2 a hka.symm).trans ha
  have hsz : (arrOf st).size = vs.length := by
    have q := h2.len
    rw [Array.length_toList, List.length_zip, hl, Nat.min_self] at q
    exact q
  unfold ksk_tail
  try dsimp only
  refine wpAny_bind (listUpdate_at hk rfl ?_ (by rw [List.size_toArray, hl]; exact hz) (Nat.zero_le _))
  refine wpAny_bind (wpAny_letGo ?_)
  refine wpAny_bind (seqEpoch_at na1 rfl ?_)
  refine wpAny_bind (listUpdate_at na1 rfl ?_ (Nat.zero_le _) ?_)
  · rw [hf]
    simp only [bne_self_eq_false, Bool.false_eq_true, if_false]
    have q := h ((arrOf st).toList.map (·.2)) s.toks ⟨_, h1, h2, rfl⟩
    have e2 : ((arrOf st).toList.map (·.2)).toArray = (arrOf st).map (·.2) := by
      apply Array.ext'
      simp
    unfold endH at q
    rw [e2] at q
    exact wpAny_pure q
  · simp only [Bool.false_eq_true, if_false, Array.size_map]
    omega
theorem end_ {ltk : Value → Value → Bool} {ks : List Value} {e : Nat} {R : PySem.Fin → Shared → Prop} (O : Swo ltk) (hka : kS ≠ a) (hk : s.heap.get? kS = some (seqObj "list" ks.toArray e)) (ha : s.heap.get? a = some (seqObj "list" #[] e1))
    (hl : ks.length = vs.length) (hz : vs.length ≤ sizeLine)
    (hS : 2 ≤ vs.length → ∃ κ, (∀ (Q : SortKind → Shared → Prop) (E : Value → Shared → Prop), Q κ s → wpAny (model prog w) A (keyKind' ks.toArray) Q E s) ∧ Cmp prog w A s κ (fun p => p.1 ∈ ks) (lt2 ltk))
    (h : ∀ out tk, Good ltk ks vs out → R (.done (.ret .none)) { s with heap := endH s.heap a kS out, toks := tk }) :
    wpAny (model prog w) A (ksk_end a false vs.toArray e1 (.ref kS) ks.toArray) R E s := by
  unfold ksk_end
  try dsimp only
  simp only [Bool.false_eq_true, if_false]
  by_cases h2 : vs.toArray.size < 2
  · rw [if_pos h2, if_pos h2]
    refine wpAny_bind (wpAny_pure ?_)
    rw [StateT.run_pure]
    refine wpAny_bind (wpAny_pure ?_)
    try dsimp only
    refine tail_ (st := SortSt.mk' general' (ks.toArray.zip vs.toArray) #[] 7 none) hka hk ha hl hz ?_ ?_ rfl h
    · show Srtd (lt2 ltk) (ks.toArray.zip vs.toArray).toList
      rw [zip_arr]
      rw [List.size_toArray] at h2
      match ks, vs, hl, h2 with
      | [], [], _, _ => exact List.Pairwise.nil
      | [k], [v], _, _ => exact List.pairwise_singleton _ _
      | _ :: _ :: _, _, hl, h2 => exact absurd h2 (by rw [← hl, List.length_cons, List.length_cons]; omega)
    · show Stb (lt2 ltk) (ks.toArray.zip vs.toArray).toList _
      rw [zip_arr]
      exact Stb.refl _
  · rw [if_neg h2, if_neg h2]
    rw [List.size_toArray] at h2
    obtain ⟨κ, hkind, hT⟩ := hS (by omega)
    refine wpAny_bind (hkind _ _ ?_)
    have hall : AllL (fun p : Keyed => p.1 ∈ ks) (ks.toArray.zip vs.toArray).toList := fun p hm => by
      rw [zip_arr] at hm
      exact (List.of_mem_zip hm).1
    refine wpAny_bind (wpAny_mono (wpS_sortO (st0 := SortSt.mk' κ (ks.toArray.zip vs.toArray) #[] 7 none)
      (Q := fun _ st' => Srtd (lt2 ltk) (arrOf st').toList ∧ Stb (lt2 ltk) (arrOf st').toList (ks.toArray.zip vs.toArray).toList ∧ failedOf st' = none) (swo2 O) hT rfl hall rfl rfl fun st' a1 a2 a3 => ⟨a1, a2, a3⟩) ?_ fun _ _ e => e)
    rintro ⟨⟨⟩, st'⟩ s' ⟨rfl, hp1, hp2, hf⟩
    try dsimp only
    rw [zip_arr] at hp2
    exact tail_ hka hk ha hl hz hp1 hp2 hf h
/-- the keys are asked one by one; J: what is kept meanwhile, of the keys so far and of the list that takes them -/
theorem rest_ {f : Value} {R : PySem.Fin → Shared → Prop} (J : List Value → Obj → Shared → Prop) (hka : kS ≠ a)
    (hJ : ∀ ks o s', J ks o s' → s'.heap.get? kS = some o ∧ s'.heap.get? a = some (seqObj "list" #[] e1))
    (up : ∀ ks o s' ks' c, J ks o s' → (s'.heap.update kS (Obj.mapSeq fun x => x.push ks')).get? kS = some c → c.cls = .type "list" → (∀ v, c.data ≠ .cell v) → J ks c { s' with heap := s'.heap.update kS (Obj.mapSeq fun x => x.push ks') })
    (step : ∀ i x ks o s', vs[i]? = some x → ks.length = i → J ks o s' → wpAny (model prog w) A (call f [x]) (fun k s'' => J (ks ++ [k]) o s'') (fun _ _ => False) s')
    (hz : vs.length ≤ sizeLine) (h0 : J [] (seqObj "list" #[] 0) s)
    (fin : ∀ ks e s', J ks (seqObj "list" ks.toArray e) s' → ks.length = vs.length → ∃ ltk : Value → Value → Bool, Swo ltk ∧
      (2 ≤ vs.length → ∃ κ, (∀ (Q : SortKind → Shared → Prop) (E : Value → Shared → Prop), Q κ s' → wpAny (model prog w) A (keyKind' ks.toArray) Q E s') ∧ Cmp prog w A s' κ (fun p => p.1 ∈ ks) (lt2 ltk)) ∧
      ∀ out tk, Good ltk ks vs out → R (.done (.ret .none)) { s' with heap := endH s'.heap a kS out, toks := tk }) :
    wpAny (model prog w) A (ksk_rest a f false vs.toArray e1 (.ref kS)) R E s := by
  unfold ksk_rest
  refine wpAny_bind (wpAny_rule ?_)
  first
    | rw [List.forIn_toArray]
    | (rw [← Array.forIn_toList]; simp only [List.toList_toArray])
    | rw [← Array.forIn_toList]
  refine wpAny_bind (ksk_fold (fun i s' => ∃ ks e, ks.length = i ∧ J ks (seqObj "list" ks.toArray e) s') vs 0 s ⟨[], 0, rfl, h0⟩ ?step ?done)
  case step =>
    rintro j x s' hx ⟨ks, e, hl, hj⟩
    simp only [Nat.zero_add] at hl ⊢
    have hlt : j < vs.length := (List.getElem?_eq_some_iff.mp hx).1
    refine wpAny_bind (wpAny_attempt (wpAny_mono (step j x ks _ s' hx hl hj) (fun k s'' he => ?_) fun _ _ hF => hF.elim))
    have nk := (hJ _ _ _ he).1
    obtain ⟨c2, hc2⟩ : ∃ c2, (s''.heap.update kS (Obj.mapSeq (·.push k))).get? kS = some (seqObj "list" (ks.toArray.push k) c2) := ⟨_, get?_update_seq nk (·.push k)⟩
    try dsimp only
    refine wpAny_bind (listUpdate_at nk rfl ?_ (by rw [List.size_toArray]; omega) (by rw [Array.size_push, List.size_toArray]; omega))
    refine wpAny_pure ⟨rfl, ks ++ [k], c2, by rw [List.length_append, hl]; rfl, ?_⟩
    have q := up _ _ _ k _ he hc2 rfl (fun v z => by cases z)
    have e3 : (ks ++ [k]).toArray = ks.toArray.push k := by simp
    rw [e3]
    exact q
  case done =>
    rintro s' ⟨ks, e, hl, hj⟩
    simp only [Nat.zero_add] at hl
    obtain ⟨nk, na⟩ := hJ _ _ _ hj
    try dsimp only
    refine wpAny_bind (listItems_at nk rfl ?_)
    obtain ⟨ltk, O, h1, h2⟩ := fin _ _ _ hj hl
    exact end_ O hka nk na hl hz h1 h2
end
end SrtQ

-- part: SK2
namespace L2
open PySem PySem.Spec PyProof.Rows SrtO SrtQ
/-- a value without its token -/
def toV : Value → V
  | .none => .non
  | .bool b => .bl b
  | .int i _ => .int i
  | .str x _ => .str x
  | .bytes b _ => .byt b
  | .float b _ => .flt b
  | .ref a => .ref a
  | .type n => .ty n
  | _ => .non
theorem toV_of {x : V} {u : Value} (r : RelV x u) : toV u = x := by
  cases x with
  | non => cases r; rfl
  | bl b => cases r; rfl
  | int i => obtain ⟨t, rfl⟩ := r; rfl
  | str x => obtain ⟨t, rfl⟩ := r; rfl
  | byt b => obtain ⟨t, rfl⟩ := r; rfl
  | flt b => obtain ⟨t, rfl⟩ := r; rfl
  | ref a => cases r; rfl
  | ty n => cases r; rfl
theorem vals_toV : ∀ {xs : List V} {us : List Value}, Vals xs us → xs = us.map toV
  | _, _, .nil => rfl
  | _, _, .cons r t => by rw [List.map_cons, toV_of r, ← vals_toV t]
theorem vals_mem : ∀ {xs : List V} {us : List Value}, Vals xs us → ∀ u ∈ us, RelV (toV u) u
  | _, _, .cons r t, u, h => by
    rcases List.mem_cons.mp h with e | h
    · rw [e, toV_of r]; exact r
    · exact vals_mem t u h
theorem vals_of : ∀ {us : List Value}, (∀ u ∈ us, RelV (toV u) u) → Vals (us.map toV) us
  | [], _ => .nil
  | u :: us, h => .cons (h u List.mem_cons_self) (vals_of fun v hv => h v (List.mem_cons_of_mem _ hv))
/-- an untracked object of ours is tracked from here on -/
theorem Inv.track {X : Cx} {pins : List (Addr × Obj)} {σ : St} {H : Hp} {s : Shared} {D : Addr} {o : HO} (I : Inv X pins σ H s) (fD : FpOk X pins H D) (new : ObjOk X.prog X.w (upd H D o) s.heap D o) : Inv X pins σ (upd H D o) s := by
  have hok : HOk X.prog X.w (upd H D o) s.heap := fun b u e => by
    by_cases hb : b = D
    · subst hb; rw [upd_same] at e; cases e; exact new
    · rw [upd_ne hb] at e
      exact (I.hok b u e).stay (fun c v _ q => q) (fun c q => by rw [upd_ne (ne_of_none q fD.1)]; exact q) fun c xs q => by rw [upd_ne (ne_of_none q fD.1)]; exact q
  have q := I.step (g' := s.gens) (d' := s.drawn) (t' := s.toks) (h' := s.heap) (H' := upd H D o) (ch := [D]) (fun b hb => by
      rw [List.mem_singleton.mp hb]
      exact ⟨fD.2.2.2.1, fD.2.1, fD.2.2.2.2.1, fD.2.2.2.2.2⟩)
    (fun b o _ _ _ e _ => e) (fun b o _ _ _ e _ => ⟨o.slots, e⟩) (fun b o hc e n => by rw [upd_ne fun z => hc (by rw [z]; exact List.mem_singleton.mpr rfl)]; exact n) (fun b o _ e => ⟨o, e⟩)
    (fun b xs e => by rw [upd_ne (ne_of_none e fD.1)]; exact e) (fun b o u e => by rw [upd_ne (ne_of_none e fD.1)]; exact e) (fun b ps e => ⟨#[], by rw [upd_ne (ne_of_none e fD.1), e]; simp⟩) (fun m h => h) hok I.bare
  exact q
section
variable {X : Cx} {pins : List (Addr × Obj)} {σ : St} {H : Hp} {s : Shared} {f : Value} {its : List Value} {xs : List V} {R : Result → Shared → Prop} {Q : VK}
/-- what is left of sorted once the items are gathered -/
def sortRest (its : List Value) (kw : List (Str × Value)) : Sem PySem.Fin := do
  let l ← newList its
  let _ ← holding [l] (call (.builtin "list.sort") [l] kw)
  ret l
/-- the pairs (key, item) in order -/
def GoodP (ltk : Value → Value → Bool) (ks its : List Value) (ps : List (Value × Value)) : Prop := Srtd (lt2 ltk) ps ∧ ps.Perm (ks.zip its)
theorem sort_part {E : Value → Shared → Prop} {Z : PySem.Fin → Shared → Prop} (I : Inv X pins σ H s) (rv : Vals xs its) (hz : its.length ≤ sizeLine) (W : List V → Hp → Prop) (w0 : W [] H)
    (ht : ∀ a : Addr, Builtin.«list.sort» ⟨[.ref a], [(Str.ofString "key", f)]⟩ = ksk_tree a f false) (ha2 : ∀ a, argsOk "list.sort" ⟨[a], [(Str.ofString "key", f)]⟩)
    (step : ∀ (pins' : List (Addr × Obj)) (s' : Shared) (H' : Hp) (i : Nat) (x : V) (u : Value) (kv : List V), (∀ p ∈ pins, p ∈ pins') → Inv X pins' σ H' s' → RelV x u → xs[i]? = some x → kv.length = i → W kv H' →
      wpAny (model X.prog X.w) X.A.in1.in1 (call f [u]) (fun k s'' => ∃ kx H'', RelV kx k ∧ Inv X pins' σ H'' s'' ∧ W (kv ++ [kx]) H'') (fun _ _ => False) s')
    (fin : ∀ (pins : List (Addr × Obj)) (kv : List V) (ks : List Value) (H' : Hp) (s' : Shared), Inv X pins σ H' s' → Vals kv ks → W kv H' → kv.length = xs.length → ∃ ltk : Value → Value → Bool, Swo ltk ∧
      (2 ≤ its.length → ∃ κ, (∀ (Q : SortKind → Shared → Prop) (E : Value → Shared → Prop), Q κ s' → wpAny (model X.prog X.w) X.A.in1.in1 (keyKind' ks.toArray) Q E s') ∧ Cmp X.prog X.w X.A.in1.in1 s' κ (fun p => p.1 ∈ ks) (lt2 ltk)) ∧
      ∀ ps : List (Value × Value), GoodP ltk ks its ps → ∀ p, H' p = none → Q (.ref p) (upd H' p (.lst (ps.map fun q => toV q.2))))
    (hZ : ∀ v s', EP X pins σ Q v s' → Z (.done (.ret v)) s') :
    wpAny (model X.prog X.w) X.A.in1 (sortRest its [(Str.ofString "key", f)]) Z E s := by
  unfold sortRest
  refine wpAny_bind (wpAny_newList ?_ hz)
  have ho : (s.heap.push (seqObj "list" its.toArray 0)).get? s.heap.objs.size = some (seqObj "list" its.toArray 0) := Heap.get?_push_size _ rfl
  generalize hD : s.heap.objs.size = D at *
  show wpAny _ _ _ _ _ { s with heap := s.heap.push (seqObj "list" its.toArray 0) }
  refine wpAny_bind (wpAny_holding (wpAny_call_entry_kw slot_list_sort ⟨_, ho, rfl⟩ entry_list_sort ?body (ha2 _)))
  case body =>
    show wpAny (model X.prog X.w) X.A.in1.in1 (Builtin.«list.sort» ⟨[.ref D], [(Str.ofString "key", f)]⟩) _ _ _
    rw [ht]
    unfold ksk_tree
    refine wpAny_bind (listItems_at ho rfl ?_)
    refine wpAny_bind (listUpdate_at ho rfl ?_ (by rw [List.size_toArray]; exact hz) (Nat.zero_le _))
    obtain ⟨e1, ho1⟩ : ∃ e1, ((s.heap.push (seqObj "list" its.toArray 0)).update D (Obj.mapSeq fun _ => (#[] : Array Value))).get? D = some (seqObj "list" #[] e1) := ⟨_, get?_update_seq ho fun _ => #[]⟩
    refine wpAny_bind (seqEpoch_at ho1 rfl ?_)
    refine wpAny_bind (wpAny_newTuple ?_ (by show its.length ≤ _; exact hz))
    refine wpAny_bind (wpAny_newList ?_ (Nat.zero_le _))
    refine wpAny_holding ?_
    have z1 : ((s.heap.push (seqObj "list" its.toArray 0)).update D (Obj.mapSeq fun _ => (#[] : Array Value))).objs.size = D + 1 := by rw [Heap.size_update, size_push', hD]
    have z2 : (((s.heap.push (seqObj "list" its.toArray 0)).update D (Obj.mapSeq fun _ => (#[] : Array Value))).push (seqObj "tuple" its.toArray 0)).objs.size = D + 2 := by rw [size_push', z1]
    have hk0 : ((((s.heap.push (seqObj "list" its.toArray 0)).update D (Obj.mapSeq fun _ => (#[] : Array Value))).push (seqObj "tuple" its.toArray 0)).push (seqObj "list" #[] 0)).get? (D + 2) = some (seqObj "list" #[] 0) := by
      rw [← z2]; exact Heap.get?_push_size _ rfl
    have hD0 : ((((s.heap.push (seqObj "list" its.toArray 0)).update D (Obj.mapSeq fun _ => (#[] : Array Value))).push (seqObj "tuple" its.toArray 0)).push (seqObj "list" #[] 0)).get? D = some (seqObj "list" #[] e1) :=
      Heap.get?_push_of_some _ (Heap.get?_push_of_some _ ho1)
    have keep : ∀ b o, s.heap.get? b = some o → ((((s.heap.push (seqObj "list" its.toArray 0)).update D (Obj.mapSeq fun _ => (#[] : Array Value))).push (seqObj "tuple" its.toArray 0)).push (seqObj "list" #[] 0)).get? b = some o := fun b o q => by
      have hlt : b < D := by rw [← hD]; exact Heap.lt_size q
      refine Heap.get?_push_of_some _ (Heap.get?_push_of_some _ ?_)
      rw [Heap.get?_update_ne _ _ _ _ (Nat.ne_of_lt hlt)]
      exact Heap.get?_push_of_some _ q
    rw [z2]
    have hl : its.length = xs.length := rv.length.symm
    generalize hG : ((((s.heap.push (seqObj "list" its.toArray 0)).update D (Obj.mapSeq fun _ => (#[] : Array Value))).push (seqObj "tuple" its.toArray 0)).push (seqObj "list" #[] 0)) = G at hk0 hD0 keep
    show wpAny _ _ (ksk_rest D f false its.toArray e1 (.ref (D + 2))) _ _ { s with heap := G }
    have I0 : Inv X pins σ H { s with heap := G } := I.kept (t' := s.toks) keep
    have fD : FpOk X pins H D := I.fpOk (Nat.le_of_eq hD) (I.hok.fresh (Nat.le_of_eq hD))
    have fS : FpOk X pins H (D + 2) := I.fpOk (by omega) (I.hok.fresh (by omega))
    -- the pins of the two lists
    have pin2 : ∀ {H' : Hp} {s' : Shared} {o : Obj}, Inv X pins σ H' s' → H' D = none → H' (D + 2) = none → s'.heap.get? (D + 2) = some o → o.cls = .type "list" → (∀ v, o.data ≠ .cell v) → s'.heap.get? D = some (seqObj "list" #[] e1) → Inv X (((D + 2, o) : Addr × Obj) :: (D, seqObj "list" #[] e1) :: pins) σ H' s' := by
      intro H' s' o I' n1 n2 h2 _ nc h1
      refine I'.pins_of fun p hp => ?_
      rcases List.mem_cons.mp hp with rfl | hp
      · exact ⟨h2, n2, fS.2.1, fS.2.2.1, nc⟩
      · rcases List.mem_cons.mp hp with rfl | hp
        · exact ⟨h1, n1, fD.2.1, fD.2.2.1, fun v z => by cases z⟩
        · exact I'.pin p (List.mem_append_right _ hp)
    have unp : ∀ {H' : Hp} {s' : Shared} {o : Obj}, Inv X (((D + 2, o) : Addr × Obj) :: (D, seqObj "list" #[] e1) :: pins) σ H' s' → Inv X pins σ H' s' := fun I' => I'.pins_of fun p hp => I'.pin p (List.mem_append_right _ (List.mem_cons_of_mem _ (List.mem_cons_of_mem _ hp)))
    have atp : ∀ {H' : Hp} {s' : Shared} {o : Obj}, Inv X (((D + 2, o) : Addr × Obj) :: (D, seqObj "list" #[] e1) :: pins) σ H' s' → (s'.heap.get? (D + 2) = some o ∧ H' (D + 2) = none ∧ ∀ v, o.data ≠ .cell v) ∧ s'.heap.get? D = some (seqObj "list" #[] e1) ∧ H' D = none := fun I' => by
      have a1 := I'.pin _ (List.mem_append_right _ List.mem_cons_self)
      have a2 := I'.pin _ (List.mem_append_right _ (List.mem_cons_of_mem _ List.mem_cons_self))
      exact ⟨⟨a1.1, a1.2.1, a1.2.2.2.2⟩, a2.1, a2.2.1⟩
    refine rest_ (s := { s with heap := G }) (fun ks o s' => o.cls = .type "list" ∧ ∃ kv H', Vals kv ks ∧ W kv H' ∧ Inv X (((D + 2, o) : Addr × Obj) :: (D, seqObj "list" #[] e1) :: pins) σ H' s') (show (D + 2 : Nat) ≠ D by omega)
      (fun ks o s' ⟨_, kv, H', _, _, I'⟩ => ⟨(atp I').1.1, (atp I').2.1⟩) ?up ?step hz ⟨rfl, [], H, .nil, w0, pin2 I0 fD.1 fS.1 hk0 rfl (fun v z => by cases z) hD0⟩ ?fin
    case up =>
      rintro ks o s' k c ⟨_, kv, H', rk, wk, I'⟩ hc hcl hcd
      obtain ⟨⟨a1, a2, a3⟩, b1, b2⟩ := atp I'
      refine ⟨hcl, kv, H', rk, wk, ?_⟩
      have fS' : FpOk X pins H' (D + 2) := ⟨a2, fS.2⟩
      have I2 : Inv X pins σ H' { s' with heap := s'.heap.update (D + 2) (Obj.mapSeq fun x => x.push k), toks := s'.toks } := (unp I').turnedL (ch := [D + 2]) (fun b u hb hu => by
        have nb : b ≠ D + 2 := fun z => hb (by rw [z]; exact List.mem_singleton.mpr rfl)
        rw [Heap.get?_update_ne _ _ _ _ nb]
        exact hu) fun b hb => by rw [List.mem_singleton.mp hb]; exact fS'
      refine pin2 I2 b2 a2 hc hcl (fun v z => ?_) ?_
      · exact hcd v z
      · show (s'.heap.update (D + 2) _).get? D = _
        rw [Heap.get?_update_ne _ _ _ _ (show (D : Nat) ≠ D + 2 by omega)]
        exact b1
    case step =>
      rintro i u ks o s' hu hl' ⟨hcl, kv, H', rk, wk, I'⟩
      obtain ⟨x, hx, rx⟩ : ∃ x, xs[i]? = some x ∧ RelV x u := by
        have hi : i < xs.length := by rw [← hl]; exact (List.getElem?_eq_some_iff.mp hu).1
        obtain ⟨u', e1, e2⟩ := rv.get (List.getElem?_eq_getElem hi)
        rw [hu] at e1; cases e1
        exact ⟨_, List.getElem?_eq_getElem hi, e2⟩
      refine wpAny_mono (step _ s' H' i x u kv (fun p hp => List.mem_cons_of_mem _ (List.mem_cons_of_mem _ hp)) I' rx hx (by rw [rk.length, hl']) wk) (fun k s'' ⟨kx, H'', rk2, I2, w2⟩ => ?_) fun _ _ e => e
      exact ⟨hcl, kv ++ [kx], H'', rk.append (.cons rk2 .nil), w2, I2⟩
    case fin =>
      rintro ks e s' ⟨_, kv, H', rk, wk, I'⟩ hkl
      obtain ⟨⟨a1, a2, a3⟩, b1, b2⟩ := atp I'
      obtain ⟨ltk, O, h1, h2⟩ := fin _ kv ks H' s' I' rk wk (by rw [rk.length, hkl, hl])
      refine ⟨ltk, O, h1, ?_⟩
      rintro out tk ⟨ps, g1, g2, rfl⟩
      have hp2 : (ps.map (·.2)).Perm its := by
        have q := g2.perm.map (·.2)
        rw [List.map_snd_zip (by omega)] at q
        exact q
      have I2 : Inv X pins σ H' { s' with heap := endH s'.heap D (D + 2) (ps.map (·.2)), toks := tk } := (unp I').turnedL (ch := [D + 2, D]) (fun b u hb hu => by
        unfold endH
        rw [Heap.get?_update_ne _ _ _ _ (fun z => hb (by rw [z]; exact List.mem_cons_of_mem _ (List.mem_singleton.mpr rfl))), Heap.get?_update_ne _ _ _ _ (fun z => hb (by rw [z]; exact List.mem_cons_self))]
        exact hu) fun b hb => by
          rcases List.mem_cons.mp hb with rfl | hb
          · exact ⟨a2, fS.2⟩
          · rw [List.mem_singleton.mp hb]; exact ⟨b2, fD.2⟩
      obtain ⟨c2, hc2⟩ : ∃ c2, (endH s'.heap D (D + 2) (ps.map (·.2))).get? D = some (seqObj "list" (ps.map (·.2)).toArray c2) := by
        have b3 : (s'.heap.update (D + 2) (Obj.mapSeq fun _ => (#[] : Array Value))).get? D = some (seqObj "list" #[] e1) := by
          rw [Heap.get?_update_ne _ _ _ _ (show (D : Nat) ≠ D + 2 by omega)]; exact b1
        exact ⟨_, get?_update_seq b3 fun _ => (ps.map fun x : Keyed => x.2).toArray⟩
      refine ⟨_, rfl, wpAny_pure (hZ _ _ ?_)⟩
      have hv : Vals (ps.map fun q => toV q.2) (ps.map (·.2)) := by
        have q := vals_of (us := ps.map (·.2)) fun u hu => vals_mem rv u (hp2.mem_iff.mp hu)
        rw [List.map_map] at q
        exact q
      refine ⟨.ref D, upd H' D (.lst (ps.map fun q => toV q.2)), ?_, rfl, h2 ps ⟨g1, g2.perm⟩ D b2⟩
      refine I2.track ⟨b2, fD.2⟩ ⟨?_, ps.map (·.2), c2, hv, hc2⟩
      rw [List.length_map, ← List.length_map (f := fun x : Keyed => x.2), hp2.length_eq]
      exact hz
end
end L2

-- part: SK3
namespace L2
open PySem PySem.Spec PyProof.Rows SrtO SrtQ
/-! ### the order of the keys -/
def numV : Value → Int
  | .int i _ => i
  | _ => 0
theorem swo_of {α : Type} (k : Value → α) {lt : α → α → Bool} (O : Swo lt) : Swo fun u v => lt (k u) (k v) := ⟨fun _ _ => O.asym _ _, fun _ _ _ => O.tr _ _ _⟩
theorem swo_int : Swo (fun a b : Int => decide (a < b)) := by
  refine ⟨fun x y h => ?_, fun x y z h1 h2 => ?_⟩
  · have := of_decide_eq_true h
    exact decide_eq_false (by omega)
  · have a := of_decide_eq_false h1
    have b := of_decide_eq_false h2
    exact decide_eq_false (by omega)
section
variable {prog : Program} {w : World} {A : Around} {s : Shared}
theorem ints_kind {ks : List Value} {kz : List Int} (hk : IntsAre ks kz) (h2 : 2 ≤ ks.length) : ∃ κ, (∀ (Q : SortKind → Shared → Prop) (E : Value → Shared → Prop), Q κ s → wpAny (model prog w) A (keyKind' ks.toArray) Q E s) ∧
    Cmp prog w A s κ (fun p => p.1 ∈ ks) (lt2 fun u v => decide (numV u < numV v)) := by
  refine ⟨oneType', fun Q E q => ?_, fun p q hp hq => ?_⟩
  · rw [ksk_kind (kz := kz) (by simpa using hk) (by rw [List.size_toArray]; exact h2)]
    exact wpAny_pure q
  · have at_ : ∀ u ∈ ks, ∃ i t, u = Value.int i t := by
      clear h2 hp hq
      induction hk with
      | nil => intro u hu; exact nomatch hu
      | cons _ _ _ ih =>
        intro u hu
        rcases List.mem_cons.mp hu with rfl | hu
        · exact ⟨_, _, rfl⟩
        · exact ih u hu
    obtain ⟨i, t, e1⟩ := at_ _ hp
    obtain ⟨j, t', e2⟩ := at_ _ hq
    show wpAny _ _ (keyLt' oneType' p.1 q.1) (fun r s' => s' = s ∧ r = decide (numV p.1 < numV q.1)) _ _
    rw [e1, e2]
    exact PySem.W.kat_lt_int ⟨rfl, rfl⟩
end
/-- the tuple at v is (n, c), c a tuple of ints -/
def KeyT (K : PySem.W.Frag) (H : Hp) (v : V) (k : Int × List Int) : Prop := ∃ t c, v = .ref t ∧ SqT K H t [.int k.1, .ref c] ∧ SqT K H c (k.2.map V.int)
def ltKT (a b : Int × List Int) : Bool := if a.1 = b.1 then HT.lexLt a.2 b.2 else decide (a.1 < b.1)
theorem lex_irrefl : ∀ a : List Int, HT.lexLt a a = false
  | [] => rfl
  | x :: a => by rw [HT.lexLt_cons, if_pos rfl]; exact lex_irrefl a
theorem lex_asym : ∀ a b : List Int, HT.lexLt a b = true → HT.lexLt b a = false
  | [], [], h => by cases h
  | [], y :: b, _ => rfl
  | x :: a, [], h => by cases h
  | x :: a, y :: b, h => by
    rw [HT.lexLt_cons] at h ⊢
    by_cases e : x = y
    · rw [if_pos e] at h; rw [if_pos e.symm]; exact lex_asym a b h
    · rw [if_neg e] at h; rw [if_neg (Ne.symm e)]
      have := of_decide_eq_true h
      exact decide_eq_false (by omega)
theorem lex_tr : ∀ a b c : List Int, HT.lexLt a b = false → HT.lexLt c a = false → HT.lexLt c b = false
  | [], [], [], _, _ => rfl
  | [], [], z :: c, _, _ => rfl
  | [], y :: b, _, h, _ => by cases h
  | x :: a, b, [], _, h => by cases h
  | x :: a, [], z :: c, _, _ => rfl
  | x :: a, y :: b, z :: c, h1, h2 => by
    rw [HT.lexLt_cons] at h1 h2 ⊢
    by_cases e1 : x = y
    · rw [if_pos e1] at h1
      by_cases e2 : z = x
      · rw [if_pos e2] at h2
        rw [if_pos (e2.trans e1)]
        exact lex_tr a b c h1 h2
      · rw [if_neg e2] at h2
        rw [if_neg (by rw [← e1]; exact e2)]
        have := of_decide_eq_false h2
        exact decide_eq_false (by omega)
    · rw [if_neg e1] at h1
      have d1 := of_decide_eq_false h1
      by_cases e2 : z = x
      · rw [if_neg (by rw [e2]; exact e1)]
        exact decide_eq_false (by omega)
      · rw [if_neg e2] at h2
        have d2 := of_decide_eq_false h2
        rw [if_neg (by omega)]
        exact decide_eq_false (by omega)
theorem lex_total : ∀ a b : List Int, HT.lexLt a b = false → HT.lexLt b a = false → a = b
  | [], [], _, _ => rfl
  | [], y :: b, h, _ => by cases h
  | x :: a, [], _, h => by cases h
  | x :: a, y :: b, h1, h2 => by
    rw [HT.lexLt_cons] at h1 h2
    by_cases e : x = y
    · rw [if_pos e] at h1; rw [if_pos e.symm] at h2
      rw [e, lex_total a b h1 h2]
    · rw [if_neg e] at h1; rw [if_neg (Ne.symm e)] at h2
      have d1 := of_decide_eq_false h1
      have d2 := of_decide_eq_false h2
      omega
theorem swo_KT : Swo ltKT := by
  refine ⟨fun x y h => ?_, fun x y z h1 h2 => ?_⟩
  · unfold ltKT at *
    by_cases e : x.1 = y.1
    · rw [if_pos e] at h; rw [if_pos e.symm]; exact lex_asym _ _ h
    · rw [if_neg e] at h; rw [if_neg (Ne.symm e)]
      have := of_decide_eq_true h
      exact decide_eq_false (by omega)
  · unfold ltKT at *
    by_cases e1 : y.1 = x.1
    · rw [if_pos e1] at h1
      by_cases e2 : z.1 = y.1
      · rw [if_pos e2] at h2
        rw [if_pos (e2.trans e1)]
        exact lex_tr _ _ _ h1 h2
      · rw [if_neg e2] at h2
        rw [if_neg (by rw [← e1]; exact e2)]
        have := of_decide_eq_false h2
        exact decide_eq_false (by omega)
    · rw [if_neg e1] at h1
      have d1 := of_decide_eq_false h1
      by_cases e2 : z.1 = y.1
      · rw [if_neg (by rw [e2]; exact e1)]
        exact decide_eq_false (by omega)
      · rw [if_neg e2] at h2
        have d2 := of_decide_eq_false h2
        rw [if_neg (by omega)]
        exact decide_eq_false (by omega)
theorem can_intsD : ∀ (l : List Int), PyData.canLayAll0 (l.map PyData.int) = true
  | [] => by simp [PyData.canLayAll0]
  | i :: r => by simp [PyData.canLayAll0, PyData.canLay0, can_intsD r]
theorem dep_intsD : ∀ (l : List Int), PyData.depthAll (l.map PyData.int) ≤ 1
  | [] => by simp [PyData.depthAll]
  | i :: r => by
    have h := dep_intsD r
    simp [PyData.depthAll, PyData.depth] <;> omega
theorem dpAll_ints {K : PySem.W.Frag} {H : Hp} : ∀ (l : List Int), DpAll K H (l.map V.int) (l.map PyData.int)
  | [] => .nil
  | i :: r => .cons (.int i) (dpAll_ints r)
theorem eqvAll_ints : ∀ a b : List Int, PyData.eqvAll (a.map PyData.int) (b.map PyData.int) = decide (a = b)
  | [], [] => by simp [PyData.eqvAll]
  | [], y :: b => by simp [PyData.eqvAll]
  | x :: a, [] => by simp [PyData.eqvAll]
  | x :: a, y :: b => by
    simp only [List.map_cons, PyData.eqvAll, PyData.eqv, eqvAll_ints a b]
    by_cases h : x = y <;> by_cases h2 : a = b <;> simp [h, h2]
section
variable {X : Cx} {pins : List (Addr × Obj)} {σ : St} {H : Hp} {s : Shared} {A : Around}
theorem kt_cmp (I : Inv X pins σ H s) (hu : A.units + 64 < cLine) {u u' : Value} {v v' : V} {k k' : Int × List Int} (ru : RelV v u) (ru' : RelV v' u') (h : KeyT X.K H v k) (h' : KeyT X.K H v' k') :
    wpAny (model X.prog X.w) A (keyLt' (tuples' true) u u') (fun r s' => s' = s ∧ r = ltKT k k') (fun _ _ => False) s := by
  obtain ⟨t, c, rfl, ht, hc⟩ := h
  obtain ⟨t', c', rfl, ht', hc'⟩ := h'
  cases ru
  cases ru'
  obtain ⟨i1, r1, ⟨o1, ho1, hcl1, n1, hd1⟩, _⟩ := I.tuple ht
  obtain ⟨i2, r2, ⟨o2, ho2, hcl2, n2, hd2⟩, _⟩ := I.tuple ht'
  obtain ⟨a1, b1, rfl, ⟨ta, rfl⟩, rb⟩ := vals2 r1
  obtain ⟨a2, b2, rfl, ⟨tb, rfl⟩, rb'⟩ := vals2 r2
  obtain rfl : b1 = Value.ref c := rb
  obtain rfl : b2 = Value.ref c' := rb'
  refine PySem.W.kat_lt ho1 hd1 ho2 hd2 ?_
  show PySem.W.KatLex X.prog X.w A true (decide (2 < 2)) _ [(.int k.1 ta, .int k'.1 tb), (.ref c, .ref c')] 0 s
  unfold ltKT
  refine PySem.W.kat_cons (SeqAt.EqAt.int_int k.1 ta k'.1 tb X.prog X.w _ _ ?_)
  refine PySem.W.kat_go (fun e1 => ?_) (fun e1 => ?_)
  · have ex : k.1 = k'.1 := by simpa using e1
    rw [if_pos ex]
    obtain ⟨as, q1⟩ := Dp.reads I (.tuple (k.2.map .int)) (.ref c) (.ref c) (.tup hc (dpAll_ints _)) rfl
    obtain ⟨bs, q2⟩ := Dp.reads I (.tuple (k'.2.map .int)) (.ref c') (.ref c') (.tup hc' (dpAll_ints _)) rfl
    have cl : ∀ l : List Int, (PyData.tuple (l.map .int)).canLay0 = true := fun l => by simp [PyData.canLay0, can_intsD]
    have dl : ∀ l : List Int, (PyData.tuple (l.map .int)).depth ≤ 2 := fun l => by have := dep_intsD l; simp only [PyData.depth]; omega
    refine PySem.W.kat_yes (PySem.W.kat_cons (PySem.SeqAt.eqBoolOverData X.prog X.w A _ s _ _ _ _ as bs _ q1 q2 (cl _) (cl _) (by have := dl k.2; omega) ?_))
    have ev : PyData.eqv (.tuple (k.2.map .int)) (.tuple (k'.2.map .int)) = decide (k.2 = k'.2) := by
      simp only [PyData.eqv]
      exact eqvAll_ints _ _
    rw [ev]
    refine PySem.W.kat_go (fun e2 => ?_) (fun e2 => ?_)
    · have ey : k.2 = k'.2 := of_decide_eq_true e2
      rw [ey, lex_irrefl]
      exact PySem.W.kat_yes (PySem.W.kat_nil ⟨rfl, rfl⟩)
    · obtain ⟨j1, s1, p1, _⟩ := I.tuple hc
      obtain ⟨j2, s2, p2, _⟩ := I.tuple hc'
      have g1 : IntsAre j1.toArray.toList k.2 := intsAre_of s1
      have g2 : IntsAre j2.toArray.toList k'.2 := intsAre_of s2
      refine PySem.W.kat_no (PySem.W.kat_one _ _ (HT.lt_tupInts p1 p2 g1 g2 (by omega) ?_))
      exact (show s = s ∧ HT.lexLt k.2 k'.2 = HT.lexLt k.2 k'.2 from ⟨rfl, rfl⟩)
  · have ex : ¬ k.1 = k'.1 := by simpa using e1
    rw [if_neg ex]
    exact PySem.W.kat_no (oneLt_int ⟨rfl, rfl⟩)
/-- the kind of such keys -/
theorem kt_kind (I : Inv X pins σ H s) : ∀ {kv : List V} {ks : List Value} {kz : List (Int × List Int)}, Vals kv ks → Paired (KeyT X.K H) kv kz → ∃ fs, PySem.W.KatTups s.heap ks fs ∧ fs.length = ks.length ∧ ∀ v ∈ fs, ∃ i t, v = Value.int i t
  | _, _, _, .nil, .nil => ⟨[], .nil, rfl, fun v h => nomatch h⟩
  | _, _, _, .cons r rs, .cons h hs => by
    obtain ⟨t, c, rfl, ht, hc⟩ := h
    cases r
    obtain ⟨i1, r1, ⟨o1, ho1, hcl1, n1, hd1⟩, _⟩ := I.tuple ht
    obtain ⟨a1, b1, rfl, ⟨ta, rfl⟩, rb⟩ := vals2 r1
    obtain ⟨fs, q1, q2, q3⟩ := kt_kind I rs hs
    refine ⟨_ :: fs, .cons ho1 hcl1 hd1 (f := .int _ ta) rfl q1, by rw [List.length_cons, List.length_cons, q2], fun v hv => ?_⟩
    rcases List.mem_cons.mp hv with rfl | hv
    · exact ⟨_, _, rfl⟩
    · exact q3 v hv
theorem paired_mem {α β : Type} {F : α → β → Prop} : ∀ {l : List α} {m : List β}, Paired F l m → ∀ x ∈ l, ∃ y ∈ m, F x y
  | _, _, .cons h t, x, hx => by
    rcases List.mem_cons.mp hx with rfl | hx
    · exact ⟨_, List.mem_cons_self, h⟩
    · obtain ⟨y, hy, q⟩ := paired_mem t x hx
      exact ⟨y, List.mem_cons_of_mem _ hy, q⟩
theorem KeyT.inj (I : Inv X pins σ H s) {v : V} {k k' : Int × List Int} (h : KeyT X.K H v k) (h' : KeyT X.K H v k') : k = k' := by
  obtain ⟨t, c, rfl, ht, hc⟩ := h
  obtain ⟨t', c', e, ht', hc'⟩ := h'
  cases e
  have e1 := I.tuple_inj ht ht'
  cases k with | mk n l => cases k' with | mk n' l' =>
  simp only [List.cons.injEq, V.int.injEq, V.ref.injEq, and_true] at e1
  obtain ⟨rfl, rfl⟩ := e1
  have e2 := I.tuple_inj hc hc'
  have e3 : l = l' := by
    have : ∀ a b : List Int, a.map V.int = b.map V.int → a = b := fun a b h => (List.map_inj_right (fun x y h => by cases h; rfl)).mp h
    exact this _ _ e2
  rw [e3]
/-- the key of a value, by what stands -/
noncomputable def keyOfV (K : PySem.W.Frag) (H : Hp) (u : Value) : Int × List Int := by
  classical exact if h : ∃ k, KeyT K H (toV u) k then h.choose else (0, [])
theorem keyOfV_eq (I : Inv X pins σ H s) {v : V} {u : Value} {k : Int × List Int} (r : RelV v u) (h : KeyT X.K H v k) : keyOfV X.K H u = k := by
  unfold keyOfV
  have e : ∃ k, KeyT X.K H (toV u) k := ⟨k, by rw [toV_of r]; exact h⟩
  rw [dif_pos e]
  have q : ∀ x, x = v → KeyT X.K H x e.choose → e.choose = k := fun x hx q => KeyT.inj I (hx ▸ q) h
  exact q (toV u) (toV_of r) e.choose_spec
theorem kt_all (I : Inv X pins σ H s) (hu : A.units + 64 < cLine) {kv : List V} {ks : List Value} {kz : List (Int × List Int)} (r : Vals kv ks) (p : Paired (KeyT X.K H) kv kz) (h2 : 2 ≤ ks.length) :
    ∃ κ, (∀ (Q : SortKind → Shared → Prop) (E : Value → Shared → Prop), Q κ s → wpAny (model X.prog X.w) A (keyKind' ks.toArray) Q E s) ∧ Cmp X.prog X.w A s κ (fun p => p.1 ∈ ks) (lt2 fun u v => ltKT (keyOfV X.K H u) (keyOfV X.K H v)) := by
  refine ⟨tuples' true, fun Q E q => ?_, fun a b ha hb => ?_⟩
  · obtain ⟨fs, q1, q2, q3⟩ := kt_kind I r p
    refine PySem.W.kat_kind (T := .type "int") q1 (by omega) (fun f hm => ?_) (by rfl) ?_
    · obtain ⟨x, t, rfl⟩ := q3 f hm
      exact PySem.W.Looks.now
    · have e : (Value.type "int" != Value.type "tuple") = true := by first | decide +kernel | rfl | decide
      rw [e]
      exact q
  · have at_ : ∀ u ∈ ks, ∃ v k, RelV v u ∧ KeyT X.K H v k := fun u hu => by
      have hv := vals_mem r u hu
      have hm : toV u ∈ kv := by rw [vals_toV r]; exact List.mem_map.mpr ⟨u, hu, rfl⟩
      obtain ⟨k, _, q⟩ := paired_mem p _ hm
      exact ⟨_, k, hv, q⟩
    obtain ⟨v, k, r1, q1⟩ := at_ _ ha
    obtain ⟨v', k', r2, q2⟩ := at_ _ hb
    show wpAny _ _ (keyLt' (tuples' true) a.1 b.1) (fun r s' => s' = s ∧ r = ltKT (keyOfV X.K H a.1) (keyOfV X.K H b.1)) _ _
    rw [keyOfV_eq I r1 q1, keyOfV_eq I r2 q2]
    exact kt_cmp I hu r1 r2 q1 q2
end
end L2

-- part: SK4
namespace L2
open PySem PySem.Spec PyProof.Rows SrtO SrtQ
/-- the keys, one by one, then the items by their keys -/
def SortGo (K : PySem.W.Frag) (rel : V → Hp → VK → Prop) (xs : List V) (H1 : Hp) (Q : VK) : Prop := ∃ W : List V → Hp → Prop, W [] H1 ∧
  (∀ i v kv H', xs[i]? = some v → kv.length = i → W kv H' → rel v H' fun k H'' => W (kv ++ [k]) H'') ∧
  ∀ kv H', W kv H' → kv.length = xs.length →
    (∃ kz : List Int, kv = kz.map V.int ∧ ∀ zs : List (Int × V), zs.Perm (kz.zip xs) → zs.Pairwise (fun p q => p.1 ≤ q.1) → ∀ p, H' p = none → Q (.ref p) (upd H' p (.lst (zs.map (·.2))))) ∨
    (∃ kz : List (Int × List Int), Paired (KeyT K H') kv kz ∧ ∀ zs : List ((Int × List Int) × V), zs.Perm (kz.zip xs) → zs.Pairwise (fun p q => ltKT q.1 p.1 = false) → ∀ p, H' p = none → Q (.ref p) (upd H' p (.lst (zs.map (·.2)))))
/-- f is a key: what a call of it promises -/
def KeyRel (X : Cx) (P : List (Addr × Obj)) (f : Value) (rel : V → Hp → VK → Prop) : Prop := ∀ (pins : List (Addr × Obj)) (s : Shared) (σ : St) (H : Hp) (x : V) (u : Value) (Q : VK), (∀ p ∈ P, p ∈ pins) → Inv X pins σ H s → RelV x u → rel x H Q →
  wpAny (model X.prog X.w) X.A.in1.in1 (call f [u]) (EP X pins σ Q) (fun _ _ => False) s
theorem KeyRel.mono {X : Cx} {P P' : List (Addr × Obj)} {f : Value} {rel : V → Hp → VK → Prop} (h : KeyRel X P f rel) (hp : ∀ p ∈ P, p ∈ P') : KeyRel X P' f rel := fun pins s σ H x u Q z => h pins s σ H x u Q fun p q => z p (hp p q)
theorem nums_of {ks : List Value} {kz : List Int} (h : IntsAre ks kz) : ks.map numV = kz := by
  induction h with
  | nil => rfl
  | cons _ _ _ ih => rw [List.map_cons, ih]; rfl
theorem paired_len {α β : Type} {F : α → β → Prop} : ∀ {l : List α} {m : List β}, Paired F l m → l.length = m.length
  | _, _, .nil => rfl
  | _, _, .cons _ t => by rw [List.length_cons, List.length_cons, paired_len t]
theorem vals_at : ∀ {xs : List V} {us : List Value}, xs.length = us.length → (∀ (j : Nat) (u : Value), us[j]? = some u → ∃ x, xs[j]? = some x ∧ RelV x u) → Vals xs us
  | [], [], _, _ => .nil
  | [], _ :: _, h, _ => by simp at h
  | _ :: _, [], h, _ => by simp at h
  | x :: xs, u :: us, h, q => by
    obtain ⟨x', e, r⟩ := q 0 u rfl
    cases e
    exact .cons r (vals_at (by simpa using h) fun j u' hu => q (j + 1) u' hu)
section
variable {X : Cx} {pins : List (Addr × Obj)} {σ : St} {H : Hp} {s : Shared} {f : Value} {its : List Value} {xs : List V} {Q : VK} {rel : V → Hp → VK → Prop}
theorem keys_of {H' : Hp} {s' : Shared} (I : Inv X pins σ H' s') : ∀ {kv : List V} {ks : List Value} {kz : List (Int × List Int)}, Vals kv ks → Paired (KeyT X.K H') kv kz → ks.map (keyOfV X.K H') = kz
  | _, _, _, .nil, .nil => rfl
  | _, _, _, .cons r rs, .cons h hs => by rw [List.map_cons, keyOfV_eq I r h, keys_of I rs hs]
theorem sort_go {E : Value → Shared → Prop} {Z : PySem.Fin → Shared → Prop} (hu : X.A.units + 100 < cLine) (I : Inv X pins σ H s) (rv : Vals xs its) (hz : its.length ≤ sizeLine) (g : SortGo X.K rel xs H Q) (hf : KeyRel X pins f rel)
    (ht : ∀ a : Addr, Builtin.«list.sort» ⟨[.ref a], [(Str.ofString "key", f)]⟩ = ksk_tree a f false) (hZ : ∀ v s', EP X pins σ Q v s' → Z (.done (.ret v)) s') :
    wpAny (model X.prog X.w) X.A.in1 (sortRest its [(Str.ofString "key", f)]) Z E s := by
  obtain ⟨W, w0, w1, w2⟩ := g
  refine sort_part I rv hz W w0 ht (fun a => ksk_l1 _ _) (fun pins' s' H' i x u kv hp I' rx hx hl wk => ?_) (fun pins kv ks H' s' I' rk wk hl => ?_) hZ
  · refine wpAny_mono (hf pins' s' σ H' x u _ hp I' rx (w1 i x kv H' hx hl wk)) (fun k s'' ⟨kx, H'', a, b, c⟩ => ⟨kx, H'', b, a, c⟩) fun _ _ e => e
  · have lk : ks.length = its.length := by rw [← rk.length, hl, rv.length]
    rcases w2 kv H' wk hl with ⟨kz, rfl, q⟩ | ⟨kz, pk, q⟩
    · have ik := intsAre_of rk
      refine ⟨fun u v => decide (numV u < numV v), swo_of numV swo_int, fun h2 => ints_kind ik (by omega), fun ps g p hp => ?_⟩
      have e1 : (ps.map fun z => (numV z.1, toV z.2)).Perm (kz.zip xs) := by
        have q := g.2.map fun z : Value × Value => (numV z.1, toV z.2)
        have e : (ks.zip its).map (fun z : Value × Value => (numV z.1, toV z.2)) = kz.zip xs := by
          rw [vals_toV rv, ← nums_of ik, List.zip_map]
          rfl
        rw [e] at q
        exact q
      have e2 : (ps.map fun z => (numV z.1, toV z.2)).Pairwise (fun p q => p.1 ≤ q.1) := by
        refine List.pairwise_map.mpr (g.1.imp fun h => ?_)
        have := of_decide_eq_false h
        show numV _ ≤ numV _
        omega
      have z := q _ e1 e2 p hp
      rw [List.map_map] at z
      exact z
    · refine ⟨fun u v => ltKT (keyOfV X.K H' u) (keyOfV X.K H' v), swo_of (keyOfV X.K H') swo_KT, fun h2 => kt_all I' (by show X.A.units + 1 + 1 + 64 < _; omega) rk pk (by omega), fun ps g p hp => ?_⟩
      have e1 : (ps.map fun z => (keyOfV X.K H' z.1, toV z.2)).Perm (kz.zip xs) := by
        have q := g.2.map fun z : Value × Value => (keyOfV X.K H' z.1, toV z.2)
        have e : (ks.zip its).map (fun z : Value × Value => (keyOfV X.K H' z.1, toV z.2)) = kz.zip xs := by
          rw [vals_toV rv, ← keys_of I' rk pk, List.zip_map]
          rfl
        rw [e] at q
        exact q
      have e2 : (ps.map fun z => (keyOfV X.K H' z.1, toV z.2)).Pairwise (fun p q => ltKT q.1 p.1 = false) := List.pairwise_map.mpr (g.1.imp fun h => h)
      have z := q _ e1 e2 p hp
      rw [List.map_map] at z
      exact z
/-- the key's function: what the expression gives -/
def KeyOf (X : Cx) (ke : Expr) (f : Value) : Prop := ∀ (pins : List (Addr × Obj)) (s : Shared) (σ : St) (H : Hp) (R : Value → Shared → Prop), Inv X pins σ H s → R f s → wpAny (model X.prog X.w) X.A (eval ke X.env) R X.xe s
theorem key_abs {p : Pos} (hg : Gl X "abs") (hm : X.mg "abs" = none) : KeyOf X (.Name "abs" p) (.builtin "abs") := fun pins s σ H R I h => ld_blt I hg hm (by decide +kernel) h (by decide)
theorem key_def {x : Str} {p : Pos} {q : Addr} (hg : Gl X x) (hm : X.mg x = some (.ref q)) (hd : (x == ("__debug__" : Str)) = false := by decide) : KeyOf X (.Name x p) (.ref q) := fun pins s σ H R I h => ld_glob I hg hm h hd
theorem rel_abs {P : List (Addr × Obj)} : KeyRel X P (.builtin "abs") (fun x H Q => ∃ i, x = .int i ∧ Q (.int (if i < 0 then -i else i)) H) := by
  intro pins s σ H x u Q _ I r h
  obtain ⟨i, rfl, q⟩ := h
  obtain ⟨t, rfl⟩ := r
  exact call_abs_int fun u tk => ⟨.int (if i < 0 then -i else i), H, I.tok _, ⟨_, rfl⟩, q⟩
theorem rel_def {P : List (Addr × Obj)} {k : Nat} {q : Addr} {fd : FuncData} {x : Str} {sp : Sp} (F : FnOk X.prog X.w X.K X.mg X.base CX0 k q fd [x] sp) (hr : Room (k + 2) X.A) (hb : Binds X.K fd [x] []) : KeyRel X P (.ref q) (fun x H Q => sp [x] H Q E0) := by
  intro pins s σ H x u Q _ I r h
  have hl : ([u] ++ ([] : List Value)).length = 1 := rfl
  refine wpAny_call (codeAny_mono (F.run X.A.in1.in1 X.stack s H ⟨[u], []⟩ [u] [x] Q E0 hr.in1.in1 I.env0.in1.in1 (by have := hb s [u] I.kIn (by rfl); exact this) (.cons r .nil) h) fun r s' hq => ?_)
  cases r with
  | error e => exact hq.elim
  | ok fl =>
    cases fl with
    | ret u => exact I.after hq
    | next => exact False.elim hq
    | brk => exact False.elim hq
    | cont => exact False.elim hq
/-! ### sorted(e, key=ke) -/
/-- of a list; of a dict with ints and texts as keys; of one with tuples -/
def rSortL (K : PySem.W.Frag) (rel : V → Hp → VK → Prop) : V → Hp → VK → Prop := fun x H Q => ∃ a xs, x = .ref a ∧ SqL K H a xs ∧ SortGo K rel xs H Q
def rSortD (K : PySem.W.Frag) (rel : V → Hp → VK → Prop) : V → Hp → VK → Prop := fun x H Q => ∃ a kvs, x = .ref a ∧ Rd H a (.dK kvs) ∧ SortGo K rel (kvs.map fun z => kV z.1) H Q
def rSortTd (K : PySem.W.Frag) (rel : V → Hp → VK → Prop) : V → Hp → VK → Prop := fun x H Q => ∃ a kvs, x = .ref a ∧ Rd H a (.dT kvs) ∧ ∀ bs, IsKeys H kvs bs → SortGo K rel (bs.map V.ref) H Q
def tSorted (r : V → Hp → VK → Prop) (t : TA) : TE := fun σ H Q => t σ H fun vs H1 => ∃ x, vs = [x] ∧ r x H1 Q
def RunS (X : Cx) (P : List (Addr × Obj)) (f : Value) (r : V → Hp → VK → Prop) : Prop := ∀ (pins : List (Addr × Obj)) (s : Shared) (σ : St) (H : Hp) (x : V) (u : Value) (Q : VK), (∀ p ∈ P, p ∈ pins) → Inv X pins σ H s → RelV x u → r x H Q →
  wpAny (model X.prog X.w) X.A (call (.builtin "sorted") [u] [(Str.ofString "key", f)]) (EP X pins σ Q) X.xe s
theorem pe_sorted {e ke : Expr} {t : TA} {p pos kpos : Pos} {r : V → Hp → VK → Prop} (run : RunS X [] f r) (hk : KeyOf X ke f) (hg : Gl X "sorted") (hm : X.mg "sorted" = none) (ha : PA X [e] t)
    (h1 : backTo pos (starEach [e] X.env) = (false, eval e X.env) :: backTo pos (starEach [] X.env) := by rfl) (hpl : (backTo pos (starEach [e] X.env)).any (·.1) = false := by rfl)
    (hall : (backToKw pos (keywordEach [⟨some "key", ke, kpos⟩] X.env)).all (·.1.isSome) = true := by rfl) (hnone : (backToKw pos (keywordEach [⟨some "key", ke, kpos⟩] X.env)).any (·.1.isNone) = false := by rfl) :
    PE X (.Call (.Name "sorted" p) [e] [⟨some "key", ke, kpos⟩] pos) (tSorted r t) := by
  refine ⟨fun pins s σ H Q I h => ?_⟩
  refine wpAny_Call_Name_kw (ld_blt I hg hm (u := .builtin "sorted") (by decide +kernel) ?_ (by decide))
  refine PyProof.Rows.callWith_kw (thn (ha.run pos pins s σ H _ I h) fun us s1 ⟨vs, H1, I1, r1, x, ex, q1⟩ => ?_) h1 hpl hall hnone
  subst ex
  obtain ⟨u, rfl, ru⟩ := vals1 r1
  show wpAny _ _ (evalAll ((do let v ← eval ke X.env; standAt pos; pure v) :: [])) _ _ s1
  refine wpAny_evalAll_cons (wpAny_bind (hk pins s1 σ H1 _ I1 (wpAny_bind (wpAny_standAt (wpAny_pure ?_)))))
  refine wpAny_evalAll_nil ?_
  exact run pins s1 σ H1 x u Q (fun _ z => nomatch z) I1 ru q1
theorem run_list {P : List (Addr × Obj)} (hu : X.A.units + 100 < cLine) (hf : KeyRel X P f rel) (ht : ∀ a : Addr, Builtin.«list.sort» ⟨[.ref a], [(Str.ofString "key", f)]⟩ = ksk_tree a f false) : RunS X P f (rSortL X.K rel) := by
  intro pins s σ H x u Q hP I r h
  obtain ⟨a, xs, rfl, hs, g⟩ := h
  cases r
  obtain ⟨its, rv, hl, hz⟩ := I.list hs
  have hz' : its.length ≤ sizeLine := by rw [← rv.length]; exact hz
  refine call_function_entry_kw kind_sorted plain_sorted entry_sorted (ksk_s1 _ _) ?_
  unfold Builtin.«sorted»
  refine wpAny_bind (m := checkCount "sorted" 1 1 _) (wpAny_pure ?_)
  refine wpAny_bind (collect_list hl.isList ?_ hz')
  have I1 : Inv X pins σ H { s with heap := (s.heap.push (seqObj "list" #[] 0)).update s.heap.objs.size (Obj.mapSeq (· ++ its.toArray)) } := I.kept (t' := s.toks) fun b o e => by
    rw [Heap.get?_update_ne _ _ _ _ (Nat.ne_of_lt (Heap.lt_size e))]
    exact Heap.get?_push_of_some _ e
  exact sort_go hu I1 rv hz' g (hf.mono hP) ht fun v s' h => ⟨v, rfl, h⟩
theorem run_dict {P : List (Addr × Obj)} (hcalm : X.calm = true) (hu : X.A.units + 100 < cLine) (hf : KeyRel X P f rel) (ht : ∀ a : Addr, Builtin.«list.sort» ⟨[.ref a], [(Str.ofString "key", f)]⟩ = ksk_tree a f false) : RunS X P f (rSortD X.K rel) := by
  intro pins s σ H x u Q hP I r h
  obtain ⟨a, kvs, rfl, hd, g⟩ := h
  cases r
  obtain ⟨z, lo, vs, rel', dd⟩ := dk_rd I.hok hd
  obtain ⟨ep, hat⟩ := dd.dictAt
  have hkeys : vs.map (·.1) = kvs.map (·.1) := rel'.keys.symm
  have hl : vs.length = kvs.length := by
    have e := congrArg List.length hkeys
    rw [List.length_map, List.length_map] at e
    exact e
  refine call_function_entry_kw kind_sorted plain_sorted entry_sorted (ksk_s1 _ _) ?_
  unfold Builtin.«sorted»
  refine wpAny_bind (m := checkCount "sorted" 1 1 _) (wpAny_pure ?_)
  refine wpAny_bind (PySem.W.kdu_collect (A := X.A.in1) (PySem.W.kdl_dict (knd := mixKind X.prog X.w) (kvs := vs) (ep := ep) lo) (I.ok.hd hcalm) hat (by rw [hl]; exact z) fun h' tk acc hk hacc => ?_)
  have hal : acc.toList.length = kvs.length := by rw [Array.length_toList, hacc.1, hl]
  have rv : Vals (kvs.map fun z => kV z.1) acc.toList := vals_at (by rw [List.length_map, hal]) fun j v e => by
    obtain ⟨k, x, e1, e2⟩ := hacc.2 j v (by rw [← Array.getElem?_toList]; exact e)
    have e3 : (vs.map (·.1))[j]? = some k := by rw [List.getElem?_map, e1]; rfl
    rw [hkeys, List.getElem?_map] at e3
    rw [List.getElem?_map]
    cases e4 : kvs[j]? with
    | none => rw [e4] at e3; cases e3
    | some y =>
      rw [e4] at e3
      have e5 : y.1 = k := Option.some.inj e3
      refine ⟨kV y.1, rfl, ?_⟩
      rw [e5]
      exact keyIs_rel e2
  have I1 : Inv X pins σ H { s with heap := h', toks := tk } := I.kept hk
  exact sort_go hu I1 rv (by rw [hal]; exact z) g (hf.mono hP) ht fun v s' h => ⟨v, rfl, h⟩
theorem run_dictT {P : List (Addr × Obj)} (hcalm : X.calm = true) (hu : X.A.units + 100 < cLine) (hf : KeyRel X P f rel) (ht : ∀ a : Addr, Builtin.«list.sort» ⟨[.ref a], [(Str.ofString "key", f)]⟩ = ksk_tree a f false) : RunS X P f (rSortTd X.K rel) := by
  intro pins s σ H x u Q hP I r h
  obtain ⟨d, kvs, rfl, hd, g⟩ := h
  cases r
  obtain ⟨z, hs, ks, pr, o, es, ep, ho, hx, hdt, he, hn⟩ := (show ObjOk X.prog X.w H s.heap d (.dT kvs) from hd.ok I.hok)
  have l1 : es.size = ks.length := size_of_entries he
  have l2 : kvs.length = ks.length := Paired.length pr
  refine call_function_entry_kw kind_sorted plain_sorted entry_sorted (ksk_s1 _ _) ?_
  unfold Builtin.«sorted»
  refine wpAny_bind (m := checkCount "sorted" 1 1 _) (wpAny_pure ?_)
  refine wpAny_bind (PySem.W.kdu_collect (A := X.A.in1) (kdl_raw hs hx hdt) (I.ok.hd hcalm) ho (by omega) fun h' tk acc' kp it => ?_)
  have ea : acc'.toList = ks.map fun x => Value.ref x.2.1 := by
    have hl : acc'.toList.length = ks.length := by rw [Array.length_toList, it.1]; exact l1
    apply List.ext_getElem?
    intro j
    rw [List.getElem?_map]
    cases hj : acc'.toList[j]? with
    | none =>
      have h1 := List.getElem?_eq_none_iff.mp hj
      rw [List.getElem?_eq_none (by omega)]
      all_goals rfl
    | some v =>
      obtain ⟨en, hen, hv⟩ := it.2 j v (by rw [← Array.getElem?_toList]; exact hj)
      have qe := entry_at he j
      rw [hen] at qe
      cases hb : ks[j]? with
      | none =>
        rw [hb] at qe
        exact nomatch (show some en = none from qe)
      | some b =>
        rw [hb] at qe
        have e2 : en = entryOfKey (tupleKind (mixKind X.prog X.w)) b := Option.some.inj qe
        rw [hv, e2]
        all_goals rfl
  have eb : acc'.toList = (ks.map fun x => x.2.1).map Value.ref := by rw [ea, List.map_map]; all_goals rfl
  have rv : Vals ((ks.map fun x => x.2.1).map V.ref) acc'.toList := by rw [eb]; exact vals_refs _
  have I1 : Inv X pins σ H { s with heap := h', toks := tk } := I.kept kp
  exact sort_go hu I1 rv (by rw [ea, List.length_map]; omega) (g _ (isKeys_of pr)) (hf.mono hP) ht fun v s' h => ⟨v, rfl, h⟩
end
end L2

-- part: SK5
namespace L2
open PySem PySem.Spec PyProof.Rows SrtO SrtQ LamX
section
variable {X : Cx} {pins : List (Addr × Obj)} {σ : St} {H : Hp} {s : Shared} {xs : List V} {Q : VK}
abbrev lamQ (X : Cx) : Str := X.env.qual ++ "<lambda>"
/-- a lambda of one parameter, no captured names: its call -/
theorem rel_lam {k : Nat} {f c' : Addr} {x : Str} {params : Arguments} {body : Expr} {scope : Scope} {pm ctv : Value} {tb : TE} (S : FnScope [x] [x] scope) (hr : Room (k + 3) X.A)
    (hbind : ∀ u : Value, bindArgs (PySem.W.kla_fn "<lambda>" (lamQ X) params body scope [] pm (.ref c') ctv) ⟨[u], []⟩ = pure [(x, u)])
    (hbody : ∀ (A : Around) (outer : List Env) (s : Shared) (H : Hp), Room k (A.deeper (envOfC (lamQ X) scope s.heap.objs.size f (.ref c'))) → PE (cxOf CX0 X.prog X.w X.K X.mg X.base [x] (lamQ X) scope f (.ref c') A outer s H E0) body tb) :
    KeyRel X [(f, PySem.W.kla_obj "<lambda>" (lamQ X) params body scope [] pm c' ctv)] (.ref f) (fun v H Q => H c' = some (CodeO c' (lamQ X)) ∧ tb [some v] H Q) := by
  intro pins s σ H v u Q hP I r ⟨hc, ht⟩
  have hf : s.heap.get? f = some (PySem.W.kla_obj "<lambda>" (lamQ X) params body scope [] pm c' ctv) := (I.pin _ (List.mem_append_right _ (hP _ List.mem_cons_self))).1
  obtain ⟨⟨oc, vs, t, hoc, hdc, hvc⟩, _, _⟩ := I.hok c' _ hc
  have hr2 : Room (k + 1) X.A.in1.in1 := hr.in1.in1
  have rc : codeAny (model X.prog X.w) X.A.in1.in1 (.call (.ref f) ⟨[u], []⟩) (CR CX0 X.stack X.prog X.w H s Q E0) s := by
    refine PySem.W.kla_callFunE hr2.depth hf rfl S.co S.gen rfl ⟨c', oc, vs, t, rfl, hoc, hdc, hvc⟩ ?_
    rw [hbind]
    have hkind : ∀ y ∈ [x].zip [u], scope.names.lookup y.1 = some .local ∨ (scope.names.lookup y.1 = some .cell ∧ ((cellsFrom (s.heap.objs.size + 1) scope.names []).lookup y.1).isSome = true) := fun ⟨n, v⟩ hy => by
      rcases S.par n (List.of_mem_zip hy).1 with q | q
      · exact .inl q
      · exact .inr ⟨q, PySem.W.cellsFrom_some _ _ _ (.inl q)⟩
    refine wpAny_pure (wpAny_newFunctionEnv_cells S.kind hkind fun env he s1 z => ?_)
    subst he
    refine ⟨I.nolimit.keeps z.toInCall.keep, ?_⟩
    have J : Inv (cxOf CX0 X.prog X.w X.K X.mg X.base [x] (lamQ X) scope f (.ref c') X.A.in1.in1 X.stack s H E0) [] (start [x] [v]) H s1 := inv_start S hr2.hd I.env0.in1.in1 rfl (.cons r .nil) z
    refine PySem.W.kla_codeExpr (wpAny_mono ((hbody _ _ s H (hr2.deeper _)).run [] _ _ H Q J ht) (fun v' s' hq => ?_) fun e s' hq => hq)
    obtain ⟨w', H', J', rv, q⟩ := hq
    exact ⟨w', H', J'.os, J'.bare, J'.base, J'.hok, rv, q⟩
  refine wpAny_call (codeAny_mono rc fun r s' hq => ?_)
  cases r with
  | error e => exact hq.elim
  | ok fl =>
    cases fl with
    | ret u => exact I.after hq
    | next => exact False.elim hq
    | brk => exact False.elim hq
    | cont => exact False.elim hq
/-- sorted(e, key=lambda x: body) -/
def tSortedLam (X : Cx) (T : List (Addr × Str)) (r : Addr → V → Hp → VK → Prop) (t : TA) : TE := fun σ H Q => t σ H fun vs H1 => ∃ x, vs = [x] ∧ Tabs T H1 ∧ ∀ c' H2, ExtN H1 H2 → Tabs T H2 → H2 c' = some (CodeO c' (lamQ X)) → r c' x H2 Q
theorem pe_sortedLam {e : Expr} {t : TA} {p pos kpos lpos : Pos} {r : Addr → V → Hp → VK → Prop} {T : List (Addr × Str)} {c P : Addr} {params : Arguments} {body : Expr} {scope : Scope}
    (run : ∀ (f c' : Addr) (pm ctv : Value), RunS X [(f, PySem.W.kla_obj "<lambda>" (lamQ X) params body scope [] pm c' ctv)] (.ref f) (r c')) (TB : TabB X.base X.mg c P) (hcode : X.env.code = .ref c)
    (hT : (P, lamQ X) ∈ T) (hu : ∀ p ∈ T, p.1 = P → p.2 = lamQ X) (hcl : cloFrom X.env.cells scope.names [] = []) (hfree : ∀ y ∈ scope.names, y.2 ≠ .free)
    (hg : Gl X "sorted") (hm : X.mg "sorted" = none) (ha : PA X [e] t) (hdef : defaultsOf params X.env = ([], []) := by rfl)
    (h1 : backTo pos (starEach [e] X.env) = (false, eval e X.env) :: backTo pos (starEach [] X.env) := by rfl) (hpl : (backTo pos (starEach [e] X.env)).any (·.1) = false := by rfl)
    (hall : (backToKw pos (keywordEach [⟨some "key", .Lambda params body scope lpos, kpos⟩] X.env)).all (·.1.isSome) = true := by rfl) (hnone : (backToKw pos (keywordEach [⟨some "key", .Lambda params body scope lpos, kpos⟩] X.env)).any (·.1.isNone) = false := by rfl) :
    PE X (.Call (.Name "sorted" p) [e] [⟨some "key", .Lambda params body scope lpos, kpos⟩] pos) (tSortedLam X T r t) := by
  refine ⟨fun pins s σ H Q I h => ?_⟩
  refine wpAny_Call_Name_kw (ld_blt I hg hm (u := .builtin "sorted") (by decide +kernel) ?_ (by decide))
  refine PyProof.Rows.callWith_kw (thn (ha.run pos pins s σ H _ I h) fun us s1 ⟨vs, H1, I1, r1, x, ex, hTab, q1⟩ => ?_) h1 hpl hall hnone
  subst ex
  obtain ⟨u, rfl, ru⟩ := vals1 r1
  show wpAny _ _ (evalAll ((do let v ← eval (.Lambda params body scope lpos) X.env; standAt pos; pure v) :: [])) _ _ s1
  refine wpAny_evalAll_cons (wpAny_bind (lam_make2 I1 TB hcode hT hu hTab hdef (fun y hy e => absurd e (hfree y hy)) fun f c' pm ctv H2 s2 I2 e2 t2 hf nf nfr hc => wpAny_bind (wpAny_standAt (wpAny_pure ?_))))
  refine wpAny_evalAll_nil ?_
  rw [hcl] at hf
  have nL : f ≠ X.env.locals := fun z => by
    obtain ⟨m, ⟨o, es, ep, ho, hd, _⟩, _⟩ := I2.loc
    rw [z, ho] at hf; cases hf
    cases hd
  have nF : f ∉ X.fs := fun z => nfr (by
    rcases I2.ok.stk with e | ⟨e, hfr⟩
    · rw [e]; exact z
    · rw [e]
      show f ∈ frs (X.env :: X.outer)
      unfold frs
      rw [List.filterMap_cons, hfr]
      exact List.mem_cons_of_mem _ z)
  have I3 : Inv X ((f, PySem.W.kla_obj "<lambda>" (lamQ X) params body scope [] pm c' ctv) :: pins) σ H2 s2 := I2.pins_of fun p hp => by
    rcases List.mem_cons.mp hp with rfl | hp
    · exact ⟨hf, nf, nL, nF, fun v z => by cases z⟩
    · exact I2.pin p (List.mem_append_right _ hp)
  refine thn (run f c' pm ctv _ s2 σ H2 x u Q (fun p hp => by rw [List.mem_singleton.mp hp]; exact List.mem_cons_self) I3 ru (q1 c' H2 e2 t2 hc)) fun v s3 ⟨y, H3, I4, r4, q4⟩ => ?_
  exact ⟨y, H3, I4.pins_of fun p hp => I4.pin p (List.mem_append_right _ (List.mem_cons_of_mem _ hp)), r4, q4⟩
end
end L2

-- part: TY1
namespace L2
open PySem PySem.Spec PyProof.Rows
/-- the built-in classes that are compared -/
def Kn (n : String) : Prop := n = "int" ∨ n = "str" ∨ n = "bool" ∨ n = "NoneType" ∨ n = "list" ∨ n = "tuple" ∨ n = "dict" ∨ n = "bytes"
theorem Kn.is {n : String} (h : Kn n) (s : Shared) : s.TypeIs (.type n) "type" := by
  rcases h with rfl | rfl | rfl | rfl | rfl | rfl | rfl | rfl
  · exact TypeEq.meta_int s
  · exact TypeEq.meta_str s
  · exact TypeEq.meta_bool s
  · exact TypeEq.meta_NoneType s
  · exact TypeEq.meta_list s
  · exact TypeEq.meta_tuple s
  · exact TypeEq.meta_dict s
  · exact TypeEq.meta_bytes s
theorem Kn.ty {K : PySem.W.Frag} {H : Hp} {x : V} {T : String} (t : TyB K H x T) : Kn T := by cases t <;> simp [Kn]
theorem eqAt_ty {a b : String} (ha : Kn a) (hb : Kn b) (A : Around) (s : Shared) : SeqAt.EqAt A s (.type a) (.type b) (decide (a = b)) := by
  intro prog w E Q q
  by_cases e : a = b
  · subst e
    rw [decide_eq_true rfl] at q
    unfold eqBool
    refine wpAny_holding ?_
    rw [if_pos (by simp)]
    exact wpAny_bind (wpAny_rule (wpAny_pure q))
  · rw [decide_eq_false e] at q
    have hb' : (Value.type a == Value.type b) = false := by rw [ty_beq]; exact decide_eq_false e
    unfold eqBool
    refine wpAny_holding ?_
    rw [if_neg (by rw [hb']; decide)]
    refine wpAny_bind (wpAny_mono (TypeEq.eq_type_other (fun s' => ha.is s') (fun s' => hb.is s') hb' (Q := fun v s' => v = .bool false ∧ Q false s') ⟨rfl, q⟩) (fun v s' hv => ?_) fun _ _ x => x)
    obtain ⟨rfl, q⟩ := hv
    exact wpAny_truthy_bool q
section
variable {X : Cx}
theorem op_eqTy : OpR X (compareOp .Eq) (fun x y H Q => ∃ a b, x = .ty a ∧ y = .ty b ∧ Kn a ∧ Kn b ∧ Q (.bl (decide (a = b))) H) := by
  intro pins s σ H x y v u Q I rx ry h
  obtain ⟨a, b, rfl, rfl, ka, kb, q⟩ := h
  cases rx
  cases ry
  by_cases e : a = b
  · subst e
    rw [decide_eq_true rfl] at q
    exact TypeEq.eq_type_same (fun s' => ka.is s') ⟨.bl true, H, I, rfl, q⟩
  · rw [decide_eq_false e] at q
    exact TypeEq.eq_type_other (fun s' => ka.is s') (fun s' => kb.is s') (by rw [ty_beq]; exact decide_eq_false e) ⟨.bl false, H, I, rfl, q⟩
theorem op_neTy : OpR X (compareOp .NotEq) (fun x y H Q => False) := fun _ _ _ _ _ _ _ _ _ _ _ _ h => h.elim
theorem vals_tys : ∀ {bs : List String} {us : List Value}, Vals (bs.map V.ty) us → us = bs.map Value.type
  | [], _, .nil => rfl
  | b :: bs, _, .cons r t => by
    cases r
    rw [vals_tys t]; rfl
theorem op_inTy : OpR X (compareOp .In) (fun x y H Q => ∃ (a : String) (p : Addr) (bs : List String), x = .ty a ∧ y = .ref p ∧ SqT X.K H p (bs.map V.ty) ∧ Kn a ∧ (∀ b ∈ bs, Kn b) ∧ Q (.bl (bs.contains a)) H) := by
  intro pins s σ H x y v u Q I rx ry h
  obtain ⟨a, p, bs, rfl, rfl, hq, ka, kb, q⟩ := h
  cases rx
  cases ry
  obtain ⟨its, r, pl, hz⟩ := I.tuple hq
  have e := vals_tys r
  subst e
  refine SeqAt.in_tupleAt (fun y => match y with | .type n => decide (n = a) | _ => false) pl (fun y hy => ?_) ⟨.bl _, H, I, rfl, ?_⟩
  · have hy' : y ∈ bs.map Value.type := by simpa using hy
    obtain ⟨b, hb, rfl⟩ := List.mem_map.mp hy'
    exact eqAt_ty (kb b hb) ka _ _
  · have e2 : ((bs.map Value.type).toArray.any fun y => match y with | .type n => decide (n = a) | _ => false) = bs.contains a := by
      rw [List.any_toArray, List.any_map]
      rw [List.contains_eq_any_beq]
      congr 1
      funext n
      show decide (n = a) = (a == n)
      by_cases h : n = a
      · simp [h]
      · rw [decide_eq_false h]
        exact (beq_eq_false_iff_ne.mpr (Ne.symm h)).symm
    rw [e2]
    exact q
end
/-- walked as this or as that -/
def iOr (w1 w2 : TI) : TI := fun σ H R => w1 σ H R ∨ w2 σ H R
theorem pi_or {X : Cx} {tg it : Expr} {w1 w2 : TI} (h1 : PI X tg it w1) (h2 : PI X tg it w2) : PI X tg it (iOr w1 w2) :=
  ⟨fun pins s σ H R I h => h.elim (fun h => h1.run pins s σ H R I h) fun h => h2.run pins s σ H R I h⟩
end L2

-- part: G1
namespace Toy
open PySem L2
/-! ### letters and clauses -/
def absI (i : Int) : Int := if i < 0 then -i else i
theorem absI_nat (i : Int) : absI i = (i.natAbs : Int) := by unfold absI; split <;> omega
/-- the clause of a row: rising by truths, the same letters -/
structure IsCl (row c : List Int) : Prop where
  inc : c.Pairwise fun a b => a.natAbs < b.natAbs
  mem : ∀ x, x ∈ c ↔ x ∈ row
structure RowOk (t : Int) (row : List Int) : Prop where
  low : ∀ x ∈ row, 1 ≤ x.natAbs
  top : ∀ x ∈ row, (x.natAbs : Int) ≤ t
  one : ∀ x ∈ row, -x ∉ row
theorem inc_ext : ∀ {c d : List Int}, c.Pairwise (fun a b => a.natAbs < b.natAbs) → d.Pairwise (fun a b => a.natAbs < b.natAbs) → (∀ x, x ∈ c ↔ x ∈ d) → c = d
  | [], [], _, _, _ => rfl
  | [], y :: d, _, _, h => absurd ((h y).mpr List.mem_cons_self) (by simp)
  | x :: c, [], _, _, h => absurd ((h x).mp List.mem_cons_self) (by simp)
  | x :: c, y :: d, hc, hd, h => by
    have c1 := List.pairwise_cons.mp hc
    have d1 := List.pairwise_cons.mp hd
    have e : x = y := by
      rcases List.mem_cons.mp ((h x).mp List.mem_cons_self) with e | hx
      · exact e
      · rcases List.mem_cons.mp ((h y).mpr List.mem_cons_self) with e | hy
        · exact e.symm
        · have a1 := d1.1 x hx
          have a2 := c1.1 y hy
          omega
    subst e
    have nx : x ∉ c := fun z => by have := c1.1 x z; omega
    have ny : x ∉ d := fun z => by have := d1.1 x z; omega
    rw [inc_ext c1.2 d1.2 fun z => ⟨fun hz => (List.mem_cons.mp ((h z).mp (List.mem_cons_of_mem _ hz))).resolve_left fun e => nx (e ▸ hz), fun hz => (List.mem_cons.mp ((h z).mpr (List.mem_cons_of_mem _ hz))).resolve_left fun e => ny (e ▸ hz)⟩]
theorem IsCl.ext {row row' c c' : List Int} (h : IsCl row c) (h' : IsCl row' c') (e : ∀ x, x ∈ row ↔ x ∈ row') : c = c' :=
  inc_ext h.inc h'.inc fun x => (h.mem x).trans ((e x).trans (h'.mem x).symm)
/-- ints unlike by their truths, in order -/
theorem strict_of {ks out : List Int} (p : out.Perm ks) (nd : ks.Nodup) (one : ∀ x ∈ ks, -x ∉ ks) (low : ∀ x ∈ ks, 1 ≤ x.natAbs) (h : out.Pairwise fun a b => absI a ≤ absI b) : out.Pairwise fun a b => a.natAbs < b.natAbs := by
  have nd' : out.Nodup := p.nodup_iff.mpr nd
  have hm : ∀ x ∈ out, x ∈ ks := fun x hx => p.mem_iff.mp hx
  have q := h.imp_of_mem (S := fun a b => a ≠ b → a.natAbs < b.natAbs) fun {a b} ha hb hab ne => by
    rw [absI_nat, absI_nat] at hab
    have h1 := one a (hm a ha)
    have h2 := low a (hm a ha)
    have h3 : b ≠ -a := fun e => h1 (by rw [← e]; exact hm b hb)
    omega
  exact (q.and nd').imp fun h => h.1 h.2
section
variable {X : Cx} {H : Hp} {Q : VK}
/-- sorted by the truths -/
theorem go_abs {K : PySem.W.Frag} {ks : List Int} (q : ∀ (out : List Int) (p : Addr), out.Perm ks → out.Pairwise (fun a b => absI a ≤ absI b) → H p = none → Q (.ref p) (upd H p (.lst (out.map V.int)))) :
    SortGo K (fun x H Q => ∃ i, x = .int i ∧ Q (.int (if i < 0 then -i else i)) H) (ks.map V.int) H Q := by
  refine ⟨fun kv H' => H' = H ∧ kv = (ks.take kv.length).map fun i => V.int (absI i), ⟨rfl, by simp⟩, ?_, ?_⟩
  · rintro i v kv H' hi hl ⟨rfl, hk⟩
    rw [List.getElem?_map] at hi
    cases e : ks[i]? with
    | none => rw [e] at hi; cases hi
    | some z =>
      rw [e] at hi
      cases hi
      refine ⟨z, rfl, rfl, ?_⟩
      rw [List.length_append, List.length_singleton, hl, List.take_add_one, e]
      rw [hl] at hk
      simp only [Option.toList_some, List.map_append, List.map_cons, List.map_nil]
      rw [← hk]
      rfl
  · rintro kv H' ⟨rfl, hk⟩ hl
    rw [List.length_map] at hl
    rw [hl, List.take_length] at hk
    refine .inl ⟨ks.map absI, by rw [hk, List.map_map]; rfl, fun zs hp ho p hn => ?_⟩
    have e1 : (ks.map absI).zip (ks.map V.int) = ks.map fun i => (absI i, V.int i) := by
      rw [List.zip_map]
      have : ks.zip ks = ks.map fun i => (i, i) := by
        clear q hk hl hp
        induction ks with
        | nil => rfl
        | cons a r ih => rw [List.zip_cons_cons, ih]; rfl
      rw [this, List.map_map]
      rfl
    rw [e1] at hp
    have at_ : ∀ z ∈ zs, ∃ i, z = (absI i, V.int i) := fun z hz => by
      obtain ⟨i, _, e⟩ := List.mem_map.mp (hp.mem_iff.mp hz)
      exact ⟨i, e.symm⟩
    -- the ints of zs
    let f : Int × V → Int := fun z => match z.2 with | .int i => i | _ => 0
    have ef : zs.map (fun z => (absI (f z), V.int (f z))) = zs := by
      have : ∀ l : List (Int × V), (∀ z ∈ l, ∃ i, z = (absI i, V.int i)) → l.map (fun z => (absI (f z), V.int (f z))) = l := by
        intro l
        induction l with
        | nil => intro _; rfl
        | cons a r ih =>
          intro h
          obtain ⟨i, rfl⟩ := h a List.mem_cons_self
          rw [List.map_cons, ih fun z hz => h z (List.mem_cons_of_mem _ hz)]
      exact this zs at_
    have pk : (zs.map f).Perm ks := by
      have q1 := hp.map f
      rw [List.map_map] at q1
      have e2 : ks.map (f ∘ fun i => (absI i, V.int i)) = ks := by
        have : (f ∘ fun i => (absI i, V.int i)) = id := by funext i; rfl
        rw [this, List.map_id]
      rw [e2] at q1
      exact q1
    have po : (zs.map f).Pairwise fun a b => absI a ≤ absI b := by
      rw [← ef] at ho
      rw [List.pairwise_map] at ho ⊢
      exact ho
    have q2 := q (zs.map f) p pk po hn
    have e3 : (zs.map f).map V.int = zs.map (·.2) := by
      conv => rhs; rw [← ef]
      rw [List.map_map, List.map_map]
      rfl
    rw [e3] at q2
    exact q2
end
/-- tuples of ints at places -/
def TupsAt (H : Hp) (bs : List Addr) (cs : List (List Int)) : Prop := Paired (fun (b : Addr) (c : List Int) => H b = some (.tup (c.map V.int))) bs cs
theorem TupsAt.same {H H' : Hp} (e : Same H H') : ∀ {bs : List Addr} {cs : List (List Int)}, TupsAt H bs cs → TupsAt H' bs cs
  | _, _, .nil => .nil
  | _, _, .cons h t => .cons (e _ _ h) (TupsAt.same e t)
theorem TupsAt.len {H : Hp} : ∀ {bs : List Addr} {cs : List (List Int)}, TupsAt H bs cs → bs.length = cs.length
  | _, _, .nil => rfl
  | _, _, .cons _ t => by rw [List.length_cons, List.length_cons, TupsAt.len t]
theorem TupsAt.get {H : Hp} : ∀ {bs : List Addr} {cs : List (List Int)} {i : Nat} {b : Addr}, TupsAt H bs cs → bs[i]? = some b → ∃ c, cs[i]? = some c ∧ H b = some (.tup (c.map V.int))
  | _, _, _, _, .nil, h => by simp at h
  | _, _, 0, _, .cons h t, e => by cases e; exact ⟨_, rfl, h⟩
  | _, _, i + 1, _, .cons h t, e => TupsAt.get (i := i) t e
theorem TupsAt.zip {H : Hp} : ∀ {bs : List Addr} {cs : List (List Int)}, TupsAt H bs cs → ∀ p ∈ bs.zip cs, H p.1 = some (.tup (p.2.map V.int))
  | _, _, .nil, p, h => by simp at h
  | _, _, .cons h t, p, hp => by
    rw [List.zip_cons_cons] at hp
    rcases List.mem_cons.mp hp with rfl | hp
    · exact h
    · exact TupsAt.zip t p hp
theorem TupsAt.of_zip {H : Hp} : ∀ {zs : List (Addr × List Int)}, (∀ p ∈ zs, H p.1 = some (.tup (p.2.map V.int))) → TupsAt H (zs.map (·.1)) (zs.map (·.2))
  | [], _ => .nil
  | z :: zs, h => .cons (h z List.mem_cons_self) (TupsAt.of_zip fun p hp => h p (List.mem_cons_of_mem _ hp))
/-- shorter ones first, then rising -/
def ltC (a b : List Int) : Bool := ltKT ((a.length : Int), a) ((b.length : Int), b)
/-- what the key makes of a clause -/
def relLen (x : V) (H : Hp) (Q : VK) : Prop := ∃ c l, x = .ref c ∧ H c = some (.tup l) ∧ ∀ t, H t = none → Q (.ref t) (upd H t (.tup [.int (l.length : Int), .ref c]))
theorem go_cls {K : PySem.W.Frag} {rel : V → Hp → VK → Prop} {H : Hp} {Q : VK} {bs : List Addr} {cs : List (List Int)} (G : Hp → Prop) (g0 : G H) (gs : ∀ H1 H2, G H1 → Same H1 H2 → G H2)
    (hrel : ∀ x H Q, G H → relLen x H Q → rel x H Q) (T : TupsAt H bs cs)
    (q : ∀ (zs : List (Addr × List Int)) (H' : Hp) (p : Addr), zs.Perm (bs.zip cs) → zs.Pairwise (fun a b => ltC b.2 a.2 = false) → Same H H' → G H' → TupsAt H' (zs.map (·.1)) (zs.map (·.2)) → H' p = none → Q (.ref p) (upd H' p (.lst (zs.map fun z => V.ref z.1)))) :
    SortGo K rel (bs.map V.ref) H Q := by
  have hlen := T.len
  refine ⟨fun kv H' => Same H H' ∧ G H' ∧ ∃ ts : List Addr, kv = ts.map V.ref ∧ ∀ (i : Nat) (t b : Addr) (c : List Int), ts[i]? = some t → bs[i]? = some b → cs[i]? = some c → H' t = some (.tup [.int (c.length : Int), .ref b]), ⟨Same.refl H, g0, [], rfl, fun i t b c h => by simp at h⟩, ?_, ?_⟩
  · rintro i v kv H' hi hl ⟨sm, g, ts, rfl, hts⟩
    rw [List.getElem?_map] at hi
    cases e : bs[i]? with
    | none => rw [e] at hi; cases hi
    | some b =>
      rw [e] at hi
      cases hi
      obtain ⟨c, hc, hb⟩ := T.get e
      refine hrel _ _ _ g ⟨b, _, rfl, sm _ _ hb, fun t ht => ?_⟩
      have s2 : Same H' (upd H' t (.tup [.int ((c.map V.int).length : Int), .ref b])) := Same.new ht
      refine ⟨Same.trans sm s2, gs _ _ g s2, ts ++ [t], by rw [List.map_append]; rfl, fun j t' b' c' h1 h2 h3 => ?_⟩
      rw [List.length_map] at hl
      by_cases hj : j < ts.length
      · rw [List.getElem?_append_left hj] at h1
        exact s2 _ _ (hts j t' b' c' h1 h2 h3)
      · have hj' : j = ts.length := by
          have := (List.getElem?_eq_some_iff.mp h1).1
          rw [List.length_append, List.length_singleton] at this
          omega
        subst hj'
        rw [List.getElem?_append_right (Nat.le_refl _), Nat.sub_self] at h1
        cases h1
        rw [hl, e] at h2
        cases h2
        rw [hl, hc] at h3
        cases h3
        rw [upd_same, List.length_map]
  · rintro kv H' ⟨sm, g, ts, rfl, hts⟩ hl
    rw [List.length_map, List.length_map] at hl
    have T' := TupsAt.same sm T
    refine .inr ⟨cs.map fun c => ((c.length : Int), c), ?_, fun zs hp ho p hn => ?_⟩
    · -- the keys stand
      have : ∀ (ts bs : List Addr) (cs : List (List Int)), ts.length = bs.length → bs.length = cs.length → (∀ (i : Nat) (t b : Addr) (c : List Int), ts[i]? = some t → bs[i]? = some b → cs[i]? = some c → H' t = some (.tup [.int (c.length : Int), .ref b])) → TupsAt H' bs cs → Paired (KeyT K H') (ts.map V.ref) (cs.map fun c => ((c.length : Int), c)) := by
        intro ts
        induction ts with
        | nil =>
          intro bs cs h1 h2 _ _
          cases bs with
          | nil =>
            cases cs with
            | nil => exact .nil
            | cons c cs => simp at h2
          | cons b bs => simp at h1
        | cons t ts ih =>
          intro bs cs h1 h2 h3 h4
          cases h4 with
          | nil => simp at h1
          | cons hb ht =>
            refine .cons ⟨t, _, rfl, SqT.of (h3 0 _ _ _ rfl rfl rfl), SqT.of hb⟩ (ih _ _ (by simpa using h1) (by simpa using h2) (fun i t' b' c' a1 a2 a3 => h3 (i + 1) t' b' c' a1 a2 a3) ht)
      exact this ts bs cs hl hlen hts T'
    · have ez : (cs.map fun c => ((c.length : Int), c)).zip (bs.map V.ref) = (bs.zip cs).map fun z => (((z.2.length : Int), z.2), V.ref z.1) := by
        have : ∀ (bs : List Addr) (cs : List (List Int)), (cs.map fun c => ((c.length : Int), c)).zip (bs.map V.ref) = (bs.zip cs).map fun z => (((z.2.length : Int), z.2), V.ref z.1) := by
          intro bs
          induction bs with
          | nil => intro cs; cases cs <;> rfl
          | cons b bs ih =>
            intro cs
            cases cs with
            | nil => rfl
            | cons c cs =>
              rw [List.map_cons, List.map_cons, List.zip_cons_cons, List.zip_cons_cons, List.map_cons, ih]
        exact this bs cs
      rw [ez] at hp
      let f : (Int × List Int) × V → Addr × List Int := fun z => (match z.2 with | .ref a => a | _ => 0, z.1.2)
      have ef : zs.map (fun z => ((((f z).2.length : Int), (f z).2), V.ref (f z).1)) = zs := by
        have : ∀ l : List ((Int × List Int) × V), (∀ z ∈ l, ∃ y : Addr × List Int, z = (((y.2.length : Int), y.2), V.ref y.1)) → l.map (fun z => ((((f z).2.length : Int), (f z).2), V.ref (f z).1)) = l := by
          intro l
          induction l with
          | nil => intro _; rfl
          | cons a r ih =>
            intro h
            obtain ⟨y, rfl⟩ := h a List.mem_cons_self
            rw [List.map_cons, ih fun z hz => h z (List.mem_cons_of_mem _ hz)]
        exact this zs fun z hz => by
          obtain ⟨y, _, e⟩ := List.mem_map.mp (hp.mem_iff.mp hz)
          exact ⟨y, e.symm⟩
      have pk : (zs.map f).Perm (bs.zip cs) := by
        have q1 := hp.map f
        rw [List.map_map] at q1
        have e2 : (bs.zip cs).map (f ∘ fun z => (((z.2.length : Int), z.2), V.ref z.1)) = bs.zip cs := by
          have : (f ∘ fun z : Addr × List Int => (((z.2.length : Int), z.2), V.ref z.1)) = id := by funext z; rfl
          rw [this, List.map_id]
        rw [e2] at q1
        exact q1
      have po : (zs.map f).Pairwise fun a b => ltC b.2 a.2 = false := by
        rw [← ef] at ho
        rw [List.pairwise_map] at ho ⊢
        exact ho
      have tz : TupsAt H' ((zs.map f).map (·.1)) ((zs.map f).map (·.2)) := TupsAt.of_zip fun y hy => TupsAt.zip T' y (pk.mem_iff.mp hy)
      have q2 := q (zs.map f) H' p pk po sm g tz hn
      have e3 : (zs.map f).map (fun z => V.ref z.1) = zs.map (·.2) := by
        conv => rhs; rw [← ef]
        rw [List.map_map, List.map_map]
        rfl
      rw [e3] at q2
      exact q2
end Toy
namespace Toy
open PySem L2
/-! ### dicts by their keys -/
section
variable {κ α : Type} [DecidableEq κ] [DecidableEq α]
theorem valV_none {kvs : List (κ × V)} {k : κ} : valV kvs k = none ↔ k ∉ kvs.map (·.1) := by
  constructor
  · exact valV_not
  · intro h
    cases e : valV kvs k with
    | none => rfl
    | some v => exact absurd (valV_in e) h
/-- once more, at the end, if it isn't there -/
def addU (ks : List α) (n : α) : List α := if n ∈ ks then ks else ks ++ [n]
theorem keys_put {f : α → κ} (inj : ∀ a b, f a = f b → a = b) {kvs : List (κ × V)} {ks : List α} (h : kvs.map (·.1) = ks.map f) (n : α) (v : V) : (putK kvs (f n) v).map (·.1) = (addU ks n).map f := by
  unfold addU
  by_cases hn : n ∈ ks
  · rw [if_pos hn]
    have hm : f n ∈ kvs.map (·.1) := by rw [h]; exact List.mem_map.mpr ⟨n, hn, rfl⟩
    have ha : (kvs.any fun kv => decide (kv.1 = f n)) = true := by
      rw [List.any_eq_true]
      obtain ⟨p, hp, e⟩ := List.mem_map.mp hm
      exact ⟨p, hp, decide_eq_true e⟩
    unfold putK
    rw [if_pos ha, ← h, List.map_map]
    refine List.map_congr_left fun p _ => ?_
    show (if p.1 = f n then (p.1, v) else p).1 = p.1
    split <;> rfl
  · rw [if_neg hn]
    have hv : valV kvs (f n) = none := valV_none.mpr fun z => by
      rw [h] at z
      obtain ⟨m, hm, e⟩ := List.mem_map.mp z
      rw [inj _ _ e] at hm
      exact hn hm
    rw [putK_new v hv, List.map_append, h, List.map_append]
    rfl
theorem nd_add {ks : List α} (h : ks.Nodup) (n : α) : (addU ks n).Nodup := by
  unfold addU
  split
  · exact h
  · rename_i hn
    rw [List.nodup_append]
    exact ⟨h, by simp, fun a ha b hb => by rw [List.mem_singleton.mp hb]; exact fun e => hn (e ▸ ha)⟩
theorem mem_add {ks : List α} (n z : α) : z ∈ addU ks n ↔ z ∈ ks ∨ z = n := by
  unfold addU
  split
  · rename_i hn
    exact ⟨.inl, fun h => h.elim id fun e => e ▸ hn⟩
  · simp
theorem len_add {ks : List α} (n : α) : (addU ks n).length ≤ ks.length + 1 := by
  unfold addU
  split
  · omega
  · simp
theorem val_keys {f : α → κ} (inj : ∀ a b, f a = f b → a = b) {kvs : List (κ × V)} {ks : List α} (h : kvs.map (·.1) = ks.map f) (n : α) : (valV kvs (f n)).isSome = decide (n ∈ ks) := by
  by_cases hn : n ∈ ks
  · rw [decide_eq_true hn]
    cases e : valV kvs (f n) with
    | some v => rfl
    | none => exact absurd (by rw [h]; exact List.mem_map.mpr ⟨n, hn, rfl⟩) (valV_none.mp e)
  · rw [decide_eq_false hn, valV_none.mpr fun z => by
      rw [h] at z
      obtain ⟨m, hm, e⟩ := List.mem_map.mp z
      rw [inj _ _ e] at hm
      exact hn hm]
    rfl
end
theorem inl_inj (a b : Int) (h : (Sum.inl a : Key) = Sum.inl b) : a = b := Sum.inl.inj h
/-- a tuple of ints as a key -/
def tkey (c : List Int) : List Key := c.map Sum.inl
theorem tkey_inj (a b : List Int) (h : tkey a = tkey b) : a = b := (List.map_inj_right (fun x y h => Sum.inl.inj h)).mp h
theorem tkey_kV (c : List Int) : (tkey c).map kV = c.map V.int := by
  unfold tkey
  rw [List.map_map]
  rfl
end Toy
namespace Toy
open PySem L2
theorem e_sorted {r : V → Hp → VK → Prop} {t : TA} {σ : St} {H : Hp} {Q : VK} : tSorted r t σ H Q = t σ H fun vs H1 => ∃ x, vs = [x] ∧ r x H1 Q := rfl
end Toy
namespace Toy
open PySem L2
/-! ### the clauses of a problem -/
theorem ltC_irrefl (a : List Int) : ltC a a = false := by
  unfold ltC ltKT
  rw [if_pos rfl]
  exact lex_irrefl a
theorem ltC_total {a b : List Int} (h1 : ltC a b = false) (h2 : ltC b a = false) : a = b := by
  unfold ltC ltKT at h1 h2
  by_cases e : (a.length : Int) = (b.length : Int)
  · have h1 : HT.lexLt a b = false := by rw [if_pos e] at h1; exact h1
    have h2 : HT.lexLt b a = false := by rw [if_pos e.symm] at h2; exact h2
    exact lex_total a b h1 h2
  · rw [if_neg e] at h1
    rw [if_neg (Ne.symm e)] at h2
    have d1 := of_decide_eq_false h1
    have d2 := of_decide_eq_false h2
    omega
theorem ltC_asym {a b : List Int} (h : ltC a b = true) : ltC b a = false := swo_KT.asym _ _ h
theorem ltC_trans {a b c : List Int} (h1 : ltC a b = true) (h2 : ltC b c = true) : ltC a c = true := swo_KT.ltle h1 (swo_KT.asym _ _ h2)
/-- shorter ones first, rising: the unlike clauses of the rows -/
structure IsDue (rows cs : List (List Int)) : Prop where
  inc : cs.Pairwise fun a b => ltC a b = true
  mem : ∀ c, c ∈ cs ↔ ∃ row ∈ rows, IsCl row c
theorem ltC_ext : ∀ {c d : List (List Int)}, c.Pairwise (fun a b => ltC a b = true) → d.Pairwise (fun a b => ltC a b = true) → (∀ x, x ∈ c ↔ x ∈ d) → c = d
  | [], [], _, _, _ => rfl
  | [], y :: d, _, _, h => absurd ((h y).mpr List.mem_cons_self) (by simp)
  | x :: c, [], _, _, h => absurd ((h x).mp List.mem_cons_self) (by simp)
  | x :: c, y :: d, hc, hd, h => by
    have c1 := List.pairwise_cons.mp hc
    have d1 := List.pairwise_cons.mp hd
    have irr : ∀ z : List Int, ltC z z = true → False := fun z q => by rw [ltC_irrefl] at q; cases q
    have e : x = y := by
      rcases List.mem_cons.mp ((h x).mp List.mem_cons_self) with e | hx
      · exact e
      · rcases List.mem_cons.mp ((h y).mpr List.mem_cons_self) with e | hy
        · exact e.symm
        · exact (irr _ (ltC_trans (d1.1 x hx) (c1.1 y hy))).elim
    subst e
    have nx : x ∉ c := fun z => irr _ (c1.1 x z)
    have ny : x ∉ d := fun z => irr _ (d1.1 x z)
    rw [ltC_ext c1.2 d1.2 fun z => ⟨fun hz => (List.mem_cons.mp ((h z).mp (List.mem_cons_of_mem _ hz))).resolve_left fun e => nx (e ▸ hz), fun hz => (List.mem_cons.mp ((h z).mpr (List.mem_cons_of_mem _ hz))).resolve_left fun e => ny (e ▸ hz)⟩]
theorem IsDue.ext {r r' c c' : List (List Int)} (h : IsDue r c) (h' : IsDue r' c') (e : ∀ x, (∃ row ∈ r, IsCl row x) ↔ ∃ row ∈ r', IsCl row x) : c = c' :=
  ltC_ext h.inc h'.inc fun x => (h.mem x).trans ((e x).trans (h'.mem x).symm)
theorem inc_of {cs out : List (List Int)} (p : out.Perm cs) (nd : cs.Nodup) (h : out.Pairwise fun a b => ltC b a = false) : out.Pairwise fun a b => ltC a b = true := by
  have nd' : out.Nodup := p.nodup_iff.mpr nd
  refine (h.and nd').imp fun {a b} h => ?_
  cases e : ltC a b with
  | true => rfl
  | false => exact absurd (ltC_total e h.1) h.2
/-- the tuples that are the keys of a dict -/
theorem tups_of_keys {H : Hp} : ∀ {kvs : List (List Key × V)} {bs : List Addr} {cs : List (List Int)}, IsKeys H kvs bs → kvs.map (·.1) = cs.map tkey → TupsAt H bs cs
  | _, _, [], .nil, _ => .nil
  | _, _, _ :: _, .nil, h => by cases h
  | _, _, [], .cons _ _, h => by cases h
  | _, _, c :: cs, .cons hb t, h => by
    rw [List.map_cons, List.map_cons] at h
    have h1 := (List.cons.inj h).1
    have h2 := (List.cons.inj h).2
    refine .cons ?_ (tups_of_keys t h2)
    rw [h1, tkey_kV] at hb
    exact hb
end Toy
namespace Toy
open PySem L2
/-! ### clauses as data -/
def dTup (c : List Int) : PyData := .tuple (c.map PyData.int)
def dCls (cs : List (List Int)) : PyData := .tuple (cs.map dTup)
theorem dpAll_cls {K : PySem.W.Frag} {H : Hp} : ∀ {bs : List Addr} {cs : List (List Int)}, TupsAt H bs cs → DpAll K H (bs.map V.ref) (cs.map dTup)
  | _, _, .nil => .nil
  | _, _, .cons h t => .cons (.tup (SqT.of h) (dpAll_ints _)) (dpAll_cls t)
theorem can_cls : ∀ cs : List (List Int), PyData.canLayAll0 (cs.map dTup) = true
  | [] => by simp [PyData.canLayAll0]
  | c :: cs => by simp [PyData.canLayAll0, dTup, PyData.canLay0, can_intsD, can_cls cs]
theorem dep_cls : ∀ cs : List (List Int), PyData.depthAll (cs.map dTup) ≤ 2
  | [] => by simp [PyData.depthAll]
  | c :: cs => by
    have h1 := dep_cls cs
    have h2 := dep_intsD c
    simp only [List.map_cons, PyData.depthAll, dTup, PyData.depth]
    omega
theorem shaped_cls (cs : List (List Int)) : SeqAt.shaped (dCls cs) = true := by
  have h := dep_cls cs
  unfold SeqAt.shaped dCls
  rw [Bool.and_eq_true]
  refine ⟨by simp [PyData.canLay0, can_cls], decide_eq_true ?_⟩
  simp only [PyData.depth]
  omega
theorem eqvAll_cls : ∀ a b : List (List Int), PyData.eqvAll (a.map dTup) (b.map dTup) = decide (a = b)
  | [], [] => by simp [PyData.eqvAll]
  | [], y :: b => by simp [PyData.eqvAll]
  | x :: a, [] => by simp [PyData.eqvAll]
  | x :: a, y :: b => by
    simp only [List.map_cons, PyData.eqvAll, dTup, PyData.eqv, eqvAll_ints]
    rw [eqvAll_cls a b]
    by_cases h1 : x = y <;> by_cases h2 : a = b <;> simp [h1, h2]
theorem eqv_cls (a b : List (List Int)) : PyData.eqv (dCls a) (dCls b) = decide (a = b) := by
  unfold dCls
  simp only [PyData.eqv]
  exact eqvAll_cls a b
end Toy
namespace Toy
open PySem L2
theorem e_dsetd {td ty tx : TE} {σ : St} {H : Hp} {Q : VK} : tDSetd td ty tx σ H Q = td σ H fun x H1 => ∃ a, x = .ref a ∧ IsD H1 a ∧ ty σ H1 fun y H2 => tx σ H2 fun z H3 => ∃ (kvs : List (Key × V)) (k : Key), H3 a = some (.dK kvs) ∧ y = kV k ∧ kvs.length < sizeLine ∧
  (∀ v, valV kvs k = some v → Q v H3) ∧ (valV kvs k = none → Q z (upd H3 a (.dK (putK kvs k z)))) := rfl
/-- the draw of one of two -/
theorem at_two {a b : V} {r : Int} (h0 : 0 ≤ r) (h1 : r < 2) : (r = 0 ∧ atI [a, b] r = some a) ∨ (r = 1 ∧ atI [a, b] r = some b) := by
  have : r = 0 ∨ r = 1 := by omega
  rcases this with rfl | rfl
  · exact .inl ⟨rfl, rfl⟩
  · exact .inr ⟨rfl, rfl⟩
end Toy

local macro_rules | `(tactic| walk_at "rd") => `(tactic| try simp only [Toy.e_seq, Toy.e_asg, Toy.e_asgS, Toy.e_ret, Toy.e_ifS, Toy.e_c, Toy.e_op, Toy.e_test, Toy.e_rI0, Toy.e_rI, Toy.e_var0, Toy.e_varS, Toy.e_bl, Toy.e_nil, Toy.e_cons, Toy.e_call, Toy.e_cb, Toy.e_next, Toy.e_bl2, Toy.e_cxK, Toy.e_ii, Toy.e_lst, Toy.e_tup, Toy.e_and, Toy.e_chain, Toy.e_tif, Toy.e_not, Toy.e_tb, Toy.e_drop, Toy.e_i1, Toy.e_or, Toy.e_andT, Toy.e_din, Toy.e_dnotin, Toy.e_un, Toy.e_rU, Toy.e_dput, Toy.e_x1, Toy.e_notV, Toy.e_orV, Toy.e_sorted, Toy.e_fld, Toy.e_gName, Toy.e_bm, Toy.e_dsetd, Toy.e_par, Toy.e_vw, Toy.e_dnewK, List.set_cons_zero, List.set_cons_succ, List.append_nil, List.nil_append, List.cons_append])
-- part: IX
namespace Toy
open PySem L2
def topS (i : Nat) : Stmt := PySem.Challenge.pw_turnless_k11_rounds_and_how_often.main.body.getD i (.Pass ⟨0, 0, 0, 0⟩)
abbrev s_is_number : Stmt := topS 5
abbrev s_is_letter : Stmt := topS 6
abbrev s_is_turn : Stmt := topS 9
abbrev s_still : Stmt := topS 10
abbrev s_then : Stmt := topS 11
abbrev s_order : Stmt := topS 12
abbrev s_rounds : Stmt := topS 13
abbrev s__round_of : Stmt := topS 14
abbrev s__is_many : Stmt := topS 15
abbrev s_refuse_no_turn : Stmt := topS 16
abbrev s_goes : Stmt := topS 17
abbrev s_table_of : Stmt := topS 18
abbrev s_led_on : Stmt := topS 19
abbrev s__law_mixed : Stmt := topS 21
abbrev s__law_next : Stmt := topS 22
abbrev s__law_goes : Stmt := topS 23
abbrev s__law_rounds : Stmt := topS 24
abbrev s__law_put_together : Stmt := topS 25
abbrev s__law_common : Stmt := topS 26
abbrev s_law : Stmt := topS 27
/-- a def of the top -/
structure Df (K : PySem.W.Frag) (mg : Str → Option Value) (x : Str) (st : Stmt) (ps : List Str) (f : Addr) (fd : FuncData) : Prop where
  F : Fun K x x st f fd
  g : mg x = some (.ref f)
  b : Binds K fd ps []
/-- the built-in names -/
structure Bl (mg : Str → Option Value) : Prop where
  max : mg "max" = none
  min : mg "min" = none
  len : mg "len" = none
  range : mg "range" = none
  type : mg "type" = none
  int : mg "int" = none
  list : mg "list" = none
  tuple : mg "tuple" = none
  dict : mg "dict" = none
  bool : mg "bool" = none
  abs : mg "abs" = none
  sorted : mg "sorted" = none
  enumerate : mg "enumerate" = none
  isinstance : mg "isinstance" = none
  repr : mg "repr" = none
  str : mg "str" = none
  all : mg "all" = none
  any : mg "any" = none
  zip : mg "zip" = none
  reversed : mg "reversed" = none
  sum : mg "sum" = none
  set : mg "set" = none
  ValueError : mg "ValueError" = none
end Toy

-- part: P1q
namespace Toy
open PySem L2
section
variable {P : Program} {w : World} {K : PySem.W.Frag} {mg : Str → Option Value} {base : Heap}
abbrev sIsNum : Stmt := s_is_number
theorem scIsNum : FnScope ["thing"] ["thing"] (defScope sIsNum) := ⟨rfl, rfl, rfl, by decide +kernel, rfl, by decide +kernel, by decide +kernel⟩
def spIsNum (K : PySem.W.Frag) : Sp := fun vs H Q _ => ∃ x T, vs = [x] ∧ TyB K H x T ∧ Q (.bl (decide (T = "int"))) H
theorem ok_isNum {f : Addr} {fd : FuncData} (F : Fun K "is_number" "is_number" sIsNum f fd) (B : Bl mg) : FnOk P w K mg base CX0 1 f fd ["thing"] (spIsNum K) := by
  refine F.ok scIsNum (fun vs H Q E h => ?_) (fun cdv A outer s H vs Q E hr h => ?_)
  · obtain ⟨x, T, rfl, _⟩ := h
    rfl
  · obtain ⟨x, T, rfl, ty, q⟩ := h
    refine ⟨_, pss_one (ps_ret (pe_cmpR op_eqTy (pe_callTy call_type1 (by rfl) B.type (by decide +kernel) (pa_cons (pv 0) pa_nil)) (pe_bltn (v := .ty "int") (by rfl) B.int (by decide +kernel) rfl) (nomark _))), ?_⟩
    show tRet _ _ [some x] H
    walk_at "rd"
    exact ⟨x, T, rfl, ty, _, _, rfl, rfl, Kn.ty ty, .inl rfl, q⟩
abbrev sIsLet : Stmt := s_is_letter
theorem scIsLet : FnScope ["thing", "many"] ["thing", "many"] (defScope sIsLet) := ⟨rfl, rfl, rfl, by decide +kernel, rfl, by decide +kernel, by decide +kernel⟩
/-- whether x is a letter of t truths -/
def letB (x : V) (t : Int) : Bool := match x with
  | .int i => decide (1 ≤ absI i) && decide (absI i ≤ t)
  | _ => false
def spIsLet (K : PySem.W.Frag) : Sp := fun vs H Q _ => ∃ x T t, vs = [x, .int t] ∧ TyB K H x T ∧ Q (.bl (letB x t)) H
theorem ok_isLet {f fN : Addr} {fd fdN : FuncData} (F : Fun K "is_letter" "is_letter" sIsLet f fd) (B : Bl mg) (N : Df K mg "is_number" sIsNum ["thing"] fN fdN) : FnOk P w K mg base CX0 2 f fd ["thing", "many"] (spIsLet K) := by
  have GN : FnOk P w K mg base CX0 1 fN fdN ["thing"] (spIsNum K) := ok_isNum N.F B
  refine F.ok scIsLet (fun vs H Q E h => ?_) (fun cdv A outer s H vs Q E hr h => ?_)
  · obtain ⟨x, T, t, rfl, _⟩ := h
    rfl
  · obtain ⟨x, T, t, rfl, ty, q⟩ := h
    refine ⟨_, pss_one (ps_ret (pe_and (pe_call GN hr rfl N.g N.F.kp N.b .nil pass0 (pa_cons (pv 0) pa_nil)) (pe_one (pe_chain op_le op_le pe_int (pe_callB call_abs (by rfl) B.abs (by decide +kernel) (pa_cons (pv 0) pa_nil)) (pv 1))))), ?_⟩
    show tRet _ _ [some x, some (.int t)] H
    walk_at "rd"
    refine ⟨x, T, rfl, ty, ?_⟩
    walk_at "rd"
    cases ty with
    | int i =>
      refine iteT ?_
      walk_at "rd"
      by_cases h1 : 1 ≤ absI i
      · have e : decide (1 ≤ if i < 0 then -i else i) = true := decide_eq_true h1
        rw [e]
        refine iteT ?_
        have q' := q
        unfold letB at q'
        simp only [h1, decide_true, Bool.true_and] at q'
        exact q'
      · have e : decide (1 ≤ if i < 0 then -i else i) = false := decide_eq_false h1
        rw [e]
        refine iteF ?_
        have q' := q
        unfold letB at q'
        simp only [h1, decide_false, Bool.false_and] at q'
        exact q'
    | _ => exact q
end
end Toy

-- part: L0q
namespace Toy
open PySem L2
abbrev sMixed : Stmt := s__law_mixed
theorem scMixed : FnScope ["cell", "k", "mix"] ["cell", "k"] (defScope sMixed) := ⟨rfl, rfl, rfl, by decide +kernel, rfl, by decide +kernel, by decide +kernel⟩
def spMixed : Sp := fun vs H Q _ => ∃ (c k : Int), vs = [.int c, .int k] ∧ 0 ≤ k ∧ k < 127 ∧ ∀ r : Int, 0 ≤ r → r < 2147483399 → Q (.int r) H
section
variable {P : Program} {w : World} {K : PySem.W.Frag} {mg : Str → Option Value} {base : Heap}
theorem ok_mixed {f : Addr} {fd : FuncData} (F : Fun K "_law_mixed" "_law_mixed" sMixed f fd) : FnOk P w K mg base CX0 1 f fd ["cell", "k"] spMixed := by
  refine F.ok scMixed (fun vs H Q E h => ?_) (fun cdv A outer s H vs Q E hr h => ?_)
  · obtain ⟨c, k, rfl, _⟩ := h
    rfl
  · obtain ⟨c, k, rfl, k0, k1, q⟩ := h
    refine ⟨_, pss_cons (ps_set (i := 2) scMixed.nd rfl (Or.inl rfl)
        (pe_op op_modN (pe_op op_pow (pe_op op_modN (pe_op op_mul (pe_op op_add (pe_op op_add (pe_op op_modN (pv 0) pe_int) (pe_op op_mul pe_int (pv 1))) pe_int) pe_int) pe_int) pe_int) pe_int))
      (pss_cons (ps_if (pt_cmpR op_lt (pv 0) (pe_op op_pow pe_int pe_int) (nomark _)) (pss_one (ps_ret (pv 2))) pss_nil)
      (pss_one (ps_ret (pe_op op_modN (pe_op op_add (pv 2) (pe_op op_modN (pe_op op_fdivW (pv 0) (pe_op op_pow pe_int pe_int)) (pe_op op_add pe_int (pe_op op_mul (pe_op op_add (pv 1) pe_int) pe_int)))) pe_int)))), ?_⟩
    show tSeq _ _ _ [some (.int c), some (.int k), none] H
    walk_at "rd"
    have m0 : ∀ a : Int, 0 ≤ a.fmod 2147483399 ∧ a.fmod 2147483399 < 2147483399 := fun a => by
      rw [Int.fmod_eq_emod_of_nonneg _ (by decide)]
      omega
    have m1 := m0 c
    have m2 := m0 ((c.fmod 2147483399 + 104729 * k + 11) * 48271)
    generalize c.fmod 2147483399 = x at *
    generalize ((x + 104729 * k + 11) * 48271).fmod 2147483399 = y at *
    have m3 := m0 (y ^ Int.toNat 5)
    refine ⟨by decide, .inl ⟨by decide, by decide⟩, .inl ⟨by omega, by omega⟩, by decide, ⟨by decide, by decide, by omega⟩, by decide, ⟨by decide, by decide, by decide⟩, ite2 (fun _ => q _ m3.1 m3.2) (fun _ => ?_)⟩
    have big : (1 : Int) + (k + 1) * 4014476939333036189094441199026045136645885247730 ≠ 0 := by omega
    refine ⟨⟨by decide, by decide, by decide⟩, wide_div (b := 60) (by decide) (by decide) (by decide) (by decide), .inl ⟨by omega, by omega⟩, big, by decide, q _ (m0 _).1 (m0 _).2⟩
abbrev sNext : Stmt := s__law_next
theorem scNext : FnScope ["draw", "size", "at", "many", "cell"] ["draw", "size"] (defScope sNext) := ⟨rfl, rfl, rfl, by decide +kernel, rfl, by decide +kernel, by decide +kernel⟩
def spNext (K : PySem.W.Frag) : Sp := fun vs H Q _ => ∃ (d : Addr) (z : Int) (sc : Addr) (ns : List Int), vs = [.ref d, .int z] ∧ 0 < z ∧ DrA K sc ns H d ∧ ∀ (r : Int) (H' : Hp), 0 ≤ r → r < z → Ex d H H' → DrA K sc ns H' d → Q (.int r) H'
theorem ok_next {f fM : Addr} {fd fdM : FuncData} (F : Fun K "_law_next" "_law_next" sNext f fd) (B : Bl mg) (M : Df K mg "_law_mixed" sMixed ["cell", "k"] fM fdM) : FnOk P w K mg base CX0 2 f fd ["draw", "size"] (spNext K) := by
  have GM : FnOk P w K mg base CX0 1 fM fdM ["cell", "k"] spMixed := ok_mixed M.F
  refine F.ok scNext (fun vs H Q E h => ?_) (fun cdv A outer s H vs Q E hr h => ?_)
  · obtain ⟨c, k, sc, ns, rfl, _⟩ := h
    rfl
  · obtain ⟨d, z, sc, ns, rfl, z0, ⟨n, D⟩, q⟩ := h
    have hu := hu_of hr
    refine ⟨_, pss_cons (ps_set (i := 2) scNext.nd rfl (Or.inl rfl) (pe_ix ix_list (pv 0) pe_int (fun _ _ => rfl)))
      (pss_cons (ps_asg (pe_op op_add (pv 2) pe_int) (pg_sub (pv 0) pe_int set_list))
      (pss_cons (ps_set (i := 3) scNext.nd rfl (Or.inl rfl) (pe_callB (call_max2 rfl) (by rfl) B.max (by decide +kernel) (pa_cons pe_int (pa_cons (pe_callB call_len_seq (by rfl) B.len PySem.boot_len (pa_cons (pe_ix ix_list (pv 0) pe_int (fun _ _ => rfl)) pa_nil)) pa_nil))))
      (pss_cons (ps_set (i := 4) scNext.nd rfl (Or.inl rfl) pe_int)
      (pss_cons (ps_if (pt_cmpR (op_neD hr.units) (pe_ix ix_list (pv 0) pe_int (fun _ _ => rfl)) (pe_lst pa_nil) (nomark _)) (pss_one (ps_set (i := 4) scNext.nd rfl (Or.inl rfl) (pe_ix ix_list (pe_ix ix_list (pv 0) pe_int (fun _ _ => rfl)) (pe_op op_modN (pv 2) (pv 3)) (fun _ _ => rfl)))) pss_nil)
      (pss_one (ps_ret (pe_op op_modN (pe_op op_fdivN (pe_call GM hr rfl M.g M.F.kp M.b .nil pass0 (pa_cons (pv 4) (pa_cons (pe_op op_modN (pe_op op_fdivN (pv 2) (pv 3)) pe_int) pa_nil))) pe_int) (pv 1)))))))), ?_⟩
    show tSeq _ _ _ [some (.ref d), some (.int z), none, none, none] H
    walk_at "rd"
    refine p_ix (SqL.of D.dr) (i := 1) (v := .int n) rfl ?_
    walk_at "rd"
    refine p_set D.dr (j := 1) rfl ?_
    have D1 : Dr K (upd H d (.lst [.ref sc, .int (n + 1)])) d sc ns (n + 1) := ⟨upd_same, Dr.sqx D Ex.at, D.len, by have := D.pos; omega⟩
    refine p_ix (SqL.of D1.dr) (i := 0) (v := .ref sc) rfl ?_
    refine ⟨_, _, rfl, .inl D1.sq, ?_⟩
    walk_at "rd"
    refine p_ix (SqL.of D1.dr) (i := 0) (v := .ref sc) rfl ?_
    walk_at "rd"
    refine ⟨Nat.zero_le _, fun p hp => ?_⟩
    refine p_neD (.lst (Same.seq (Same.new hp) D1.sq) (dp_ints ns)) (.lst (SqL.of upd_same) .nil) (shaped_lints ns) (by decide) ?_
    walk_at "rd"
    rw [List.length_map]
    have D2 : Dr K (upd (upd H d (.lst [.ref sc, .int (n + 1)])) p (.lst [])) d sc ns (n + 1) := ⟨Same.new hp _ _ D1.dr, Same.seq (Same.new hp) D1.sq, D.len, D1.pos⟩
    have X2 : Ex d H (upd (upd H d (.lst [.ref sc, .int (n + 1)])) p (.lst [])) := Ex.trans Ex.at (Ex.same (Same.new hp))
    generalize upd (upd H d (.lst [.ref sc, .int (n + 1)])) p (.lst []) = H2 at *
    have hm : ∃ m : Int, (if (ns.length : Int) > 1 then (ns.length : Int) else 1) = m ∧ 0 < m ∧ m ≤ 63 ∧ (ns ≠ [] → m = ns.length) := by
      have l := D.len
      refine ⟨_, rfl, ?_⟩
      by_cases c : (ns.length : Int) > 1
      · rw [if_pos c]
        exact ⟨by omega, by omega, fun _ => rfl⟩
      · rw [if_neg c]
        refine ⟨by decide, by decide, fun e => ?_⟩
        have := List.length_pos_iff.mpr e
        omega
    obtain ⟨m, em, m0, m1, m2⟩ := hm
    rw [em]
    have n0 := D.pos
    have fin : ∀ c : Int, CDivN n m ∧ (127 : Int) ≠ 0 ∧ spMixed [V.int c, V.int ((n.fdiv m).fmod 127)] H2 (fun x H1 => rI CDivN (fun i j => V.int (i.fdiv j)) x (V.int 7) H1 fun x H1 => rI (fun x j => j ≠ 0) (fun i j => V.int (i.fmod j)) x (V.int z) H1 Q) E0 := by
      intro c
      refine ⟨⟨by omega, by omega⟩, by decide, c, _, rfl, ?_, ?_, fun r r0 r1 => ?_⟩
      · rw [Int.fmod_eq_emod_of_nonneg _ (by decide)]; omega
      · rw [Int.fmod_eq_emod_of_nonneg _ (by decide)]; omega
      · walk_at "rd"
        refine ⟨⟨by decide, by decide⟩, by omega, ?_⟩
        rw [Int.fmod_eq_emod_of_nonneg _ (by omega)]
        exact q _ _ (Int.emod_nonneg _ (by omega)) (Int.emod_lt_of_pos _ z0) X2 ⟨_, D2⟩
    refine ite2 (fun hc => ?_) (fun _ => fin 0)
    have hne : ns ≠ [] := fun e => by subst e; exact absurd hc (by decide)
    refine p_ix (SqL.of D2.dr) (i := 0) (v := .ref sc) rfl ?_
    refine ⟨by omega, ?_⟩
    obtain ⟨c, hc⟩ := at_ints (ns := ns) (i := n.fmod m) (by rw [Int.fmod_eq_emod_of_nonneg _ (by omega)]; exact Int.emod_nonneg _ (by omega)) (by rw [Int.fmod_eq_emod_of_nonneg _ (by omega), ← m2 hne]; exact Int.emod_lt_of_pos _ m0)
    exact p_ix D2.sq hc (fin c)
end
end Toy

-- part: TN1
namespace L2
open PySem PySem.Spec PySem.Calls PyProof.Rows
theorem slot_type_ne : Slot "type" (cmpInfo .NotEq).2.1 "object.__ne__" :=
  .of (owner := "object") (n := "__ne__") (by rw [typeLookup_type, builtinLookup_eq_fast]; kernel_rfl) (by decide +kernel) (by decide +kernel) (by decide +kernel)
    (by first | exact .inl (by decide +kernel) | exact .inr (by decide +kernel)) (by rw [isSubtype_type]; kernel_rfl)
theorem slot_type_ne_refl : Slot "type" (cmpInfo .NotEq).2.2 "object.__ne__" :=
  .of (owner := "object") (n := "__ne__") (by rw [typeLookup_type, builtinLookup_eq_fast]; kernel_rfl) (by decide +kernel) (by decide +kernel) (by decide +kernel)
    (by first | exact .inl (by decide +kernel) | exact .inr (by decide +kernel)) (by rw [isSubtype_type]; kernel_rfl)
theorem slot_type_eq1 : Slot "type" "__eq__" "object.__eq__" := TypeEq.slot_type_eq
section
variable {prog : Program} {w : World} {A : Around} {E : Value → Shared → Prop} {s : Shared}
theorem ne_same_entry {a : String} (ha : ∀ s' : Shared, s'.TypeIs (.type a) "type") {Q : Fin → Shared → Prop} (q : Q (.done (.ret (.bool false))) s) :
    wpAny (model prog w) A (Builtin.«object.__ne__» ⟨[.type a, .type a], []⟩) Q E s := by
  unfold Builtin.«object.__ne__»
  repeat (first
    | with_reducible refine wpAny_cRoomFor_byValue rfl ?_
    | (refine wpAny_bind (m := callSpecialIfBound? (.type a) (Str.ofString "__eq__") [.type a]) (wpAny_callSpecialIfBound?_slot (ha s) slot_type_eq1
        (call_gives slot_type_eq1 (ha s) F.entry_object_eq (F.args_object_eq_2 _ _) (TypeEq.object_eq_same rfl (by simp)) ?_)); try dsimp only [Made.post])
    | (refine wpAny_bind (m := truthy (.bool _)) (wpAny_truthy_bool ?_))
    | wp_step)
  exact q
theorem ne_other_entry {a b : String} (ha : ∀ s' : Shared, s'.TypeIs (.type a) "type") (hne : (Value.type a == Value.type b) = false) {Q : Fin → Shared → Prop} (q : Q (.done (.ret .notImplemented)) s) :
    wpAny (model prog w) A (Builtin.«object.__ne__» ⟨[.type a, .type b], []⟩) Q E s := by
  unfold Builtin.«object.__ne__»
  repeat (first
    | with_reducible refine wpAny_cRoomFor_byValue rfl ?_
    | (refine wpAny_bind (m := callSpecialIfBound? (.type a) (Str.ofString "__eq__") [.type b]) (wpAny_callSpecialIfBound?_slot (ha s) slot_type_eq1
        (call_gives slot_type_eq1 (ha s) F.entry_object_eq (F.args_object_eq_2 _ _) (TypeEq.object_eq_other rfl hne) ?_)); try dsimp only [Made.post])
    | wp_step)
  exact q
theorem ne_type_same {a : String} (ha : ∀ s' : Shared, s'.TypeIs (.type a) "type") {Q : Value → Shared → Prop} (q : Q (.bool false) s) : wpAny (model prog w) A (compareOp .NotEq (.type a) (.type a)) Q E s := by
  show wpAny _ A (richCompare .NotEq _ _) Q E s
  exact wpAny_richCompare_same (T := "type") (ha s) (ha s) slot_type_ne (wpAny_call_entry slot_type_ne (ha s) F.cmpEntry_ne (ne_same_entry ha ⟨_, rfl, (by intro e; cases e), q⟩) (F.cmpArgs_ne _ _))
theorem ne_type_other {a b : String} (ha : ∀ s' : Shared, s'.TypeIs (.type a) "type") (hb : ∀ s' : Shared, s'.TypeIs (.type b) "type") (hne : (Value.type a == Value.type b) = false) {Q : Value → Shared → Prop} (q : Q (.bool true) s) :
    wpAny (model prog w) A (compareOp .NotEq (.type a) (.type b)) Q E s := by
  have hne' : (Value.type b == Value.type a) = false := by
    rw [Bool.eq_false_iff] at hne ⊢
    intro e
    exact hne (by rw [beq_iff_eq] at e ⊢; exact e.symm)
  show wpAny _ A (richCompare .NotEq _ _) Q E s
  rcases hi : cmpInfo CmpOp.NotEq with ⟨sym, f, r⟩
  have h1 : Slot "type" f "object.__ne__" := by have := slot_type_ne; rw [hi] at this; exact this
  have h2 : Slot "type" r "object.__ne__" := by have := slot_type_ne_refl; rw [hi] at this; exact this
  simp only [richCompare, hi, (ha s).oneThing_none]
  try with_reducible refine wpAny_holding ?_
  refine wpAny_bind (wpAny_cRoomFor_byValue rfl ?_)
  refine wpAny_bind (wpAny_typeOf (ha s) (wpAny_bind (wpAny_typeOf (hb s) ?_)))
  simp only [bne_self_eq_false, Bool.false_eq_true, if_false, pure_bind, Bool.not_false, if_true]
  refine wpAny_bind (m := tryCompare (.type a) _ (.type b)) (wpAny_tryCompare_declines (ha s) h1 (wpAny_call_entry h1 (ha s) F.cmpEntry_ne (ne_other_entry ha hne ⟨_, rfl, rfl, ?_⟩) (F.cmpArgs_ne _ _)))
  refine wpAny_bind (m := tryCompare (.type b) _ (.type a)) (wpAny_tryCompare_declines (hb s) h2 (wpAny_call_entry h2 (hb s) F.cmpEntry_ne (ne_other_entry hb hne' ⟨_, rfl, rfl, ?_⟩) (F.cmpArgs_ne _ _)))
  have hk : isSame (.type a) (.type b) = pure false := by rw [isSame_plain rfl, hne]
  exact wpAny_bind (wpAny_rule (wpAny_bind (wpAny_of_eq hk (wpAny_pure q))))
end
section
variable {X : Cx}
theorem op_neT : OpR X (compareOp .NotEq) (fun x y H Q => ∃ a b, x = .ty a ∧ y = .ty b ∧ Kn a ∧ Kn b ∧ Q (.bl (!decide (a = b))) H) := by
  intro pins s σ H x y v u Q I rx ry h
  obtain ⟨a, b, rfl, rfl, ka, kb, q⟩ := h
  cases rx
  cases ry
  by_cases e : a = b
  · subst e
    rw [decide_eq_true rfl] at q
    exact ne_type_same (fun s' => ka.is s') ⟨.bl false, H, I, rfl, q⟩
  · rw [decide_eq_false e] at q
    exact ne_type_other (fun s' => ka.is s') (fun s' => kb.is s') (by rw [ty_beq]; exact decide_eq_false e) ⟨.bl true, H, I, rfl, q⟩
end
end L2

-- part: SC1
namespace L2
open PySem PySem.Spec PySem.Calls PyProof.Rows
/-- one turn of {a number for a target in ..}: what was a turn's state W goes on to the next, the number in the set at D -/
def SetTurn (w : World) (g : TG) (te : TE) (vs : List Nat) (σ : St) (D : Addr) (Nx : Hp → Prop) (x : V) (H : Hp) : Prop :=
  g x (wipe σ vs) H fun τ H2 => wipe τ vs = wipe σ vs ∧ te τ H2 fun y H3 => ∃ (k : Int) (S : Int → Bool) (n : Nat), y = .int k ∧ H3 D = some (SetO w D S n) ∧ n + 1 < scanBound ∧ Nx (upd H3 D (SetO w D (fun j => S j || decide (j = k)) (if S k = true then n else n + 1)))
/-- the reading of {number for target in it} -/
def tSetI (w : World) (wi : TI) (g : TG) (te : TE) (vs : List Nat) : TE := fun σ H Q => wi σ H fun J H1 => ∀ D, H1 D = none →
  ∃ W : Nat → Nat → Hp → Prop, (∃ m, W 0 m (upd H1 D (SetO w D (fun _ => false) 0))) ∧
    ∀ i m Hi, W i m Hi → (J.stop i Hi ∧ Q (.ref D) Hi) ∨ (J.go i Hi ∧ ∃ Nx : Hp → Prop, (∀ H', Nx H' → ∃ m', m' < m ∧ W (i + 1) m' H') ∧ ∀ x H', J.yld i Hi x H' → SetTurn w g te vs σ D Nx x H')
section
variable {X : Cx}
theorem pe_setI {el tg src : Expr} {sc : Scope} {own : List (Str × Nat)} {at_ : Pos} {wi : TI} {g : TG} {te : TE} (calm : X.calm = true) (nd : X.N.Nodup) (pi : PI X tg src wi) (blk : BlkOk X.N X.env.scope sc own)
    (hg : ∀ (s : Shared) (H : Hp) (C : Addr) (cl : List (Str × Addr)) (fp : List Addr), PG (X.blk s H sc (compEnvC sc cl C X.env) fp) tg g)
    (he : ∀ (s : Shared) (H : Hp) (C : Addr) (cl : List (Str × Addr)) (fp : List Addr), PE (X.blk s H sc (compEnvC sc cl C X.env) fp) el te) (plain : ∀ x, foldedSetIterable src X.env x = pure x := by intro _; rfl) :
    PE X (.SetComp el [⟨tg, src, [], 0⟩] sc at_) (tSetI X.w wi g te (own.map (·.2))) := by
  refine ⟨fun pins s σ H Q I0 rd => ?_⟩
  rw [PpSet.eval_SetComp]
  have cells : ∀ y ∈ sc.names, y.2 = .free → ∃ c, X.env.cells.lookup y.1 = some c := fun y hy e => (blk.free y hy e).elim (fun k => I0.ok.has _ (.inl k)) fun k => I0.ok.has _ (.inr k)
  refine wpAny_comprehension_free (use := none) rfl plain (closure_ok cells) blk.kind (fun y hy e => by rw [blk.uniq y hy, e]) (thn (pi.run pins s σ H _ I0 rd) fun _ sa hx => thn hx fun _ sb ⟨it, fp, tn, J, Ha, ev, Ia, T, sta, fa, rdA⟩ => ?_)
  cases ev
  refine PpSet.newSet_ok (newEnv_comp ?_)
  obtain ⟨D, eD⟩ : ∃ D, sb.heap.objs.size = D := ⟨_, rfl⟩
  rw [eD]
  obtain ⟨W, ⟨m0, w0⟩, turn⟩ := rdA D (Ia.hok.fresh (Nat.le_of_eq eD))
  -- the new set stands
  obtain ⟨sn, esn⟩ : ∃ sn : Shared, sn = { sb with heap := sb.heap.push { cls := .type "set", dict := none, data := .set #[] 0 (.fresh 0 0 (!X.w.params.followText "set-order")) } } := ⟨_, rfl⟩
  obtain ⟨Hn, eHn⟩ : ∃ Hn : Hp, Hn = upd Ha D (SetO X.w D (fun _ => false) 0) := ⟨_, rfl⟩
  rw [← eHn] at w0
  rw [← esn]
  have older : ∀ b o, sb.heap.get? b = some o → sn.heap.get? b = some o := fun b o e => by rw [esn]; exact Heap.get?_push_of_some _ e
  have In : Inv X pins σ Hn sn := by
    rw [eHn, esn]
    exact Ia.laid (t' := sb.toks) (fun b o e => Heap.get?_push_of_some _ e) (Nat.le_of_eq eD) (by rw [← eD]; exact setO_new (setR_fresh X.w))
  have fn : ∀ b ∈ fp, FpOk X pins Hn b ∧ b < sn.heap.objs.size := fun b hb => by
    obtain ⟨o, e, _⟩ := T.obj _ _ sta b hb
    have lt := Heap.lt_size e
    have nb : b ≠ D := by rw [← eD]; exact Nat.ne_of_lt lt
    refine ⟨⟨by rw [eHn, upd_ne nb]; exact (fa b hb).1, (fa b hb).2⟩, ?_⟩
    rw [esn, Heap.size_push]
    exact Nat.lt_succ_of_lt lt
  have free : ∀ b ∈ fp, Hn b = none := fun b hb => (fn b hb).1.1
  have stn : tn 0 sn.heap := T.keep _ _ _ sta fun b _ o e => older b o e
  have Iblk := block_start In blk nd fn
  obtain ⟨cl, ecl⟩ : ∃ cl, cl = cellsFrom (sn.heap.objs.size + 1) sc.names (cloFrom X.env.cells sc.names []) := ⟨_, rfl⟩
  rw [← ecl] at Iblk
  have rg := hg sn Hn sn.heap.objs.size cl fp
  have re := he sn Hn sn.heap.objs.size cl fp
  obtain ⟨ce, ece⟩ : ∃ ce, ce = compEnvC sc cl sn.heap.objs.size X.env := ⟨_, rfl⟩
  rw [← ece] at Iblk rg re
  have here : ce.locals = sn.heap.objs.size := by rw [ece]; rfl
  obtain ⟨s4, es4⟩ : ∃ s4 : Shared, s4 = { sn with heap := pushCells (sn.heap.push { cls := .type "dict", data := .dict #[] }) sc.names } := ⟨_, rfl⟩
  have Iblk : Inv (X.blk sn Hn sc ce fp) [] (wipe σ (own.map (·.2))) Hn s4 := by rw [es4]; exact Iblk
  have st4 : tn 0 s4.heap := T.keep _ _ _ stn fun b _ o e => by rw [es4]; exact pushCells_keeps _ _ _ _ (Heap.get?_push_of_some _ e)
  suffices z : codeAny (model X.prog X.w) X.A (.compStart (.SetComp el [⟨tg, src, [], 0⟩] sc at_) 0 (.ref it) (.ref D) ce) (compPost (model X.prog X.w) X.A X.xe none (EP X pins σ Q) (.ref D) sn.heap.objs.size) s4 by
    subst ecl ece es4
    exact z
  have known : ∀ {τ : St} {H' : Hp} {s' : Shared}, Inv (X.blk sn Hn sc ce fp) [] τ H' s' → (∀ b ∈ fp, H' b = none) → ∀ b ∈ fp, FpOk (X.blk sn Hn sc ce fp) [] H' b := fun {τ H' s'} I' out b hb =>
    ⟨out b hb, (I'.ok.exf b hb).1, I'.ok.exfs b hb, .inl hb, fun x c e => (I'.ok.exf b hb).2 x c e, fun p hp => absurd (show p ∈ ([] : List (Addr × Obj)) ++ [] from hp) (by simp)⟩
  have loop : codeAny (model X.prog X.w) X.A (.compLoop (.SetComp el [⟨tg, src, [], 0⟩] sc at_) 0 (.ref it) (.ref D) ce) (compPost (model X.prog X.w) X.A X.xe none (EP X pins σ Q) (.ref D) sn.heap.objs.size) s4 := by
    refine PpSet.compLoopS_any (fun n s' => ∃ i H', Inv (X.blk sn Hn sc ce fp) [] (wipe σ (own.map (·.2))) H' s' ∧ tn i s'.heap ∧ (∀ b ∈ fp, H' b = none) ∧ W i n H') (fun n s5 ⟨i, H5, I5, st5, out5, w5⟩ => ?_) m0 ⟨0, Hn, Iblk, st4, free, w0⟩
    rcases turn i n H5 w5 with ⟨stop, fin⟩ | ⟨goes, Nx, less, step⟩
    · refine thnF (T.done (X.blk sn Hn sc ce fp) rfl rfl rfl calm i [] s5 _ H5 (fun _ _ => False) I5 (known I5 out5) st5 stop) fun r s6 ⟨er, I6⟩ => ?_
      cases er
      have back : Inv X pins σ H5 s6 := In.call' (ch := fp) I6.os I6.base I6.hok I6.bare fun b hb => by
        obtain ⟨⟨_, q1, q2, q3, q4, q5⟩, _⟩ := fn b hb
        exact ⟨q3, q1, q4, q5⟩
      obtain ⟨m, ns, _⟩ := I6.loc
      have ns : s6.heap.Ns ce.locals m := ns
      have out : H5 ce.locals = none := I6.free
      rw [here] at ns out
      obtain ⟨f0, f1, f2, f3, f4, f5⟩ := In.fpOk (Nat.le_refl _) out
      exact ⟨m, ns, fun h' same => ⟨.ref D, H5, back.turned (t' := s6.toks) (fun b o nb e => (same.2 b nb).trans e) f0 f1 f3 f4 f5, rfl, fin⟩⟩
    · refine thnF (T.item (X.blk sn Hn sc ce fp) rfl rfl rfl calm i [] s5 _ H5 (fun _ _ => False) I5 (known I5 out5) st5 goes) fun r s6 ⟨u, er, h6⟩ => ?_
      cases er
      refine thnF h6 fun _ s7 ⟨x, H7, I7, r7, y7, st7, out7⟩ => ?_
      refine thnF (rg.run _ s7 _ H7 x u _ (I7.pinned (known I7 out7) (T.obj _ _ st7)) r7 (step x H7 y7)) fun _ s8 ⟨τ, H8, I8, ew, q8⟩ => ?_
      refine wpAny_pure ?_
      simp only [if_true]
      refine thnF (re.run _ s8 τ H8 _ I8 q8) fun z s9 ⟨y, H9, I9, r9, k, S, c, ey, hD, room, nx⟩ => ?_
      cases ey
      obtain ⟨tk, rfl⟩ := r9
      refine thnF (mt_sadd (X := X.blk sn Hn sc ce fp) _ s9 τ H9 (.ref D) [.int k] (.ref D) [.int k tk] (fun _ H' => Nx H') I9 rfl (.cons ⟨tk, rfl⟩ .nil) ⟨D, k, S, c, rfl, rfl, hD, room, nx⟩) fun _ s10 ⟨_, H10, I10, _, nx10⟩ => ?_
      obtain ⟨m', lt, w'⟩ := less H10 nx10
      have stay : ∀ b ∈ fp, ∀ o, s7.heap.get? b = some o → s10.heap.get? b = some o ∧ H10 b = none := fun b hb o e => by
        have p := I10.pin (b, o) (List.mem_append_right _ (List.mem_append_right _ (mem_pinsAt hb e)))
        exact ⟨p.1, p.2.1⟩
      refine ⟨m', lt, i + 1, H10, (I10.unpinned (pins := [])).weak (by rw [← ew, wipe_length]) (fun j v e => by rw [← ew] at e; exact (wipe_some e).1), T.keep _ _ _ st7 fun b hb o e => (stay b hb o e).1, fun b hb => ?_, w'⟩
      obtain ⟨o, e, _⟩ := T.obj _ _ st7 b hb
      exact (stay b hb o e).2
  exact PpSet.codeAny_compStart_set loop (T.self X.A 0 _ _ _ st4 loop)
/-- len of such a set -/
theorem call_len_ints : CallR X (.builtin "len") (fun xs H Q => ∃ (a : Addr) (S : Int → Bool) (n : Nat), xs = [.ref a] ∧ H a = some (SetO X.w a S n) ∧ n < 1000000 ∧ Q (.int n) H) := by
  intro pins s σ H xs us Q I r h
  obtain ⟨a, S, n, rfl, ha, hn, q⟩ := h
  obtain ⟨o, es, ep, t, ho, hex, hd, _, _, _, _, hf, hs, _⟩ := setO_get I ha
  cases r with
  | cons r rr =>
    cases rr
    cases r
    exact call_len_set ho hex hd hf (by rw [hs]; omega) ⟨.int n, H, I.tok _, ⟨_, by rw [hs]⟩, q⟩
end
end L2

-- part: D1
namespace Toy
open PySem L2
/-! ### how many unlike ones -/
def dist (l : List Int) : Nat := (l.foldl addU []).length
theorem dist_snoc (l : List Int) (k : Int) : dist (l ++ [k]) = if k ∈ l then dist l else dist l + 1 := by
  unfold dist
  rw [List.foldl_append]
  show (addU (l.foldl addU []) k).length = _
  have m : k ∈ l.foldl addU [] ↔ k ∈ l := by
    have : ∀ (l ks : List Int), k ∈ l.foldl addU ks ↔ k ∈ ks ∨ k ∈ l := by
      intro l
      induction l with
      | nil => intro ks; simp
      | cons a l ih =>
        intro ks
        rw [List.foldl_cons, ih, mem_add, List.mem_cons]
        constructor
        · rintro ((h | h) | h)
          · exact .inl h
          · exact .inr (.inl h)
          · exact .inr (.inr h)
        · rintro (h | h | h)
          · exact .inl (.inl h)
          · exact .inl (.inr h)
          · exact .inr h
    rw [this]
    simp
  generalize l.foldl addU [] = R at *
  unfold addU
  by_cases h : k ∈ l
  · rw [if_pos (m.mpr h), if_pos h]
  · rw [if_neg fun z => h (m.mp z), if_neg h, List.length_append]
    rfl
theorem dist_le : ∀ n : Nat, ∀ l : List Int, l.length = n → dist l ≤ n
  | 0, l, h => by
    rw [List.eq_nil_of_length_eq_zero h]
    exact Nat.le_refl _
  | n + 1, l, h => by
    obtain ⟨r, k, rfl⟩ : ∃ (r : List Int) (k : Int), l = r ++ [k] := ⟨_, _, (List.dropLast_concat_getLast (fun z => by rw [z] at h; cases h)).symm⟩
    have hr : r.length = n := by
      rw [List.length_append] at h
      exact Nat.succ.inj h
    have ih := dist_le n r hr
    rw [dist_snoc]
    split <;> omega
theorem dist_nodup : ∀ n : Nat, ∀ l : List Int, l.length = n → (dist l = n ↔ l.Nodup)
  | 0, l, h => by
    rw [List.eq_nil_of_length_eq_zero h]
    exact ⟨fun _ => List.nodup_nil, fun _ => rfl⟩
  | n + 1, l, h => by
    obtain ⟨r, k, rfl⟩ : ∃ (r : List Int) (k : Int), l = r ++ [k] := ⟨_, _, (List.dropLast_concat_getLast (fun z => by rw [z] at h; cases h)).symm⟩
    have hr : r.length = n := by
      rw [List.length_append] at h
      exact Nat.succ.inj h
    have ih := dist_nodup n r hr
    have le := dist_le n r hr
    rw [dist_snoc, List.nodup_append]
    constructor
    · intro e
      split at e
      · omega
      · rename_i hk
        refine ⟨ih.mp (by omega), by simp, fun a ha b hb => ?_⟩
        rw [List.mem_singleton.mp hb]
        exact fun z => hk (z ▸ ha)
    · rintro ⟨h1, _, h3⟩
      rw [if_neg fun hk => h3 k hk k (List.mem_singleton.mpr rfl) rfl, ih.mpr h1]
/-! ### types -/
def SqA (K : PySem.W.Frag) (H : Hp) (p : Addr) (xs : List V) : Prop := SqL K H p xs ∨ SqT K H p xs
theorem Same.sqt {K : PySem.W.Frag} {H H' : Hp} {a : Addr} {xs : List V} (e : Same H H') (h : SqT K H a xs) : SqT K H' a xs := by
  rcases h with (h | ⟨o, h⟩) | h
  · exact .inl (.inl (e _ _ h))
  · exact .inl (.inr ⟨o, e _ _ h⟩)
  · exact .inr h
theorem SqA.same {K : PySem.W.Frag} {H H' : Hp} {p : Addr} {xs : List V} (e : Same H H') (h : SqA K H p xs) : SqA K H' p xs := h.elim (fun h => .inl (Same.seq e h)) fun h => .inr (Same.sqt e h)
theorem SqA.ty {K : PySem.W.Frag} {H : Hp} {p : Addr} {xs : List V} (h : SqA K H p xs) : ∃ T, TyB K H (.ref p) T ∧ (["list", "tuple"].contains T) = true := h.elim (fun h => ⟨"list", .lst h, by decide⟩) fun h => ⟨"tuple", .tup h, by decide⟩

theorem Kn.tup {K : PySem.W.Frag} {T : String} (h : Kn T) : PySem.W.kitOne K (.type T) (.type "tuple") = some (decide (T = "tuple")) := by
  rcases h with rfl | rfl | rfl | rfl | rfl | rfl | rfl | rfl <;> rfl
theorem Kn.bool {K : PySem.W.Frag} {T : String} (h : Kn T) : PySem.W.kitOne K (.type T) (.type "bool") = some (decide (T = "bool")) := by
  rcases h with rfl | rfl | rfl | rfl | rfl | rfl | rfl | rfl <;> rfl
theorem Kn.int {K : PySem.W.Frag} {T : String} (h : Kn T) : PySem.W.kitOne K (.type T) (.type "int") = some (decide (T = "int" ∨ T = "bool")) := by
  rcases h with rfl | rfl | rfl | rfl | rfl | rfl | rfl | rfl <;> rfl
theorem TyB.x {K : PySem.W.Frag} {H : Hp} {x : V} {T : String} (t : TyB K H x T) : TyX K H x (.type T) := by
  cases t with
  | non => exact .base .non
  | bl b => exact .base (.bl b)
  | int i => exact .base (.int i)
  | str z => exact .base (.str z)
  | byt b => exact .byt b
  | lst h =>
    rcases h with (h | ⟨o, h⟩) | ⟨o, its, n, lk, c, _⟩
    · exact .base (.lst h)
    · exact .base (.frz h)
    · exact .kList lk c
  | tup h =>
    rcases h with (h | ⟨o, h⟩) | ⟨o, its, n, lk, c, _⟩
    · exact .base (.tup h)
    · exact .fTuple h
    · exact .kTuple lk c
  | dK h => exact .base (.dK h)
theorem TyB.same {K : PySem.W.Frag} {H H' : Hp} (e : Same H H') {y : V} {T : String} (t : TyB K H y T) : TyB K H' y T := by
  cases t with
  | non => exact .non
  | bl b => exact .bl b
  | int i => exact .int i
  | str z => exact .str z
  | byt b => exact .byt b
  | lst h => exact .lst (Same.seq e h)
  | tup h => exact .tup (Same.sqt e h)
  | dK h => exact .dK (e _ _ h)
theorem seq_gen {t1 rest : TS} {D : Ends} {σ : St} {H : Hp} (Good : St → Hp → Prop) (h1 : ∀ nx : St → Hp → Prop, (∀ σ' H', Good σ' H' → nx σ' H') → t1 { D with nx := nx } σ H) (h2 : ∀ σ' H', Good σ' H' → rest D σ' H') : tSeq t1 rest D σ H := h1 _ h2
/-- the turns of a comprehension of numbers, whatever it goes over -/
theorem st_it {J : It} {n : Nat} {G : Hp → Prop} {Y : Nat → Hp → V → Hp → Prop} (wk : Walk J n G Y) {w : World} {g : TG} {te : TE} {vs : List Nat} {σ : St} {H1 : Hp} {D : Addr} {Qd : Hp → Prop} (Pv : Nat → Hp → Prop) (h0 : Pv 0 (upd H1 D (SetO w D (fun _ => false) 0)))
    (hG : ∀ i H, i ≤ n → Pv i H → G H) (hs : ∀ i x H H', i < n → Pv i H → Y i H x H' → SetTurn w g te vs σ D (Pv (i + 1)) x H') (hd : ∀ H, Pv n H → Qd H) :
    ∃ W : Nat → Nat → Hp → Prop, (∃ m, W 0 m (upd H1 D (SetO w D (fun _ => false) 0))) ∧
      ∀ i m Hi, W i m Hi → (J.stop i Hi ∧ Qd Hi) ∨ (J.go i Hi ∧ ∃ Nx : Hp → Prop, (∀ H', Nx H' → ∃ m', m' < m ∧ W (i + 1) m' H') ∧ ∀ x H', J.yld i Hi x H' → SetTurn w g te vs σ D Nx x H') := by
  refine ⟨fun i m H => i + m = n ∧ Pv i H, ⟨n, Nat.zero_add n, h0⟩, fun i m Hi ⟨e, p⟩ => ?_⟩
  have st := hG i Hi (by omega) p
  cases m with
  | zero =>
    have e0 : i = n := e
    subst e0
    exact .inl ⟨wk.stops Hi st, hd Hi p⟩
  | succ m => exact .inr ⟨wk.goes i Hi (by omega) st, Pv (i + 1), fun H' p' => ⟨m, Nat.lt_succ_self m, by omega, p'⟩, fun x H' y => hs i x Hi H' (by omega) p (wk.yields i Hi x H' (by omega) st y)⟩
theorem itT {A B : Prop} (h : A) : if True then A else B := by rw [if_pos trivial]; exact h
theorem kn_tup : Kn "tuple" := .inr (.inr (.inr (.inr (.inr (.inl rfl)))))
theorem yesT {σ : St} {H : Hp} {a b : Hp → Prop} (h : a H) : tYes σ H fun b' H3 => if b' = true then a H3 else b H3 := h
end Toy

-- part: M1
namespace Toy
open PySem L2
section
variable {P : Program} {w : World} {K : PySem.W.Frag} {mg : Str → Option Value} {base : Heap}
/-! ### is_turn -/
abbrev sIsMany : Stmt := s__is_many
theorem scIsMany : FnScope ["thing"] ["thing"] (defScope sIsMany) := ⟨rfl, rfl, rfl, by decide +kernel, rfl, by decide +kernel, by decide +kernel⟩
def manyB (m : Int) : Bool := decide (1 ≤ m) && decide (m ≤ 400)
def spIsMany : Sp := fun vs H Q _ => ∃ m, vs = [.int m] ∧ Q (.bl (manyB m)) H
theorem ok_isMany {f fN : Addr} {fd fdN : FuncData} (F : Fun K "_is_many" "_is_many" sIsMany f fd) (B : Bl mg) (N : Df K mg "is_number" sIsNum ["thing"] fN fdN) (gM : ∃ t, mg "MOST" = some (.int 400 t)) : FnOk P w K mg base CX0 2 f fd ["thing"] spIsMany := by
  have GN : FnOk P w K mg base CX0 1 fN fdN ["thing"] (spIsNum K) := ok_isNum N.F B
  obtain ⟨tm, hm⟩ := gM
  refine F.ok scIsMany (fun vs H Q E h => ?_) (fun cdv A outer s H vs Q E hr h => ?_)
  · obtain ⟨m, rfl, _⟩ := h
    rfl
  · obtain ⟨m, rfl, q⟩ := h
    refine ⟨_, pss_one (ps_ret (pe_and (pe_call GN hr rfl N.g N.F.kp N.b .nil pass0 (pa_cons (pv 0) pa_nil)) (pe_one (pe_chain op_le op_le pe_int (pv 0) (pe_glob rfl hm (v := .int 400) ⟨_, rfl⟩))))), ?_⟩
    show tRet _ _ [some (.int m)] H
    walk_at "rd"
    refine ⟨.int m, "int", rfl, .int m, ?_⟩
    unfold manyB at q
    walk_at "rd"
    refine iteT ?_
    by_cases h1 : 1 ≤ m
    · simp only [h1, decide_true, Bool.true_and] at q
      rw [decide_eq_true h1]
      exact iteT q
    · simp only [h1, decide_false, Bool.false_and] at q
      rw [decide_eq_false h1]
      exact iteF q
def absV (x : V) : Int := match x with
  | .int i => absI i
  | _ => 0
def turnB (xs : List V) (m : Int) : Bool := manyB m && (decide ((xs.length : Int) = m) && ((xs.map fun x => letB x m).all id && decide ((xs.map absV).Nodup)))
theorem all_ints {m : Int} : ∀ {xs : List V}, (xs.map fun x => letB x m).all id = true → ∃ L : List Int, xs = L.map V.int ∧ ∀ i ∈ L, 1 ≤ absI i ∧ absI i ≤ m
  | [], _ => ⟨[], rfl, fun _ h => nomatch h⟩
  | x :: r, h => by
    rw [List.map_cons, List.all_cons, Bool.and_eq_true] at h
    obtain ⟨L, e, b⟩ := all_ints h.2
    have h1 : letB x m = true := h.1
    cases x with
    | int i =>
      unfold letB at h1
      rw [Bool.and_eq_true] at h1
      refine ⟨i :: L, by rw [e]; rfl, fun j hj => ?_⟩
      rcases List.mem_cons.mp hj with rfl | hj
      · exact ⟨of_decide_eq_true h1.1, of_decide_eq_true h1.2⟩
      · exact b j hj
    | _ => cases h1
theorem abs_ints (L : List Int) : (L.map V.int).map absV = L.map absI := by
  rw [List.map_map]
  rfl
abbrev sTurn : Stmt := s_is_turn
theorem scTurn : FnScope ["thing", "many", "letter"] ["thing", "many"] (defScope sTurn) := ⟨rfl, rfl, rfl, by decide +kernel, rfl, by decide +kernel, by decide +kernel⟩
/-- a tuple of things of the built-in types, or no tuple -/
def Thing (K : PySem.W.Frag) (H : Hp) (x : V) (c : Option (List V)) : Prop := match c with
  | some xs => ∃ a, x = .ref a ∧ SqT K H a xs ∧ xs.length ≤ 1000 ∧ ∀ y ∈ xs, ∃ T, TyB K H y T
  | none => ∃ T, TyB K H x T ∧ T ≠ "tuple"
theorem Thing.same {H H' : Hp} {x : V} {c : Option (List V)} (e : Same H H') (h : Thing K H x c) : Thing K H' x c := by
  cases c with
  | some xs =>
    obtain ⟨a, h1, h2, h3, h4⟩ := h
    exact ⟨a, h1, Same.sqt e h2, h3, fun y hy => (h4 y hy).imp fun T t => TyB.same e t⟩
  | none =>
    obtain ⟨T, t, n⟩ := h
    exact ⟨T, TyB.same e t, n⟩
def thingB (c : Option (List V)) (m : Int) : Bool := match c with
  | some xs => turnB xs m
  | none => false
def spTurn (K : PySem.W.Frag) : Sp := fun vs H Q _ => ∃ x m c, vs = [x, .int m] ∧ Thing K H x c ∧ ∀ H', Same H H' → Q (.bl (thingB c m)) H'
theorem ok_turn {f fN fL fM : Addr} {fd fdN fdL fdM : FuncData} (F : Fun K "is_turn" "is_turn" sTurn f fd) (B : Bl mg) (N : Df K mg "is_number" sIsNum ["thing"] fN fdN) (L : Df K mg "is_letter" sIsLet ["thing", "many"] fL fdL) (M : Df K mg "_is_many" sIsMany ["thing"] fM fdM)
    (gM : ∃ t, mg "MOST" = some (.int 400 t)) : FnOk P w K mg base CX0 3 f fd ["thing", "many"] (spTurn K) := by
  have GL : FnOk P w K mg base CX0 2 fL fdL ["thing", "many"] (spIsLet K) := ok_isLet L.F B N
  have GM : FnOk P w K mg base CX0 2 fM fdM ["thing"] spIsMany := ok_isMany M.F B N gM
  refine F.ok scTurn (fun vs H Q E h => ?_) (fun cdv A outer s H vs Q E hr h => ?_)
  · obtain ⟨x, m, c, rfl, _⟩ := h
    rfl
  · obtain ⟨x, m, c, rfl, hx, q⟩ := h
    have hu := hu_of hr
    refine ⟨_, pss_cons (ps_if (PW.pt (pw_or (pt_not (pt_val (pe_call GM hr rfl M.g M.F.kp M.b .nil pass0 (pa_cons (pv 1) pa_nil))))
        (pw_or (pt_cmpR op_neT (pe_callTy call_type1 (by rfl) B.type (by decide +kernel) (pa_cons (pv 0) pa_nil)) (pe_bltn (v := .ty "tuple") (by rfl) B.tuple (by decide +kernel) rfl) (nomark _))
        (pw_or1 (pt_cmpR op_ne (pe_callB call_len_seq (by rfl) B.len PySem.boot_len (pa_cons (pv 0) pa_nil)) (pv 1) (nomark _)))))) (pss_one (ps_ret pe_bl)) pss_nil)
      (pss_one (ps_ret (pe_and (pe_callB (cr_all rfl) (by rfl) B.all (by decide +kernel) (pa_cons (pe_lc (own := [("letter", 2)]) (g := gName 2) (tt := tYes) rfl scTurn.nd (pi_tup (pv 0)) (blkOk_by (own := [("letter", 2)]) (N := ["thing", "many", "letter"]) (sc := defScope sTurn) (by decide +kernel))
          (fun _ _ _ _ _ => pg_name (i := 2) scTurn.nd rfl (Or.inl rfl)) (fun _ _ _ _ _ => pts_nil) (fun _ _ _ _ _ => pe_call GL hr rfl L.g L.F.kp L.b .nil pass0 (pa_cons (pv 2) (pa_cons (pv 1) pa_nil)))) pa_nil))
        (pe_one (pe_cmpR op_eq (pe_callB call_len_ints (by rfl) B.len PySem.boot_len (pa_cons (pe_setI (own := [("letter", 2)]) (g := gName 2) (te := tCB (fun xs H Q => ∃ i, xs = [.int i] ∧ Q (.int (if i < 0 then -i else i)) H) (tCons (tVar 2) tNil)) rfl scTurn.nd (pi_tup (pv 0)) (blkOk_by (own := [("letter", 2)]) (N := ["thing", "many", "letter"]) (sc := defScope sTurn) (by decide +kernel))
          (fun _ _ _ _ _ => pg_name (i := 2) scTurn.nd rfl (Or.inl rfl)) (fun _ _ _ _ _ => pe_callB call_abs (by rfl) B.abs (by decide +kernel) (pa_cons (pv 2) pa_nil))) pa_nil)) (pv 1) (nomark _)))))), ?_⟩
    show tSeq _ _ _ [some x, some (.int m), none] H
    refine seq_gen (fun σ' H' => σ' = [some x, some (.int m), none] ∧ H' = H ∧ manyB m = true ∧ ∃ xs, c = some xs ∧ (xs.length : Int) = m) (fun nx hnx => ?_) ?_
    · walk_at "rd"
      refine ⟨m, rfl, ?_⟩
      cases hm : manyB m with
      | false =>
        refine ⟨false, rfl, iteT (itT ?_)⟩
        have e : thingB c m = false := by
          cases c with
          | none => rfl
          | some xs =>
            show turnB xs m = false
            unfold turnB
            rw [hm]
            rfl
        rw [← e]
        exact q H (Same.refl H)
      | true =>
        refine ⟨true, rfl, iteF ?_⟩
        cases c with
        | none =>
          obtain ⟨T, ty, nT⟩ := hx
          refine ⟨x, T, rfl, ty, T, "tuple", rfl, rfl, Kn.ty ty, kn_tup, ?_⟩
          rw [decide_eq_false nT]
          exact iteT (itT (q H (Same.refl H)))
        | some xs =>
          obtain ⟨a, rfl, hs, hl, hy⟩ := hx
          refine ⟨.ref a, "tuple", rfl, .tup hs, "tuple", "tuple", rfl, rfl, kn_tup, kn_tup, ?_⟩
          rw [decide_eq_true rfl]
          refine iteF ⟨a, xs, rfl, .inr hs, rfl, ?_⟩
          by_cases hlen : (xs.length : Int) = m
          · rw [decide_eq_true (congrArg V.int hlen)]
            exact ⟨false, rfl, iteF (hnx _ _ ⟨rfl, rfl, hm, xs, rfl, hlen⟩)⟩
          · rw [decide_eq_false fun z => hlen (V.int.inj z)]
            refine ⟨true, rfl, iteT ?_⟩
            have e : thingB (some xs) m = false := by
              show turnB xs m = false
              unfold turnB
              rw [decide_eq_false hlen, hm]
              rfl
            rw [← e]
            exact q H (Same.refl H)
    rintro σ' H' ⟨rfl, rfl, hm, xs, rfl, hlen⟩
    obtain ⟨a, rfl, hs, hl, hy⟩ := hx
    have mb : 1 ≤ m ∧ m ≤ 400 := by
      unfold manyB at hm
      rw [Bool.and_eq_true] at hm
      exact ⟨of_decide_eq_true hm.1, of_decide_eq_true hm.2⟩
    walk_at "rd"
    refine ⟨_, rfl, a, rfl, ⟨_, hs⟩, fun D hD => lc_tup (K := K) (a := a) (xs := xs) (fun j Hj => Same H' Hj ∧ Hj D = some (.lst ((xs.take j).map fun x => V.bl (letB x m)))) ⟨Same.new hD, upd_same⟩ (fun j Hj _ ⟨e, _⟩ => Same.sqt e hs) ?_ ?_⟩
    · rintro j x Hj hj ⟨ej, hDj⟩
      have hjl : j < xs.length := (List.getElem?_eq_some_iff.mp hj).1
      obtain ⟨T, ty⟩ := hy x (List.mem_of_getElem? hj)
      refine ⟨rfl, yesT ?_⟩
      refine ⟨_, rfl, _, rfl, x, T, m, rfl, TyB.same ej ty, _, hDj, by rw [List.length_map, List.length_take]; exact small1000 (by omega), fun b o hb => ?_, ?_⟩
      · rw [upd_ne (ne_of_none hb hD)]
        exact ej b o hb
      · rw [upd_same, List.take_add_one, hj]
        simp only [Option.toList_some, List.map_append, List.map_cons, List.map_nil]
    rintro H5 ⟨s5, hD5⟩
    rw [List.take_length] at hD5
    refine ⟨D, xs.map fun x => letB x m, rfl, SqL.of (by rw [hD5, List.map_map]; rfl), _, rfl, ?_⟩
    cases hall : (xs.map fun x => letB x m).all id with
    | false =>
      have e : thingB (some xs) m = false := by
        show turnB xs m = false
        unfold turnB
        rw [hall]
        simp
      rw [e] at q
      exact iteF (q H5 s5)
    | true =>
      obtain ⟨L, rfl, hL⟩ := all_ints hall
      rw [List.length_map] at hlen hl
      have hs5 := Same.sqt s5 hs
      refine iteT ⟨_, rfl, a, rfl, ⟨_, hs5⟩, fun D2 hD2 => ?_⟩
      refine st_it walk_tup (fun j Hj => Same H5 Hj ∧ ∃ S, Hj D2 = some (SetO w D2 S (dist ((L.take j).map absI))) ∧ ∀ k, S k = decide (k ∈ (L.take j).map absI)) ⟨Same.new hD2, _, upd_same, fun k => by simp⟩ (fun j Hj _ ⟨e, _⟩ => Same.sqt e hs5) ?_ ?_
      · rintro j x Hj Hk hj ⟨ej, S, hDj, hS⟩ ⟨rfl, hx⟩
        rw [List.getElem?_map] at hx
        cases ez : L[j]? with
        | none => rw [ez] at hx; cases hx
        | some z =>
        rw [ez] at hx
        cases hx
        rw [List.length_map] at hj
        have tk : (L.take (j + 1)).map absI = (L.take j).map absI ++ [absI z] := by
          rw [List.take_add_one, ez]
          simp
        have lt : dist ((L.take j).map absI) ≤ j := by
          have := dist_le _ ((L.take j).map absI) rfl
          rw [List.length_map, List.length_take] at this
          omega
        refine ⟨rfl, _, rfl, z, rfl, absI z, S, _, rfl, hDj, by show _ < 4096; omega, fun b o hb => ?_, (fun k => S k || decide (k = absI z)), ?_, fun k => ?_⟩
        · rw [upd_ne (ne_of_none hb hD2)]
          exact ej b o hb
        · have e : dist ((L.take (j + 1)).map absI) = if S (absI z) = true then dist ((L.take j).map absI) else dist ((L.take j).map absI) + 1 := by
            rw [tk, dist_snoc, hS]
            by_cases h : absI z ∈ (L.take j).map absI
            · rw [if_pos h, decide_eq_true h, if_pos rfl]
            · rw [if_neg h, decide_eq_false h, if_neg (by decide)]
          rw [e]
          exact upd_same
        · show (S k || decide (k = absI z)) = _
          rw [tk, hS, Bool.eq_iff_iff]
          simp
      · rintro H6 ⟨s6, S, hD6, hS⟩
        rw [List.length_map, List.take_length] at hD6
        have dl : dist (L.map absI) ≤ L.length := dist_le _ _ (by rw [List.length_map])
        refine ⟨D2, S, _, rfl, hD6, by omega, rfl, ?_⟩
        have e : thingB (some (L.map V.int)) m = decide (V.int (dist (L.map absI) : Nat) = V.int m) := by
          show turnB _ m = _
          unfold turnB
          rw [hm, hall, abs_ints, List.length_map, decide_eq_true hlen]
          have dn := dist_nodup L.length (L.map absI) (by rw [List.length_map])
          by_cases h : (L.map absI).Nodup
          · rw [decide_eq_true h, decide_eq_true (by rw [dn.mpr h, hlen])]
            rfl
          · rw [decide_eq_false h, decide_eq_false fun z => h (dn.mp (by have := V.int.inj z; omega))]
            rfl
        rw [← e]
        exact q H6 (Same.trans s5 s6)
end
end Toy

-- part: D2
namespace Toy
open PySem L2
/-- 1, 2, .. n -/
def up (n : Nat) : List Int := (List.range n).map fun (i : Nat) => 1 + (i : Int)
theorem up_len (n : Nat) : (up n).length = n := by unfold up; rw [List.length_map, List.length_range]
theorem up_rg (m : Int) (h : 0 ≤ m) : rgV 1 (m + 1) = (up m.toNat).map V.int := by
  unfold rgV up
  rw [List.map_map, show (m + 1 - 1).toNat = m.toNat by omega]
  rfl
theorem up_abs (n : Nat) : (up n).map absI = up n := by
  unfold up
  rw [List.map_map]
  refine List.map_congr_left fun i _ => ?_
  show absI (1 + (i : Int)) = 1 + (i : Int)
  unfold absI
  rw [if_neg (by omega)]
theorem up_mem {n : Nat} {x : Int} : x ∈ up n ↔ 1 ≤ x ∧ x ≤ n := by
  unfold up
  rw [List.mem_map]
  constructor
  · rintro ⟨i, hi, rfl⟩
    have := List.mem_range.mp hi
    omega
  · rintro ⟨h1, h2⟩
    exact ⟨(x - 1).toNat, List.mem_range.mpr (by omega), by omega⟩
theorem up_nodup (n : Nat) : (up n).Nodup := by
  unfold up
  refine List.pairwise_map.mpr ?_
  refine List.Pairwise.imp ?_ (List.nodup_range (n := n))
  intro a b h e
  exact h (by omega)
theorem absI_neg (x : Int) : absI (-x) = absI x := by
  unfold absI
  split <;> split <;> omega
/-- a turn of n truths -/
def Trn (n : Nat) (L : List Int) : Prop := (L.map absI).Perm (up n)
theorem Trn.len {n : Nat} {L : List Int} (h : Trn n L) : L.length = n := by
  have := h.length_eq
  rw [List.length_map, up_len] at this
  exact this
theorem Trn.bd {n : Nat} {L : List Int} (h : Trn n L) {x : Int} (hx : x ∈ L) : 1 ≤ absI x ∧ absI x ≤ n := up_mem.mp (h.mem_iff.mp (List.mem_map.mpr ⟨x, hx, rfl⟩))
theorem Trn.small {n : Nat} {L : List Int} (h : Trn n L) {x : Int} (hx : x ∈ L) : x.natAbs ≤ n := by
  have := (h.bd hx).2
  rw [absI_nat] at this
  omega
theorem trn_up (n : Nat) : Trn n (up n) := by
  unfold Trn
  rw [up_abs]
theorem trn_swap {n : Nat} {L : List Int} (h : Trn n L) {i j : Nat} {a b a' b' : Int} (hi : L[i]? = some a) (hj : L[j]? = some b) (ea : absI a' = absI a) (eb : absI b' = absI b) : Trn n ((L.set i b').set j a') := by
  obtain ⟨i1, e1⟩ := List.getElem?_eq_some_iff.mp hi
  obtain ⟨j1, e2⟩ := List.getElem?_eq_some_iff.mp hj
  unfold Trn
  rw [List.map_set, List.map_set, ea, eb, ← e1, ← e2]
  have p := List.set_set_perm (as := L.map absI) (i := i) (j := j) (by rw [List.length_map]; exact i1) (by rw [List.length_map]; exact j1)
  rw [List.getElem_map, List.getElem_map] at p
  exact p.trans h
theorem trn_neg {n : Nat} {L : List Int} (h : Trn n L) {i : Nat} {a a' : Int} (hi : L[i]? = some a) (ea : absI a' = absI a) : Trn n (L.set i a') := by
  obtain ⟨i1, e1⟩ := List.getElem?_eq_some_iff.mp hi
  unfold Trn
  rw [List.map_set, ea, ← e1]
  have e : (L.map absI).set i (absI L[i]) = L.map absI := by
    have := List.set_getElem_self (as := L.map absI) (i := i) (by rw [List.length_map]; exact i1)
    rw [List.getElem_map] at this
    exact this
  rw [e]
  exact h
theorem trn_rot {n k : Nat} {L : List Int} (h : Trn n L) : Trn n (L.drop k ++ L.take k) := by
  unfold Trn
  rw [List.map_append]
  refine List.Perm.trans List.perm_append_comm ?_
  rw [← List.map_append, List.take_append_drop]
  exact h
theorem cut_ints (L : List Int) (lo hi : Option Int) : ∃ a b, cutV (L.map V.int) lo hi = ((L.drop a).take b).map V.int := by
  unfold cutV
  exact ⟨_, _, by rw [List.map_take, List.map_drop]⟩
theorem cut_from (L : List Int) (k : Nat) (h : k ≤ L.length) : cutV (L.map V.int) (some (k : Int)) none = (L.drop k).map V.int := by
  unfold cutV
  have e1 : HT.sIx (L.map V.int).length 0 (some (k : Int)) = k := by
    unfold HT.sIx
    rw [List.length_map]
    simp only
    split <;> omega
  have e2 : HT.sIx (L.map V.int).length (L.map V.int).length none = L.length := by
    unfold HT.sIx
    rw [List.length_map]
  rw [e1, e2, List.map_drop]
  refine List.take_of_length_le ?_
  rw [List.length_drop, List.length_map]
  exact Nat.le_refl _
theorem cut_to (L : List Int) (k : Nat) (h : k ≤ L.length) : cutV (L.map V.int) none (some (k : Int)) = (L.take k).map V.int := by
  unfold cutV
  have e1 : HT.sIx (L.map V.int).length (L.map V.int).length (some (k : Int)) = k := by
    unfold HT.sIx
    rw [List.length_map]
    simp only
    split <;> omega
  have e2 : HT.sIx (L.map V.int).length 0 none = 0 := by
    unfold HT.sIx
    rfl
  rw [e1, e2, List.drop_zero, Nat.sub_zero, List.map_take]
end Toy

-- part: SK6
namespace L2
open PySem PySem.Spec PyProof.Rows
section
variable {prog : Program} {w : World} {A : Around} {E : Value → Shared → Prop} {s : Shared}
/-- the items of a tuple, collected -/
theorem collect_tupK {t : Addr} {us : List Value} {Q : List Value → Shared → Prop} (ht : IsTup s.heap t us.toArray) (hz : us.length ≤ sizeLine)
    (q : Q us { s with heap := (s.heap.push (seqObj "list" #[] 0)).update s.heap.objs.size (Obj.mapSeq (· ++ us.toArray)) }) : wpAny (model prog w) A (collect (.ref t)) Q E s := by
  obtain ⟨o, ho, hc, n, hd⟩ := id ht
  have ho2 : (s.heap.push (seqObj "list" #[] 0)).get? t = some o := Heap.get?_push_of_some _ ho
  have fits : ((#[] : Array Value) ++ us.toArray).size ≤ sizeLine + 1 := by simp only [Array.size_append, List.size_toArray, List.length_nil]; omega
  unfold collect
  refine wpAny_bind (wpAny_runValue (codeAny_builtin entry_proto_collect' ?_))
  show wpAny _ _ (newList [] >>= fun r => again (.builtin "list.__iadd__" ⟨[r, .ref t], []⟩)) _ _ s
  refine wpAny_bind (wpAny_newList (wpAny_pure ⟨Code.quiet_builtin _ (by decide +kernel), codeAny_builtin entry_list_iadd' ?_⟩))
  show wpAny _ _ (Builtin.List.listExtendWith (.ref s.heap.objs.size) (.ref t) (.ref s.heap.objs.size)) _ _ { s with heap := s.heap.push (seqObj "list" #[] 0) }
  unfold Builtin.List.listExtendWith
  refine wpAny_bind (wpAny_typeOf (T := "tuple") ⟨o, ho2, hc⟩ ?_)
  rw [if_pos (by rw [show (Value.type "tuple" == Value.type "tuple") = true from rfl, Bool.or_true])]
  refine wpAny_bind (listItems_at ho2 hd (wpAny_bind (listItems_at (xs := #[]) (n := 0) (Heap.get?_push_size _ rfl) rfl ?_)))
  rw [if_neg (by simp)]
  refine wpAny_bind (listUpdate_at (xs := #[]) (n := 0) (Heap.get?_push_size _ rfl) rfl ?_ (Nat.zero_le _) fits)
  refine wpAny_pure (wpAny_bind (wpAny_load (get?_update_seq (Heap.get?_push_size _ rfl) _) ?_))
  have e : ((#[] : Array Value) ++ us.toArray).toList = us := by simp
  show wpAny _ _ (pure ((#[] : Array Value) ++ us.toArray).toList) Q E _
  rw [e]
  exact wpAny_pure q
end
def rSortUd (K : PySem.W.Frag) (rel : V → Hp → VK → Prop) : V → Hp → VK → Prop := fun x H Q => ∃ a xs, x = .ref a ∧ SqT K H a xs ∧ SortGo K rel xs H Q
theorem run_tup {X : Cx} {f : Value} {rel : V → Hp → VK → Prop} {P : List (Addr × Obj)} (hu : X.A.units + 100 < cLine) (hf : KeyRel X P f rel) (ht : ∀ a : Addr, Builtin.«list.sort» ⟨[.ref a], [(Str.ofString "key", f)]⟩ = ksk_tree a f false) : RunS X P f (rSortUd X.K rel) := by
  intro pins s σ H x u Q hP I r ⟨a, xs, ex, hs, g⟩
  cases ex
  cases r
  obtain ⟨its, rv, hl, hz⟩ := I.tuple hs
  have hz' : its.length ≤ sizeLine := by rw [← rv.length]; exact hz
  refine call_function_entry_kw kind_sorted plain_sorted entry_sorted (ksk_s1 _ _) ?_
  unfold Builtin.«sorted»
  refine wpAny_bind (m := checkCount "sorted" 1 1 _) (wpAny_pure (wpAny_bind (collect_tupK hl hz' ?_)))
  have I1 : Inv X pins σ H { s with heap := (s.heap.push (seqObj "list" #[] 0)).update s.heap.objs.size (Obj.mapSeq (· ++ its.toArray)) } := I.kept (t' := s.toks) fun b o e => by
    rw [Heap.get?_update_ne _ _ _ _ (Nat.ne_of_lt (Heap.lt_size e))]
    exact Heap.get?_push_of_some _ e
  exact sort_go hu I1 rv hz' g (hf.mono hP) ht fun v s' h => ⟨v, rfl, h⟩
end L2

-- part: W1
namespace Toy
open PySem L2
section
variable {P : Program} {w : World} {K : PySem.W.Frag} {mg : Str → Option Value} {base : Heap}
theorem p_ixT {H : Hp} {Q : VK} {p : Addr} {xs : List V} {i : Int} {v : V} (h : SqT K H p xs) (e : atI xs i = some v) (q : Q v H) : rIxT K (.ref p) (.int i) H Q := ⟨p, xs, i, v, rfl, rfl, h, e, q⟩
/-- what a letter goes to -/
def gL (L : List Int) (l : Int) : Int := if l > 0 then L.getD (l - 1).toNat 0 else -(L.getD (-l - 1).toNat 0)
theorem at_nat {L : List Int} {j : Nat} (h : j < L.length) : atI (L.map V.int) (j : Int) = some (V.int (L.getD j 0)) := atI_nat (by rw [List.getElem?_map, List.getElem?_eq_getElem h, List.getD_eq_getElem?_getD, List.getElem?_eq_getElem h]; rfl)
theorem at_pos {L : List Int} {l : Int} (h1 : 1 ≤ absI l) (h2 : absI l ≤ L.length) (p : l > 0) : atI (L.map V.int) (l - 1) = some (V.int (gL L l)) := by
  unfold absI at h1 h2
  rw [if_neg (by omega)] at h1 h2
  obtain ⟨j, e⟩ := Int.eq_ofNat_of_zero_le (by omega : 0 ≤ l - 1)
  rw [e, at_nat (by omega)]
  unfold gL
  rw [if_pos p, e, Int.toNat_natCast]
theorem at_neg {L : List Int} {l : Int} (h1 : 1 ≤ absI l) (h2 : absI l ≤ L.length) (p : ¬ l > 0) : atI (L.map V.int) (-l - 1) = some (V.int (-(gL L l))) := by
  unfold absI at h1 h2
  have hl : l < 0 := by
    by_cases z : l < 0
    · exact z
    · rw [if_neg z] at h1
      omega
  rw [if_pos hl] at h1 h2
  obtain ⟨j, e⟩ := Int.eq_ofNat_of_zero_le (by omega : 0 ≤ -l - 1)
  rw [e, at_nat (by omega)]
  unfold gL
  rw [if_neg p, e, Int.toNat_natCast, Int.neg_neg]
theorem gL_abs {n : Nat} {L : List Int} (t : Trn n L) {l : Int} (h1 : 1 ≤ absI l) (h2 : absI l ≤ n) : 1 ≤ absI (gL L l) ∧ absI (gL L l) ≤ n := by
  have ll := t.len
  unfold gL
  by_cases p : l > 0
  · rw [if_pos p]
    have : absI l = l := by unfold absI; rw [if_neg (by omega)]
    have hj : (l - 1).toNat < L.length := by omega
    rw [List.getD_eq_getElem?_getD, List.getElem?_eq_getElem hj]
    exact t.bd (List.getElem_mem hj)
  · rw [if_neg p, absI_neg]
    have hj : (-l - 1).toNat < L.length := by
      unfold absI at h1 h2
      by_cases z : l < 0
      · rw [if_pos z] at h1 h2
        omega
      · rw [if_neg z] at h1
        omega
    rw [List.getD_eq_getElem?_getD, List.getElem?_eq_getElem hj]
    exact t.bd (List.getElem_mem hj)
def spGoes (K : PySem.W.Frag) : Sp := fun vs H Q _ => ∃ (a : Addr) (L : List Int) (l : Int), vs = [.ref a, .int l] ∧ SqT K H a (L.map V.int) ∧ 1 ≤ absI l ∧ absI l ≤ L.length ∧ Q (.int (gL L l)) H
abbrev sLGoes : Stmt := s__law_goes
theorem scLGoes : FnScope ["turn", "letter"] ["turn", "letter"] (defScope sLGoes) := ⟨rfl, rfl, rfl, by decide +kernel, rfl, by decide +kernel, by decide +kernel⟩
theorem ok_lgoes {f : Addr} {fd : FuncData} (F : Fun K "_law_goes" "_law_goes" sLGoes f fd) : FnOk P w K mg base CX0 1 f fd ["turn", "letter"] (spGoes K) := by
  refine F.ok scLGoes (fun vs H Q E h => ?_) (fun cdv A outer s H vs Q E hr h => ?_)
  · obtain ⟨a, L, l, rfl, _⟩ := h
    rfl
  · obtain ⟨a, L, l, rfl, hs, h1, h2, q⟩ := h
    refine ⟨_, pss_one (ps_ret (pe_ifExp (pt_cmpR op_gt (pv 1) pe_int (nomark _)) (pe_ix ix_tup (pv 0) (pe_op op_sub (pv 1) pe_int) (fun _ _ => rfl)) (pe_un un_neg (pe_ix ix_tup (pv 0) (pe_op op_sub (pe_un un_neg (pv 1)) pe_int) (fun _ _ => rfl))))), ?_⟩
    show tRet _ _ [some (.ref a), some (.int l)] H
    walk_at "rd"
    by_cases p : l > 0
    · rw [decide_eq_true p]
      exact iteT (p_ixT hs (at_pos h1 h2 p) q)
    · rw [decide_eq_false p]
      refine iteF (p_ixT hs (at_neg h1 h2 p) ⟨_, rfl, ?_⟩)
      show Q (V.int (- -(gL L l))) _
      rw [Int.neg_neg]
      exact q
abbrev sGoes : Stmt := s_goes
theorem scGoes : FnScope ["turn", "letter"] ["turn", "letter"] (defScope sGoes) := ⟨rfl, rfl, rfl, by decide +kernel, rfl, by decide +kernel, by decide +kernel⟩
theorem ok_goes {f : Addr} {fd : FuncData} (F : Fun K "goes" "goes" sGoes f fd) (B : Bl mg) : FnOk P w K mg base CX0 1 f fd ["turn", "letter"] (spGoes K) := by
  refine F.ok scGoes (fun vs H Q E h => ?_) (fun cdv A outer s H vs Q E hr h => ?_)
  · obtain ⟨a, L, l, rfl, _⟩ := h
    rfl
  · obtain ⟨a, L, l, rfl, hs, h1, h2, q⟩ := h
    refine ⟨_, pss_cons (ps_if (pt_not (pt_chain op_le op_le pe_int (pe_callB call_abs (by rfl) B.abs (by decide +kernel) (pa_cons (pv 1) pa_nil)) (pe_callB call_len_seq (by rfl) B.len PySem.boot_len (pa_cons (pv 0) pa_nil)))) (pss_one (ps_ret (pv 1))) pss_nil)
      (pss_one (ps_ret (pe_ifExp (pt_cmpR op_gt (pv 1) pe_int (nomark _)) (pe_ix ix_tup (pv 0) (pe_op op_sub (pv 1) pe_int) (fun _ _ => rfl)) (pe_un un_neg (pe_ix ix_tup (pv 0) (pe_op op_sub (pe_un un_neg (pv 1)) pe_int) (fun _ _ => rfl)))))), ?_⟩
    show tSeq _ _ _ [some (.ref a), some (.int l)] H
    refine seq_gen (fun σ' H' => σ' = [some (.ref a), some (.int l)] ∧ H' = H) (fun nx hnx => ?_) ?_
    · walk_at "rd"
      have e : decide (1 ≤ if l < 0 then -l else l) = true := decide_eq_true h1
      have e2 : decide ((if l < 0 then -l else l) ≤ ((L.map V.int).length : Int)) = true := decide_eq_true (by rw [List.length_map]; exact h2)
      rw [e]
      refine iteT ⟨a, _, rfl, .inr hs, ?_⟩
      rw [e2]
      exact iteF (hnx _ _ ⟨rfl, rfl⟩)
    rintro σ' H' ⟨rfl, rfl⟩
    walk_at "rd"
    by_cases p : l > 0
    · rw [decide_eq_true p]
      exact iteT (p_ixT hs (at_pos h1 h2 p) q)
    · rw [decide_eq_false p]
      refine iteF (p_ixT hs (at_neg h1 h2 p) ⟨_, rfl, ?_⟩)
      show Q (V.int (- -(gL L l))) _
      rw [Int.neg_neg]
      exact q
/-! ### no turn is refused -/
abbrev sRef : Stmt := s_refuse_no_turn
theorem scRef : FnScope ["thing"] ["thing"] (defScope sRef) := ⟨rfl, rfl, rfl, by decide +kernel, rfl, by decide +kernel, by decide +kernel⟩
theorem turnB_of {n : Nat} {L : List Int} (t : Trn n L) (h1 : 1 ≤ n) (h4 : n ≤ 400) : turnB (L.map V.int) (L.length : Int) = true := by
  have ll := t.len
  unfold turnB manyB
  rw [List.length_map, ll, decide_eq_true (by omega : (1 : Int) ≤ (n : Int)), decide_eq_true (by omega : (n : Int) ≤ 400), decide_eq_true rfl, abs_ints, decide_eq_true ((t.nodup_iff).mpr (up_nodup n))]
  simp only [Bool.true_and, Bool.and_true]
  rw [List.map_map, List.all_eq_true]
  intro y hy
  obtain ⟨i, hi, rfl⟩ := List.mem_map.mp hy
  have b := t.bd hi
  show (decide (1 ≤ absI i) && decide (absI i ≤ (n : Int))) = true
  rw [decide_eq_true b.1, decide_eq_true b.2]
  rfl
theorem thing_ints {H : Hp} {a : Addr} {L : List Int} (h : SqT K H a (L.map V.int)) (l : L.length ≤ 1000) : Thing K H (.ref a) (some (L.map V.int)) :=
  ⟨a, rfl, h, by rw [List.length_map]; exact l, fun y hy => by
    obtain ⟨i, _, rfl⟩ := List.mem_map.mp hy
    exact ⟨_, .int i⟩⟩
def spRef (K : PySem.W.Frag) : Sp := fun vs H Q _ => ∃ (a : Addr) (n : Nat) (L : List Int), vs = [.ref a] ∧ SqT K H a (L.map V.int) ∧ Trn n L ∧ 1 ≤ n ∧ n ≤ 400 ∧ ∀ H', Same H H' → Q .non H'
theorem ok_ref {f fT : Addr} {fd fdT : FuncData} (F : Fun K "refuse_no_turn" "refuse_no_turn" sRef f fd) (B : Bl mg) (T : Df K mg "is_turn" sTurn ["thing", "many"] fT fdT) (GT : FnOk P w K mg base CX0 3 fT fdT ["thing", "many"] (spTurn K)) :
    FnOk P w K mg base CX0 4 f fd ["thing"] (spRef K) := by
  refine F.ok scRef (fun vs H Q E h => ?_) (fun cdv A outer s H vs Q E hr h => ?_)
  · obtain ⟨a, n, L, rfl, _⟩ := h
    rfl
  · obtain ⟨a, n, L, rfl, hs, t, h1, h4, q⟩ := h
    refine ⟨_, pss_one (ps_if (PW.pt (pw_or (pt_cmpR op_neT (pe_callTy call_type1 (by rfl) B.type (by decide +kernel) (pa_cons (pv 0) pa_nil)) (pe_bltn (v := .ty "tuple") (by rfl) B.tuple (by decide +kernel) rfl) (nomark _))
        (pw_or1 (pt_not (pt_val (pe_call GT hr rfl T.g T.F.kp T.b .nil pass0 (pa_cons (pv 0) (pa_cons (pe_callB call_len_seq (by rfl) B.len PySem.boot_len (pa_cons (pv 0) pa_nil)) pa_nil)))))))) (pss_one ps_never) pss_nil), ?_⟩
    show tIfS _ _ _ _ [some (.ref a)] H
    walk_at "rd"
    refine ⟨.ref a, "tuple", rfl, .tup hs, "tuple", "tuple", rfl, rfl, kn_tup, kn_tup, ?_⟩
    rw [decide_eq_true rfl]
    refine iteF ⟨a, _, rfl, .inr hs, ?_⟩
    refine ⟨.ref a, _, some (L.map V.int), rfl, thing_ints hs (by rw [t.len]; omega), fun H' s' => ?_⟩
    have e : thingB (some (L.map V.int)) ((L.map V.int).length : Int) = true := by
      rw [List.length_map]
      exact turnB_of t h1 h4
    rw [e]
    exact ⟨true, rfl, iteF (q H' s')⟩
/-! ### clauses and parts -/
abbrev nClG : List Str := ["turn", "clause", "letter"]
theorem u100 {k : Nat} {A : Around} (hr : Room k A) : A.units + 100 < cLine := by have := hr.un; omega
def spClG (K : PySem.W.Frag) : Sp := fun vs H Q _ => ∃ (a c : Addr) (n : Nat) (L C : List Int), vs = [.ref a, .ref c] ∧ SqT K H a (L.map V.int) ∧ Trn n L ∧ SqT K H c (C.map V.int) ∧ C.length ≤ 1000 ∧ (∀ l ∈ C, 1 ≤ absI l ∧ absI l ≤ n) ∧
  ∀ (b : Addr) (S : List Int) (H' : Hp), Same H H' → S.Perm (C.map (gL L)) → S.Pairwise (fun x y => absI x ≤ absI y) → H' b = some (.tup (S.map V.int)) → Q (.ref b) H'
def spOfL (K : PySem.W.Frag) : Sp := fun vs H Q _ => ∃ (a : Addr) (n : Nat) (L : List Int) (l : Int), vs = [.ref a, .int l] ∧ SqT K H a (L.map V.int) ∧ Trn n L ∧ 1 ≤ n ∧ n ≤ 400 ∧ 1 ≤ absI l ∧ absI l ≤ n ∧ ∀ H', Same H H' → Q (.int (gL L l)) H'
def spOfC (K : PySem.W.Frag) : Sp := fun vs H Q E => ∃ n : Nat, 1 ≤ n ∧ n ≤ 400 ∧ ∃ (a c : Addr) (L C : List Int), vs = [.ref a, .ref c] ∧ SqT K H a (L.map V.int) ∧ Trn n L ∧ SqT K H c (C.map V.int) ∧ C.length ≤ 1000 ∧ (∀ l ∈ C, 1 ≤ absI l ∧ absI l ≤ n) ∧
  ∀ (b : Addr) (S : List Int) (H' : Hp), Same H H' → S.Perm (C.map (gL L)) → S.Pairwise (fun x y => absI x ≤ absI y) → H' b = some (.tup (S.map V.int)) → Q (.ref b) H'
abbrev nOfP : List Str := ["turn", "part", "letter"]
def spOfP (K : PySem.W.Frag) : Sp := fun vs H Q E => ∃ n : Nat, 1 ≤ n ∧ n ≤ 400 ∧ ∃ (a c : Addr) (L C : List Int), vs = [.ref a, .ref c] ∧ SqT K H a (L.map V.int) ∧ Trn n L ∧ SqT K H c (C.map V.int) ∧ C.length ≤ 1000 ∧ (∀ l ∈ C, 1 ≤ absI l ∧ absI l ≤ n) ∧
  ∀ (b : Addr) (H' : Hp), Same H H' → H' b = some (.tup ((C.map (gL L)).map V.int)) → Q (.ref b) H'
end
end Toy

-- part: RT1
namespace L2
open PySem PySem.Spec PySem.Calls PyProof.Rows HT
section
variable {prog : Program} {w : World} {A : Around} {E : Value → Shared → Prop} {s : Shared}
theorem adjust_back (n : Nat) : Builtin.Slice.sliceAdjust none none (-1) (n : Int) = ((n : Int) - 1, -1) := rfl
theorem places_back (n : Nat) : Builtin.Slice.slicePlaces ((n : Int) - 1) (-1) (-1) = n := by
  unfold Builtin.Slice.slicePlaces
  rw [if_neg (by decide : ¬ ((-1 : Int) > 0))]
  by_cases h : (n : Int) - 1 > -1
  · rw [if_pos h]
    show (((n : Int) - 1 - -1 - 1) / 1 + 1).toNat = n
    rw [Int.ediv_one]
    omega
  · rw [if_neg h]
    show (0 : Int).toNat = n
    omega
theorem fm_congr {α β : Type} {f g : α → Option β} : ∀ {l : List α}, (∀ x ∈ l, f x = g x) → l.filterMap f = l.filterMap g
  | [], _ => rfl
  | x :: l, h => by
    rw [List.filterMap_cons, List.filterMap_cons, h x List.mem_cons_self, fm_congr fun y hy => h y (List.mem_cons_of_mem _ hy)]
theorem picked_back (xs : Array Value) : ((List.range xs.size).filterMap fun (m : Nat) => xs[((xs.size : Int) - 1 + (m : Int) * -1).toNat]?) = xs.toList.reverse := by
  have e1 : ((List.range xs.size).filterMap fun (m : Nat) => xs[((xs.size : Int) - 1 + (m : Int) * -1).toNat]?) = (((List.range xs.size).map fun k => xs.size - 1 - k).filterMap fun i => xs[i]?) := by
    rw [List.filterMap_map]
    refine fm_congr fun m hm => ?_
    have := List.mem_range.mp hm
    show xs[((xs.size : Int) - 1 + (m : Int) * -1).toNat]? = xs[xs.size - 1 - m]?
    have e : ((xs.size : Int) - 1 + (m : Int) * -1).toNat = xs.size - 1 - m := by omega
    rw [e]
  rw [e1, PySem.W.krv_range, List.filterMap_reverse, PySem.W.krv_all]
theorem applied_back {sl : Addr} {t : Tok} {n : Nat} {Q : Int × Int × Nat → Shared → Prop} (hs : s.heap.IsSliceOf sl .none .none (.int (-1) t)) (q : Q ((n : Int) - 1, -1, n) s) : wpAny (model prog w) A (Builtin.Slice.sliceApplied (.ref sl) (pure (n : Int))) Q E s := by
  obtain ⟨o, ho, _, hd⟩ := id hs
  unfold Builtin.Slice.sliceApplied Builtin.Slice.sliceFields
  refine wpAny_bind (wpAny_bind (wpAny_field ho hd (x := .none) rfl (wpAny_bind (wpAny_field ho hd (x := .none) rfl (wpAny_bind (wpAny_field ho hd (x := .int (-1) t) rfl (wpAny_pure ?_)))))))
  refine wpAny_bind (slicePart_int ?_)
  show wpAny _ _ (if ((-1 : Int) == 0) = true then _ else _) _ _ s
  rw [if_neg (by decide)]
  refine wpAny_bind (slicePart_none (wpAny_bind (slicePart_none (wpAny_bind (wpAny_pure ?_)))))
  show wpAny _ _ (pure ((Builtin.Slice.sliceAdjust none none (-1) (n : Int)).1, (-1 : Int), Builtin.Slice.slicePlaces (Builtin.Slice.sliceAdjust none none (-1) (n : Int)).1 (Builtin.Slice.sliceAdjust none none (-1) (n : Int)).2 (-1))) _ _ s
  rw [adjust_back]
  show wpAny _ _ (pure ((n : Int) - 1, (-1 : Int), Builtin.Slice.slicePlaces ((n : Int) - 1) (-1) (-1))) _ _ s
  rw [places_back]
  exact wpAny_pure q
theorem back_tuple {t sl : Addr} {items : Array Value} {k : Tok} {Q : Value → Shared → Prop} (ht : IsTup s.heap t items) (hs : s.heap.IsSliceOf sl .none .none (.int (-1) k)) (hz : items.size ≤ sizeLine)
    (q : Q (.ref s.heap.objs.size) { s with heap := s.heap.push { cls := .type "tuple", data := .seq items.toList.reverse.toArray } }) : wpAny (model prog w) A (getItem (.ref t) (.ref sl)) Q E s := by
  obtain ⟨o, ho, hc, _⟩ := id hs
  have isSl : s.TypeIs (.ref sl) "slice" := ⟨o, ho, hc⟩
  have fits : sizeOk (.seq items.toList.reverse.toArray) := by
    show items.toList.reverse.toArray.size ≤ sizeLine
    rw [List.size_toArray, List.length_reverse, Array.length_toList]
    exact hz
  unfold getItem
  try with_reducible refine wpAny_holding ?_
  first | refine wpAny_bind (wpAny_pure ?_) | skip
  refine wpAny_bind (wpAny_sequenceKey ht.typeIs (by decide) (wpAny_bind (wpAny_callSpecial?_slot (name := Str.ofString "__getitem__") ht.typeIs slot_tuple_getitem (wpAny_call_entry slot_tuple_getitem ht.typeIs entry_tuple_getitem ?_ (args_tuple_getitem _ _)))))
  show wpAny _ _ (Builtin.Tuple.tupleItemsOf (.ref t) >>= _) _ _ s
  refine wpAny_bind (tupleItemsOf_ ht (wpAny_bind (wpAny_typeOf isSl ?_)))
  rw [if_pos (by decide)]
  refine wpAny_bind (applied_back hs ?_)
  show wpAny _ _ (if (((items.size : Int) - 1 == 0 && (-1 : Int) == 1) && items.size == items.size) = true then _ else _) _ _ s
  rw [if_neg (by rw [show ((-1 : Int) == 1) = false from rfl, Bool.and_false, Bool.false_and]; exact Bool.false_ne_true), picked_back]
  first
    | exact wpAny_bind (m := Builtin.Tuple.tupleExact _) (wpAny_newObj_type (wpAny_pure ⟨_, rfl, wpAny_pure q⟩) fits)
    | exact wpAny_bind (m := Builtin.Tuple.tupleExact _) (wpAny_newObj_type (wpAny_bind (wpAny_pure (wpAny_pure ⟨_, rfl, wpAny_pure q⟩))) fits)
    | exact wpAny_bind (wpAny_bind (m := Builtin.Tuple.tupleExact _) (wpAny_newObj_type (wpAny_pure (wpAny_pure ⟨_, rfl, wpAny_pure q⟩)) fits))
    | exact wpAny_bind (wpAny_bind (m := Builtin.Tuple.tupleExact _) (wpAny_newObj_type (wpAny_pure ⟨_, rfl, wpAny_pure q⟩) fits))
end
/-- t[::-1], t a tuple -/
def tRevT (K : PySem.W.Frag) (te : TE) : TE := fun σ H Q => te σ H fun x H1 => ∃ a xs, x = .ref a ∧ SqT K H1 a xs ∧ ∀ p, H1 p = none → Q (.ref p) (upd H1 p (.tup xs.reverse))
theorem pe_revT {X : Cx} {e : Expr} {te : TE} {k : Nat} {p1 p2 p3 pos : Pos} (he : PE X e te) : PE X (.Subscript e (.Slice none none (some (.UnaryOp .USub (.Constant (.int 1) k p1) p2)) p3) pos) (tRevT X.K te) := by
  refine ⟨fun pins s σ H Q I h => Subscript_ (thn (he.run pins s σ H _ I h) fun v s1 ⟨x, H1, I1, r1, a, xs, ex, hx, q⟩ => ?_)⟩
  cases ex
  cases r1
  have step : PO X (some (.UnaryOp .USub (.Constant (.int 1) k p1) p2)) (tPart (tUn (rU fun i => .int (-i)) (tC (.int 1)))) := po_some (pe_un un_neg pe_int)
  refine wpAny_Slice (thn (po_none.run pins s1 σ H1 (fun o H2 => o = none ∧ H2 = H1) I1 ⟨rfl, rfl⟩) fun ua s2 ⟨_, _, I2, part1, e1, e2⟩ => thn (po_none.run pins s2 σ H1 (fun o H3 => o = none ∧ H3 = H1) (e2 ▸ I2) ⟨rfl, rfl⟩) fun ub s3 ⟨_, _, I3, part2, e3, e4⟩ =>
    thn (step.run pins s3 σ H1 (fun o H4 => o = some (-1) ∧ H4 = H1) (e4 ▸ I3) ⟨1, rfl, -1, rfl, rfl, rfl⟩) fun uc s4 ⟨_, _, I4, part3, e5, e6⟩ => ?_)
  subst e1 e3 e5 e6
  cases part1
  cases part2
  cases part3
  have I5 := I4.kept (h' := s4.heap.push { cls := .type "slice", data := .fields #[.none, .none, .int (-1) ‹Tok›] }) (t' := s4.toks) fun b ob q => Heap.get?_push_of_some _ q
  obtain ⟨its, r, ht, hz⟩ := I5.tuple hx
  have hlen := r.length
  refine tail_any (ops := [.ref a, .ref s4.heap.objs.size]) ht.typeIs slot_tuple_getitem.lookup (back_tuple ht (Heap.IsSliceOf.new _ _ _ _) (by rw [List.size_toArray]; omega) ?_) (by with_unfolding_all rfl)
  refine ⟨.ref _, _, I5.laid (t' := s4.toks) (o := .tup xs.reverse) (fun b ob q => Heap.get?_push_of_some _ q) (Nat.le_refl _) ⟨?_, _, r.reverse, IsTup.new _ _⟩, rfl, q _ (I5.hok.fresh (Nat.le_refl _))⟩
  rw [List.length_reverse]
  exact hz
end L2

-- part: M2
namespace Toy
open PySem L2
section
variable {P : Program} {w : World} {K : PySem.W.Frag} {mg : Str → Option Value} {base : Heap}
abbrev nLTu : List Str := ["draw", "many", "sort", "one", "other", "found", "pool", "k", "truth"]
def spLTu (K : PySem.W.Frag) : Sp := fun vs H Q _ => ∃ d m sc ns, vs = [.ref d, .int m] ∧ 1 ≤ m ∧ m ≤ 400 ∧ DrA K sc ns H d ∧
  ∀ (a : Addr) (L : List Int) (H' : Hp), Trn m.toNat L → Ex d H H' → DrA K sc ns H' d → H' a = some (.tup (L.map V.int)) → H a = none → Q (.ref a) H'
theorem none_back {d sc a : Addr} {ns : List Int} {H H' : Hp} (e : Ex d H H') (D : DrA K sc ns H' d) (ha : H' a = none) : H a = none := by
  cases h : H a with
  | none => rfl
  | some o =>
    have := e a o h (D.nd ha)
    rw [ha] at this
    cases this
theorem ixN_nat {n j : Nat} (h : j < n) : ixN n (j : Int) = some j := by
  unfold ixN
  rw [if_pos (by omega), if_pos (by omega), Int.toNat_natCast]
theorem get_int {L : List Int} {j : Nat} (h : j < L.length) : ∃ y, L[j]? = some y ∧ atI (L.map V.int) (j : Int) = some (V.int y) := ⟨L[j], List.getElem?_eq_getElem h, atI_nat (by rw [List.getElem?_map, List.getElem?_eq_getElem h]; rfl)⟩
theorem map_erase {α β : Type} (f : α → β) : ∀ (l : List α) (k : Nat), (l.map f).eraseIdx k = (l.eraseIdx k).map f
  | [], _ => rfl
  | _ :: _, 0 => rfl
  | x :: l, k + 1 => by
    show f x :: (l.map f).eraseIdx k = f x :: (l.eraseIdx k).map f
    rw [map_erase f l k]
theorem seqIx {k n : Nat} (h : k < n) : seqIndex? (k : Int) n = some k := by
  unfold seqIndex?
  have h0 : ¬ ((k : Int) < 0) := by omega
  have h1 : decide ((k : Int) < (n : Int)) = true := decide_eq_true (by omega)
  have h2 : decide (0 ≤ (k : Int)) = true := decide_eq_true (by omega)
  simp only [h0, if_false, h1, h2, Bool.and_self, if_true, Int.toNat_natCast]
theorem if_eq {k : Int} {A B : TS} {D : Ends} {σ : St} {H : Hp} (h : σ[2]? = some (some (.int k))) (q : A D σ H) : tIfS (tTest (tOp rEq (tVar 2) (tC (.int k)))) A B D σ H := ⟨_, h, rfl, true, by rw [decide_eq_true rfl], iteT q⟩
theorem if_ne {k r : Int} {A B : TS} {D : Ends} {σ : St} {H : Hp} (h : σ[2]? = some (some (.int r))) (n : r ≠ k) (q : B D σ H) : tIfS (tTest (tOp rEq (tVar 2) (tC (.int k)))) A B D σ H := ⟨_, h, rfl, false, by rw [decide_eq_false fun e => n (V.int.inj e)], iteF q⟩
def tPopAt (K : PySem.W.Frag) : TE := tBM K "list" rPopAt (tVar 6) (tCons (tCall (spNext K) [] E0 (tCons (tVar 0) (tCons (tCB (fun xs H Q => ∃ p ys, xs = [.ref p] ∧ (SqL K H p ys ∨ SqT K H p ys) ∧ Q (.int ys.length) H) (tCons (tVar 6) tNil)) tNil))) tNil)
def tSign (K : PySem.W.Frag) : TE := tOp (rIxL K) (tLst (tCons (tVar 8) (tCons (tUn (rU fun i => .int (-i)) (tVar 8)) tNil))) (tCall (spNext K) [] E0 (tCons (tVar 0) (tCons (tC (V.int 2)) tNil)))
end
end Toy

-- part: NE1
namespace L2
open PySem PySem.Spec PySem.Calls PyProof.Rows
/-- xs != [], whatever stands in xs -/
def rNeE (K : PySem.W.Frag) : R2 := fun x y H Q => ∃ a b xs, x = .ref a ∧ y = .ref b ∧ SqL K H a xs ∧ SqL K H b [] ∧ Q (.bl (!xs.isEmpty)) H
theorem op_neE {X : Cx} (hu : X.A.units + 64 < cLine) : OpR X (compareOp .NotEq) (rNeE X.K) := by
  intro pins s σ H x y v u Q I rx ry ⟨a, b, xs, ex, ey, ha, hb, q⟩
  subst ex ey
  cases xs with
  | nil => exact op_neD hu pins s σ H _ _ v u Q I rx ry ⟨.list [], .list [], .lst ha .nil, .lst hb .nil, by decide, by decide, q⟩
  | cons z zs =>
    cases rx
    cases ry
    obtain ⟨its, rv, pl, _⟩ := I.list ha
    obtain ⟨its2, rv2, pl2, _⟩ := I.list hb
    have e2 : its2 = [] := by cases rv2; rfl
    subst e2
    have n1 : its.length = zs.length + 1 := by rw [← rv.length]; rfl
    have big : (its.toArray.size != ([] : List Value).toArray.size) = true := by
      rw [List.size_toArray, n1]
      rfl
    exact SeqAt.RcNeAt.lists_lengths pl.isList pl2.isList big (by omega) X.prog X.w X.xe _ ⟨.bl true, H, I, rfl, q⟩
end L2

-- part: D3
namespace Toy
open PySem L2
theorem rise_up : ∀ (S : List Int) (lo : Int), S.Pairwise (· < ·) → (∀ x ∈ S, lo ≤ x ∧ x < lo + S.length) → S = (List.range S.length).map fun (i : Nat) => lo + (i : Int)
  | [], _, _, _ => rfl
  | a :: r, lo, h, b => by
    have h1 := List.pairwise_cons.mp h
    have ba := b a List.mem_cons_self
    have ih := rise_up r (lo + 1) h1.2 fun x hx => by
      have := h1.1 x hx
      have := b x (List.mem_cons_of_mem _ hx)
      rw [List.length_cons] at this
      omega
    have ea : a = lo := by
      cases r with
      | nil =>
        rw [List.length_cons, List.length_nil] at ba
        omega
      | cons c r =>
        have hc := h1.1 c List.mem_cons_self
        have e0 : c = lo + 1 := by
          rw [List.length_cons, List.range_succ_eq_map, List.map_cons] at ih
          have := (List.cons.inj ih).1
          omega
        omega
    rw [List.length_cons, List.range_succ_eq_map, List.map_cons, List.map_map]
    refine List.cons_eq_cons.mpr ⟨by omega, ?_⟩
    refine ih.trans (List.map_congr_left fun i _ => ?_)
    show lo + 1 + (i : Int) = lo + ((i + 1 : Nat) : Int)
    omega
theorem sorted_turn {n : Nat} {A S : List Int} (hl : A.length = n) (pm : S.Perm A) (rise : S.Pairwise (· ≤ ·)) : S = up n ↔ (∀ x ∈ A, 1 ≤ x ∧ x ≤ n) ∧ A.Nodup := by
  constructor
  · intro e
    subst e
    exact ⟨fun x hx => up_mem.mp (pm.mem_iff.mpr hx), (pm.nodup_iff).mp (up_nodup n)⟩
  · rintro ⟨hb, nd⟩
    have ndS : S.Nodup := (pm.nodup_iff).mpr nd
    have lS : S.length = n := pm.length_eq.trans hl
    have st : S.Pairwise (· < ·) := by
      have := List.Pairwise.and rise ndS
      exact this.imp fun {a b} h => by have h1 := h.1; have h2 := h.2; omega
    have := rise_up S 1 st fun x hx => by
      have := hb x (pm.mem_iff.mp hx)
      rw [lS]
      omega
    rw [lS] at this
    exact this
def isI (x : V) : Bool := match x with
  | .int _ => true
  | _ => false
theorem only_ints : ∀ {xs : List V}, (xs.filter fun x => !isI x) = [] → ∃ L : List Int, xs = L.map V.int
  | [], _ => ⟨[], rfl⟩
  | x :: r, h => by
    rw [List.filter_cons] at h
    cases x with
    | int i =>
      have h2 : (r.filter fun x => !isI x) = [] := h
      obtain ⟨L, e⟩ := only_ints h2
      exact ⟨i :: L, by rw [e]; rfl⟩
    | _ => cases h
theorem not_ints {xs : List V} {m : Int} (h : (xs.filter fun x => !isI x) ≠ []) : turnB xs m = false := by
  obtain ⟨y, hy⟩ := List.exists_mem_of_ne_nil _ h
  obtain ⟨hm, hn⟩ := List.mem_filter.mp hy
  have e : (xs.map fun x => letB x m).all id = false := by
    rw [Bool.eq_false_iff]
    intro z
    obtain ⟨L, rfl, _⟩ := all_ints z
    obtain ⟨i, _, rfl⟩ := List.mem_map.mp hm
    cases hn
  unfold turnB
  rw [e]
  simp
theorem due_turn {n : Nat} {L S : List Int} (hl : L.length = n) (pm : S.Perm (L.map absI)) (rise : S.Pairwise (· ≤ ·)) (h1 : 1 ≤ n) (h4 : n ≤ 400) : turnB (L.map V.int) (n : Int) = decide (S = up n) := by
  have e := sorted_turn (n := n) (A := L.map absI) (by rw [List.length_map]; exact hl) pm rise
  unfold turnB manyB
  rw [decide_eq_true (by omega : (1 : Int) ≤ (n : Int)), decide_eq_true (by omega : (n : Int) ≤ 400), List.length_map, decide_eq_true (by omega : (L.length : Int) = (n : Int)), abs_ints, Bool.true_and, Bool.true_and, Bool.true_and]
  rw [Bool.eq_iff_iff, Bool.and_eq_true, decide_eq_true_eq, decide_eq_true_eq, e]
  have ea : ((L.map V.int).map fun x => letB x (n : Int)).all id = true ↔ ∀ x ∈ L.map absI, 1 ≤ x ∧ x ≤ n := by
    rw [List.map_map, List.all_eq_true]
    constructor
    · intro h x hx
      obtain ⟨i, hi, rfl⟩ := List.mem_map.mp hx
      have := h _ (List.mem_map.mpr ⟨i, hi, rfl⟩)
      have h2 : (decide (1 ≤ absI i) && decide (absI i ≤ (n : Int))) = true := this
      rw [Bool.and_eq_true] at h2
      exact ⟨of_decide_eq_true h2.1, of_decide_eq_true h2.2⟩
    · intro h y hy
      obtain ⟨i, hi, rfl⟩ := List.mem_map.mp hy
      have := h _ (List.mem_map.mpr ⟨i, hi, rfl⟩)
      show (decide (1 ≤ absI i) && decide (absI i ≤ (n : Int))) = true
      rw [decide_eq_true this.1, decide_eq_true this.2]
      rfl
  rw [ea]
end Toy

-- part: MT
namespace Toy
open PySem L2
theorem gL_absI (L : List Int) {l : Int} (h1 : 1 ≤ absI l) : absI (gL L l) = absI (L.getD (absI l - 1).toNat 0) := by
  unfold gL
  by_cases p : l > 0
  · have : absI l = l := by unfold absI; rw [if_neg (by omega)]
    rw [if_pos p, this]
  · have : absI l = -l := by
      unfold absI at h1 ⊢
      by_cases z : l < 0
      · rw [if_pos z]
      · rw [if_neg z] at h1
        omega
    rw [if_neg p, absI_neg, this]
/-- the letter of a bit -/
def lOf (W : List Int) (i : Nat) : Int := if W.getD i 0 = 1 then 1 + (i : Int) else -(1 + (i : Int))
theorem lOf_abs (W : List Int) (i : Nat) : absI (lOf W i) = 1 + (i : Int) := by
  unfold lOf
  split
  · unfold absI; rw [if_neg (by omega)]
  · rw [absI_neg]; unfold absI; rw [if_neg (by omega)]
/-- where the letters go that hold -/
def imgs (L W : List Int) : List Int := (List.range W.length).map fun i => gL L (lOf W i)
theorem imgs_abs {L W : List Int} (h : W.length = L.length) : (imgs L W).map absI = L.map absI := by
  unfold imgs
  rw [List.map_map, h]
  refine List.ext_getElem (by simp) fun i h1 h2 => ?_
  rw [List.length_map] at h2
  rw [List.getElem_map, List.getElem_range, List.getElem_map]
  show absI (gL L (lOf W i)) = _
  have ea := lOf_abs W i
  rw [gL_absI L (by rw [ea]; omega), ea, show (1 + (i : Int) - 1).toNat = i by omega, List.getD_eq_getElem?_getD, List.getElem?_eq_getElem h2]
  rfl
theorem trn_imgs {n : Nat} {L W : List Int} (t : Trn n L) (h : W.length = n) : Trn n (imgs L W) := by
  unfold Trn
  rw [imgs_abs (h.trans t.len.symm)]
  exact t
theorem Trn.nd {n : Nat} {L : List Int} (t : Trn n L) : (L.map absI).Nodup := (t.nodup_iff).mpr (up_nodup n)
theorem srt_up {n : Nat} {S I : List Int} (t : Trn n I) (pm : S.Perm I) (rise : S.Pairwise fun a b => absI a ≤ absI b) : S.map absI = up n := by
  refine (sorted_turn (A := I.map absI) (by rw [List.length_map]; exact t.len) (pm.map absI) (List.pairwise_map.mpr rise)).mpr ⟨fun x hx => ?_, t.nd⟩
  obtain ⟨i, hi, rfl⟩ := List.mem_map.mp hx
  exact t.bd hi
theorem same_abs {I : List Int} (nd : (I.map absI).Nodup) {x y : Int} (hx : x ∈ I) (hy : y ∈ I) (e : absI x = absI y) : x = y := by
  induction I with
  | nil => cases hx
  | cons a I ih =>
    have h := List.nodup_cons.mp nd
    rcases List.mem_cons.mp hx with q | q
    · rcases List.mem_cons.mp hy with r | r
      · rw [q, r]
      · exact absurd (List.mem_map.mpr ⟨y, r, by rw [← e, q]⟩) h.1
    · rcases List.mem_cons.mp hy with r | r
      · exact absurd (List.mem_map.mpr ⟨x, q, by rw [e, r]⟩) h.1
      · exact ih h.2 q r
theorem bits_eq {n : Nat} {S I : List Int} (t : Trn n I) (pm : S.Perm I) (rise : S.Pairwise fun a b => absI a ≤ absI b) : S.map (fun l => if 0 < l then (1 : Int) else 0) = (up n).map fun k => if k ∈ I then (1 : Int) else 0 := by
  rw [← srt_up t pm rise, List.map_map]
  refine List.map_congr_left fun l hl => ?_
  have hI := pm.mem_iff.mp hl
  have b := t.bd hI
  show (if 0 < l then (1 : Int) else 0) = if absI l ∈ I then 1 else 0
  by_cases p : 0 < l
  · have : absI l = l := by unfold absI; rw [if_neg (by omega)]
    rw [if_pos p, this, if_pos hI]
  · rw [if_neg p, if_neg]
    intro h
    have h0 : ∀ z : Int, 1 ≤ z → absI z = z := fun z hz => by unfold absI; rw [if_neg (by omega)]
    have a2 := h0 _ b.1
    have := same_abs t.nd h hI a2
    omega
theorem strict_abs {S I : List Int} (pm : S.Perm I) (nd : (I.map absI).Nodup) (rise : S.Pairwise fun a b => absI a ≤ absI b) : S.Pairwise fun a b => a.natAbs < b.natAbs := by
  have n2 : (S.map absI).Nodup := ((pm.map absI).nodup_iff).mpr nd
  have n3 : S.Pairwise fun a b => absI a ≠ absI b := List.pairwise_map.mp n2
  refine (rise.and n3).imp fun {a b} h => ?_
  have h1 := h.1
  have h2 := h.2
  rw [absI_nat, absI_nat] at h1 h2
  omega
theorem ext_abs {S S' I I' : List Int} (p1 : S.Perm I) (p2 : S'.Perm I') (p : I.Perm I') (nd : (I.map absI).Nodup) (r1 : S.Pairwise fun a b => absI a ≤ absI b) (r2 : S'.Pairwise fun a b => absI a ≤ absI b) : S = S' :=
  inc_ext (strict_abs p1 nd r1) (strict_abs p2 (((p.map absI).nodup_iff).mp nd) r2) fun x => (p1.mem_iff.trans p.mem_iff).trans p2.mem_iff.symm
theorem nd_gL {n : Nat} {L C : List Int} (t : Trn n L) (b : ∀ l ∈ C, 1 ≤ absI l ∧ absI l ≤ n) (nd : (C.map absI).Nodup) : ((C.map (gL L)).map absI).Nodup := by
  rw [List.map_map]
  refine List.pairwise_map.mpr ((List.pairwise_map.mp nd).imp_of_mem fun {x y} hx hy h => ?_)
  have bx := b x hx
  have by_ := b y hy
  have ll := t.len
  show absI (gL L x) ≠ absI (gL L y)
  rw [gL_absI L bx.1, gL_absI L by_.1]
  obtain ⟨i, ei⟩ := Int.eq_ofNat_of_zero_le (by omega : 0 ≤ absI x - 1)
  obtain ⟨j, ej⟩ := Int.eq_ofNat_of_zero_le (by omega : 0 ≤ absI y - 1)
  rw [ei, ej, Int.toNat_natCast, Int.toNat_natCast]
  have hi : i < L.length := by omega
  have hj : j < L.length := by omega
  rw [List.getD_eq_getElem?_getD, List.getD_eq_getElem?_getD, List.getElem?_eq_getElem hi, List.getElem?_eq_getElem hj]
  show absI L[i] ≠ absI L[j]
  have pw := List.pairwise_iff_getElem.mp t.nd
  have hi' : i < (L.map absI).length := by rw [List.length_map]; exact hi
  have hj' : j < (L.map absI).length := by rw [List.length_map]; exact hj
  rcases Nat.lt_trichotomy i j with q | q | q
  · have := pw i j hi' hj' q
    rw [List.getElem_map, List.getElem_map] at this
    exact this
  · omega
  · have := pw j i hj' hi' q
    rw [List.getElem_map, List.getElem_map] at this
    exact fun e => this e.symm
theorem mem_fold : ∀ (l ks : List Int) (k : Int), k ∈ l.foldl addU ks ↔ k ∈ ks ∨ k ∈ l := by
  intro l
  induction l with
  | nil => intro ks k; simp
  | cons a l ih =>
    intro ks k
    rw [List.foldl_cons, ih, mem_add, List.mem_cons]
    constructor
    · rintro ((h | h) | h)
      · exact .inl h
      · exact .inr (.inl h)
      · exact .inr (.inr h)
    · rintro (h | h | h)
      · exact .inl (.inl h)
      · exact .inl (.inr h)
      · exact .inr h
theorem nd_fold : ∀ (l ks : List Int), ks.Nodup → (l.foldl addU ks).Nodup
  | [], _, h => h
  | a :: l, ks, h => nd_fold l _ (nd_add h a)
theorem len_fold : ∀ (l ks : List Int), (l.foldl addU ks).length ≤ ks.length + l.length
  | [], _ => Nat.le_refl _
  | a :: l, ks => by
    have h := len_fold l (addU ks a)
    have h2 := len_add (ks := ks) a
    show (l.foldl addU (addU ks a)).length ≤ _
    rw [List.length_cons]
    omega
theorem keys_fold (v : V) : ∀ (l : List Int) (kvs : List (Key × V)) (ks : List Int), kvs.map (·.1) = ks.map Sum.inl → (mergeK kvs (l.map fun i => (Sum.inl i, v))).map (·.1) = (l.foldl addU ks).map Sum.inl
  | [], _, _, h => h
  | a :: l, kvs, ks, h => keys_fold v l (putK kvs (Sum.inl a) v) (addU ks a) (keys_put inl_inj h a v)
end Toy

-- part: EN2
/-! enumerate of a tuple, from a number on -/
namespace EnC
open PySem PyProof.Rows
theorem sub_kw {M : Model} {A : Around} {E : Value → Shared → Prop} {s : Shared} {env : Env} {pos : Pos} {T : String} {e : Expr} {kws : List Keyword} {Q : Value → Shared → Prop}
    (q : wpAny M A (spliced (backTo pos (starEach [e] env))) (fun vs s1 => wpAny M A (evalAll ((backToKw pos (keywordEach kws env)).map (·.2))) (fun ks s2 => wpAny M A (call (.type T) vs (((backToKw pos (keywordEach kws env)).filterMap (·.1)).zip ks)) Q E s2) E s1) E s)
    (one : backTo pos (starEach [e] env) = (false, eval e env) :: backTo pos (starEach [] env)) (noStar : (backTo pos (starEach [e] env)).any (·.1) = false) (named : (backToKw pos (keywordEach kws env)).all (·.1.isSome) = true) (noSplat : (backToKw pos (keywordEach kws env)).any (·.1.isNone) = false) :
    wpAny M A (callWith pos (.type T) [] (backTo pos (starEach [e] env)) (backToKw pos (keywordEach kws env))) Q E s := by
  unfold callWith
  have args : wpAny M A (evalArgs (.type T) true (backTo pos (starEach [e] env)) (backToKw pos (keywordEach kws env))) (fun a s1 => wpAny M A (call (.type T) ([] ++ a.pos) a.kw) Q E s1) E s := by
    rw [one] at q ⊢
    exact evalArgs_kwB named q
  refine wpAny_bind (wpAny_holding (wpAny_mono args (fun a s1 h1 => wpAny_bind (wpAny_standAt ?_)) fun _ _ z => z))
  simp only [noStar, noSplat, Bool.or_false]
  exact wpAny_bind (wpAny_pure (wpAny_bind (wpAny_mono h1 (fun r s2 hr => wpAny_bind (wpAny_holding (wpAny_point (wpAny_pure hr)))) fun _ _ z => z)))
end EnC
namespace L2
open PySem PySem.Spec PyProof.Rows
/-- the tuple at a, each item in a new pair with its number from c on -/
def ItC (K : PySem.W.Frag) (a : Addr) (c : Int) : It :=
  ⟨fun i H => ∃ (xs : List V) (x : V), SqT K H a xs ∧ xs[i]? = some x, fun i H v H' => ∃ T x, v = .ref T ∧ H T = none ∧ H' = upd H T (.tup [.int (c + (i : Nat)), x]) ∧ ∀ xs, SqT K H a xs → xs[i]? = some x, fun i H => ∃ xs : List V, SqT K H a xs ∧ xs.length = i⟩
theorem turn_enumC {P : Program} {w : World} {K : PySem.W.Frag} {elts : List Expr} {kk : Nat} {tpos : Pos} (a e it : Addr) (c : Int) :
    Turn P w K (.Tuple elts kk tpos) (ItC K a c) [e, it] e (fun i h => (∃ old, IsEnum h e it (c + ((i : Nat) : Int)) old) ∧ h.IsTupleIter it a i ∧ e ≠ it) where
  mem := by simp
  obj := fun i h ⟨⟨old, he⟩, ⟨o, ho, hc, hd⟩, _⟩ b hb => by
    rcases (show b = e ∨ b = it by simpa using hb) with rfl | rfl
    · exact ⟨_, he, fun v q => nomatch q⟩
    · exact ⟨o, ho, fun v q => by rw [hd] at q; cases q⟩
  keep := fun i h h' ⟨⟨old, he⟩, hi, hne⟩ k => ⟨⟨old, k e (by simp) _ he⟩, hi.at fun o q => k it (by simp) o q, hne⟩
  item := by
    intro X hP hw hK hc i pins s σ H E I hf st hg
    subst hP hw hK
    obtain ⟨⟨old, he⟩, hit, hne⟩ := st
    obtain ⟨xs, x, hq, hx⟩ := hg
    obtain ⟨its, rv, p, hz⟩ := I.tuple hq
    obtain ⟨u, hu, ru⟩ := rv.get hx
    have le : e < s.heap.objs.size := Heap.lt_size he
    have li : it < s.heap.objs.size := by obtain ⟨_, q, _⟩ := hit; exact Heap.lt_size q
    have ai : a ≠ it := fun z => by
      obtain ⟨o1, h1, c1, _⟩ := hit
      obtain ⟨o2, h2, c2, _⟩ := p
      rw [z, h1] at h2
      cases h2
      rw [c1] at c2
      exact absurd (Value.type.inj c2) (by decide)
    have ae : e ∉ [it, a] := fun z => by
      rcases (show e = it ∨ e = a by simpa using z) with z | z
      · exact hne z
      · obtain ⟨o2, h2, c2, _⟩ := p
        rw [← z, show s.heap.get? e = _ from he] at h2
        cases h2
        exact absurd (Value.type.inj c2) (by decide)
    have D := Draws.tuple (prog := X.prog) (w := X.w) (A := X.A.in1) (I.ok.hd hc) it a ai its.toArray
    refine wpAny_pyNext_enum_itemC D he ⟨hit, p⟩ (by rw [List.size_toArray]; exact (List.getElem?_eq_some_iff.mp hu).1) hne ae fun v h' tk hv ho st' hT _ hk => ?_
    have ev : v = u := by
      have hv : its.toArray[i]? = some v := hv
      rw [show its.toArray[i]? = its[i]? by simp, hu] at hv
      exact (Option.some.inj hv).symm
    subst ev
    refine ⟨_, rfl, wpAny_letOwnedTupleGo_enum (s := { s with heap := h', toks := tk + 1 }) ho fun h2 he2 sb => ?_⟩
    have hT2 : h2.get? s.heap.objs.size = some { cls := .type "tuple", data := .seq #[.int (c + (i : Nat)) tk, v] } := (sb.2 _ (Nat.ne_of_gt le)).trans hT
    have I1 : Inv X pins σ (upd H s.heap.objs.size (.tup [.int (c + (i : Nat)), x])) { s with heap := h2, toks := tk + 1 } :=
      I.turnedNew (ch := [e, it]) (fun b ob hb q => (sb.2 b (fun z => hb (by simp [z]))).trans (hk b ob (fun z => hb (by simp [z])) (fun z => hb (by simp [z])) q)) hf (Nat.le_refl _)
        ⟨by show 2 ≤ sizeLine; decide, [.int (c + (i : Nat)) tk, v], .cons ⟨_, rfl⟩ (.cons ru .nil), ⟨_, hT2, rfl, _, rfl⟩⟩
    refine ⟨.ref s.heap.objs.size, _, I1, rfl, ⟨_, x, rfl, I.hok.fresh (Nat.le_refl _), rfl, fun ys hy => by rw [I.tuple_inj hy hq]; exact hx⟩, ⟨⟨v, ?_⟩, st'.1.at fun o q => (sb.2 it (Ne.symm hne)).trans q, hne⟩, fun b hb => ?_⟩
    · rw [show c + ((i + 1 : Nat) : Int) = c + (i : Int) + 1 by omega]
      exact he2
    · have lb : b < s.heap.objs.size := by
        rcases (show b = e ∨ b = it by simpa using hb) with rfl | rfl
        · exact le
        · exact li
      rw [upd_ne (Nat.ne_of_lt lb)]
      exact (hf b hb).1
  done := by
    intro X hP hw hK hc i pins s σ H E I hf st hg
    subst hP hw hK
    obtain ⟨⟨old, he⟩, hit, hne⟩ := st
    obtain ⟨xs, hq, hx⟩ := hg
    obtain ⟨its, rv, p, hz⟩ := I.tuple hq
    obtain ⟨f0, f1, f2, f3, f4, f5⟩ := hf it (by simp)
    have ai : a ≠ it := fun z => by
      obtain ⟨o1, h1, c1, _⟩ := hit
      obtain ⟨o2, h2, c2, _⟩ := p
      rw [z, h1] at h2
      cases h2
      rw [c1] at c2
      exact absurd (Value.type.inj c2) (by decide)
    have D := Draws.tuple (prog := X.prog) (w := X.w) (A := X.A.in1) (I.ok.hd hc) it a ai its.toArray
    have ei : i = its.toArray.size := by rw [List.size_toArray, ← rv.length]; exact hx.symm
    exact wpAny_pyNext_enum_endD D he ⟨ei ▸ hit, p⟩ fun h' eb => ⟨rfl, I.turned (t' := s.toks) (fun b o hb q => eb b o (by simpa using hb) q) f0 f1 f3 f4 f5⟩
  self := fun A i s Q E st h => let ⟨⟨_, he⟩, _⟩ := st; wpAny_pyIter_enum he h
theorem walk_enumC {K : PySem.W.Frag} {a : Addr} {xs : List V} {c : Int} : Walk (ItC K a c) xs.length (fun H => SqT K H a xs) (fun i H v H' => ∃ T x, v = .ref T ∧ H T = none ∧ H' = upd H T (.tup [.int (c + (i : Nat)), x]) ∧ xs[i]? = some x) :=
  ⟨fun i H hi q => ⟨xs, xs[i], q, by simp [hi]⟩, fun H q => ⟨xs, q, rfl⟩, fun i H v H' hi q ⟨T, x, e1, e2, e3, e4⟩ => ⟨T, x, e1, e2, e3, e4 xs q⟩⟩
theorem enum_start {X : Cx} {elts : List Expr} {kk : Nat} {tpos : Pos} {pins : List (Addr × Obj)} {σ : St} {H : Hp} {s : Shared} {a : Addr} {c : Int} {xs : List V} {R : It → Hp → Prop} {h' : Heap} (I : Inv X pins σ H s) (hq : SqT X.K H a xs)
    (he : IsEnum h' (s.heap.objs.size + 1) s.heap.objs.size c .none) (hi : h'.get? s.heap.objs.size = some { cls := .type "tuple_iterator", data := .fields #[.ref a, .int 0 0] }) (hk : ∀ b o, s.heap.get? b = some o → h'.get? b = some o) (q : R (ItC X.K a c) H) :
    PIE X pins σ (.Tuple elts kk tpos) R (.ref (s.heap.objs.size + 1)) { s with heap := h' } := by
  have up_ : ∀ b, b = s.heap.objs.size + 1 ∨ b = s.heap.objs.size → s.heap.objs.size ≤ b := fun b z => by rcases z with rfl | rfl <;> omega
  refine ⟨s.heap.objs.size + 1, [s.heap.objs.size + 1, s.heap.objs.size], _, _, H, rfl, I.kept (t' := s.toks) hk, turn_enumC a (s.heap.objs.size + 1) s.heap.objs.size c, ⟨⟨.none, ?_⟩, ⟨_, hi, rfl, rfl⟩, Nat.succ_ne_self _⟩, fun b hb => ?_, q⟩
  · rw [show c + ((0 : Nat) : Int) = c by simp]
    exact he
  · have le := up_ b (by simpa using hb)
    exact I.fpOk le (I.hok.fresh le)
/-- for .. in enumerate(t, c), t a tuple -/
def iEnumC (K : PySem.W.Frag) (ta : TA) : TI := fun σ H R => ta σ H fun vs H1 => ∃ a xs c, vs = [.ref a, .int c] ∧ SqT K H1 a xs ∧ -(2 ^ 63) ≤ c ∧ c < 2 ^ 63 ∧ R (ItC K a c) H1
theorem pi_enumC {X : Cx} {e e2 : Expr} {ta : TA} {p pos tpos : Pos} {elts : List Expr} {kk : Nat} (hg : Gl X "enumerate") (hm : X.mg "enumerate" = none) (ha : PA X [e, e2] ta)
    (hs : starEach [e, e2] X.env = (false, eval e X.env) :: starEach [e2] X.env := by rfl) (hpl : (backTo pos (starEach [e2] X.env)).any (·.1) = false := by rfl) :
    PI X (.Tuple elts kk tpos) (.Call (.Name "enumerate" p) [e, e2] [] pos) (iEnumC X.K ta) := by
  refine ⟨fun pins s σ H R I h => Call_ (ld_blt I hg hm boot_enumerate (PyProof.Rows.callWith_type1 (thn (ha.run pos pins s σ H _ I h) fun us s1 ⟨vs, H1, I1, r1, a, xs, c, ex, hq, c0, c1, q⟩ => ?_) hs hpl))⟩
  subst ex
  obtain ⟨u, u2, rfl, ru, ru2⟩ := vals2 r1
  cases ru
  obtain ⟨t, rfl⟩ := ru2
  obtain ⟨its, rv, p', hz⟩ := I1.tuple hq
  exact PySem.enum_begins (PySem.begins_tuple a its.toArray) p' c0 c1 fun h' he hi _ hk => wpAny_pyIter_enum he (enum_start I1 hq he hi hk q)
/-- for .. in enumerate(t, start=c) -/
def iEnumK (K : PySem.W.Frag) (ta : TA) (tc : TE) : TI := fun σ H R => ta σ H fun vs H1 => tc σ H1 fun y H2 => ∃ a xs c, vs = [.ref a] ∧ y = .int c ∧ SqT K H2 a xs ∧ -(2 ^ 63) ≤ c ∧ c < 2 ^ 63 ∧ R (ItC K a c) H2
theorem pi_enumK {X : Cx} {e ke : Expr} {ta : TA} {tc : TE} {p pos kpos tpos : Pos} {elts : List Expr} {kk : Nat} (hg : Gl X "enumerate") (hm : X.mg "enumerate" = none) (ha : PA X [e] ta) (hc : PE X ke tc)
    (h1 : backTo pos (starEach [e] X.env) = (false, eval e X.env) :: backTo pos (starEach [] X.env) := by rfl) (hpl : (backTo pos (starEach [e] X.env)).any (·.1) = false := by rfl)
    (hall : (backToKw pos (keywordEach [⟨some "start", ke, kpos⟩] X.env)).all (·.1.isSome) = true := by rfl) (hnone : (backToKw pos (keywordEach [⟨some "start", ke, kpos⟩] X.env)).any (·.1.isNone) = false := by rfl) :
    PI X (.Tuple elts kk tpos) (.Call (.Name "enumerate" p) [e] [⟨some "start", ke, kpos⟩] pos) (iEnumK X.K ta tc) := by
  refine ⟨fun pins s σ H R I h => ?_⟩
  refine wpAny_Call_Name_kw (ld_blt I hg hm boot_enumerate ?_ (by decide))
  refine EnC.sub_kw (thn (ha.run pos pins s σ H _ I h) fun us s1 ⟨vs, H1, I1, r1, q1⟩ => ?_) h1 hpl hall hnone
  show wpAny _ _ (evalAll ((do let v ← eval ke X.env; standAt pos; pure v) :: [])) _ _ s1
  refine wpAny_evalAll_cons (wpAny_bind (thn (hc.run pins s1 σ H1 _ I1 q1) fun v s2 ⟨y, H2, I2, r2, a, xs, c, ex, ey, hq, c0, c1, q⟩ => wpAny_bind (wpAny_standAt (wpAny_pure ?_))))
  refine wpAny_evalAll_nil ?_
  subst ex ey
  obtain ⟨u, rfl, ru⟩ := vals1 r1
  cases ru
  obtain ⟨t, rfl⟩ := r2
  obtain ⟨its, rv, p', hz⟩ := I2.tuple hq
  exact PySem.enum_begins_start (PySem.begins_tuple a its.toArray) p' c0 c1 fun h' he hi _ hk => wpAny_pyIter_enum he (enum_start I2 hq he hi hk q)
end L2

-- part: W2
namespace Toy
open PySem L2
section
variable {P : Program} {w : World} {K : PySem.W.Frag} {mg : Str → Option Value} {base : Heap}
/-! ### answers -/
abbrev nIsW : List Str := ["thing", "many", "worth"]
def spIsW (K : PySem.W.Frag) : Sp := fun vs H Q _ => ∃ (b : Addr) (W : List Int), vs = [.ref b, .int (W.length : Int)] ∧ SqT K H b (W.map V.int) ∧ W.length ≤ 1000 ∧ (∀ x ∈ W, x = 0 ∨ x = 1) ∧ ∀ H', Same H H' → Q (.bl true) H'
def tBit (K : PySem.W.Frag) : TE := tAndV (tCall (spIsNum K) [] E0 (tCons (tVar 2) tNil)) (tOp (rIn K false) (tVar 2) (tTup (tCons (tC (V.int 0)) (tCons (tC (V.int 1)) tNil))))
abbrev nOfA : List Str := ["turn", "answer", "holding", "k", "worth", "letter"]
def bitsOf (n : Nat) (I : List Int) : List Int := (up n).map fun k => if k ∈ I then 1 else 0
def spOfA (K : PySem.W.Frag) : Sp := fun vs H Q _ => ∃ (a b : Addr) (n : Nat) (L W : List Int), vs = [.ref a, .ref b] ∧ SqT K H a (L.map V.int) ∧ Trn n L ∧ 1 ≤ n ∧ n ≤ 400 ∧ SqT K H b (W.map V.int) ∧ W.length = n ∧ (∀ x ∈ W, x = 0 ∨ x = 1) ∧
  ∀ (c : Addr) (H' : Hp), Same H H' → H' c = some (.tup ((bitsOf n (imgs L W)).map V.int)) → Q (.ref c) H'
def tImg (K : PySem.W.Frag) : TE := tCall (spGoes K) [] E0 (tCons (tVar 0) (tCons (tIf (tTest (tOp rEq (tVar 4) (tC (V.int 1)))) (tVar 3) (tUn (rU fun i => .int (-i)) (tVar 3))) tNil))
def tPos : TE := tIf (tTest (tOp (rI0 fun i j => .bl (decide (j < i))) (tVar 5) (tC (V.int 0)))) (tC (V.int 1)) (tC (V.int 0))
end
end Toy

-- part: B1
namespace Toy
open PySem L2
theorem gD {L : List Int} {j : Nat} (h : j < L.length) : L.getD j 0 = L[j] := by rw [List.getD_eq_getElem?_getD, List.getElem?_eq_getElem h]; rfl
theorem absI_pos {x : Int} (h : 0 < x) : absI x = x := by unfold absI; rw [if_neg (by omega)]
theorem absI_neg' {x : Int} (h : ¬ 0 < x) (h1 : 1 ≤ absI x) : absI x = -x ∧ x < 0 := by
  unfold absI at h1 ⊢
  by_cases z : x < 0
  · rw [if_pos z]
    exact ⟨rfl, z⟩
  · rw [if_neg z] at h1
    omega
theorem gL_neg (L : List Int) {l : Int} (h : 1 ≤ absI l) : gL L (-l) = -(gL L l) := by
  unfold gL
  by_cases p : 0 < l
  · rw [if_neg (by omega), if_pos p, Int.neg_neg]
  · have := (absI_neg' p h).2
    rw [if_pos (by omega), if_neg p, Int.neg_neg]
theorem gL_nat (L : List Int) (j : Nat) : gL L (1 + (j : Int)) = L.getD j 0 := by
  unfold gL
  rw [if_pos (by omega), show (1 + (j : Int) - 1).toNat = j by omega]
theorem trn_of {n : Nat} {L : List Int} (hl : L.length = n) (hb : ∀ x ∈ L, 1 ≤ absI x ∧ absI x ≤ n) (nd : (L.map absI).Nodup) : Trn n L := by
  let S := (L.map absI).mergeSort fun a b => decide (a ≤ b)
  have pm : S.Perm (L.map absI) := List.mergeSort_perm _ _
  have so : S.Pairwise fun a b => decide (a ≤ b) = true := List.pairwise_mergeSort (le := fun a b : Int => decide (a ≤ b)) (fun a b c h1 h2 => decide_eq_true (Int.le_trans (of_decide_eq_true h1) (of_decide_eq_true h2))) (fun a b => (Int.le_total a b).elim (fun h => by rw [decide_eq_true h]; rfl) (fun h => by rw [decide_eq_true h, Bool.or_true])) _
  have e := (sorted_turn (n := n) (A := L.map absI) (by rw [List.length_map]; exact hl) pm (so.imp fun h => of_decide_eq_true h)).mpr ⟨fun x hx => by
    obtain ⟨i, hi, rfl⟩ := List.mem_map.mp hx
    exact hb i hi, nd⟩
  unfold Trn
  rw [← e]
  exact pm.symm
/-- a letter of one of n truths -/
def Lt (n : Nat) (l : Int) : Prop := 1 ≤ absI l ∧ absI l ≤ n
theorem Lt.nat {n j : Nat} (h : j < n) : Lt n (1 + (j : Int)) := by
  unfold Lt
  rw [absI_pos (by omega)]
  omega
theorem Lt.neg {n : Nat} {l : Int} (h : Lt n l) : Lt n (-l) := by
  unfold Lt at *
  rw [absI_neg]
  exact h
theorem Trn.lt {n : Nat} {L : List Int} (t : Trn n L) {l : Int} (h : Lt n l) : Lt n (gL L l) := gL_abs t h.1 h.2
/-- a letter is a truth's or its negative -/
theorem Lt.two {n : Nat} {l : Int} (h : Lt n l) : ∃ j : Nat, j < n ∧ (l = 1 + (j : Int) ∨ l = -(1 + (j : Int))) := by
  obtain ⟨h1, h2⟩ := h
  by_cases p : 0 < l
  · rw [absI_pos p] at h1 h2
    exact ⟨(l - 1).toNat, by omega, .inl (by omega)⟩
  · obtain ⟨e, z⟩ := absI_neg' p h1
    rw [e] at h1 h2
    exact ⟨(-l - 1).toNat, by omega, .inr (by omega)⟩
def joined (L M : List Int) : List Int := L.map (gL M)
theorem gL_joined {n : Nat} {L M : List Int} (t : Trn n L) {l : Int} (h : Lt n l) : gL (joined L M) l = gL M (gL L l) := by
  have ll := t.len
  obtain ⟨j, hj, e⟩ := h.two
  have hj' : j < L.length := by omega
  have main : gL (joined L M) (1 + (j : Int)) = gL M (gL L (1 + (j : Int))) := by
    rw [gL_nat, gL_nat, gD hj', gD (by unfold joined; rw [List.length_map]; exact hj')]
    unfold joined
    rw [List.getElem_map]
  rcases e with rfl | rfl
  · exact main
  · have a1 : 1 ≤ absI (1 + (j : Int)) := (Lt.nat hj).1
    rw [gL_neg _ a1, gL_neg _ a1, gL_neg _ (t.lt (Lt.nat hj)).1, main]
theorem trn_joined {n : Nat} {L M : List Int} (t : Trn n L) (u : Trn n M) : Trn n (joined L M) := by
  refine trn_of (by unfold joined; rw [List.length_map]; exact t.len) (fun x hx => ?_) (nd_gL u (fun l hl => t.bd hl) t.nd)
  obtain ⟨l, hl, rfl⟩ := List.mem_map.mp hx
  exact u.lt (t.bd hl)
theorem ext_gL {n : Nat} {X Y : List Int} (hx : X.length = n) (hy : Y.length = n) (h : ∀ l, Lt n l → gL X l = gL Y l) : X = Y := by
  refine List.ext_getElem (hx.trans hy.symm) fun j h1 h2 => ?_
  have := h _ (Lt.nat (n := n) (j := j) (by omega))
  rw [gL_nat, gL_nat, gD h1, gD h2] at this
  exact this
theorem onto {n : Nat} {Z : List Int} (t : Trn n Z) {x : Int} (h : Lt n x) : ∃ l, Lt n l ∧ gL Z l = x := by
  have hm : absI x ∈ Z.map absI := t.mem_iff.mpr (up_mem.mpr h)
  obtain ⟨z, hz, e⟩ := List.mem_map.mp hm
  obtain ⟨j, hj, rfl⟩ := List.getElem_of_mem hz
  have ll := t.len
  have lt : Lt n (1 + (j : Int)) := Lt.nat (by omega)
  have ez : Z[j] = x ∨ Z[j] = -x := by
    rw [absI_nat, absI_nat] at e
    omega
  rcases ez with e2 | e2
  · exact ⟨_, lt, by rw [gL_nat, gD hj, e2]⟩
  · exact ⟨_, lt.neg, by rw [gL_neg _ lt.1, gL_nat, gD hj, e2, Int.neg_neg]⟩
theorem inj_gL {n : Nat} {L : List Int} (t : Trn n L) {l m : Int} (hl : Lt n l) (hm : Lt n m) (e : gL L l = gL L m) : l = m := by
  by_cases h : absI l = absI m
  · have : l = m ∨ l = -m := by
      rw [absI_nat, absI_nat] at h
      omega
    rcases this with h2 | h2
    · exact h2
    · rw [h2, gL_neg _ hm.1] at e
      have := (t.lt hm).1
      have z : gL L m = 0 := by omega
      rw [z] at this
      unfold absI at this
      rw [if_neg (by omega)] at this
      omega
  · have nd := nd_gL (C := [l, m]) t (fun x hx => by
      simp only [List.mem_cons, List.not_mem_nil, or_false] at hx
      rcases hx with rfl | rfl
      · exact hl
      · exact hm) (by simpa using h)
    simp only [List.map_cons, List.map_nil, e] at nd
    simp at nd
/-! ### leading back -/
structure Bk (n : Nat) (L B : List Int) : Prop where
  len : B.length = n
  inv : ∀ l, Lt n l → gL B (gL L l) = l
theorem Bk.of {n : Nat} {L B : List Int} (t : Trn n L) (hl : B.length = n) (h : ∀ j : Nat, j < n → gL B (L.getD j 0) = 1 + (j : Int)) : Bk n L B := by
  refine ⟨hl, fun l hl' => ?_⟩
  obtain ⟨j, hj, e⟩ := hl'.two
  have main : gL B (gL L (1 + (j : Int))) = 1 + (j : Int) := by rw [gL_nat, h j hj]
  rcases e with rfl | rfl
  · exact main
  · rw [gL_neg _ (Lt.nat hj).1, gL_neg _ (t.lt (Lt.nat hj)).1, main]
theorem Bk.back {n : Nat} {L B : List Int} (b : Bk n L B) (t : Trn n L) {x : Int} (h : Lt n x) : Lt n (gL B x) ∧ gL L (gL B x) = x := by
  obtain ⟨l, hl, rfl⟩ := onto t h
  rw [b.inv l hl]
  exact ⟨hl, rfl⟩
theorem Bk.trn {n : Nat} {L B : List Int} (b : Bk n L B) (t : Trn n L) : Trn n B := by
  have get : ∀ j (h : j < B.length), gL B (1 + (j : Int)) = B[j] := fun j h => by rw [gL_nat, gD h]
  have lb := b.len
  refine trn_of b.len (fun x hx => ?_) (List.pairwise_iff_getElem.mpr fun i j hi hj hij => ?_)
  · obtain ⟨j, hj, rfl⟩ := List.getElem_of_mem hx
    rw [← get j hj]
    exact (b.back t (Lt.nat (by omega))).1
  · rw [List.length_map] at hi hj
    rw [List.getElem_map, List.getElem_map]
    intro e
    have e1 := (b.back t (Lt.nat (n := n) (j := i) (by omega))).2
    have e2 := (b.back t (Lt.nat (n := n) (j := j) (by omega))).2
    have b1 := (b.back t (Lt.nat (n := n) (j := j) (by omega))).1
    rw [get i hi] at e1
    rw [get j hj] at e2 b1
    have : B[i] = B[j] ∨ B[i] = -B[j] := by
      rw [absI_nat, absI_nat] at e
      omega
    rcases this with h | h
    · rw [h, e2] at e1
      omega
    · rw [h, gL_neg _ b1.1, e2] at e1
      omega
theorem Bk.uniq {n : Nat} {L B B' : List Int} (t : Trn n L) (b : Bk n L B) (b' : Bk n L B') : B = B' := ext_gL b.len b'.len fun x hx => by
  obtain ⟨l, hl, rfl⟩ := onto t hx
  rw [b.inv l hl, b'.inv l hl]
theorem gL_up {n : Nat} {l : Int} (h : Lt n l) : gL (up n) l = l := by
  obtain ⟨j, hj, e⟩ := h.two
  have main : gL (up n) (1 + (j : Int)) = 1 + (j : Int) := by
    rw [gL_nat, gD (by rw [up_len]; exact hj)]
    unfold up
    rw [List.getElem_map, List.getElem_range]
  rcases e with rfl | rfl
  · exact main
  · rw [gL_neg _ (Lt.nat hj).1, main]
theorem join_len {L M : List Int} : (joined L M).length = L.length := by unfold joined; rw [List.length_map]
theorem Bk.r {n : Nat} {L B : List Int} (t : Trn n L) (b : Bk n L B) : joined L B = up n := ext_gL (join_len.trans t.len) (up_len n) fun l hl => by rw [gL_joined t hl, b.inv l hl, gL_up hl]
theorem Bk.l {n : Nat} {L B : List Int} (t : Trn n L) (b : Bk n L B) : joined B L = up n := ext_gL (join_len.trans b.len) (up_len n) fun l hl => by rw [gL_joined (b.trn t) hl, (b.back t hl).2, gL_up hl]
theorem Bk.two {n : Nat} {L M B C : List Int} (t : Trn n L) (u : Trn n M) (b : Bk n L B) (c : Bk n M C) : Bk n (joined L M) (joined C B) := ⟨join_len.trans c.len, fun l hl => by
  rw [gL_joined (c.trn u) (by rw [gL_joined t hl]; exact u.lt (t.lt hl)), gL_joined t hl, c.inv _ (t.lt hl), b.inv l hl]⟩
theorem join_assoc {n : Nat} {L M N : List Int} (t : Trn n L) (u : Trn n M) : joined (joined L M) N = joined L (joined M N) := ext_gL (join_len.trans (join_len.trans t.len)) (join_len.trans t.len) fun l hl => by
  rw [gL_joined (trn_joined t u) hl, gL_joined t hl, gL_joined t hl, gL_joined u (t.lt hl)]
theorem set_same {G : List Int} {x v : Int} (h : Lt G.length x) : gL (G.set (absI x - 1).toNat (if x > 0 then v else -v)) x = v := by
  obtain ⟨h1, h2⟩ := h
  unfold gL
  by_cases p : x > 0
  · rw [if_pos p, if_pos p, absI_pos p, gD (by rw [List.length_set]; rw [absI_pos p] at h1 h2; omega), List.getElem_set_self]
  · obtain ⟨e, z⟩ := absI_neg' p h1
    rw [if_neg p, if_neg p, e, gD (by rw [List.length_set]; rw [e] at h1 h2; omega), List.getElem_set_self, Int.neg_neg]
theorem set_other {G : List Int} {x y z : Int} (hx : 1 ≤ absI x) (hy : 1 ≤ absI y) (n : absI y ≠ absI x) : gL (G.set (absI x - 1).toNat z) y = gL G y := by
  have key : ∀ k : Nat, k ≠ (absI x - 1).toNat → (G.set (absI x - 1).toNat z).getD k 0 = G.getD k 0 := fun k hk => by
    rw [List.getD_eq_getElem?_getD, List.getD_eq_getElem?_getD, List.getElem?_set_ne (Ne.symm hk)]
  unfold gL
  by_cases p : y > 0
  · rw [if_pos p, if_pos p, key]
    rw [absI_pos p] at hy n
    omega
  · have e := (absI_neg' p hy).1
    rw [if_neg p, if_neg p, key]
    rw [e] at hy n
    omega
/-! ### what holds -/
def hd (W : List Int) (l : Int) : Bool := decide (W.getD (absI l - 1).toNat 0 = if 0 < l then 1 else 0)
theorem bit_of {W : List Int} (hW : ∀ x ∈ W, x = 0 ∨ x = 1) {j : Nat} (h : j < W.length) : W.getD j 0 = 0 ∨ W.getD j 0 = 1 := by
  rw [gD h]
  exact hW _ (List.getElem_mem h)
theorem mem_imgs {n : Nat} {L W : List Int} (lW : W.length = n) (hW : ∀ x ∈ W, x = 0 ∨ x = 1) {x : Int} : x ∈ imgs L W ↔ ∃ l, Lt n l ∧ hd W l = true ∧ gL L l = x := by
  unfold imgs
  rw [List.mem_map]
  constructor
  · rintro ⟨i, hi, rfl⟩
    have hi := List.mem_range.mp hi
    have ea := lOf_abs W i
    refine ⟨_, ⟨by rw [ea]; omega, by rw [ea]; omega⟩, ?_, rfl⟩
    unfold hd
    rw [ea, show (1 + (i : Int) - 1).toNat = i by omega]
    rcases bit_of hW hi with e | e
    · have el : lOf W i = -(1 + (i : Int)) := by unfold lOf; rw [e, if_neg (by decide)]
      have p : ¬ (0 : Int) < -(1 + (i : Int)) := by omega
      rw [el, e, if_neg p]
      rfl
    · have el : lOf W i = 1 + (i : Int) := by unfold lOf; rw [e, if_pos rfl]
      have p : (0 : Int) < 1 + (i : Int) := by omega
      rw [el, e, if_pos p]
      rfl
  · rintro ⟨l, hl, h, rfl⟩
    obtain ⟨j, hj, e⟩ := hl.two
    refine ⟨j, List.mem_range.mpr (by omega), ?_⟩
    unfold hd at h
    have h := of_decide_eq_true h
    have el : lOf W j = l := by
      unfold lOf
      rcases e with rfl | rfl
      · rw [absI_pos (by omega), show (1 + (j : Int) - 1).toNat = j by omega, if_pos (by omega)] at h
        rw [if_pos h]
      · rw [absI_neg, absI_pos (by omega), show (1 + (j : Int) - 1).toNat = j by omega, if_neg (by omega)] at h
        rw [if_neg (by omega)]
    rw [el]
theorem bits_len (n : Nat) (I : List Int) : (bitsOf n I).length = n := by unfold bitsOf; rw [List.length_map, up_len]
theorem bits_01 (n : Nat) (I : List Int) : ∀ x ∈ bitsOf n I, x = 0 ∨ x = 1 := by
  unfold bitsOf
  intro x hx
  obtain ⟨k, _, rfl⟩ := List.mem_map.mp hx
  split
  · exact .inr rfl
  · exact .inl rfl
theorem bits_get {n : Nat} {I : List Int} {j : Nat} (h : j < n) : (bitsOf n I).getD j 0 = if (1 + (j : Int)) ∈ I then 1 else 0 := by
  rw [gD (by rw [bits_len]; exact h)]
  unfold bitsOf up
  rw [List.getElem_map, List.getElem_map, List.getElem_range]
theorem hd_bits {n : Nat} {I : List Int} (t : Trn n I) {x : Int} (h : Lt n x) : hd (bitsOf n I) x = decide (x ∈ I) := by
  obtain ⟨j, hj, e⟩ := h.two
  unfold hd
  rcases e with rfl | rfl
  · have p : (0 : Int) < 1 + (j : Int) := by omega
    rw [absI_pos (by omega), show (1 + (j : Int) - 1).toNat = j by omega, bits_get hj, if_pos p]
    by_cases m : (1 + (j : Int)) ∈ I
    · rw [if_pos m, decide_eq_true m]; rfl
    · rw [if_neg m, decide_eq_false m]; rfl
  · have p : ¬ (0 : Int) < -(1 + (j : Int)) := by omega
    rw [absI_neg, absI_pos (by omega), show (1 + (j : Int) - 1).toNat = j by omega, bits_get hj, if_neg p]
    by_cases m : (1 + (j : Int)) ∈ I
    · have nz : ¬ (-(1 + (j : Int)) ∈ I) := fun z => by
        have := same_abs t.nd m z (by rw [absI_neg])
        omega
      rw [if_pos m, decide_eq_false nz]
      rfl
    · have hm : (1 + (j : Int)) ∈ I.map absI := t.mem_iff.mpr (up_mem.mpr ⟨by omega, by omega⟩)
      obtain ⟨z, hz, ez⟩ := List.mem_map.mp hm
      have e2 : z = 1 + (j : Int) ∨ z = -(1 + (j : Int)) := by
        rw [absI_nat] at ez
        omega
      rcases e2 with rfl | rfl
      · exact absurd hz m
      · rw [if_neg m, decide_eq_true hz]; rfl
theorem bits_ext {n : Nat} {I J : List Int} (h : ∀ x, x ∈ I ↔ x ∈ J) : bitsOf n I = bitsOf n J := by
  unfold bitsOf
  refine List.map_congr_left fun k _ => ?_
  by_cases m : k ∈ I
  · rw [if_pos m, if_pos ((h k).mp m)]
  · rw [if_neg m, if_neg fun z => m ((h k).mpr z)]
theorem mem_twice {n : Nat} {L M W : List Int} (t : Trn n L) (lW : W.length = n) (hW : ∀ x ∈ W, x = 0 ∨ x = 1) {x : Int} : x ∈ imgs M (bitsOf n (imgs L W)) ↔ ∃ l, Lt n l ∧ hd W l = true ∧ gL M (gL L l) = x := by
  rw [mem_imgs (bits_len n _) (bits_01 n _)]
  constructor
  · rintro ⟨y, hy, h, rfl⟩
    rw [hd_bits (trn_imgs t lW) hy] at h
    obtain ⟨l, hl, h2, rfl⟩ := (mem_imgs lW hW).mp (of_decide_eq_true h)
    exact ⟨l, hl, h2, rfl⟩
  · rintro ⟨l, hl, h, rfl⟩
    exact ⟨_, t.lt hl, by rw [hd_bits (trn_imgs t lW) (t.lt hl)]; exact decide_eq_true ((mem_imgs lW hW).mpr ⟨l, hl, h, rfl⟩), rfl⟩
theorem bits_join {n : Nat} {L M W : List Int} (t : Trn n L) (lW : W.length = n) (hW : ∀ x ∈ W, x = 0 ∨ x = 1) : bitsOf n (imgs (joined L M) W) = bitsOf n (imgs M (bitsOf n (imgs L W))) := bits_ext fun x => by
  rw [mem_twice t lW hW, mem_imgs lW hW]
  constructor
  · rintro ⟨l, hl, h, rfl⟩
    exact ⟨l, hl, h, (gL_joined t hl).symm⟩
  · rintro ⟨l, hl, h, rfl⟩
    exact ⟨l, hl, h, gL_joined t hl⟩
theorem bits_back {n : Nat} {L B W : List Int} (t : Trn n L) (b : Bk n L B) (lW : W.length = n) (hW : ∀ x ∈ W, x = 0 ∨ x = 1) : bitsOf n (imgs B (bitsOf n (imgs L W))) = W := by
  refine List.ext_getElem ((bits_len n _).trans lW.symm) fun j h1 h2 => ?_
  have hj : j < n := by omega
  rw [← gD h1, ← gD h2, bits_get hj]
  have e : (1 + (j : Int)) ∈ imgs B (bitsOf n (imgs L W)) ↔ hd W (1 + (j : Int)) = true := by
    rw [mem_twice t lW hW]
    constructor
    · rintro ⟨l, hl, h, e⟩
      rw [b.inv l hl] at e
      rw [← e]
      exact h
    · intro h
      exact ⟨_, Lt.nat hj, h, b.inv _ (Lt.nat hj)⟩
  have hh : hd W (1 + (j : Int)) = decide (W.getD j 0 = 1) := by
    unfold hd
    rw [absI_pos (by omega), show (1 + (j : Int) - 1).toNat = j by omega, if_pos (by omega)]
  rw [hh, decide_eq_true_eq] at e
  rcases bit_of hW h2 with q | q
  · rw [if_neg (fun z => by have := e.mp z; omega), q]
  · rw [if_pos (e.mpr q), q]
theorem hd_led {n : Nat} {L W : List Int} (t : Trn n L) (lW : W.length = n) (hW : ∀ x ∈ W, x = 0 ∨ x = 1) {l : Int} (hl : Lt n l) : hd (bitsOf n (imgs L W)) (gL L l) = hd W l := by
  rw [hd_bits (trn_imgs t lW) (t.lt hl), Bool.eq_iff_iff, decide_eq_true_eq, mem_imgs lW hW]
  constructor
  · rintro ⟨m, hm, h, e⟩
    rw [← inj_gL t hm hl e]
    exact h
  · intro h
    exact ⟨l, hl, h, rfl⟩
theorem any_led {n : Nat} {L W C S : List Int} (t : Trn n L) (lW : W.length = n) (hW : ∀ x ∈ W, x = 0 ∨ x = 1) (hC : ∀ l ∈ C, Lt n l) (pm : S.Perm (C.map (gL L))) : S.any (hd (bitsOf n (imgs L W))) = C.any (hd W) := by
  rw [Bool.eq_iff_iff, List.any_eq_true, List.any_eq_true]
  constructor
  · rintro ⟨y, hy, h⟩
    obtain ⟨l, hl, rfl⟩ := List.mem_map.mp (pm.mem_iff.mp hy)
    exact ⟨l, hl, by rw [← hd_led t lW hW (hC l hl)]; exact h⟩
  · rintro ⟨l, hl, h⟩
    exact ⟨_, pm.mem_iff.mpr (List.mem_map.mpr ⟨l, hl, rfl⟩), by rw [hd_led t lW hW (hC l hl)]; exact h⟩
end Toy

-- part: CY1
namespace Toy
open PySem L2
/-! ### going on and on -/
theorem gL_inj {n : Nat} {L : List Int} (t : Trn n L) {x y : Int} (hx : Lt n x) (hy : Lt n y) (e : gL L x = gL L y) : x = y := by
  by_cases z : absI x = absI y
  · by_cases w : x = y
    · exact w
    · exfalso
      have e2 : y = -x := by unfold absI at z; split at z <;> split at z <;> omega
      rw [e2, gL_neg L hx.1] at e
      have := (t.lt hx).1
      unfold absI at this
      split at this <;> omega
  · exfalso
    have nd : ([x, y].map absI).Nodup := List.nodup_cons.mpr ⟨fun h => z (List.mem_singleton.mp h), List.nodup_cons.mpr ⟨fun h => (nomatch h), List.nodup_nil⟩⟩
    have := nd_gL t (C := [x, y]) (fun l hl => by rcases List.mem_cons.mp hl with rfl | hl; exact hx; rw [List.mem_singleton.mp hl]; exact hy) nd
    exact (List.nodup_cons.mp this).1 (by show absI (gL L x) ∈ [absI (gL L y)]; rw [e]; exact List.mem_cons_self)
def itL (L : List Int) : Nat → Int → Int
  | 0, l => l
  | k + 1, l => gL L (itL L k l)
theorem it_lt {n : Nat} {L : List Int} (t : Trn n L) {l : Int} (h : Lt n l) : ∀ k, Lt n (itL L k l)
  | 0 => h
  | k + 1 => t.lt (it_lt t h k)
theorem it_add (L : List Int) (l : Int) (j : Nat) : ∀ k, itL L (k + j) l = itL L k (itL L j l)
  | 0 => by rw [Nat.zero_add]; rfl
  | k + 1 => by
    rw [Nat.add_right_comm]
    show gL L (itL L (k + j) l) = gL L (itL L k (itL L j l))
    rw [it_add L l j k]
theorem it_neg {n : Nat} {L : List Int} (t : Trn n L) {l : Int} (h : Lt n l) : ∀ k, itL L k (-l) = -(itL L k l)
  | 0 => rfl
  | k + 1 => by
    show gL L (itL L k (-l)) = -(gL L (itL L k l))
    rw [it_neg t h k, gL_neg L (it_lt t h k).1]
theorem it_inj {n : Nat} {L : List Int} (t : Trn n L) {x y : Int} (hx : Lt n x) (hy : Lt n y) : ∀ {k : Nat}, itL L k x = itL L k y → x = y
  | 0, e => e
  | k + 1, e => it_inj t hx hy (k := k) (gL_inj t (it_lt t hx k) (it_lt t hy k) e)
/-- all letters -/
def lettersU (n : Nat) : List Int := up n ++ (up n).map fun x => -x
theorem letters_mem {n : Nat} {x : Int} (h : Lt n x) : x ∈ lettersU n := by
  unfold lettersU
  rw [List.mem_append]
  obtain ⟨h1, h2⟩ := h
  have hu : ∀ y : Int, 1 ≤ y → y ≤ n → y ∈ up n := fun y a b => by
    have := (up_mem (n := n) (x := y)).mpr ⟨a, b⟩
    exact this
  unfold absI at h1 h2
  split at h1
  · rename_i c
    rw [if_pos c] at h2
    exact .inr (List.mem_map.mpr ⟨-x, hu _ h1 h2, by omega⟩)
  · rename_i c
    rw [if_neg c] at h2
    exact .inl (hu _ h1 h2)
theorem letters_len (n : Nat) : (lettersU n).length = 2 * n := by
  unfold lettersU
  rw [List.length_append, List.length_map, up_len]
  omega
theorem len_leC {α : Type} [DecidableEq α] : ∀ {l m : List α}, l.Nodup → (∀ x ∈ l, x ∈ m) → l.length ≤ m.length
  | [], _, _, _ => Nat.zero_le _
  | a :: r, m, nd, h => by
    obtain ⟨n1, n2⟩ := List.nodup_cons.mp nd
    have ha := h a List.mem_cons_self
    have := len_leC (l := r) (m := m.erase a) n2 fun x hx => (List.mem_erase_of_ne (fun e => n1 (by rw [← e]; exact hx))).mpr (h x (List.mem_cons_of_mem _ hx))
    rw [List.length_erase_of_mem ha] at this
    have hp := List.length_pos_of_mem ha
    simp only [List.length_cons]
    omega
/-- it comes back -/
theorem it_back {n : Nat} {L : List Int} (t : Trn n L) {l : Int} (h : Lt n l) : ∃ p, 1 ≤ p ∧ p ≤ 2 * n ∧ itL L p l = l := by
  have two : ∃ i j, i < j ∧ j ≤ 2 * n ∧ itL L i l = itL L j l := by
    refine Classical.byContradiction fun no => ?_
    have nd : ((List.range (2 * n + 1)).map fun k => itL L k l).Nodup := by
      rw [List.nodup_iff_pairwise_ne, List.pairwise_map]
      refine (List.pairwise_lt_range (n := 2 * n + 1)).imp_of_mem fun {a b} ha hb hab e => no ⟨a, b, hab, ?_, e⟩
      have := List.mem_range.mp hb
      omega
    have := len_leC nd (m := lettersU n) fun x hx => by
      obtain ⟨k, _, rfl⟩ := List.mem_map.mp hx
      exact letters_mem (it_lt t h k)
    rw [List.length_map, List.length_range, letters_len] at this
    omega
  obtain ⟨i, j, hij, hj, e⟩ := two
  refine ⟨j - i, by omega, by omega, ?_⟩
  have e2 : itL L j l = itL L i (itL L (j - i) l) := by rw [← it_add]; congr 1; omega
  rw [e2] at e
  exact (it_inj t h (it_lt t h _) e).symm
/-- the way round from k -/
structure IsCyc (L : List Int) (k : Int) (c : List Int) : Prop where
  pos : 1 ≤ c.length
  at' : ∀ j, j < c.length → c[j]? = some (itL L j k)
  back : itL L c.length k = k
  first : ∀ j, 0 < j → j < c.length → itL L j k ≠ k
theorem IsCyc.uniq {L : List Int} {k : Int} {c d : List Int} (h : IsCyc L k c) (g : IsCyc L k d) : c = d := by
  have e : c.length = d.length := by
    rcases Nat.lt_trichotomy c.length d.length with z | z | z
    · exact absurd h.back (g.first _ h.pos z)
    · exact z
    · exact absurd g.back (h.first _ g.pos z)
  refine List.ext_getElem? fun j => ?_
  by_cases z : j < c.length
  · rw [h.at' j z, g.at' j (by omega)]
  · rw [List.getElem?_eq_none (by omega), List.getElem?_eq_none (by omega)]
theorem IsCyc.of_range {L : List Int} {k : Int} {p : Nat} (h1 : 1 ≤ p) (h2 : itL L p k = k) (h3 : ∀ j, 0 < j → j < p → itL L j k ≠ k) : IsCyc L k ((List.range p).map fun j => itL L j k) := by
  refine ⟨by rw [List.length_map, List.length_range]; exact h1, fun j hj => ?_, by rw [List.length_map, List.length_range]; exact h2, fun j a b => h3 j a (by rw [List.length_map, List.length_range] at b; exact b)⟩
  rw [List.length_map, List.length_range] at hj
  rw [List.getElem?_map, List.getElem?_range hj]
  rfl
theorem IsCyc.eq_range {L : List Int} {k : Int} {c : List Int} (h : IsCyc L k c) : c = (List.range c.length).map fun j => itL L j k :=
  h.uniq (IsCyc.of_range h.pos h.back h.first)
theorem it_mul (L : List Int) {k : Int} {p : Nat} (h : itL L p k = k) : ∀ q, itL L (q * p) k = k
  | 0 => by rw [Nat.zero_mul]; rfl
  | q + 1 => by
    rw [Nat.succ_mul, it_add, h]
    exact it_mul L h q
/-- how often it must go on to be back -/
theorem IsCyc.dvd {L : List Int} {k : Int} {c : List Int} (h : IsCyc L k c) (m : Nat) : itL L m k = k ↔ c.length ∣ m := by
  constructor
  · intro e
    have hp := h.pos
    have e2 : itL L (m % c.length) k = k := by
      have e3 : m = m % c.length + m / c.length * c.length := by rw [Nat.mul_comm]; exact (Nat.mod_add_div m c.length).symm
      have e4 := it_add L k (m / c.length * c.length) (m % c.length)
      rw [← e3, it_mul L h.back, e] at e4
      exact e4.symm
    refine Nat.dvd_of_mod_eq_zero ?_
    by_cases z : m % c.length = 0
    · exact z
    · exact absurd e2 (h.first _ (by omega) (Nat.mod_lt _ hp))
  · rintro ⟨q, rfl⟩
    rw [Nat.mul_comm]
    exact it_mul L h.back q
/-- rounds that meet all truths that move -/
structure Cov (n : Nat) (L : List Int) (Cs : List (List Int)) : Prop where
  cyc : ∀ c ∈ Cs, ∃ k, Lt n k ∧ IsCyc L k c
  all : ∀ l, Lt n l → gL L l = l ∨ ∃ c ∈ Cs, ∃ x ∈ c, absI x = absI l
theorem Cov.dvd {n : Nat} {L : List Int} {Cs : List (List Int)} (t : Trn n L) (o : Cov n L Cs) (m : Nat) : (∀ c ∈ Cs, c.length ∣ m) ↔ ∀ l, Lt n l → itL L m l = l := by
  constructor
  · intro h l hl
    rcases o.all l hl with e | ⟨c, hc, x, hx, ex⟩
    · have : ∀ m, itL L m l = l := fun m => by
        induction m with
        | zero => rfl
        | succ m ih => show gL L (itL L m l) = l; rw [ih, e]
      exact this m
    · obtain ⟨k, hk, cy⟩ := o.cyc c hc
      have e1 := (cy.dvd m).mpr (h c hc)
      obtain ⟨j, hj⟩ := List.getElem?_of_mem hx
      have hjl : j < c.length := (List.getElem?_eq_some_iff.mp hj).1
      have e2 := cy.at' j hjl
      rw [hj] at e2
      have e3 : x = itL L j k := Option.some.inj e2
      have hxl : Lt n x := by rw [e3]; exact it_lt t hk j
      have e4 : itL L m x = x := by
        rw [e3, ← it_add, Nat.add_comm, it_add, e1]
      have : l = x ∨ l = -x := by unfold absI at ex; split at ex <;> split at ex <;> omega
      rcases this with rfl | rfl
      · exact e4
      · rw [it_neg t hxl, e4]
  · intro h c hc
    obtain ⟨k, hk, cy⟩ := o.cyc c hc
    exact (cy.dvd m).mp (h k hk)
def lcmL (l : List Nat) : Nat := l.foldl Nat.lcm 1
theorem lcm_fold : ∀ (l : List Nat) (a m : Nat), l.foldl Nat.lcm a ∣ m ↔ a ∣ m ∧ ∀ x ∈ l, x ∣ m
  | [], a, m => ⟨fun h => ⟨h, fun x hx => nomatch hx⟩, fun h => h.1⟩
  | x :: r, a, m => by
    rw [List.foldl_cons, lcm_fold r (Nat.lcm a x) m, Nat.lcm_dvd_iff]
    constructor
    · rintro ⟨⟨h1, h2⟩, h3⟩
      exact ⟨h1, fun y hy => by rcases List.mem_cons.mp hy with rfl | hy; exact h2; exact h3 y hy⟩
    · rintro ⟨h1, h2⟩
      exact ⟨⟨h1, h2 x List.mem_cons_self⟩, fun y hy => h2 y (List.mem_cons_of_mem _ hy)⟩
theorem lcmL_dvd (l : List Nat) (m : Nat) : lcmL l ∣ m ↔ ∀ x ∈ l, x ∣ m := by
  unfold lcmL
  rw [lcm_fold]
  exact ⟨fun h => h.2, fun h => ⟨Nat.one_dvd m, h⟩⟩
theorem lcm_eq {a b : List Nat} (h : ∀ m, (∀ x ∈ a, x ∣ m) ↔ ∀ x ∈ b, x ∣ m) : lcmL a = lcmL b :=
  Nat.dvd_antisymm ((lcmL_dvd a _).mpr ((h _).mpr ((lcmL_dvd b _).mp (Nat.dvd_refl _)))) ((lcmL_dvd b _).mpr ((h _).mp ((lcmL_dvd a _).mp (Nat.dvd_refl _))))
/-- two sets of rounds of one turn have one number -/
theorem Cov.lcm {n : Nat} {L : List Int} {Cs Ds : List (List Int)} (t : Trn n L) (o : Cov n L Cs) (o2 : Cov n L Ds) : lcmL (Cs.map List.length) = lcmL (Ds.map List.length) :=
  lcm_eq fun m => by
    have e : ∀ Es : List (List Int), (∀ x ∈ Es.map List.length, x ∣ m) ↔ ∀ c ∈ Es, c.length ∣ m := fun Es => by
      constructor
      · exact fun h c hc => h _ (List.mem_map.mpr ⟨c, hc, rfl⟩)
      · intro h x hx
        obtain ⟨c, hc, rfl⟩ := List.mem_map.mp hx
        exact h c hc
    rw [e, e, o.dvd t, o2.dvd t]
/-- the way round from k, if there is one -/
noncomputable def cycL (L : List Int) (k : Int) : List Int := open Classical in if h : ∃ c, IsCyc L k c then Classical.choose h else []
theorem cycL_eq {L : List Int} {k : Int} {c : List Int} (h : IsCyc L k c) : cycL L k = c := by
  unfold cycL
  have e : ∃ c, IsCyc L k c := ⟨c, h⟩
  rw [dif_pos e]
  exact (Classical.choose_spec e).uniq h
/-- the truths that stand in rounds -/
def seenR (R : List (List Int)) : List Int := R.flatten.map absI
/-- the rounds of the first truths -/
noncomputable def rdL (L : List Int) : Nat → List (List Int)
  | 0 => []
  | t + 1 => open Classical in if ((t + 1 : Nat) : Int) ∉ seenR (rdL L t) ∧ gL L ((t + 1 : Nat) : Int) ≠ ((t + 1 : Nat) : Int) then rdL L t ++ [cycL L ((t + 1 : Nat) : Int)] else rdL L t
end Toy

-- part: B2
namespace Toy
open PySem L2
section
variable {P : Program} {w : World} {K : PySem.W.Frag} {mg : Str → Option Value} {base : Heap}
/-! ### still -/
abbrev sStill : Stmt := s_still
theorem scStill : FnScope ["many"] ["many"] (defScope sStill) := ⟨rfl, rfl, rfl, by decide +kernel, rfl, by decide +kernel, by decide +kernel⟩
def spStill : Sp := fun vs H Q _ => ∃ m, vs = [.int m] ∧ 1 ≤ m ∧ m ≤ 400 ∧ ∀ (a : Addr) (H' : Hp), Same H H' → H' a = some (.tup ((up m.toNat).map V.int)) → Q (.ref a) H'
theorem ok_still {f : Addr} {fd : FuncData} (F : Fun K "still" "still" sStill f fd) (B : Bl mg) : FnOk P w K mg base CX0 1 f fd ["many"] spStill := by
  refine F.ok scStill (fun vs H Q E h => ?_) (fun cdv A outer s H vs Q E hr h => ?_)
  · obtain ⟨m, rfl, _⟩ := h
    rfl
  · obtain ⟨m, rfl, m1, m4, q⟩ := h
    refine ⟨_, pss_one (ps_ret (pe_tupRg rfl (by rfl) B.tuple (prg_2 (by rfl) B.range pe_int (pe_op op_add (pv 0) pe_int)))), ?_⟩
    show tRet _ _ [some (.int m)] H
    refine ⟨_, rfl, m, 1, rfl, rfl, 1, m + 1, rfl, rfl, RgOk.of_le (by decide) (by omega) (by decide) (by omega), fun a ha => ?_⟩
    rw [up_rg m (by omega)]
    exact q a _ (Same.new ha) upd_same
/-! ### the table -/
def tabL (L : List Int) : List Int := (0 :: L) ++ L.reverse.map fun l => -l
theorem tab_at {n : Nat} {L : List Int} (ln : L.length = n) {l : Int} (h : Lt n l) : atI ((tabL L).map V.int) l = some (V.int (gL L l)) := by
  have lt : (tabL L).length = 2 * n + 1 := by
    unfold tabL
    rw [List.length_append, List.length_cons, List.length_map, List.length_reverse, ln]
    omega
  obtain ⟨j, hj, e⟩ := h.two
  have hj' : j < L.length := by omega
  unfold atI
  rw [List.length_map, lt]
  rcases e with rfl | rfl
  · have ei : ixN (2 * n + 1) (1 + (j : Int)) = some (1 + j) := by
      unfold ixN
      rw [if_pos (by omega), if_pos (by omega)]
      exact congrArg some (by omega)
    rw [ei]
    show ((tabL L).map V.int)[1 + j]? = _
    rw [List.getElem?_map, gL_nat, gD hj']
    unfold tabL
    rw [List.getElem?_append_left (by rw [List.length_cons]; omega), Nat.add_comm 1 j, List.getElem?_cons_succ, List.getElem?_eq_getElem hj']
    rfl
  · have ei : ixN (2 * n + 1) (-(1 + (j : Int))) = some (2 * n - j) := by
      unfold ixN
      rw [if_neg (by omega), if_pos (by omega)]
      exact congrArg some (by omega)
    rw [ei]
    show ((tabL L).map V.int)[2 * n - j]? = _
    rw [List.getElem?_map, gL_neg _ (Lt.nat hj).1, gL_nat, gD hj']
    unfold tabL
    have e2 : 2 * n - j - (0 :: L).length = n - 1 - j := by
      rw [List.length_cons, ln]
      omega
    rw [List.getElem?_append_right (by rw [List.length_cons]; omega), e2, List.getElem?_map, List.getElem?_reverse (by omega)]
    have e3 : L.length - 1 - (n - 1 - j) = j := by omega
    rw [e3, List.getElem?_eq_getElem hj']
    rfl
abbrev sTab : Stmt := s_table_of
abbrev nTab : List Str := ["turn", "letter"]
theorem scTab : FnScope nTab ["turn"] (defScope sTab) := ⟨rfl, rfl, rfl, by decide +kernel, rfl, by decide +kernel, by decide +kernel⟩
def spTab (K : PySem.W.Frag) : Sp := fun vs H Q _ => ∃ (a : Addr) (L : List Int), vs = [.ref a] ∧ SqT K H a (L.map V.int) ∧ L ≠ [] ∧ L.length ≤ 400 ∧ ∀ (b : Addr) (H' : Hp), Same H H' → H' b = some (.tup ((tabL L).map V.int)) → Q (.ref b) H'
def tNeg1 : TE := tUn (rU fun i => .int (-i)) (tVar 1)
theorem ok_tab {f : Addr} {fd : FuncData} (F : Fun K "table_of" "table_of" sTab f fd) (B : Bl mg) : FnOk P w K mg base CX0 1 f fd ["turn"] (spTab K) := by
  refine F.ok scTab (fun vs H Q E h => ?_) (fun cdv A outer s H vs Q E hr h => ?_)
  · obtain ⟨a, L, rfl, _⟩ := h
    rfl
  · obtain ⟨a, L, rfl, hs, ne, l4, q⟩ := h
    refine ⟨_, pss_one (ps_ret (pe_op op_catT (pe_op op_catT (pe_tup (pa_cons pe_int pa_nil)) (pv 0)) (pe_callTy call_tuple_of (by rfl) B.tuple (by decide +kernel) (pa_cons
        (pe_lc (own := [("letter", 1)]) (g := gName 1) (tt := tYes) (te := tNeg1) rfl scTab.nd (pi_tup (pe_revT (pv 0))) (blkOk_by (own := [("letter", 1)]) (N := nTab) (sc := defScope sTab) (by decide +kernel))
          (fun _ _ _ _ _ => pg_name (i := 1) scTab.nd rfl (Or.inl rfl)) (fun _ _ _ _ _ => pts_nil) (fun _ _ _ _ _ => pe_un un_neg (pv 1))) pa_nil)))), ?_⟩
    show tRet _ _ [some (.ref a), none] H
    walk_at "rd"
    refine ⟨by show 1 ≤ sizeLine; decide, fun p hp => ?_⟩
    have s1 : Same H (upd H p (.tup [V.int 0])) := Same.new hp
    have hp' : upd H p (.tup [V.int 0]) p = some (.tup [V.int 0]) := upd_same
    generalize upd H p (.tup [V.int 0]) = H1 at *
    have eZ : sizeLine = 16777216 := rfl
    have lne : L.map V.int ≠ [] := fun e => ne (List.map_eq_nil_iff.mp e)
    refine ⟨p, a, _, _, rfl, rfl, SqT.of hp', Same.sqt s1 hs, by decide, by rw [List.length_map, List.length_singleton]; omega, fun e => absurd e lne, fun _ p2 hp2 => ?_⟩
    have s2 : Same H1 (upd H1 p2 (.tup ([V.int 0] ++ L.map V.int))) := Same.new hp2
    have hp2' : upd H1 p2 (.tup ([V.int 0] ++ L.map V.int)) p2 = some (.tup ([V.int 0] ++ L.map V.int)) := upd_same
    generalize upd H1 p2 (.tup ([V.int 0] ++ L.map V.int)) = H2 at *
    have s12 := Same.trans s1 s2
    refine ⟨_, rfl, a, _, rfl, Same.sqt s12 hs, fun p3 hp3 => ?_⟩
    rw [← List.map_reverse]
    have s3 : Same H2 (upd H2 p3 (.tup (L.reverse.map V.int))) := Same.new hp3
    have hp3' : upd H2 p3 (.tup (L.reverse.map V.int)) p3 = some (.tup (L.reverse.map V.int)) := upd_same
    generalize upd H2 p3 (.tup (L.reverse.map V.int)) = H3 at *
    refine ⟨p3, rfl, ⟨_, SqT.of hp3'⟩, fun D hD => lc_tup (K := K) (a := p3) (xs := L.reverse.map V.int) (fun j Hj => Same H3 Hj ∧ Hj D = some (.lst (((L.reverse.take j).map fun l => -l).map V.int))) ⟨Same.new hD, upd_same⟩ (fun j Hj _ ⟨e, _⟩ => SqT.of (e _ _ hp3')) ?_ ?_⟩
    · rintro j x Hj hj ⟨ej, hDj⟩
      rw [List.getElem?_map] at hj
      cases ez : L.reverse[j]? with
      | none => rw [ez] at hj; cases hj
      | some z =>
      rw [ez] at hj
      cases hj
      have hjl : j < L.reverse.length := (List.getElem?_eq_some_iff.mp ez).1
      rw [List.length_reverse] at hjl
      refine ⟨rfl, yesT ?_⟩
      show tNeg1 [some (.ref a), some (.int z)] Hj _
      unfold tNeg1
      walk_at "rd"
      refine ⟨_, hDj, by rw [List.length_map, List.length_map, List.length_take]; exact small1000 (by omega), fun c o hc => ?_, ?_⟩
      · rw [upd_ne (ne_of_none hc hD)]
        exact ej c o hc
      · rw [upd_same, List.take_add_one, ez]
        simp only [Option.toList_some, List.map_append, List.map_cons, List.map_nil]
    rintro H5 ⟨s5, hD5⟩
    rw [List.length_map, List.take_length] at hD5
    walk_at "rd"
    refine ⟨D, _, rfl, .inl ⟨SqL.of hD5, fun p4 hp4 => ?_⟩⟩
    have s6 : Same H5 (upd H5 p4 (.tup ((L.reverse.map fun l => -l).map V.int))) := Same.new hp4
    have hp4' : upd H5 p4 (.tup ((L.reverse.map fun l => -l).map V.int)) p4 = some (.tup ((L.reverse.map fun l => -l).map V.int)) := upd_same
    generalize upd H5 p4 (.tup ((L.reverse.map fun l => -l).map V.int)) = H6 at *
    have s26 := Same.trans s3 (Same.trans s5 s6)
    have rne : (L.reverse.map fun l => -l).map V.int ≠ [] := fun e => ne (by simpa using e)
    refine ⟨p2, p4, _, _, rfl, rfl, SqT.of (s26 _ _ hp2'), SqT.of hp4', by simp, by simp only [List.length_append, List.length_map, List.length_reverse, List.length_singleton]; omega, fun e => absurd e rne, fun _ p5 hp5 => ?_⟩
    have e : [V.int 0] ++ L.map V.int ++ (L.reverse.map fun l => -l).map V.int = (tabL L).map V.int := by
      unfold tabL
      rw [List.map_append, List.map_cons]
      rfl
    rw [e]
    exact q p5 _ (Same.trans s12 (Same.trans s26 (Same.new hp5))) upd_same
abbrev sOn : Stmt := s_led_on
abbrev nOn : List Str := ["turn", "table", "letter"]
theorem scOn : FnScope nOn ["turn", "table"] (defScope sOn) := ⟨rfl, rfl, rfl, by decide +kernel, rfl, by decide +kernel, by decide +kernel⟩
def spOn (K : PySem.W.Frag) : Sp := fun vs H Q _ => ∃ (a b : Addr) (n : Nat) (L M : List Int), vs = [.ref a, .ref b] ∧ SqT K H a (L.map V.int) ∧ Trn n L ∧ n ≤ 400 ∧ SqT K H b ((tabL M).map V.int) ∧ M.length = n ∧ ∀ (c : Addr) (H' : Hp), Same H H' → H' c = some (.tup ((joined L M).map V.int)) → Q (.ref c) H'
def tTab (K : PySem.W.Frag) : TE := tOp (rIxT K) (tVar 1) (tVar 2)
theorem ok_on {f : Addr} {fd : FuncData} (F : Fun K "led_on" "led_on" sOn f fd) (B : Bl mg) : FnOk P w K mg base CX0 1 f fd ["turn", "table"] (spOn K) := by
  refine F.ok scOn (fun vs H Q E h => ?_) (fun cdv A outer s H vs Q E hr h => ?_)
  · obtain ⟨a, b, n, L, M, rfl, _⟩ := h
    rfl
  · obtain ⟨a, b, n, L, M, rfl, hs, t, n4, hb, lM, q⟩ := h
    refine ⟨_, pss_one (ps_ret (pe_callTy call_tuple_of (by rfl) B.tuple (by decide +kernel) (pa_cons
        (pe_lc (own := [("letter", 2)]) (g := gName 2) (tt := tYes) (te := tTab K) rfl scOn.nd (pi_tup (pv 0)) (blkOk_by (own := [("letter", 2)]) (N := nOn) (sc := defScope sOn) (by decide +kernel))
          (fun _ _ _ _ _ => pg_name (i := 2) scOn.nd rfl (Or.inl rfl)) (fun _ _ _ _ _ => pts_nil) (fun _ _ _ _ _ => pe_ix ix_tup (pv 1) (pv 2) (fun _ _ => rfl))) pa_nil))), ?_⟩
    show tRet _ _ [some (.ref a), some (.ref b), none] H
    walk_at "rd"
    have ll := t.len
    refine ⟨_, rfl, a, rfl, ⟨_, hs⟩, fun D hD => lc_tup (K := K) (a := a) (xs := L.map V.int) (fun j Hj => Same H Hj ∧ Hj D = some (.lst (((L.take j).map (gL M)).map V.int))) ⟨Same.new hD, upd_same⟩ (fun j Hj _ ⟨e, _⟩ => Same.sqt e hs) ?_ ?_⟩
    · rintro j x Hj hj ⟨ej, hDj⟩
      rw [List.getElem?_map] at hj
      cases ez : L[j]? with
      | none => rw [ez] at hj; cases hj
      | some z =>
      rw [ez] at hj
      cases hj
      have hjl : j < L.length := (List.getElem?_eq_some_iff.mp ez).1
      refine ⟨rfl, yesT ?_⟩
      show tTab K [some (.ref a), some (.ref b), some (.int z)] Hj _
      unfold tTab
      walk_at "rd"
      refine p_ixT (Same.sqt ej hb) (tab_at lM (t.bd (List.mem_of_getElem? ez))) ?_
      refine ⟨_, hDj, by rw [List.length_map, List.length_map, List.length_take]; exact small1000 (by omega), fun c o hc => ?_, ?_⟩
      · rw [upd_ne (ne_of_none hc hD)]
        exact ej c o hc
      · rw [upd_same, List.take_add_one, ez]
        simp only [Option.toList_some, List.map_append, List.map_cons, List.map_nil]
    rintro H5 ⟨s5, hD5⟩
    rw [List.length_map, List.take_length] at hD5
    walk_at "rd"
    refine ⟨D, _, rfl, .inl ⟨SqL.of hD5, fun c hc => ?_⟩⟩
    exact q c _ (Same.trans s5 (Same.new hc)) upd_same
/-! ### back -/
abbrev nLb : List Str := ["turn", "goals", "truth", "letter"]
def spLb (K : PySem.W.Frag) : Sp := fun vs H Q _ => ∃ (a : Addr) (n : Nat) (L : List Int), vs = [.ref a] ∧ SqT K H a (L.map V.int) ∧ Trn n L ∧ n ≤ 400 ∧ ∀ (b : Addr) (B : List Int) (H' : Hp), Bk n L B → Same H H' → H' b = some (.tup (B.map V.int)) → Q (.ref b) H'
abbrev sThen : Stmt := s_then
theorem scThen : FnScope ["one", "other"] ["one", "other"] (defScope sThen) := ⟨rfl, rfl, rfl, by decide +kernel, rfl, by decide +kernel, by decide +kernel⟩
def spThen (K : PySem.W.Frag) : Sp := fun vs H Q _ => ∃ n : Nat, 1 ≤ n ∧ n ≤ 400 ∧ ∃ (a b : Addr) (L M : List Int), vs = [.ref a, .ref b] ∧ SqT K H a (L.map V.int) ∧ Trn n L ∧ SqT K H b (M.map V.int) ∧ Trn n M ∧ ∀ (c : Addr) (H' : Hp), Same H H' → H' c = some (.tup ((joined L M).map V.int)) → Q (.ref c) H'
theorem ok_then {f fR fO fT : Addr} {fd fdR fdO fdT : FuncData} (F : Fun K "then" "then" sThen f fd) (B : Bl mg) (R : Df K mg "refuse_no_turn" sRef ["thing"] fR fdR) (GR : FnOk P w K mg base CX0 4 fR fdR ["thing"] (spRef K)) (O : Df K mg "led_on" sOn ["turn", "table"] fO fdO) (T : Df K mg "table_of" sTab ["turn"] fT fdT) :
    FnOk P w K mg base CX0 5 f fd ["one", "other"] (spThen K) := by
  have GO : FnOk P w K mg base CX0 1 fO fdO ["turn", "table"] (spOn K) := ok_on O.F B
  have GTb : FnOk P w K mg base CX0 1 fT fdT ["turn"] (spTab K) := ok_tab T.F B
  refine F.ok scThen (fun vs H Q E h => ?_) (fun cdv A outer s H vs Q E hr h => ?_)
  · obtain ⟨n, h1, h4, a, b, L, M, rfl, _⟩ := h
    rfl
  · obtain ⟨n, h1, h4, a, b, L, M, rfl, ha, t, hb, u, q⟩ := h
    refine ⟨_, pss_cons (ps_expr (pe_call GR hr rfl R.g R.F.kp R.b .nil pass0 (pa_cons (pv 0) pa_nil))) (pss_cons (ps_expr (pe_call GR hr rfl R.g R.F.kp R.b .nil pass0 (pa_cons (pv 1) pa_nil)))
      (pss_cons (ps_if (pt_cmpR op_ne (pe_callB call_len_seq (by rfl) B.len PySem.boot_len (pa_cons (pv 0) pa_nil)) (pe_callB call_len_seq (by rfl) B.len PySem.boot_len (pa_cons (pv 1) pa_nil)) (nomark _)) (pss_one ps_never) pss_nil)
      (pss_one (ps_ret (pe_call GO (hr.mono (by decide)) rfl O.g O.F.kp O.b .nil pass0 (pa_cons (pv 0) (pa_cons (pe_call GTb (hr.mono (by decide)) rfl T.g T.F.kp T.b .nil pass0 (pa_cons (pv 1) pa_nil)) pa_nil))))))), ?_⟩
    show tSeq _ _ _ [some (.ref a), some (.ref b)] H
    refine seq_gen (fun σ' H' => σ' = [some (.ref a), some (.ref b)] ∧ Same H H') (fun nx hnx => ?_) ?_
    · walk_at "rd"
      exact ⟨a, n, L, rfl, ha, t, h1, h4, fun H' s' => hnx _ _ ⟨rfl, s'⟩⟩
    rintro σ' H1 ⟨rfl, s1⟩
    refine seq_gen (fun σ' H' => σ' = [some (.ref a), some (.ref b)] ∧ Same H H') (fun nx hnx => ?_) ?_
    · walk_at "rd"
      exact ⟨b, n, M, rfl, Same.sqt s1 hb, u, h1, h4, fun H' s' => hnx _ _ ⟨rfl, Same.trans s1 s'⟩⟩
    rintro σ' H2 ⟨rfl, s2⟩
    have ha2 := Same.sqt s2 ha
    have hb2 := Same.sqt s2 hb
    walk_at "rd"
    refine ⟨a, _, rfl, .inr ha2, b, _, rfl, .inr hb2, rfl, ?_⟩
    rw [List.length_map, List.length_map, t.len, u.len, decide_eq_true rfl]
    refine ⟨false, rfl, iteF ?_⟩
    refine ⟨b, M, rfl, hb2, fun e => by have := u.len; rw [e] at this; simp at this; omega, by rw [u.len]; exact h4, fun c H3 s3 hc => ?_⟩
    exact ⟨a, c, n, L, M, rfl, Same.sqt s3 ha2, t, h4, SqT.of hc, u.len, fun e H4 s4 he => q e H4 (Same.trans s2 (Same.trans s3 s4)) he⟩
def spBk (K : PySem.W.Frag) : Sp := fun vs H Q _ => ∃ n : Nat, 1 ≤ n ∧ n ≤ 400 ∧ ∃ (a : Addr) (L : List Int), vs = [.ref a] ∧ SqT K H a (L.map V.int) ∧ Trn n L ∧ ∀ (b : Addr) (B : List Int) (H' : Hp), Bk n L B → Same H H' → H' b = some (.tup (B.map V.int)) → Q (.ref b) H'
end
end Toy

-- part: DU1
/-! d.update(e), dicts of numbers and texts as keys -/
namespace Toy
open PySem PySem.Spec PyProof.Rows L2
def rUpdD : V → List V → Hp → VK → Prop := fun x vs H Q => ∃ (d e : Addr) (kvs more : List (Key × V)), x = .ref d ∧ vs = [.ref e] ∧ H d = some (.dK kvs) ∧ H e = some (.dK more) ∧ d ≠ e ∧ kvs.length + more.length ≤ sizeLine ∧ Q .non (upd H d (.dK (mergeK kvs more)))
section
variable {X : Cx}
theorem mt_update : MtR X "dict.update" rUpdD := by
  intro pins s σ H x xs v us Q I rx rxs h
  obtain ⟨d, e, kvs, more, rfl, rfl, hd, he, ne, hz, q⟩ := h
  cases rx
  obtain ⟨u, rfl, ru⟩ := rxs.one
  obtain rfl : u = Value.ref e := ru
  obtain ⟨z1, lo1, vs1, rel1, dd1⟩ := dk_rd I.hok (.inl hd)
  obtain ⟨z2, lo2, vs2, rel2, dd2⟩ := dk_rd I.hok (.inl he)
  refine call_meetsIn PySem.F.slot_dict_update dd1.typeIs PySem.F.entry_dict_update (PySem.F.args_dict_update_2 _ _) (meets_dict_update (mixKind X.prog X.w) d e ne lo2)
    ⟨vs1, vs2, dd1, dd2, by rw [← rel1.length, ← rel2.length]; exact hz, fun h' hm _ hs => ?_⟩
  have rel := KV.merge rel2 rel1
  have hl : (mergeK kvs more).length ≤ sizeLine := by
    rw [rel.length]
    have := merged_length_le vs1 vs2
    rw [← rel1.length, ← rel2.length] at this
    omega
  obtain ⟨o', ho', _⟩ := Heap.dictOf_iff.mp hm
  exact ⟨.non, upd H d (.dK (mergeK kvs more)), I.write (e := d) (t' := s.toks) (by rw [hd]; trivial) (.inl rfl) (fun b u hb hu => (hs.2 b hb).trans hu) ⟨_, ho'⟩ (show ObjOk X.prog X.w _ _ _ (.dK (mergeK kvs more)) from ⟨hl, lo1, _, rel, hm⟩), rfl, q⟩
end
theorem val_mergeU : ∀ (more kvs : List (Key × V)) (k : Key), (∃ kv ∈ more, kv.1 = k ∧ valV (mergeK kvs more) k = some kv.2) ∨ ((∀ kv ∈ more, kv.1 ≠ k) ∧ valV (mergeK kvs more) k = valV kvs k)
  | [], kvs, k => .inr ⟨fun _ h => (nomatch h), rfl⟩
  | kv :: r, kvs, k => by
    show (∃ x ∈ kv :: r, x.1 = k ∧ valV (mergeK (putK kvs kv.1 kv.2) r) k = some x.2) ∨ ((∀ x ∈ kv :: r, x.1 ≠ k) ∧ valV (mergeK (putK kvs kv.1 kv.2) r) k = valV kvs k)
    rcases val_mergeU r (putK kvs kv.1 kv.2) k with ⟨x, hx, e1, e2⟩ | ⟨h1, h2⟩
    · exact .inl ⟨x, List.mem_cons_of_mem _ hx, e1, e2⟩
    · rw [valV_put] at h2
      by_cases e : k = kv.1
      · rw [if_pos e] at h2
        exact .inl ⟨kv, List.mem_cons_self, e.symm, h2⟩
      · rw [if_neg e] at h2
        refine .inr ⟨fun x hx => ?_, h2⟩
        rcases List.mem_cons.mp hx with rfl | hx
        · exact fun z => e z.symm
        · exact h1 x hx
theorem has_iff {kvs : List (Key × V)} {k : Key} : (valV kvs k).isSome = true ↔ ∃ kv ∈ kvs, kv.1 = k := by
  rw [← valV_any, List.any_eq_true]
  constructor
  · rintro ⟨x, h1, h2⟩
    exact ⟨x, h1, of_decide_eq_true h2⟩
  · rintro ⟨x, h1, h2⟩
    exact ⟨x, h1, decide_eq_true h2⟩
theorem has_merge {kvs more : List (Key × V)} {k : Key} : (valV (mergeK kvs more) k).isSome = true ↔ (valV kvs k).isSome = true ∨ (valV more k).isSome = true := by
  rcases val_mergeU more kvs k with ⟨kv, h1, h2, h3⟩ | ⟨h1, h2⟩
  · rw [h3]
    exact ⟨fun _ => .inr (has_iff.mpr ⟨kv, h1, h2⟩), fun _ => rfl⟩
  · rw [h2]
    refine ⟨.inl, fun h => h.elim id fun h => ?_⟩
    obtain ⟨x, hx, e⟩ := has_iff.mp h
    exact absurd e (h1 x hx)
theorem has_put {kvs : List (Key × V)} {k j : Key} {y : V} : (valV (putK kvs k y) j).isSome = true ↔ j = k ∨ (valV kvs j).isSome = true := by
  rw [valV_put]
  by_cases e : j = k
  · rw [if_pos e]
    exact ⟨fun _ => .inl e, fun _ => rfl⟩
  · rw [if_neg e]
    exact ⟨.inr, fun h => h.resolve_left e⟩
end Toy

-- part: CY2
namespace Toy
open PySem L2
section
variable {X : Cx}
def rLcm : List V → Hp → VK → Prop := fun vs H Q => ∃ a b : Nat, vs = [.int (a : Int), .int (b : Int)] ∧ a < 2 ^ 64 ∧ b < 2 ^ 64 ∧ Q (.int ((Nat.lcm a b : Nat) : Int)) H
theorem call_lcm : CallR X (.builtin "math.lcm") rLcm := by
  intro pins s σ H vs us Q I r h
  obtain ⟨a, b, rfl, ha, hb, q⟩ := h
  obtain ⟨t, u, rfl⟩ := Vals.int2 r
  refine PySem.W.mc_lcm (by rw [Int.natAbs_natCast]; exact ha) (by rw [Int.natAbs_natCast]; exact hb) fun _ => ?_
  rw [Int.natAbs_natCast, Int.natAbs_natCast]
  exact ⟨.int _, H, I.tok _, ⟨_, rfl⟩, q⟩
end
section
variable {P : Program} {w : World} {K : PySem.W.Frag} {mg : Str → Option Value} {base : Heap}
/-! ### _round_of -/
abbrev sRo : Stmt := s__round_of
abbrev nRo : List Str := ["turn", "first", "letters", "letter"]
theorem scRo : FnScope nRo ["turn", "first"] (defScope sRo) := ⟨rfl, rfl, rfl, by decide +kernel, rfl, by decide +kernel, by decide +kernel⟩
def cycTo (L : List Int) (k : Int) (j : Nat) : List Int := (List.range j).map fun i => itL L i k
theorem cycTo_succ (L : List Int) (k : Int) (j : Nat) : cycTo L k (j + 1) = cycTo L k j ++ [itL L j k] := by unfold cycTo; rw [List.range_succ, List.map_append]; rfl
theorem cycTo_len (L : List Int) (k : Int) (j : Nat) : (cycTo L k j).length = j := by unfold cycTo; rw [List.length_map, List.length_range]
def lenLC (H : Hp) (l : Addr) : Nat := match H l with
  | some (.lst xs) => xs.length
  | _ => 0
theorem lenLC_eq {H : Hp} {l : Addr} {xs : List V} (h : H l = some (.lst xs)) : lenLC H l = xs.length := by unfold lenLC; rw [h]
theorem Same.noneC {H H' : Hp} {a : Addr} (e : Same H H') (h : H' a = Option.none) : H a = Option.none := by
  cases z : H a with
  | none => rfl
  | some o =>
    have := e _ _ z
    rw [h] at this
    cases this
theorem Same.uplC {H H' : Hp} {a : Addr} {o : HO} (e : Same H H') (n : H a = Option.none) : Same H (L2.upd H' a o) := by
  intro c u h
  by_cases z : c = a
  · subst z
    rw [n] at h
    cases h
  · rw [upd_ne z]
    exact e _ _ h
def spRo (K : PySem.W.Frag) : Sp := fun vs H Q _ => ∃ (a : Addr) (L : List Int) (k : Int) (n : Nat), vs = [.ref a, .int k] ∧ SqT K H a (L.map V.int) ∧ Trn n L ∧ n ≤ 400 ∧ Lt n k ∧ ∀ (c : List Int) (b : Addr) (H' : Hp), IsCyc L k c → c.length ≤ 2 * n → Same H H' → H' b = some (.tup (c.map V.int)) → Q (.ref b) H'
theorem ok_ro {f fG : Addr} {fd fdG : FuncData} (F : Fun K "_round_of" "_round_of" sRo f fd) (B : Bl mg) (GO : Df K mg "goes" sGoes ["turn", "letter"] fG fdG) (GG : FnOk P w K mg base CX0 1 fG fdG ["turn", "letter"] (spGoes K)) : FnOk P w K mg base CX0 2 f fd ["turn", "first"] (spRo K) := by
  refine F.ok scRo (fun vs H Q E h => ?_) (fun cdv A outer s H vs Q E hr h => ?_)
  · obtain ⟨a, L, k, n, rfl, _⟩ := h
    rfl
  · obtain ⟨a, L, k, n, rfl, hs, t, n4, hk, q⟩ := h
    refine ⟨_, pss_cons (ps_set (i := 2) scRo.nd rfl (Or.inl rfl) (pe_lst (pa_cons (pv 1) pa_nil)))
      (pss_cons (ps_set (i := 3) scRo.nd rfl (Or.inl rfl) (pe_call GG hr rfl GO.g GO.F.kp GO.b .nil pass0 (pa_cons (pv 0) (pa_cons (pv 1) pa_nil))))
      (pss_cons (ps_while PassesOwn.never (pt_cmpR op_ne (pv 3) (pv 1) (nomark _)) (pss_cons (ps_expr (pe_bm PySem.F.plainAttrs_list PySem.F.slot_list_append PySem.F.type_list_append mt_append (pv 2) (pa_cons (pv 3) pa_nil)))
      (pss_one (ps_set (i := 3) scRo.nd rfl (Or.inl rfl) (pe_call GG hr rfl GO.g GO.F.kp GO.b .nil pass0 (pa_cons (pv 0) (pa_cons (pv 3) pa_nil)))))))
      (pss_one (ps_ret (pe_callTy (T := "tuple") call_tuple_of (by rfl) B.tuple (by decide +kernel) (pa_cons (pv 2) pa_nil)))))), ?_⟩
    show tSeq _ _ _ [some (.ref a), some (.int k), none, none] H
    have eZ : sizeLine = 16777216 := rfl
    have lL := t.len
    have go : ∀ {x : Int} {H' : Hp} {R : VK}, Same H H' → Lt n x → R (.int (gL L x)) H' → spGoes K [.ref a, .int x] H' R E0 := fun {x H' R} s' hx hR => ⟨a, L, x, rfl, Same.sqt s' hs, hx.1, by rw [lL]; exact hx.2, hR⟩
    obtain ⟨p, p1, p2, pb⟩ := it_back t hk
    refine seq_gen (fun σ' H' => ∃ l : Addr, σ' = [some (.ref a), some (.int k), some (.ref l), none] ∧ Same H H' ∧ H l = none ∧ H' l = some (.lst ((cycTo L k 1).map V.int))) (fun nx hnx => ?_) ?_
    · walk_at "rd"
      exact ⟨by show 1 ≤ sizeLine; decide, fun l hl => hnx _ _ ⟨l, rfl, Same.new hl, hl, upd_same⟩⟩
    rintro σ' H1 ⟨l, rfl, s1, nl, hl⟩
    refine seq_gen (fun σ' H' => σ' = [some (.ref a), some (.int k), some (.ref l), some (.int (itL L 1 k))] ∧ H' = H1) (fun nx hnx => ?_) ?_
    · walk_at "rd"
      exact go s1 hk (hnx _ _ ⟨rfl, rfl⟩)
    rintro σ' H2 ⟨rfl, rfl⟩
    refine seq_gen (fun σ' H' => ∃ j : Nat, σ' = [some (.ref a), some (.int k), some (.ref l), some (.int k)] ∧ Same H H' ∧ H' l = some (.lst ((cycTo L k j).map V.int)) ∧ 1 ≤ j ∧ j ≤ p ∧ itL L j k = k ∧ ∀ i, 0 < i → i < j → itL L i k ≠ k) (fun nx hnx => ?_) ?_
    · refine while_by (Pv := fun σ' H' => ∃ j : Nat, σ' = [some (.ref a), some (.int k), some (.ref l), some (.int (itL L j k))] ∧ Same H H' ∧ H' l = some (.lst ((cycTo L k j).map V.int)) ∧ 1 ≤ j ∧ j ≤ p ∧ ∀ i, 0 < i → i < j → itL L i k ≠ k) (μ := fun _ H' => p - lenLC H' l) ⟨1, rfl, s1, hl, Nat.le_refl _, p1, fun i a b => absurd b (by omega)⟩ ?_ ?_
      · rintro σ H3 ⟨j, rfl, s3, hl3, j1, jp, nb⟩
        walk_at "rd"
        by_cases c : itL L j k = k
        · exact ⟨rfl, false, by rw [decide_eq_true (by rw [c])]; rfl, iteF (hnx _ _ ⟨j, by rw [c], s3, hl3, j1, jp, c, nb⟩)⟩
        · have jlt : j < p := Nat.lt_of_le_of_ne jp fun z => c (by rw [z]; exact pb)
          have lc := cycTo_len L k j
          refine ⟨rfl, true, by rw [decide_eq_false fun z => c (V.int.inj z)]; rfl, iteT ⟨.inl ⟨rfl, _, SqL.of hl3⟩, l, _, _, rfl, rfl, hl3, by rw [List.length_map]; omega, ?_⟩⟩
          have s4 : Same H (upd H3 l (.lst ((cycTo L k j).map V.int ++ [V.int (itL L j k)]))) := Same.uplC s3 nl
          refine go s4 (it_lt t hk j) ⟨⟨j + 1, rfl, s4, by rw [upd_same, cycTo_succ, List.map_append]; rfl, by omega, by omega, fun i a b => ?_⟩, ?_⟩
          · by_cases z : i = j
            · rw [z]; exact c
            · exact nb i a (by omega)
          · rw [lenLC_eq hl3, lenLC_eq upd_same, List.length_append, List.length_map, lc]
            show p - (j + 1) < p - j
            omega
      · rintro σ H3 R R' hR ⟨v, hv, v', hv', sc, c, e, r⟩
        exact ⟨v, hv, v', hv', sc, c, e, hR _ _ r⟩
    rintro σ' H3 ⟨j, rfl, s3, hl3, j1, jp, bk, nb⟩
    walk_at "rd"
    refine ⟨l, _, rfl, .inl ⟨SqL.of hl3, fun b hb => ?_⟩⟩
    exact q (cycTo L k j) b _ (IsCyc.of_range j1 bk nb) (by rw [cycTo_len]; omega) (Same.trans s3 (Same.new hb)) upd_same
theorem TupsAt.updC {H : Hp} {a : Addr} {o o' : HO} (h : H a = some o) (nt : ∀ ys, o ≠ .tup ys) {bs : List Addr} {cs : List (List Int)} (t : TupsAt H bs cs) : TupsAt (L2.upd H a o') bs cs := Paired.mapP t fun b c e => by
  rw [upd_ne (fun z => by subst z; rw [h] at e; exact nt _ (Option.some.inj e))]
  exact e
theorem pairAppC {α β : Type} {R : α → β → Prop} : ∀ {a c : List α} {b d : List β}, Paired R a b → Paired R c d → Paired R (a ++ c) (b ++ d)
  | _, _, _, _, .nil, h => h
  | _, _, _, _, .cons x y, h => .cons x (pairAppC y h)
theorem length_mergeK : ∀ (more kvs : List (Key × V)), (mergeK kvs more).length ≤ kvs.length + more.length
  | [], kvs => Nat.le_refl _
  | kv :: r, kvs => by
    have h1 := length_mergeK r (putK kvs kv.1 kv.2)
    have h2 := length_putK kvs kv.1 kv.2
    show (mergeK (putK kvs kv.1 kv.2) r).length ≤ kvs.length + (r.length + 1)
    omega
theorem rdL_in {L : List Int} {t : Nat} {c : List Int} (h1 : ((t + 1 : Nat) : Int) ∉ seenR (rdL L t)) (h2 : gL L ((t + 1 : Nat) : Int) ≠ ((t + 1 : Nat) : Int)) (hc : IsCyc L ((t + 1 : Nat) : Int) c) : rdL L (t + 1) = rdL L t ++ [c] := by
  rw [← cycL_eq hc]
  conv => lhs; unfold rdL
  exact if_pos (And.intro h1 h2)
theorem rdL_out {L : List Int} {t : Nat} (h : ((t + 1 : Nat) : Int) ∈ seenR (rdL L t) ∨ gL L ((t + 1 : Nat) : Int) = ((t + 1 : Nat) : Int)) : rdL L (t + 1) = rdL L t := by
  conv => lhs; unfold rdL
  exact if_neg fun z => h.elim z.1 z.2
theorem seenR_app (R : List (List Int)) (c : List Int) (x : Int) : x ∈ seenR (R ++ [c]) ↔ x ∈ seenR R ∨ x ∈ c.map absI := by
  unfold seenR
  rw [List.flatten_append, List.map_append, List.mem_append]
  simp only [List.flatten_cons, List.flatten_nil, List.append_nil]
theorem IsCyc.lt {n : Nat} {L : List Int} (t : Trn n L) {k : Int} (hk : Lt n k) {c : List Int} (h : IsCyc L k c) {x : Int} (hx : x ∈ c) : Lt n x := by
  obtain ⟨j, hj⟩ := List.getElem?_of_mem hx
  have hjl : j < c.length := (List.getElem?_eq_some_iff.mp hj).1
  have e2 := h.at' j hjl
  rw [hj] at e2
  rw [Option.some.inj e2]
  exact it_lt t hk j
/-! ### rounds -/
abbrev sRd : Stmt := s_rounds
abbrev nRd : List Str := ["turn", "found", "seen", "truth", "letters", "letter"]
theorem scRd : FnScope nRd ["turn"] (defScope sRd) := ⟨rfl, rfl, rfl, by decide +kernel, rfl, by decide +kernel, by decide +kernel⟩
def tAb : TE := tCB (fun xs H Q => ∃ i, xs = [.int i] ∧ Q (.int (if i < 0 then -i else i)) H) (tCons (tVar 5) tNil)
def spRd (K : PySem.W.Frag) : Sp := fun vs H Q _ => ∃ (a : Addr) (L : List Int) (n : Nat), vs = [.ref a] ∧ SqT K H a (L.map V.int) ∧ Trn n L ∧ 1 ≤ n ∧ n ≤ 400 ∧ ∀ (l : Addr) (bs : List Addr) (H' : Hp), Same H H' → H l = none → H' l = some (.lst (bs.map V.ref)) → TupsAt H' bs (rdL L n) → Q (.ref l) H'
theorem ok_rd {f fG fR fRo : Addr} {fd fdG fdR fdRo : FuncData} (F : Fun K "rounds" "rounds" sRd f fd) (B : Bl mg) (RR : Df K mg "refuse_no_turn" sRef ["thing"] fR fdR) (GR : FnOk P w K mg base CX0 4 fR fdR ["thing"] (spRef K)) (GO : Df K mg "goes" sGoes ["turn", "letter"] fG fdG) (GG : FnOk P w K mg base CX0 1 fG fdG ["turn", "letter"] (spGoes K)) (RO : Df K mg "_round_of" sRo ["turn", "first"] fRo fdRo) (GRo : FnOk P w K mg base CX0 2 fRo fdRo ["turn", "first"] (spRo K)) : FnOk P w K mg base CX0 5 f fd ["turn"] (spRd K) := by
  refine F.ok scRd (fun vs H Q E h => ?_) (fun cdv A outer s H vs Q E hr h => ?_)
  · obtain ⟨a, L, n, rfl, _⟩ := h
    rfl
  · obtain ⟨a, L, n, rfl, hs, t, n1, n4, q⟩ := h
    have hu := hu_of hr
    refine ⟨_, pss_cons (ps_expr (pe_call GR (hr.mono (by decide)) rfl RR.g RR.F.kp RR.b .nil pass0 (pa_cons (pv 0) pa_nil)))
      (pss_cons (ps_set (i := 1) scRd.nd rfl (Or.inl rfl) (pe_lst pa_nil))
      (pss_cons (ps_set (i := 2) scRd.nd rfl (Or.inl rfl) (pe_dnewK))
      (pss_cons (ps_for PassesOwn.never rfl (pi_range2 rfl B.range (pa_cons (pe_int) (pa_cons (pe_op op_add (pe_callB call_len_seq (by rfl) B.len PySem.boot_len (pa_cons (pv 0) pa_nil)) (pe_int)) pa_nil))) (pg_name (i := 3) scRd.nd rfl (Or.inl rfl)) (pss_one (ps_if (PW.pt (pw_and (pt_cmp (pc_dnotin hu (pv 3) (pv 2))) (pw_and1 (pt_cmpR op_ne (pe_call GG (hr.mono (by decide)) rfl GO.g GO.F.kp GO.b .nil pass0 (pa_cons (pv 0) (pa_cons (pv 3) pa_nil))) (pv 3) (nomark _))))) (pss_cons (ps_set (i := 4) scRd.nd rfl (Or.inl rfl) (pe_call GRo (hr.mono (by decide)) rfl RO.g RO.F.kp RO.b .nil pass0 (pa_cons (pv 0) (pa_cons (pv 3) pa_nil))))
      (pss_cons (ps_expr (pe_bm PySem.F.plainAttrs_list PySem.F.slot_list_append PySem.F.type_list_append mt_append (pv 1) (pa_cons (pv 4) pa_nil)))
      (pss_one (ps_expr (pe_bm PySem.F.plainAttrs_dict PySem.F.slot_dict_update PySem.F.type_dict_update mt_update (pv 2) (pa_cons (pe_dc (own := [("letter", 5)]) (g := gName 5) (tt := tYes) (tk := tAb) (tv := tC (V.bl true)) rfl scRd.nd (pi_tup (pv 4)) (blkOk_by (own := [("letter", 5)]) (N := nRd) (sc := defScope sRd) (by decide +kernel)) (fun _ _ _ _ _ => pg_name (i := 5) scRd.nd rfl (Or.inl rfl)) (fun _ _ _ _ _ => pts_nil) (fun _ _ _ _ _ => pe_callB call_abs (by rfl) B.abs (by decide +kernel) (pa_cons (pv 5) pa_nil)) (fun _ _ _ _ _ => pe_bl)) pa_nil)))))) pss_nil)))
      (pss_one (ps_ret (pv 1)))))), ?_⟩
    show tSeq _ _ _ [some (.ref a), none, none, none, none, none] H
    have eZ : sizeLine = 16777216 := rfl
    have lL := t.len
    refine seq_gen (fun σ' H' => σ' = [some (.ref a), none, none, none, none, none] ∧ Same H H') (fun nx hnx => ?_) ?_
    · walk_at "rd"
      exact ⟨a, n, L, rfl, hs, t, n1, n4, fun H' s' => hnx _ _ ⟨rfl, s'⟩⟩
    rintro σ' H1 ⟨rfl, s1⟩
    refine seq_gen (fun σ' H' => ∃ l : Addr, σ' = [some (.ref a), some (.ref l), none, none, none, none] ∧ Same H H' ∧ H l = none ∧ H' l = some (.lst [])) (fun nx hnx => ?_) ?_
    · walk_at "rd"
      exact ⟨Nat.zero_le _, fun l hl => hnx _ _ ⟨l, rfl, Same.trans s1 (Same.new hl), Same.noneC s1 hl, upd_same⟩⟩
    rintro σ' H2 ⟨l, rfl, s2, nl, hl⟩
    refine seq_gen (fun σ' H' => ∃ d : Addr, σ' = [some (.ref a), some (.ref l), some (.ref d), none, none, none] ∧ Same H H' ∧ H d = none ∧ H' l = some (.lst []) ∧ H' d = some (.dK [])) (fun nx hnx => ?_) ?_
    · walk_at "rd"
      exact fun d hd => hnx _ _ ⟨d, rfl, Same.trans s2 (Same.new hd), Same.noneC s2 hd, Same.new hd _ _ hl, upd_same⟩
    rintro σ' H3 ⟨d, rfl, s3, nd, hl3, hd3⟩
    have nld : l ≠ d := fun z => by rw [z, hd3] at hl3; cases hl3
    refine seq_gen (fun σ' H' => ∃ (l3 l4 : Option V) (bs : List Addr), σ' = [some (.ref a), some (.ref l), some (.ref d), l3, l4, none] ∧ Same H H' ∧ H' l = some (.lst (bs.map V.ref)) ∧ TupsAt H' bs (rdL L n)) (fun nx hnx => ?_) ?_
    · refine ⟨_, rfl, _, _, rfl, .inr (Same.sqt s3 hs), _, _, rfl, rfl, 1, (n : Int) + 1, ?_, ?_, ?_⟩
      · rw [List.length_map, lL]
      · omega
      rw [show ((n : Int) + 1 - 1).toNat = n by omega]
      refine for_range (lo := 1) (n := n) (g := gName 3) (fun i σ H' => ∃ (l3 l4 : Option V) (bs : List Addr) (kvs : List (Key × V)), σ = [some (.ref a), some (.ref l), some (.ref d), l3, l4, none] ∧ Same H H' ∧ H' l = some (.lst (bs.map V.ref)) ∧ TupsAt H' bs (rdL L i) ∧ H' d = some (.dK kvs) ∧ (∀ x : Int, (valV kvs (.inl x)).isSome = true ↔ x ∈ seenR (rdL L i)) ∧ kvs.length ≤ 800 * i ∧ (rdL L i).length ≤ i) ⟨_, _, [], [], rfl, s3, hl3, Paired.nil, hd3, fun x => ⟨fun h => (nomatch h), fun h => (nomatch h)⟩, by decide, Nat.le_refl _⟩ ?_ ?_
      · rintro i x0 H4 hin ⟨l3, l4, bs, kvs, rfl, s4, hl4, tb, hd4, hk, kn, rn⟩
        walk_at "rd"
        have e1 : (1 : Int) + (i : Int) = ((i + 1 : Nat) : Int) := by omega
        rw [e1]
        have hlt : Lt n ((i + 1 : Nat) : Int) := ⟨by unfold absI; rw [if_neg (by omega)]; omega, by unfold absI; rw [if_neg (by omega)]; omega⟩
        refine ⟨d, _, rfl, DGet.k (k := .inl ((i + 1 : Nat) : Int)) hd4, ?_⟩
        have hki := hk ((i + 1 : Nat) : Int)
        cases ho : valV kvs (.inl ((i + 1 : Nat) : Int)) with
        | some v =>
          rw [ho] at hki
          refine iteF (iteF ⟨_, _, bs, kvs, rfl, s4, hl4, ?_, hd4, ?_, by omega, ?_⟩)
          all_goals rw [rdL_out (.inl (hki.mp rfl))]
          · exact tb
          · exact hk
          · omega
        | none =>
          rw [ho] at hki
          have nin : ((i + 1 : Nat) : Int) ∉ seenR (rdL L i) := fun z => by cases hki.mpr z
          refine iteT ⟨a, L, ((i + 1 : Nat) : Int), rfl, Same.sqt s4 hs, hlt.1, by rw [lL]; exact hlt.2, ?_⟩
          by_cases c : gL L ((i + 1 : Nat) : Int) = ((i + 1 : Nat) : Int)
          · refine ⟨rfl, false, by rw [decide_eq_true (by rw [c])]; rfl, iteF ⟨_, _, bs, kvs, rfl, s4, hl4, ?_, hd4, ?_, by omega, ?_⟩⟩
            all_goals rw [rdL_out (.inr c)]
            · exact tb
            · exact hk
            · omega
          · refine ⟨rfl, true, by rw [decide_eq_false fun z => c (V.int.inj z)]; rfl, iteT ⟨a, L, ((i + 1 : Nat) : Int), n, rfl, Same.sqt s4 hs, t, n4, hlt, fun c5 b5 H5 cy5 lc5 s5 hb5 => ?_⟩⟩
            have hd5 := s5 _ _ hd4
            have hl5 := s5 _ _ hl4
            have bl5 : bs.length ≤ i := by have := tb.length; omega
            have tb5 : TupsAt (upd H5 l (.lst (bs.map V.ref ++ [.ref b5]))) (bs ++ [b5]) (rdL L i ++ [c5]) := TupsAt.updC hl5 (fun ys z => by cases z) (pairAppC (tb.same s5) (.cons hb5 .nil))
            refine ⟨.inl ⟨rfl, _, SqL.of hl5⟩, l, _, _, rfl, rfl, hl5, by rw [List.length_map]; omega, ?_, ?_⟩
            · exact .inr (.inr (.inl ⟨rfl, .inl ⟨kvs, by rw [upd_ne (Ne.symm nld)]; exact hd5⟩⟩))
            have s6 : Same H (upd H5 l (.lst (bs.map V.ref ++ [.ref b5]))) := Same.uplC (Same.trans s4 s5) nl
            have nbl : b5 ≠ l := fun z => by rw [z, hl5] at hb5; cases hb5
            have hb6 : upd H5 l (.lst (bs.map V.ref ++ [.ref b5])) b5 = some (.tup (c5.map V.int)) := by rw [upd_ne nbl]; exact hb5
            have hd6 : upd H5 l (.lst (bs.map V.ref ++ [.ref b5])) d = some (.dK kvs) := by rw [upd_ne (Ne.symm nld)]; exact hd5
            have hl6 : upd H5 l (.lst (bs.map V.ref ++ [.ref b5])) l = some (.lst ((bs ++ [b5]).map V.ref)) := by rw [upd_same, List.map_append]; rfl
            generalize upd H5 l (.lst (bs.map V.ref ++ [.ref b5])) = H6 at s6 tb5 hb6 hd6 hl6
            refine ⟨_, rfl, b5, rfl, ⟨_, SqT.of hb6⟩, fun D hD => ?_⟩
            refine dc_tup (K := K) (fun j H' => ∃ more, (∀ c, c ≠ D → H' c = H6 c) ∧ H' D = some (.dK more) ∧ more.length ≤ j ∧ ∀ x : Int, (valV more (.inl x)).isSome = true ↔ x ∈ (c5.take j).map absI) ⟨[], fun c z => upd_ne z, upd_same, Nat.le_refl _, fun x => ⟨fun h => (nomatch h), fun h => (nomatch h)⟩⟩ (fun j H' _ w => SqT.of (by rw [w.choose_spec.1 b5 (fun z => by rw [z, hD] at hb6; cases hb6)]; exact hb6)) ?_ ?_
            · rintro j x H' hj ⟨more, o, hm, ml, mk⟩
              obtain ⟨y, hy, rfl⟩ : ∃ y, c5[j]? = some y ∧ x = V.int y := by
                rw [List.getElem?_map] at hj
                cases hy : c5[j]? with
                | none => rw [hy] at hj; cases hj
                | some y => rw [hy] at hj; exact ⟨y, rfl, (Option.some.inj hj).symm⟩
              have hjl : j < c5.length := (List.getElem?_eq_some_iff.mp hy).1
              refine ⟨rfl, ?_⟩
              unfold tYes
              refine iteT ?_
              refine ⟨_, rfl, y, rfl, more, .inl (absI y), rfl, hm, by omega, putK more (.inl (absI y)) (.bl true), fun c z => by rw [upd_ne z]; exact o c z, upd_same, ?_, fun x => ?_⟩
              · have := length_putK more (Sum.inl (absI y) : Key) (V.bl true)
                omega
              · rw [has_put, mk x, List.take_succ, hy, List.map_append, List.mem_append]
                constructor
                · rintro (e | e)
                  · exact .inr (by rw [Sum.inl.inj e]; exact List.mem_cons_self)
                  · exact .inl e
                · rintro (e | e)
                  · exact .inr e
                  · exact .inl (by rw [List.mem_singleton.mp e])
            · rintro H7 ⟨more, o, hm, ml, mk⟩
              rw [List.length_map] at ml mk
              rw [List.take_of_length_le (Nat.le_refl _)] at mk
              have ndD : d ≠ D := fun z => by rw [z, hD] at hd6; cases hd6
              have nlD : l ≠ D := fun z => by rw [z, hD] at hl6; cases hl6
              have hd7 := (o d ndD).trans hd6
              have hl7 := (o l nlD).trans hl6
              have s7 : Same H6 H7 := fun c u h => (o c (fun z => by rw [z, hD] at h; cases h)).trans h
              have rdin := rdL_in nin c cy5
              have lm := length_mergeK more kvs
              refine ⟨d, D, kvs, more, rfl, rfl, hd7, hm, ndD, by omega, _, _, bs ++ [b5], mergeK kvs more, rfl, Same.uplC (Same.trans s6 s7) nd, by rw [upd_ne nld]; exact hl7, ?_, upd_same, fun x => ?_, by omega, ?_⟩
              · rw [rdin]
                exact TupsAt.updC hd7 (fun ys z => by cases z) (tb5.same s7)
              · rw [rdin, seenR_app, has_merge, hk x, mk x]
              · rw [rdin, List.length_append]
                show (rdL L i).length + 1 ≤ i + 1
                omega
      · rintro σ' H4 ⟨l3, l4, bs, kvs, rfl, s4, hl4, tb, _⟩
        exact hnx _ _ ⟨l3, l4, bs, rfl, s4, hl4, tb⟩
    rintro σ' H4 ⟨l3, l4, bs, rfl, s4, hl4, tb⟩
    exact ⟨_, rfl, q l bs H4 s4 nl hl4 tb⟩
/-! ### order -/
abbrev sOr : Stmt := s_order
abbrev nOr : List Str := ["turn", "often", "letters"]
theorem scOr : FnScope nOr ["turn"] (defScope sOr) := ⟨rfl, rfl, rfl, by decide +kernel, rfl, by decide +kernel, by decide +kernel⟩
def spOr (K : PySem.W.Frag) : Sp := fun vs H Q _ => ∃ (a : Addr) (L : List Int) (n N : Nat), vs = [.ref a] ∧ SqT K H a (L.map V.int) ∧ Trn n L ∧ 1 ≤ n ∧ n ≤ 400 ∧ 0 < N ∧ N < 2 ^ 60 ∧ (∀ c ∈ rdL L n, c.length ∣ N) ∧ ∀ H', Same H H' → Q (.int ((lcmL ((rdL L n).map List.length) : Nat) : Int)) H'
theorem ok_or {f fRd : Addr} {fd fdRd : FuncData} (F : Fun K "order" "order" sOr f fd) (B : Bl mg) (gL2 : mg "lcm" = some (.builtin "math.lcm")) (RD : Df K mg "rounds" sRd ["turn"] fRd fdRd) (GRd : FnOk P w K mg base CX0 5 fRd fdRd ["turn"] (spRd K)) : FnOk P w K mg base CX0 6 f fd ["turn"] (spOr K) := by
  refine F.ok scOr (fun vs H Q E h => ?_) (fun cdv A outer s H vs Q E hr h => ?_)
  · obtain ⟨a, L, n, N, rfl, _⟩ := h
    rfl
  · obtain ⟨a, L, n, N, rfl, hs, t, n1, n4, N0, N60, dv, q⟩ := h
    refine ⟨_, pss_cons (ps_set (i := 1) scOr.nd rfl (Or.inl rfl) (pe_int))
      (pss_cons (ps_for PassesOwn.never rfl (pi_list (pe_call GRd hr rfl RD.g RD.F.kp RD.b .nil pass0 (pa_cons (pv 0) pa_nil))) (pg_name (i := 2) scOr.nd rfl (Or.inl rfl)) (pss_one (ps_set (i := 1) scOr.nd rfl (Or.inl rfl) (pe_callBfun call_lcm rfl gL2 (pa_cons (pv 1) (pa_cons (pe_callB call_len_seq (by rfl) B.len PySem.boot_len (pa_cons (pv 2) pa_nil)) pa_nil))))))
      (pss_one (ps_ret (pv 1)))), ?_⟩
    show tSeq _ _ _ [some (.ref a), none, none] H
    have eZ : sizeLine = 16777216 := rfl
    refine seq_gen (fun σ' H' => σ' = [some (.ref a), some (.int (1 : Int)), none] ∧ H' = H) (fun nx hnx => hnx _ _ ⟨rfl, rfl⟩) ?_
    rintro σ1 H1 ⟨rfl, rfl⟩
    refine seq_gen (fun σ' H' => ∃ l2 : Option V, σ' = [some (.ref a), some (.int ((lcmL ((rdL L n).map List.length) : Nat) : Int)), l2] ∧ Same H1 H') (fun nx hnx => ?_) ?_
    · refine ⟨_, rfl, a, L, n, rfl, hs, t, n1, n4, fun l bs H4 s4 nl hl4 tb => ⟨l, rfl, ⟨_, SqL.of hl4⟩, ?_⟩⟩
      refine for_list (K := K) (g := gName 2) (fun i σ' H' => ∃ l2 : Option V, σ' = [some (.ref a), some (.int ((lcmL (((rdL L n).take i).map List.length) : Nat) : Int)), l2] ∧ H' = H4) ⟨_, rfl, rfl⟩ (fun i σ' H' _ w => by obtain ⟨_, _, rfl⟩ := w; exact SqL.of hl4) ?_ ?_
      · rintro i x σ' H' hx ⟨l2, rfl, rfl⟩
        obtain ⟨b, hb, rfl⟩ : ∃ b, bs[i]? = some b ∧ x = V.ref b := by
          rw [List.getElem?_map] at hx
          cases hy : bs[i]? with
          | none => rw [hy] at hx; cases hx
          | some y => rw [hy] at hx; exact ⟨y, rfl, (Option.some.inj hx).symm⟩
        obtain ⟨c, hc, hbc⟩ := TupsAt.get tb hb
        have hcm : c ∈ rdL L n := List.mem_of_getElem? hc
        have d1 : lcmL (((rdL L n).take i).map List.length) ∣ N := (lcmL_dvd _ _).mpr fun y hy => by
          obtain ⟨z, hz, rfl⟩ := List.mem_map.mp hy
          exact dv z (List.mem_of_mem_take hz)
        have b1 := Nat.le_of_dvd N0 d1
        have b2 := Nat.le_of_dvd N0 (dv c hcm)
        walk_at "rd"
        refine ⟨_, _, rfl, .inr (SqT.of hbc), lcmL (((rdL L n).take i).map List.length), c.length, by rw [List.length_map], by omega, by omega, some (.ref b), ?_, rfl⟩
        rw [List.take_succ, hc]
        show _ = [some (V.ref a), some (V.int ((lcmL ((((rdL L n).take i) ++ [c]).map List.length) : Nat) : Int)), some (V.ref b)]
        unfold lcmL
        rw [List.map_append, List.foldl_append]
        rfl
      · rintro σ' H' ⟨l2, rfl, rfl⟩
        rw [List.length_map, tb.length, List.take_of_length_le (Nat.le_refl _)]
        exact hnx _ _ ⟨_, rfl, s4⟩
    rintro σ' H' ⟨l2, rfl, s4⟩
    exact ⟨_, rfl, q _ s4⟩
end
end Toy

-- part: CY3
namespace Toy
open PySem L2
section
variable {P : Program} {w : World} {K : PySem.W.Frag} {mg : Str → Option Value} {base : Heap}
theorem at_last1 {α : Type} (xs : List α) (y : α) : atI (xs ++ [y]) (-1) = some y := by
  unfold atI ixN
  rw [List.length_append]
  simp only [List.length_cons, List.length_nil]
  rw [if_neg (by omega), if_pos (by omega)]
  rw [show (-1 + ((xs.length + (0 + 1) : Nat) : Int)).toNat = xs.length by omega]
  show (xs ++ [y])[xs.length]? = some y
  rw [List.getElem?_append_right (Nat.le_refl _), Nat.sub_self]
  rfl
theorem cyc_last {L : List Int} {k : Int} : ∀ {j : Nat}, 1 ≤ j → atI ((cycTo L k j).map V.int) (-1) = some (V.int (itL L (j - 1) k))
  | 0, h => absurd h (by decide)
  | j + 1, _ => by
    rw [cycTo_succ, List.map_append]
    exact at_last1 _ _
theorem it_step {L : List Int} {k : Int} : ∀ {j : Nat}, 1 ≤ j → gL L (itL L (j - 1) k) = itL L j k
  | 0, h => absurd h (by decide)
  | j + 1, _ => rfl
def kvR (c : List Int) : List (Key × V) := c.map fun y => (Sum.inl (absI y), V.bl true)
theorem kvR_has {c : List Int} {x : Int} : (valV (mergeK [] (kvR c)) (.inl x)).isSome = true ↔ x ∈ c.map absI := by
  rw [has_merge, has_iff, has_iff]
  constructor
  · rintro (⟨kv, h, _⟩ | ⟨kv, h, e⟩)
    · exact nomatch h
    · obtain ⟨y, hy, rfl⟩ := List.mem_map.mp h
      rw [← Sum.inl.inj e]
      exact List.mem_map.mpr ⟨y, hy, rfl⟩
  · intro h
    obtain ⟨y, hy, rfl⟩ := List.mem_map.mp h
    exact .inr ⟨_, List.mem_map.mpr ⟨y, hy, rfl⟩, rfl⟩
/-! ### _law_rounds -/
abbrev sLR : Stmt := s__law_rounds
abbrev nLR : List Str := ["turn", "found", "met", "k", "row", "letter"]
theorem scLR : FnScope nLR ["turn"] (defScope sLR) := ⟨rfl, rfl, rfl, by decide +kernel, rfl, by decide +kernel, by decide +kernel⟩
def tPrR : TE := tTup (tCons (tCB (fun xs H Q => ∃ i, xs = [.int i] ∧ Q (.int (if i < 0 then -i else i)) H) (tCons (tVar 5) tNil)) (tCons (tC (V.bl true)) tNil))
def spLR (K : PySem.W.Frag) : Sp := fun vs H Q _ => ∃ (a : Addr) (L : List Int) (n : Nat), vs = [.ref a] ∧ SqT K H a (L.map V.int) ∧ Trn n L ∧ 1 ≤ n ∧ n ≤ 400 ∧ ∀ (l : Addr) (bs : List Addr) (H' : Hp), Same H H' → H l = none → H' l = some (.lst (bs.map V.ref)) → TupsAt H' bs (rdL L n) → Q (.ref l) H'
theorem ok_lr {f fG : Addr} {fd fdG : FuncData} (F : Fun K "_law_rounds" "_law_rounds" sLR f fd) (B : Bl mg) (GO : Df K mg "_law_goes" sLGoes ["turn", "letter"] fG fdG) : FnOk P w K mg base CX0 2 f fd ["turn"] (spLR K) := by
  have GG : FnOk P w K mg base CX0 1 fG fdG ["turn", "letter"] (spGoes K) := ok_lgoes GO.F
  refine F.ok scLR (fun vs H Q E h => ?_) (fun cdv A outer s H vs Q E hr h => ?_)
  · obtain ⟨a, L, n, rfl, _⟩ := h
    rfl
  · obtain ⟨a, L, n, rfl, hs, t, n1, n4, q⟩ := h
    have hu := hu_of hr
    refine ⟨_, pss_cons (ps_par (i := 1) (j := 2) rfl scLR.nd rfl rfl (by decide) rfl rfl (pa_cons (pe_lst pa_nil) (pa_cons (pe_dnewK) pa_nil)) (by rfl))
      (pss_cons (ps_for PassesOwn.never rfl (pi_range2 rfl B.range (pa_cons (pe_int) (pa_cons (pe_op op_add (pe_callB call_len_seq (by rfl) B.len PySem.boot_len (pa_cons (pv 0) pa_nil)) (pe_int)) pa_nil))) (pg_name (i := 3) scLR.nd rfl (Or.inl rfl)) (pss_one (ps_if (PW.pt (pw_and (pt_cmp (pc_dnotin hu (pv 3) (pv 2))) (pw_and1 (pt_cmpR op_ne (pe_ix ix_tup (pv 0) (pe_op op_sub (pv 3) (pe_int)) (fun _ _ => rfl)) (pv 3) (nomark _))))) (pss_cons (ps_set (i := 4) scLR.nd rfl (Or.inl rfl) (pe_lst (pa_cons (pv 3) pa_nil)))
      (pss_cons (ps_while PassesOwn.never (pt_cmpR op_ne (pe_call GG hr rfl GO.g GO.F.kp GO.b .nil pass0 (pa_cons (pv 0) (pa_cons (pe_ix ix_list (pv 4) (pe_un un_neg pe_int) (fun _ _ => rfl)) pa_nil))) (pv 3) (nomark _)) (pss_one (ps_expr (pe_bm PySem.F.plainAttrs_list PySem.F.slot_list_append PySem.F.type_list_append mt_append (pv 4) (pa_cons (pe_call GG hr rfl GO.g GO.F.kp GO.b .nil pass0 (pa_cons (pv 0) (pa_cons (pe_ix ix_list (pv 4) (pe_un un_neg pe_int) (fun _ _ => rfl)) pa_nil))) pa_nil)))))
      (pss_cons (ps_expr (pe_bm PySem.F.plainAttrs_dict PySem.F.slot_dict_update PySem.F.type_dict_update mt_update (pv 2) (pa_cons (pe_callTy (T := "dict") ((call_dictP rfl)) (by rfl) B.dict (by decide +kernel) (pa_cons (pe_lc (own := [("letter", 5)]) (g := gName 5) (tt := tYes) (te := tPrR) rfl scLR.nd (pi_list (pv 4)) (blkOk_by (own := [("letter", 5)]) (N := nLR) (sc := (defScope sLR)) (by decide +kernel)) (fun _ _ _ _ _ => pg_name (i := 5) scLR.nd rfl (Or.inl rfl)) (fun _ _ _ _ _ => pts_nil) (fun _ _ _ _ _ => pe_tup (pa_cons (pe_callB call_abs (by rfl) B.abs (by decide +kernel) (pa_cons (pv 5) pa_nil)) (pa_cons (pe_bl) pa_nil)))) pa_nil)) pa_nil)))
      (pss_one (ps_expr (pe_bm PySem.F.plainAttrs_list PySem.F.slot_list_append PySem.F.type_list_append mt_append (pv 1) (pa_cons (pe_callTy (T := "tuple") call_tuple_of (by rfl) B.tuple (by decide +kernel) (pa_cons (pv 4) pa_nil)) pa_nil))))))) pss_nil)))
      (pss_one (ps_ret (pv 1)))), ?_⟩
    show tSeq _ _ _ [some (.ref a), none, none, none, none, none] H
    have eZ : sizeLine = 16777216 := rfl
    have lL := t.len
    refine seq_gen (fun σ' H' => ∃ l d : Addr, σ' = [some (.ref a), some (.ref l), some (.ref d), none, none, none] ∧ Same H H' ∧ H l = none ∧ H d = none ∧ H' l = some (.lst []) ∧ H' d = some (.dK [])) (fun nx hnx => ?_) ?_
    · walk_at "rd"
      exact ⟨Nat.zero_le _, fun l hl d hd => hnx _ _ ⟨l, d, rfl, Same.trans (Same.new hl) (Same.new hd), hl, Same.noneC (Same.new hl) hd, Same.new hd _ _ upd_same, upd_same⟩⟩
    rintro σ' H3 ⟨l, d, rfl, s3, nl, nd, hl3, hd3⟩
    have nld : l ≠ d := fun z => by rw [z, hd3] at hl3; cases hl3
    refine seq_gen (fun σ' H' => ∃ (l3 l4 : Option V) (bs : List Addr), σ' = [some (.ref a), some (.ref l), some (.ref d), l3, l4, none] ∧ Same H H' ∧ H' l = some (.lst (bs.map V.ref)) ∧ TupsAt H' bs (rdL L n)) (fun nx hnx => ?_) ?_
    · refine ⟨_, rfl, _, _, rfl, .inr (Same.sqt s3 hs), _, _, rfl, rfl, 1, (n : Int) + 1, ?_, ?_, ?_⟩
      · rw [List.length_map, lL]
      · omega
      rw [show ((n : Int) + 1 - 1).toNat = n by omega]
      refine for_range (lo := 1) (n := n) (g := gName 3) (fun i σ H' => ∃ (l3 l4 : Option V) (bs : List Addr) (kvs : List (Key × V)), σ = [some (.ref a), some (.ref l), some (.ref d), l3, l4, none] ∧ Same H H' ∧ H' l = some (.lst (bs.map V.ref)) ∧ TupsAt H' bs (rdL L i) ∧ H' d = some (.dK kvs) ∧ (∀ x : Int, (valV kvs (.inl x)).isSome = true ↔ x ∈ seenR (rdL L i)) ∧ kvs.length ≤ 800 * i ∧ (rdL L i).length ≤ i) ⟨_, _, [], [], rfl, s3, hl3, Paired.nil, hd3, fun x => ⟨fun h => (nomatch h), fun h => (nomatch h)⟩, by decide, Nat.le_refl _⟩ ?_ ?_
      · rintro i x0 H4 hin ⟨l3, l4, bs, kvs, rfl, s4, hl4, tb, hd4, hk, kn, rn⟩
        generalize hA : tSeq _ _ = A
        have e1 : (1 : Int) + (i : Int) = ((i + 1 : Nat) : Int) := by omega
        rw [e1]
        walk_at "rd"
        have hlt : Lt n ((i + 1 : Nat) : Int) := ⟨by unfold absI; rw [if_neg (by omega)]; omega, by unfold absI; rw [if_neg (by omega)]; omega⟩
        refine ⟨d, _, rfl, DGet.k (k := .inl ((i + 1 : Nat) : Int)) hd4, ?_⟩
        have hki := hk ((i + 1 : Nat) : Int)
        cases ho : valV kvs (.inl ((i + 1 : Nat) : Int)) with
        | some v =>
          rw [ho] at hki
          refine iteF (iteF ⟨_, _, bs, kvs, rfl, s4, hl4, ?_, hd4, ?_, by omega, ?_⟩)
          all_goals rw [rdL_out (.inl (hki.mp rfl))]
          · exact tb
          · exact hk
          · omega
        | none =>
          rw [ho] at hki
          have nin : ((i + 1 : Nat) : Int) ∉ seenR (rdL L i) := fun z => by cases hki.mpr z
          refine iteT (p_ixT (Same.sqt s4 hs) (show atI (L.map V.int) (((i + 1 : Nat) : Int) - 1) = some (V.int (gL L ((i + 1 : Nat) : Int))) from at_pos hlt.1 (by rw [lL]; exact hlt.2) (by omega)) ?_)
          by_cases c : gL L ((i + 1 : Nat) : Int) = ((i + 1 : Nat) : Int)
          · refine ⟨rfl, false, by rw [decide_eq_true (by rw [c])]; rfl, iteF ⟨_, _, bs, kvs, rfl, s4, hl4, ?_, hd4, ?_, by omega, ?_⟩⟩
            all_goals rw [rdL_out (.inr c)]
            · exact tb
            · exact hk
            · omega
          · refine ⟨rfl, true, by rw [decide_eq_false fun z => c (V.int.inj z)]; rfl, iteT ?_⟩
            subst hA
            generalize hk1 : ((i + 1 : Nat) : Int) = k at hlt nin c hki ho
            refine seq_gen (fun σ' H' => ∃ r : Addr, σ' = [some (.ref a), some (.ref l), some (.ref d), some (.int k), some (.ref r), none] ∧ Same H4 H' ∧ H4 r = none ∧ H' r = some (.lst ((cycTo L k 1).map V.int))) (fun nx hnx => ?_) ?_
            · walk_at "rd"
              exact ⟨by show 1 ≤ sizeLine; decide, fun r hr2 => hnx _ _ ⟨r, rfl, Same.new hr2, hr2, upd_same⟩⟩
            rintro σ5 H5 ⟨r, rfl, s5, nr, hr5⟩
            refine seq_gen (fun σ' H' => ∃ j : Nat, σ' = [some (.ref a), some (.ref l), some (.ref d), some (.int k), some (.ref r), none] ∧ Same H4 H' ∧ H' r = some (.lst ((cycTo L k j).map V.int)) ∧ 1 ≤ j ∧ j ≤ 800 ∧ itL L j k = k ∧ ∀ i, 0 < i → i < j → itL L i k ≠ k) (fun nx hnx => ?_) ?_
            · obtain ⟨p, p1, p2, pb⟩ := it_back t hlt
              have go : ∀ {x : Int} {H' : Hp} {R : VK}, Same H4 H' → Lt n x → R (.int (gL L x)) H' → spGoes K [.ref a, .int x] H' R E0 := fun {x H' R} s' hx hR => ⟨a, L, x, rfl, Same.sqt (Same.trans s4 s') hs, hx.1, by rw [lL]; exact hx.2, hR⟩
              refine while_by (Pv := fun σ' H' => ∃ j : Nat, σ' = [some (.ref a), some (.ref l), some (.ref d), some (.int k), some (.ref r), none] ∧ Same H4 H' ∧ H' r = some (.lst ((cycTo L k j).map V.int)) ∧ 1 ≤ j ∧ j ≤ p ∧ ∀ i, 0 < i → i < j → itL L i k ≠ k) (μ := fun _ H' => p - lenLC H' r) ⟨1, rfl, s5, hr5, Nat.le_refl _, p1, fun i a b => absurd b (by omega)⟩ ?_ ?_
              · rintro σ H6 ⟨j, rfl, s6, hr6, j1, jp, nb⟩
                have lc := cycTo_len L k j
                walk_at "rd"
                refine p_ix (SqL.of hr6) (cyc_last j1) (go s6 (it_lt t hlt _) ?_)
                rw [it_step j1]
                by_cases c : itL L j k = k
                · exact ⟨rfl, false, by rw [decide_eq_true (by rw [c])]; rfl, iteF (hnx _ _ ⟨j, rfl, s6, hr6, j1, by omega, c, nb⟩)⟩
                · have jlt : j < p := Nat.lt_of_le_of_ne jp fun z => c (by rw [z]; exact pb)
                  refine ⟨rfl, true, by rw [decide_eq_false fun z => c (V.int.inj z)]; rfl, iteT ?_⟩
                  refine ⟨.inl ⟨by trivial, _, SqL.of hr6⟩, p_ix (SqL.of hr6) (cyc_last j1) (go s6 (it_lt t hlt _) ?_)⟩
                  rw [it_step j1]
                  refine ⟨r, _, _, rfl, rfl, hr6, by rw [List.length_map]; omega, ⟨j + 1, trivial, Same.uplC s6 nr, by rw [upd_same, cycTo_succ, List.map_append]; rfl, by omega, by omega, fun i a b => ?_⟩, ?_⟩
                  · by_cases z : i = j
                    · rw [z]; exact c
                    · exact nb i a (by omega)
                  · rw [lenLC_eq hr6, lenLC_eq upd_same, List.length_append, List.length_map, lc]
                    show p - (j + 1) < p - j
                    omega
              · rintro σ H6 R R' hR ⟨v0, h0, v4, h4, iu, eu, p, xs, i, v, e1, e2, hq, ea, a', L', l', e3, hs', g1, g2, v3, h3, sc, c, e, r⟩
                exact ⟨v0, h0, v4, h4, iu, eu, p, xs, i, v, e1, e2, hq, ea, a', L', l', e3, hs', g1, g2, v3, h3, sc, c, e, hR _ _ r⟩
            rintro σ6 H6 ⟨j, rfl, s6, hr6, j1, j8, bk, nb⟩
            have hl6 := s6 _ _ hl4
            have hd6 := s6 _ _ hd4
            have lc := cycTo_len L k j
            have cy5 : IsCyc L k (cycTo L k j) := IsCyc.of_range j1 bk nb
            have nrl : r ≠ l := fun z => by rw [z, hl4] at nr; cases nr
            have nrd : r ≠ d := fun z => by rw [z, hd4] at nr; cases nr
            refine seq_gen (fun σ' H' => σ' = [some (.ref a), some (.ref l), some (.ref d), some (.int k), some (.ref r), none] ∧ ∃ more : List (Key × V), H' d = some (.dK (mergeK kvs more)) ∧ more.length ≤ 800 ∧ (∀ x : Int, (valV more (.inl x)).isSome = true ↔ x ∈ (cycTo L k j).map absI) ∧ H' l = some (.lst (bs.map V.ref)) ∧ H' r = some (.lst ((cycTo L k j).map V.int)) ∧ Same H H' ∧ TupsAt H' bs (rdL L i)) (fun nx hnx => ?_) ?_
            · refine ⟨_, rfl, .inr (.inr (.inl ⟨rfl, .inl ⟨_, hd6⟩⟩)), _, rfl, r, rfl, ⟨_, SqL.of hr6⟩, fun D hD => lc_list (K := K) (a := r) (xs := (cycTo L k j).map V.int) (fun i Hi => Same H6 Hi ∧ ∃ ps : List Addr, Hi D = some (.lst (ps.map V.ref)) ∧ ps.length = i ∧ Paired (fun (p : Addr) (kv : Key × V) => Hi p = some (.tup [kV kv.1, kv.2])) ps ((kvR (cycTo L k j)).take i)) ⟨Same.new hD, [], upd_same, rfl, .nil⟩ (fun i Hi _ ⟨e, _⟩ => SqL.of (e _ _ hr6)) ?_ ?_⟩
              · rintro i z Hi hi ⟨ei, ps, hDi, lp, tp⟩
                obtain ⟨y, hy, rfl⟩ : ∃ y, (cycTo L k j)[i]? = some y ∧ z = V.int y := by
                  rw [List.getElem?_map] at hi
                  cases hy : (cycTo L k j)[i]? with
                  | none => rw [hy] at hi; cases hi
                  | some y => rw [hy] at hi; exact ⟨y, rfl, (Option.some.inj hi).symm⟩
                have hil : i < (cycTo L k j).length := (List.getElem?_eq_some_iff.mp hy).1
                have ek : (kvR (cycTo L k j))[i]? = some (Sum.inl (absI y), V.bl true) := by unfold kvR; rw [List.getElem?_map, hy]; rfl
                refine ⟨rfl, yesT ?_⟩
                show tPrR [some (.ref a), some (.ref l), some (.ref d), some (.int k), some (.ref r), some (.int y)] Hi _
                unfold tPrR
                walk_at "rd"
                refine ⟨by show 2 ≤ sizeLine; decide, fun p hp => ?_⟩
                have sp := Same.new (o := .tup [V.int (absI y), V.bl true]) hp
                have hD : H6 D = none := hD
                refine ⟨_, sp _ _ hDi, by rw [List.length_map]; omega, Same.uplC (Same.trans ei sp) hD, ps ++ [p], by rw [upd_same, List.map_append]; rfl, by rw [List.length_append, lp]; rfl, ?_⟩
                rw [List.take_add_one, ek]
                refine pairAppC (Paired.mapP tp fun b kv h => ?_) (.cons ?_ .nil)
                · rw [upd_ne (fun z => by rw [z, hDi] at h; cases h)]
                  exact sp _ _ h
                · rw [upd_ne (fun z => by rw [z, hDi] at hp; cases hp)]
                  exact upd_same
              · rintro H1 ⟨s1, ps, hD1, lp, tp⟩
                have lk : (kvR (cycTo L k j)).length = (cycTo L k j).length := by unfold kvR; rw [List.length_map]
                rw [List.length_map, ← lk, List.take_length] at tp
                refine ⟨D, ps, kvR (cycTo L k j), rfl, SqL.of hD1, Paired.mapP tp fun p kv h => SqT.of h, fun p hp => ?_⟩
                have sp := Same.trans s1 (Same.new (o := .dK (mergeK [] (kvR (cycTo L k j)))) hp)
                have hd8 := sp _ _ hd6
                have ndp : d ≠ p := fun z => by rw [← z, s1 _ _ hd6] at hp; cases hp
                have lm := length_mergeK (kvR (cycTo L k j)) []
                have lm2 : (mergeK [] (kvR (cycTo L k j))).length ≤ 800 := by
                  rw [lk, lc] at lm
                  exact Nat.le_trans lm (by show 0 + j ≤ 800; omega)
                refine ⟨d, p, kvs, mergeK [] (kvR (cycTo L k j)), rfl, rfl, hd8, upd_same, ndp, by omega, hnx _ _ ⟨rfl, mergeK [] (kvR (cycTo L k j)), upd_same, lm2, fun x => kvR_has, ?_, ?_, Same.uplC (Same.trans s4 (Same.trans s6 sp)) nd, TupsAt.updC hd8 (fun ys z => by cases z) ((tb.same s6).same sp)⟩⟩
                · rw [upd_ne nld]
                  exact sp _ _ hl6
                · rw [upd_ne nrd]
                  exact sp _ _ hr6
            rintro σ7 H7 ⟨rfl, more, hd7, ml, mk, hl7, hr7, s7, tb7⟩
            walk_at "rd"
            refine ⟨.inl ⟨by trivial, _, SqL.of hl7⟩, r, _, rfl, .inl ⟨SqL.of hr7, fun b hb => ?_⟩⟩
            have sb := Same.new (o := .tup ((cycTo L k j).map V.int)) hb
            have lb7 := tb7.length
            have rdin : rdL L (i + 1) = rdL L i ++ [cycTo L k j] := by
              rw [← hk1] at nin c cy5
              rw [← hk1]
              exact rdL_in nin c cy5
            have lm := length_mergeK more kvs
            refine ⟨l, _, _, rfl, rfl, sb _ _ hl7, by rw [List.length_map]; omega, some (.int k), some (.ref r), bs ++ [b], mergeK kvs more, rfl, Same.uplC (Same.trans s7 sb) nl, by rw [upd_same, List.map_append]; rfl, ?_, by rw [upd_ne (Ne.symm nld)]; exact sb _ _ hd7, fun x => ?_, by omega, ?_⟩
            · rw [rdin]
              exact TupsAt.updC (sb _ _ hl7) (fun ys z => by cases z) (pairAppC (tb7.same sb) (.cons upd_same .nil))
            · rw [rdin, seenR_app, has_merge, hk x, mk x]
            · rw [rdin, List.length_append]
              show (rdL L i).length + 1 ≤ i + 1
              omega
      · rintro σ' H4 ⟨l3, l4, bs, kvs, rfl, s4, hl4, tb, _⟩
        exact hnx _ _ ⟨l3, l4, bs, rfl, s4, hl4, tb⟩
    rintro σ' H4 ⟨l3, l4, bs, rfl, s4, hl4, tb⟩
    exact ⟨_, rfl, q l bs H4 s4 nl hl4 tb⟩
end
end Toy

-- part: CY4
namespace Toy
open PySem L2
section
variable {P : Program} {w : World} {K : PySem.W.Frag} {mg : Str → Option Value} {base : Heap}
/-! ### _law_common -/
abbrev sCm : Stmt := s__law_common
abbrev nCm : List Str := ["sizes", "found", "size", "step"]
theorem scCm : FnScope nCm ["sizes"] (defScope sCm) := ⟨rfl, rfl, rfl, by decide +kernel, rfl, by decide +kernel, by decide +kernel⟩
def intsN (zs : List Nat) : List V := zs.map fun (z : Nat) => V.int (z : Int)
theorem intsN_get {zs : List Nat} {i : Nat} {x : V} (h : (intsN zs)[i]? = some x) : ∃ z, zs[i]? = some z ∧ x = V.int (z : Int) := by
  unfold intsN at h
  rw [List.getElem?_map] at h
  cases hz : zs[i]? with
  | none => rw [hz] at h; cases h
  | some z => rw [hz] at h; exact ⟨z, rfl, (Option.some.inj h).symm⟩
def spCm (K : PySem.W.Frag) : Sp := fun vs H Q _ => ∃ (a : Addr) (zs : List Nat) (N : Nat), vs = [.ref a] ∧ SqL K H a (intsN zs) ∧ (∃ o, H a = some o) ∧ 0 < N ∧ N < 2 ^ 60 ∧ (∀ z ∈ zs, 0 < z ∧ z ∣ N) ∧ Q (.int ((lcmL zs : Nat) : Int)) H
theorem emod_nat (a b : Nat) : ((a : Int) % (b : Int)) = ((a % b : Nat) : Int) := rfl
theorem ok_cm {f : Addr} {fd : FuncData} (F : Fun K "_law_common" "_law_common" sCm f fd) : FnOk P w K mg base CX0 1 f fd ["sizes"] (spCm K) := by
  refine F.ok scCm (fun vs H Q E h => ?_) (fun cdv A outer s H vs Q E hr h => ?_)
  · obtain ⟨a, zs, N, rfl, _⟩ := h
    rfl
  · obtain ⟨a, zs, N, rfl, hs, _, N0, N60, dv, q⟩ := h
    refine ⟨_, pss_cons (ps_set (i := 1) scCm.nd rfl (Or.inl rfl) (pe_int))
      (pss_cons (ps_for PassesOwn.never rfl (pi_list (pv 0)) (pg_name (i := 2) scCm.nd rfl (Or.inl rfl)) (pss_cons (ps_set (i := 3) scCm.nd rfl (Or.inl rfl) (pv 1))
      (pss_one (ps_while PassesOwn.never (pt_cmpR op_ne (pe_op op_mod (pv 1) (pv 2)) (pe_int) (nomark _)) (pss_one (ps_set (i := 1) scCm.nd rfl (Or.inl rfl) (pe_op op_add (pv 1) (pv 3))))))))
      (pss_one (ps_ret (pv 1)))), ?_⟩
    show tSeq _ _ _ [some (.ref a), none, none, none] H
    refine seq_gen (fun σ' H' => σ' = [some (.ref a), some (.int (1 : Int)), none, none] ∧ H' = H) (fun nx hnx => hnx _ _ ⟨rfl, rfl⟩) ?_
    rintro σ1 H1 ⟨rfl, rfl⟩
    refine seq_gen (fun σ' H' => ∃ l2 l3 : Option V, σ' = [some (.ref a), some (.int ((lcmL zs : Nat) : Int)), l2, l3] ∧ H' = H1) (fun nx hnx => ?_) ?_
    · refine ⟨_, rfl, a, rfl, ⟨_, hs⟩, ?_⟩
      refine for_list (K := K) (g := gName 2) (fun i σ' H' => ∃ l2 l3 : Option V, σ' = [some (.ref a), some (.int ((lcmL (zs.take i) : Nat) : Int)), l2, l3] ∧ H' = H1) ⟨_, _, rfl, rfl⟩ (fun i σ' H' _ w => by obtain ⟨_, _, _, rfl⟩ := w; exact hs) ?_ ?_
      · rintro i x σ' Hc hx ⟨l2, l3, rfl, rfl⟩
        obtain ⟨z, hz, rfl⟩ := intsN_get hx
        have hzm : z ∈ zs := List.mem_of_getElem? hz
        obtain ⟨z0, zN⟩ := dv z hzm
        have d1 : lcmL (zs.take i) ∣ N := (lcmL_dvd _ _).mpr fun y hy => (dv y (List.mem_of_mem_take hy)).2
        have b1 := Nat.pos_of_dvd_of_pos d1 N0
        have es : lcmL (zs.take (i + 1)) = Nat.lcm (lcmL (zs.take i)) z := by
          rw [List.take_succ, hz]
          show lcmL (zs.take i ++ [z]) = _
          unfold lcmL
          rw [List.foldl_append]
          rfl
        have lp : 0 < Nat.lcm (lcmL (zs.take i)) z := Nat.lcm_pos b1 z0
        rw [es]
        generalize lcmL (zs.take i) = m at b1 lp
        have d2 := Nat.dvd_lcm_left m z
        refine seq_gen (fun σ' H' => σ' = [some (.ref a), some (.int (m : Int)), some (.int (z : Int)), some (.int (m : Int))] ∧ H' = Hc) (fun nx hnx => ?_) ?_
        · walk_at "rd"
          exact hnx _ _ ⟨rfl, rfl⟩
        rintro σ2 H2 ⟨rfl, rfl⟩
        refine while_by (Pv := fun σ' H' => ∃ j : Nat, σ' = [some (.ref a), some (.int ((m * j : Nat) : Int)), some (.int (z : Int)), some (.int (m : Int))] ∧ H' = H2 ∧ 1 ≤ j ∧ m * j ≤ Nat.lcm m z) (μ := fun σ' _ => match σ' with
          | [_, some (.int f), _, _] => Nat.lcm m z - f.toNat
          | _ => 0) ⟨1, by rw [Nat.mul_one], rfl, Nat.le_refl _, by rw [Nat.mul_one]; exact Nat.le_of_dvd lp d2⟩ ?_ ?_
        · rintro σ H3 ⟨j, rfl, rfl, j1, jl⟩
          walk_at "rd"
          refine ⟨by omega, ?_⟩
          rw [emod_nat]
          by_cases c : m * j % z = 0
          · have hd : z ∣ m * j := Nat.dvd_of_mod_eq_zero c
            have := Nat.le_of_dvd (Nat.mul_pos b1 (by omega)) (Nat.lcm_dvd (Nat.dvd_mul_right m j) hd)
            have e : m * j = Nat.lcm m z := by omega
            exact ⟨rfl, false, by rw [c]; rfl, iteF ⟨some (.int (z : Int)), some (.int (m : Int)), by rw [e], rfl⟩⟩
          · have ne : m * j ≠ Nat.lcm m z := fun e => c (Nat.mod_eq_zero_of_dvd (by rw [e]; exact Nat.dvd_lcm_right m z))
            obtain ⟨w, hw⟩ := d2
            have jw : j < w := by
              have : m * j < m * w := by omega
              exact Nat.lt_of_mul_lt_mul_left this
            have l1 : m * (j + 1) ≤ m * w := Nat.mul_le_mul_left m jw
            have l2 : m * (j + 1) = m * j + m := Nat.mul_succ m j
            refine ⟨rfl, true, ?_, iteT ⟨⟨j + 1, by rw [l2]; rfl, rfl, by omega, by omega⟩, ?_⟩⟩
            · rw [decide_eq_false fun z => c (by have := V.int.inj z; omega)]
              rfl
            · omega
        · rintro σ H3 R R' hR ⟨v, hv, v', hv', i, j, e1, e2, g, sc, c, e, r⟩
          exact ⟨v, hv, v', hv', i, j, e1, e2, g, sc, c, e, hR _ _ r⟩
      · rintro σ' H' ⟨l2, l3, rfl, rfl⟩
        rw [show (intsN zs).length = zs.length from List.length_map _, List.take_of_length_le (Nat.le_refl _)]
        exact hnx _ _ ⟨_, _, rfl, rfl⟩
    rintro σ' H' ⟨l2, l3, rfl, rfl⟩
    exact ⟨_, rfl, q⟩
end
end Toy

-- part: CY5
namespace Toy
open PySem L2
/-! ### turns put together from rows -/
def sgI (r : Int) : Int := if r < 0 then -1 else 1
def toL (row : List Int) (cl : Int) : List Int := row.drop 1 ++ [row.headD 0 * cl]
theorem toL_len {row : List Int} {cl : Int} (h : row ≠ []) : (toL row cl).length = row.length := by
  unfold toL
  cases row with
  | nil => exact absurd rfl h
  | cons a r => simp
theorem toL_at {row : List Int} {cl : Int} {j : Nat} (h : j + 1 < row.length) : (toL row cl)[j]? = row[j + 1]? := by
  unfold toL
  rw [List.getElem?_append_left (by rw [List.length_drop]; omega), List.getElem?_drop, Nat.add_comm]
theorem toL_end {row : List Int} {cl : Int} {j : Nat} (h : j + 1 = row.length) : (toL row cl)[j]? = some (row.headD 0 * cl) := by
  unfold toL
  rw [List.getElem?_append_right (by rw [List.length_drop]; omega), List.length_drop]
  rw [show j - (row.length - 1) = 0 by omega]
  rfl
abbrev Blk := List Int × Int
def BlkIn (kvs : List (Key × V)) (b : Blk) : Prop := ∀ (j : Nat) (r t : Int), b.1[j]? = some r → (toL b.1 b.2)[j]? = some t → valV kvs (.inl (absI r)) = some (.int (t * sgI r))
def BlkL (L : List Int) (b : Blk) : Prop := ∀ (j : Nat) (r t : Int), b.1[j]? = some r → (toL b.1 b.2)[j]? = some t → gL L r = t
def cycB (b : Blk) : List Int := if b.2 < 0 then b.1 ++ b.1.map fun x => -x else b.1
def sizeB (b : Blk) : Nat := b.1.length * (if b.2 < 0 then 2 else 1)
theorem cycB_len (b : Blk) : (cycB b).length = sizeB b := by
  unfold cycB sizeB
  split
  · rw [List.length_append, List.length_map]; omega
  · rw [Nat.mul_one]
theorem head_at {row : List Int} (h : row ≠ []) : row[0]? = some (row.headD 0) := by
  cases row with
  | nil => exact absurd rfl h
  | cons a r => rfl
theorem blk_at {L : List Int} {b : Blk} (h : BlkL L b) (ne : b.1 ≠ []) : ∀ j, j < b.1.length → b.1[j]? = some (itL L j (b.1.headD 0))
  | 0, _ => head_at ne
  | j + 1, hj => by
    have ih := blk_at h ne j (by omega)
    have e : (toL b.1 b.2)[j]? = some b.1[j + 1] := by rw [toL_at hj, List.getElem?_eq_getElem hj]
    have := h j _ _ ih e
    rw [List.getElem?_eq_getElem hj]
    show some b.1[j + 1] = some (gL L (itL L j (b.1.headD 0)))
    rw [this]
theorem blk_back {L : List Int} {b : Blk} (h : BlkL L b) (ne : b.1 ≠ []) : itL L b.1.length (b.1.headD 0) = b.1.headD 0 * b.2 := by
  obtain ⟨s, hs⟩ : ∃ s, b.1.length = s + 1 := by
    cases e : b.1 with
    | nil => exact absurd e ne
    | cons a r => exact ⟨r.length, rfl⟩
  rw [hs]
  exact h s _ _ (blk_at h ne s (by omega)) (toL_end hs.symm)
theorem blk_first {L : List Int} {b : Blk} (h : BlkL L b) (ne : b.1 ≠ []) (nd : (b.1.map absI).Nodup) {j : Nat} (j0 : 0 < j) (j1 : j < b.1.length) : absI (itL L j (b.1.headD 0)) ≠ absI (b.1.headD 0) := by
  intro e
  have h0 := blk_at h ne j j1
  have h1 := head_at ne
  have g0 : (b.1.map absI)[j]? = some (absI (b.1.headD 0)) := by rw [List.getElem?_map, h0, ← e]; rfl
  have g1 : (b.1.map absI)[0]? = some (absI (b.1.headD 0)) := by rw [List.getElem?_map, h1]; rfl
  have l0 : j < (b.1.map absI).length := by rw [List.length_map]; exact j1
  have l1 : 0 < (b.1.map absI).length := by rw [List.length_map]; omega
  have e0 := (List.getElem?_eq_some_iff.mp g0).2
  have e1 := (List.getElem?_eq_some_iff.mp g1).2
  exact List.pairwise_iff_getElem.mp (List.nodup_iff_pairwise_ne.mp nd) 0 j l1 l0 j0 (e1.trans e0.symm)
theorem blk_cyc {n : Nat} {L : List Int} (t : Trn n L) {b : Blk} (h : BlkL L b) (ne : b.1 ≠ []) (nd : (b.1.map absI).Nodup) (hl : Lt n (b.1.headD 0)) (hc : b.2 = 1 ∨ b.2 = -1) : IsCyc L (b.1.headD 0) (cycB b) := by
  have s1 : 1 ≤ b.1.length := List.length_pos_iff.mpr ne
  have bk := blk_back h ne
  rcases hc with c | c
  · rw [c, Int.mul_one] at bk
    have e : cycB b = b.1 := by unfold cycB; rw [c]; rfl
    rw [e]
    exact ⟨s1, blk_at h ne, bk, fun j a d z => blk_first h ne nd a d (by rw [z])⟩
  · have bk : itL L b.1.length (b.1.headD 0) = -(b.1.headD 0) := by rw [bk, c]; omega
    have e : cycB b = b.1 ++ b.1.map fun x => -x := by unfold cycB; rw [c]; rfl
    have two : ∀ i, itL L (b.1.length + i) (b.1.headD 0) = -(itL L i (b.1.headD 0)) := fun i => by
      rw [Nat.add_comm, it_add, bk, it_neg t hl]
    have h0 : b.1.headD 0 ≠ 0 := fun z => by
      have := hl.1
      rw [z] at this
      exact absurd this (by decide)
    rw [e]
    refine ⟨by rw [List.length_append]; omega, fun j hj => ?_, ?_, fun j a d z => ?_⟩
    · rw [List.length_append, List.length_map] at hj
      by_cases z : j < b.1.length
      · rw [List.getElem?_append_left z]
        exact blk_at h ne j z
      · obtain ⟨i, rfl⟩ : ∃ i, j = b.1.length + i := ⟨j - b.1.length, by omega⟩
        rw [List.getElem?_append_right (by omega), Nat.add_sub_cancel_left, List.getElem?_map, blk_at h ne i (by omega), two]
        rfl
    · rw [List.length_append, List.length_map, two, bk, Int.neg_neg]
    · rw [List.length_append, List.length_map] at d
      by_cases q : j < b.1.length
      · exact blk_first h ne nd a q (by rw [z])
      · obtain ⟨i, rfl⟩ : ∃ i, j = b.1.length + i := ⟨j - b.1.length, by omega⟩
        rw [two] at z
        by_cases i0 : i = 0
        · subst i0
          have : -(b.1.headD 0) = b.1.headD 0 := z
          omega
        · exact blk_first h ne nd (j := i) (by omega) (by omega) (by rw [← absI_neg, z])
abbrev flB (Bs : List Blk) : List Int := Bs.flatMap fun b => b.1
theorem row_sub {Bs : List Blk} {b : Blk} (hb : b ∈ Bs) : b.1.Sublist (flB Bs) := by
  obtain ⟨a, c, rfl⟩ := List.append_of_mem hb
  unfold flB
  rw [List.flatMap_append, List.flatMap_cons]
  exact (List.sublist_append_left b.1 _).trans (List.sublist_append_right _ _)
theorem len_flB : ∀ {Bs : List Blk}, (∀ b ∈ Bs, b.1 ≠ []) → Bs.length ≤ (flB Bs).length
  | [], _ => Nat.le_refl _
  | b :: Bs, h => by
    have ih := len_flB (Bs := Bs) fun c hc => h c (List.mem_cons_of_mem _ hc)
    have := List.length_pos_iff.mpr (h b List.mem_cons_self)
    show Bs.length + 1 ≤ (b.1 ++ flB Bs).length
    rw [List.length_append]
    omega
structure BlksOk (n : Nat) (Bs : List Blk) : Prop where
  pm : ((flB Bs).map absI).Perm (up n)
  ne : ∀ b ∈ Bs, b.1 ≠ []
  cl : ∀ b ∈ Bs, b.2 = 1 ∨ b.2 = -1
theorem BlksOk.lt {n : Nat} {Bs : List Blk} (o : BlksOk n Bs) {b : Blk} (hb : b ∈ Bs) {r : Int} (hr : r ∈ b.1) : Lt n r := by
  have := o.pm.mem_iff.mp (List.mem_map.mpr ⟨r, (row_sub hb).subset hr, rfl⟩)
  exact up_mem.mp this
theorem BlksOk.nd {n : Nat} {Bs : List Blk} (o : BlksOk n Bs) {b : Blk} (hb : b ∈ Bs) : (b.1.map absI).Nodup :=
  List.Nodup.sublist ((row_sub hb).map absI) (o.pm.nodup_iff.mpr (up_nodup n))
theorem BlksOk.cov {n : Nat} {L : List Int} {Bs : List Blk} (t : Trn n L) (o : BlksOk n Bs) (h : ∀ b ∈ Bs, BlkL L b) : Cov n L (Bs.map cycB) := by
  constructor
  · intro c hc
    obtain ⟨b, hb, rfl⟩ := List.mem_map.mp hc
    have hh : Lt n (b.1.headD 0) := o.lt hb (List.mem_of_getElem? (head_at (o.ne b hb)))
    exact ⟨b.1.headD 0, hh, blk_cyc t (h b hb) (o.ne b hb) (o.nd hb) hh (o.cl b hb)⟩
  · intro l hl
    have : absI l ∈ (flB Bs).map absI := o.pm.mem_iff.mpr (up_mem.mpr hl)
    obtain ⟨r, hr, er⟩ := List.mem_map.mp this
    obtain ⟨b, hb, hrb⟩ := List.mem_flatMap.mp hr
    refine .inr ⟨cycB b, List.mem_map.mpr ⟨b, hb, rfl⟩, r, ?_, er⟩
    unfold cycB
    split
    · exact List.mem_append_left _ hrb
    · exact hrb
/-- what stands at k -/
def valI (kvs : List (Key × V)) (k : Int) : Int := match valV kvs (.inl k) with
  | some (.int z) => z
  | _ => 0
def putL (kvs : List (Key × V)) (n : Nat) : List Int := (up n).map (valI kvs)
theorem putL_at {kvs : List (Key × V)} {n : Nat} {k : Int} (h1 : 1 ≤ k) (h2 : k ≤ n) : (putL kvs n).getD (k - 1).toNat 0 = valI kvs k := by
  unfold putL up
  rw [List.map_map, List.getD_eq_getElem?_getD, List.getElem?_map, List.getElem?_range (by omega)]
  show valI kvs (1 + ((k - 1).toNat : Int)) = _
  rw [show 1 + ((k - 1).toNat : Int) = k by omega]
theorem absI_sg (t r : Int) : absI (t * sgI r) = absI t := by
  unfold sgI
  split
  · rw [show t * -1 = -t by omega, absI_neg]
  · rw [Int.mul_one]
theorem blk_L {kvs : List (Key × V)} {n : Nat} {b : Blk} (h : BlkIn kvs b) (lt : ∀ r ∈ b.1, Lt n r) : BlkL (putL kvs n) b := by
  intro j r t hr ht
  have hv := h j r t hr ht
  have hl := lt r (List.mem_of_getElem? hr)
  have e : valI kvs (absI r) = t * sgI r := by unfold valI; rw [hv]
  obtain ⟨h1, h2⟩ := hl
  unfold gL
  by_cases p : r > 0
  · have ea : absI r = r := by unfold absI; rw [if_neg (by omega)]
    rw [if_pos p, putL_at (by omega) (by omega), ← ea, e]
    unfold sgI
    rw [if_neg (by omega), Int.mul_one]
  · have r0 : r < 0 := by
      by_cases z : r < 0
      · exact z
      · unfold absI at h1
        rw [if_neg z] at h1
        omega
    have ea : absI r = -r := by unfold absI; rw [if_pos r0]
    rw [if_neg p, putL_at (by omega) (by omega), ← ea, e]
    unfold sgI
    rw [if_pos r0]
    omega
theorem toL_abs {b : Blk} (hc : b.2 = 1 ∨ b.2 = -1) (ne : b.1 ≠ []) : ((toL b.1 b.2).map absI).Perm (b.1.map absI) := by
  obtain ⟨row, cl⟩ := b
  cases row with
  | nil => exact absurd rfl ne
  | cons a r =>
    show (((a :: r).drop 1 ++ [a * cl]).map absI).Perm (absI a :: r.map absI)
    rw [List.map_append]
    have e : absI (a * cl) = absI a := by
      rcases hc with c | c
      · rw [show cl = 1 from c, Int.mul_one]
      · rw [show cl = -1 from c, show a * -1 = -a by omega, absI_neg]
    show (r.map absI ++ [absI (a * cl)]).Perm (absI a :: r.map absI)
    rw [e]
    exact List.perm_append_comm
theorem blk_perm {kvs : List (Key × V)} {b : Blk} (h : BlkIn kvs b) (hc : b.2 = 1 ∨ b.2 = -1) (ne : b.1 ≠ []) : ((b.1.map absI).map fun k => absI (valI kvs k)).Perm (b.1.map absI) := by
  have e : (b.1.map absI).map (fun k => absI (valI kvs k)) = (toL b.1 b.2).map absI := by
    refine List.ext_getElem? fun j => ?_
    by_cases z : j < b.1.length
    · have z2 : j < (toL b.1 b.2).length := by rw [toL_len ne]; exact z
      have hv := h j _ _ (List.getElem?_eq_getElem z) (List.getElem?_eq_getElem z2)
      rw [List.map_map, List.getElem?_map, List.getElem?_map, List.getElem?_eq_getElem z, List.getElem?_eq_getElem z2]
      show some (absI (valI kvs (absI b.1[j]))) = some (absI (toL b.1 b.2)[j])
      unfold valI
      rw [hv]
      show some (absI ((toL b.1 b.2)[j] * sgI b.1[j])) = _
      rw [absI_sg]
    · rw [List.getElem?_eq_none (by rw [List.length_map, List.length_map]; omega), List.getElem?_eq_none (by rw [List.length_map, toL_len ne]; omega)]
  rw [e]
  exact toL_abs hc ne
theorem blks_perm {kvs : List (Key × V)} : ∀ {Bs : List Blk}, (∀ b ∈ Bs, BlkIn kvs b) → (∀ b ∈ Bs, b.1 ≠ []) → (∀ b ∈ Bs, b.2 = 1 ∨ b.2 = -1) → (((flB Bs).map absI).map fun k => absI (valI kvs k)).Perm ((flB Bs).map absI)
  | [], _, _, _ => List.Perm.refl _
  | b :: Bs, h1, h2, h3 => by
    have ih := blks_perm (Bs := Bs) (fun c hc => h1 c (List.mem_cons_of_mem _ hc)) (fun c hc => h2 c (List.mem_cons_of_mem _ hc)) (fun c hc => h3 c (List.mem_cons_of_mem _ hc))
    have hb := blk_perm (h1 b List.mem_cons_self) (h3 b List.mem_cons_self) (h2 b List.mem_cons_self)
    show (((b.1 ++ flB Bs).map absI).map fun k => absI (valI kvs k)).Perm ((b.1 ++ flB Bs).map absI)
    rw [List.map_append, List.map_append]
    exact hb.append ih
theorem BlksOk.trn {n : Nat} {Bs : List Blk} {kvs : List (Key × V)} (o : BlksOk n Bs) (h : ∀ b ∈ Bs, BlkIn kvs b) : Trn n (putL kvs n) := by
  unfold Trn putL
  rw [List.map_map]
  exact ((o.pm.symm.map _).trans (blks_perm h o.ne o.cl)).trans o.pm
theorem BlksOk.val {n : Nat} {Bs : List Blk} {kvs : List (Key × V)} (o : BlksOk n Bs) (h : ∀ b ∈ Bs, BlkIn kvs b) (k : Int) (h1 : 1 ≤ k) (h2 : k ≤ n) : valV kvs (.inl k) = some (.int (valI kvs k)) := by
  have : k ∈ (flB Bs).map absI := o.pm.mem_iff.mpr (up_mem.mpr ⟨h1, h2⟩)
  obtain ⟨r, hr, rfl⟩ := List.mem_map.mp this
  obtain ⟨b, hb, hrb⟩ := List.mem_flatMap.mp hr
  obtain ⟨j, hj⟩ := List.getElem?_of_mem hrb
  have hjl := (List.getElem?_eq_some_iff.mp hj).1
  have hjt : j < (toL b.1 b.2).length := by rw [toL_len (o.ne b hb)]; exact hjl
  have ht : (toL b.1 b.2)[j]? = some (toL b.1 b.2)[j] := List.getElem?_eq_getElem hjt
  have hv := h b hb j r _ hj ht
  unfold valI
  rw [hv]
theorem BlksOk.all {n : Nat} {Bs : List Blk} {kvs : List (Key × V)} (o : BlksOk n Bs) (h : ∀ b ∈ Bs, BlkIn kvs b) : Cov n (putL kvs n) (Bs.map cycB) := o.cov (o.trn h) fun b hb => blk_L (h b hb) fun r hr => o.lt hb hr
end Toy

-- part: CY6
namespace Toy
open PySem L2
section
variable {P : Program} {w : World} {K : PySem.W.Frag} {mg : Str → Option Value} {base : Heap}
/-! ### _law_put_together -/
abbrev sPT : Stmt := s__law_put_together
abbrev nPT : List Str := ["draw", "many", "pool", "spots", "found", "sizes", "size", "row", "closed", "letter", "to", "k", "truth"]
theorem scPT : FnScope nPT ["draw", "many"] (defScope sPT) := ⟨rfl, rfl, rfl, by decide +kernel, rfl, by decide +kernel, by decide +kernel⟩
def tPopC (K : PySem.W.Frag) : TE := tBM K "list" rPopAt (tVar 2) (tCons (tCall (spNext K) [] E0 (tCons (tVar 0) (tCons (tCB (fun xs H Q => ∃ p ys, xs = [.ref p] ∧ (SqL K H p ys ∨ SqT K H p ys) ∧ Q (.int ys.length) H) (tCons (tVar 2) tNil)) tNil))) tNil)
def tSgnC (K : PySem.W.Frag) : TE := tOp (rIxL K) (tLst (tCons (tVar 12) (tCons (tUn (rU fun i => .int (-i)) (tVar 12)) tNil))) (tCall (spNext K) [] E0 (tCons (tVar 0) (tCons (tC (V.int 2)) tNil)))
def tGetC : TE := tDGet (tVar 4) (tVar 11)
def BsSz (Bs : List Blk) : Prop := ∀ b ∈ Bs, b.1.length ≤ 11
def spPT (K : PySem.W.Frag) : Sp := fun vs H Q _ => ∃ (d : Addr) (n : Nat) (sc : Addr) (ns : List Int), vs = [.ref d, .int (n : Int)] ∧ 1 ≤ n ∧ n ≤ 400 ∧ DrA K sc ns H d ∧
  ∀ (p a z : Addr) (L : List Int) (Bs : List Blk) (H' : Hp), Trn n L → Cov n L (Bs.map cycB) → BsSz Bs → (∀ b ∈ Bs, b.1 ≠ []) → Ex d H H' → DrA K sc ns H' d → H' p = some (.tup [.ref a, .ref z]) → H' a = some (.tup (L.map V.int)) → H' z = some (.lst (intsN (Bs.map sizeB))) → H z = none → Q (.ref p) H'
theorem ok_pt {f fX : Addr} {fd fdX : FuncData} (F : Fun K "_law_put_together" "_law_put_together" sPT f fd) (B : Bl mg) (X : Df K mg "_law_next" sNext ["draw", "size"] fX fdX) (GX : FnOk P w K mg base CX0 2 fX fdX ["draw", "size"] (spNext K)) : FnOk P w K mg base CX0 3 f fd ["draw", "many"] (spPT K) := by
  refine F.ok scPT (fun vs H Q E h => ?_) (fun cdv A outer s H vs Q E hr h => ?_)
  · obtain ⟨d, n, sc, ns, rfl, _⟩ := h
    rfl
  · obtain ⟨d, n, sc, ns, rfl, n1, n4, hD, q⟩ := h
    have hu := hu_of hr
    refine ⟨_, pss_cons (ps_asg (pe_tup (pa_cons (pe_listRg rfl (by rfl) B.list (prg_2 (by rfl) B.range pe_int (pe_op op_add (pv 1) pe_int))) (pa_cons (pe_lst pa_nil) pa_nil))) (pg_tup rfl (pgs_cons (pg_name (i := 2) scPT.nd rfl (Or.inr rfl)) (pgs_cons (pg_name (i := 3) scPT.nd rfl (Or.inl rfl)) pgs_nil))))
      (pss_cons (ps_asg (pe_tup (pa_cons (pe_dnewK) (pa_cons (pe_lst pa_nil) pa_nil))) (pg_tup rfl (pgs_cons (pg_name (i := 4) scPT.nd rfl (Or.inr rfl)) (pgs_cons (pg_name (i := 5) scPT.nd rfl (Or.inl rfl)) pgs_nil))))
      (pss_cons (ps_while PassesOwn.never (pt_cmpR (op_neE hr.units) (pv 2) (pe_lst pa_nil) (nomark _)) (pss_cons (ps_set (i := 6) scPT.nd rfl (Or.inl rfl) (pe_callB ((call_min2 rfl)) (by rfl) B.min (by decide +kernel) (pa_cons (pe_ix ix_list (pe_lst (pa_cons (pe_int) (pa_cons (pe_int) (pa_cons (pe_int) (pa_cons (pe_int) (pa_cons (pe_int) (pa_cons (pe_int) (pa_cons (pe_int) (pa_cons (pe_int) pa_nil))))))))) (pe_call GX hr rfl X.g X.F.kp X.b .nil pass0 (pa_cons (pv 0) (pa_cons (pe_int) pa_nil))) (fun _ _ => rfl)) (pa_cons (pe_callB call_len_seq (by rfl) B.len PySem.boot_len (pa_cons (pv 2) pa_nil)) pa_nil))))
      (pss_cons (ps_setLc (i := 7) (own := [("k", 11)]) (g := gName 11) (tt := tYes) (te := tPopC K) rfl scPT.nd rfl rfl (sw_true rfl rfl rfl (by decide +kernel)) (pi_range1 rfl B.range (pa_cons (pv 6) pa_nil)) (blkOk_by (own := [("k", 11)]) (N := nPT) (sc := (defScope sPT)) (by decide +kernel)) (fun _ _ _ _ _ => pg_name (i := 11) scPT.nd rfl (Or.inl rfl)) (fun _ _ _ _ _ => pts_nil) (fun _ _ _ _ _ => pe_bm PySem.F.plainAttrs_list PySem.F.slot_list_pop PySem.F.type_list_pop mt_popAt (pv 2) (pa_cons (pe_call GX hr rfl X.g X.F.kp X.b .nil pass0 (pa_cons (pv 0) (pa_cons (pe_callB call_len_seq (by rfl) B.len PySem.boot_len (pa_cons (pv 2) pa_nil)) pa_nil))) pa_nil)))
      (pss_cons (ps_setLc (i := 7) (own := [("truth", 12)]) (g := gName 12) (tt := tYes) (te := tSgnC K) rfl scPT.nd rfl rfl (sw_true rfl rfl rfl (by decide +kernel)) (pi_list (pv 7)) (blkOk_by (own := [("truth", 12)]) (N := nPT) (sc := (defScope sPT)) (by decide +kernel)) (fun _ _ _ _ _ => pg_name (i := 12) scPT.nd rfl (Or.inl rfl)) (fun _ _ _ _ _ => pts_nil) (fun _ _ _ _ _ => pe_ix ix_list (pe_lst (pa_cons (pv 12) (pa_cons (pe_un un_neg (pv 12)) pa_nil))) (pe_call GX hr rfl X.g X.F.kp X.b .nil pass0 (pa_cons (pv 0) (pa_cons (pe_int) pa_nil))) (fun _ _ => rfl)))
      (pss_cons (ps_set (i := 8) scPT.nd rfl (Or.inl rfl) (pe_ix ix_list (pe_lst (pa_cons (pe_int) (pa_cons (pe_int) (pa_cons (pe_un un_neg pe_int) pa_nil)))) (pe_call GX hr rfl X.g X.F.kp X.b .nil pass0 (pa_cons (pv 0) (pa_cons (pe_int) pa_nil))) (fun _ _ => rfl)))
      (pss_cons (ps_for PassesOwn.never rfl (pi_zip (by rfl) B.zip (pa_cons (pv 7) (pa_cons (pe_op op_cat (pe_slice sl_list (pv 7) (po_some pe_int) po_none) (pe_lst (pa_cons (pe_op op_mul (pe_ix ix_list (pv 7) (pe_int) (fun _ _ => rfl)) (pv 8)) pa_nil))) pa_nil))) (pg_tup rfl (pgs_cons (pg_name (i := 9) scPT.nd rfl (Or.inl rfl)) (pgs_cons (pg_name (i := 10) scPT.nd rfl (Or.inl rfl)) pgs_nil))) (pss_one (ps_dput hu (pv 4) (pe_callB call_abs (by rfl) B.abs (by decide +kernel) (pa_cons (pv 9) pa_nil)) (pe_op op_mul (pv 10) (pe_ix ix_list (pe_lst (pa_cons (pe_int) (pa_cons (pe_un un_neg pe_int) pa_nil))) (pe_callTy (T := "int") call_int1 (by rfl) B.int (by decide +kernel) (pa_cons (pe_cmpR op_lt (pv 9) (pe_int) (nomark _)) pa_nil)) (fun _ _ => rfl))) rfl)))
      (pss_one (ps_expr (pe_bm PySem.F.plainAttrs_list PySem.F.slot_list_append PySem.F.type_list_append mt_append (pv 5) (pa_cons (pe_op op_mul (pv 6) (pe_ix ix_list (pe_lst (pa_cons (pe_int) (pa_cons (pe_int) pa_nil))) (pe_callTy (T := "int") call_int1 (by rfl) B.int (by decide +kernel) (pa_cons (pe_cmpR op_lt (pv 8) (pe_int) (nomark _)) pa_nil)) (fun _ _ => rfl))) pa_nil))))))))))
      (pss_one (ps_ret (pe_tup (pa_cons (pe_callTy (T := "tuple") call_tuple_of (by rfl) B.tuple (by decide +kernel) (pa_cons (pe_lc (own := [("k", 11)]) (g := gName 11) (tt := tYes) (te := tGetC) rfl scPT.nd (pi_range2 rfl B.range (pa_cons (pe_int) (pa_cons (pe_op op_add (pv 1) (pe_int)) pa_nil))) (blkOk_by (own := [("k", 11)]) (N := nPT) (sc := (defScope sPT)) (by decide +kernel)) (fun _ _ _ _ _ => pg_name (i := 11) scPT.nd rfl (Or.inl rfl)) (fun _ _ _ _ _ => pts_nil) (fun _ _ _ _ _ => pe_dget hu (pv 4) (pv 11) (fun _ _ => rfl))) pa_nil)) (pa_cons (pv 5) pa_nil))))))), ?_⟩
    show tSeq _ _ _ [some (.ref d), some (.int (n : Int)), none, none, none, none, none, none, none, none, none, none, none] H
    have eZ : sizeLine = 16777216 := rfl
    have nz : ∀ {H' : Hp} {a b : Addr} {o : HO}, H' a = some o → H' b = none → b ≠ a := fun h g z => by rw [z, h] at g; cases g
    refine seq_gen (fun σ' H' => ∃ (pl l3 : Addr), σ' = [some (.ref d), some (.int (n : Int)), some (.ref pl), some (.ref l3), none, none, none, none, none, none, none, none, none] ∧ Ex d H H' ∧ DrA K sc ns H' d ∧ H' pl = some (.lst ((up n).map V.int)) ∧ H pl = none) (fun nx hnx => ?_) ?_
    · unfold tAsg
      walk_at "rd"
      refine ⟨_, rfl, (n : Int), 1, rfl, rfl, 1, (n : Int) + 1, rfl, rfl, RgOk.of_le (by decide) (by omega) (by decide) (by omega), fun pl hpl => ⟨Nat.zero_le _, fun l3 hl3 => ?_⟩⟩
      rw [up_rg n (by omega), Int.toNat_natCast] at hl3 ⊢
      refine ⟨by show 2 ≤ sizeLine; decide, fun p hp => ⟨p, _, rfl, SqT.of upd_same, rfl, _, _, rfl, _, _, rfl, rfl, hnx _ _ ⟨pl, l3, rfl, ?_⟩⟩⟩
      have s1 := Same.new (o := .lst ((up n).map V.int)) hpl
      have s2 := Same.new (o := .lst []) hl3
      have s3 := Same.new (o := .tup [V.ref pl, V.ref l3]) hp
      have s := Same.trans s1 (Same.trans s2 s3)
      exact ⟨Ex.same s, DrA.same s hD, s3 _ _ (s2 _ _ upd_same), hpl⟩
    rintro σ1 H1 ⟨pl, l3, rfl, E1, D1, hpl, npl⟩
    refine seq_gen (fun σ' H' => ∃ (fo sz : Addr), σ' = [some (.ref d), some (.int (n : Int)), some (.ref pl), some (.ref l3), some (.ref fo), some (.ref sz), none, none, none, none, none, none, none] ∧ Ex d H H' ∧ DrA K sc ns H' d ∧ H' pl = some (.lst ((up n).map V.int)) ∧ H' fo = some (.dK []) ∧ H fo = none ∧ H' sz = some (.lst []) ∧ H sz = none ∧ pl ≠ sz) (fun nx hnx => ?_) ?_
    · unfold tAsg
      walk_at "rd"
      refine fun fo hfo => ⟨Nat.zero_le _, fun sz hsz => ⟨by show 2 ≤ sizeLine; decide, fun p hp => ⟨p, _, rfl, SqT.of upd_same, rfl, _, _, rfl, _, _, rfl, rfl, hnx _ _ ⟨fo, sz, rfl, ?_⟩⟩⟩⟩
      have s1 := Same.new (o := .dK []) hfo
      have s2 := Same.new (o := .lst []) hsz
      have s3 := Same.new (o := .tup [V.ref fo, V.ref sz]) hp
      have s := Same.trans s1 (Same.trans s2 s3)
      have nsz := none_back E1 D1 (Same.noneC s1 hsz)
      exact ⟨Ex.trans E1 (Ex.same s), DrA.same s D1, s _ _ hpl, s3 _ _ (s2 _ _ upd_same), none_back E1 D1 hfo, s3 _ _ upd_same, nsz, (nz (s1 _ _ hpl) hsz).symm⟩
    rintro σ2 H2 ⟨fo, sz, rfl, E2, D2, hpl2, hfo, nfo, hsz, nsz, nps⟩
    have npd : pl ≠ d := hD.nd npl
    have nfd : fo ≠ d := hD.nd nfo
    have nsd : sz ≠ d := hD.nd nsz
    refine seq_gen (fun σ' H' => ∃ (l6 l7 l8 l9 l10 : Option V) (Bs : List Blk) (kvs : List (Key × V)), σ' = [some (.ref d), some (.int (n : Int)), some (.ref pl), some (.ref l3), some (.ref fo), some (.ref sz), l6, l7, l8, l9, l10, none, none] ∧ Ex d H H' ∧ DrA K sc ns H' d ∧ H' fo = some (.dK kvs) ∧ H' sz = some (.lst (intsN (Bs.map sizeB))) ∧ BsSz Bs ∧ BlksOk n Bs ∧ ∀ b ∈ Bs, BlkIn kvs b) (fun nx hnx => ?_) ?_
    · refine while_by (Pv := fun σ' H' => ∃ (l6 l7 l8 l9 l10 : Option V) (Bs : List Blk) (rest : List Int) (kvs : List (Key × V)), σ' = [some (.ref d), some (.int (n : Int)), some (.ref pl), some (.ref l3), some (.ref fo), some (.ref sz), l6, l7, l8, l9, l10, none, none] ∧ Ex d H H' ∧ DrA K sc ns H' d ∧ H' pl = some (.lst (rest.map V.int)) ∧ H' fo = some (.dK kvs) ∧ H' sz = some (.lst (intsN (Bs.map sizeB))) ∧ BsSz Bs ∧ ((flB Bs).map absI ++ rest).Perm (up n) ∧ (∀ b ∈ Bs, b.1 ≠ []) ∧ (∀ b ∈ Bs, b.2 = 1 ∨ b.2 = -1) ∧ (∀ b ∈ Bs, BlkIn kvs b) ∧ kvs.length + rest.length ≤ n) (μ := fun _ H' => lenLC H' pl)
        ⟨none, none, none, none, none, [], up n, [], rfl, E2, D2, hpl2, hfo, hsz, fun b hb => (nomatch hb), List.Perm.refl _, fun b hb => (nomatch hb), fun b hb => (nomatch hb), fun b hb => (nomatch hb), by rw [up_len]; exact Nat.le_of_eq (Nat.zero_add n)⟩ ?_ ?_
      · rintro σ H3 ⟨l6, l7, l8, l9, l10, Bs, rest, kvs, rfl, E3, D3, hpl3, hfo3, hsz3, bz, pm, ne, cl, bi, kl⟩
        generalize hA : tSeq _ _ = A
        walk_at "rd"
        refine ⟨Nat.zero_le _, fun p0 hp0 => ?_⟩
        have sp0 := Same.new (o := .lst []) hp0
        refine ⟨pl, p0, _, rfl, rfl, SqL.of (sp0 _ _ hpl3), SqL.of upd_same, _, rfl, ?_⟩
        have E4 := Ex.trans E3 (Ex.same sp0)
        have D4 := DrA.same sp0 D3
        have hpl4 := sp0 _ _ hpl3
        have hfo4 := sp0 _ _ hfo3
        have hsz4 := sp0 _ _ hsz3
        have emu : lenLC H3 pl = rest.length := by rw [lenLC_eq hpl3, List.length_map]
        rw [emu]
        generalize upd H3 p0 (.lst []) = H4 at E4 D4 hpl4 hfo4 hsz4
        by_cases rne : rest = []
        · subst rne
          rw [List.append_nil] at pm
          exact iteF (hnx _ _ ⟨_, _, _, _, _, Bs, kvs, rfl, E4, D4, hfo4, hsz4, bz, ⟨pm, ne, cl⟩, bi⟩)
        have rl : 1 ≤ rest.length := List.length_pos_iff.mpr rne
        have et : (!(rest.map V.int).isEmpty) = true := by
          cases rest with
          | nil => exact absurd rfl rne
          | cons a r => rfl
        rw [et]
        refine iteT ?_
        subst hA
        clear hpl3 hfo3 hsz3 E3 D3 sp0 hp0 emu et
        have rn : rest.length ≤ n := by omega
        refine seq_gen (fun σ' H' => ∃ z6 : Nat, σ' = [some (.ref d), some (.int (n : Int)), some (.ref pl), some (.ref l3), some (.ref fo), some (.ref sz), some (.int (z6 : Int)), l7, l8, l9, l10, none, none] ∧ 1 ≤ z6 ∧ z6 ≤ 11 ∧ z6 ≤ rest.length ∧ Ex d H H' ∧ DrA K sc ns H' d ∧ H' pl = some (.lst (rest.map V.int)) ∧ H' fo = some (.dK kvs) ∧ H' sz = some (.lst (intsN (Bs.map sizeB)))) (fun nx2 hnx2 => ?_) ?_
        · walk_at "rd"
          refine ⟨by show 8 ≤ sizeLine; decide, fun p hp => ?_⟩
          have sp := Same.new (o := .lst [V.int 1, V.int 2, V.int 3, V.int 4, V.int 5, V.int 7, V.int 11, V.int 2]) hp
          refine ⟨d, 8, sc, ns, rfl, by decide, DrA.same sp D4, fun r H5 r0 r1 E5 D5 => ?_⟩
          have hp5 := E5 _ _ upd_same (D4.nd hp)
          have E6 := Ex.trans (Ex.trans E4 (Ex.same sp)) E5
          have hpl6 := E5 _ _ (sp _ _ hpl4) npd
          have hfo6 := E5 _ _ (sp _ _ hfo4) nfd
          have hsz6 := E5 _ _ (sp _ _ hsz4) nsd
          have pick : ∃ z : Nat, 1 ≤ z ∧ z ≤ 11 ∧ atI ([V.int 1, V.int 2, V.int 3, V.int 4, V.int 5, V.int 7, V.int 11, V.int 2] : List V) r = some (.int (z : Int)) := by
            obtain ⟨j, rfl⟩ := Int.eq_ofNat_of_zero_le r0
            have hj : j < 8 := by omega
            match j, hj with
            | 0, _ => exact ⟨1, by decide, by decide, rfl⟩
            | 1, _ => exact ⟨2, by decide, by decide, rfl⟩
            | 2, _ => exact ⟨3, by decide, by decide, rfl⟩
            | 3, _ => exact ⟨4, by decide, by decide, rfl⟩
            | 4, _ => exact ⟨5, by decide, by decide, rfl⟩
            | 5, _ => exact ⟨7, by decide, by decide, rfl⟩
            | 6, _ => exact ⟨11, by decide, by decide, rfl⟩
            | 7, _ => exact ⟨2, by decide, by decide, rfl⟩
          obtain ⟨z, z1, z2, hz⟩ := pick
          refine p_ix (SqL.of hp5) hz ⟨pl, _, rfl, .inl (SqL.of hpl6), _, _, rfl, hnx2 _ _ ?_⟩
          rw [List.length_map]
          by_cases c : ((rest.length : Nat) : Int) < (z : Int)
          · rw [if_pos c]
            exact ⟨rest.length, rfl, rl, by omega, Nat.le_refl _, E6, D5, hpl6, hfo6, hsz6⟩
          · rw [if_neg c]
            exact ⟨z, rfl, z1, z2, by omega, E6, D5, hpl6, hfo6, hsz6⟩
        clear E4 D4 hpl4 hfo4 hsz4
        rintro σ5 H5 ⟨z6, rfl, z1, z2, z3, E5, D5, hpl5, hfo5, hsz5⟩
        refine seq_gen (fun σ' H' => ∃ (f2 : Addr) (fs rest2 : List Int), σ' = [some (.ref d), some (.int (n : Int)), some (.ref pl), some (.ref l3), some (.ref fo), some (.ref sz), some (.int (z6 : Int)), some (.ref f2), l8, l9, l10, none, none] ∧ f2 ≠ d ∧ fs.length = z6 ∧ (fs ++ rest2).Perm rest ∧ H' f2 = some (.lst (fs.map V.int)) ∧ Ex d H H' ∧ DrA K sc ns H' d ∧ H' pl = some (.lst (rest2.map V.int)) ∧ H' fo = some (.dK kvs) ∧ H' sz = some (.lst (intsN (Bs.map sizeB)))) (fun nx2 hnx2 => ?_) ?_
        · refine ⟨_, rfl, (z6 : Int), rfl, by omega, by omega, fun D hD' => ?_⟩
          have nD := none_back E5 D5 hD'
          have nDd := D5.nd hD'
          have nDp : D ≠ pl := nz hpl5 hD'
          have nDf : D ≠ fo := nz hfo5 hD'
          have nDs : D ≠ sz := nz hsz5 hD'
          have npf : pl ≠ fo := fun e => by rw [e, hfo5] at hpl5; cases hpl5
          refine lc_range (lo := 0) (n := (z6 : Int).toNat) (fun j Hj => Ex d H Hj ∧ DrA K sc ns Hj d ∧ Hj fo = some (.dK kvs) ∧ Hj sz = some (.lst (intsN (Bs.map sizeB))) ∧ ∃ fs rest2 : List Int, Hj D = some (.lst (fs.map V.int)) ∧ Hj pl = some (.lst (rest2.map V.int)) ∧ fs.length = j ∧ (fs ++ rest2).Perm rest)
            ⟨Ex.up E5 nD, DrA.up hD D5 E5 nD, Same.new hD' _ _ hfo5, Same.new hD' _ _ hsz5, [], rest, upd_same, Same.new hD' _ _ hpl5, rfl, List.Perm.refl _⟩ ?_ ?_
          · rintro k Hj hk ⟨Ej, Dj, hfoj, hszj, fs, rest2, hDj, hpj, lf, pm2⟩
            have lr : fs.length + rest2.length = rest.length := by
              have := pm2.length_eq
              rw [List.length_append] at this
              exact this
            rw [Int.toNat_natCast] at hk
            refine ⟨rfl, yesT ?_⟩
            show tPopC K [some (.ref d), some (.int (n : Int)), some (.ref pl), some (.ref l3), some (.ref fo), some (.ref sz), some (.int (z6 : Int)), l7, l8, l9, l10, some (.int (0 + (k : Int))), none] Hj _
            unfold tPopC
            walk_at "rd"
            refine ⟨.inl ⟨rfl, _, SqL.of hpj⟩, pl, _, rfl, .inl (SqL.of hpj), ?_⟩
            rw [List.length_map]
            refine ⟨d, (rest2.length : Int), sc, ns, rfl, by omega, Dj, fun r H' r0' r1' E' D' => ?_⟩
            obtain ⟨z, rfl⟩ := Int.eq_ofNat_of_zero_le r0'
            have zl : z < rest2.length := by omega
            have hp' := E' _ _ hpj npd
            have hd' := E' _ _ hDj nDd
            have gz : (rest2.map V.int)[z]? = some (V.int rest2[z]) := by rw [List.getElem?_map, List.getElem?_eq_getElem zl]; rfl
            refine ⟨pl, _, (z : Int), z, _, rfl, rfl, hp', by omega, by omega, seqIx (by rw [List.length_map]; exact zl), gz, fs.map V.int, ?_, by rw [List.length_map]; exact small1000 (by omega), ?_⟩
            · rw [upd_ne nDp]
              exact hd'
            have Ea := Ex.trans Ej E'
            have Eb := Ex.up (o := .lst ((rest2.map V.int).eraseIdx z)) Ea npl
            have Db := DrA.up (o := .lst ((rest2.map V.int).eraseIdx z)) hD D' Ea npl
            refine ⟨Ex.up Eb nD, DrA.up hD Db Eb nD, by rw [upd_ne (Ne.symm nDf), upd_ne (Ne.symm npf)]; exact E' _ _ hfoj nfd, by rw [upd_ne (Ne.symm nDs), upd_ne (Ne.symm nps)]; exact E' _ _ hszj nsd, fs ++ [rest2[z]], rest2.eraseIdx z, by rw [upd_same, List.map_append]; rfl, by rw [upd_ne (Ne.symm nDp), upd_same, map_erase], by rw [List.length_append, lf]; rfl, ?_⟩
            rw [List.append_assoc]
            exact (List.Perm.append_left fs (erase_perm rest2 z _ (List.getElem?_eq_getElem zl))).trans pm2
          · rintro H4 ⟨E4, D4, hfo4, hsz4, fs, rest2, hD4, hpl4, lf, pm2⟩
            rw [Int.toNat_natCast] at lf
            exact hnx2 _ _ ⟨D, fs, rest2, rfl, nDd, lf, pm2, hD4, E4, D4, hpl4, hfo4, hsz4⟩
        clear E5 D5 hpl5 hfo5 hsz5
        rintro σ6 H6 ⟨f2, fs, rest2, rfl, nf2d, lf, pm2, hf2, E6, D6, hpl6, hfo6, hsz6⟩
        have fup : ∀ x ∈ fs, 1 ≤ x ∧ x ≤ n := fun x hx => up_mem.mp (pm.mem_iff.mp (List.mem_append_right _ (pm2.mem_iff.mp (List.mem_append_left _ hx))))
        have fab : fs.map absI = fs := by
          have : fs.map absI = fs.map id := List.map_congr_left fun x hx => by
            have := fup x hx
            show absI x = x
            unfold absI
            rw [if_neg (by omega)]
          rw [this, List.map_id]
        refine seq_gen (fun σ' H' => ∃ (f3 : Addr) (gs : List Int), σ' = [some (.ref d), some (.int (n : Int)), some (.ref pl), some (.ref l3), some (.ref fo), some (.ref sz), some (.int (z6 : Int)), some (.ref f3), l8, l9, l10, none, none] ∧ f3 ≠ d ∧ gs.map absI = fs ∧ H' f3 = some (.lst (gs.map V.int)) ∧ Ex d H H' ∧ DrA K sc ns H' d ∧ H' pl = some (.lst (rest2.map V.int)) ∧ H' fo = some (.dK kvs) ∧ H' sz = some (.lst (intsN (Bs.map sizeB)))) (fun nx2 hnx2 => ?_) ?_
        · refine ⟨_, rfl, f2, rfl, ⟨_, SqL.of hf2⟩, fun D hD' => ?_⟩
          have nD := none_back E6 D6 hD'
          have nDd := D6.nd hD'
          have nDf : f2 ≠ D := (nz hf2 hD').symm
          refine lc_list (K := K) (a := f2) (xs := fs.map V.int) (fun j Hj => Ex d H6 Hj ∧ Ex d H Hj ∧ DrA K sc ns Hj d ∧ ∃ gs : List Int, Hj D = some (.lst (gs.map V.int)) ∧ gs.length = j ∧ gs.map absI = (fs.take j).map absI)
            ⟨Ex.new hD', Ex.up E6 nD, DrA.up hD D6 E6 nD, [], upd_same, rfl, rfl⟩ (fun j Hj _ ⟨e, _⟩ => SqL.of (e _ _ hf2 nf2d)) ?_ ?_
          · rintro k x Hj hk ⟨Ek, Ej, Dj, gs, hDj, lg, ag⟩
            rw [List.getElem?_map] at hk
            cases ez : fs[k]? with
            | none => rw [ez] at hk; cases hk
            | some v =>
            rw [ez] at hk
            cases hk
            have kl : k < fs.length := (List.getElem?_eq_some_iff.mp ez).1
            refine ⟨rfl, yesT ?_⟩
            show tSgnC K [some (.ref d), some (.int (n : Int)), some (.ref pl), some (.ref l3), some (.ref fo), some (.ref sz), some (.int (z6 : Int)), some (.ref f2), l8, l9, l10, none, some (.int v)] Hj _
            unfold tSgnC
            walk_at "rd"
            refine ⟨by show 2 ≤ sizeLine; decide, fun p hp => ?_⟩
            have sp1 : Same Hj (upd Hj p (.lst [V.int v, V.int (-v)])) := Same.new hp
            have hp1 : upd Hj p (.lst [V.int v, V.int (-v)]) p = some (.lst [V.int v, V.int (-v)]) := upd_same
            have npd := Dj.nd hp
            generalize upd Hj p (.lst [V.int v, V.int (-v)]) = Hk at *
            refine ⟨d, 2, sc, ns, rfl, by decide, DrA.same sp1 Dj, fun r Hm r0 r1' Em Dm => ?_⟩
            have pick : ∃ y : Int, atI [V.int v, V.int (-v)] r = some (.int y) ∧ absI y = absI v := by
              rcases at_two (a := V.int v) (b := V.int (-v)) r0 r1' with ⟨_, e⟩ | ⟨_, e⟩
              · exact ⟨_, e, rfl⟩
              · exact ⟨_, e, absI_neg v⟩
            obtain ⟨y, haty, hy⟩ := pick
            refine p_ix (SqL.of (Em _ _ hp1 npd)) haty ?_
            have Ejm : Ex d Hj Hm := Ex.trans (Ex.same sp1) Em
            refine ⟨gs.map V.int, Ejm _ _ hDj nDd, by rw [List.length_map]; exact small1000 (by omega), Ex.up (Ex.trans Ek Ejm) hD', Ex.up (Ex.trans Ej Ejm) nD, DrA.up hD Dm (Ex.trans Ej Ejm) nD, gs ++ [y], by rw [upd_same, List.map_append]; rfl, by rw [List.length_append, lg]; rfl, ?_⟩
            rw [List.map_append, ag, List.take_add_one, ez]
            simp [hy]
          · rintro H5 ⟨Ek, E5, D5, gs, hD5, lg, ag⟩
            rw [List.length_map, List.take_length, fab] at ag
            exact hnx2 _ _ ⟨D, gs, rfl, nDd, ag, hD5, E5, D5, Ek _ _ hpl6 npd, Ek _ _ hfo6 nfd, Ek _ _ hsz6 nsd⟩
        clear E6 D6 hpl6 hfo6 hsz6 hf2
        rintro σ7 H7 ⟨f3, gs, rfl, nf3d, ag, hf3, E7, D7, hpl7, hfo7, hsz7⟩
        have lg : gs.length = z6 := by rw [← lf, ← ag, List.length_map]
        refine seq_gen (fun σ' H' => ∃ (c : Int), σ' = [some (.ref d), some (.int (n : Int)), some (.ref pl), some (.ref l3), some (.ref fo), some (.ref sz), some (.int (z6 : Int)), some (.ref f3), some (.int c), l9, l10, none, none] ∧ (c = 1 ∨ c = -1) ∧ H' f3 = some (.lst (gs.map V.int)) ∧ Ex d H H' ∧ DrA K sc ns H' d ∧ H' pl = some (.lst (rest2.map V.int)) ∧ H' fo = some (.dK kvs) ∧ H' sz = some (.lst (intsN (Bs.map sizeB)))) (fun nx2 hnx2 => ?_) ?_
        · walk_at "rd"
          refine ⟨by show 3 ≤ sizeLine; decide, fun p hp => ?_⟩
          have sp := Same.new (o := .lst [V.int 1, V.int 1, V.int (-1)]) hp
          refine ⟨d, 3, sc, ns, rfl, by decide, DrA.same sp D7, fun r H5 r0 r1 E5 D5 => ?_⟩
          have hp5 := E5 _ _ upd_same (D7.nd hp)
          have pick : ∃ z : Int, (z = 1 ∨ z = -1) ∧ atI ([V.int 1, V.int 1, V.int (-1)] : List V) r = some (.int z) := by
            obtain ⟨j, rfl⟩ := Int.eq_ofNat_of_zero_le r0
            have hj : j < 3 := by omega
            match j, hj with
            | 0, _ => exact ⟨1, .inl rfl, rfl⟩
            | 1, _ => exact ⟨1, .inl rfl, rfl⟩
            | 2, _ => exact ⟨-1, .inr rfl, rfl⟩
          obtain ⟨z, zc, hz⟩ := pick
          have ee := Ex.trans (Ex.same (d := d) sp) E5
          exact p_ix (SqL.of hp5) hz (hnx2 _ _ ⟨z, rfl, zc, ee _ _ hf3 nf3d, Ex.trans E7 ee, D5, ee _ _ hpl7 npd, ee _ _ hfo7 nfd, ee _ _ hsz7 nsd⟩)
        clear E7 D7 hpl7 hfo7 hsz7 hf3
        rintro σ8 H8 ⟨c, rfl, cc, hf3, E8, D8, hpl8, hfo8, hsz8⟩
        have gne : gs ≠ [] := fun z => by rw [z] at lg; exact absurd lg (by show ¬ 0 = z6; omega)
        refine seq_gen (fun σ' H' => ∃ (l9 l10 : Option V) (kvs2 : List (Key × V)), σ' = [some (.ref d), some (.int (n : Int)), some (.ref pl), some (.ref l3), some (.ref fo), some (.ref sz), some (.int (z6 : Int)), some (.ref f3), some (.int c), l9, l10, none, none] ∧ Ex d H H' ∧ DrA K sc ns H' d ∧ H' pl = some (.lst (rest2.map V.int)) ∧ H' fo = some (.dK kvs2) ∧ H' sz = some (.lst (intsN (Bs.map sizeB))) ∧ kvs2.length ≤ kvs.length + z6 ∧ (∀ k, k ∉ gs.map absI → valV kvs2 (.inl k) = valV kvs (.inl k)) ∧ BlkIn kvs2 (gs, c)) (fun nx2 hnx2 => ?_) ?_
        · unfold tFor
          refine ⟨_, rfl, _, rfl, ((1 : Nat) : Int), rfl, f3, _, rfl, SqL.of hf3, fun p1 hp1 => ?_⟩
          have g1 : 1 ≤ gs.length := by omega
          rw [cut_from _ 1 g1] at *
          have s1 := Same.new (o := .lst ((gs.drop 1).map V.int)) hp1
          have at0 : atI (gs.map V.int) 0 = some (V.int (gs.headD 0)) := at_nat (L := gs) (j := 0) (by omega) |>.trans (by cases gs with | nil => exact absurd rfl gne | cons a r => rfl)
          refine ⟨_, rfl, f3, _, 0, _, rfl, rfl, SqL.of (s1 _ _ hf3), at0, ⟨_, rfl, _, _, rfl, rfl, .inr (by rcases cc with rfl | rfl <;> decide), by show 1 ≤ sizeLine; decide, fun p2 hp2 => ?_⟩⟩
          have s2 := Same.new (o := .lst [V.int (gs.headD 0 * c)]) hp2
          refine ⟨p1, p2, _, _, rfl, rfl, s2 _ _ upd_same, upd_same, by rw [List.length_map, List.length_drop]; exact Nat.le_of_lt (small1000 (by show gs.length - 1 + 1 ≤ 1000; omega)), fun p3 hp3 => ?_⟩
          rw [show (gs.drop 1).map V.int ++ [V.int (gs.headD 0 * c)] = (toL gs c).map V.int by unfold toL; rw [List.map_append]; rfl] at *
          have s3 := Same.new (o := .lst ((toL gs c).map V.int)) hp3
          have s13 := Same.trans s1 (Same.trans s2 s3)
          have hf9 := s13 _ _ hf3
          have hp9 : upd (upd (upd H8 p1 (.lst ((gs.drop 1).map V.int))) p2 (.lst [V.int (gs.headD 0 * c)])) p3 (.lst ((toL gs c).map V.int)) p3 = some (.lst ((toL gs c).map V.int)) := upd_same
          have E9 := Ex.trans E8 (Ex.same s13)
          have D9 := DrA.same s13 D8
          have hpl9 := s13 _ _ hpl8
          have hfo9 := s13 _ _ hfo8
          have hsz9 := s13 _ _ hsz8
          generalize upd (upd (upd H8 p1 (.lst ((gs.drop 1).map V.int))) p2 (.lst [V.int (gs.headD 0 * c)])) p3 (.lst ((toL gs c).map V.int)) = Hb at hf9 hp9 E9 D9 hpl9 hfo9 hsz9
          have nff : f3 ≠ fo := fun e => by rw [e, hfo9] at hf9; cases hf9
          have npf : p3 ≠ fo := fun e => by rw [e, hfo9] at hp9; cases hp9
          have nplf : pl ≠ fo := fun e => by rw [e, hfo9] at hpl9; cases hpl9
          have nszf : sz ≠ fo := fun e => by rw [e, hfo9] at hsz9; cases hsz9
          have ltl : (toL gs c).length = gs.length := toL_len gne
          have gnd : (gs.map absI).Nodup := by
            rw [ag]
            exact ((pm2.nodup_iff.mpr ((pm.nodup_iff.mpr (up_nodup n)).sublist (List.sublist_append_right _ _))).sublist (List.sublist_append_left _ _))
          refine ⟨f3, p3, _, _, rfl, SqL.of hf9, SqL.of hp9, ?_⟩
          refine RZ.for_zipL (K := K) (xs := gs.map V.int) (ys := (toL gs c).map V.int) (by rw [List.length_map, List.length_map, ltl]) (fun i σ' H' => ∃ (l9 l10 : Option V) (kvs2 : List (Key × V)), σ' = [some (.ref d), some (.int (n : Int)), some (.ref pl), some (.ref l3), some (.ref fo), some (.ref sz), some (.int (z6 : Int)), some (.ref f3), some (.int c), l9, l10, none, none] ∧ Ex fo Hb H' ∧ Ex d H H' ∧ DrA K sc ns H' d ∧ H' fo = some (.dK kvs2) ∧ kvs2.length ≤ kvs.length + i ∧ (∀ k, k ∉ (gs.take i).map absI → valV kvs2 (.inl k) = valV kvs (.inl k)) ∧ ∀ (j : Nat) (r t : Int), j < i → gs[j]? = some r → (toL gs c)[j]? = some t → valV kvs2 (.inl (absI r)) = some (.int (t * sgI r)))
            ⟨_, _, kvs, rfl, fun a o h _ => h, E9, D9, hfo9, Nat.le_refl _, fun k _ => rfl, fun j r t a => absurd a (Nat.not_lt_zero j)⟩ (fun i σ' H' w => by
              obtain ⟨_, _, _, _, e, _⟩ := w
              exact ⟨SqL.of (e _ _ hf9 nff), SqL.of (e _ _ hp9 npf)⟩) ?_ ?_
          · rintro i x y T σ' H' hx hy ⟨l9, l10, kvs2, rfl, ef, eh, dr, hf', kl2, old, new⟩ hT
            rw [List.getElem?_map] at hx hy
            cases hr : gs[i]? with
            | none => rw [hr] at hx; cases hx
            | some r =>
            cases ht : (toL gs c)[i]? with
            | none => rw [ht] at hy; cases hy
            | some t =>
            rw [hr] at hx
            rw [ht] at hy
            cases hx
            cases hy
            refine ⟨T, _, rfl, SqT.of upd_same, rfl, _, _, rfl, _, _, rfl, rfl, ?_⟩
            have sT := Same.new (o := .tup [V.int r, V.int t]) hT
            show sDPut _ _ _ _ [some (.ref d), some (.int (n : Int)), some (.ref pl), some (.ref l3), some (.ref fo), some (.ref sz), some (.int (z6 : Int)), some (.ref f3), some (.int c), some (.int r), some (.int t), none, none] _
            unfold sDPut
            walk_at "rd"
            refine ⟨by show 2 ≤ sizeLine; decide, fun p hp => .inr ⟨_, rfl, ?_⟩⟩
            have sp := Same.new (o := .lst [V.int 1, V.int (-1)]) hp
            have at2 : atI ([V.int 1, V.int (-1)] : List V) (if decide (r < 0) = true then 1 else 0) = some (V.int (sgI r)) := by
              unfold sgI
              by_cases c0 : r < 0
              · rw [if_pos c0, if_pos (decide_eq_true c0)]; rfl
              · rw [if_neg c0, if_neg (fun z => c0 (of_decide_eq_true z))]; rfl
            have sgb : -(2 ^ 64) < sgI r ∧ sgI r < 2 ^ 64 := by
              unfold sgI
              split <;> decide
            have s' := Same.trans sT sp
            have hfz := s' _ _ hf'
            have hil : i < gs.length := (List.getElem?_eq_some_iff.mp hr).1
            refine p_ix (SqL.of upd_same) at2 ⟨_, _, rfl, rfl, .inr sgb, fo, _, rfl, DPut.k (k := .inl (absI r)) hfz (small1000 (by omega)), ?_⟩
            have lk := length_putK kvs2 (Sum.inl (absI r) : Key) (V.int (t * sgI r))
            refine ⟨_, _, putK kvs2 (.inl (absI r)) (.int (t * sgI r)), rfl, fun a o h ne2 => by rw [upd_ne ne2]; exact s' _ _ (ef a o h ne2), Ex.up (Ex.trans eh (Ex.same s')) nfo, DrA.up hD (DrA.same s' dr) (Ex.trans eh (Ex.same s')) nfo, upd_same, by omega, fun k hk => ?_, fun j r2 t2 hj hr2 ht2 => ?_⟩
            · rw [List.take_add_one, hr, List.map_append, List.mem_append] at hk
              rw [valV_put, if_neg (fun z => hk (.inr (by rw [Sum.inl.inj z]; exact List.mem_cons_self)))]
              exact old k fun z => hk (.inl z)
            · rw [valV_put]
              by_cases ji : j = i
              · subst ji
                rw [hr] at hr2
                rw [ht] at ht2
                cases hr2
                cases ht2
                rw [if_pos rfl]
              · have hjl : j < gs.length := (List.getElem?_eq_some_iff.mp hr2).1
                have ne3 : absI r2 ≠ absI r := fun e => by
                  have := List.pairwise_iff_getElem.mp (List.nodup_iff_pairwise_ne.mp gnd) j i (by rw [List.length_map]; exact hjl) (by rw [List.length_map]; exact hil) (by omega)
                  rw [List.getElem_map, List.getElem_map, (List.getElem?_eq_some_iff.mp hr2).2, (List.getElem?_eq_some_iff.mp hr).2] at this
                  exact this e
                rw [if_neg (fun z => ne3 (Sum.inl.inj z))]
                exact new j r2 t2 (by omega) hr2 ht2
          · rintro σ' H' ⟨l9, l10, kvs2, rfl, ef, eh, dr, hf', kl2, old, new⟩
            rw [List.length_map] at kl2 old new
            rw [List.take_of_length_le (Nat.le_refl _)] at old
            exact hnx2 _ _ ⟨l9, l10, kvs2, rfl, eh, dr, ef _ _ hpl9 nplf, hf', ef _ _ hsz9 nszf, by omega, old, fun j r t hr ht => new j r t (List.getElem?_eq_some_iff.mp hr).1 hr ht⟩
        rintro σ9 H9 ⟨l9, l10, kvs2, rfl, E9, D9, hpl9, hfo9, hsz9, kl2, old, new⟩
        walk_at "rd"
        have nsf : fo ≠ sz := fun e => by rw [e, hsz9] at hfo9; cases hfo9
        refine ⟨.inl ⟨rfl, _, SqL.of hsz9⟩, by show 2 ≤ sizeLine; decide, fun p hp => .inr ⟨_, rfl, ?_⟩⟩
        have sp := Same.new (o := .lst [V.int 1, V.int 2]) hp
        have at2 : atI ([V.int 1, V.int 2] : List V) (if decide (c < 0) = true then 1 else 0) = some (V.int (((if c < 0 then 2 else 1) : Nat) : Int)) := by
          by_cases c0 : c < 0
          · rw [if_pos c0, if_pos (decide_eq_true c0)]; rfl
          · rw [if_neg c0, if_neg (fun z => c0 (of_decide_eq_true z))]; rfl
        refine p_ix (SqL.of upd_same) at2 ⟨_, _, rfl, rfl, .inl ⟨by omega, by omega⟩, sz, _, _, rfl, rfl, sp _ _ hsz9, ?_, ?_⟩
        · have h1 := len_flB ne
          have h2 := pm.length_eq
          rw [List.length_append, List.length_map, up_len] at h2
          rw [show (intsN (Bs.map sizeB)).length = Bs.length by unfold intsN; rw [List.length_map, List.length_map]]
          omega
        have E10 := Ex.trans E9 (Ex.same sp)
        have D10 := DrA.same sp D9
        have lr : fs.length + rest2.length = rest.length := by
          have := pm2.length_eq
          rw [List.length_append] at this
          exact this
        have inp : ∀ (H' : Hp), True := fun _ => trivial
        refine ⟨⟨_, _, _, _, _, Bs ++ [(gs, c)], rest2, kvs2, rfl, Ex.up E10 nsz, DrA.up hD D10 E10 nsz, by rw [upd_ne nps]; exact sp _ _ hpl9, by rw [upd_ne nsf]; exact sp _ _ hfo9, ?_, ?_, ?_, ?_, ?_, ?_, by omega⟩, ?_⟩
        · rw [upd_same, List.map_append]
          show _ = some (HO.lst (intsN (Bs.map sizeB ++ [sizeB (gs, c)])))
          unfold intsN
          rw [List.map_append]
          show _ = some (HO.lst ((Bs.map sizeB).map (fun (z : Nat) => V.int (z : Int)) ++ [V.int ((gs.length * (if c < 0 then 2 else 1) : Nat) : Int)]))
          rw [lg]
          rfl
        · intro b hb
          rcases List.mem_append.mp hb with h | h
          · exact bz b h
          · rw [List.mem_singleton.mp h]
            show gs.length ≤ 11
            omega
        · unfold flB
          rw [List.flatMap_append, List.map_append, List.append_assoc]
          show ((flB Bs).map absI ++ ((gs ++ []).map absI ++ rest2)).Perm (up n)
          rw [List.append_nil, ag]
          exact (List.Perm.append_left _ pm2).trans pm
        · intro b hb
          rcases List.mem_append.mp hb with h | h
          · exact ne b h
          · rw [List.mem_singleton.mp h]
            exact gne
        · intro b hb
          rcases List.mem_append.mp hb with h | h
          · exact cl b h
          · rw [List.mem_singleton.mp h]
            exact cc
        · intro b hb
          rcases List.mem_append.mp hb with h | h
          · intro j r t hr ht
            rw [old (absI r) fun hm => ?_]
            · exact bi b h j r t hr ht
            · have n1 := pm.nodup_iff.mpr (up_nodup n)
              have n2 := (List.nodup_append.mp n1).2.2
              rw [ag] at hm
              exact n2 (absI r) (List.mem_map.mpr ⟨r, (row_sub h).subset (List.mem_of_getElem? hr), rfl⟩) (absI r) (pm2.mem_iff.mp (List.mem_append_left _ hm)) rfl
          · rw [List.mem_singleton.mp h]
            exact new
        · rw [lenLC_eq (by rw [upd_ne nps]; exact sp _ _ hpl9), List.length_map]
          omega
      · rintro σ H3 R R' hR ⟨v, hv, z0, g⟩
        exact ⟨v, hv, z0, fun p hp => by obtain ⟨a, b, xs, e1, e2, ha, hb, c, e, r⟩ := g p hp; exact ⟨a, b, xs, e1, e2, ha, hb, c, e, hR _ _ r⟩⟩
    rintro σ' H' ⟨l6, l7, l8, l9, l10, Bs, kvs, rfl, E4, D4, hfo4, hsz4, bz, ok, bi⟩
    walk_at "rd"
    have hv := ok.val bi
    refine ⟨_, rfl, _, _, rfl, rfl, 1, (n : Int) + 1, rfl, by omega, fun D hD' => ?_⟩
    rw [show ((n : Int) + 1 - 1).toNat = n by omega]
    refine lc_range (lo := 1) (n := n) (fun j Hj => Same H' Hj ∧ Hj D = some (.lst (((putL kvs n).take j).map V.int))) ⟨Same.new hD', upd_same⟩ ?_ ?_
    · rintro k Hj hk ⟨sj, hDj⟩
      refine ⟨rfl, yesT ?_⟩
      show tGetC [some (.ref d), some (.int (n : Int)), some (.ref pl), some (.ref l3), some (.ref fo), some (.ref sz), l6, l7, l8, l9, l10, some (.int (1 + (k : Int))), none] Hj _
      unfold tGetC
      have lp : (putL kvs n).length = n := by unfold putL; rw [List.length_map, up_len]
      have hg : DGet Hj fo (V.int (1 + (k : Int))) (some (V.int (valI kvs (1 + (k : Int))))) := by
        rw [← hv (1 + (k : Int)) (by omega) (by omega)]
        exact DGet.k (k := .inl (1 + (k : Int))) (sj _ _ hfo4)
      refine ⟨_, rfl, _, rfl, fo, _, rfl, hg, _, hDj, by rw [List.length_map, List.length_take]; exact small1000 (by omega), Same.uplC sj hD', ?_⟩
      have ek : (putL kvs n)[k]? = some (valI kvs (1 + (k : Int))) := by unfold putL up; rw [List.map_map, List.getElem?_map, List.getElem?_range hk]; rfl
      rw [upd_same, List.take_add_one, ek, List.map_append]
      rfl
    · rintro H5 ⟨s5, hD5⟩
      have lp : (putL kvs n).length = n := by unfold putL; rw [List.length_map, up_len]
      rw [List.take_of_length_le (Nat.le_of_eq lp)] at hD5
      refine ⟨D, _, rfl, .inl ⟨SqL.of hD5, fun a ha => ⟨by show 2 ≤ sizeLine; decide, fun p hp => ?_⟩⟩⟩
      have sa := Same.new (o := .tup ((putL kvs n).map V.int)) ha
      have sp := Same.new (o := .tup [V.ref a, V.ref sz]) hp
      have s' := Same.trans s5 (Same.trans sa sp)
      exact q p a sz (putL kvs n) Bs _ (ok.trn bi) (ok.all bi) bz ok.ne (Ex.trans E4 (Ex.same s')) (DrA.same s' D4) upd_same (sp _ _ upd_same) (s' _ _ hsz4) nsz

end
end Toy

-- part: RG
namespace L2
open PySem PySem.Spec PyProof.Rows
section
variable {X : Cx}
/-- repr of nested lists and tuples -/
def rRepr (K : PySem.W.Frag) : List V → Hp → VK → Prop := fun xs H Q => ∃ a d, xs = [.ref a] ∧ Dp K H (.ref a) d ∧ d.showable = true ∧ d.hasDict = false ∧ d.depth ≤ 60 ∧ d.shown.length ≤ sizeLine ∧ Q (.str d.shown) H
theorem call_reprD (hg : X.A.guards = some []) (hu : X.A.units + 100 < cLine) : CallR X (.builtin "repr") (rRepr X.K) := by
  intro pins s σ H xs us Q I r h
  obtain ⟨a, d, rfl, hd, hs, hn, hp, hz, q⟩ := h
  obtain ⟨u, rfl, ru⟩ := vals1 r
  obtain ⟨as, hr⟩ := Dp.reads I d _ _ hd ru
  cases ru
  exact PySem.repr_of_reads' hr hs (PyData.noDict_hsm hn) hg (by omega) (fun _ _ e => e) (fun h' u tk hk => ⟨.str _, H, I.un (Un.kept hk) (I.hok.kept hk), ⟨_, rfl⟩, q⟩) hz
end
/-- a def that is called where no object's text is under way -/
structure FnG (P : Program) (w : World) (K : PySem.W.Frag) (mg : Str → Option Value) (base : Heap) (k : Nat) (f : Addr) (fd : FuncData) (ps : List Str) (sp : Sp) : Prop where
  len : ∀ vs H Q E, sp vs H Q E → vs.length = ps.length
  run : ∀ (A : Around) (outer : List Env) (s : Shared) (H : Hp) (args : Args) (us : List Value) (vs : List V) (Q : VK) (E : XK), A.guards = some [] → Room k A → Env0 P w K mg base A outer s H → BindsTo s fd args (ps.zip us) → Vals vs us → sp vs H Q E →
    codeAny (model P w) A (.call (.ref f) args) (CR CX0 outer P w H s Q E) s
theorem deeper_guards {A : Around} {env : Env} (h : A.guards = some []) : (A.deeper env).guards = some [] := by
  show _ = _
  simp [Around.deeper, h]
section
variable {P : Program} {w : World} {K : PySem.W.Frag} {mg : Str → Option Value} {base : Heap}
theorem FnG.of {x qual : Str} {st : Stmt} {f : Addr} {fd : FuncData} {N ps : List Str} {k : Nat} {sp : Sp} (F : Fun K x qual st f fd) (S : FnScope N ps (defScope st)) (len : ∀ vs H Q E, sp vs H Q E → vs.length = ps.length)
    (hbody : ∀ (cdv : Value) (A : Around) (outer : List Env) (s : Shared) (H : Hp) (vs : List V) (Q : VK) (E : XK), A.guards = some [] → Room k (A.deeper (envOfC qual (defScope st) s.heap.objs.size f cdv)) → sp vs H Q E →
      ∃ t, PSs (cxOf CX0 P w K mg base N qual (defScope st) f cdv A outer s H E).nox (defBody st) t ∧ t { nx := fun _ H' => Q .non H', rt := Q } (start N vs) H) : FnG P w K mg base (k + 1) f fd ps sp := by
  obtain ⟨oc, od, kV, doc, pm, an, cdv, ct, osl, rfl, lk, hcd⟩ := F.ex
  refine ⟨len, fun A outer s H args us vs Q E hg hr e0 hb r hsp => ?_⟩
  obtain ⟨t, ht, hq⟩ := hbody cdv A outer s H vs Q E hg (hr.deeper _) hsp
  have kp := fun b o e => (e0.bs b o e).1
  have KX : K.In s.heap := e0.mod.kin.keeps kp
  have kinds : ∀ y ∈ ps.zip us, (defScope st).names.lookup y.1 = some .local ∨ ((defScope st).names.lookup y.1 = some .cell ∧ ((cellsFrom (s.heap.objs.size + 1) (defScope st).names []).lookup y.1).isSome = true) := fun y hy =>
    (S.par y.1 (List.of_mem_zip (show (y.1, y.2) ∈ _ from hy)).1).imp id fun q => ⟨q, PySem.W.cellsFrom_some _ _ _ (.inl q)⟩
  refine codeAny_call_function hr.depth (KX _ _ lk) rfl S.co S.gen rfl (PySem.W.codeRec_of KX hcd) (hb _ _ _ _ (wpAny_newFunctionEnv_cells S.kind kinds fun env he s1 x => ?_))
  subst he
  refine ⟨(e0.mod.nolimit.keeps kp).keeps x.toInCall.keep, codeAny_func ?_⟩
  have I : Inv (cxOf CX0 P w K mg base N qual (defScope st) f cdv A outer s H E) [] (start N vs) H s1 := inv_start S hr.hd e0 (len _ _ _ _ hsp) r x
  refine wpAny_mono (ht.nox.run [] s1 (start N vs) H _ I hq) (fun fl s' hs => ?_) fun e s' hs => hs
  cases fl with
  | ret u =>
    obtain ⟨v, _, H', J, rv, q⟩ := hs
    exact ⟨v, H', J.os, J.bare, J.base, J.hok, rv, q⟩
  | next =>
    obtain ⟨_, H', J, q⟩ := hs
    exact ⟨V.non, H', J.os, J.bare, J.base, J.hok, rfl, q⟩
  | brk => exact hs.elim fun _ h => h.elim fun _ h => False.elim h.2
  | cont => exact hs.elim fun _ h => h.elim fun _ h => False.elim h.2
variable {X : Cx} {k : Nat} {f : Addr} {fd : FuncData} {ps : List Str} {sp : Sp} {x : Str} {p pos : Pos} {e : Expr} {es : List Expr} {t : TA}
theorem pe_callG (F : FnG X.prog X.w X.K X.mg X.base k f fd ps sp) (hgu : X.A.guards = some []) (hr : Room k X.A) (hg : Gl X x) (hm : X.mg x = some (.ref f)) (hk : PySem.W.keepIn X.K (.ref f) = true) (hb : Binds X.K fd ps [])
    (ha : PA X (e :: es) t) (hdb : (x == ("__debug__" : Str)) = false := by decide) (he : starEach (e :: es) X.env = (false, eval e X.env) :: starEach es X.env := by rfl) (hpl : (backTo pos (starEach es X.env)).any (·.1) = false := by rfl) :
    PE X (.Call (.Name x p) (e :: es) [] pos) (tCall sp [] E0 t) := by
  refine ⟨fun pins s σ H Q I h => wpAny_Call_Name_kw (ld_glob I hg hm (PySem.W.callWith_K (h₀ := X.base) I.ok.mod.kin hk (thn (ha.run pos pins s σ H _ I h) fun us s1 ⟨vs, H1, I1, r, q⟩ => ⟨I1.kIn, ?_⟩) he hpl) hdb)⟩
  have q : sp (vs ++ []) H1 Q E0 := q
  rw [List.append_nil] at q
  have b1 := hb s1 us I1.kIn (by rw [List.append_nil, ← r.length]; exact F.len _ _ _ _ q)
  rw [List.append_nil] at b1
  refine wpAny_call (codeAny_mono (F.run X.A X.stack s1 H1 ⟨us, []⟩ us vs Q E0 hgu hr I1.env0 b1 r q) fun r s' hq => ?_)
  cases r with
  | error e => exact pass0 pins σ H1 s1 e s' I1 hq
  | ok fl =>
    cases fl with
    | ret u => exact I1.after hq
    | next => exact False.elim hq
    | brk => exact False.elim hq
    | cont => exact False.elim hq
end
end L2

-- part: TX
namespace Toy
open PySem PySem.Spec PyProof.Rows L2
/-! ### how long the texts are -/
theorem piled_le {m : Nat} : ∀ {ts : List Str}, (∀ t ∈ ts, t.length ≤ m) → piled ts ≤ ts.length * (m + 2)
  | [], _ => Nat.zero_le _
  | t :: r, h => by
    have h1 := h t List.mem_cons_self
    have h2 := piled_le fun t ht => h t (List.mem_cons_of_mem _ ht)
    rw [piled_cons, List.length_cons, Nat.add_mul, Nat.one_mul]
    omega
theorem list_len (ts : List Str) : (listText ts).length ≤ piled ts + 2 := by
  cases ts with
  | nil => decide
  | cons t r =>
    have h := textFrom_length_pos r 1 (("[" : Str) ++ (if (0 : Nat) > 0 then ", " else "" : String) ++ t) (Nat.succ_pos 0)
    have e : ((("[" : Str) ++ (if (0 : Nat) > 0 then ", " else "" : String) ++ t)).length = 1 + t.length := by
      rw [strLen_append, strLen_append]; rfl
    have hX : (listText (t :: r)).length = (textFrom 1 (("[" : Str) ++ (if (0 : Nat) > 0 then ", " else "" : String) ++ t) r).length + 1 := by
      show (textFrom 0 "[" (t :: r) ++ "]").length = _
      rw [strLen_append]; rfl
    rw [hX, h, e, piled_cons]
    omega
theorem int_len4 : ∀ n : Nat, n < 401 → ((toString (n : Int) : String) : Str).length ≤ 4 ∧ ((toString (-(n : Int)) : String) : Str).length ≤ 4 := by decide +kernel
theorem int_shown {x : Int} (h : x.natAbs ≤ 400) : (PyData.shown (.int x)).length ≤ 4 := by
  simp only [PyData.shown]
  have q := int_len4 x.natAbs (by omega)
  rcases Int.natAbs_eq x with e | e
  · rw [e]
    exact q.1
  · rw [e]
    exact q.2
theorem all_shown {α : Type} (f : α → PyData) (m : Nat) : ∀ l : List α, (∀ x ∈ l, (f x).shown.length ≤ m) → (PyData.shownAll (l.map f)).length = l.length ∧ ∀ t ∈ PyData.shownAll (l.map f), t.length ≤ m
  | [], _ => by simp [PyData.shownAll]
  | x :: r, h => by
    obtain ⟨h1, h2⟩ := all_shown f m r fun y hy => h y (List.mem_cons_of_mem _ hy)
    simp only [List.map_cons, PyData.shownAll, List.length_cons, h1, true_and]
    intro t ht
    rcases List.mem_cons.mp ht with rfl | ht
    · exact h x List.mem_cons_self
    · exact h2 t ht
theorem showable_ints : ∀ l : List Int, (∀ x ∈ l, x.natAbs ≤ 400) → PyData.showableAll (l.map PyData.int) = true
  | [], _ => by simp [PyData.showableAll]
  | x :: r, h => by
    have h1 := h x List.mem_cons_self
    have h2 : x.natAbs.log2 < 1920 := Nat.lt_of_le_of_lt (Nat.log2_le_self _) (by omega)
    simp only [List.map_cons, PyData.showableAll, PyData.showable, showable_ints r fun y hy => h y (List.mem_cons_of_mem _ hy), Bool.and_true, decide_eq_true_eq]
    exact h2
theorem noDict_ints : ∀ l : List Int, PyData.hasDictAll (l.map PyData.int) = false
  | [] => by simp [PyData.hasDictAll]
  | x :: r => by simp [PyData.hasDictAll, PyData.hasDict, noDict_ints r]
/-- a list or a tuple of letters -/
def dI (z : Bool × List Int) : PyData := if z.1 = true then .list (z.2.map PyData.int) else .tuple (z.2.map PyData.int)
def Fits (n : Nat) (l : List Int) : Prop := l.length ≤ n ∧ ∀ x ∈ l, x.natAbs ≤ 400
theorem dI_shown {z : Bool × List Int} {n : Nat} (h : Fits n z.2) : (dI z).shown.length ≤ n * 6 + 2 ∧ (dI z).showable = true ∧ (dI z).hasDict = false ∧ (dI z).depth ≤ 2 := by
  obtain ⟨b, l⟩ := z
  obtain ⟨h1, h2⟩ := h
  obtain ⟨a1, a2⟩ := all_shown PyData.int 4 l fun x hx => int_shown (h2 x hx)
  have a3 := piled_le a2
  rw [a1] at a3
  have h1 : l.length ≤ n := h1
  have a4 : l.length * (4 + 2) ≤ n * 6 := Nat.mul_le_mul_right _ h1
  have d := dep_intsD l
  have s := showable_ints l h2
  have nd := noDict_ints l
  cases b with
  | true =>
    have a5 := list_len (PyData.shownAll (l.map PyData.int))
    refine ⟨?_, ?_, ?_, ?_⟩
    · show (PyData.shown (.list _)).length ≤ _
      simp only [PyData.shown]
      omega
    · show PyData.showable (.list _) = true
      simp only [PyData.showable]
      exact s
    · show PyData.hasDict (.list _) = false
      simp only [PyData.hasDict]
      exact nd
    · show PyData.depth (.list _) ≤ 2
      simp only [PyData.depth]
      omega
  | false =>
    have a5 := fmt_text (PyData.shownAll (l.map PyData.int))
    refine ⟨?_, ?_, ?_, ?_⟩
    · show (PyData.shown (.tuple _)).length ≤ _
      simp only [PyData.shown]
      omega
    · show PyData.showable (.tuple _) = true
      simp only [PyData.showable]
      exact s
    · show PyData.hasDict (.tuple _) = false
      simp only [PyData.hasDict]
      exact nd
    · show PyData.depth (.tuple _) ≤ 2
      simp only [PyData.depth]
      omega
end Toy

-- part: TX3
namespace Toy
open PySem L2
section
variable {P : Program} {w : World} {K : PySem.W.Frag} {mg : Str → Option Value} {base : Heap} {C : Addr}
/-! ### lists of clauses as data -/
def dLcl (cs : List (List Int)) : PyData := .list (cs.map dTup)
theorem shaped_lcl (cs : List (List Int)) : SeqAt.shaped (dLcl cs) = true := by
  have h := dep_cls cs
  unfold SeqAt.shaped dLcl
  rw [Bool.and_eq_true]
  refine ⟨by simp [PyData.canLay0, can_cls], decide_eq_true ?_⟩
  simp only [PyData.depth]
  omega
theorem eqv_lcl (a b : List (List Int)) : PyData.eqv (dLcl a) (dLcl b) = decide (a = b) := by
  unfold dLcl
  simp only [PyData.eqv]
  exact eqvAll_cls a b
theorem eqv_tup (a b : List Int) : PyData.eqv (dTup a) (dTup b) = decide (a = b) := by
  unfold dTup
  simp only [PyData.eqv]
  exact eqvAll_ints a b
theorem dp_lcl {H : Hp} {l : Addr} {bs : List Addr} {cs : List (List Int)} (h : SqL K H l (bs.map V.ref)) (t : TupsAt H bs cs) : Dp K H (.ref l) (dLcl cs) := .lst h (dpAll_cls t)
end
theorem showable_tups : ∀ (l : List (List Int)), (∀ p ∈ l, Fits 800 p) → PyData.showableAll (l.map dTup) = true
  | [], _ => by simp [PyData.showableAll]
  | p :: r, h => by
    have h1 := (dI_shown (z := (false, p)) (h p List.mem_cons_self)).2.1
    have h1 : (dTup p).showable = true := h1
    simp only [List.map_cons, PyData.showableAll, h1, showable_tups r fun y hy => h y (List.mem_cons_of_mem _ hy), Bool.and_true]
theorem noDict_tups : ∀ (l : List (List Int)), (∀ p ∈ l, Fits 800 p) → PyData.hasDictAll (l.map dTup) = false
  | [], _ => by simp [PyData.hasDictAll]
  | p :: r, h => by
    have h1 := (dI_shown (z := (false, p)) (h p List.mem_cons_self)).2.2.1
    have h1 : (dTup p).hasDict = false := h1
    simp only [List.map_cons, PyData.hasDictAll, h1, noDict_tups r fun y hy => h y (List.mem_cons_of_mem _ hy), Bool.or_false]
theorem lcl_shown {l : List (List Int)} (h : ∀ p ∈ l, Fits 800 p) (hl : l.length ≤ 400) : (dLcl l).showable = true ∧ (dLcl l).hasDict = false ∧ (dLcl l).depth ≤ 60 ∧ (dLcl l).shown.length ≤ sizeLine := by
  have eZ : sizeLine = 16777216 := rfl
  obtain ⟨a1, a2⟩ := all_shown dTup 4802 l fun p hp => (dI_shown (z := (false, p)) (h p hp)).1
  have a3 := piled_le a2
  rw [a1] at a3
  have a5 := list_len (PyData.shownAll (l.map dTup))
  have d := dep_cls l
  refine ⟨?_, ?_, ?_, ?_⟩
  · show PyData.showable (.list _) = true
    simp only [PyData.showable]
    exact showable_tups l h
  · show PyData.hasDict (.list _) = false
    simp only [PyData.hasDict]
    exact noDict_tups l h
  · show PyData.depth (.list _) ≤ 60
    simp only [PyData.depth]
    omega
  · show (PyData.shown (.list _)).length ≤ _
    simp only [PyData.shown]
    omega

end Toy

-- part: CY7
namespace Toy
open PySem L2
theorem least_back {L : List Int} {k : Int} : ∀ (m p : Nat), p ≤ m → 1 ≤ p → itL L p k = k → ∃ q, 1 ≤ q ∧ itL L q k = k ∧ ∀ j, 0 < j → j < q → itL L j k ≠ k
  | 0, p, h, h1, _ => absurd h1 (by omega)
  | m + 1, p, h, h1, e => by
    by_cases c : ∃ j, 0 < j ∧ j < p ∧ itL L j k = k
    · obtain ⟨j, j0, jp, ej⟩ := c
      exact least_back m j (by omega) j0 ej
    · exact ⟨p, h1, e, fun j a b z => c ⟨j, a, b, z⟩⟩
theorem cyc_ex {n : Nat} {L : List Int} (t : Trn n L) {k : Int} (h : Lt n k) : ∃ c, IsCyc L k c := by
  obtain ⟨p, p1, _, pb⟩ := it_back t h
  obtain ⟨q, q1, qb, qn⟩ := least_back p p (Nat.le_refl _) p1 pb
  exact ⟨_, IsCyc.of_range q1 qb qn⟩
theorem IsCyc.short {n : Nat} {L : List Int} (t : Trn n L) {k : Int} (h : Lt n k) {c : List Int} (hc : IsCyc L k c) : c.length ≤ 2 * n := by
  obtain ⟨p, p1, p2, pb⟩ := it_back t h
  exact Nat.le_trans (Nat.le_of_dvd p1 ((hc.dvd p).mp pb)) p2
theorem rdL_all {n : Nat} {L : List Int} (t : Trn n L) : ∀ m, m ≤ n → (∀ c ∈ rdL L m, ∃ k, Lt n k ∧ IsCyc L k c) ∧ (rdL L m).length ≤ m ∧ ∀ j : Nat, 1 ≤ j → j ≤ m → gL L (j : Int) = (j : Int) ∨ (j : Int) ∈ seenR (rdL L m)
  | 0, _ => ⟨fun c hc => (nomatch hc), Nat.le_refl _, fun j a b => absurd a (by omega)⟩
  | m + 1, h => by
    obtain ⟨h1, h2, h3⟩ := rdL_all t m (by omega)
    have hlt : Lt n ((m + 1 : Nat) : Int) := ⟨by unfold absI; rw [if_neg (by omega)]; omega, by unfold absI; rw [if_neg (by omega)]; omega⟩
    by_cases c : ((m + 1 : Nat) : Int) ∈ seenR (rdL L m) ∨ gL L ((m + 1 : Nat) : Int) = ((m + 1 : Nat) : Int)
    · rw [rdL_out c]
      refine ⟨h1, by omega, fun j a b => ?_⟩
      by_cases z : j = m + 1
      · subst z
        exact c.symm
      · exact h3 j a (by omega)
    · obtain ⟨d, hd⟩ := cyc_ex t hlt
      rw [rdL_in (fun z => c (.inl z)) (fun z => c (.inr z)) hd]
      refine ⟨fun e he => ?_, by rw [List.length_append]; show (rdL L m).length + 1 ≤ m + 1; omega, fun j a b => ?_⟩
      · rcases List.mem_append.mp he with he | he
        · exact h1 e he
        · rw [List.mem_singleton.mp he]
          exact ⟨_, hlt, hd⟩
      · rw [seenR_app]
        by_cases z : j = m + 1
        · subst z
          refine .inr (.inr (List.mem_map.mpr ⟨((m + 1 : Nat) : Int), ?_, ?_⟩))
          · have := hd.at' 0 hd.pos
            exact List.mem_of_getElem? this
          · unfold absI
            rw [if_neg (by omega)]
        · exact (h3 j a (by omega)).imp id .inl
theorem rdL_cov {n : Nat} {L : List Int} (t : Trn n L) : Cov n L (rdL L n) := by
  obtain ⟨h1, _, h3⟩ := rdL_all t n (Nat.le_refl _)
  refine ⟨h1, fun l hl => ?_⟩
  obtain ⟨j, hj⟩ := Int.eq_ofNat_of_zero_le (show (0 : Int) ≤ absI l by have := hl.1; omega)
  have g := h3 j (by have := hl.1; omega) (by have := hl.2; omega)
  have el : l = (j : Int) ∨ l = -(j : Int) := by
    unfold absI at hj
    split at hj <;> omega
  rcases g with e | e
  · left
    rcases el with rfl | rfl
    · exact e
    · rw [gL_neg L (by have := hl.1; rw [absI_neg] at this; exact this), e]
  · right
    obtain ⟨x, hx, ex⟩ := List.mem_map.mp e
    obtain ⟨c, hc, hxc⟩ := List.mem_flatten.mp hx
    exact ⟨c, hc, x, hxc, by rw [ex, hj]⟩
theorem rdL_fits {n : Nat} {L : List Int} (t : Trn n L) (h4 : n ≤ 400) : (∀ c ∈ rdL L n, Fits 800 c) ∧ (rdL L n).length ≤ 400 := by
  obtain ⟨h1, h2, _⟩ := rdL_all t n (Nat.le_refl _)
  refine ⟨fun c hc => ?_, by omega⟩
  obtain ⟨k, hk, cy⟩ := h1 c hc
  refine ⟨by have := cy.short t hk; omega, fun x hx => ?_⟩
  have hl := (cy.lt t hk hx).2
  rw [absI_nat] at hl
  omega
theorem size_dvd : ∀ k, k < 12 → 0 < k → k * 1 ∣ 55440 ∧ k * 2 ∣ 55440 := by decide +kernel
theorem sizes_ok {Bs : List Blk} (h : BsSz Bs) (ne : ∀ b ∈ Bs, b.1 ≠ []) : ∀ z ∈ Bs.map sizeB, 0 < z ∧ z ∣ 55440 := by
  intro z hz
  obtain ⟨b, hb, rfl⟩ := List.mem_map.mp hz
  have h1 := h b hb
  have h2 := List.length_pos_iff.mpr (ne b hb)
  have := size_dvd b.1.length (by omega) h2
  unfold sizeB
  split
  · exact ⟨by omega, this.2⟩
  · exact ⟨by omega, this.1⟩
theorem cyc_sizes (Bs : List Blk) : (Bs.map cycB).map List.length = Bs.map sizeB := by
  rw [List.map_map]
  exact List.map_congr_left fun b _ => cycB_len b
def itUp (L : List Int) (n m : Nat) : List Int := (up n).map (itL L m)
theorem itUp_succ (L : List Int) (n m : Nat) : joined (itUp L n m) L = itUp L n (m + 1) := by
  unfold joined itUp
  rw [List.map_map]
  rfl
theorem itUp_zero (L : List Int) (n : Nat) : itUp L n 0 = up n := by
  unfold itUp
  exact (List.map_congr_left fun x _ => rfl).trans (List.map_id _)
theorem itUp_still {n : Nat} {L : List Int} (t : Trn n L) {Cs : List (List Int)} (o : Cov n L Cs) (m : Nat) : itUp L n m = up n ↔ lcmL (Cs.map List.length) ∣ m := by
  rw [lcmL_dvd]
  have e : (∀ x ∈ Cs.map List.length, x ∣ m) ↔ ∀ c ∈ Cs, c.length ∣ m := by
    constructor
    · exact fun h c hc => h _ (List.mem_map.mpr ⟨c, hc, rfl⟩)
    · intro h x hx
      obtain ⟨c, hc, rfl⟩ := List.mem_map.mp hx
      exact h c hc
  rw [e, o.dvd t]
  have hu : ∀ x ∈ up n, Lt n x := fun x hx => by
    have := up_mem.mp hx
    exact ⟨by unfold absI; rw [if_neg (by omega)]; omega, by unfold absI; rw [if_neg (by omega)]; omega⟩
  constructor
  · intro h l hl
    have key : ∀ x ∈ up n, itL L m x = x := fun x hx => by
      unfold itUp at h
      obtain ⟨j, hj⟩ := List.getElem?_of_mem hx
      have h1 : ((up n).map (itL L m))[j]? = (up n)[j]? := by rw [h]
      rw [List.getElem?_map, hj] at h1
      exact Option.some.inj h1
    have hj : absI l ∈ up n := up_mem.mpr hl
    have k := key _ hj
    have el : l = absI l ∨ l = -(absI l) := by
      unfold absI
      split <;> omega
    rcases el with e | e
    · rw [e]; exact k
    · rw [e, it_neg t (hu _ hj), k]
  · intro h
    unfold itUp
    exact (List.map_congr_left fun x hx => h x (hu x hx)).trans (List.map_id _)
end Toy

-- part: CY8
namespace Toy
open PySem L2
theorem shaped_tup (l : List Int) : SeqAt.shaped (dTup l) = true := by
  have h := dep_intsD l
  unfold SeqAt.shaped dTup
  rw [Bool.and_eq_true]
  refine ⟨by simp [PyData.canLay0, can_ints], decide_eq_true ?_⟩
  simp only [PyData.depth]
  omega
theorem trn_it {n : Nat} {L : List Int} (t : Trn n L) : ∀ m, Trn n (itUp L n m)
  | 0 => by rw [itUp_zero]; exact trn_up n
  | m + 1 => by rw [← itUp_succ]; exact trn_joined (trn_it t m) t
section
variable {P : Program} {w : World} {K : PySem.W.Frag} {mg : Str → Option Value} {base : Heap}
abbrev sLaw : Stmt := s_law
abbrev nLaw : List Str := ["script", "draw", "turn", "sort", "many", "one", "sizes", "due", "found", "now", "step"]
theorem scLaw : FnScope nLaw ["script"] (defScope sLaw) := ⟨rfl, rfl, rfl, by decide +kernel, rfl, by decide +kernel, by decide +kernel⟩
def spLaw (K : PySem.W.Frag) : Sp := fun vs H Q _ => ∃ (sc : Addr) (ns : List Int), vs = [.ref sc] ∧ SqL K H sc (ns.map V.int) ∧ ns.length ≤ 63 ∧ ∀ H', Q (.bl true) H'
theorem ok_law {f fX fPT fCM fOR fRD fLR fS fTH : Addr} {fd fdX fdPT fdCM fdOR fdRD fdLR fdS fdTH : FuncData} (F : Fun K "law" "law" sLaw f fd) (B : Bl mg)
    (X : Df K mg "_law_next" sNext ["draw", "size"] fX fdX) (GX : FnOk P w K mg base CX0 2 fX fdX ["draw", "size"] (spNext K))
    (PT : Df K mg "_law_put_together" sPT ["draw", "many"] fPT fdPT) (GPT : FnOk P w K mg base CX0 3 fPT fdPT ["draw", "many"] (spPT K))
    (CM : Df K mg "_law_common" sCm ["sizes"] fCM fdCM) (GCm : FnOk P w K mg base CX0 1 fCM fdCM ["sizes"] (spCm K))
    (OR : Df K mg "order" sOr ["turn"] fOR fdOR) (GOr : FnOk P w K mg base CX0 6 fOR fdOR ["turn"] (spOr K))
    (RD : Df K mg "rounds" sRd ["turn"] fRD fdRD) (GRd : FnOk P w K mg base CX0 5 fRD fdRD ["turn"] (spRd K))
    (LR : Df K mg "_law_rounds" sLR ["turn"] fLR fdLR) (GLR : FnOk P w K mg base CX0 2 fLR fdLR ["turn"] (spLR K))
    (S : Df K mg "still" sStill ["many"] fS fdS) (GS : FnOk P w K mg base CX0 1 fS fdS ["many"] spStill)
    (TH : Df K mg "then" sThen ["one", "other"] fTH fdTH) (GTh : FnOk P w K mg base CX0 5 fTH fdTH ["one", "other"] (spThen K)) : FnG P w K mg base 7 f fd ["script"] (spLaw K) := by
  refine FnG.of F scLaw (fun vs H Q E h => ?_) (fun cdv A outer s H vs Q E hgu hr h => ?_)
  · obtain ⟨sc, ns, rfl, _⟩ := h
    rfl
  · obtain ⟨sc, ns, rfl, hS, hn, q⟩ := h
    have hu := hu_of hr
    refine ⟨_, pss_cons (ps_set (i := 1) scLaw.nd rfl (Or.inl rfl) (pe_lst (pa_cons (pv 0) (pa_cons (pe_int) pa_nil))))
      (pss_cons (ps_for PassesOwn.never rfl (pi_range1 rfl B.range (pa_cons (pe_callB ((call_max2 rfl)) (by rfl) B.max (by decide +kernel) (pa_cons (pe_int) (pa_cons (pe_callB ((call_min2 rfl)) (by rfl) B.min (by decide +kernel) (pa_cons (pe_int) (pa_cons (pe_callB call_len_seq (by rfl) B.len PySem.boot_len (pa_cons (pv 0) pa_nil)) pa_nil))) pa_nil))) pa_nil)) (pg_name (i := 2) scLaw.nd rfl (Or.inl rfl)) (pss_cons (ps_set (i := 3) scLaw.nd rfl (Or.inl rfl) (pe_call GX (hr.mono (by decide)) rfl X.g X.F.kp X.b .nil pass0 (pa_cons (pv 1) (pa_cons (pe_int) pa_nil))))
      (pss_cons (ps_set (i := 4) scLaw.nd rfl (Or.inl rfl) (pe_ix ix_list (pe_lst (pa_cons (pe_int) (pa_cons (pe_int) (pa_cons (pe_int) (pa_cons (pe_int) (pa_cons (pe_int) (pa_cons (pe_int) (pa_cons (pe_int) (pa_cons (pe_op op_add (pe_int) (pe_call GX (hr.mono (by decide)) rfl X.g X.F.kp X.b .nil pass0 (pa_cons (pv 1) (pa_cons (pe_int) pa_nil)))) pa_nil))))))))) (pv 3) (fun _ _ => rfl)))
      (pss_cons (ps_asg (pe_call GPT (hr.mono (by decide)) rfl PT.g PT.F.kp PT.b .nil pass0 (pa_cons (pv 1) (pa_cons (pv 4) pa_nil))) (pg_tup rfl (pgs_cons (pg_name (i := 5) scLaw.nd rfl (Or.inl rfl)) (pgs_cons (pg_name (i := 6) scLaw.nd rfl (Or.inl rfl)) pgs_nil))))
      (pss_cons (ps_set (i := 7) scLaw.nd rfl (Or.inl rfl) (pe_call GCm (hr.mono (by decide)) rfl CM.g CM.F.kp CM.b .nil pass0 (pa_cons (pv 6) pa_nil)))
      (pss_cons (ps_if (pt_cmpR op_ne (pe_callB SkE.call_repr_int (by rfl) B.repr (by decide +kernel) (pa_cons (pe_call GOr (hr.mono (by decide)) rfl OR.g OR.F.kp OR.b .nil pass0 (pa_cons (pv 5) pa_nil)) pa_nil)) (pe_callB SkE.call_repr_int (by rfl) B.repr (by decide +kernel) (pa_cons (pv 7) pa_nil)) (nomark _)) (pss_one (ps_ret (pe_bl))) pss_nil)
      (pss_cons (ps_set (i := 8) scLaw.nd rfl (Or.inl rfl) (pe_call GRd (hr.mono (by decide)) rfl RD.g RD.F.kp RD.b .nil pass0 (pa_cons (pv 5) pa_nil)))
      (pss_cons (ps_if (PW.pt (pw_or (pt_not (pt_val (pe_callB call_isi (by rfl) B.isinstance (by decide +kernel) (pa_cons (pv 8) (pa_cons (pe_bltn (v := .ty "list") (by rfl) B.list (by decide +kernel) rfl) pa_nil))))) (pw_or1 (pt_cmpR op_ne (pe_callB ((call_reprD (deeper_guards hgu) (u100 hr))) (by rfl) B.repr (by decide +kernel) (pa_cons (pv 8) pa_nil)) (pe_callB ((call_reprD (deeper_guards hgu) (u100 hr))) (by rfl) B.repr (by decide +kernel) (pa_cons (pe_call GLR (hr.mono (by decide)) rfl LR.g LR.F.kp LR.b .nil pass0 (pa_cons (pv 5) pa_nil)) pa_nil)) (nomark _))))) (pss_one (ps_ret (pe_bl))) pss_nil)
      (pss_cons (ps_expr (pe_bm PySem.F.plainAttrs_list PySem.F.slot_list_append PySem.F.type_list_append mt_append (pv 8) (pa_cons (pe_tup (pa_cons (pe_int) pa_nil)) pa_nil)))
      (pss_cons (ps_if (pt_cmpR (op_neD hr.units) (pe_call GRd (hr.mono (by decide)) rfl RD.g RD.F.kp RD.b .nil pass0 (pa_cons (pv 5) pa_nil)) (pe_call GLR (hr.mono (by decide)) rfl LR.g LR.F.kp LR.b .nil pass0 (pa_cons (pv 5) pa_nil)) (nomark _)) (pss_one (ps_ret (pe_bl))) pss_nil)
      (pss_cons (ps_set (i := 9) scLaw.nd rfl (Or.inl rfl) (pe_call GS (hr.mono (by decide)) rfl S.g S.F.kp S.b .nil pass0 (pa_cons (pv 4) pa_nil)))
      (pss_one (ps_for PassesOwn.never rfl (pi_range1 rfl B.range (pa_cons (pe_ifExp (pt_cmpR op_lt (pv 7) (pe_int) (nomark _)) (pv 7) (pe_int)) pa_nil)) (pg_name (i := 10) scLaw.nd rfl (Or.inl rfl)) (pss_cons (ps_set (i := 9) scLaw.nd rfl (Or.inl rfl) (pe_call GTh (hr.mono (by decide)) rfl TH.g TH.F.kp TH.b .nil pass0 (pa_cons (pv 9) (pa_cons (pv 5) pa_nil))))
      (pss_one (ps_if (pt_cmpR op_ne (pe_cmpR (op_eqD hr.units) (pv 9) (pe_call GS (hr.mono (by decide)) rfl S.g S.F.kp S.b .nil pass0 (pa_cons (pv 4) pa_nil)) (nomark _)) (pe_cmpR op_eq (pv 10) (pe_op op_sub (pv 7) (pe_int)) (nomark _)) (nomark _)) (pss_one (ps_ret (pe_bl))) pss_nil))))))))))))))))
      (pss_one (ps_ret (pe_bl)))), ?_⟩
    show tSeq _ _ _ [some (.ref sc), none, none, none, none, none, none, none, none, none, none] H
    have eZ : sizeLine = 16777216 := rfl
    refine seq_gen (fun σ' H' => ∃ d : Addr, σ' = [some (.ref sc), some (.ref d), none, none, none, none, none, none, none, none, none] ∧ DrA K sc ns H' d) (fun nx hnx => ?_) ?_
    · walk_at "rd"
      exact ⟨by show 2 ≤ sizeLine; decide, fun d hd => hnx _ _ ⟨d, rfl, 0, upd_same, Same.seq (Same.new hd) hS, hn, Int.le_refl _⟩⟩
    rintro σ1 H1 ⟨d, rfl, D1⟩
    refine seq_gen (fun σ' H' => True) (fun nx hnx => ?_) (fun σ' H' _ => ?_)
    · generalize hA : tSeq _ _ = A
      obtain ⟨n1, D1'⟩ := D1
      refine ⟨_, rfl, sc, _, rfl, .inl D1'.sq, _, _, rfl, _, _, rfl, _, rfl, ?_, ?_, ?_⟩
      · split <;> omega
      · have q5 : (if ((ns.map V.int).length : Int) < 4 then ((ns.map V.int).length : Int) else 4) ≤ 4 := by split <;> omega
        split <;> omega
      refine for_range (g := gName 2) (fun i σ H' => ∃ (l2 l3 l4 l5 l6 l7 l8 l9 l10 : Option V), σ = [some (.ref sc), some (.ref d), l2, l3, l4, l5, l6, l7, l8, l9, l10] ∧ DrA K sc ns H' d) ⟨_, _, _, _, _, _, _, _, _, rfl, n1, D1'⟩ ?_ ?_
      · rintro i σ H2 hi ⟨l2, l3, l4, l5, l6, l7, l8, l9, l10, rfl, D2⟩
        subst hA
        show tSeq _ _ _ [some (.ref sc), some (.ref d), some (.int (0 + (i : Int))), l3, l4, l5, l6, l7, l8, l9, l10] H2
        generalize (0 + (i : Int)) = ti
        refine seq_gen (fun σ' H' => ∃ r : Int, σ' = [some (.ref sc), some (.ref d), some (.int ti), some (.int r), l4, l5, l6, l7, l8, l9, l10] ∧ 0 ≤ r ∧ r < 8 ∧ DrA K sc ns H' d) (fun nx hnx => ?_) ?_
        · walk_at "rd"
          exact ⟨d, 8, sc, ns, rfl, by decide, D2, fun r H3 r0 r1 E3 D3 => hnx _ _ ⟨r, rfl, r0, r1, D3⟩⟩
        rintro σ3 H3 ⟨r, rfl, r0, r1, D3⟩
        refine seq_gen (fun σ' H' => ∃ n : Nat, σ' = [some (.ref sc), some (.ref d), some (.int ti), some (.int r), some (.int (n : Int)), l5, l6, l7, l8, l9, l10] ∧ 1 ≤ n ∧ n ≤ 400 ∧ DrA K sc ns H' d) (fun nx hnx => ?_) ?_
        · walk_at "rd"
          refine ⟨d, 400, sc, ns, rfl, by decide, D3, fun r2 H4 a0 a1 E4 D4 => ?_⟩
          walk_at "rd"
          refine ⟨by show 8 ≤ sizeLine; decide, fun p hp => ?_⟩
          obtain ⟨q0, rfl⟩ := Int.eq_ofNat_of_zero_le a0
          obtain ⟨j, rfl⟩ := Int.eq_ofNat_of_zero_le r0
          have hj : j < 8 := by omega
          have pick : ∃ z : Nat, 1 ≤ z ∧ z ≤ 400 ∧ atI ([V.int 1, V.int 2, V.int 3, V.int 6, V.int 12, V.int 60, V.int 400, V.int (1 + (q0 : Int))] : List V) (j : Int) = some (.int (z : Int)) := by
            match j, hj with
            | 0, _ => exact ⟨1, by decide, by decide, rfl⟩
            | 1, _ => exact ⟨2, by decide, by decide, rfl⟩
            | 2, _ => exact ⟨3, by decide, by decide, rfl⟩
            | 3, _ => exact ⟨6, by decide, by decide, rfl⟩
            | 4, _ => exact ⟨12, by decide, by decide, rfl⟩
            | 5, _ => exact ⟨60, by decide, by decide, rfl⟩
            | 6, _ => exact ⟨400, by decide, by decide, rfl⟩
            | 7, _ => exact ⟨1 + q0, by omega, by omega, by show some (V.int (1 + (q0 : Int))) = _; rw [show ((1 + q0 : Nat) : Int) = 1 + (q0 : Int) by omega]⟩
          obtain ⟨z, z1, z4, hz⟩ := pick
          exact p_ix (SqL.of upd_same) hz (hnx _ _ ⟨z, rfl, z1, z4, DrA.same (Same.new hp) D4⟩)
        rintro σ4 H4 ⟨n, rfl, n1, n4, D4⟩
        refine seq_gen (fun σ' H' => ∃ (a z : Addr) (L : List Int) (Bs : List Blk), σ' = [some (.ref sc), some (.ref d), some (.int ti), some (.int r), some (.int (n : Int)), some (.ref a), some (.ref z), l7, l8, l9, l10] ∧ DrA K sc ns H' d ∧ Trn n L ∧ Cov n L (Bs.map cycB) ∧ BsSz Bs ∧ (∀ b ∈ Bs, b.1 ≠ []) ∧ H' a = some (.tup (L.map V.int)) ∧ H' z = some (.lst (intsN (Bs.map sizeB)))) (fun nx hnx => ?_) ?_
        · unfold tAsg
          walk_at "rd"
          exact ⟨d, n, sc, ns, rfl, n1, n4, D4, fun p a z L Bs H5 t o bz ne E5 D5 hp ha hz nz => ⟨p, _, rfl, SqT.of hp, rfl, _, _, rfl, _, _, rfl, rfl, hnx _ _ ⟨a, z, L, Bs, rfl, D5, t, o, bz, ne, ha, hz⟩⟩⟩
        rintro σ5 H5 ⟨a, z, L, Bs, rfl, D5, t, o, bz, ne, ha, hz⟩
        have so := sizes_ok bz ne
        have cs := cyc_sizes Bs
        have oR := rdL_cov t
        have el : lcmL ((rdL L n).map List.length) = lcmL (Bs.map sizeB) := by rw [oR.lcm t o, cs]
        have duN : lcmL (Bs.map sizeB) ∣ 55440 := (lcmL_dvd _ _).mpr fun x hx => (so x hx).2
        have due0 : 1 ≤ lcmL (Bs.map sizeB) := Nat.pos_of_dvd_of_pos duN (by decide)
        have due5 : lcmL (Bs.map sizeB) ≤ 55440 := Nat.le_of_dvd (by decide) duN
        have rdv : ∀ c ∈ rdL L n, c.length ∣ 55440 := fun c hc => (lcmL_dvd ((rdL L n).map List.length) 55440).mp (by rw [el]; exact duN) _ (List.mem_map.mpr ⟨c, hc, rfl⟩)
        obtain ⟨fit, rl⟩ := rdL_fits t n4
        obtain ⟨x1, x2, x3, x4⟩ := lcl_shown fit rl
        refine seq_gen (fun σ' H' => σ' = [some (.ref sc), some (.ref d), some (.int ti), some (.int r), some (.int (n : Int)), some (.ref a), some (.ref z), some (.int ((lcmL (Bs.map sizeB) : Nat) : Int)), l8, l9, l10] ∧ H' = H5) (fun nx hnx => ?_) ?_
        · walk_at "rd"
          exact ⟨z, Bs.map sizeB, 55440, rfl, SqL.of hz, ⟨_, hz⟩, by decide, by decide, so, hnx _ _ ⟨rfl, rfl⟩⟩
        rintro σ6 H6 ⟨rfl, rfl⟩
        have itu := itUp_still t o
        rw [cs] at itu
        generalize lcmL (Bs.map sizeB) = due at *
        refine seq_gen (fun σ' H' => σ' = [some (.ref sc), some (.ref d), some (.int ti), some (.int r), some (.int (n : Int)), some (.ref a), some (.ref z), some (.int (due : Int)), l8, l9, l10] ∧ DrA K sc ns H' d ∧ H' a = some (.tup (L.map V.int))) (fun nx hnx => ?_) ?_
        · walk_at "rd"
          refine ⟨a, L, n, 55440, rfl, SqT.of ha, t, n1, n4, by decide, by decide, rdv, fun H7 s7 => ?_⟩
          rw [el]
          show ∃ i, [V.int (due : Int)] = [V.int i] ∧ _
          have sm : ((due : Int)).natAbs.log2 < 1920 := by
            rw [Int.natAbs_natCast]
            by_cases z : due = 0
            · rw [z]; decide
            · exact (Nat.log2_lt z).mpr (Nat.lt_of_le_of_lt due5 (Nat.lt_of_lt_of_le (by decide : 55440 < 2 ^ 16) (Nat.pow_le_pow_right (by decide) (by decide))))
          exact ⟨_, rfl, sm, sm, rfl, false, by rw [decide_eq_true rfl]; rfl, iteF (hnx _ _ ⟨rfl, DrA.same s7 D5, s7 _ _ ha⟩)⟩
        rintro σ7 H7 ⟨rfl, D7, ha7⟩
        refine seq_gen (fun σ' H' => ∃ (l : Addr) (bs : List Addr), σ' = [some (.ref sc), some (.ref d), some (.int ti), some (.int r), some (.int (n : Int)), some (.ref a), some (.ref z), some (.int (due : Int)), some (.ref l), l9, l10] ∧ DrA K sc ns H' d ∧ H' a = some (.tup (L.map V.int)) ∧ H' l = some (.lst (bs.map V.ref)) ∧ TupsAt H' bs (rdL L n) ∧ H7 l = none ∧ Same H7 H') (fun nx hnx => ?_) ?_
        · walk_at "rd"
          exact ⟨a, L, n, rfl, SqT.of ha7, t, n1, n4, fun l bs H8 s8 nl hl tb => hnx _ _ ⟨l, bs, rfl, DrA.same s8 D7, s8 _ _ ha7, hl, tb, nl, s8⟩⟩
        rintro σ8 H8 ⟨l, bs, rfl, D8, ha8, hl8, tb8, nl7, s78⟩
        refine seq_gen (fun σ' H' => σ' = [some (.ref sc), some (.ref d), some (.int ti), some (.int r), some (.int (n : Int)), some (.ref a), some (.ref z), some (.int (due : Int)), some (.ref l), l9, l10] ∧ DrA K sc ns H' d ∧ H' a = some (.tup (L.map V.int)) ∧ H' l = some (.lst (bs.map V.ref)) ∧ Same H7 H') (fun nx hnx => ?_) ?_
        · walk_at "rd"
          refine ⟨.ref l, .ty "list", .type "list", .type "list", true, rfl, .ty _, .base (.lst hl8), ?_, true, rfl, iteF ?_⟩
          · unfold PySem.W.kitOne
            exact if_pos (by decide +kernel)
          refine ⟨l, dLcl (rdL L n), rfl, dp_lcl (SqL.of hl8) tb8, x1, x2, x3, x4, ?_⟩
          refine ⟨a, L, n, rfl, SqT.of ha8, t, n1, n4, fun l' bs' H9 s9 nl' hl' tb' => ?_⟩
          refine ⟨l', dLcl (rdL L n), rfl, dp_lcl (SqL.of hl') tb', x1, x2, x3, x4, rfl, false, by rw [decide_eq_true rfl]; rfl, iteF (hnx _ _ ⟨rfl, DrA.same s9 D8, s9 _ _ ha8, s9 _ _ hl8, Same.trans s78 s9⟩)⟩
        rintro σ9 H9 ⟨rfl, D9, ha9, hl9, s79⟩
        refine seq_gen (fun σ' H' => σ' = [some (.ref sc), some (.ref d), some (.int ti), some (.int r), some (.int (n : Int)), some (.ref a), some (.ref z), some (.int (due : Int)), some (.ref l), l9, l10] ∧ DrA K sc ns H' d ∧ H' a = some (.tup (L.map V.int))) (fun nx hnx => ?_) ?_
        · walk_at "rd"
          have lb := tb8.length
          refine ⟨.inl ⟨rfl, _, SqL.of hl9⟩, by show 1 ≤ sizeLine; decide, fun p hp => ?_⟩
          have sp := Same.new (o := .tup [V.int 1]) hp
          have nal : a ≠ l := fun e => by rw [e, hl9] at ha9; cases ha9
          refine ⟨l, _, _, rfl, rfl, sp _ _ hl9, by rw [List.length_map]; omega, hnx _ _ ⟨rfl, ?_, by rw [upd_ne nal]; exact sp _ _ ha9⟩⟩
          exact DrA.up D7 (DrA.same sp D9) (Ex.same (Same.trans s79 sp)) nl7
        rintro σ10 H10 ⟨rfl, D10, ha10⟩
        refine seq_gen (fun σ' H' => σ' = [some (.ref sc), some (.ref d), some (.int ti), some (.int r), some (.int (n : Int)), some (.ref a), some (.ref z), some (.int (due : Int)), some (.ref l), l9, l10] ∧ DrA K sc ns H' d ∧ H' a = some (.tup (L.map V.int))) (fun nx hnx => ?_) ?_
        · walk_at "rd"
          refine ⟨a, L, n, rfl, SqT.of ha10, t, n1, n4, fun l1 bs1 H11 s11 nl1 hl1 tb1 => ?_⟩
          refine ⟨a, L, n, rfl, SqT.of (s11 _ _ ha10), t, n1, n4, fun l2' bs2 H12 s12 nl2 hl2 tb2 => ?_⟩
          refine p_neD (dp_lcl (SqL.of (s12 _ _ hl1)) (tb1.same s12)) (dp_lcl (SqL.of hl2) tb2) (shaped_lcl _) (shaped_lcl _) ?_
          rw [eqv_lcl, decide_eq_true rfl]
          have s' := Same.trans s11 s12
          exact ⟨false, rfl, iteF (hnx _ _ ⟨rfl, DrA.same s' D10, s' _ _ ha10⟩)⟩
        rintro σ11 H11 ⟨rfl, D11, ha11⟩
        refine seq_gen (fun σ' H' => ∃ w : Addr, σ' = [some (.ref sc), some (.ref d), some (.int ti), some (.int r), some (.int (n : Int)), some (.ref a), some (.ref z), some (.int (due : Int)), some (.ref l), some (.ref w), l10] ∧ DrA K sc ns H' d ∧ H' a = some (.tup (L.map V.int)) ∧ H' w = some (.tup ((itUp L n 0).map V.int))) (fun nx hnx => ?_) ?_
        · walk_at "rd"
          refine ⟨(n : Int), rfl, by omega, by omega, fun w H12 s12 hw => hnx _ _ ⟨w, rfl, DrA.same s12 D11, s12 _ _ ha11, by rw [hw, itUp_zero]; rfl⟩⟩
        rintro σ12 H12 ⟨w, rfl, D12, ha12, hw12⟩
        generalize hA : tSeq _ _ = A
        refine ⟨_, rfl, (due : Int), 61, rfl, rfl, decide ((due : Int) < 61), rfl, ?_⟩
        have body : ∀ (i : Nat) (σ' : St) (H' : Hp) (D : Ends), i < due → (∃ (w' : Addr) (l10 : Option V), σ' = [some (.ref sc), some (.ref d), some (.int ti), some (.int r), some (.int (n : Int)), some (.ref a), some (.ref z), some (.int (due : Int)), some (.ref l), some (.ref w'), l10] ∧ DrA K sc ns H' d ∧ H' a = some (.tup (L.map V.int)) ∧ H' w' = some (.tup ((itUp L n i).map V.int))) → (∀ σ2 H2, (∃ (w' : Addr) (l10 : Option V), σ2 = [some (.ref sc), some (.ref d), some (.int ti), some (.int r), some (.int (n : Int)), some (.ref a), some (.ref z), some (.int (due : Int)), some (.ref l), some (.ref w'), l10] ∧ DrA K sc ns H2 d ∧ H2 a = some (.tup (L.map V.int)) ∧ H2 w' = some (.tup ((itUp L n (i + 1)).map V.int))) → D.nx σ2 H2) → gName 10 (.int (0 + (i : Int))) σ' H' fun σ3 H3 => A D σ3 H3 := by
          rintro i σ' H13 D hi ⟨w', l10, rfl, D13, ha13, hw13⟩ fin
          show A D [some (.ref sc), some (.ref d), some (.int ti), some (.int r), some (.int (n : Int)), some (.ref a), some (.ref z), some (.int (due : Int)), some (.ref l), some (.ref w'), some (.int (0 + (i : Int)))] H13
          subst hA
          walk_at "rd"
          refine ⟨n, n1, n4, w', a, itUp L n i, L, rfl, SqT.of hw13, trn_it t i, SqT.of ha13, t, fun w2 H14 s14 hw2 => ?_⟩
          rw [itUp_succ] at hw2
          refine ⟨(n : Int), rfl, by omega, by omega, fun u H15 s15 hu2 => ?_⟩
          rw [Int.toNat_natCast] at hu2
          refine p_eqD (d := dTup (itUp L n (i + 1))) (e := dTup (up n)) (.tup (SqT.of (s15 _ _ hw2)) (dp_ints _)) (.tup (SqT.of hu2) (dp_ints _)) (shaped_tup _) (shaped_tup _) ?_
          have s' := Same.trans s14 s15
          have key : decide (itUp L n (i + 1) = up n) = decide (V.int (0 + (i : Int)) = V.int ((due : Int) - 1)) := by
            rw [decide_eq_decide, itu (i + 1)]
            constructor
            · intro h
              have := Nat.le_of_dvd (Nat.succ_pos i) h
              rw [show (0 + (i : Int)) = (due : Int) - 1 by omega]
            · intro h
              have := V.int.inj h
              rw [show i + 1 = due by omega]
              exact Nat.dvd_refl _
          rw [eqv_tup, key]
          refine ⟨rfl, rfl, false, by rw [decide_eq_true rfl]; rfl, iteF (fin _ _ ⟨w2, _, rfl, DrA.same s' D13, s' _ _ ha13, s15 _ _ hw2⟩)⟩
        by_cases c : (due : Int) < 61
        · rw [decide_eq_true c]
          refine iteT ⟨_, rfl, _, rfl, by omega, by omega, ?_⟩
          rw [Int.toNat_natCast]
          refine for_range (lo := 0) (n := due) (g := gName 10) (fun i σ' H' => ∃ (w' : Addr) (l10 : Option V), σ' = [some (.ref sc), some (.ref d), some (.int ti), some (.int r), some (.int (n : Int)), some (.ref a), some (.ref z), some (.int (due : Int)), some (.ref l), some (.ref w'), l10] ∧ DrA K sc ns H' d ∧ H' a = some (.tup (L.map V.int)) ∧ H' w' = some (.tup ((itUp L n i).map V.int))) ⟨w, l10, rfl, D12, ha12, hw12⟩ (fun i σ' H' hi iv => body i σ' H' _ hi iv fun σ2 H2 h => h) ?_
          rintro σ' H' ⟨w', l10, rfl, D', _⟩
          exact ⟨_, _, _, _, _, _, _, _, _, rfl, D'⟩
        · rw [decide_eq_false c]
          refine iteF ⟨0, rfl, by omega, by omega, ?_⟩
          refine for_range (lo := 0) (n := 0) (g := gName 10) (fun i σ' H' => ∃ (w' : Addr) (l10 : Option V), σ' = [some (.ref sc), some (.ref d), some (.int ti), some (.int r), some (.int (n : Int)), some (.ref a), some (.ref z), some (.int (due : Int)), some (.ref l), some (.ref w'), l10] ∧ DrA K sc ns H' d) ⟨w, l10, rfl, D12⟩ (fun i σ' H' hi => absurd hi (Nat.not_lt_zero i)) ?_
          rintro σ' H' ⟨w', l10, rfl, D'⟩
          exact ⟨_, _, _, _, _, _, _, _, _, rfl, D'⟩
      · exact fun σ' H' _ => hnx _ _ trivial
    · walk_at "rd"
      exact q H'

end
end Toy

-- part: LN
namespace Toy
open PySem PySem.Spec PyProof.Rows L2
/-- what is tracked at the start of a law without a table: the script at a, if it isn't of the written part -/
def H1of (K : PySem.W.Frag) (a : Addr) (vs : List Value) (ns : List Int) : Hp := fun b =>
  if b = a ∧ K.lookup a = none then some (.frz { cls := .type "list", data := .seq vs.toArray } (.lst (ns.map V.int))) else none
theorem FnOk.g {P : Program} {w : World} {K : PySem.W.Frag} {mg : Str → Option Value} {base : Heap} {k : Nat} {f : Addr} {fd : FuncData} {ps : List Str} {sp : Sp} (F : FnOk P w K mg base CX0 k f fd ps sp) : FnG P w K mg base k f fd ps sp :=
  ⟨F.len, fun A outer s H args us vs Q E _ hr e0 hb r hsp => F.run A outer s H args us vs Q E hr e0 hb r hsp⟩
/-- a law that makes no lambda, called where no object's text is under way -/
theorem callN {P : Program} {w : World} {K : PySem.W.Frag} {mg mb : Str → Option Value} {k : Nat} {fa a : Addr} {fd : FuncData} {x : Str} {sp : Sp} {s : Shared} {vs : List Value} {ns : List Int}
    (KX : K.In s.heap) (hns : s.heap.Ns mainGlobals mg) (hb : s.heap.Ns builtinsNs mb) (hbb : ∀ x : Str, x ≠ "__name__" → mb x = bootBuiltins x) (hlim : s.heap.NoLimit) (hg : s.gens = #[])
    (ha : s.heap.get? a = some { cls := .type "list", data := .seq vs.toArray }) (hi : IntsAre vs ns) (hl : ns.length ≤ sizeLine) (hr : Room k callerA)
    (F : ∀ base : Heap, K.In base → base.Ns mainGlobals mg → FnG P w K mg base k fa fd [x] sp) (hbind : ∀ (s : Shared) (u : Value), BindsTo s fd ⟨[u], []⟩ [(x, u)])
    (hsp : ∀ H : Hp, SqL K H a (ns.map V.int) → sp [.ref a] H (fun v _ => v = .bl true) E0) :
    codeAny (model P w) callerA (.call (.ref fa) ⟨[.ref a], []⟩) (fun r s' => r = .ok (.ret (.bool true)) ∧ OldK s.heap s'.heap ∧ s'.os = s.os ∧ AllBare s'.gens) s := by
  have rv := vals_ints hi
  have two : ∀ b, (b = a ∧ K.lookup a = none ∧ H1of K a vs ns b = some (.frz { cls := .type "list", data := .seq vs.toArray } (.lst (ns.map V.int)))) ∨ H1of K a vs ns b = none := fun b => by
    by_cases e2 : b = a ∧ K.lookup a = none
    · exact .inl ⟨e2.1, e2.2, if_pos e2⟩
    · exact .inr (if_neg e2)
  have hS : SqL K (H1of K a vs ns) a (ns.map V.int) := by
    cases hk : K.lookup a with
    | none => exact .inl (.inr ⟨_, if_pos ⟨rfl, hk⟩⟩)
    | some o =>
      have e := KX a o hk
      rw [ha] at e
      cases e
      exact .inr ⟨_, vs.toArray, _, hk, rfl, rfl, rfl, by rw [List.size_toArray, hi.length]; exact hl, rv⟩
  have hok : HOk P w (H1of K a vs ns) s.heap := fun b o e => by
    rcases two b with ⟨rfl, _, z⟩ | z <;> rw [z] at e <;> cases e
    exact ⟨ha, by rw [List.length_map]; exact hl, vs, _, rv, ha⟩
  have base_of : ∀ {b : Addr} {o : Obj}, s.heap.get? b = some o → H1of K a vs ns b = none → (hidT s.heap (H1of K a vs ns)).get? b = some o := fun e n => hidT_get e n
  have outD : ∀ {b : Addr} {o : Obj} {es : Array DictEntry} {n : Nat}, s.heap.get? b = some o → o.data = .dict es n → H1of K a vs ns b = none := fun {b o es n} e d => by
    rcases two b with ⟨rfl, _, _⟩ | z
    · rw [ha] at e
      cases e
      cases d
    · exact z
  have nsK : ∀ {b : Addr} {m : Str → Option Value}, s.heap.Ns b m → (hidT s.heap (H1of K a vs ns)).Ns b m := fun {b m} ⟨o, es, ep, e, d, r⟩ => ⟨o, es, ep, base_of e (outD e d), d, r⟩
  have hKb : K.In (hidT s.heap (H1of K a vs ns)) := fun b o e => base_of (KX b o e) (by
    rcases two b with ⟨rfl, z, _⟩ | z
    · rw [z] at e; cases e
    · exact z)
  have hM : L2.Mod K mg (hidT s.heap (H1of K a vs ns)) := ⟨hKb, nsK hns, ⟨mb, nsK hb, hbb⟩, let ⟨mc, h1, h2⟩ := hlim; ⟨mc, nsK h1, h2⟩⟩
  have e0 : Env0 P w K mg (hidT s.heap (H1of K a vs ns)) callerA [] s (H1of K a vs ns) := ⟨rfl, hM, fun b o e => of_hidT e, Nat.le_of_eq (hidT_size _ _), trivial, fun b hb => absurd (show b ∈ ([] : List Addr) from hb) (by simp), hok, .of_eq hg⟩
  refine codeAny_mono ((F _ hKb (nsK hns)).run callerA [] s _ ⟨[.ref a], []⟩ [.ref a] [.ref a] _ _ rfl hr e0 (hbind s (.ref a)) (.cons rfl .nil) (hsp _ hS)) fun r s' h => ?_
  cases r with
  | error e => exact False.elim h
  | ok fl =>
    cases fl with
    | next => exact False.elim h
    | brk => exact False.elim h
    | cont => exact False.elim h
    | ret u =>
      obtain ⟨v, H', os, bare, un, hok', r', q⟩ := h
      obtain rfl : v = .bl true := q
      obtain rfl : u = Value.bool true := r'
      have key : ∀ b o, s.heap.get? b = some o → s'.heap.get? b = some o := fun b o e => by
        rcases two b with ⟨rfl, _, z⟩ | z
        · obtain ⟨e1, _⟩ := hok b _ z
          obtain ⟨e2, _⟩ := hok' b _ (un.frzs b _ _ z)
          rw [e] at e1
          cases e1
          exact e2
        · exact un.keep b o e z (by intro z; exact absurd (show b ∈ ([] : List Addr) from z) (by simp)) (by simp)
      exact ⟨rfl, ⟨fun b o e => .inl (key b o e), fun b o e => ⟨o, key b o e⟩⟩, os, bare⟩
theorem walkN {l : PySem.W.OpenLaw} {n k : Nat} {q : Program} {loose : List Str} {XP : (Str → Option Value) → Heap → Prop} {YP : World → Heap → Prop} {d : DefRec} {x : Str}
    (hn : l.most = some n) (hn2 : n ≤ sizeLine) (hdf : d.params.defaults = []) (hr : Room k callerA)
    (F : ∀ (w : World) (mg : Str → Option Value) (fa : Addr) (h : Heap), YP w h → h.Ns mainGlobals mg → mg d.name = some (.ref fa) →
      ∃ (K : PySem.W.Frag) (fd : FuncData) (sp : Sp), K.In h ∧ (∀ (s : Shared) (u : Value), BindsTo s fd ⟨[u], []⟩ [(x, u)]) ∧
        (∀ (H : Hp) (a : Addr) (ns : List Int), ns.length ≤ n → SqL K H a (ns.map V.int) → sp [.ref a] H (fun v _ => v = .bl true) E0) ∧
        ∀ base : Heap, K.In base → base.Ns mainGlobals mg → FnG l.prog w K mg base k fa fd [x] sp) :
    PySem.W.WalkO q loose XP YP l.row.toRowW d [] (fun f vs => PySem.call f vs) := by
  refine Att.attach_callB hn hdf fun w s₀ s₁ mg mb fa o pm cd doc a vs ns G Y ho hd hcd hmg hobj hints hlen hbits hg => ?_
  obtain ⟨K, fd, sp, KX, hb, hsp, hF⟩ := F w mg fa _ Y G.T.g hmg
  exact callN KX G.T.g G.T.b G.T.builtins G.T.nolimit hg hobj hints (Nat.le_trans hlen hn2) hr hF hb (fun H hS => hsp H a ns hlen hS)
end Toy

-- part: LE0
namespace Toy
open PySem PySem.Spec PyProof.Rows L2
def dT (x : Str) (st : Stmt) : He.DefD := ⟨(x, none), x, x, defArgs st, defBody st, defScope st, [], []⟩
def fnK : List He.DefD := [dT "is_number" (topS 5), dT "is_letter" (topS 6), dT "is_turn" (topS 9), dT "still" (topS 10), dT "then" (topS 11), dT "order" (topS 12), dT "rounds" (topS 13), dT "_round_of" (topS 14), dT "_is_many" (topS 15), dT "refuse_no_turn" (topS 16), dT "goes" (topS 17), dT "table_of" (topS 18), dT "led_on" (topS 19), dT "_law_mixed" (topS 21), dT "_law_next" (topS 22), dT "_law_goes" (topS 23), dT "_law_rounds" (topS 24), dT "_law_put_together" (topS 25), dT "_law_common" (topS 26), dT "law" (topS 27)]
def faK : List He.Fa := [.glo "is_number", .glo "is_letter", .glo "is_turn", .glo "still", .glo "then", .glo "order", .glo "rounds", .glo "_round_of", .glo "_is_many", .glo "refuse_no_turn", .glo "goes", .glo "table_of", .glo "led_on", .glo "_law_mixed", .glo "_law_next", .glo "_law_goes", .glo "_law_rounds", .glo "_law_put_together", .glo "_law_common", .glo "law", .int "MOST" 400]
def faB : List He.Fa := [.free "max", .free "min", .free "len", .free "range", .free "type", .free "int", .free "list", .free "tuple", .free "dict", .free "bool", .free "abs", .free "sorted", .free "enumerate", .free "isinstance", .free "repr", .free "str", .free "all", .free "any", .free "zip", .free "reversed", .free "sum", .free "set", .free "ValueError"]
def exK (K : PySem.W.Frag) : Bool := He.eqO (PySem.W.nsIn K mainGlobals "lcm") (some (some (.builtin "math.lcm")))
abbrev R : PySem.W.OpenRow := PySem.W.OpenLaw.row PySem.Challenge.rw_turnless_k11_rounds_and_how_often
abbrev tfK : List He.Defn := []
abbrev hk : PySem.W.Hook := He.hookX 6 (faK ++ faB) fnK [] tfK exK
def ob (s : PySem.W.SharedT) : He.AlX := He.obsX 6 (faK ++ faB) fnK [] tfK exK (HandSHeadRun.getT s)
theorem ob_eq (s : PySem.W.SharedT) : ob s = hk.obs s.abs := He.obsX_eq (HandSHeadRun.getT_eq s)
def loose0 : List Str := ["TurnError", "NoTurn", "is_number", "is_letter", "MOST", "is_turn", "still", "then", "order", "rounds", "_round_of", "_is_many", "refuse_no_turn", "goes", "table_of", "led_on", "_law_mixed", "_law_next", "_law_goes"]
def loose1 : List Str := ["_law_rounds", "_law_put_together", "_law_common"]
def loose : List Str := loose0 ++ loose1
theorem run (w : World) : HandSHeadRun.RunEqI R (PySem.W.view R.prog [0, 27]) hk ob 8000 loose w := by
  unfold HandSHeadRun.RunEqI
  kernel_rfl
end Toy

-- part: LF
namespace Toy
open PySem PySem.Spec PyProof.Rows L2
section
variable {P : Program} {w : World} {K : PySem.W.Frag} {mg : Str → Option Value} {h : Heap}
theorem fun_of {x q : Str} {st : Stmt} {f : Addr} {fd : FuncData} (F : FunD K x q (defArgs st) (defBody st) (defScope st) [] [] f fd) : Fun K x q st f fd := by
  obtain ⟨oc, od, dV, kV, doc, pm, an, cdv, ct, osl, e, lk, hcd, hD, _⟩ := F.ex
  rcases hD with ⟨_, rfl⟩ | ⟨n, _⟩
  · exact ⟨⟨oc, od, kV, doc, pm, an, cdv, ct, osl, e, lk, hcd⟩, F.kp⟩
  · exact absurd rfl n
theorem df {x : Str} {st : Stmt} {ps : List Str} {fd : FuncData} (X : K.In h) (G : h.Ns mainGlobals mg) (c : (He.Fa.glo x).ok K = true) (F : FunD K x x (defArgs st) (defBody st) (defScope st) [] [] (He.fAd K (x, none)) fd)
    (hb : ∀ (kV doc pm : Value) (an : Option Addr) (cdv ct : Value) (us : List Value), us.length = ps.length → bindArgs (PySem.W.fnOf x x (defArgs st) (defBody st) (defScope st) .none kV doc pm an cdv ct) ⟨us, []⟩ = pure (ps.zip us)) : Df K mg x st ps (He.fAd K (x, none)) fd :=
  ⟨fun_of F, He.glo_ok X G c, (fun_of F).binds hb⟩
theorem facts {f : Addr} (X : K.In h) (G : h.Ns mainGlobals mg) (hfa : mg ("law" : Str) = some (.ref f)) (c : He.SaysX (faK ++ faB) fnK [] tfK exK w h K) :
    ∃ (fd : FuncData), (∀ (s : Shared) (u : Value), BindsTo s fd ⟨[u], []⟩ [("script", u)]) ∧ ∀ base : Heap, K.In base → base.Ns mainGlobals mg → FnG P w K mg base 7 f fd ["script"] (spLaw K) := by
  have d := c.t.d
  obtain ⟨_, F0⟩ := d.def_ 0 (d := dT "is_number" (topS 5)) rfl
  obtain ⟨_, F1⟩ := d.def_ 1 (d := dT "is_letter" (topS 6)) rfl
  obtain ⟨_, F2⟩ := d.def_ 2 (d := dT "is_turn" (topS 9)) rfl
  obtain ⟨_, F3⟩ := d.def_ 3 (d := dT "still" (topS 10)) rfl
  obtain ⟨_, F4⟩ := d.def_ 4 (d := dT "then" (topS 11)) rfl
  obtain ⟨_, F5⟩ := d.def_ 5 (d := dT "order" (topS 12)) rfl
  obtain ⟨_, F6⟩ := d.def_ 6 (d := dT "rounds" (topS 13)) rfl
  obtain ⟨_, F7⟩ := d.def_ 7 (d := dT "_round_of" (topS 14)) rfl
  obtain ⟨_, F8⟩ := d.def_ 8 (d := dT "_is_many" (topS 15)) rfl
  obtain ⟨_, F9⟩ := d.def_ 9 (d := dT "refuse_no_turn" (topS 16)) rfl
  obtain ⟨_, F10⟩ := d.def_ 10 (d := dT "goes" (topS 17)) rfl
  obtain ⟨_, F11⟩ := d.def_ 11 (d := dT "table_of" (topS 18)) rfl
  obtain ⟨_, F12⟩ := d.def_ 12 (d := dT "led_on" (topS 19)) rfl
  obtain ⟨_, F13⟩ := d.def_ 13 (d := dT "_law_mixed" (topS 21)) rfl
  obtain ⟨_, F14⟩ := d.def_ 14 (d := dT "_law_next" (topS 22)) rfl
  obtain ⟨_, F15⟩ := d.def_ 15 (d := dT "_law_goes" (topS 23)) rfl
  obtain ⟨_, F16⟩ := d.def_ 16 (d := dT "_law_rounds" (topS 24)) rfl
  obtain ⟨_, F17⟩ := d.def_ 17 (d := dT "_law_put_together" (topS 25)) rfl
  obtain ⟨_, F18⟩ := d.def_ 18 (d := dT "_law_common" (topS 26)) rfl
  obtain ⟨fd, F19⟩ := d.def_ 19 (d := dT "law" (topS 27)) rfl
  have D_is_number := df (x := "is_number") (st := topS 5) (ps := ["thing"]) X G (d.fact 0 (f := .glo "is_number") rfl) F0 fun _ _ _ _ _ _ us hl => match us, hl with | [_], _ => rfl
  have D_is_letter := df (x := "is_letter") (st := topS 6) (ps := ["thing", "many"]) X G (d.fact 1 (f := .glo "is_letter") rfl) F1 fun _ _ _ _ _ _ us hl => match us, hl with | [_, _], _ => rfl
  have D_is_turn := df (x := "is_turn") (st := topS 9) (ps := ["thing", "many"]) X G (d.fact 2 (f := .glo "is_turn") rfl) F2 fun _ _ _ _ _ _ us hl => match us, hl with | [_, _], _ => rfl
  have D_still := df (x := "still") (st := topS 10) (ps := ["many"]) X G (d.fact 3 (f := .glo "still") rfl) F3 fun _ _ _ _ _ _ us hl => match us, hl with | [_], _ => rfl
  have D_then := df (x := "then") (st := topS 11) (ps := ["one", "other"]) X G (d.fact 4 (f := .glo "then") rfl) F4 fun _ _ _ _ _ _ us hl => match us, hl with | [_, _], _ => rfl
  have D_order := df (x := "order") (st := topS 12) (ps := ["turn"]) X G (d.fact 5 (f := .glo "order") rfl) F5 fun _ _ _ _ _ _ us hl => match us, hl with | [_], _ => rfl
  have D_rounds := df (x := "rounds") (st := topS 13) (ps := ["turn"]) X G (d.fact 6 (f := .glo "rounds") rfl) F6 fun _ _ _ _ _ _ us hl => match us, hl with | [_], _ => rfl
  have D__round_of := df (x := "_round_of") (st := topS 14) (ps := ["turn", "first"]) X G (d.fact 7 (f := .glo "_round_of") rfl) F7 fun _ _ _ _ _ _ us hl => match us, hl with | [_, _], _ => rfl
  have D__is_many := df (x := "_is_many") (st := topS 15) (ps := ["thing"]) X G (d.fact 8 (f := .glo "_is_many") rfl) F8 fun _ _ _ _ _ _ us hl => match us, hl with | [_], _ => rfl
  have D_refuse_no_turn := df (x := "refuse_no_turn") (st := topS 16) (ps := ["thing"]) X G (d.fact 9 (f := .glo "refuse_no_turn") rfl) F9 fun _ _ _ _ _ _ us hl => match us, hl with | [_], _ => rfl
  have D_goes := df (x := "goes") (st := topS 17) (ps := ["turn", "letter"]) X G (d.fact 10 (f := .glo "goes") rfl) F10 fun _ _ _ _ _ _ us hl => match us, hl with | [_, _], _ => rfl
  have D_table_of := df (x := "table_of") (st := topS 18) (ps := ["turn"]) X G (d.fact 11 (f := .glo "table_of") rfl) F11 fun _ _ _ _ _ _ us hl => match us, hl with | [_], _ => rfl
  have D_led_on := df (x := "led_on") (st := topS 19) (ps := ["turn", "table"]) X G (d.fact 12 (f := .glo "led_on") rfl) F12 fun _ _ _ _ _ _ us hl => match us, hl with | [_, _], _ => rfl
  have D__law_mixed := df (x := "_law_mixed") (st := topS 21) (ps := ["cell", "k"]) X G (d.fact 13 (f := .glo "_law_mixed") rfl) F13 fun _ _ _ _ _ _ us hl => match us, hl with | [_, _], _ => rfl
  have D__law_next := df (x := "_law_next") (st := topS 22) (ps := ["draw", "size"]) X G (d.fact 14 (f := .glo "_law_next") rfl) F14 fun _ _ _ _ _ _ us hl => match us, hl with | [_, _], _ => rfl
  have D__law_goes := df (x := "_law_goes") (st := topS 23) (ps := ["turn", "letter"]) X G (d.fact 15 (f := .glo "_law_goes") rfl) F15 fun _ _ _ _ _ _ us hl => match us, hl with | [_, _], _ => rfl
  have D__law_rounds := df (x := "_law_rounds") (st := topS 24) (ps := ["turn"]) X G (d.fact 16 (f := .glo "_law_rounds") rfl) F16 fun _ _ _ _ _ _ us hl => match us, hl with | [_], _ => rfl
  have D__law_put_together := df (x := "_law_put_together") (st := topS 25) (ps := ["draw", "many"]) X G (d.fact 17 (f := .glo "_law_put_together") rfl) F17 fun _ _ _ _ _ _ us hl => match us, hl with | [_, _], _ => rfl
  have D__law_common := df (x := "_law_common") (st := topS 26) (ps := ["sizes"]) X G (d.fact 18 (f := .glo "_law_common") rfl) F18 fun _ _ _ _ _ _ us hl => match us, hl with | [_], _ => rfl
  have x := c.more
  have x0 := x
  have g_lcm : mg "lcm" = some (.builtin "math.lcm") := PySem.W.mg_of X G (He.eqO_ok x0)
  have e := hfa.symm.trans (He.glo_ok X G (d.fact 19 (f := .glo "law") rfl))
  cases e
  have La : Fun K "law" "law" (topS 27) _ fd := fun_of F19
  have bl : Bl mg := ⟨He.free_ok X G (d.fact 21 (f := .free "max") rfl), He.free_ok X G (d.fact 22 (f := .free "min") rfl), He.free_ok X G (d.fact 23 (f := .free "len") rfl), He.free_ok X G (d.fact 24 (f := .free "range") rfl), He.free_ok X G (d.fact 25 (f := .free "type") rfl), He.free_ok X G (d.fact 26 (f := .free "int") rfl), He.free_ok X G (d.fact 27 (f := .free "list") rfl), He.free_ok X G (d.fact 28 (f := .free "tuple") rfl), He.free_ok X G (d.fact 29 (f := .free "dict") rfl), He.free_ok X G (d.fact 30 (f := .free "bool") rfl), He.free_ok X G (d.fact 31 (f := .free "abs") rfl), He.free_ok X G (d.fact 32 (f := .free "sorted") rfl), He.free_ok X G (d.fact 33 (f := .free "enumerate") rfl), He.free_ok X G (d.fact 34 (f := .free "isinstance") rfl), He.free_ok X G (d.fact 35 (f := .free "repr") rfl), He.free_ok X G (d.fact 36 (f := .free "str") rfl), He.free_ok X G (d.fact 37 (f := .free "all") rfl), He.free_ok X G (d.fact 38 (f := .free "any") rfl), He.free_ok X G (d.fact 39 (f := .free "zip") rfl), He.free_ok X G (d.fact 40 (f := .free "reversed") rfl), He.free_ok X G (d.fact 41 (f := .free "sum") rfl), He.free_ok X G (d.fact 42 (f := .free "set") rfl), He.free_ok X G (d.fact 43 (f := .free "ValueError") rfl)⟩
  have g_MOST := He.int_ok X G (d.fact 20 (f := .int "MOST" 400) rfl)
  refine ⟨fd, fun s v => FunD.bindsA (x := "law") (qual := "law") (params := defArgs (topS 27)) (body := defBody (topS 27)) (scope := defScope (topS 27)) (ps := ["script"]) F19 (fun _ _ _ _ _ _ us hl => match us, hl with | [_], _ => rfl) s [v] rfl, fun base _ _ => ?_⟩
  have GT := ok_turn (P := P) (w := w) (base := base) D_is_turn.F bl D_is_number D_is_letter D__is_many g_MOST
  have GX : FnOk P w K mg base CX0 2 _ _ ["draw", "size"] (spNext K) := ok_next D__law_next.F bl D__law_mixed
  have GR : FnOk P w K mg base CX0 4 _ _ ["thing"] (spRef K) := ok_ref D_refuse_no_turn.F bl D_is_turn GT
  have GGo : FnOk P w K mg base CX0 1 _ _ ["turn", "letter"] (spGoes K) := ok_goes D_goes.F bl
  have GRo : FnOk P w K mg base CX0 2 _ _ ["turn", "first"] (spRo K) := ok_ro D__round_of.F bl D_goes GGo
  have GRd : FnOk P w K mg base CX0 5 _ _ ["turn"] (spRd K) := ok_rd D_rounds.F bl D_refuse_no_turn GR D_goes GGo D__round_of GRo
  have GOr : FnOk P w K mg base CX0 6 _ _ ["turn"] (spOr K) := ok_or D_order.F bl g_lcm D_rounds GRd
  have GLr : FnOk P w K mg base CX0 2 _ _ ["turn"] (spLR K) := ok_lr D__law_rounds.F bl D__law_goes
  have GCm : FnOk P w K mg base CX0 1 _ _ ["sizes"] (spCm K) := ok_cm D__law_common.F
  have GPT : FnOk P w K mg base CX0 3 _ _ ["draw", "many"] (spPT K) := ok_pt D__law_put_together.F bl D__law_next GX
  have GTh : FnOk P w K mg base CX0 5 _ _ ["one", "other"] (spThen K) := ok_then D_then.F bl D_refuse_no_turn GR D_led_on D_table_of
  have GS : FnOk P w K mg base CX0 1 _ _ ["many"] spStill := ok_still D_still.F bl
  exact ok_law La bl D__law_next GX D__law_put_together GPT D__law_common GCm D_order GOr D_rounds GRd D__law_rounds GLr D_still GS D_then GTh
end
end Toy

-- part: LZ
open PySem PySem.W PySem.Calls PyProof.Rows
theorem PySem.Challenge.cw_turnless_k11_rounds_and_how_often_holds : PySem.Challenge.rw_turnless_k11_rounds_and_how_often.Holds := by
  w_on; o_law
  refine HandSHeadRun.head_imp (r := Toy.R) (q := view Toy.R.prog [0, 27]) (H := Toy.hk) (ob := Toy.ob) (M := 8000) (loose := Toy.loose) (d := HandSHeadRun.topDef Toy.R.prog 27) (kwd := []) Toy.ob_eq
    Toy.run (by kernel_rfl) (by kernel_rfl) (by kernel_rfl) (by rfl) (by first | assumption | decide +kernel) (by decide +kernel) ⟨rfl, rfl, rfl, rfl, rfl, by decide +kernel⟩ ?hw ?hc
  case hw => w_witness2
  case hc =>
    refine Toy.walkN (l := PySem.Challenge.rw_turnless_k11_rounds_and_how_often) (n := 63) (k := 7) (x := "script") rfl (by decide) (by kernel_rfl) ⟨rfl, by decide, by decide⟩ ?F
    intro w mg fa h Y G hmg0
    obtain ⟨K, KX, c⟩ := Y
    have hmg : mg ("law" : PySem.Str) = some (.ref fa) := by
      have e : (HandSHeadRun.topDef Toy.R.prog 27).name = ("law" : PySem.Str) := by kernel_rfl
      rw [← e]
      exact hmg0
    obtain ⟨fd, hb, hF⟩ := Toy.facts (P := (PySem.Challenge.rw_turnless_k11_rounds_and_how_often).prog) (w := w) KX G hmg c
    exact ⟨K, fd, _, KX, hb, fun H a ns hl hS => ⟨a, ns, rfl, hS, hl, fun _ => rfl⟩, hF⟩

